/-
  ShelfDrops, walked: it answers true, and nothing that was there turns.
-/
import Derived.Test.YtacdbfaoeioflaaGreatDoorPlate9
import Derived.Test.YtacdbfaoeioflaaGreatDoorDrop9
import Derived.Test.YtacdbfaoeioflaaGreatDoorRparse
import Derived.BigQuiet
namespace Go.Proofs.YtacdbfaoeioflaaGreatDoor
open Go.RowKit Go.PlainAid

/-! ### what stays of a list -/
def keepL (id : Int) (l : List Bk) : List Bk := l.filter fun b => decide (b.id ≠ id)
theorem keepL_snoc (id : Int) (l : List Bk) (x : Bk) : keepL id (l ++ [x]) = if x.id = id then keepL id l else keepL id l ++ [x] := by
  unfold keepL
  rw [List.filter_append]
  by_cases h : x.id = id <;> simp [h]
theorem keepL_step {id : Int} {l : List Bk} {i : Nat} {x : Bk} (h : l[i]? = some x) : (x.id = id → keepL id (l.take (i + 1)) = keepL id (l.take i)) ∧ (x.id ≠ id → (keepL id (l.take (i + 1))).length = (keepL id (l.take i)).length + 1 ∧ (keepL id l)[(keepL id (l.take i)).length]? = some x) := by
  have ht : l.take (i + 1) = l.take i ++ [x] := take_snocB _ _ _ h
  refine ⟨fun e => by rw [ht, keepL_snoc, if_pos e], fun e => ⟨by rw [ht, keepL_snoc, if_neg e]; simp, ?_⟩⟩
  have h2 : keepL id l = keepL id (l.take (i + 1)) ++ keepL id (l.drop (i + 1)) := by unfold keepL; rw [← List.filter_append, List.take_append_drop]
  rw [h2, ht, keepL_snoc, if_neg e, List.append_assoc, List.getElem?_append_right (Nat.le_refl _), Nat.sub_self]
  rfl
theorem list_keep {L : Lay} (hG : GoodL L) (id : Int) : listL (woL L id) = keepL id (listL L) := list_wo hG id
theorem gone_get {L : Lay} (hG : GoodL L) (id : Int) : getE (woL L id) id = 3 := by unfold getE; rw [getL_wo hG, if_pos rfl]; rfl
theorem wo_wo (L : Lay) (id : Int) : woL (woL L id) id = woL L id := by
  unfold woL
  rw [List.map_map]
  congr 1
  funext o
  cases o with
  | none => rfl
  | some b => by_cases h : b.id = id <;> simp [hasId, h]
/-- A block of a number that is not there is put, or refused for itself, or there is no room. -/
theorem put_gone {s : St} {L : Lay} {n k : Nat} (h : Sound s L n k) {b : Bk} (hg : getL L b.id = none) : putE L s b = refE b 1 ∨ (putE L s b = 2 ∧ refE b 1 = 0) := by
  rw [(h.live.put (by rw [h.len, h.rest.len]) b).1]
  have hn : newer L b = true := by unfold newer; rw [hg]
  unfold preE
  by_cases h1 : refE b 1 ≠ 0
  · rw [if_pos h1]; exact .inl rfl
  · rw [if_neg h1, if_neg (by simp), hn, if_neg (by simp)]
    by_cases h2 : low L = L.length
    · rw [if_pos h2]; exact .inr ⟨rfl, by omega⟩
    · rw [if_neg h2]; exact .inl (by omega)
section
variable {w0 w : World} {sb mb pb : Nat} {s : St} {L : Lay} {odd : List Nat} {lost : Bool} {O : Nat → Prop}
theorem so_drop (h : Solo w0 w sb mb pb s L odd lost O) (hT : Tab w0) {n k : Nat} (hR : Rest s n k) (hk : k ≤ 900000) (hlost : lost = true → s.gone = true) {id : Int} (hid : i64 id) :
    Calls Tryz.prog 21 #[.pointer (some ⟨sb, 0, none⟩), .int .i64 id] w fun e w' => e = .returned (.int .i64 (dropE s id)) ∧ Solo w0 w' sb mb pb (dropS s id) (dropY L s id) odd lost O ∧ Kept O w w' := by
  obtain ⟨F, h1, h2, h3⟩ := h.go hT
  exact (sdrop_any h1 (h.tab hT) h2 hR hk hlost hid).mono fun e w' ⟨he, hg⟩ => ⟨he, h3 _ _ _ _ _ _ _ hg⟩
end
set_option maxRecDepth 100000 in
set_option maxHeartbeats 8000000 in
theorem drops_in (m : Nat) (A : Option Addr) (n c : Nat) (bs : Nat → Bk) (id : Int) (b : Bk) (w : World) (hT : Tab w) (hm : m < 256) (hS : BIn w A n bs) (hn : n ≤ 60) (hd : b.data.size ≤ 100) (hid : i64 id) :
    Calls Tryz.prog 6 #[.int .u8 m, .slice A n c, .int .i64 id, b.val] w fun e w' => e = .returned (.bool true) ∧ Below w.heap.size w w' := by
  have hba : Below w.heap.size w (w.alloc (.cells b.cells 37)) := (Below.refl _ _).alloc (Nat.le_refl _) _
  have BA := Lib.hid hba
  have A0 := Lib.hid (AB.fresh w b)
  have HB := Lib.hid hS
  have HT := Lib.hid hT
  have Hid := Lib.hid hid
  have HSh := Lib.hid (fun w (T : Tab w) => shown_any (w := w) T)
  have T0 := Lib.hid (hT.below hba)
  have hnI : ¬ (60 : Int) < (n : Int) := by omega
  have hdI : ¬ (100 : Int) < (b.data.size : Int) := by omega
  have hm8 : IntKind.i64.wrap (m : Int) = (m : Int) := IntWalk.i64_in _ (by omega)
  clear hS hT hba hd hid
  obtain ⟨d0, d1, d2⟩ := A0.out.all
  go_enter Tryz.func6, Tryz.ntmps6
  go_wp2_with fail
  generalize w.alloc (.cells #[.int .i64 b.id, .int .i64 b.ver, .string b.data] 37) = w1 at *
  go_at_call 8
  refine (HSh.out w1 T0.out).mono ?_
  rintro e w2 ⟨rfl, k1⟩
  have B2 := Lib.hid (BA.out.trans (k1.mono BA.out.size))
  have A2 := Lib.hid (A0.out.below k1)
  clear k1 BA A0 T0 d0 d1 d2
  go_wp2_with fail
  go_at_call 9
  refine (plo_new (w0 := w) (O := fun k => k = w.heap.size) B2.out _ (fun k hk => by have := A2.out.lt; omega)).mono ?_
  rintro e w3 ⟨pb, rfl, k1, k2⟩
  have P3 := Lib.hid k1
  have A3 := Lib.hid (A2.out.keptO k2 rfl)
  clear k1 k2 A2 B2
  generalize 4 + (m : Int) % 12 = q at P3 ⊢
  go_wp2_with fail
  go_at_call 11
  refine (plo_open P3.out HT.out (Good.fresh q) rfl (n := size0 q) (by simp [fresh])).mono ?_
  rintro e w4 ⟨sb, mb, rfl, k1, k2⟩
  have h10 : Sound (fresh q) (List.replicate (size0 q) none) (size0 q) 0 := Sound.fresh q
  obtain ⟨o1, o2⟩ := h10.opens
  rw [o1, o2] at k1
  have S4 := Lib.hid k1
  have D4 := Lib.hid h10
  have A4 := Lib.hid (A3.out.keptO k2 rfl)
  have hN := (size0_in q).2
  generalize size0 q = N at S4 D4 hN
  clear k1 k2 o1 o2 h10 P3 A3
  go_wp2
  go_loopw [12] (fun iv wr => ∃ (i : Nat) (s : St) (L : Lay) (k : Nat), i ≤ n ∧ iv = .int .i64 i ∧ Sound s L N k ∧ k ≤ 4 * i ∧ Solo w wr sb mb pb s L [] false (fun k => k = w.heap.size) ∧ AB wr w.heap.size b) (fun iv _ => n - (RowKit.intOf iv).toNat)
  case atStart => exact ⟨0, _, _, 0, Nat.zero_le _, rfl, D4.out, Nat.zero_le _, S4.out, A4.out⟩
  case round =>
    obtain ⟨i, s, L, k, hi, rfl, hD, hk, hS, hA⟩ := hrel
    have HD := Lib.hid hD
    have HS := Lib.hid hS
    have HA := Lib.hid hA
    clear hD hS hA S4 D4 A4
    by_cases hlt : i < n
    · obtain ⟨g, off, rfl, hc⟩ := HB.out.cells HS.out.bel hlt
      have hidx := Lib.hid (HB.out.id i hlt)
      obtain ⟨x, hx⟩ : ∃ x, bs i = x := ⟨_, rfl⟩
      rw [hx] at hidx hc
      have hlI : (i : Int) < (n : Int) := by omega
      have hiI : (0 : Int) ≤ (i : Int) := by omega
      clear hx HB
      obtain ⟨q0, q1, q2⟩ := hc
      by_cases hd : 100 < x.data.size
      · have hdI : (100 : Int) < (x.data.size : Int) := by omega
        clear hd
        go_wp2_with fail
        go_at_call 8
        refine (HSh.out _ (HS.out.tab HT.out)).mono ?_
        rintro e w5 ⟨rfl, k1⟩
        have B5 := Lib.hid (HS.out.bel.trans (k1.mono HS.out.bel.size))
        clear k1
        go_wp2
        go_ret
        exact ⟨rfl, B5.out⟩
      · have hdI : ¬ (100 : Int) < (x.data.size : Int) := by omega
        clear hd HSh
        go_wp2_with fail
        go_at_call 13
        refine Calls.mono (show Calls Tryz.prog 13 #[.pointer (some ⟨sb, 0, none⟩), .agg #[.int .i64 x.id, .int .i64 x.ver, .string x.data]] wr _ from so_put HS.out HT.out HD.out.rest (by omega) (fun h => by cases h) HD.out.len hidx.out) ?_
        rintro e w5 ⟨rfl, k1, k2⟩
        have hnl : lostP false (putE L s x) = false := by unfold lostP; rw [decide_eq_false (put_e HD.out x)]; rfl
        rw [hnl] at k1
        have S5 := Lib.hid k1
        have A5 := Lib.hid (HA.out.keptO k2 rfl)
        have D5 := Lib.hid (HD.out.put x)
        generalize putE L s x = pe
        clear k1 k2 hnl q0 q1 q2 HS HA HD
        go_wp2
        go_roundw
        case rel => exact ⟨i + 1, _, _, k + 4, by omega, by go_num, D5.out, by omega, S5.out, A5.out⟩
        case measure => simp only [RowKit.intOf]; omega
    · obtain rfl : i = n := by omega
      have hlI : ¬ ((i : Int) < (i : Int)) := by omega
      clear HSh HB
      go_wp2_with fail
      go_at_call 30
      refine (so_list HS.out).mono ?_
      rintro e w6 ⟨v6, rfl, k1, k2⟩
      have V6 := Lib.hid k1
      have A6 := Lib.hid (HA.out.below k2)
      have S6 := Lib.hid (HS.out.below k2).1
      have BR6 := Lib.hid k2
      clear k1 k2
      go_wp2_with fail
      go_at_call 27
      refine (so_get S6.out Hid.out).mono ?_
      rintro e w7 ⟨rfl, k1⟩
      obtain ⟨old, hold⟩ : ∃ x, getB L id = x := ⟨_, rfl⟩
      obtain ⟨had, hhad⟩ : ∃ x, getE L id = x := ⟨_, rfl⟩
      rw [hold, hhad]
      obtain ⟨e1, e2, e3⟩ := HD.out.drop id
      have HDr := Lib.hid (show dropE s id = had from e1.trans hhad)
      have HDy := Lib.hid e3
      have D7 := Lib.hid e2
      have kx : Below w7.heap.size w7 (w7.alloc (.cells old.cells 37)) := (Below.refl _ _).alloc (Nat.le_refl _) _
      have ky := k1.trans (kx.mono k1.size)
      have BR8 := Lib.hid (BR6.out.trans (ky.mono BR6.out.size))
      have A8 := Lib.hid (A6.out.below ky)
      have V8 := Lib.hid (OwnsB.below ky V6.out)
      have S8 := Lib.hid (HS.out.news BR8.out)
      have HS9 := Lib.hid HS.out.bel.size
      have HG := Lib.hid HD.out.fit.good
      have hl0 : (listL L).length ≤ 128 := by rw [list_length HG.out]; have := cnt_le L; have := HG.out.hi; omega
      clear k1 kx ky V6 A6 BR6 S6 hold hhad e1 e2 e3 HS HA
      go_wp2_with fail
      generalize w7.alloc (.cells #[.int .i64 old.id, .int .i64 old.ver, .string old.data] 37) = w8 at *
      have HVl := Lib.hid (fun g' (hg : v6.ownBlock = some g') => V8.out.lt hg)
      go_at_call 21
      refine (so_drop S8.out HT.out HD.out.rest (by omega) (fun h => by cases h) Hid.out).mono ?_
      rintro e w9 ⟨rfl, k1, k2⟩
      rw [HDy.out] at k1
      rw [HDr.out]
      have S9 := Lib.hid k1
      have A9 := Lib.hid (A8.out.keptO k2 (.inl rfl))
      have V9 := Lib.hid (V8.out.kept fun g' hg => k2 g' (.inr ⟨(V8.out.lt hg).1, (V8.out.lt hg).2⟩))
      clear k1 k2 S8 A8 V8 BR8 HDr HDy HD
      generalize dropS s id = s9 at S9 D7
      go_wp2_with fail
      go_at_call 21
      obtain ⟨e1, e2, e3⟩ := D7.out.drop id
      have HDr := Lib.hid (show dropE s9 id = 3 from by rw [e1, getL_wo HG.out, if_pos rfl]; rfl)
      have HDy := Lib.hid (show dropY (woL L id) s9 id = woL L id from e3.trans (wo_wo L id))
      have D10 := Lib.hid (show Sound (dropS s9 id) (woL L id) N (k + N + 1 + N + 1) from by have := e2; rwa [wo_wo] at this)
      clear e1 e2 e3
      refine (so_drop S9.out HT.out D7.out.rest (by omega) (fun h => by cases h) Hid.out).mono ?_
      rintro e w10 ⟨rfl, k1, k2⟩
      rw [HDy.out] at k1
      rw [HDr.out]
      have S10 := Lib.hid k1
      have A10 := Lib.hid (A9.out.keptO k2 (.inl rfl))
      have V10 := Lib.hid (V9.out.kept fun g' hg => k2 g' (.inr (HVl.out g' hg)))
      clear k1 k2 S9 A9 V9 HDr HDy D7
      generalize dropS s9 id = s10 at S10 D10
      have HSz := Lib.hid (show w.heap.size ≤ wr.heap.size from HS9.out)
      obtain ⟨l0, hl0e⟩ : ∃ l, listL L = l := ⟨_, rfl⟩
      have HKl := Lib.hid (show listL (woL L id) = keepL id l0 from by rw [← hl0e]; exact list_keep HG.out id)
      have HGo := Lib.hid (gone_get HG.out id)
      have HGn := Lib.hid (show getL (woL L id) id = none from by rw [getL_wo HG.out, if_pos rfl])
      rw [hl0e] at hl0 V10
      clear hl0e HG
      obtain ⟨A6, c6, rfl, -⟩ := bshape V10.out
      have S11 := Lib.hid (S10.out.less (O' := fun q => q = w.heap.size ∨ (Value.slice A6 l0.length c6).ownBlock = some q) fun q hq => by
        rcases hq with rfl | hq
        · exact .inl rfl
        · exact .inr (HVl.out q hq))
      have hKb : k + N + 1 + N + 1 ≤ 890000 := by omega
      generalize k + N + 1 + N + 1 = K at D10 hKb
      generalize woL L id = L1 at *
      obtain ⟨B0, hB0⟩ : ∃ x, wr.heap.size = x := ⟨_, rfl⟩
      rw [hB0] at V10 HSz
      clear hB0
      clear S10 HVl hk
      go_wp2
      go_loopw [10, 16] (fun sv kv wz => ∃ (kk : Nat) (s : St) (sb mb : Nat), kk ≤ 2 ∧ kv = .int .i64 kk ∧ sv = .pointer (some ⟨sb, 0, none⟩) ∧ Sound s L1 N K ∧ Solo w wz sb mb pb s L1 [] false (fun q => q = w.heap.size ∨ (Value.slice A6 l0.length c6).ownBlock = some q) ∧ AB wz w.heap.size b ∧ OwnsB 37 wz B0 (.slice A6 l0.length c6) l0) (fun _ kv _ => 2 - (RowKit.intOf kv).toNat)
      case atStart => exact ⟨0, _, _, _, by omega, rfl, rfl, D10.out, S11.out, A10.out, V10.out⟩
      case round =>
        obtain ⟨kk, s, sb, mb, hkk, rfl, rfl, hD, hS, hA, hV⟩ := hrel
        have HD := Lib.hid hD
        have HS := Lib.hid hS
        have HA := Lib.hid hA
        have HV := Lib.hid hV
        clear hD hS hA hV S11 D10 A10 V10
        by_cases hk2 : kk < 2
        · have hkI : (kk : Int) < 2 := by omega
          go_wp2_with fail
          go_at_call 27
          refine (so_get HS.out Hid.out).mono ?_
          rintro e w20 ⟨rfl, k1⟩
          rw [HGo.out]
          generalize getB L1 id = now
          have kx : Below w20.heap.size w20 (w20.alloc (.cells now.cells 37)) := (Below.refl _ _).alloc (Nat.le_refl _) _
          have ky := k1.trans (kx.mono k1.size)
          have S21 := Lib.hid (HS.out.below ky).1
          have A21 := Lib.hid (HA.out.below ky)
          have V21 := Lib.hid (OwnsB.below ky HV.out)
          clear k1 kx ky HS HA HV
          go_wp2_with fail
          generalize w20.alloc (.cells #[.int .i64 now.id, .int .i64 now.ver, .string now.data] 37) = w21 at *
          go_at_call 30
          refine (so_list S21.out).mono ?_
          rintro e w22 ⟨v22, rfl, k1, k2⟩
          rw [HKl.out] at k1
          have S22 := Lib.hid (S21.out.below k2).1
          have A22 := Lib.hid (A21.out.below k2)
          have V22 := Lib.hid (OwnsB.below k2 V21.out)
          obtain ⟨A7, c7, rfl, hsh7⟩ := bshape k1
          have HSh7 := Lib.hid hsh7
          obtain ⟨A6', c6', heq6, hsh6⟩ := bshape V22.out
          cases heq6
          have HSh6 := Lib.hid hsh6
          have hl7 : (keepL id l0).length ≤ l0.length := List.length_filter_le _ _
          clear k1 k2 hsh7 hsh6 S21 A21 V21
          go_wp2
          go_loopw [20, 21] (fun av iv wQ => ∃ i : Nat, i ≤ l0.length ∧ iv = .int .i64 i ∧ av = .int .i64 ((keepL id (l0.take i)).length : Int) ∧ Below w22.heap.size w22 wQ) (fun _ iv _ => l0.length - (RowKit.intOf iv).toNat)
          case atStart => exact ⟨0, Nat.zero_le _, rfl, rfl, Below.refl _ _⟩
          case round =>
            obtain ⟨i, hi, rfl, rfl, hb⟩ := hrel
            have HBx := Lib.hid hb
            clear hb
            by_cases hil : i < l0.length
            · obtain ⟨x, hx⟩ : ∃ x, l0[i]? = some x := ⟨_, List.getElem?_eq_getElem hil⟩
              obtain ⟨hs1, hs2⟩ := keepL_step (id := id) hx
              obtain ⟨g, rfl, hg, hat⟩ := HSh6.out i x hx
              have HAt := Lib.hid (fun wq (hq : Below w22.heap.size w22 wq) => hat.below hq hg)
              obtain ⟨q0, q1, q2⟩ := HAt.out _ HBx.out
              have hiI : (i : Int) < (l0.length : Int) := by omega
              have hi0 : (0 : Int) ≤ (i : Int) := by omega
              clear hx hat
              by_cases hxi : x.id = id
              · have H1 := Lib.hid (show (keepL id (l0.take (i + 1))).length = (keepL id (l0.take i)).length from by rw [hs1 hxi])
                have ht : (x.id == id) = true := by simp [hxi]
                clear hs1 hs2 hxi
                generalize (keepL id (l0.take i)).length = a at H1
                go_wp2
                go_roundw
                case rel => exact ⟨i + 1, by omega, by go_num, by rw [H1.out], HBx.out⟩
                case measure => simp only [RowKit.intOf]; omega
              · obtain ⟨h1, h2⟩ := hs2 hxi
                have H1 := Lib.hid h1
                have ht : (x.id == id) = false := by simp [hxi]
                obtain ⟨ha, -⟩ := List.getElem?_eq_some_iff.1 h2
                obtain ⟨g7, rfl, hg7, hat7⟩ := HSh7.out _ x h2
                clear hs1 hs2 hxi h1 h2
                generalize (keepL id (l0.take i)).length = a at H1 ha hat7
                have hbd : Below wr.heap.size wr wr.drew := (Below.refl _ wr).drew
                obtain ⟨r0, r1, r2⟩ := (hat7.below HBx.out hg7).below hbd (Nat.lt_of_lt_of_le hg7 HBx.out.size)
                obtain ⟨p0, p1, p2⟩ := HAt.out _ (HBx.out.trans (hbd.mono HBx.out.size))
                have BD := Lib.hid (HBx.out.trans (hbd.mono HBx.out.size))
                have hge : decide (((keepL id l0).length : Int) ≤ (a : Int)) = false := decide_eq_false (by omega)
                have hge2 : ¬ ((keepL id l0).length : Int) ≤ (a : Int) := by omega
                have hge3 : decide ((keepL id l0).length ≤ a) = false := decide_eq_false (by omega)
                have ha0 : (0 : Int) ≤ (a : Int) := by omega
                have haI : (a : Int) < ((keepL id l0).length : Int) := by omega
                have haw : IntKind.i64.wrap ((a : Int) + 1) = (a : Int) + 1 := IntWalk.i64_in _ (by omega)
                have hne := bk_neq x x
                rw [decide_eq_true rfl] at hne
                clear hat7 hbd
                generalize (keepL id l0).length = n7 at *
                go_wp2_with fail
                go_region
                all_goals
                  go_wp2
                  go_roundw
                  case rel => exact ⟨i + 1, by omega, by go_num, by rw [H1.out]; go_num, BD.out⟩
                  case measure => simp only [RowKit.intOf]; omega
            · obtain rfl : i = l0.length := by omega
              have hil' : ¬ ((l0.length : Int) < (l0.length : Int)) := by omega
              have htk : keepL id (l0.take l0.length) = keepL id l0 := by rw [List.take_length]
              rw [htk]
              clear htk hil hi
              have S23 := Lib.hid (S22.out.below HBx.out).1
              have A23 := Lib.hid (A22.out.below HBx.out)
              have V23 := Lib.hid (OwnsB.below HBx.out V22.out)
              clear S22 A22 V22 HSh6 HSh7
              go_wp2_with fail
              go_at_call 23
              refine Calls.mono (show Calls Tryz.prog 23 #[.pointer (some ⟨pb, 0, none⟩), .int .u64 0] wr _ from so_crash S23.out HD.out.rest.good (by rw [HD.out.rest.wait]; exact Nat.zero_le _) (keep := 0) (by omega)) ?_
              rintro e w24 ⟨rfl, k1, k2⟩
              have S24 := Lib.hid k1
              have A24 := Lib.hid (A23.out.keptO k2 (.inl rfl))
              have V24 := Lib.hid (V23.out.kept fun g' hg => k2 g' (.inr hg))
              clear k1 k2 S23 A23 V23
              go_wp2_with fail
              go_at_call 25
              refine (so_power S24.out).mono ?_
              rintro e w25 ⟨rfl, k1, k2⟩
              have S25 := Lib.hid k1.plate
              have A25 := Lib.hid (A24.out.keptO k2 (.inl rfl))
              have V25 := Lib.hid (V24.out.kept fun g' hg => k2 g' (.inr hg))
              have D25 := Lib.hid (HD.out.again 0).1
              generalize power (crash s 0) = s25 at S25 D25
              clear k1 k2 S24 A24 V24
              go_wp2_with fail
              go_at_call 11
              refine (plo_open S25.out HT.out D25.out.rest.good D25.out.live.1 D25.out.rest.len).mono ?_
              rintro e w26 ⟨sb', mb', rfl, k1, k2⟩
              obtain ⟨o1, o2⟩ := D25.out.opens
              rw [o1, o2] at k1
              have S26 := Lib.hid k1
              have A26 := Lib.hid (A25.out.keptO k2 (.inl rfl))
              have V26 := Lib.hid (V25.out.kept fun g' hg => k2 g' (.inr hg))
              clear k1 k2 o1 o2 S25 A25 V25
              go_wp2
              go_roundw
              case rel => exact ⟨kk + 1, _, sb', mb', by omega, by go_num, rfl, D25.out, S26.out, A26.out, V26.out⟩
              case measure => simp only [RowKit.intOf]; omega
        · obtain rfl : kk = 2 := by omega
          have hk0 : ¬ (((2 : Nat) : Int) < 2) := by omega
          obtain ⟨d0, d1, d2⟩ := HA.out.all
          obtain ⟨f0, -, -⟩ := HA.out.frees
          have hA' : AB (wr.setCell ⟨w.heap.size, 0, none⟩ (.int .i64 id)) w.heap.size ⟨id, b.ver, b.data⟩ := by
            have := HA.out
            unfold AB at this ⊢
            simp [World.setCell, Array.getElem?_modify, this]
          have A30 := Lib.hid hA'
          have S30 := Lib.hid (HS.out.turn (w' := wr.setCell ⟨w.heap.size, 0, none⟩ (.int .i64 id)) (O' := fun q => q = w.heap.size) ((Keeps.refl _ wr).set (b := w.heap.size) (o := 0) (.inl (.inl rfl)) _) (fun q hq => by
            rcases hq with rfl | hq
            · exact Nat.le_refl _
            · exact Nat.le_trans HSz.out (HV.out.lt hq).1) (fun q hq => .inl (.inl hq)) (fun q hq => by rw [hq]; exact hA'.lt))
          clear hA'
          go_wp2_with fail
          generalize wr.setCell ⟨w.heap.size, 0, none⟩ (.int .i64 id) = w30 at *
          clear d0 d1 d2 f0
          go_at_call 37
          refine Calls.mono (show Calls Tryz.prog 37 #[.agg #[.int .i64 id, .int .i64 b.ver, .string b.data], .int .i64 1] w30 _ from rrec_any ⟨id, b.ver, b.data⟩ 1 w30) ?_
          rintro e w31 ⟨rfl, k1⟩
          have S31 := Lib.hid (S30.out.below k1).1
          have A31 := Lib.hid (A30.out.below k1)
          obtain ⟨d0, d1, d2⟩ := A31.out.all
          have hpg := put_gone HD.out (b := ⟨id, b.ver, b.data⟩) HGn.out
          have HPt := Lib.hid (so_put (b := ⟨id, b.ver, b.data⟩) S31.out HT.out HD.out.rest (by omega) (fun h => by cases h) HD.out.len Hid.out)
          obtain ⟨may, hmay⟩ : ∃ x, refE ⟨id, b.ver, b.data⟩ 1 = x := ⟨_, rfl⟩
          obtain ⟨pe, hpe⟩ : ∃ x, putE L1 s ⟨id, b.ver, b.data⟩ = x := ⟨_, rfl⟩
          rw [hmay, hpe] at hpg
          rw [hpe] at HPt
          rw [hmay]
          clear k1 S30 A30 hmay hpe
          go_wp2_with fail
          go_at_call 13
          refine Calls.mono (show Calls Tryz.prog 13 #[.pointer (some ⟨sb, 0, none⟩), .agg #[.int .i64 id, .int .i64 b.ver, .string b.data]] w31 _ from HPt.out) ?_
          rintro e w32 ⟨rfl, k1, -⟩
          have B32 := Lib.hid k1.bel
          clear k1 HPt
          rcases hpg with rfl | ⟨rfl, rfl⟩
          · go_wp2
            go_ret
            exact ⟨rfl, B32.out⟩
          · go_wp2
            go_ret
            exact ⟨rfl, B32.out⟩
set_option maxRecDepth 100000 in
set_option maxHeartbeats 2000000 in
theorem drops_out9 (m : Nat) (A : Option Addr) (n c : Nat) (id : Int) (b : Bk) (w : World) (hT : Tab w) (h : 60 < n ∨ 100 < b.data.size) :
    Calls Tryz.prog 6 #[.int .u8 m, .slice A n c, .int .i64 id, b.val] w fun e w' => e = .returned (.bool true) ∧ Below w.heap.size w w' := by
  have hba : Below w.heap.size w (w.alloc (.cells b.cells 37)) := (Below.refl _ _).alloc (Nat.le_refl _) _
  have BA := Lib.hid hba
  have A0 := Lib.hid (AB.fresh w b)
  have HSh := Lib.hid (shown_any (hT.below hba))
  obtain ⟨d0, d1, d2⟩ := A0.out.all
  by_cases hn : 60 < n
  · have hnI : (60 : Int) < (n : Int) := by omega
    clear h hn hT hba
    go_enter Tryz.func6, Tryz.ntmps6
    go_wp2_with fail
    go_at_call 8
    refine HSh.out.mono ?_
    rintro e w2 ⟨rfl, k1⟩
    have B2 := Lib.hid (BA.out.trans (k1.mono BA.out.size))
    clear k1
    go_wp2
    go_ret
    exact ⟨rfl, B2.out⟩
  · have hd := h.resolve_left hn
    have hnI : ¬ (60 : Int) < (n : Int) := by omega
    have hdI : (100 : Int) < (b.data.size : Int) := by omega
    clear h hn hT hba hd
    go_enter Tryz.func6, Tryz.ntmps6
    go_wp2_with fail
    go_at_call 8
    refine HSh.out.mono ?_
    rintro e w2 ⟨rfl, k1⟩
    have B2 := Lib.hid (BA.out.trans (k1.mono BA.out.size))
    clear k1
    go_wp2
    go_ret
    exact ⟨rfl, B2.out⟩
theorem shelfDrops_any (m : Nat) (A : Option Addr) (n c : Nat) (bs : Nat → Bk) (id : Int) (b : Bk) (w : World) (hT : Tab w) (hm : m < 256) (hS : BIn w A n bs) (hid : i64 id) :
    Calls Tryz.prog 6 #[.int .u8 m, .slice A n c, .int .i64 id, b.val] w fun e w' => e = .returned (.bool true) ∧ Below w.heap.size w w' := by
  by_cases h : 60 < n ∨ 100 < b.data.size
  · exact drops_out9 m A n c id b w hT h
  · exact drops_in m A n c bs id b w hT hm hS (by omega) (by omega) hid
end Go.Proofs.YtacdbfaoeioflaaGreatDoor
