/-
  Choose (package ballot), by a contract; the vote that is to be chosen, as plain data.
-/
import Derived.Test.YtacbodojbekeeaaDoorOpenS
import Derived.Test.YtacbodojbekeeaaDoorAcp2
import Derived.Deep.LoopGhost
import Derived.Deep.CutBlock
import Derived.Deep.DeepCutAuto
namespace Go.Proofs.YtacbodojbekeeaaDoor
open Go.RowKit

/-- One more vote is looked at. -/
def stepC (sl : Int) (o : Option V) (v : V) : Option V :=
  if v.s = sl then (match o with | none => some v | some u => if u.b < v.b then some v else o) else o
/-- The first vote of that slot that has the highest ballot. -/
def cho (l : List V) (sl : Int) : Option V := l.foldl (stepC sl) none
theorem cho_snoc (l : List V) (v : V) (sl : Int) : cho (l ++ [v]) sl = stepC sl (cho l sl) v := by
  unfold cho; rw [List.foldl_append]; rfl
theorem stepC_up {sl : Int} {o : Option V} {v u : V} (h : o = some u) : ∃ x, stepC sl o v = some x ∧ u.b ≤ x.b := by
  subst h
  unfold stepC
  split
  · simp only
    split
    · rename_i h; exact ⟨v, rfl, by omega⟩
    · exact ⟨u, rfl, Int.le_refl _⟩
  · exact ⟨u, rfl, Int.le_refl _⟩
theorem stepC_self {sl : Int} {o : Option V} {v : V} (h : v.s = sl) : ∃ x, stepC sl o v = some x ∧ v.b ≤ x.b := by
  unfold stepC
  rw [if_pos h]
  cases o with
  | none => exact ⟨v, rfl, Int.le_refl _⟩
  | some u =>
    simp only
    split
    · exact ⟨v, rfl, Int.le_refl _⟩
    · rename_i h; exact ⟨u, rfl, by omega⟩
theorem fold_max (sl : Int) : ∀ (l : List V) (o : Option V), (∀ u, o = some u → ∃ x, l.foldl (stepC sl) o = some x ∧ u.b ≤ x.b) ∧ ∀ v ∈ l, v.s = sl → ∃ x, l.foldl (stepC sl) o = some x ∧ v.b ≤ x.b
  | [], o => ⟨fun u h => ⟨u, h, Int.le_refl _⟩, fun v hv => by cases hv⟩
  | y :: l, o => by
    obtain ⟨h1, h2⟩ := fold_max sl l (stepC sl o y)
    refine ⟨fun u hu => ?_, fun v hv hs => ?_⟩
    · obtain ⟨x, hx, hb⟩ := stepC_up (sl := sl) (v := y) hu
      obtain ⟨x', hx', hb'⟩ := h1 x hx
      exact ⟨x', hx', by omega⟩
    · rcases List.mem_cons.1 hv with rfl | hv
      · obtain ⟨x, hx, hb⟩ := stepC_self (o := o) hs
        obtain ⟨x', hx', hb'⟩ := h1 x hx
        exact ⟨x', hx', by omega⟩
      · exact h2 v hv hs
theorem cho_max {l : List V} {sl : Int} {v : V} (hv : v ∈ l) (hs : v.s = sl) : ∃ x, cho l sl = some x ∧ v.b ≤ x.b := (fold_max sl l none).2 v hv hs
/-- Row i, and the rows ahead of it. -/
def rowL (L : Nat → Nat) (z : Nat → Nat → V) (i : Nat) : List V := (List.range (L i)).map (z i)
def cat (L : Nat → Nat) (z : Nat → Nat → V) (n : Nat) : List V := (List.range n).flatMap (rowL L z)
theorem cat_zero (L : Nat → Nat) (z : Nat → Nat → V) : cat L z 0 = [] := rfl
theorem cat_succ (L : Nat → Nat) (z : Nat → Nat → V) (i : Nat) : cat L z (i + 1) = cat L z i ++ rowL L z i := by
  unfold cat; rw [List.range_succ, List.flatMap_append]; simp
theorem rowL_len (L : Nat → Nat) (z : Nat → Nat → V) (i : Nat) : (rowL L z i).length = L i := by simp [rowL]
theorem rowL_get (L : Nat → Nat) (z : Nat → Nat → V) (i k : Nat) (h : k < L i) : (rowL L z i)[k]? = some (z i k) := by
  unfold rowL; rw [List.getElem?_map, List.getElem?_range h]; rfl
theorem rowL_take (L : Nat → Nat) (z : Nat → Nat → V) (i k : Nat) (h : k < L i) : (rowL L z i).take (k + 1) = (rowL L z i).take k ++ [z i k] := by
  rw [List.take_add_one, rowL_get L z i k h]; rfl
theorem mem_cat {L : Nat → Nat} {z : Nat → Nat → V} {n i k : Nat} (hi : i < n) (hk : k < L i) : z i k ∈ cat L z n :=
  List.mem_flatMap.2 ⟨i, List.mem_range.2 hi, List.mem_map.2 ⟨k, List.mem_range.2 hk, rfl⟩⟩
theorem cho_row (L : Nat → Nat) (z : Nat → Nat → V) (i k : Nat) (sl : Int) (h : k < L i) : cho (cat L z i ++ (rowL L z i).take (k + 1)) sl = stepC sl (cho (cat L z i ++ (rowL L z i).take k) sl) (z i k) := by
  rw [rowL_take L z i k h, ← List.append_assoc, cho_snoc]
theorem cho_end (L : Nat → Nat) (z : Nat → Nat → V) (i : Nat) (sl : Int) : cho (cat L z i ++ (rowL L z i).take (L i)) sl = cho (cat L z (i + 1)) sl := by
  rw [cat_succ, List.take_of_length_le (by rw [rowL_len]; exact Nat.le_refl _)]

theorem AV.set {t : TypeId} {w : World} {b : Nat} {x : V} (h : AV t w b x) (y : V) : AV t (((w.setCell ⟨b, 0, none⟩ (.int .i64 y.s)).setCell ⟨b, 1, none⟩ (.int .i64 y.b)).setCell ⟨b, 2, none⟩ (.string y.x)) b y := by
  have h1 := heap_setCell h 0 (.int .i64 y.s)
  have h2 := heap_setCell h1 1 (.int .i64 y.b)
  have h3 := heap_setCell h2 2 (.string y.x)
  unfold AV
  rw [h3]; rfl
theorem AV.fbo {t : TypeId} {w w' : World} {b c : Nat} {x : V} (h : AV t w b x) (hf : Fb c w w') (hne : b ≠ c) : AV t w' b x := h.of_block (hf.block b h.lt hne (by simp))
theorem Fb.set3 {b : Nat} {w w1 : World} (h : Fb b w w1) (u0 u1 u2 : Value) : Fb b w (((w1.setCell ⟨b, 0, none⟩ u0).setCell ⟨b, 1, none⟩ u1).setCell ⟨b, 2, none⟩ u2) := ((h.set 0 u0).set 1 u1).set 2 u2

set_option maxRecDepth 100000 in
set_option maxHeartbeats 4000000 in
theorem choose_any {A : Option Addr} {n c : Nat} {B : Nat → Option Addr} {L C : Nat → Nat} {z : Nat → Nat → V} (sl : Int) (w : World) (h : Sets w A n B L C z) (hn : n ≤ 9223372036854775807) :
    Calls Tryd.prog 28 #[.slice A n c, .int .i64 sl] w fun e w' => e = .returned (.tuple #[((cho (cat L z n) sl).getD V.zero).val, .bool (cho (cat L z n) sl).isSome]) ∧ Below w.heap.size w w' := by
  have HS := Lib.hid h
  obtain ⟨R, hR⟩ : ∃ R, cho (cat L z n) sl = R := ⟨_, rfl⟩
  rw [hR]
  have HRv := Lib.hid hR
  clear hR
  have hba : Below w.heap.size w (w.alloc (.cells #[.int .i64 0, .int .i64 0, .string ⟨#[]⟩] 32)) := (Below.refl _ _).alloc (Nat.le_refl _) _
  have hbb : Below (w.alloc (.cells #[.int .i64 0, .int .i64 0, .string ⟨#[]⟩] 32)).heap.size (w.alloc (.cells #[.int .i64 0, .int .i64 0, .string ⟨#[]⟩] 32)) ((w.alloc (.cells #[.int .i64 0, .int .i64 0, .string ⟨#[]⟩] 32)).alloc (.cells #[.int .i64 0, .int .i64 0, .string ⟨#[]⟩] 32)) := (Below.refl _ _).alloc (Nat.le_refl _) _
  have HR0 := Lib.hid (AV.below (show AV 32 (w.alloc (.cells #[.int .i64 0, .int .i64 0, .string ⟨#[]⟩] 32)) w.heap.size V.zero from AV.fresh 32 w V.zero) hbb)
  have HB0 := Lib.hid (show AV 32 ((w.alloc (.cells #[.int .i64 0, .int .i64 0, .string ⟨#[]⟩] 32)).alloc (.cells #[.int .i64 0, .int .i64 0, .string ⟨#[]⟩] 32)) (w.alloc (.cells #[.int .i64 0, .int .i64 0, .string ⟨#[]⟩] 32)).heap.size V.zero from AV.fresh 32 _ V.zero)
  have HW0 := Lib.hid (hba.trans (hbb.mono hba.size))
  have hz1 : (w.alloc (.cells #[.int .i64 0, .int .i64 0, .string ⟨#[]⟩] 32)).heap.size = w.heap.size + 1 := by simp
  have hz2 : w.heap.size + 1 < ((w.alloc (.cells #[.int .i64 0, .int .i64 0, .string ⟨#[]⟩] 32)).alloc (.cells #[.int .i64 0, .int .i64 0, .string ⟨#[]⟩] 32)).heap.size := by simp
  rw [hz1] at HB0
  clear h hba hbb hz1
  go_enter Tryd.func28, Tryd.ntmps28
  go_wp2
  generalize ((w.alloc (.cells #[.int .i64 0, .int .i64 0, .string ⟨#[]⟩] 32)).alloc (.cells #[.int .i64 0, .int .i64 0, .string ⟨#[]⟩] 32)) = w1 at HR0 HB0 HW0 hz2 ⊢
  generalize hZ : w.heap.size = Z at *
  go_loopw [7, 14] (fun fv iv wr => ∃ (i : Nat) (o : Option V) (fo : Bool), i ≤ n ∧ iv = .int .i64 i ∧ fv = .bool fo ∧ fo = o.isSome ∧ o = cho (cat L z i) sl ∧ AV 32 wr (Z + 1) (o.getD V.zero) ∧ AV 32 wr Z V.zero ∧ Fb (Z + 1) w1 wr) (fun _ iv _ => n - (RowKit.intOf iv).toNat)
  case atStart => exact ⟨0, none, false, Nat.zero_le _, rfl, rfl, rfl, rfl, HB0.out, HR0.out, Fb.same⟩
  case round =>
    obtain ⟨i, o, fo, hi, rfl, rfl, hfo, ho, hab, har, hf⟩ := hrel
    have HB := Lib.hid hab
    have HR := Lib.hid har
    have HF := Lib.hid hf
    have HO := Lib.hid ho
    have HFo := Lib.hid hfo
    clear hab har hf ho hfo HR0 HB0
    have hbw := below_fb HW0.out HF.out (Nat.le_succ Z) (by omega)
    have HSr := Lib.hid (HS.out.below (by rw [hZ]; exact hbw))
    by_cases hlt : i < n
    · have hiI : (i : Int) < (n : Int) := by omega
      have hi0 : (0 : Int) ≤ (i : Int) := by omega
      obtain ⟨⟨g, off, rfl, hg, hc⟩, hL, -⟩ := HSr.out i hlt
      obtain ⟨Bi, hBi⟩ : ∃ x, B i = x := ⟨_, rfl⟩
      obtain ⟨Li, hLi⟩ : ∃ x, L i = x := ⟨_, rfl⟩
      obtain ⟨Ci, hCi⟩ : ∃ x, C i = x := ⟨_, rfl⟩
      rw [hBi, hLi, hCi] at hc
      rw [hLi] at hL
      have HBi := Lib.hid hBi
      have HLi := Lib.hid hLi
      clear hBi hLi hCi
      go_wp2
      go_loopw [7, 20] (fun fv kv wk => ∃ (k : Nat) (o : Option V) (fo : Bool), k ≤ Li ∧ kv = .int .i64 k ∧ fv = .bool fo ∧ fo = o.isSome ∧ o = cho (cat L z i ++ (rowL L z i).take k) sl ∧ AV 32 wk (Z + 1) (o.getD V.zero) ∧ AV 32 wk Z V.zero ∧ Fb (Z + 1) w1 wk) (fun _ kv _ => Li - (RowKit.intOf kv).toNat)
      case atStart => exact ⟨0, o, fo, Nat.zero_le _, rfl, rfl, HFo.out, by rw [HO.out]; simp, HB.out, HR.out, HF.out⟩
      case round =>
        obtain ⟨k, o, fo, hk, rfl, rfl, hfo, ho, hab, har, hf⟩ := hrel
        have KB := Lib.hid hab
        have KR := Lib.hid har
        have KF := Lib.hid hf
        have KO := Lib.hid ho
        have KFo := Lib.hid hfo
        clear hab har hf ho hfo HB HR HO HFo
        have hbk := below_fb HW0.out KF.out (Nat.le_succ Z) (by omega)
        have HSk := Lib.hid (HS.out.below (by rw [hZ]; exact hbk))
        by_cases hlk : k < Li
        · have hkI : (k : Int) < (Li : Int) := by omega
          have hk0 : (0 : Int) ≤ (k : Int) := by omega
          obtain ⟨-, -, hz⟩ := HSk.out i hlt
          obtain ⟨g', o', e', hg', hv⟩ := hz k (by rw [HLi.out]; exact hlk)
          rw [HBi.out] at e'
          subst e'
          obtain ⟨⟨xs, xb, xx⟩, hx⟩ : ∃ x, z i k = x := ⟨_, rfl⟩
          have hst := cho_row L z i k sl (by rw [HLi.out]; exact hlk)
          rw [hx] at hst hv
          rw [← KO.out] at hst
          have hal : Below wr.heap.size wr (wr.alloc (.cells #[.int .i64 xs, .int .i64 xb, .string xx] 32)) := (Below.refl _ _).alloc (Nat.le_refl _) _
          have AB := Lib.hid (KB.out.below hal)
          have AR := Lib.hid (KR.out.below hal)
          have AF := Lib.hid (KF.out.then_below hal)
          have AX := Lib.hid (show AV 32 (wr.alloc (.cells #[.int .i64 xs, .int .i64 xb, .string xx] 32)) wr.heap.size ⟨xs, xb, xx⟩ from AV.fresh 32 wr ⟨xs, xb, xx⟩)
          obtain ⟨d0, d1, d2⟩ := hv
          clear hx hal hz HSk HSr HS
          go_upto_region 9 with fail
          generalize wr.alloc (.cells #[.int .i64 xs, .int .i64 xb, .string xx] 32) = w5 at AB AR AF AX ⊢
          generalize wr.heap.size = zx at AX ⊢
          obtain ⟨e0, e1, e2⟩ := AX.out.all
          by_cases hs : xs = sl
          · subst hs
            cases o with
            | none =>
              obtain rfl : fo = false := KFo.out
              rw [show stepC xs none ⟨xs, xb, xx⟩ = some ⟨xs, xb, xx⟩ from by unfold stepC; rw [if_pos rfl]] at hst
              have HSt := Lib.hid hst
              clear hst
              obtain ⟨b0, b1, b2⟩ := AB.out.all
              have KBn := Lib.hid (AB.out.set ⟨xs, xb, xx⟩)
              have KRn := Lib.hid (AV.fbo AR.out ((Fb.same (b := Z + 1)).set3 (.int .i64 xs) (.int .i64 xb) (.string xx)) (by omega))
              have KFn := Lib.hid (AF.out.set3 (.int .i64 xs) (.int .i64 xb) (.string xx))
              have f0 := AB.out.free 0
              have f1 := AB.out.free 1
              have f2 := AB.out.free 2
              clear AB AR AF
              go_wp2
              go_roundw
              case rel => exact ⟨k + 1, some ⟨xs, xb, xx⟩, true, by omega, by go_num, rfl, rfl, HSt.out.symm, KBn.out, KRn.out, KFn.out⟩
              case measure => simp only [RowKit.intOf]; omega
            | some u =>
              obtain rfl : fo = true := KFo.out
              obtain ⟨us, ub, ux⟩ := u
              obtain ⟨b0, b1, b2⟩ := AB.out.all
              have b1' : w5.cell? ⟨Z + 1, 1, none⟩ = some (.int .i64 ub) := b1
              clear b1
              by_cases hb : ub < xb
              · rw [show stepC xs (some ⟨us, ub, ux⟩) ⟨xs, xb, xx⟩ = some ⟨xs, xb, xx⟩ from by unfold stepC; rw [if_pos rfl]; simp only; rw [if_pos hb]] at hst
                have HSt := Lib.hid hst
                clear hst
                have KBn := Lib.hid (AB.out.set ⟨xs, xb, xx⟩)
                have KRn := Lib.hid (AV.fbo AR.out ((Fb.same (b := Z + 1)).set3 (.int .i64 xs) (.int .i64 xb) (.string xx)) (by omega))
                have KFn := Lib.hid (AF.out.set3 (.int .i64 xs) (.int .i64 xb) (.string xx))
                have f0 := AB.out.free 0
                have f1 := AB.out.free 1
                have f2 := AB.out.free 2
                clear AB AR AF
                go_wp2
                go_roundw
                case rel => exact ⟨k + 1, some ⟨xs, xb, xx⟩, true, by omega, by go_num, rfl, rfl, HSt.out.symm, KBn.out, KRn.out, KFn.out⟩
                case measure => simp only [RowKit.intOf]; omega
              · rw [show stepC xs (some ⟨us, ub, ux⟩) ⟨xs, xb, xx⟩ = some ⟨us, ub, ux⟩ from by unfold stepC; rw [if_pos rfl]; simp only; rw [if_neg hb]] at hst
                have HSt := Lib.hid hst
                clear hst
                go_wp2
                go_roundw
                case rel => exact ⟨k + 1, some ⟨us, ub, ux⟩, true, by omega, by go_num, rfl, rfl, HSt.out.symm, AB.out, AR.out, AF.out⟩
                case measure => simp only [RowKit.intOf]; omega
          · have hsd : (xs == sl) = false := by simp [hs]
            rw [show stepC sl o ⟨xs, xb, xx⟩ = o from by unfold stepC; rw [if_neg hs]] at hst
            have HSt := Lib.hid hst
            clear hst
            go_wp2
            go_roundw
            case rel => exact ⟨k + 1, o, fo, by omega, by go_num, rfl, KFo.out, HSt.out.symm, AB.out, AR.out, AF.out⟩
            case measure => simp only [RowKit.intOf]; omega
        · obtain rfl : k = Li := by omega
          have hkI : ¬ (k : Int) < (k : Int) := by omega
          clear HSr HS HSk
          go_wp2
          go_roundw
          case rel => exact ⟨i + 1, o, fo, by omega, by go_num, rfl, KFo.out, by rw [KO.out]; have := cho_end L z i sl; rw [HLi.out] at this; exact this, KB.out, KR.out, KF.out⟩
          case measure => simp only [RowKit.intOf]; omega
    · obtain rfl : i = n := by omega
      have hiI : ¬ (i : Int) < (i : Int) := by omega
      obtain rfl : o = R := HO.out.trans HRv.out
      have hfo := HFo.out
      subst hfo
      have hbz := Lib.hid (hbw)
      have HBv := HB.out
      generalize hq : o.getD V.zero = q at HBv HB ⊢
      obtain ⟨c0, c1, c2⟩ := HBv.all
      obtain ⟨r0, r1, r2⟩ := HR.out.all
      have f0 := HR.out.free 0
      have f1 := HR.out.free 1
      have f2 := HR.out.free 2
      have HBz2 := Lib.hid (Fb.below (B := Z) ((Fb.same (b := Z) (w := wr)).set3 (.int .i64 q.s) (.int .i64 q.b) (.string q.x)) (Nat.le_refl _) (by have := hbw.size; omega))
      have HRz := Lib.hid (HR.out.set q)
      clear HBv HS HSr HO HFo HB
      go_wp2
      generalize ((wr.setCell ⟨Z, 0, none⟩ (.int .i64 q.s)).setCell ⟨Z, 1, none⟩ (.int .i64 q.b)).setCell ⟨Z, 2, none⟩ (.string q.x) = wf at HRz HBz2 ⊢
      obtain ⟨r0, r1, r2⟩ := HRz.out.all
      exact bodyPost_ret (v := .tuple #[q.val, .bool o.isSome]) (by simp [results, Tryd.results28, go_sem, r0, r1, r2]) rfl ⟨rfl, hbz.out.trans HBz2.out⟩
end Go.Proofs.YtacbodojbekeeaaDoor
