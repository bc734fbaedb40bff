/-
  Same (weirkeepref10) and theirs (the laws' own), by contracts: are they the same votes; the votes as the document's.

  Prepare and Accept of the document's own acceptor (weirkeepref10), by contracts.

  Accept of the document's own acceptor (weirkeepref10), by a contract.

  Accept of the document's own acceptor, whatever it is asked.
-/
import Derived.Test.YtkcbmkedhipgeaaGreatDoorAcp2
namespace Go.Proofs.YtkcbmkedhipgeaaGreatDoor
open Go.RowKit

theorem take_snocV {l : List V} {k : Nat} {x : V} (h : l[k]? = some x) : l.take (k + 1) = l.take k ++ [x] := by
  rw [List.take_add_one, h]; rfl
theorem take_same {l1 l2 : List V} {k : Nat} {x y : V} (h1 : l1[k]? = some x) (h2 : l2[k]? = some y) (h : l1.take k = l2.take k) (e : x = y) : l1.take (k + 1) = l2.take (k + 1) := by
  rw [take_snocV h1, take_snocV h2, h, e]
end Go.Proofs.YtkcbmkedhipgeaaGreatDoor

namespace Go.Proofs.YtkcbmkedhipgeaaGreatDoor
open Go.RowKit

theorem from_snoc {l : List V} {k : Nat} {x : V} (f : Int) (h : l[k]? = some x) : from_ (l.take (k + 1)) f = from_ (l.take k) f ++ (if f ≤ x.s then [x] else []) := by
  rw [take_snocV h]
  unfold from_
  rw [List.filter_append]
  congr 1
  by_cases hf : f ≤ x.s
  · rw [if_pos hf]; simp [hf]
  · rw [if_neg hf]; simp [hf]

set_option maxRecDepth 100000 in
set_option maxHeartbeats 2000000 in
theorem rprepare_any (r : Nat) (b f : Int) (A : Acc) (w : World) (h : RC w r A.p A.l) (hl : A.l.length ≤ 4096) :
    Calls Tryz.prog 48 #[.pointer (some ⟨r, 0, none⟩), .int .i64 b, .int .i64 f] w fun e w' => ∃ v, e = .returned (.tuple #[v, .int .i64 (prepE A b)]) ∧ OwnsV 78 w' w.heap.size v (prepL A b f) ∧ RC w' r (A.prep b).p (A.prep b).l ∧ Fb r w w' := by
  obtain ⟨i0, hi0, hz0, hz1, hz2⟩ := info_parts infoR
  have HI := Lib.hid (risB_any b)
  have HP := Lib.hid h
  have Q := @prepE_zero A b
  obtain ⟨c0, -⟩ := h.form
  have f0 := h.free 0
  have hrl := h.lt
  by_cases h1 : isB b
  · rw [decide_eq_true h1] at HI
    by_cases h2 : b < A.p
    · have e : prepE A b = 5 := by unfold prepE; rw [if_pos h1, if_pos h2]
      have e1 : prepL A b f = [] := by unfold prepL; rw [if_neg (by omega)]
      have e2 : A.prep b = A := by unfold Acc.prep; rw [if_neg (by omega)]
      rw [e, e1, e2]
      clear e e1 e2 h1 h Q
      go_enter Tryz.func48, Tryz.ntmps48
      go_wp2_with (go_at_call 69; refine (HI.out _).mono ?_; rintro e w' ⟨rfl, rfl⟩)
      go_ret2
      exact ⟨_, rfl, OwnsV.nil _ _ _, HP.out, Fb.same⟩
    · have e : prepE A b = 0 := Q.2 ⟨h1, by omega⟩
      have e1 : prepL A b f = from_ A.l f := by unfold prepL; rw [if_pos e]
      have e2 : A.prep b = ⟨b, A.l⟩ := by unfold Acc.prep; rw [if_pos e]
      rw [e, e1, e2]
      have hp1 := h.prom b
      have HF1 := Lib.hid ((Fb.same (b := r) (w := w)).set 0 (.int .i64 b))
      clear e e1 e2 h1 h Q
      obtain ⟨p, l⟩ := A
      have hl' : l.length ≤ 4096 := hl
      have c0' : w.cell? ⟨r, 0, none⟩ = some (.int .i64 p) := c0
      have h2' : ¬ b < p := h2
      clear c0 h2 hl
      have HPP := Lib.hid (show RC (w.setCell ⟨r, 0, none⟩ (.int .i64 b)) r b l from hp1)
      clear hp1
      go_enter Tryz.func48, Tryz.ntmps48
      go_wp2_with (go_at_call 69; refine (HI.out _).mono ?_; rintro e w' ⟨rfl, rfl⟩)
      have hz0' : (w.setCell ⟨r, 0, none⟩ (.int .i64 b)).heap.size = w.heap.size := by simp [World.setCell]
      generalize w.setCell ⟨r, 0, none⟩ (.int .i64 b) = w1 at HF1 HPP hz0' ⊢
      clear c0' f0 HP h2'
      have HL0 := Lib.hid (OwnsV.lit (e := 78) (Nat.le_refl w1.heap.size))
      have HB0 := Lib.hid (show Below w1.heap.size w1 (w1.alloc (.cells #[] 78)) from (Below.refl _ _).alloc (Nat.le_refl _) _)
      go_loopw [8, 9] (fun u iv wr => ∃ k : Nat, k ≤ l.length ∧ iv = .int .i64 k ∧ OwnsV 78 wr w1.heap.size u (from_ (l.take k) f) ∧ Below w1.heap.size w1 wr) (fun _ iv _ => l.length - (RowKit.intOf iv).toNat)
      case atStart => exact ⟨0, Nat.zero_le _, rfl, by have h := HL0.out; rw [hz0'] at h ⊢; exact h, HB0.out⟩
      case round =>
        obtain ⟨k, hk, rfl, ho, hb⟩ := hrel
        have HO := Lib.hid ho
        have HB := Lib.hid hb
        clear ho hb
        obtain ⟨-, A, c, c1, -, hc⟩ := (HPP.out.below HB.out).form
        by_cases hlt : k < l.length
        · have hkI : (k : Int) < (l.length : Int) := by omega
          have hk0 : (0 : Int) ≤ (k : Int) := by omega
          obtain ⟨x, hx⟩ : ∃ x, l[k]? = some x := ⟨_, List.getElem?_eq_getElem hlt⟩
          obtain ⟨g, rfl, hg, -, hv⟩ := hc k x hx
          obtain ⟨x0, x1, x2⟩ := hv
          have hsn := from_snoc f hx
          have hle := from_len (l.take k) f
          have hlk : (l.take k).length ≤ 4096 := by rw [List.length_take]; omega
          clear hc hx
          by_cases hf : f ≤ x.s
          · rw [if_pos hf] at hsn
            have HSn := Lib.hid hsn
            have HW := Lib.hid (vnews1 wr x 78)
            have HBA := Lib.hid (show Below wr.heap.size wr (wr.alloc (.cells x.cells 78)) from (Below.refl _ _).alloc (Nat.le_refl _) _)
            clear hsn
            go_wp2_with (at_builtin; refine wpList_append_lies _ rfl (.tmp 43) (.tmp 51) 65 rfl w1.heap.size 78 i0 _ 3 32 Tryz.underlying65 hi0 hz0 hz1 hz2 rfl (by decide) _ _ _ rfl (HO.out.below HBA.out) ⟨wr.heap.size, 0, none⟩ 1 1 (vflat [x]) rfl (by simp [vflat]) HW.out (vflat_oneCell _) (by decide) (by unfold maxLen; omega) (by omega) (by have := HB.out.size; simp; omega) (wr.heap.size + 1) (by simp) ?_; intro g' cap w3 hown hgrow _ _; (have K2 := Lib.hid (below_grown (HB.out.trans (HBA.out.mono HB.out.size)) hgrow (by have := HB.out.size; simp; omega) (fun q hq => (HO.out.lt hq).1))); have K3 := Lib.hid (OwnsV.snoc hown); clear hown hgrow)
            go_roundw
            case rel => exact ⟨k + 1, by omega, by go_num, by rw [HSn.out]; simpa using K3.out, K2.out⟩
            case measure => simp only [RowKit.intOf]; omega
          · rw [if_neg hf, List.append_nil] at hsn
            have HO2 := Lib.hid (show OwnsV 78 wr w1.heap.size _ (from_ (l.take (k + 1)) f) by rw [hsn]; exact HO.out)
            clear hsn HO
            go_wp2
            go_roundw
            case rel => exact ⟨k + 1, by omega, by go_num, HO2.out, HB.out⟩
            case measure => simp only [RowKit.intOf]; omega
        · obtain rfl : k = l.length := by omega
          have hlI : ¬ ((l.length : Int) < (l.length : Int)) := by omega
          rw [List.take_length] at HO
          clear hc
          go_wp2
          go_ret2
          exact ⟨_, rfl, HO.out.mono (by omega), HPP.out.below HB.out, HF1.out.then_below HB.out⟩
  · rw [decide_eq_false h1] at HI
    have e : prepE A b = 1 := by unfold prepE; rw [if_neg h1]
    have e1 : prepL A b f = [] := by unfold prepL; rw [if_neg (by omega)]
    have e2 : A.prep b = A := by unfold Acc.prep; rw [if_neg (by omega)]
    rw [e, e1, e2]
    clear e e1 e2 h1 h Q
    go_enter Tryz.func48, Tryz.ntmps48
    go_wp2_with (go_at_call 69; refine (HI.out _).mono ?_; rintro e w' ⟨rfl, rfl⟩)
    go_ret2
    exact ⟨_, rfl, OwnsV.nil _ _ _, HP.out, Fb.same⟩
end Go.Proofs.YtkcbmkedhipgeaaGreatDoor

namespace Go.Proofs.YtkcbmkedhipgeaaGreatDoor
open Go.RowKit

/-- What the loop has, behind k votes: not yet put, or put. -/
def Half (l : List V) (v : V) (k : Nat) (d : Bool) (out : List V) : Prop :=
  (d = false ∧ (∀ y ∈ l.take k, y.s < v.s) ∧ out = l.take k) ∨ (d = true ∧ (∃ y ∈ l.take k, v.s ≤ y.s) ∧ out = ins v (l.take k))
theorem Half.start (l : List V) (v : V) : Half l v 0 false [] := .inl ⟨rfl, fun y hy => by simp at hy, rfl⟩
theorem srt_get {lo : Int} {l : List V} (h : Srt lo l) {k : Nat} {x : V} (hx : l[k]? = some x) : ∀ y ∈ l.take k, y.s < x.s := by
  induction l generalizing lo k with
  | nil => simp at hx
  | cons u l ih =>
    cases k with
    | zero => intro y hy; simp at hy
    | succ k =>
      have hx' : l[k]? = some x := by simpa using hx
      intro y hy
      rw [List.take_succ_cons] at hy
      rcases List.mem_cons.1 hy with rfl | hy
      · have := (h.2.2.mem x (List.mem_of_getElem? hx')).1; omega
      · exact ih h.2.2 hx' y hy
theorem Half.before {l : List V} {v x : V} {k : Nat} {out : List V} (h : Half l v k false out) (hx : l[k]? = some x) (hv : x.s < v.s) : Half l v (k + 1) false (out ++ [x]) := by
  rcases h with ⟨-, h1, rfl⟩ | ⟨h, -⟩
  · refine .inl ⟨rfl, fun y hy => ?_, (take_snocV hx).symm⟩
    rw [take_snocV hx] at hy
    rcases List.mem_append.1 hy with hy | hy
    · exact h1 y hy
    · rw [List.mem_singleton.1 hy]; exact hv
  · cases h
theorem Half.at_ {l : List V} {v x : V} {k : Nat} {out : List V} (h : Half l v k false out) (hx : l[k]? = some x) (hv : x.s = v.s) : Half l v (k + 1) true (out ++ [v]) := by
  rcases h with ⟨-, h1, rfl⟩ | ⟨h, -⟩
  · refine .inr ⟨rfl, ⟨x, by rw [take_snocV hx]; simp, by omega⟩, ?_⟩
    rw [take_snocV hx, ins_below h1, ins, if_neg (by omega), if_pos hv]
  · cases h
theorem Half.behind {l : List V} {v x : V} {k : Nat} {out : List V} (h : Half l v k false out) (hx : l[k]? = some x) (hv : v.s < x.s) : Half l v (k + 1) true (out ++ [v] ++ [x]) := by
  rcases h with ⟨-, h1, rfl⟩ | ⟨h, -⟩
  · refine .inr ⟨rfl, ⟨x, by rw [take_snocV hx]; simp, by omega⟩, ?_⟩
    rw [take_snocV hx, ins_below h1, ins, if_neg (by omega), if_neg (by omega)]; simp
  · cases h
theorem Half.later {lo : Int} {l : List V} {v x : V} {k : Nat} {out : List V} (hs : Srt lo l) (h : Half l v k true out) (hx : l[k]? = some x) : v.s < x.s ∧ Half l v (k + 1) true (out ++ [x]) := by
  rcases h with ⟨h, -⟩ | ⟨-, ⟨y, hy, hv⟩, rfl⟩
  · cases h
  · have := srt_get hs hx y hy
    refine ⟨by omega, .inr ⟨rfl, ⟨y, by rw [take_snocV hx]; simp [hy], hv⟩, ?_⟩⟩
    rw [take_snocV hx, ins_above ⟨y, hy, hv⟩]
theorem Half.end_ {l : List V} {v : V} {d : Bool} {out : List V} (h : Half l v l.length d out) : (if d = true then out else out ++ [v]) = ins v l := by
  rcases h with ⟨rfl, h1, rfl⟩ | ⟨rfl, -, rfl⟩
  · rw [List.take_length] at h1 ⊢
    rw [if_neg (by simp), ins_end h1]
  · rw [List.take_length, if_pos rfl]
theorem Half.len {l : List V} {v : V} {k : Nat} {d : Bool} {out : List V} (h : Half l v k d out) (hl : l.length ≤ 4096) : out.length ≤ 4097 := by
  have hk : (l.take k).length ≤ 4096 := by rw [List.length_take]; omega
  have hi : ∀ m : List V, (ins v m).length ≤ m.length + 1 := fun m => by
    induction m with
    | nil => simp [ins]
    | cons u m ih =>
      rw [ins]
      split
      · simp only [List.length_cons]; omega
      · split <;> simp
  rcases h with ⟨-, -, rfl⟩ | ⟨-, -, rfl⟩
  · omega
  · have := hi (l.take k); omega

theorem below_row0 (w : World) (o : Obj) : Below w.heap.size w (w.alloc o) := (Below.refl _ _).alloc (Nat.le_refl _) o
theorem below_row (w : World) (n : Nat) (o : Obj) : Below w.heap.size w ((w.drewN n).alloc o) := (below_drewN (Below.refl _ _) n).alloc (Nat.le_refl _) o
set_option maxRecDepth 100000 in
set_option maxHeartbeats 4000000 in
/-- The votes are put in order: the loop, and what stands behind it. -/
theorem raccept_ok (r : Nat) (v : V) (p : Int) (l : List V) (w : World) (h : RC w r p l) (hs : Srt 0 l) (h1 : wrongE v = 0) (h2 : ¬ v.b < p) :
    Calls Tryz.prog 51 #[.pointer (some ⟨r, 0, none⟩), v.val] w fun e w' => e = .returned (.int .i64 0) ∧ RC w' r v.b (ins v l) ∧ Fb r w w' := by
  obtain ⟨i0, hi0, hz0, hz1, hz2⟩ := info_parts infoR
  obtain ⟨z1, z2, z3, z4⟩ := wrongE_zero.1 h1
  have HI := Lib.hid (risB_any v.b)
  rw [decide_eq_true z3] at HI
  have hba : Below w.heap.size w (w.alloc (.cells v.cells 78)) := (Below.refl _ _).alloc (Nat.le_refl _) _
  have hl : l.length ≤ 4096 := by have := hs.len (by omega); omega
  have hp1 := (h.below hba).prom v.b
  have hv0 := AV.fresh 78 w v
  have hrl := h.lt
  have HF1 := Lib.hid ((Fb.of_below (b := r) hba).set 0 (.int .i64 v.b))
  have hv1 : AV 78 ((w.alloc (.cells v.cells 78)).setCell ⟨r, 0, none⟩ (.int .i64 v.b)) w.heap.size v := hv0.of_block (Below.heap_setCell _ _ _ _ (Nat.ne_of_gt hrl))
  obtain ⟨c0, -⟩ := (h.below hba).form
  have f0 := (h.below hba).free 0
  obtain ⟨s, b, x⟩ := v
  have g0 : ¬ s < 0 := by have : 0 ≤ s := z1; omega
  have g1 : ¬ 4096 ≤ s := by have : s < 4096 := z2; omega
  have g2 : ¬ (1024 : Int) < (x.size : Int) := by have : x.size ≤ 1024 := z4; omega
  have g3 : ¬ b < p := h2
  have HPP := Lib.hid hp1
  have HV1 := Lib.hid hv1
  clear h hba hp1 hv0 hv1 h1 h2 z1 z2 z3 z4
  go_enter Tryz.func51, Tryz.ntmps51
  go_wp2_with (go_at_call 69; refine (HI.out _).mono ?_; rintro e w' ⟨rfl, rfl⟩)
  have b0 := (AV.fresh 78 w ⟨s, b, x⟩).all
  have hzz : (w.alloc (.cells (V.cells ⟨s, b, x⟩) 78)).heap.size = w.heap.size + 1 := by simp
  have hbx : w.heap.size < (w.alloc (.cells (V.cells ⟨s, b, x⟩) 78)).heap.size := by simp
  generalize w.alloc (.cells (V.cells ⟨s, b, x⟩) 78) = w0 at HF1 HPP HV1 c0 f0 b0 hzz hbx ⊢
  obtain ⟨b0, b1, b2⟩ := b0
  generalize hB : w.heap.size = B at *
  go_quiet (fail)
  go_wp2
  have hp2 : RC ((w0.drewN nq).setCell ⟨r, 0, none⟩ (.int .i64 b)) r b l := HPP.out
  have hv2 : AV 78 ((w0.drewN nq).setCell ⟨r, 0, none⟩ (.int .i64 b)) B ⟨s, b, x⟩ := HV1.out
  have hf2 : Fb r w ((w0.drewN nq).setCell ⟨r, 0, none⟩ (.int .i64 b)) := HF1.out.drewN nq
  have hz2' : ((w0.drewN nq).setCell ⟨r, 0, none⟩ (.int .i64 b)).heap.size = B + 1 := by simp [World.setCell]; exact hzz
  clear HPP HV1 HF1 c0 f0 b0 b1 b2
  generalize (w0.drewN nq).setCell ⟨r, 0, none⟩ (.int .i64 b) = w1 at hp2 hv2 hf2 hz2' ⊢
  have HPP := Lib.hid hp2
  have HF := Lib.hid hf2
  have HS := Lib.hid hs
  have HV := Lib.hid hv2
  obtain ⟨-, A, c, hc1, -, hcm⟩ := hp2.form
  have HC1 := Lib.hid hc1
  have HCM := Lib.hid hcm
  have hrl1 := hp2.lt
  have HL0 := Lib.hid (show OwnsV 78 (w1.alloc (.cells #[] 78)) w1.heap.size (.slice (some ⟨B + 1, 0, none⟩) 0 0) [] by have := OwnsV.lit (e := 78) (Nat.le_refl w1.heap.size); rw [hz2'] at this ⊢; exact this)
  have HB0 := Lib.hid (show Below w1.heap.size w1 (w1.alloc (.cells #[] 78)) from (Below.refl _ _).alloc (Nat.le_refl _) _)
  clear hp2 hv2 hf2 hc1 hcm hbx hzz
  go_loopw [5, 6, 7] (fun u dv iv wr => ∃ (k : Nat) (d : Bool) (out : List V), k ≤ l.length ∧ iv = .int .i64 k ∧ dv = .bool d ∧ Half l ⟨s, b, x⟩ k d out ∧ OwnsV 78 wr w1.heap.size u out ∧ Below w1.heap.size w1 wr) (fun _ _ iv _ => l.length - (RowKit.intOf iv).toNat)
  case atStart => exact ⟨0, false, [], Nat.zero_le _, rfl, rfl, Half.start _ _, HL0.out, HB0.out⟩
  case round =>
    obtain ⟨k, d, out, hk, rfl, rfl, hh, ho, hb⟩ := hrel
    have HO := Lib.hid ho
    have HB := Lib.hid hb
    have hol := hh.len hl
    have HH := Lib.hid hh
    clear ho hb hh
    by_cases hlt : k < l.length
    · have hkI : (k : Int) < (l.length : Int) := by omega
      have hk0 : (0 : Int) ≤ (k : Int) := by omega
      obtain ⟨x', hx⟩ : ∃ x', l[k]? = some x' := ⟨_, List.getElem?_eq_getElem hlt⟩
      obtain ⟨g, rfl, hg, -, hv⟩ := HCM.out k x' hx
      have HX := Lib.hid hx
      have HRD := Lib.hid (fun (W : World) (hW : Below w1.heap.size w1 W) => (⟨(hW.cell (p := ⟨r, 1, none⟩) hrl1).trans HC1.out, hv.below hW hg, (HV.out.below hW).all⟩ : W.cell? ⟨r, 1, none⟩ = _ ∧ VAt W g (k * 3) x' ∧ _))
      clear hv hx HCM HC1 HV
      obtain ⟨e0, ⟨e1, e2, e3⟩, e4, e5, e6⟩ := HRD.out wr HB.out
      obtain ⟨s', b', t'⟩ := x'
      cases d with
      | true =>
        obtain ⟨hgt, hnx⟩ := HH.out.later HS.out HX.out
        have hne : (s' != s) = true := by have : s < s' := hgt; simp; omega
        have HN := Lib.hid hnx
        clear hnx HH
        go_wp2
        go_quiet (fail)
        go_wp2
        go_quiet (fail)
        go_wp2_with (at_builtin; refine wpList_append_lies _ rfl (.tmp 78) (.tmp 86) 65 rfl w1.heap.size 78 i0 _ 3 32 Tryz.underlying65 hi0 hz0 hz1 hz2 rfl (by decide) _ _ _ rfl (HO.out.below (below_row _ _ _)) ⟨wr.heap.size, 0, none⟩ 1 1 (vflat [⟨s', b', t'⟩]) rfl (by simp [vflat]) (vnews1 _ ⟨s', b', t'⟩ _) (vflat_oneCell _) (by decide) (by unfold maxLen; omega) (by omega) (by have := HB.out.size; simp; omega) (wr.heap.size + 1) (by simp) ?_; intro g' cap w3 hown hgrow _ _; (have K2 := Lib.hid (below_grown (HB.out.trans ((below_row wr _ _).mono HB.out.size)) hgrow (by have := HB.out.size; simp; omega) (fun q hq => (HO.out.lt hq).1))); have K3 := Lib.hid (OwnsV.snoc hown); clear hown hgrow)
        go_wp2
        go_roundw
        case rel => exact ⟨k + 1, true, _, by omega, by go_num, rfl, HN.out, by simpa using K3.out, K2.out⟩
        case measure => simp only [RowKit.intOf]; omega
      | false =>
        by_cases hlo : s' < s
        · have HN := Lib.hid (HH.out.before HX.out hlo)
          have hne : (s' != s) = true := by simp; omega
          have hge : ¬ s ≤ s' := by omega
          clear HH
          go_wp2
          go_quiet (fail)
          go_wp2
          go_quiet (fail)
          go_wp2_with (at_builtin; refine wpList_append_lies _ rfl (.tmp 78) (.tmp 86) 65 rfl w1.heap.size 78 i0 _ 3 32 Tryz.underlying65 hi0 hz0 hz1 hz2 rfl (by decide) _ _ _ rfl (HO.out.below (below_row _ _ _)) ⟨wr.heap.size, 0, none⟩ 1 1 (vflat [⟨s', b', t'⟩]) rfl (by simp [vflat]) (vnews1 _ ⟨s', b', t'⟩ _) (vflat_oneCell _) (by decide) (by unfold maxLen; first | omega | (simp only [List.length_append, List.length_singleton]; omega)) (by first | omega | (simp only [List.length_append, List.length_singleton]; omega)) (by have := HB.out.size; simp; omega) (wr.heap.size + 1) (by simp) ?_; intro g' cap w3 hown hgrow _ _; (have K2 := Lib.hid (below_grown (HB.out.trans ((below_row wr _ _).mono HB.out.size)) hgrow (by have := HB.out.size; simp; omega) (fun q hq => (HO.out.lt hq).1))); have K3 := Lib.hid (OwnsV.snoc hown); clear hown hgrow)
          go_wp2
          go_roundw
          case rel => exact ⟨k + 1, false, _, by omega, by go_num, rfl, HN.out, by simpa using K3.out, K2.out⟩
          case measure => simp only [RowKit.intOf]; omega
        · have hge : s ≤ s' := by omega
          by_cases heq : s' = s
          · have HN := Lib.hid (HH.out.at_ HX.out heq)
            subst heq
            clear HH
            go_wp2
            go_quiet (fail)
            go_wp2_with (at_builtin; refine wpList_append_lies _ rfl (.tmp 63) (.tmp 65) 65 rfl w1.heap.size 78 i0 _ 3 32 Tryz.underlying65 hi0 hz0 hz1 hz2 rfl (by decide) _ _ _ rfl (HO.out.below (below_row _ _ _)) ⟨wr.heap.size, 0, none⟩ 1 1 (vflat [⟨s', b, x⟩]) rfl (by simp [vflat]) (vnews1 _ ⟨s', b, x⟩ _) (vflat_oneCell _) (by decide) (by unfold maxLen; first | omega | (simp only [List.length_append, List.length_singleton]; omega)) (by first | omega | (simp only [List.length_append, List.length_singleton]; omega)) (by have := HB.out.size; simp; omega) (wr.heap.size + 1) (by simp) ?_; intro g' cap w3 hown hgrow _ _; (have K2 := Lib.hid (below_grown (HB.out.trans ((below_row wr _ _).mono HB.out.size)) hgrow (by have := HB.out.size; simp; omega) (fun q hq => (HO.out.lt hq).1))); have K3 := Lib.hid (OwnsV.snoc hown); clear hown hgrow)
            obtain ⟨r0, ⟨r1, r2, r3⟩, r4, r5, r6⟩ := HRD.out w3 K2.out
            go_quiet (fail)
            go_wp2
            go_roundw
            case rel => exact ⟨k + 1, true, _, by omega, by go_num, rfl, HN.out, (show OwnsV 78 w3 w1.heap.size _ _ by simpa using K3.out), below_drewN K2.out _⟩
            case measure => simp only [RowKit.intOf]; omega
          · have HN := Lib.hid (HH.out.behind HX.out (by show s < s'; omega))
            have hne : (s' != s) = true := by simp; omega
            clear HH
            go_wp2
            go_quiet (fail)
            go_wp2_with (at_builtin; refine wpList_append_lies _ rfl (.tmp 63) (.tmp 65) 65 rfl w1.heap.size 78 i0 _ 3 32 Tryz.underlying65 hi0 hz0 hz1 hz2 rfl (by decide) _ _ _ rfl (HO.out.below (below_row _ _ _)) ⟨wr.heap.size, 0, none⟩ 1 1 (vflat [⟨s, b, x⟩]) rfl (by simp [vflat]) (vnews1 _ ⟨s, b, x⟩ _) (vflat_oneCell _) (by decide) (by unfold maxLen; first | omega | (simp only [List.length_append, List.length_singleton]; omega)) (by first | omega | (simp only [List.length_append, List.length_singleton]; omega)) (by have := HB.out.size; simp; omega) (wr.heap.size + 1) (by simp) ?_; intro g' cap w3 hown hgrow _ _; (have K2 := Lib.hid (below_grown (HB.out.trans ((below_row wr _ _).mono HB.out.size)) hgrow (by have := HB.out.size; simp; omega) (fun q hq => (HO.out.lt hq).1))); have K3 := Lib.hid (OwnsV.snoc hown); clear hown hgrow)
            obtain ⟨r0, ⟨r1, r2, r3⟩, r4, r5, r6⟩ := HRD.out w3 K2.out
            go_quiet (fail)
            go_wp2_with (at_builtin; refine wpList_append_lies _ rfl (.tmp 78) (.tmp 86) 65 rfl w1.heap.size 78 i0 _ 3 32 Tryz.underlying65 hi0 hz0 hz1 hz2 rfl (by decide) _ _ _ rfl (K3.out.below (below_row _ _ _)) ⟨w3.heap.size, 0, none⟩ 1 1 (vflat [⟨s', b', t'⟩]) rfl (by simp [vflat]) (vnews1 _ ⟨s', b', t'⟩ _) (vflat_oneCell _) (by decide) (by unfold maxLen; first | omega | (simp only [List.length_append, List.length_singleton]; omega)) (by first | omega | (simp only [List.length_append, List.length_singleton]; omega)) (by have := K2.out.size; simp; omega) (w3.heap.size + 1) (by simp) ?_; intro g' cap w4 hown hgrow _ _; (have K4 := Lib.hid (below_grown (K2.out.trans ((below_row w3 _ _).mono K2.out.size)) hgrow (by have := K2.out.size; simp; omega) (fun q hq => (K3.out.lt hq).1))); have K5 := Lib.hid (OwnsV.snoc hown); clear hown hgrow)
            go_wp2
            go_roundw
            case rel => exact ⟨k + 1, true, _, by omega, by go_num, rfl, HN.out, by simpa using K5.out, K4.out⟩
            case measure => simp only [RowKit.intOf]; omega
    · obtain rfl : k = l.length := by omega
      have hlI : ¬ ((l.length : Int) < (l.length : Int)) := by omega
      have hend := HH.out.end_
      have e0 := (HB.out.cell (p := ⟨r, 1, none⟩) hrl1).trans HC1.out
      have HPe := Lib.hid (HPP.out.below HB.out)
      obtain ⟨e4, e5, e6⟩ := (HV.out.below HB.out).all
      have fe := HPe.out.free 1
      clear HCM HH
      cases d with
      | true =>
        rw [if_pos rfl] at hend
        subst hend
        have HE := Lib.hid (HPe.out.votes HO.out)
        have HFe := Lib.hid ((HF.out.then_below HB.out).set 1 (b := r))
        obtain ⟨A1, c1, rfl⟩ := HO.out.shape
        go_wp2
        go_ret
        exact ⟨rfl, HE.out, HFe.out _⟩
      | false =>
        rw [if_neg (by simp)] at hend
        have HEnd := Lib.hid hend
        clear hend
        go_wp2_with (at_builtin; refine wpList_append_lies _ rfl (.tmp 90) (.tmp 92) 65 rfl w1.heap.size 78 i0 _ 3 32 Tryz.underlying65 hi0 hz0 hz1 hz2 rfl (by decide) _ _ _ rfl (HO.out.below (below_row0 _ _)) ⟨wr.heap.size, 0, none⟩ 1 1 (vflat [⟨s, b, x⟩]) rfl (by simp [vflat]) (vnews1 _ ⟨s, b, x⟩ _) (vflat_oneCell _) (by decide) (by unfold maxLen; first | omega | (simp only [List.length_append, List.length_singleton]; omega)) (by first | omega | (simp only [List.length_append, List.length_singleton]; omega)) (by have := HB.out.size; simp; omega) (wr.heap.size + 1) (by simp) ?_; intro g' cap w3 hown hgrow _ _; (have K2 := Lib.hid (below_grown (HB.out.trans ((below_row0 wr _).mono HB.out.size)) hgrow (by have := HB.out.size; simp; omega) (fun q hq => (HO.out.lt hq).1))); have K3 := Lib.hid (OwnsV.snoc hown); clear hown hgrow; (have HPf := Lib.hid (HPP.out.below K2.out)); (have ff := HPf.out.free 1); (obtain ⟨-, A2, c2, d1, -, -⟩ := HPf.out.form); (have HE := Lib.hid (HPf.out.votes K3.out)); (have HFe := Lib.hid ((HF.out.then_below K2.out).set 1 (b := r))); (rw [HEnd.out] at HE))
        go_ret
        exact ⟨rfl, HE.out, HFe.out _⟩
end Go.Proofs.YtkcbmkedhipgeaaGreatDoor

namespace Go.Proofs.YtkcbmkedhipgeaaGreatDoor
open Go.RowKit

set_option maxRecDepth 100000 in
theorem raccept_any (r : Nat) (v : V) (A : Acc) (w : World) (h : RC w r A.p A.l) (hs : Srt 0 A.l) :
    Calls Tryz.prog 51 #[.pointer (some ⟨r, 0, none⟩), v.val] w fun e w' => e = .returned (.int .i64 (accE A v)) ∧ RC w' r (A.accept v).p (A.accept v).l ∧ Fb r w w' := by
  by_cases hok : accE A v = 0
  · have e2 : A.accept v = ⟨v.b, ins v A.l⟩ := by unfold Acc.accept; rw [if_pos hok]
    obtain ⟨h1, h2⟩ := accE_zero.1 hok
    rw [hok, e2]
    exact raccept_ok r v A.p A.l w h hs h1 (by omega)
  have e2 : A.accept v = A := by unfold Acc.accept; rw [if_neg hok]
  rw [e2]
  clear e2
  have hba : Below w.heap.size w (w.alloc (.cells v.cells 78)) := (Below.refl _ _).alloc (Nat.le_refl _) _
  have HB := Lib.hid hba
  have HP := Lib.hid (h.below hba)
  have HI := Lib.hid (risB_any v.b)
  obtain ⟨r', hr⟩ : ∃ r', decide (isB v.b) = r' := ⟨_, rfl⟩
  rw [hr] at HI
  obtain ⟨c0, -⟩ := (h.below hba).form
  have hrl := h.lt
  have HE := Lib.hid (show accE A v = if wrongE v = 0 then (if v.b < A.p then 5 else 0) else wrongE v from rfl)
  have HW := Lib.hid (show wrongE v = if 0 ≤ v.s ∧ v.s < 4096 ∧ isB v.b then (if 1024 < v.x.size then 11 else 0) else 1 from rfl)
  clear h hba hs
  obtain ⟨s, b, x⟩ := v
  by_cases h0 : s < 0
  · have e1 : wrongE ⟨s, b, x⟩ = 1 := by rw [HW.out, if_neg (fun h => by have h' : 0 ≤ s := h.1; omega)]
    have e : accE A ⟨s, b, x⟩ = 1 := by rw [HE.out, e1]; rfl
    rw [e]
    clear hok e e1 HW hr
    clear HE
    go_enter Tryz.func51, Tryz.ntmps51
    go_wp2
    go_ret
    exact ⟨rfl, HP.out, Fb.of_below HB.out⟩
  by_cases h1 : 4096 ≤ s
  · have e1 : wrongE ⟨s, b, x⟩ = 1 := by rw [HW.out, if_neg (fun h => by have h' : s < 4096 := h.2.1; omega)]
    have e : accE A ⟨s, b, x⟩ = 1 := by rw [HE.out, e1]; rfl
    rw [e]
    clear hok e e1 HW hr
    clear HE
    go_enter Tryz.func51, Tryz.ntmps51
    go_wp2
    go_ret
    exact ⟨rfl, HP.out, Fb.of_below HB.out⟩
  cases r' with
  | false =>
    have e1 : wrongE ⟨s, b, x⟩ = 1 := by rw [HW.out, if_neg (fun h => of_decide_eq_false hr h.2.2)]
    have e : accE A ⟨s, b, x⟩ = 1 := by rw [HE.out, e1]; rfl
    rw [e]
    clear hok e e1 HW hr
    clear HE
    go_enter Tryz.func51, Tryz.ntmps51
    go_wp2_with (go_at_call 69; refine (HI.out _).mono ?_; rintro e w' ⟨rfl, rfl⟩)
    go_ret
    exact ⟨rfl, HP.out, Fb.of_below HB.out⟩
  | true =>
    have hI : 0 ≤ s ∧ s < 4096 ∧ isB b := ⟨by omega, by omega, of_decide_eq_true hr⟩
    by_cases h2 : 1024 < x.size
    · have e1 : wrongE ⟨s, b, x⟩ = 11 := by rw [HW.out, if_pos hI, if_pos h2]
      have e : accE A ⟨s, b, x⟩ = 11 := by rw [HE.out, e1]; rfl
      rw [e]
      have h2I : (1024 : Int) < (x.size : Int) := by omega
      clear hok e e1 HW hr hI
      clear HE
      go_enter Tryz.func51, Tryz.ntmps51
      go_wp2_with (go_at_call 69; refine (HI.out _).mono ?_; rintro e w' ⟨rfl, rfl⟩)
      go_ret
      exact ⟨rfl, HP.out, Fb.of_below HB.out⟩
    · have e1 : wrongE ⟨s, b, x⟩ = 0 := by rw [HW.out, if_pos hI, if_neg h2]
      have h3 : b < A.p := by
        apply Classical.byContradiction
        intro hn
        exact hok (by rw [HE.out, e1, if_pos rfl, if_neg hn])
      have e : accE A ⟨s, b, x⟩ = 5 := by rw [HE.out, e1, if_pos rfl, if_pos h3]
      rw [e]
      have h2I : ¬ (1024 : Int) < (x.size : Int) := by omega
      clear hok e e1 HW hr hI HE
      have b0 := (AV.fresh 78 w ⟨s, b, x⟩).all
      have hbx : w.heap.size < (w.alloc (.cells (V.cells ⟨s, b, x⟩) 78)).heap.size := by simp
      go_enter Tryz.func51, Tryz.ntmps51
      go_wp2_with (go_at_call 69; refine (HI.out _).mono ?_; rintro e w' ⟨rfl, rfl⟩)
      generalize w.alloc (.cells (V.cells ⟨s, b, x⟩) 78) = w0 at HP HB c0 b0 hbx ⊢
      obtain ⟨b0, b1, b2⟩ := b0
      generalize hB : w.heap.size = B at *
      go_quiet (fail)
      go_wp2
      go_ret
      exact ⟨rfl, HP.out, (Fb.of_below (hB ▸ HB.out)).drewN _⟩
end Go.Proofs.YtkcbmkedhipgeaaGreatDoor
