/-
  Accept of the document's own acceptor (weirkeepref10), by a contract.
-/
import Derived.Test.YtacbodojbekeeaaDoorRprog1
namespace Go.Proofs.YtacbodojbekeeaaDoor
open Go.RowKit

/-- What the loop has, behind k votes: not yet put, or put. -/
def Half (l : List V) (v : V) (k : Nat) (d : Bool) (out : List V) : Prop :=
  (d = false ∧ (∀ y ∈ l.take k, y.s < v.s) ∧ out = l.take k) ∨ (d = true ∧ (∃ y ∈ l.take k, v.s ≤ y.s) ∧ out = ins v (l.take k))
theorem Half.start (l : List V) (v : V) : Half l v 0 false [] := .inl ⟨rfl, fun y hy => by simp at hy, rfl⟩
theorem srt_get {lo : Int} {l : List V} (h : Srt lo l) {k : Nat} {x : V} (hx : l[k]? = some x) : ∀ y ∈ l.take k, y.s < x.s := by
  induction l generalizing lo k with
  | nil => simp at hx
  | cons u l ih =>
    cases k with
    | zero => intro y hy; simp at hy
    | succ k =>
      have hx' : l[k]? = some x := by simpa using hx
      intro y hy
      rw [List.take_succ_cons] at hy
      rcases List.mem_cons.1 hy with rfl | hy
      · have := (h.2.2.mem x (List.mem_of_getElem? hx')).1; omega
      · exact ih h.2.2 hx' y hy
theorem Half.before {l : List V} {v x : V} {k : Nat} {out : List V} (h : Half l v k false out) (hx : l[k]? = some x) (hv : x.s < v.s) : Half l v (k + 1) false (out ++ [x]) := by
  rcases h with ⟨-, h1, rfl⟩ | ⟨h, -⟩
  · refine .inl ⟨rfl, fun y hy => ?_, (take_snocV hx).symm⟩
    rw [take_snocV hx] at hy
    rcases List.mem_append.1 hy with hy | hy
    · exact h1 y hy
    · rw [List.mem_singleton.1 hy]; exact hv
  · cases h
theorem Half.at_ {l : List V} {v x : V} {k : Nat} {out : List V} (h : Half l v k false out) (hx : l[k]? = some x) (hv : x.s = v.s) : Half l v (k + 1) true (out ++ [v]) := by
  rcases h with ⟨-, h1, rfl⟩ | ⟨h, -⟩
  · refine .inr ⟨rfl, ⟨x, by rw [take_snocV hx]; simp, by omega⟩, ?_⟩
    rw [take_snocV hx, ins_below h1, ins, if_neg (by omega), if_pos hv]
  · cases h
theorem Half.behind {l : List V} {v x : V} {k : Nat} {out : List V} (h : Half l v k false out) (hx : l[k]? = some x) (hv : v.s < x.s) : Half l v (k + 1) true (out ++ [v] ++ [x]) := by
  rcases h with ⟨-, h1, rfl⟩ | ⟨h, -⟩
  · refine .inr ⟨rfl, ⟨x, by rw [take_snocV hx]; simp, by omega⟩, ?_⟩
    rw [take_snocV hx, ins_below h1, ins, if_neg (by omega), if_neg (by omega)]; simp
  · cases h
theorem Half.later {lo : Int} {l : List V} {v x : V} {k : Nat} {out : List V} (hs : Srt lo l) (h : Half l v k true out) (hx : l[k]? = some x) : v.s < x.s ∧ Half l v (k + 1) true (out ++ [x]) := by
  rcases h with ⟨h, -⟩ | ⟨-, ⟨y, hy, hv⟩, rfl⟩
  · cases h
  · have := srt_get hs hx y hy
    refine ⟨by omega, .inr ⟨rfl, ⟨y, by rw [take_snocV hx]; simp [hy], hv⟩, ?_⟩⟩
    rw [take_snocV hx, ins_above ⟨y, hy, hv⟩]
theorem Half.end_ {l : List V} {v : V} {d : Bool} {out : List V} (h : Half l v l.length d out) : (if d = true then out else out ++ [v]) = ins v l := by
  rcases h with ⟨rfl, h1, rfl⟩ | ⟨rfl, -, rfl⟩
  · rw [List.take_length] at h1 ⊢
    rw [if_neg (by simp), ins_end h1]
  · rw [List.take_length, if_pos rfl]
theorem Half.len {l : List V} {v : V} {k : Nat} {d : Bool} {out : List V} (h : Half l v k d out) (hl : l.length ≤ 4096) : out.length ≤ 4097 := by
  have hk : (l.take k).length ≤ 4096 := by rw [List.length_take]; omega
  have hi : ∀ m : List V, (ins v m).length ≤ m.length + 1 := fun m => by
    induction m with
    | nil => simp [ins]
    | cons u m ih =>
      rw [ins]
      split
      · simp only [List.length_cons]; omega
      · split <;> simp
  rcases h with ⟨-, -, rfl⟩ | ⟨-, -, rfl⟩
  · omega
  · have := hi (l.take k); omega

theorem below_row0 (w : World) (o : Obj) : Below w.heap.size w (w.alloc o) := (Below.refl _ _).alloc (Nat.le_refl _) o
theorem below_row (w : World) (n : Nat) (o : Obj) : Below w.heap.size w ((w.drewN n).alloc o) := (below_drewN (Below.refl _ _) n).alloc (Nat.le_refl _) o
set_option maxRecDepth 100000 in
set_option maxHeartbeats 4000000 in
/-- The votes are put in order: the loop, and what stands behind it. -/
theorem raccept_ok (r : Nat) (v : V) (p : Int) (l : List V) (w : World) (h : RC w r p l) (hs : Srt 0 l) (h1 : wrongE v = 0) (h2 : ¬ v.b < p) :
    Calls Tryd.prog 18 #[.pointer (some ⟨r, 0, none⟩), v.val] w fun e w' => e = .returned (.int .i64 0) ∧ RC w' r v.b (ins v l) ∧ Fb r w w' := by
  obtain ⟨i0, hi0, hz0, hz1, hz2⟩ := info_parts infoR
  obtain ⟨z1, z2, z3, z4⟩ := wrongE_zero.1 h1
  have HI := Lib.hid (risB_any v.b)
  rw [decide_eq_true z3] at HI
  have hba : Below w.heap.size w (w.alloc (.cells v.cells 46)) := (Below.refl _ _).alloc (Nat.le_refl _) _
  have hl : l.length ≤ 4096 := by have := hs.len (by omega); omega
  have hp1 := (h.below hba).prom v.b
  have hv0 := AV.fresh 46 w v
  have hrl := h.lt
  have HF1 := Lib.hid ((Fb.of_below (b := r) hba).set 0 (.int .i64 v.b))
  have hv1 : AV 46 ((w.alloc (.cells v.cells 46)).setCell ⟨r, 0, none⟩ (.int .i64 v.b)) w.heap.size v := hv0.of_block (Below.heap_setCell _ _ _ _ (Nat.ne_of_gt hrl))
  obtain ⟨c0, -⟩ := (h.below hba).form
  have f0 := (h.below hba).free 0
  obtain ⟨s, b, x⟩ := v
  have g0 : ¬ s < 0 := by have : 0 ≤ s := z1; omega
  have g1 : ¬ 4096 ≤ s := by have : s < 4096 := z2; omega
  have g2 : ¬ (1024 : Int) < (x.size : Int) := by have : x.size ≤ 1024 := z4; omega
  have g3 : ¬ b < p := h2
  have HPP := Lib.hid hp1
  have HV1 := Lib.hid hv1
  clear h hba hp1 hv0 hv1 h1 h2 z1 z2 z3 z4
  go_enter Tryd.func18, Tryd.ntmps18
  go_wp2_with (go_at_call 33; refine (HI.out _).mono ?_; rintro e w' ⟨rfl, rfl⟩)
  have b0 := (AV.fresh 46 w ⟨s, b, x⟩).all
  have hzz : (w.alloc (.cells (V.cells ⟨s, b, x⟩) 46)).heap.size = w.heap.size + 1 := by simp
  have hbx : w.heap.size < (w.alloc (.cells (V.cells ⟨s, b, x⟩) 46)).heap.size := by simp
  generalize w.alloc (.cells (V.cells ⟨s, b, x⟩) 46) = w0 at HF1 HPP HV1 c0 f0 b0 hzz hbx ⊢
  obtain ⟨b0, b1, b2⟩ := b0
  generalize hB : w.heap.size = B at *
  go_quiet (fail)
  go_wp2
  have hp2 : RC ((w0.drewN nq).setCell ⟨r, 0, none⟩ (.int .i64 b)) r b l := HPP.out
  have hv2 : AV 46 ((w0.drewN nq).setCell ⟨r, 0, none⟩ (.int .i64 b)) B ⟨s, b, x⟩ := HV1.out
  have hf2 : Fb r w ((w0.drewN nq).setCell ⟨r, 0, none⟩ (.int .i64 b)) := HF1.out.drewN nq
  have hz2' : ((w0.drewN nq).setCell ⟨r, 0, none⟩ (.int .i64 b)).heap.size = B + 1 := by simp [World.setCell]; exact hzz
  clear HPP HV1 HF1 c0 f0 b0 b1 b2
  generalize (w0.drewN nq).setCell ⟨r, 0, none⟩ (.int .i64 b) = w1 at hp2 hv2 hf2 hz2' ⊢
  have HPP := Lib.hid hp2
  have HF := Lib.hid hf2
  have HS := Lib.hid hs
  have HV := Lib.hid hv2
  obtain ⟨-, A, c, hc1, -, hcm⟩ := hp2.form
  have HC1 := Lib.hid hc1
  have HCM := Lib.hid hcm
  have hrl1 := hp2.lt
  have HL0 := Lib.hid (show OwnsV 46 (w1.alloc (.cells #[] 46)) w1.heap.size (.slice (some ⟨B + 1, 0, none⟩) 0 0) [] by have := OwnsV.lit (e := 46) (Nat.le_refl w1.heap.size); rw [hz2'] at this ⊢; exact this)
  have HB0 := Lib.hid (show Below w1.heap.size w1 (w1.alloc (.cells #[] 46)) from (Below.refl _ _).alloc (Nat.le_refl _) _)
  clear hp2 hv2 hf2 hc1 hcm hbx hzz
  go_loopw [5, 6, 7] (fun u dv iv wr => ∃ (k : Nat) (d : Bool) (out : List V), k ≤ l.length ∧ iv = .int .i64 k ∧ dv = .bool d ∧ Half l ⟨s, b, x⟩ k d out ∧ OwnsV 46 wr w1.heap.size u out ∧ Below w1.heap.size w1 wr) (fun _ _ iv _ => l.length - (RowKit.intOf iv).toNat)
  case atStart => exact ⟨0, false, [], Nat.zero_le _, rfl, rfl, Half.start _ _, HL0.out, HB0.out⟩
  case round =>
    obtain ⟨k, d, out, hk, rfl, rfl, hh, ho, hb⟩ := hrel
    have HO := Lib.hid ho
    have HB := Lib.hid hb
    have hol := hh.len hl
    have HH := Lib.hid hh
    clear ho hb hh
    by_cases hlt : k < l.length
    · have hkI : (k : Int) < (l.length : Int) := by omega
      have hk0 : (0 : Int) ≤ (k : Int) := by omega
      obtain ⟨x', hx⟩ : ∃ x', l[k]? = some x' := ⟨_, List.getElem?_eq_getElem hlt⟩
      obtain ⟨g, rfl, hg, -, hv⟩ := HCM.out k x' hx
      have HX := Lib.hid hx
      have HRD := Lib.hid (fun (W : World) (hW : Below w1.heap.size w1 W) => (⟨(hW.cell (p := ⟨r, 1, none⟩) hrl1).trans HC1.out, hv.below hW hg, (HV.out.below hW).all⟩ : W.cell? ⟨r, 1, none⟩ = _ ∧ VAt W g (k * 3) x' ∧ _))
      clear hv hx HCM HC1 HV
      obtain ⟨e0, ⟨e1, e2, e3⟩, e4, e5, e6⟩ := HRD.out wr HB.out
      obtain ⟨s', b', t'⟩ := x'
      cases d with
      | true =>
        obtain ⟨hgt, hnx⟩ := HH.out.later HS.out HX.out
        have hne : (s' != s) = true := by have : s < s' := hgt; simp; omega
        have HN := Lib.hid hnx
        clear hnx HH
        go_wp2
        go_quiet (fail)
        go_wp2
        go_quiet (fail)
        go_wp2_with (at_builtin; refine wpList_append_lies _ rfl (.tmp 78) (.tmp 86) 28 rfl w1.heap.size 46 i0 _ 3 32 Tryd.underlying28 hi0 hz0 hz1 hz2 rfl (by decide) _ _ _ rfl (HO.out.below (below_row _ _ _)) ⟨wr.heap.size, 0, none⟩ 1 1 (vflat [⟨s', b', t'⟩]) rfl (by simp [vflat]) (vnews1 _ ⟨s', b', t'⟩ _) (vflat_oneCell _) (by decide) (by unfold maxLen; omega) (by omega) (by have := HB.out.size; simp; omega) (wr.heap.size + 1) (by simp) ?_; intro g' cap w3 hown hgrow _ _; (have K2 := Lib.hid (below_grown (HB.out.trans ((below_row wr _ _).mono HB.out.size)) hgrow (by have := HB.out.size; simp; omega) (fun q hq => (HO.out.lt hq).1))); have K3 := Lib.hid (OwnsV.snoc hown); clear hown hgrow)
        go_wp2
        go_roundw
        case rel => exact ⟨k + 1, true, _, by omega, by go_num, rfl, HN.out, by simpa using K3.out, K2.out⟩
        case measure => simp only [RowKit.intOf]; omega
      | false =>
        by_cases hlo : s' < s
        · have HN := Lib.hid (HH.out.before HX.out hlo)
          have hne : (s' != s) = true := by simp; omega
          have hge : ¬ s ≤ s' := by omega
          clear HH
          go_wp2
          go_quiet (fail)
          go_wp2
          go_quiet (fail)
          go_wp2_with (at_builtin; refine wpList_append_lies _ rfl (.tmp 78) (.tmp 86) 28 rfl w1.heap.size 46 i0 _ 3 32 Tryd.underlying28 hi0 hz0 hz1 hz2 rfl (by decide) _ _ _ rfl (HO.out.below (below_row _ _ _)) ⟨wr.heap.size, 0, none⟩ 1 1 (vflat [⟨s', b', t'⟩]) rfl (by simp [vflat]) (vnews1 _ ⟨s', b', t'⟩ _) (vflat_oneCell _) (by decide) (by unfold maxLen; first | omega | (simp only [List.length_append, List.length_singleton]; omega)) (by first | omega | (simp only [List.length_append, List.length_singleton]; omega)) (by have := HB.out.size; simp; omega) (wr.heap.size + 1) (by simp) ?_; intro g' cap w3 hown hgrow _ _; (have K2 := Lib.hid (below_grown (HB.out.trans ((below_row wr _ _).mono HB.out.size)) hgrow (by have := HB.out.size; simp; omega) (fun q hq => (HO.out.lt hq).1))); have K3 := Lib.hid (OwnsV.snoc hown); clear hown hgrow)
          go_wp2
          go_roundw
          case rel => exact ⟨k + 1, false, _, by omega, by go_num, rfl, HN.out, by simpa using K3.out, K2.out⟩
          case measure => simp only [RowKit.intOf]; omega
        · have hge : s ≤ s' := by omega
          by_cases heq : s' = s
          · have HN := Lib.hid (HH.out.at_ HX.out heq)
            subst heq
            clear HH
            go_wp2
            go_quiet (fail)
            go_wp2_with (at_builtin; refine wpList_append_lies _ rfl (.tmp 63) (.tmp 65) 28 rfl w1.heap.size 46 i0 _ 3 32 Tryd.underlying28 hi0 hz0 hz1 hz2 rfl (by decide) _ _ _ rfl (HO.out.below (below_row _ _ _)) ⟨wr.heap.size, 0, none⟩ 1 1 (vflat [⟨s', b, x⟩]) rfl (by simp [vflat]) (vnews1 _ ⟨s', b, x⟩ _) (vflat_oneCell _) (by decide) (by unfold maxLen; first | omega | (simp only [List.length_append, List.length_singleton]; omega)) (by first | omega | (simp only [List.length_append, List.length_singleton]; omega)) (by have := HB.out.size; simp; omega) (wr.heap.size + 1) (by simp) ?_; intro g' cap w3 hown hgrow _ _; (have K2 := Lib.hid (below_grown (HB.out.trans ((below_row wr _ _).mono HB.out.size)) hgrow (by have := HB.out.size; simp; omega) (fun q hq => (HO.out.lt hq).1))); have K3 := Lib.hid (OwnsV.snoc hown); clear hown hgrow)
            obtain ⟨r0, ⟨r1, r2, r3⟩, r4, r5, r6⟩ := HRD.out w3 K2.out
            go_quiet (fail)
            go_wp2
            go_roundw
            case rel => exact ⟨k + 1, true, _, by omega, by go_num, rfl, HN.out, (show OwnsV 46 w3 w1.heap.size _ _ by simpa using K3.out), below_drewN K2.out _⟩
            case measure => simp only [RowKit.intOf]; omega
          · have HN := Lib.hid (HH.out.behind HX.out (by show s < s'; omega))
            have hne : (s' != s) = true := by simp; omega
            clear HH
            go_wp2
            go_quiet (fail)
            go_wp2_with (at_builtin; refine wpList_append_lies _ rfl (.tmp 63) (.tmp 65) 28 rfl w1.heap.size 46 i0 _ 3 32 Tryd.underlying28 hi0 hz0 hz1 hz2 rfl (by decide) _ _ _ rfl (HO.out.below (below_row _ _ _)) ⟨wr.heap.size, 0, none⟩ 1 1 (vflat [⟨s, b, x⟩]) rfl (by simp [vflat]) (vnews1 _ ⟨s, b, x⟩ _) (vflat_oneCell _) (by decide) (by unfold maxLen; first | omega | (simp only [List.length_append, List.length_singleton]; omega)) (by first | omega | (simp only [List.length_append, List.length_singleton]; omega)) (by have := HB.out.size; simp; omega) (wr.heap.size + 1) (by simp) ?_; intro g' cap w3 hown hgrow _ _; (have K2 := Lib.hid (below_grown (HB.out.trans ((below_row wr _ _).mono HB.out.size)) hgrow (by have := HB.out.size; simp; omega) (fun q hq => (HO.out.lt hq).1))); have K3 := Lib.hid (OwnsV.snoc hown); clear hown hgrow)
            obtain ⟨r0, ⟨r1, r2, r3⟩, r4, r5, r6⟩ := HRD.out w3 K2.out
            go_quiet (fail)
            go_wp2_with (at_builtin; refine wpList_append_lies _ rfl (.tmp 78) (.tmp 86) 28 rfl w1.heap.size 46 i0 _ 3 32 Tryd.underlying28 hi0 hz0 hz1 hz2 rfl (by decide) _ _ _ rfl (K3.out.below (below_row _ _ _)) ⟨w3.heap.size, 0, none⟩ 1 1 (vflat [⟨s', b', t'⟩]) rfl (by simp [vflat]) (vnews1 _ ⟨s', b', t'⟩ _) (vflat_oneCell _) (by decide) (by unfold maxLen; first | omega | (simp only [List.length_append, List.length_singleton]; omega)) (by first | omega | (simp only [List.length_append, List.length_singleton]; omega)) (by have := K2.out.size; simp; omega) (w3.heap.size + 1) (by simp) ?_; intro g' cap w4 hown hgrow _ _; (have K4 := Lib.hid (below_grown (K2.out.trans ((below_row w3 _ _).mono K2.out.size)) hgrow (by have := K2.out.size; simp; omega) (fun q hq => (K3.out.lt hq).1))); have K5 := Lib.hid (OwnsV.snoc hown); clear hown hgrow)
            go_wp2
            go_roundw
            case rel => exact ⟨k + 1, true, _, by omega, by go_num, rfl, HN.out, by simpa using K5.out, K4.out⟩
            case measure => simp only [RowKit.intOf]; omega
    · obtain rfl : k = l.length := by omega
      have hlI : ¬ ((l.length : Int) < (l.length : Int)) := by omega
      have hend := HH.out.end_
      have e0 := (HB.out.cell (p := ⟨r, 1, none⟩) hrl1).trans HC1.out
      have HPe := Lib.hid (HPP.out.below HB.out)
      obtain ⟨e4, e5, e6⟩ := (HV.out.below HB.out).all
      have fe := HPe.out.free 1
      clear HCM HH
      cases d with
      | true =>
        rw [if_pos rfl] at hend
        subst hend
        have HE := Lib.hid (HPe.out.votes HO.out)
        have HFe := Lib.hid ((HF.out.then_below HB.out).set 1 (b := r))
        obtain ⟨A1, c1, rfl⟩ := HO.out.shape
        go_wp2
        go_ret
        exact ⟨rfl, HE.out, HFe.out _⟩
      | false =>
        rw [if_neg (by simp)] at hend
        have HEnd := Lib.hid hend
        clear hend
        go_wp2_with (at_builtin; refine wpList_append_lies _ rfl (.tmp 90) (.tmp 92) 28 rfl w1.heap.size 46 i0 _ 3 32 Tryd.underlying28 hi0 hz0 hz1 hz2 rfl (by decide) _ _ _ rfl (HO.out.below (below_row0 _ _)) ⟨wr.heap.size, 0, none⟩ 1 1 (vflat [⟨s, b, x⟩]) rfl (by simp [vflat]) (vnews1 _ ⟨s, b, x⟩ _) (vflat_oneCell _) (by decide) (by unfold maxLen; first | omega | (simp only [List.length_append, List.length_singleton]; omega)) (by first | omega | (simp only [List.length_append, List.length_singleton]; omega)) (by have := HB.out.size; simp; omega) (wr.heap.size + 1) (by simp) ?_; intro g' cap w3 hown hgrow _ _; (have K2 := Lib.hid (below_grown (HB.out.trans ((below_row0 wr _).mono HB.out.size)) hgrow (by have := HB.out.size; simp; omega) (fun q hq => (HO.out.lt hq).1))); have K3 := Lib.hid (OwnsV.snoc hown); clear hown hgrow; (have HPf := Lib.hid (HPP.out.below K2.out)); (have ff := HPf.out.free 1); (obtain ⟨-, A2, c2, d1, -, -⟩ := HPf.out.form); (have HE := Lib.hid (HPf.out.votes K3.out)); (have HFe := Lib.hid ((HF.out.then_below K2.out).set 1 (b := r))); (rw [HEnd.out] at HE))
        go_ret
        exact ⟨rfl, HE.out, HFe.out _⟩
end Go.Proofs.YtacbodojbekeeaaDoor
