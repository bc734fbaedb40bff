/-
  start, New and Power of the package's server, by contracts.

  What is known of a server as plain data, behind each call; the calls of the package's server beside blocks of one's own; that a server answers (the laws' own 'shown').

  What a server answers to one message, as plain data: a message that it hears; an epoch, a time, a write of a client, one behind the other.
-/
import Derived.Test.YtmmpknfkncgjpaaGreatDoorM44
import Derived.Test.YtmmpknfkncgjpaaGreatDoorM42
import Derived.Test.YtmmpknfkncgjpaaGreatDoorM46
namespace Go.Proofs.YtmmpknfkncgjpaaGreatDoor
open Go.RowKit

theorem Keeps.mono {F G : Nat → Prop} {w w' : World} (h : Keeps F w w') (hF : ∀ k, F k → G k) : Keeps G w w' := ⟨h.os, h.tape, h.output, h.size, fun k hk hn => h.block k hk fun e => hn (hF k e)⟩
/-- What a server has that starts. -/
noncomputable def L0 (s : St) (n : Nat) : Lay := scan (readB s) n n
set_option maxRecDepth 100000 in
set_option maxHeartbeats 8000000 in
theorem start_any {w : World} {tb pb : Nat} {id : Int} {s : St} {n : Nat} {Fp : Nat → Prop} {f : Nat → Value} (hP : PB w pb s Fp) (hr : w.rowIs tb 42 6 f) (f0 : f 0 = .pointer (some ⟨pb, 0, none⟩)) (f1 : f 1 = .int .i64 id) (htb : ¬ Fp tb) (hG : Good s) (hgo : s.gone = false) (hn : s.is.length = n) (hT : Tab w) (hF : ¬ Fp 1) :
    Calls Tryz.prog 29 #[.pointer (some ⟨tb, 0, none⟩)] w fun e w' => e = .returned (.tuple #[]) ∧ Goes (fun k => Fp k ∨ k = tb) w w' ((SVo tb id s (L0 s n) Sv.new 0).at_ w') := by
  have HO := Lib.hid (open_yes9 hP hG hgo hn hT hF)
  have c0 := hr.cell (i := 0) (by omega)
  rw [f0] at c0
  have htl := hr.lt
  have HR := Lib.hid hr
  have HF1 := Lib.hid f1
  have HF0 := Lib.hid f0
  have hmm := @run_makeMap Tryz.prog
  have HTb := Lib.hid htb
  clear hP hr f0 f1 hG hgo hn hT hF htb
  go_enter Tryz.func29, Tryz.ntmps29
  go_wp2_with fail
  go_at_call 65
  refine HO.out.mono ?_
  rintro e w1 ⟨sb, mb, rfl, hg⟩
  obtain ⟨F1, g1, g2, g3⟩ := hg
  have S1 := Lib.hid g1
  have G2 := Lib.hid g2
  have K1 := Lib.hid g3
  have HTn := Lib.hid (show ¬ F1 tb from fun e => by
    rcases g2 tb e with e | e
    · exact HTb.out e
    · omega)
  have R1 := Lib.hid (g3.row HR.out HTb.out)
  have S1lt := Lib.hid (fun k (hk : F1 k) => (show k < w1.heap.size from g1.lt k hk))
  have t2 := R1.out.frozen 2
  have x2 := R1.out.cell (i := 2) (by omega)
  clear g1 g2 g3 HO HR
  go_upto_region 1 with fail
  have R2 := Lib.hid (R1.out.set 2 (.pointer (some ⟨sb, 0, none⟩)))
  have K2 := Lib.hid (show Keeps (fun k => Fp k ∨ k = tb) w (w1.setCell ⟨tb, 2, none⟩ (.pointer (some ⟨sb, 0, none⟩))) from (Keeps.mono K1.out (fun k h => .inl h)).set (.inl (.inr rfl)) _)
  have S2 := Lib.hid (S1.out.keeps ((Keeps.refl (fun k => k = tb) w1).set (.inl rfl) (b := tb) (o := 2) (.pointer (some ⟨sb, 0, none⟩))) (fun k hk e => HTn.out (e ▸ hk)))
  clear R1 K1 S1 t2 x2 c0
  have HW12 := Lib.hid (show w1.heap.size ≤ (w1.setCell ⟨tb, 2, none⟩ (.pointer (some ⟨sb, 0, none⟩))).heap.size from by simp [World.setCell])
  generalize w1.setCell ⟨tb, 2, none⟩ (.pointer (some ⟨sb, 0, none⟩)) = w2 at R2 K2 S2 HW12 ⊢
  have t3 := R2.out.frozen 3
  have x3 := R2.out.cell (i := 3) (by omega)
  go_upto_region 2 with fail
  have R3 := Lib.hid (R2.out.set 3 (.int .i64 0))
  have K3 := Lib.hid (K2.out.set (.inl (.inr rfl)) (b := tb) (o := 3) (.int .i64 0))
  have S3 := Lib.hid (S2.out.keeps ((Keeps.refl (fun k => k = tb) w2).set (.inl rfl) (b := tb) (o := 3) (.int .i64 0)) (fun k hk e => HTn.out (e ▸ hk)))
  clear R2 K2 S2 t3 x3
  have HW13 := Lib.hid (show w1.heap.size ≤ (w2.setCell ⟨tb, 3, none⟩ (.int .i64 0)).heap.size from by have := HW12.out; simpa [World.setCell] using this)
  generalize w2.setCell ⟨tb, 3, none⟩ (.int .i64 0) = w3 at R3 K3 S3 HW13 ⊢
  have hl3 := R3.out.lt
  have t4 := R3.out.frozen 4
  have x4 := R3.out.cell (i := 4) (by omega)
  have hu3 := K3.out.size
  go_upto_region 3 with fail
  have R4 := Lib.hid (R3.out.set 4 (.map (some w3.heap.size)))
  have K4 := Lib.hid (K3.out.set (.inl (.inr rfl)) (b := tb) (o := 4) (.map (some w3.heap.size)))
  have S4 := Lib.hid (S3.out.keeps ((Keeps.refl (fun k => k = tb) _).set (.inl rfl) (b := tb) (o := 4) (.map (some w3.heap.size))) (fun k hk e => HTn.out (e ▸ hk)))
  have hz4 : (w3.setCell ⟨tb, 4, none⟩ (.map (some w3.heap.size))).heap.size = w3.heap.size := by simp [World.setCell]
  generalize hub : w3.heap.size = ub at R4 K4 S4 hl3 hu3 hz4 HW13 ⊢
  generalize w3.setCell ⟨tb, 4, none⟩ (.map (some ub)) = w4 at R4 K4 S4 hz4 ⊢
  have hb5 : Below w4.heap.size w4 (w4.alloc (.map #[] 0)) := (Below.refl _ _).alloc (Nat.le_refl _) _
  have R5 := Lib.hid (R4.out.of_block (hb5.block _ (by omega)))
  have K5 := Lib.hid (K4.out.then_below hb5)
  have S5 := Lib.hid (S4.out.below hb5)
  have U5 := Lib.hid (hz4 ▸ Mp.made elI w4)
  have hz5 : (w4.alloc (.map #[] 0)).heap.size = ub + 1 := by simp [hz4]
  clear R3 K3 S3 t4 x4 R4 K4 S4 hb5
  generalize w4.alloc (.map #[] 0) = w5 at R5 K5 S5 U5 hz5 ⊢
  have t5 := R5.out.frozen 5
  have x5 := R5.out.cell (i := 5) (by omega)
  have hu5 := K5.out.size
  have hl5 := R5.out.lt
  go_wp2
  have R6 := Lib.hid (R5.out.set 5 (.map (some w5.heap.size)))
  have K6 := Lib.hid (K5.out.set (.inl (.inr rfl)) (b := tb) (o := 5) (.map (some w5.heap.size)))
  have S6 := Lib.hid (S5.out.keeps ((Keeps.refl (fun k => k = tb) _).set (.inl rfl) (b := tb) (o := 5) (.map (some w5.heap.size))) (fun k hk e => HTn.out (e ▸ hk)))
  have U6 := Lib.hid (U5.out.of_block (Below.heap_setCell w5 ⟨tb, 5, none⟩ (.map (some w5.heap.size)) ub (by show ub ≠ tb; omega)))
  have hz6 : (w5.setCell ⟨tb, 5, none⟩ (.map (some w5.heap.size))).heap.size = ub + 1 := by simp [World.setCell, hz5]
  clear R5 K5 S5 U5 t5 x5
  rw [hz5] at R6 K6 S6 U6 hz6
  generalize w5.setCell ⟨tb, 5, none⟩ (.map (some (ub + 1))) = w6 at R6 K6 S6 U6 hz6 ⊢
  have hb7 : Below w6.heap.size w6 (w6.alloc (.map #[] 0)) := (Below.refl _ _).alloc (Nat.le_refl _) _
  have R7 := Lib.hid (R6.out.of_block (hb7.block _ (by omega)))
  have K7 := Lib.hid (K6.out.then_below hb7)
  have S7 := Lib.hid (S6.out.below hb7)
  have U7 := Lib.hid (U6.out.below hb7)
  have V7 := Lib.hid (hz6 ▸ Mp.made elW w6)
  clear R6 K6 S6 U6 hb7
  generalize w6.alloc (.map #[] 0) = w7 at R7 K7 S7 U7 V7 ⊢
  go_end0
  refine ⟨rfl, fun k => F1 k ∨ k = tb ∨ k = ub ∨ k = ub + 1, ⟨pb, sb, mb, ub, ub + 1, _, _, F1, S7.out, ⟨R7.out.congr fun o ho => ?_, ?_, ?_, by omega⟩, fun e => (by cases e), fun k hk => ?_, fun k => Iff.rfl⟩, fun k hk => ?_, K7.out⟩
  · unfold hdf
    have : o = 0 ∨ o = 1 ∨ o = 2 ∨ o = 3 ∨ o = 4 ∨ o = 5 := by omega
    rcases this with rfl | rfl | rfl | rfl | rfl | rfl <;> simp [HF0.out, HF1.out, Sv.new]
  · rw [gU_new]; exact U7.out
  · rw [gK_new]; exact V7.out
  · have h1 := S1lt.out k hk
    have h2 : k ≠ tb := fun e => HTn.out (e ▸ hk)
    have h3 := HW13.out
    exact ⟨h2, by omega, by omega⟩
  · rcases hk with hk | rfl | rfl | rfl
    · rcases G2.out k hk with h | h
      · exact .inl (.inl h)
      · exact .inr h
    · exact .inl (.inr rfl)
    · exact .inr (by omega)
    · exact .inr (by omega)
theorem SVo.goes_mono {F : Nat → Prop} {w w' : World} {tb : Nat} {id : Int} {s : St} {L : Lay} {v : Sv} {N N' : Nat} (h : Goes F w w' ((SVo tb id s L v N).at_ w')) (hN : N ≤ N') : Goes F w w' ((SVo tb id s L v N').at_ w') := by
  obtain ⟨F', h1, h2, h3⟩ := h
  exact ⟨F', SVo.mono h1 hN, h2, h3⟩
theorem L0_fresh (k : Int) : L0 (fresh k) (size0 k) = List.replicate (size0 k) none := by
  have := (fresh_fit k).opens.1
  rw [List.length_replicate] at this
  exact this
set_option maxRecDepth 100000 in
set_option maxHeartbeats 4000000 in
theorem svnew_any (id k : Int) (w : World) (hT : Tab w) :
    Calls Tryz.prog 12 #[.int .i64 id, .int .i64 k] w fun e w' => ∃ tb : Nat, e = .returned (.pointer (some ⟨tb, 0, none⟩)) ∧ Goes (fun _ => False) w w' ((SVo tb id (fresh k) (List.replicate (size0 k) none) Sv.new 0).at_ w') := by
  have HN := Lib.hid (new_any k w)
  have HT := Lib.hid hT
  have hh : (1 : Nat) < w.heap.size := World.block_lt_of_cell? w _ (hT 0 (by decide))
  clear hT
  go_enter Tryz.func12, Tryz.ntmps12
  go_wp2_with fail
  go_at_call 28
  refine HN.out.mono ?_
  rintro e w1 ⟨rfl, F0, h1, h2, h3⟩
  generalize w.heap.size = pb at h1 ⊢
  have hb2 : Below w1.heap.size w1 (w1.alloc (.cells #[.pointer (some ⟨pb, 0, none⟩), .int .i64 id, .pointer none, .int .i64 0, .map none, .map none] 42)) := (Below.refl _ _).alloc (Nat.le_refl _) _
  have hr : (w1.alloc (.cells #[.pointer (some ⟨pb, 0, none⟩), .int .i64 id, .pointer none, .int .i64 0, .map none, .map none] 42)).rowIs w1.heap.size 42 6 (fun o => #[Value.pointer (some ⟨pb, 0, none⟩), .int .i64 id, .pointer none, .int .i64 0, .map none, .map none].getD o undef) :=
    World.rowIs_alloc w1 #[.pointer (some ⟨pb, 0, none⟩), .int .i64 id, .pointer none, .int .i64 0, .map none, .map none] 42 _ (fun i hi => by
      rcases i with _ | _ | _ | _ | _ | _ | i
      · rfl
      · rfl
      · rfl
      · rfl
      · rfl
      · rfl
      · simp at hi; omega)
  have P2 := Lib.hid (pb_below h1 hb2)
  have hF0 : ∀ q, F0 q → w.heap.size ≤ q := fun q hq => (h2 q hq).elim (fun h => h.elim) (fun h => h)
  have ht1 : ¬ F0 w1.heap.size := fun e => Nat.lt_irrefl _ (h1.lt _ e)
  have ht2 : ¬ F0 1 := fun e => by have := hF0 _ e; omega
  have HSt := Lib.hid (start_any P2.out hr rfl rfl ht1 (Good.fresh k) rfl (n := size0 k) (by simp [fresh]) ((HT.out.below (h3.below (Below.refl _ _) (Nat.le_refl _) (fun _ h => h.elim))).below hb2) ht2)
  have K1 := Lib.hid h3
  have HF0 := Lib.hid hF0
  have hz := h3.size
  clear h1 h2 h3 hr ht1 ht2 hF0 P2
  go_wp2_with fail
  generalize w1.alloc (.cells #[.pointer (some ⟨pb, 0, none⟩), .int .i64 id, .pointer none, .int .i64 0, .map none, .map none] 42) = w2 at HSt hb2 ⊢
  generalize htb : w1.heap.size = tb at HSt hb2 hz ⊢
  go_at_call 29
  refine HSt.out.mono ?_
  rintro e w3 ⟨rfl, hg⟩
  have G := Lib.hid hg
  clear hg
  go_wp2
  go_ret
  refine ⟨tb, rfl, ?_⟩
  have hg := G.out
  rw [L0_fresh] at hg
  refine Goes.trans (fun q hq => .inr ?_) (K1.out.then_below (by rw [htb]; exact hb2)) hg
  rcases hq with hq | rfl
  · exact HF0.out q hq
  · exact hz

section
variable {w : World} {tb : Nat} {id : Int} {s : St} {L : Lay} {v : Sv} {N : Nat} {F : Nat → Prop}
noncomputable def pwO (n : Nat) (s : St) (L : Lay) (v : Sv) : St × Lay × Sv := if s.gone = true then (power s, L0 (power s) n, Sv.new) else (s, L, v)
set_option maxRecDepth 100000 in
set_option maxHeartbeats 4000000 in
theorem svpower_any (h : (SVo tb id s L v N).at_ w F) (hT : Tab w) (hF : ¬ F 1) {n c : Nat} (hR : Rest s n c) :
    Calls Tryz.prog 26 #[.pointer (some ⟨tb, 0, none⟩)] w fun e w' => e = .returned (.tuple #[]) ∧ Goes F w w' ((SVo tb id (pwO n s L v).1 (pwO n s L v).2.1 (pwO n s L v).2.2 N).at_ w') := by
  obtain ⟨pb, sb, mb, ub, kb, odd, lost, F1, Fp, hS, hH, hl, hP, hF1, hFp, ft, fu, fk, hnt, -⟩ := SVo.parts h
  obtain ⟨c0, -⟩ := hH.cells
  have HD := Lib.hid (dead_any pb s Fp _ hP)
  have HPw := Lib.hid (power_any pb s Fp w hP)
  have S0 := Lib.hid h
  have hh : (1 : Nat) < w.heap.size := World.block_lt_of_cell? w _ (hT 0 (by decide))
  unfold pwO
  cases hgo : s.gone with
  | false =>
    rw [hgo] at HD
    rw [if_neg (by simp)]
    clear hS hH hl hP h hT HPw hh
    go_enter Tryz.func26, Tryz.ntmps26
    go_wp2_with fail
    go_at_call 15
    refine HD.out.mono ?_
    rintro e w3 ⟨rfl, rfl⟩
    go_wp2
    go_end0
    exact ⟨rfl, Ob.still _ S0.out (Below.refl _ _) (Below.refl _ _)⟩
  | true =>
    rw [hgo] at HD
    rw [if_pos rfl]
    have HRw := Lib.hid hH.row
    have hlt := hH.lt.1
    have HTt := Lib.hid hT
    have HFp := Lib.hid (fun k (e : Fp k) => (⟨hF1 k (hFp k e), fun e2 => hnt (by rw [← e2]; exact hFp k e)⟩ : F k ∧ k ≠ tb))
    have HFt := Lib.hid ft
    have HFh := Lib.hid hF
    have HPl := Lib.hid (fun k (e : Fp k) => hP.lt k e)
    clear hS hH hl hP h hT S0 hF1 hFp ft fu fk hnt hF
    go_enter Tryz.func26, Tryz.ntmps26
    go_wp2_with fail
    go_at_call 15
    refine HD.out.mono ?_
    rintro e w3 ⟨rfl, rfl⟩
    go_wp2_with fail
    go_at_call 63
    refine HPw.out.mono ?_
    rintro e w4 ⟨rfl, F2, g1, g2, g3⟩
    have hr4 := g3.row HRw.out (fun e => (HFp.out _ e).2 rfl)
    have ht4 : ¬ F2 tb := fun e => by
      rcases g2 _ e with e | e
      · exact (HFp.out _ e).2 rfl
      · omega
    have hh4 : ¬ F2 1 := fun e => by
      rcases g2 _ e with e | e
      · exact HFh.out (HFp.out _ e).1
      · omega
    have hT4 : Tab w4 := fun i hi => g3.cell (HTt.out i hi) (fun e => HFh.out (HFp.out _ e).1)
    have HSt := Lib.hid (start_any g1 hr4 rfl rfl ht4 hR.good.power rfl hR.len hT4 hh4)
    have K4 := Lib.hid (Keeps.mono g3 (fun k e => (HFp.out k e).1))
    have G2 := Lib.hid g2
    clear g1 g2 g3 hr4 ht4 hh4 hT4 HD HPw HRw c0
    go_wp2_with fail
    go_at_call 29
    refine HSt.out.mono ?_
    rintro e w5 ⟨rfl, hg⟩
    have G := Lib.hid hg
    clear hg
    go_wp2
    go_end0
    refine ⟨rfl, SVo.goes_mono (Goes.trans (fun q hq => ?_) K4.out G.out) (Nat.zero_le _)⟩
    rcases hq with hq | rfl
    · rcases G2.out q hq with e | e
      · exact .inl (HFp.out q e).1
      · exact .inr e
    · exact .inl HFt.out
/-- The plate beneath it turns: what Crash and Cut leave. -/
theorem svplate (h : (SVo tb id s L v N).at_ w F) : ∃ pb Fp, w.cell? ⟨tb, 0, none⟩ = some (.pointer (some ⟨pb, 0, none⟩)) ∧ PB w pb s Fp ∧ (∀ w' s2, (s.gone = true → s2.gone = true) → Goes Fp w w' (PB w' pb s2) → Goes F w w' ((SVo tb id s2 L v N).at_ w')) := by
  obtain ⟨pb, sb, mb, ub, kb, odd, lost, F1, Fp, hS, hH, hl, hP, hF1, hFp, ft, fu, fk, hnt, k1, k2, k3⟩ := SVo.parts h
  exact ⟨pb, Fp, hH.cells.1, hP, k2⟩
end
end Go.Proofs.YtmmpknfkncgjpaaGreatDoor

namespace Go.Proofs.YtmmpknfkncgjpaaGreatDoor
open Go.RowKit

/-! ### as plain data -/
structure PS (n c : Nat) (s : St) (L : Lay) (v : Sv) : Prop where
  nice : Nice s L n c
  tm : v.tm.length = 8
section
variable {n c : Nat} {s : St} {L : Lay} {v : Sv}
theorem PS.mono (h : PS n c s L v) {c' : Nat} (hc : c ≤ c') : PS n c' s L v := ⟨h.nice.mono hc, h.tm⟩
theorem PS.fresh (k : Int) : PS (size0 k) 0 (fresh k) (List.replicate (size0 k) none) Sv.new := ⟨Nice.fresh k, by simp [Sv.new]⟩
theorem Nice.wdo (h : Nice s L n c) (hg : s.gone = false) (b : Bk) : Nice (wDo L s b).2.1 (wDo L s b).2.2 n (c + 4) := by
  unfold wDo
  split
  · exact h.mono (Nat.le_add_right _ _)
  · exact h.put (h.fit hg).good b
theorem Nice.wrt (h : Nice s L n c) (hg : s.gone = false) (m : M) (now : Int) : Nice (wrtO L s v m now).2.1 (wrtO L s v m now).2.2.1 n (c + 4) := by
  have h0 := h.mono (Nat.le_add_right c 4)
  unfold wrtO
  split
  · exact h0
  split
  · exact h0
  split
  · exact h0
  split
  · split
    · exact h0
    split
    · exact h0
    · exact h.wdo hg _
  · exact h.wdo hg _
theorem PS.handle (h : PS n c s L v) (id : Int) (m : M) (now : Int) : PS n (c + 4) (hS id s L v m now).1 (hS id s L v m now).2.1 (hS id s L v m now).2.2 := by
  have h0 := h.mono (Nat.le_add_right c 4)
  unfold hS
  split
  · rename_i hh
    unfold hO
    split
    · exact h0
    split
    · exact ⟨h.nice.wrt hh.1 m now, h.tm⟩
    split
    · refine ⟨h0.nice, ?_⟩
      show (tmO v m).2.length = 8
      unfold tmO
      split
      · exact h.tm
      split
      · exact h.tm
      · show (v.tm.set _ _).length = 8
        rw [List.length_set]; exact h.tm
    · exact ⟨h0.nice, h.tm⟩
  · exact h0
end

/-! ### beside blocks of one's own -/
theorem Hold.start {w0 w w' : World} {X : Ob} {O : Nat → Prop} (hb : Below w0.heap.size w0 w) (hg : Goes (fun _ => False) w w' (X.at_ w')) (hO : ∀ k, O k → k < w.heap.size) : Hold w0 w' X O ∧ Kept O w w' := by
  obtain ⟨F, h1, h2, h3⟩ := hg
  refine ⟨⟨F, h1, fun k hk => ?_, h3.below hb hb.size (fun _ h => h.elim), fun k hk => ⟨fun hf => ?_, Nat.lt_of_lt_of_le (hO k hk) h3.size⟩⟩, fun k hk => h3.block k (hO k hk) (fun h => h)⟩
  · rcases h2 k hk with h | h
    · exact h.elim
    · exact Nat.le_trans hb.size h
  · rcases h2 k hf with h | h
    · exact h
    · have := hO k hk; omega
section
variable {w0 w : World} {tb : Nat} {id : Int} {s : St} {L : Lay} {v : Sv} {N n c : Nat} {O : Nat → Prop}
theorem hd_new (hb : Below w0.heap.size w0 w) (hT : Tab w0) (id k : Int) (hO : ∀ k, O k → k < w.heap.size) :
    Calls Tryz.prog 12 #[.int .i64 id, .int .i64 k] w fun e w' => ∃ tb : Nat, e = .returned (.pointer (some ⟨tb, 0, none⟩)) ∧ Hold w0 w' (SVo tb id (fresh k) (List.replicate (size0 k) none) Sv.new 0) O ∧ Kept O w w' := by
  refine (svnew_any id k w (hT.below hb)).mono ?_
  rintro e w' ⟨tb, he, hg⟩
  exact ⟨tb, he, Hold.start hb hg hO⟩
theorem halves_out (hT : Tab w0) {F : Nat → Prop} (h : ∀ k, F k → w0.heap.size ≤ k) : ¬ F 1 := fun e => by
  have := h _ e
  have hh : (1 : Nat) < w0.heap.size := World.block_lt_of_cell? w0 _ (hT 0 (by decide))
  omega
theorem hd_handle (h : Hold w0 w (SVo tb id s L v N) O) (hT : Tab w0) (hE : ErrType w0) (hP : PS n c s L v) (hc : c ≤ 900000) (hN : N < 900000) (m : M) (hk : i64 m.kind) (now : Int) :
    Calls Tryz.prog 24 #[.pointer (some ⟨tb, 0, none⟩), m.val, .int .i64 now] w fun e w' => e = .returned (.tuple #[(hA id s L v m now).1.val, .bool (hA id s L v m now).2]) ∧ Hold w0 w' (SVo tb id (hS id s L v m now).1 (hS id s L v m now).2.1 (hS id s L v m now).2.2 (N + 1)) O ∧ Kept O w w' := by
  obtain ⟨F, h1, h2, h3⟩ := h.go
  exact (shandle_any h1 (hE.below h.bel) (hT.below h.bel) (halves_out hT h2) hP.nice.rest hc hP.nice.len hN hP.tm m hk now).mono fun e w' ⟨he, hg⟩ => ⟨he, h3 _ _ hg⟩
theorem hd_get (h : Hold w0 w (SVo tb id s L v N) O) {i : Int} (hi : i64 i) :
    Calls Tryz.prog 27 #[.pointer (some ⟨tb, 0, none⟩), .int .i64 i] w fun e w' => e = .returned (.tuple #[(gO s L i).1.val, .int .i64 (gO s L i).2]) ∧ Below w.heap.size w w' := by
  obtain ⟨F, h1, -⟩ := h
  exact svget_any h1 hi
theorem hd_list (h : Hold w0 w (SVo tb id s L v N) O) :
    Calls Tryz.prog 17 #[.pointer (some ⟨tb, 0, none⟩)] w fun e w' => ∃ v, e = .returned v ∧ OwnsB 34 w' w.heap.size v (listL L) ∧ Below w.heap.size w w' := by
  obtain ⟨F, h1, -⟩ := h
  exact svlist_any h1
theorem hd_power (h : Hold w0 w (SVo tb id s L v N) O) (hT : Tab w0) (hP : PS n c s L v) :
    Calls Tryz.prog 26 #[.pointer (some ⟨tb, 0, none⟩)] w fun e w' => e = .returned (.tuple #[]) ∧ Hold w0 w' (SVo tb id (pwO n s L v).1 (pwO n s L v).2.1 (pwO n s L v).2.2 N) O ∧ Kept O w w' := by
  obtain ⟨F, h1, h2, h3⟩ := h.go
  exact (svpower_any h1 (hT.below h.bel) (halves_out hT h2) hP.nice.rest).mono fun e w' ⟨he, hg⟩ => ⟨he, h3 _ _ hg⟩
theorem hd_plate (h : Hold w0 w (SVo tb id s L v N) O) : ∃ pb Fp, w.cell? ⟨tb, 0, none⟩ = some (.pointer (some ⟨pb, 0, none⟩)) ∧ PB w pb s Fp ∧ (∀ w' s2, (s.gone = true → s2.gone = true) → Goes Fp w w' (PB w' pb s2) → Hold w0 w' (SVo tb id s2 L v N) O ∧ Kept O w w') := by
  obtain ⟨F, h1, h2, h3⟩ := h.go
  obtain ⟨pb, Fp, c0, hP, k⟩ := svplate h1
  exact ⟨pb, Fp, c0, hP, fun w' s2 hg hG => h3 _ _ (k w' s2 hg hG)⟩
end

/-! ### shown -/
@[reducible] def m1 : M := ⟨1, 0, 1, 0, 0, 0, 0, ⟨#[]⟩⟩
theorem getL_new (n : Nat) (i : Int) : getL (List.replicate n none) i = none := getL_of_none fun _ _ h => (at_replicate h).elim
theorem m1_hA : hA 1 (fresh 9) (List.replicate (size0 9) none) Sv.new m1 0 = (⟨129, 1, 0, 0, 0, 0, 3, ⟨#[]⟩⟩, true) := by
  have hh : heard 1 (fresh 9) m1 := ⟨rfl, by decide +kernel, rfl, by decide, by decide⟩
  have ho : hO (List.replicate (size0 9) none) (fresh 9) Sv.new m1 0 = (3, ⟨#[]⟩, fresh 9, List.replicate (size0 9) none, Sv.new) := by
    unfold hO
    rw [if_pos rfl]
    have : rdO (List.replicate (size0 9) none) Sv.new m1 = (3, ⟨#[]⟩) := by
      unfold rdO
      rw [if_neg (by simp [Sv.new]), getL_new]
    rw [this]
  unfold hA
  rw [if_pos ⟨hh, by rw [ho]; rfl⟩, ho]
  rfl
set_option maxRecDepth 100000 in
set_option maxHeartbeats 4000000 in
theorem shown13_any {w : World} (hT : Tab w) (hE : ErrType w) : Calls Tryz.prog 11 #[] w fun e w' => e = .returned (.bool true) ∧ Below w.heap.size w w' := by
  have HN := Lib.hid (hd_new (w0 := w) (w := w) (O := fun _ => False) (Below.refl _ _) hT 1 9 (fun _ h => h.elim))
  have HT := Lib.hid hT
  have HE := Lib.hid hE
  clear hT hE
  go_enter Tryz.func11, Tryz.ntmps11
  go_wp2_with fail
  go_at_call 12
  refine HN.out.mono ?_
  rintro e w1 ⟨tb, rfl, k1, -⟩
  have H1 := Lib.hid k1
  clear k1 HN
  have HH := Lib.hid (show Calls Tryz.prog 24 #[.pointer (some ⟨tb, 0, none⟩), .agg #[.int .i64 1, .int .i64 0, .int .i64 1, .int .i64 0, .int .i64 0, .int .i64 0, .int .i64 0, .string ⟨#[]⟩], .int .i64 0] w1 fun e w' => e = .returned (.tuple #[.agg #[.int .i64 129, .int .i64 1, .int .i64 0, .int .i64 0, .int .i64 0, .int .i64 0, .int .i64 3, .string ⟨#[]⟩], .bool true]) ∧ Below w.heap.size w w' from by
    refine (hd_handle H1.out HT.out HE.out (PS.fresh 9) (by omega) (by omega) m1 ((i64_iff _).2 (by decide)) 0).mono ?_
    rintro e w' ⟨rfl, k1, -⟩
    rw [m1_hA]
    exact ⟨rfl, k1.bel⟩)
  go_wp2_with fail
  go_at_call 24
  refine HH.out.mono ?_
  rintro e w2 ⟨rfl, k1⟩
  have B2 := Lib.hid k1
  clear k1 HH H1
  go_wp2_with ((with_reducible show wpList _ _ _ (Oper.mk none (Op.store _ (.tmp 2) _) _ _ _ _ :: _) _ _); refine wpList_store_msg rfl (.tmp 2) (.tmp 9) rfl w2.heap.size ⟨129, 1, 0, 0, 0, 0, 3, ⟨#[]⟩⟩ M.zero rfl rfl (MB.fresh w2 M.zero) ?_; intro w3 k1 k2 k3; have d0 := k1.cell 0; have d6 := k1.cell 6; have B3 := Lib.hid ((B2.out.alloc B2.out.size (.cells M.zero.cells 31)).trans (Fb.below k2 B2.out.size (by have := B2.out.size; simp; omega))); clear k1 k2 k3)
  go_ret
  exact ⟨rfl, B3.out⟩
end Go.Proofs.YtmmpknfkncgjpaaGreatDoor

namespace Go.Proofs.YtmmpknfkncgjpaaGreatDoor
open Go.RowKit

theorem hA_of {id : Int} {s : St} {L : Lay} {v : Sv} {m : M} {now st : Int} {dd : ByteArray} {s2 : St} {L2 : Lay} {v2 : Sv} (hh : heard id s m) (ho : hO L s v m now = (st, dd, s2, L2, v2)) (hg : s2.gone = false) :
    hA id s L v m now = (⟨m.kind + 128, id, m.src, v2.ep, m.seq, m.off, st, dd⟩, true) ∧ hS id s L v m now = (s2, L2, v2) := by
  unfold hA hS
  rw [if_pos ⟨hh, by rw [ho]; exact hg⟩, if_pos hh, ho]
  exact ⟨rfl, rfl⟩
theorem chk_ok {m : M} (h : 0 ≤ m.kind ∧ m.kind ≤ 255 ∧ 0 ≤ m.src ∧ m.src ≤ 7 ∧ 0 ≤ m.dst ∧ m.dst ≤ 7 ∧ 0 ≤ m.epoch ∧ m.epoch ≤ 1099511627776 ∧ 0 ≤ m.seq ∧ m.seq ≤ 1099511627776 ∧ 0 ≤ m.off ∧ m.off ≤ 256 ∧ 0 ≤ m.len ∧ m.len ≤ 256) (hd : m.data.size ≤ 1024) : m.chk = 0 := by
  unfold M.chk; rw [if_pos h, if_pos hd]
theorem parO_val {ver : Int} {d : ByteArray} (h : valE ver d = 0) : parO (valB ver d) = ((ver, d), 0) := parO_some (parOf_val h)
/-- A block that is put on a new shelf. -/
theorem fresh_put (k : Int) {b : Bk} (hb : refE b 1 = 0) :
    putE (List.replicate (size0 k) none) (fresh k) b = 0 ∧ getL (putY (List.replicate (size0 k) none) (fresh k) b) b.id = some b ∧ (putS (List.replicate (size0 k) none) (fresh k) b).gone = false := by
  have hS := Sound.fresh k
  have h := hS.live.put (L := List.replicate (size0 k) none) (by simp [fresh]) b
  have hz := (size0_in k).1
  have hp : preE (List.replicate (size0 k) none) false b = 0 := by
    unfold preE newer
    rw [hb, replicate_get]
    have hl : low (List.replicate (size0 k) none) = 0 := by
      unfold low
      rw [show List.replicate (size0 k) (none : Option Bk) = none :: List.replicate (size0 k - 1) none by rw [← List.replicate_succ]; congr 1; omega]
      rfl
    rw [hl, List.length_replicate]
    simp; omega
  have h0 : putE (List.replicate (size0 k) none) (fresh k) b = 0 := h.1.trans hp
  refine ⟨h0, ?_, (hS.put b).live.1⟩
  have := put_get hS.fit.good h0 (id := b.id)
  rw [if_pos rfl] at this
  exact this
section
variable {E O c U W : Int} {d : ByteArray}
@[reducible] def mE (E : Int) : M := ⟨4, 0, 2, E, 0, 0, 0, ⟨#[]⟩⟩
@[reducible] def mW (c O : Int) (x : ByteArray) : M := ⟨2, c, 2, O, 1, 4, 0, x⟩
@[reducible] def mT (c : Int) (x : ByteArray) : M := ⟨3, 0, 2, 0, 0, c, 0, x⟩
@[reducible] def L9 : Lay := List.replicate (size0 9) none
def v1 (E : Int) : Sv := ⟨E, Sv.new.tm, []⟩
def v2 (E c U : Int) : Sv := ⟨E, Sv.new.tm.set c.toNat U, []⟩
theorem fen1 (h0 : 0 ≤ E) (h1 : E ≤ 2) : hA 2 (fresh 9) L9 Sv.new (mE E) 0 = (⟨132, 2, 0, E, 0, 0, 0, ⟨#[]⟩⟩, true) ∧ hS 2 (fresh 9) L9 Sv.new (mE E) 0 = (fresh 9, L9, v1 E) := by
  have hh : heard 2 (fresh 9) (mE E) := ⟨rfl, chk_ok (m := mE E) (by simp only; omega) (show (ByteArray.mk #[]).size ≤ 1024 by decide), rfl, (show (1 : Int) ≤ 4 by decide), (show (4 : Int) ≤ 4 by decide)⟩
  have he : epO Sv.new (mE E) = (0, E) := if_neg (show ¬ E < 0 by omega)
  have ho : hO L9 (fresh 9) Sv.new (mE E) 0 = (0, ⟨#[]⟩, fresh 9, L9, v1 E) := by
    unfold hO
    rw [if_neg (show ¬ (4 : Int) = 1 by decide), if_neg (show ¬ (4 : Int) = 2 by decide), if_neg (show ¬ (4 : Int) = 3 by decide), he]
    rfl
  exact hA_of hh ho rfl
theorem tm_new {c : Int} (h0 : 0 ≤ c) (h1 : c < 8) : Sv.new.tm.getD c.toNat (-1) = -1 := by
  unfold Sv.new
  rw [List.getD_eq_getElem?_getD, List.getElem?_replicate, if_pos (by omega)]; rfl
theorem fen2 (g0 : 0 ≤ O) (g1 : O ≤ 2) (c0 : 0 ≤ c) (c1 : c < 8) (hd : valE 5 d = 0) :
    ∃ st, st ≠ 0 ∧ hA 2 (fresh 9) L9 (v1 E) (mW c O (valB 5 d)) 0 = (⟨130, 2, c, E, 1, 4, st, ⟨#[]⟩⟩, true) ∧ hS 2 (fresh 9) L9 (v1 E) (mW c O (valB 5 d)) 0 = (fresh 9, L9, v1 E) := by
  have hsz := valB_size 5 d
  have hds := (valE_zero hd).2.2
  have hh : heard 2 (fresh 9) (mW c O (valB 5 d)) := ⟨rfl, chk_ok (m := mW c O (valB 5 d)) (by simp only; omega) (show (valB 5 d).size ≤ 1024 by omega), rfl, (show (1 : Int) ≤ 2 by decide), (show (2 : Int) ≤ 4 by decide)⟩
  by_cases ho : O = E
  · have hw : wrtO L9 (fresh 9) (v1 E) (mW c O (valB 5 d)) 0 = (140, fresh 9, L9, []) := by
      unfold wrtO
      rw [if_neg (by simp [v1, ho]), show (mW c O (valB 5 d)).data = valB 5 d from rfl, parO_val hd, if_neg (by simp)]
      rw [if_pos (.inl (by show Sv.new.tm.getD c.toNat (-1) < 0; rw [tm_new c0 c1]; decide))]
      rfl
    exact ⟨140, by decide, hA_of hh (by unfold hO; rw [if_neg (show ¬ (2 : Int) = 1 by decide), if_pos rfl, hw]) rfl⟩
  · have hw : wrtO L9 (fresh 9) (v1 E) (mW c O (valB 5 d)) 0 = (120, fresh 9, L9, []) := by
      unfold wrtO
      rw [if_pos (by simpa [v1] using ho)]
      rfl
    exact ⟨120, by decide, hA_of hh (by unfold hO; rw [if_neg (show ¬ (2 : Int) = 1 by decide), if_pos rfl, hw]) rfl⟩
theorem fen3 (c0 : 0 ≤ c) (c1 : c < 8) (hU : valE U ⟨#[]⟩ = 0) :
    hA 2 (fresh 9) L9 (v1 E) (mT c (valB U ⟨#[]⟩)) 0 = (⟨131, 2, 0, E, 0, c, 0, ⟨#[]⟩⟩, true) ∧ hS 2 (fresh 9) L9 (v1 E) (mT c (valB U ⟨#[]⟩)) 0 = (fresh 9, L9, v2 E c U) := by
  have hsz := valB_size U ⟨#[]⟩
  have h5 : (ByteArray.mk #[]).size = 0 := rfl
  have hh : heard 2 (fresh 9) (mT c (valB U ⟨#[]⟩)) := ⟨rfl, chk_ok (m := mT c (valB U ⟨#[]⟩)) (by simp only; omega) (show (valB U ⟨#[]⟩).size ≤ 1024 by omega), rfl, (show (1 : Int) ≤ 3 by decide), (show (3 : Int) ≤ 4 by decide)⟩
  have ht : tmO (v1 E) (mT c (valB U ⟨#[]⟩)) = (0, Sv.new.tm.set c.toNat U) := by
    unfold tmO
    rw [show (mT c (valB U ⟨#[]⟩)).data = valB U ⟨#[]⟩ from rfl, parO_val hU, if_neg (by simp), if_neg (show ¬ c ≥ 8 by omega)]
    rfl
  have ho : hO L9 (fresh 9) (v1 E) (mT c (valB U ⟨#[]⟩)) 0 = (0, ⟨#[]⟩, fresh 9, L9, v2 E c U) := by
    unfold hO
    rw [if_neg (show ¬ (3 : Int) = 1 by decide), if_neg (show ¬ (3 : Int) = 2 by decide), if_pos rfl, ht]
    rfl
  exact hA_of hh ho rfl
theorem fen4 (g0 : 0 ≤ O) (g1 : O ≤ 2) (c0 : 0 ≤ c) (c1 : c < 8) (hd : valE 5 d = 0) (u0 : 0 ≤ U) :
    ∃ st s L v, hA 2 (fresh 9) L9 (v2 E c U) (mW c O (valB 5 d)) W = (⟨130, 2, c, E, 1, 4, st, ⟨#[]⟩⟩, true) ∧ hS 2 (fresh 9) L9 (v2 E c U) (mW c O (valB 5 d)) W = (s, L, v) ∧
      ((O ≠ E ∧ st = 120 ∧ gO s L 4 = (Bk.zero, 3)) ∨ (O = E ∧ W > U ∧ st = 140 ∧ gO s L 4 = (Bk.zero, 3)) ∨ (O = E ∧ ¬ W > U ∧ st = 0 ∧ gO s L 4 = (⟨4, 5, d⟩, 0))) := by
  have hsz := valB_size 5 d
  have hds := (valE_zero hd).2.2
  have hh : heard 2 (fresh 9) (mW c O (valB 5 d)) := ⟨rfl, chk_ok (m := mW c O (valB 5 d)) (by simp only; omega) (show (valB 5 d).size ≤ 1024 by omega), rfl, (show (1 : Int) ≤ 2 by decide), (show (2 : Int) ≤ 4 by decide)⟩
  have hno : gO (fresh 9) L9 4 = (Bk.zero, 3) := by
    unfold gO getB getE
    rw [if_neg (by simp [fresh]), getL_new]; rfl
  have ht : (v2 E c U).tm.getD (mW c O (valB 5 d)).src.toNat (-1) = U := by
    show (Sv.new.tm.set c.toNat U).getD c.toNat (-1) = U
    rw [List.getD_eq_getElem?_getD, List.getElem?_set_self (by simp [Sv.new]; omega)]; rfl
  by_cases ho : O = E
  · by_cases hw : W > U
    · have hwr : wrtO L9 (fresh 9) (v2 E c U) (mW c O (valB 5 d)) W = (140, fresh 9, L9, []) := by
        unfold wrtO
        rw [if_neg (by simp [v2, ho]), show (mW c O (valB 5 d)).data = valB 5 d from rfl, parO_val hd, if_neg (by simp), ht, if_pos (.inr hw)]
        rfl
      obtain ⟨e1, e2⟩ := hA_of hh (by unfold hO; rw [if_neg (show ¬ (2 : Int) = 1 by decide), if_pos rfl, hwr]) (now := W) rfl
      exact ⟨140, _, _, _, e1, e2, .inr (.inl ⟨ho, hw, rfl, hno⟩)⟩
    · have hb : refE ⟨4, 5, d⟩ 1 = 0 := refE_zero.2 ⟨by unfold argOk; simp only; omega, hds⟩
      obtain ⟨p1, p2, p3⟩ := fresh_put 9 hb
      have hwd : wDo L9 (fresh 9) ⟨4, 5, d⟩ = (0, putS L9 (fresh 9) ⟨4, 5, d⟩, putY L9 (fresh 9) ⟨4, 5, d⟩) := by
        unfold wDo
        rw [if_neg (by rw [getL_new]; simp), p1]
      have hwr : wrtO L9 (fresh 9) (v2 E c U) (mW c O (valB 5 d)) W = (0, putS L9 (fresh 9) ⟨4, 5, d⟩, putY L9 (fresh 9) ⟨4, 5, d⟩, learn [] ⟨c, 1, 0⟩) := by
        have := wrtO_do (L := L9) (s := fresh 9) (v := v2 E c U) (m := mW c O (valB 5 d)) (now := W) (by simp [v2, ho]) (by rw [show (mW c O (valB 5 d)).data = valB 5 d from rfl, parO_val hd]) (by rw [ht]; omega) (fun k hk => by simp [v2, look] at hk)
        rw [this, show (mW c O (valB 5 d)).data = valB 5 d from rfl, parO_val hd]
        show ((wDo L9 (fresh 9) ⟨4, 5, d⟩).1, _, _, _) = _
        rw [hwd]; rfl
      obtain ⟨e1, e2⟩ := hA_of hh (by unfold hO; rw [if_neg (show ¬ (2 : Int) = 1 by decide), if_pos rfl, hwr]) (now := W) p3
      refine ⟨0, _, _, _, e1, e2, .inr (.inr ⟨ho, hw, rfl, ?_⟩)⟩
      unfold gO getB getE
      rw [if_neg (by rw [p3]; simp), p2]; rfl
  · have hwr : wrtO L9 (fresh 9) (v2 E c U) (mW c O (valB 5 d)) W = (120, fresh 9, L9, []) := by
      unfold wrtO
      rw [if_pos (by simpa [v2] using ho)]
      rfl
    obtain ⟨e1, e2⟩ := hA_of hh (by unfold hO; rw [if_neg (show ¬ (2 : Int) = 1 by decide), if_pos rfl, hwr]) (now := W) rfl
    exact ⟨120, _, _, _, e1, e2, .inl ⟨ho, rfl, hno⟩⟩
end
end Go.Proofs.YtmmpknfkncgjpaaGreatDoor
