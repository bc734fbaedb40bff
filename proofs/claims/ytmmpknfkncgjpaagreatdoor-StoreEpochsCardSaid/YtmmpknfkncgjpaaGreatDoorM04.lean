/-
  Read (package plate), by a contract: the last write that waits, or what lasts.
-/
import Derived.Test.YtmmpknfkncgjpaaGreatDoorM02
import Derived.Test.YtmmpknfkncgjpaaGreatDoorM03
import Derived.Sort.CutIn
namespace Go.Proofs.YtmmpknfkncgjpaaGreatDoor
open Go.RowKit Go.Shelf
attribute [local go_sem] Oper.semAt_some

/-- What Read holds while it goes over what waits: its own boxes, and the sector's bytes. -/
structure RHold (W : World) (z b i : Nat) (sec : List UInt8) : Prop where
  ci : W.cell? ⟨z, 0, none⟩ = some (.int .i64 (i : Int))
  cs : W.cell? ⟨z + 1, 0, none⟩ = some (.string ⟨#[]⟩)
  ce : W.cell? ⟨z + 1 + 1, 0, none⟩ = some (.int .i64 0)
  fs : W.frozen? ⟨z + 1, 0, none⟩ = false
  fe : W.frozen? ⟨z + 1 + 1, 0, none⟩ = false
  rng : W.rangeAt b (1 + i * 32) (Lib.byteCells sec)
  hz : z + 3 ≤ W.heap.size
structure RRes (W : World) (z : Nat) (s : List UInt8) : Prop where
  cs : W.cell? ⟨z + 1, 0, none⟩ = some (.string (str s))
  ce : W.cell? ⟨z + 1 + 1, 0, none⟩ = some (.int .i64 0)
theorem RHold.own {A B : World} {row : Option Nat} {z b i : Nat} {sec : List UInt8} (h : RHold A z b i sec) (hg : A.grownBy B row) (hr : ∀ r, row = some r → ∃ o : Obj, A.heap[r]? = some o ∧ o.isCells = false) : RHold B z b i sec :=
  ⟨cell_kept h.ci hg hr, cell_kept h.cs hg hr, cell_kept h.ce hg hr, (frozen_kept h.cs hg hr).trans h.fs, (frozen_kept h.ce hg hr).trans h.fe, fun j u hu => cell_kept (h.rng j u hu) hg hr, Nat.le_trans h.hz hg.size⟩
theorem RRes.own {A B : World} {row : Option Nat} {z : Nat} {s : List UInt8} (h : RRes A z s) (hg : A.grownBy B row) (hr : ∀ r, row = some r → ∃ o : Obj, A.heap[r]? = some o ∧ o.isCells = false) : RRes B z s :=
  ⟨cell_kept h.cs hg hr, cell_kept h.ce hg hr⟩
theorem lt_cell {w : World} {b o : Nat} {v : Value} (h : w.cell? ⟨b, o, none⟩ = some v) : b < w.heap.size := World.block_lt_of_cell? w _ h
theorem frozen_below {A B : World} {N b o : Nat} (hb : Below N A B) (h : b < N) (hf : A.frozen? ⟨b, o, none⟩ = false) : B.frozen? ⟨b, o, none⟩ = false := by
  have := hb.block b h
  simpa [World.frozen?, this] using hf
theorem RHold.below {A B : World} {z b i : Nat} {sec : List UInt8} (h : RHold A z b i sec) (hb : Below A.heap.size A B) : RHold B z b i sec :=
  ⟨(hb.cell (p := ⟨z, 0, none⟩) (lt_cell h.ci)).trans h.ci, (hb.cell (p := ⟨z + 1, 0, none⟩) (lt_cell h.cs)).trans h.cs, (hb.cell (p := ⟨z + 1 + 1, 0, none⟩) (lt_cell h.ce)).trans h.ce, frozen_below hb (lt_cell h.cs) h.fs, frozen_below hb (lt_cell h.ce) h.fe,
   fun j u hu => (hb.cell (p := ⟨b, 1 + i * 32 + j, none⟩) (lt_cell (h.rng j u hu))).trans (h.rng j u hu), Nat.le_trans h.hz hb.size⟩
theorem WB.own {A B : World} {row : Option Nat} {D : Nat} {c : Wr} (h : WB A D c) (hg : A.grownBy B row) (hr : ∀ r, row = some r → ∃ o : Obj, A.heap[r]? = some o ∧ o.isCells = false) : WB B D c := by
  unfold WB
  rw [hg.block D h.lt (fun e => by
    obtain ⟨o, ho, hc⟩ := hr D e.symm
    rw [show A.heap[D]? = _ from h] at ho
    cases ho; cases hc)]
  exact h

theorem seen_skip {ws : List Wr} {i : Nat} {old : List UInt8} {k : Nat} : ∀ n, k ≤ n → (∀ j, k ≤ j → j < n → ∀ x, ws[j]? = some x → x.i ≠ i) → seen ws i old n = seen ws i old k
  | 0, h, _ => by rw [show k = 0 by omega]
  | n + 1, h, hx => by
    by_cases e : k = n + 1
    · rw [e]
    · have ih := seen_skip (old := old) n (by omega) (fun j h1 h2 => hx j h1 (by omega))
      show (match ws[n]? with | none => seen ws i old n | some w => if w.i = i then w.b else seen ws i old n) = seen ws i old k
      cases hw : ws[n]? with
      | none => exact ih
      | some x => exact (if_neg (hx n (by omega) (by omega) x hw)).trans ih
theorem seen_hit {ws : List Wr} {i : Nat} {old : List UInt8} {j : Nat} {x : Wr} (hx : ws[j]? = some x) (hi : x.i = i) : seen ws i old (j + 1) = x.b := by
  show (match ws[j]? with | none => seen ws i old j | some w => if w.i = i then w.b else seen ws i old j) = x.b
  rw [hx]; exact if_pos hi

/-- The bytes of a sector, in the plate's block. -/
theorem PBv.sec {w : World} {b : Nat} {s : St} {L K : Nat} {v : Value} (h : PBv w b s L K v) (hg : Good s) {i : Nat} (hi : i < s.is.length) : w.rangeAt b (1 + i * 32) (Lib.byteCells (s.is.getD i [])) := fun j u hu => by
  have hl := hg.sec i hi
  have hj : j < 32 := by have := (List.getElem?_eq_some_iff.1 hu).1; rw [Lib.byteCells_length, hl] at this; exact this
  have hh := hg.hi
  rw [h.row.cell (i := 1 + i * 32 + j) (by omega)]
  unfold pf
  rw [if_neg (by omega), if_pos (by omega)]
  unfold sc byteAt
  rw [show (1 + i * 32 + j - 1) / 32 = i by omega, show (1 + i * 32 + j - 1) % 32 = j by omega]
  rw [← hu]
  unfold Lib.byteCells
  rw [List.getElem?_map, List.getElem?_eq_getElem (by omega : j < (s.is.getD i []).length), List.getD_eq_getElem?_getD (l := s.is.getD i []), List.getElem?_eq_getElem (by omega : j < (s.is.getD i []).length)]
  rfl

set_option maxRecDepth 100000 in
set_option maxHeartbeats 2000000 in
theorem read_no (b : Nat) (s : St) (F : Nat → Prop) (i : Int) (w : World) (h : PB w b s F) (hi : wrong s i ≠ 0) :
    Calls Tryz.prog 121 #[.pointer (some ⟨b, 0, none⟩), .int .i64 i] w fun e w' => e = .returned (.tuple #[.string (str []), .int .i64 (wrong s i)]) ∧ Below w.heap.size w w' := by
  have hb3 : Below w.heap.size w (((w.alloc (.cells #[.int .i64 i] 3)).alloc (.cells #[.string ⟨#[]⟩] 9)).alloc (.cells #[.int .i64 0] 57)) := by go_grown
  have HR := Lib.hid (reach_any b s F i _ (h.below hb3))
  generalize wrong s i = x at HR hi ⊢
  have hx : (x == 0) = false := by simpa using hi
  have HB := Lib.hid hb3
  clear h hb3
  go_enter Tryz.func121, Tryz.ntmps121
  go_wp2_with (go_at_call 135; refine HR.out.mono ?_; rintro e w1 ⟨rfl, rfl⟩)
  exact bodyPost_ret (v := .tuple #[.string (str []), .int .i64 x]) (by simp [results, Tryz.results121, go_sem, str]) rfl ⟨rfl, by go_grown⟩

theorem conv_bytes {w : World} {b o : Nat} {l : List UInt8} (hl : l.length = 32) (hr : w.rangeAt b o (Lib.byteCells l)) : (convert 73 9 (.slice (some ⟨b, o, none⟩) 32 32)).run Tryz.prog w = .ok (.string (str l)) w := by
  have := run_convert_bytes_back (P := Tryz.prog) w 73 9 5 ⟨b, o, none⟩ 32 l Tryz.underlying73 Tryz.underlying5 Tryz.underlying9 (fun j hj => by
    rw [Go.WideShapes.add_plain]
    exact hr j _ (by unfold Lib.byteCells; rw [List.getElem?_map, List.getElem?_eq_getElem hj]; rfl))
  rw [hl] at this
  exact this
theorem down_mem {n k j : Nat} : j ∈ down n k ↔ k ≤ j ∧ j < n := by
  unfold down
  simp only [List.mem_map, List.mem_range]
  constructor
  · rintro ⟨i, hi, rfl⟩; omega
  · rintro ⟨h1, h2⟩; exact ⟨n - 1 - j, by omega, by omega⟩

set_option maxRecDepth 100000 in
set_option maxHeartbeats 4000000 in
theorem read_yes (b : Nat) (s : St) (F : Nat → Prop) (i : Nat) (w : World) (h : PB w b s F) (hg : Good s) (hi : wrong s (i : Int) = 0) :
    Calls Tryz.prog 121 #[.pointer (some ⟨b, 0, none⟩), .int .i64 (i : Int)] w fun e w' => e = .returned (.tuple #[.string (str (readB s i)), .int .i64 0]) ∧ Below w.heap.size w w' := by
  have hb3 : Below w.heap.size w (((w.alloc (.cells #[.int .i64 (i : Int)] 3)).alloc (.cells #[.string ⟨#[]⟩] 9)).alloc (.cells #[.int .i64 0] 57)) := by go_grown
  have z3 : (((w.alloc (.cells #[.int .i64 (i : Int)] 3)).alloc (.cells #[.string ⟨#[]⟩] 9)).alloc (.cells #[.int .i64 0] 57)).heap.size = w.heap.size + 3 := by simp
  have HR := Lib.hid (reach_any b s F i _ (h.below hb3))
  rw [hi] at HR
  obtain ⟨-, -, hil⟩ := wrong_zero hi
  have hil : i < s.is.length := by omega
  have hws : ∀ x ∈ s.wait, x.b.length = 32 := fun x hx => (hg.wt x hx).2
  have hhi := hg.hi
  obtain ⟨L, K, v, h, -⟩ := h.v
  have hform := owns_form (f := wcells) h.own (fun x hx => wcells_length (hws x hx))
  obtain ⟨A, cap, hv, hcap, hcm, hrows⟩ : ∃ A cap, v = .slice A s.wait.length cap ∧ s.wait.length ≤ cap ∧ cap ≤ maxLen ∧ ∀ k x, s.wait[k]? = some x → ∃ g, A = some ⟨g, 0, none⟩ ∧ g < w.heap.size ∧ w.rangeAt g (k * 33) (wcells x) := by
    rcases hform with ⟨rfl, h0⟩ | ⟨g, cap, rfl, hgl, hcap, hcm, hat⟩
    · exact ⟨none, 0, by rw [h0]; rfl, by rw [h0]; exact Nat.le_refl _, by unfold maxLen; omega, fun k x hx => by rw [h0] at hx; simp at hx⟩
    · exact ⟨_, cap, rfl, hcap, hcm, fun k x hx => ⟨g, rfl, hgl, hat k x hx⟩⟩
  subst hv
  have h3 := h.below hb3
  have hbl := h.row.lt
  have c1 := h3.cells.2.1
  have HH := Lib.hid (show RHold (((w.alloc (.cells #[.int .i64 (i : Int)] 3)).alloc (.cells #[.string ⟨#[]⟩] 9)).alloc (.cells #[.int .i64 0] 57)) w.heap.size b i (s.is.getD i []) from by
    have b0 := ((Boxed.new w 3 (.int .i64 (i : Int))).alloc (.cells #[.string ⟨#[]⟩] 9)).alloc (.cells #[.int .i64 0] 57)
    have b1 := (Boxed.new (w.alloc (.cells #[.int .i64 (i : Int)] 3)) 9 (.string ⟨#[]⟩)).alloc (.cells #[.int .i64 0] 57)
    have b2 := Boxed.new ((w.alloc (.cells #[.int .i64 (i : Int)] 3)).alloc (.cells #[.string ⟨#[]⟩] 9)) 57 (.int .i64 0)
    rw [World.size_alloc] at b1
    rw [World.size_alloc, World.size_alloc] at b2
    exact ⟨b0.cell, b1.cell, b2.cell, b1.frozen, b2.frozen, h3.sec hg hil, by simp⟩)
  have hro : ∀ k x, s.wait[k]? = some x → ∃ g, A = some ⟨g, 0, none⟩ ∧ g < w.heap.size ∧ (((w.alloc (.cells #[.int .i64 (i : Int)] 3)).alloc (.cells #[.string ⟨#[]⟩] 9)).alloc (.cells #[.int .i64 0] 57)).rangeAt g (k * 33) (wcells x) := fun k x hx => by
    obtain ⟨g, hA, hgl, h1⟩ := hrows k x hx
    exact ⟨g, hA, hgl, fun j u hu => (hb3.cell (p := ⟨g, k * 33 + j, none⟩) hgl).trans (h1 j u hu)⟩
  have HRO := Lib.hid hro
  have HB := Lib.hid hb3
  have HZ := Lib.hid z3
  have HW := Lib.hid hws
  have HS := Lib.hid (hg.sec i hil)
  clear h h3 hg hi hform hrows hro hb3 z3 hws
  refine (callsIn_wide (n := 8)).1 ?_
  refine callsIn_of_wp_marks Tryz.func121 rfl trivial ?_ rfl
  simp only [Tryz.ntmps121, List.size_toArray, List.length_cons, List.length_nil, Nat.reduceAdd, Nat.reduceSub, Array.replicate_succ, Array.replicate_zero, List.push_toArray, List.append_toArray, List.nil_append, List.cons_append]
  gi_wp2_with (first
    | (refine ⟨trivial, ?_⟩; gi_at_call 135; refine (callsIn_wide.2 HR.out).mono ?_; rintro e w1 ⟨rfl, rfl⟩)
    | (refine ⟨trivial, ?_⟩; gi_at_call 143; refine (callsIn_wide.2 (backward_any _ _ _ _)).mono ?_; rintro e w2 ⟨rfl, rfl⟩))
  have hcell : ((((w.alloc (.cells #[.int .i64 (i : Int)] 3)).alloc (.cells #[.string ⟨#[]⟩] 9)).alloc (.cells #[.int .i64 0] 57)).alloc (.cells #[.slice A s.wait.length cap] 82)).cell? ⟨w.heap.size + 1 + 1 + 1, 0, none⟩ = some (.slice A s.wait.length cap) := by
    have b3 := Boxed.new (((w.alloc (.cells #[.int .i64 (i : Int)] 3)).alloc (.cells #[.string ⟨#[]⟩] 9)).alloc (.cells #[.int .i64 0] 57)) 82 (.slice A s.wait.length cap)
    rw [World.size_alloc, World.size_alloc, World.size_alloc] at b3
    exact b3.cell
  have z4 : ((((w.alloc (.cells #[.int .i64 (i : Int)] 3)).alloc (.cells #[.string ⟨#[]⟩] 9)).alloc (.cells #[.int .i64 0] 57)).alloc (.cells #[.slice A s.wait.length cap] 82)).heap.size = w.heap.size + 4 := by simp
  have hb4 : Below (((w.alloc (.cells #[.int .i64 (i : Int)] 3)).alloc (.cells #[.string ⟨#[]⟩] 9)).alloc (.cells #[.int .i64 0] 57)).heap.size (((w.alloc (.cells #[.int .i64 (i : Int)] 3)).alloc (.cells #[.string ⟨#[]⟩] 9)).alloc (.cells #[.int .i64 0] 57)) ((((w.alloc (.cells #[.int .i64 (i : Int)] 3)).alloc (.cells #[.string ⟨#[]⟩] 9)).alloc (.cells #[.int .i64 0] 57)).alloc (.cells #[.slice A s.wait.length cap] 82)) := (Below.refl _ _).alloc (Nat.le_refl _) _
  have hH4 := HH.out.below hb4
  have hB4 := HB.out.trans (hb4.mono HB.out.size)
  have hR4 : ∀ k x, s.wait[k]? = some x → ∃ g, A = some ⟨g, 0, none⟩ ∧ g < w.heap.size + 4 ∧ ((((w.alloc (.cells #[.int .i64 (i : Int)] 3)).alloc (.cells #[.string ⟨#[]⟩] 9)).alloc (.cells #[.int .i64 0] 57)).alloc (.cells #[.slice A s.wait.length cap] 82)).rangeAt g (k * 33) (wcells x) := fun k x hx => by
    obtain ⟨g, hA, hg, h1⟩ := HRO.out k x hx
    exact ⟨g, hA, by omega, fun j u hu => (hb4.cell (p := ⟨g, k * 33 + j, none⟩) (by rw [HZ.out]; show g < _; omega)).trans (h1 j u hu)⟩
  clear hb4 HRO HH HB HZ HR c1
  generalize ((((w.alloc (.cells #[.int .i64 (i : Int)] 3)).alloc (.cells #[.string ⟨#[]⟩] 9)).alloc (.cells #[.int .i64 0] 57)).alloc (.cells #[.slice A s.wait.length cap] 82)) = W0 at *
  refine wpIn_rangeFunc_ownH rfl (by omega) (gf := 168) (lb := #[.pointer (some ⟨w.heap.size + 1 + 1 + 1, 0, none⟩)]) rfl trivial (enters_of Tryz.func168 (by kernel_rfl) rfl)
    (back_stops s.wait HW.out _ (w.heap.size + 1 + 1 + 1) A cap (w.heap.size + 4) (by omega) hcap hcm W0 (by omega) (by omega) hcell hR4) belowK_t (belowK_b (by omega)) (Below.refl _ _) (fun _ => rfl)
    (fun pre W => ((∀ p ∈ pre, (nth s.wait p.1).i ≠ i) ∧ RHold W w.heap.size b i (s.is.getD i []) ∧ w.heap.size + 4 ≤ W.heap.size) ∧ Below w.heap.size w W)
    (fun e pre W => (e = .ret ∧ ∃ ini x, pre = ini ++ [x] ∧ (∀ p ∈ ini, (nth s.wait p.1).i ≠ i) ∧ (nth s.wait x.1).i = i ∧ RRes W w.heap.size (nth s.wait x.1).b) ∧ Below w.heap.size w W)
    (OwnFrom.and (Own.from (fun s A B row hs hg hr => ⟨hs.1, hs.2.1.own hg hr, Nat.le_trans hs.2.2 hg.size⟩) _) (ownFrom_below (Nat.le_refl _) (by omega)))
    (fun e => OwnFrom.and (Own.from (fun s A B row hs hg hr => by obtain ⟨he, ini, x, e1, e2, e3, e4⟩ := hs; exact ⟨he, ini, x, e1, e2, e3, e4.own hg hr⟩) _) (ownFrom_below (Nat.le_refl _) (by omega)))
    ⟨⟨by simp, hH4, by omega⟩, hB4⟩
    (fun x a' W => ∃ Bx, w.heap.size + 4 ≤ Bx ∧ WB W Bx (nth s.wait x.1) ∧ a' = { tmps := #[.pointer (some ⟨b, 0, none⟩), .int .i64 (i : Int), undef, .pointer (some ⟨w.heap.size, 0, none⟩), .pointer (some ⟨w.heap.size + 1, 0, none⟩), .pointer (some ⟨w.heap.size + 1 + 1, 0, none⟩), .int .i64 0, undef, .pointer (some ⟨Bx, 0, none⟩), .pointer (some ⟨b, 0, none⟩), .int .i64 (i : Int), .int .i64 0, .int .i64 0, .bool false, undef, .pointer (some ⟨b, 0, none⟩), .pointer (some ⟨b, 0, none⟩), .pointer (some ⟨b, 4097, none⟩), .slice A s.wait.length cap, .func (.func 168) #[] #[.pointer (some ⟨w.heap.size + 1 + 1 + 1, 0, none⟩)], .int .i64 (x.1 : Int), .agg (wcells (nth s.wait x.1)).toArray, undef, undef, undef, undef, undef, undef, undef, undef, undef, undef, undef, undef, undef, undef], defers := [] })
    (fun x a' _ X Y row hs hg hr => by obtain ⟨Bx, h1, h2, h3⟩ := hs; exact ⟨Bx, h1, h2.own hg (fun r e => (hr r e).2), h3⟩)
    ?assign ?body ?done ?stop
  case assign =>
    rintro l pre x W K ⟨⟨hne, hH, hz⟩, hB⟩ hK
    have H32 := Lib.hid (HW.out (nth s.wait x.1) (List.mem_of_getElem? (nth_get x.2)))
    have HN := Lib.hid hne
    have H1 := Lib.hid hH
    have B1 := Lib.hid hB
    have HK := Lib.hid hK
    clear hne hH hB hK
    gi_wp2_with (with_reducible show wpListIn _ _ _ _ _ (Oper.mk none (Op.store 167 _ _) _ _ _ _ :: _) _ _; refine wpListIn_store_wr rfl (.tmp 8) (.tmp 21) rfl W.heap.size (nth s.wait x.1) H32.out _ rfl rfl (heap_alloc_new W _) rfl ?_; intro wF hWB hBF hKO)
    have hb1 : Below W.heap.size W wF := ((Below.refl _ W).alloc (Nat.le_refl _) _).trans hBF
    exact HK.out _ _ (((KeepsOthers.alloc _ _).trans hKO).from _) (hb1.mono hz) ⟨⟨HN.out, H1.out.below hb1, Nat.le_trans hz hb1.size⟩, B1.out.trans (hb1.mono B1.out.size)⟩ ⟨W.heap.size, hz, hWB, rfl⟩
  case body =>
    rintro l pre x a' W hl ⟨r, hr⟩ ⟨⟨hne, hH, hz⟩, hB⟩ ⟨Bx, hBx, hWB, rfl⟩ hlt
    have H32 := HW.out (nth s.wait x.1) (List.mem_of_getElem? (nth_get x.2))
    generalize hc : nth s.wait x.1 = c at *
    have HC := Lib.hid hc
    have c0 := hWB.at0
    have ci := hH.ci
    have cs := hH.cs
    have ce := hH.ce
    have fs := hH.fs
    have fe := hH.fe
    have hcv := conv_bytes H32 (show W.rangeAt Bx 1 (Lib.byteCells c.b) from fun j u hu => hWB.bytes j u hu)
    have HN := Lib.hid hne
    have H1 := Lib.hid hH
    have B1 := Lib.hid hB
    clear hne hH hB hc
    by_cases hci : c.i = i
    · have HCI := Lib.hid hci
      have ht : ((c.i : Int) == (i : Int)) = true := by simp [hci]
      clear hci
      gi_wp2
      refine ⟨((KeepsOthers.setCell _ _ _).trans (KeepsOthers.setCell _ _ _)).from _, ⟨rfl, pre, x, rfl, HN.out, by rw [HC.out]; exact HCI.out, ?_⟩, ?_⟩
      · rw [HC.out]
        refine ⟨?_, World.cell?_setCell_same' _ _ _ (by rw [World.cell?_setCell_other _ _ _ _ (by simp), H1.out.ce]; rfl)⟩
        rw [World.cell?_setCell_other _ _ _ _ (by simp)]
        exact World.cell?_setCell_same' _ _ _ (by rw [H1.out.cs]; rfl)
      · exact (B1.out.setCell (p := ⟨w.heap.size + 1, 0, none⟩) (by simp) _).setCell (p := ⟨w.heap.size + 1 + 1, 0, none⟩) (by simp; omega) _
    · have HCI := Lib.hid hci
      have ht : ((c.i : Int) == (i : Int)) = false := by simp; omega
      clear hci
      gi_wp2
      refine ⟨KeepsFrom.refl _ _, Below.refl _ _, ⟨fun p hp => ?_, H1.out, hz⟩, B1.out⟩
      rcases List.mem_append.1 hp with h1 | h1
      · exact HN.out p h1
      · simp only [List.mem_singleton] at h1
        subst h1
        rw [HC.out]; exact HCI.out
  case done =>
    rintro D ys W hD hys ⟨⟨hne, hH, hz⟩, hB⟩ hK
    have c0 := hH.ci
    have cs := hH.cs
    have ce := hH.ce
    have fs := hH.fs
    have fe := hH.fe
    have hcv := conv_bytes (w := W.drew) HS.out (show W.drew.rangeAt b (1 + i * 32) (Lib.byteCells (s.is.getD i [])) from hH.rng)
    have hi0 : (0 : Int) ≤ (i : Int) := by omega
    have hi1 : (i : Int) < 128 := by omega
    have HN := Lib.hid hne
    have HY := Lib.hid hys
    have H1 := Lib.hid hH
    have B1 := Lib.hid hB
    have HK := Lib.hid hK
    clear hne hys hH hB hK
    have hb : readB s i = s.is.getD i [] := by
      unfold readB
      rw [seen_skip (k := 0) _ (Nat.zero_le _) (fun j _ h2 x hx => ?_)]
      · rfl
      · have hm : j ∈ ys.map Subtype.val := by rw [HY.out, down_mem]; omega
        obtain ⟨p, hp, rfl⟩ := List.mem_map.1 hm
        have := HN.out p hp
        rw [nth_get p.2] at hx
        cases hx; exact this
    have HBb := Lib.hid hb
    clear hb
    generalize s.is.getD i [] = sec at *
    gi_wp2
    gi_region
    gi_wp2
    have HK2 : (((W.setCell ⟨w.heap.size + 1, 0, none⟩ (.string (str sec))).setCell ⟨w.heap.size + 1 + 1, 0, none⟩ (.int .i64 0)).drew).heap[D]? = some (.deferred (some [])) := ((KeepsOthers.setCell W _ _).trans (KeepsOthers.setCell _ _ _)).same D _ HK.out rfl
    refine ⟨by simp, .inl ⟨_, _, rfl, run_takeDeferred HK2, ?_⟩⟩
    have hR4 : RRes (((W.setCell ⟨w.heap.size + 1, 0, none⟩ (.string (str sec))).setCell ⟨w.heap.size + 1 + 1, 0, none⟩ (.int .i64 0)).drew) w.heap.size sec := by
      refine ⟨?_, World.cell?_setCell_same' _ _ _ (by rw [World.cell?_setCell_other _ _ _ _ (by simp), H1.out.ce]; rfl)⟩
      show ((W.setCell _ _).setCell _ _).cell? _ = _
      rw [World.cell?_setCell_other _ _ _ _ (by simp)]
      exact World.cell?_setCell_same' _ _ _ (by rw [H1.out.cs]; rfl)
    have hR5 := hR4.own (grownBy_putObj' _ D (.deferred none)) (fun r e => by cases e; exact ⟨_, HK2, rfl⟩)
    have e0 := hR5.cs
    have e1 := hR5.ce
    refine ⟨.tuple #[.string (str sec), .int .i64 0], ?_, by rw [HBb.out], (((B1.out.setCell (p := ⟨w.heap.size + 1, 0, none⟩) (by simp) _).setCell (p := ⟨w.heap.size + 1 + 1, 0, none⟩) (by simp; omega) _).drew).trans (belowK_b (w := w) (Nat.le_refl _) _ D _ _ (by omega) HK2 rfl rfl)⟩
    simp [results, Tryz.f121, go_sem, e0, e1]
  case stop =>
    rintro D e pre W hD hpre ⟨⟨rfl, ini, x, rfl, e2, e3, hR⟩, hB⟩ hK
    gi_wp2
    refine ⟨by simp, .inl ⟨_, _, rfl, run_takeDeferred hK, ?_⟩⟩
    have hR5 := hR.own (grownBy_putObj' _ D (.deferred none)) (fun r e => by cases e; exact ⟨_, hK, rfl⟩)
    have e0 := hR5.cs
    have e1 := hR5.ce
    refine ⟨.tuple #[.string (str (readB s i)), .int .i64 0], ?_, rfl, hB.trans (belowK_b (w := w) (Nat.le_refl _) W D _ _ (by omega) hK rfl rfl)⟩
    have hb : readB s i = (nth s.wait x.1).b := by
      obtain ⟨k, hk, hp⟩ := hpre
      have hkn : k < s.wait.length := by
        rcases Nat.lt_or_ge k s.wait.length with h | h
        · exact h
        · have : k = s.wait.length := by omega
          rw [this, down_top] at hp
          simp at hp
      rw [down_succ hkn, List.map_append] at hp
      obtain ⟨h1, h2⟩ := List.append_inj' hp (by simp)
      have hxk : x.1 = k := by simpa using h2
      unfold readB
      rw [seen_skip (k := k + 1) _ hkn (fun j h3 h4 y hy => ?_)]
      · rw [hxk] at e3 ⊢
        exact seen_hit (nth_get hkn) e3
      · have hm : j ∈ ini.map Subtype.val := by rw [h1, down_mem]; omega
        obtain ⟨p, hp', rfl⟩ := List.mem_map.1 hm
        have := e2 p hp'
        rw [nth_get p.2] at hy
        cases hy; exact this
    rw [hb]
    simp [results, Tryz.f121, go_sem, e0, e1]

theorem read_any (b : Nat) (s : St) (F : Nat → Prop) (i : Int) (w : World) (h : PB w b s F) (hg : Good s) :
    Calls Tryz.prog 121 #[.pointer (some ⟨b, 0, none⟩), .int .i64 i] w fun e w' => e = .returned (.tuple #[.string (str (readV s i)), .int .i64 (wrong s i)]) ∧ Below w.heap.size w w' := by
  unfold readV
  by_cases hi : wrong s i = 0
  · rw [if_neg (by omega), hi]
    have h0 := (wrong_zero hi).2.1
    have := read_yes b s F i.toNat w h hg (by rw [show (i.toNat : Int) = i by omega]; exact hi)
    rw [show (i.toNat : Int) = i by omega] at this
    exact this
  · rw [if_pos hi]
    exact read_no b s F i w h hi
end Go.Proofs.YtmmpknfkncgjpaaGreatDoor
