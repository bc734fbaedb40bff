/-
  Sync (package plate), by a contract.

  New (package plate), by a contract: a plate's 4102 cells.

  Read (package plate), by a contract: the last write that waits, or what lasts.

  Write (package plate), by a contract.
-/
import Derived.Test.YtacdbfaoeioflaaGreatDoorCrash
import Derived.Great.BuildSlice
import Derived.Test.YtacdbfaoeioflaaGreatDoorBack
import Derived.Sort.CutIn
import Derived.Deep.DrawnRows
namespace Go.Proofs.YtacdbfaoeioflaaGreatDoor
open Go.RowKit

set_option maxRecDepth 100000 in
set_option maxHeartbeats 2000000 in
theorem sync_any (b : Nat) (s : St) (F : Nat → Prop) (w : World) (h : PB w b s F) (hg : Good s) (hn : s.wait.length ≤ 1000) (hc : s.n ≤ 1000000) :
    Calls Tryz.prog 19 #[.pointer (some ⟨b, 0, none⟩)] w fun e w' => e = .returned (.int .i64 (syncE s)) ∧ Goes F w w' (PB w' b (syncS s)) := by
  have HP0 := Lib.hid h
  obtain ⟨L, K, v, h, hF⟩ := h.v
  obtain ⟨-, -, c2, -⟩ := h.cells
  clear h hF
  cases hgo : s.gone
  · rw [hgo] at c2
    have hgt : ¬ (s.gone = true) := by simp [hgo]
    have HC := Lib.hid (count_any b s F w HP0.out hg hgo hn hc)
    have HG := Lib.hid hg.count
    have HN := Lib.hid (Nat.le_trans (count_wait s) hn)
    by_cases h1 : s.left = 1
    · have e1 : syncE s = 70 := by unfold syncE; rw [if_pos (.inr h1)]
      have e2 : syncS s = count s := by unfold syncS; rw [if_neg hgt, if_pos h1]
      rw [e1, e2]
      rw [show countE s = 70 from if_pos h1] at HC
      clear h1 e1 e2 hgt hgo hg
      generalize count s = s2 at HC HG HN ⊢
      go_enter Tryz.func19, Tryz.ntmps19
      go_wp2_with (go_at_call 54; refine HC.out.mono ?_; rintro e w1 ⟨rfl, k1⟩; have K1 := Lib.hid k1; clear k1)
      go_ret
      exact ⟨rfl, K1.out⟩
    · have e1 : syncE s = 0 := by unfold syncE; rw [if_neg (fun e => by rcases e with e | e; (exact hgt e); (exact h1 e))]
      have e2 : syncS s = whole (count s) := by unfold syncS; rw [if_neg hgt, if_neg h1]
      rw [e1, e2]
      rw [show countE s = 0 from if_neg h1] at HC
      clear h1 e1 e2 hgt hgo hg
      generalize count s = s2 at HC HG HN ⊢
      go_enter Tryz.func19, Tryz.ntmps19
      go_wp2_with (first
        | (go_at_call 54; refine HC.out.mono ?_; rintro e w1 ⟨rfl, k1⟩; obtain ⟨F1, k1, k2, k3⟩ := k1; obtain ⟨L1, K1, v1, k1, k4⟩ := k1.v; have P1 := Lib.hid k1; have E1 := Lib.hid (And.intro k2 (And.intro k3 k4)); clear k1 k2 k3 k4)
        | (go_at_call 57; refine (settle_all b s2 L1 K1 v1 _ P1.out HG.out HN.out).mono ?_; rintro e w2 ⟨rfl, k1, k2⟩; have P2 := Lib.hid k1; have E2 := Lib.hid k2; clear k1 k2))
      go_ret
      exact ⟨rfl, Goes.trans E1.out.1 E1.out.2.1 (Goes.plate P2.out (E1.out.2.2 b (.inl rfl)) (fun k hk => by simp [Value.ownBlock] at hk) (E2.out.wider (fun k hk => by rw [hk]; exact E1.out.2.2 b (.inl rfl))))⟩
  · rw [hgo] at c2
    have e1 : syncE s = 70 := by unfold syncE; rw [if_pos (.inl hgo)]
    have e2 : syncS s = s := by unfold syncS; rw [if_pos hgo]
    rw [e1, e2]
    clear e1 e2 hgo
    go_enter Tryz.func19, Tryz.ntmps19
    go_wp2
    go_ret
    exact ⟨rfl, Goes.same HP0.out (Keeps.refl _ _)⟩
end Go.Proofs.YtacdbfaoeioflaaGreatDoor

namespace Go.Proofs.YtacdbfaoeioflaaGreatDoor
open Go.RowKit

def zs : List Value := List.replicate 4096 (.int .u8 0)
theorem zs_length : zs.length = 4096 := List.length_replicate
theorem zs_get (q : Nat) (h : q < 4096) : zs[q]? = some (.int .u8 0) := by unfold zs; rw [List.getElem?_replicate, if_pos h]
/-- The cells of a plate with nothing in it, of so many sectors. -/
def blank (m : Int) : List Value := .int .i64 m :: (zs ++ [.slice none 0 0, .bool false, .int .i64 0, .int .i64 0, .int .u64 0])
set_option maxRecDepth 1000000 in
theorem info58 : (Tryz.prog.info? 75).map (fun i => (i.zero, i.size)) = some (some (.agg (blank 0).toArray), 4102) := by kernel_rfl
theorem blank_length (m : Int) : (blank m).length = 4102 := by
  unfold blank; rw [List.length_cons, List.length_append, zs_length]; rfl
theorem blank_set (k m : Int) : (blank k).toArray.setIfInBounds 0 (.int .i64 m) = (blank m).toArray := by
  rw [List.setIfInBounds_toArray]; rfl
theorem zero58 : ∃ Z : Array Value, (∀ w, (zeroValue 75).run Tryz.prog w = .ok (.agg Z) w) ∧ Z ≠ #[] ∧ ∀ m, Z.setIfInBounds 0 (.int .i64 m) = (blank m).toArray := by
  refine ⟨(blank 0).toArray, fun w => ?_, fun e => ?_, fun m => blank_set 0 m⟩
  · have h := info58
    generalize blank 0 = z at h ⊢
    cases hi : Tryz.prog.info? 75 with
    | none => rw [hi] at h; simp at h
    | some i =>
      rw [hi] at h
      simp only [Option.map_some, Option.some.injEq, Prod.mk.injEq] at h
      simp [zeroValue, typeInfo, hi, h.1]
  · have h1 := congrArg Array.size e
    rw [List.size_toArray, blank_length] at h1
    exact absurd h1 (by simp)
theorem byteAt_zero (m q : Nat) : byteAt (List.replicate m (zeros 32)) q = 0 := by
  unfold byteAt
  simp only [List.getD_eq_getElem?_getD, List.getElem?_replicate]
  split
  · simp only [Option.getD_some, zeros, List.getElem?_replicate]
    split <;> rfl
  · rfl
theorem blank_get (n : Int) (o : Nat) (h : o < 4102) : (blank (size0 n : Int)).toArray[o]? = some (pf (fresh n) 0 0 (.slice none 0 0) o) := by
  rw [List.getElem?_toArray]
  unfold pf
  by_cases h0 : o = 0
  · subst h0; rw [if_pos rfl]; show some (Value.int .i64 (size0 n : Int)) = some (Value.int .i64 ((List.replicate (size0 n) (zeros 32)).length : Int)); rw [List.length_replicate]
  · rw [if_neg h0]
    obtain ⟨q, rfl⟩ : ∃ q, o = q + 1 := ⟨o - 1, by omega⟩
    have e : (blank (size0 n : Int))[q + 1]? = (zs ++ [.slice none 0 0, .bool false, .int .i64 0, .int .i64 0, .int .u64 0])[q]? := rfl
    rw [e]
    by_cases h1 : q + 1 < 4097
    · rw [if_pos h1, List.getElem?_append_left (by rw [zs_length]; omega), zs_get q (by omega)]
      unfold sc
      rw [show (fresh n).is = List.replicate (size0 n) (zeros 32) from rfl, byteAt_zero]
      rfl
    · rw [if_neg h1, List.getElem?_append_right (by rw [zs_length]; omega), zs_length]
      obtain ⟨r, rfl, hr⟩ : ∃ r, q = 4096 + r ∧ r < 5 := ⟨q - 4096, by omega, by omega⟩
      rw [Nat.add_sub_cancel_left]
      clear h h0 h1 e
      rcases (show r = 0 ∨ r = 1 ∨ r = 2 ∨ r = 3 ∨ r = 4 by omega) with rfl | rfl | rfl | rfl | rfl <;> simp [fresh]
theorem PB.fresh (n : Int) (w : World) : PB (w.alloc (.cells (blank (size0 n : Int)).toArray 75)) w.heap.size (fresh n) (fun k => k = w.heap.size ∨ (Value.slice none 0 0).ownBlock = some k) := by
  have hr : (w.alloc (.cells (blank (size0 n : Int)).toArray 75)).rowIs w.heap.size 75 4102 (pf (Go.Proofs.YtacdbfaoeioflaaGreatDoor.fresh n) 0 0 (.slice none 0 0)) :=
    ⟨_, heap_alloc_new w _, by simp [blank_length], fun i hi => blank_get n i hi⟩
  exact PBv.pb ⟨hr, World.ownsRow_nil _ _ _ _, fun _ => ⟨rfl, fun e => absurd rfl e⟩, by omega, by omega⟩

set_option maxRecDepth 100000 in
set_option maxHeartbeats 2000000 in
theorem new_any (n : Int) (w : World) :
    Calls Tryz.prog 9 #[.int .i64 n] w fun e w' => e = .returned (.pointer (some ⟨w.heap.size, 0, none⟩)) ∧ Goes (fun _ => False) w w' (PB w' w.heap.size (fresh n)) := by
  have HP := Lib.hid (PB.fresh n w)
  have HB := Lib.hid (show Below w.heap.size w (w.alloc (.cells (blank (size0 n : Int)).toArray 75)) from (Below.refl _ _).alloc (Nat.le_refl _) _)
  have hsz : (size0 n : Int) = if n < 4 then 4 else if 128 < n then 128 else n := by
    unfold size0; split; rfl; split; rfl; omega
  generalize (size0 n : Int) = m at HP HB hsz
  obtain ⟨Z, hz, hne, hset⟩ := zero58
  have fin : ∀ w' : World, w' = w.alloc (.cells (Z.setIfInBounds 0 (.int .i64 m)) 75) → Goes (fun _ => False) w w' (PB w' w.heap.size (fresh n)) := fun w' e => by
    rw [hset] at e
    subst e
    exact ⟨_, HP.out, fun k hk => by rcases hk with rfl | hk; (exact .inr (Nat.le_refl _)); (simp [Value.ownBlock] at hk), Keeps.of_below HB.out⟩
  have FIN := Lib.hid fin
  clear fin HP HB hset
  by_cases h1 : n < 4
  · rw [if_pos h1] at hsz
    subst hsz
    go_enter Tryz.func9, Tryz.ntmps9
    go_wp2
    go_ret
    exact ⟨rfl, FIN.out _ rfl⟩
  · rw [if_neg h1] at hsz
    by_cases h2 : 128 < n
    · rw [if_pos h2] at hsz
      subst hsz
      go_enter Tryz.func9, Tryz.ntmps9
      go_wp2
      go_ret
      exact ⟨rfl, FIN.out _ rfl⟩
    · rw [if_neg h2] at hsz
      subst hsz
      go_enter Tryz.func9, Tryz.ntmps9
      go_wp2
      go_ret
      exact ⟨rfl, FIN.out _ rfl⟩
end Go.Proofs.YtacdbfaoeioflaaGreatDoor

namespace Go.Proofs.YtacdbfaoeioflaaGreatDoor
open Go.RowKit Go.Shelf
attribute [local go_sem] Oper.semAt_some

/-- What Read holds while it goes over what waits: its own boxes, and the sector's bytes. -/
structure RHold (W : World) (z b i : Nat) (sec : List UInt8) : Prop where
  ci : W.cell? ⟨z, 0, none⟩ = some (.int .i64 (i : Int))
  cs : W.cell? ⟨z + 1, 0, none⟩ = some (.string ⟨#[]⟩)
  ce : W.cell? ⟨z + 1 + 1, 0, none⟩ = some (.int .i64 0)
  fs : W.frozen? ⟨z + 1, 0, none⟩ = false
  fe : W.frozen? ⟨z + 1 + 1, 0, none⟩ = false
  rng : W.rangeAt b (1 + i * 32) (Lib.byteCells sec)
  hz : z + 3 ≤ W.heap.size
structure RRes (W : World) (z : Nat) (s : List UInt8) : Prop where
  cs : W.cell? ⟨z + 1, 0, none⟩ = some (.string (str s))
  ce : W.cell? ⟨z + 1 + 1, 0, none⟩ = some (.int .i64 0)
theorem RHold.own {A B : World} {row : Option Nat} {z b i : Nat} {sec : List UInt8} (h : RHold A z b i sec) (hg : A.grownBy B row) (hr : ∀ r, row = some r → ∃ o : Obj, A.heap[r]? = some o ∧ o.isCells = false) : RHold B z b i sec :=
  ⟨cell_kept h.ci hg hr, cell_kept h.cs hg hr, cell_kept h.ce hg hr, (frozen_kept h.cs hg hr).trans h.fs, (frozen_kept h.ce hg hr).trans h.fe, fun j u hu => cell_kept (h.rng j u hu) hg hr, Nat.le_trans h.hz hg.size⟩
theorem RRes.own {A B : World} {row : Option Nat} {z : Nat} {s : List UInt8} (h : RRes A z s) (hg : A.grownBy B row) (hr : ∀ r, row = some r → ∃ o : Obj, A.heap[r]? = some o ∧ o.isCells = false) : RRes B z s :=
  ⟨cell_kept h.cs hg hr, cell_kept h.ce hg hr⟩
theorem lt_cell {w : World} {b o : Nat} {v : Value} (h : w.cell? ⟨b, o, none⟩ = some v) : b < w.heap.size := World.block_lt_of_cell? w _ h
theorem frozen_below {A B : World} {N b o : Nat} (hb : Below N A B) (h : b < N) (hf : A.frozen? ⟨b, o, none⟩ = false) : B.frozen? ⟨b, o, none⟩ = false := by
  have := hb.block b h
  simpa [World.frozen?, this] using hf
theorem RHold.below {A B : World} {z b i : Nat} {sec : List UInt8} (h : RHold A z b i sec) (hb : Below A.heap.size A B) : RHold B z b i sec :=
  ⟨(hb.cell (p := ⟨z, 0, none⟩) (lt_cell h.ci)).trans h.ci, (hb.cell (p := ⟨z + 1, 0, none⟩) (lt_cell h.cs)).trans h.cs, (hb.cell (p := ⟨z + 1 + 1, 0, none⟩) (lt_cell h.ce)).trans h.ce, frozen_below hb (lt_cell h.cs) h.fs, frozen_below hb (lt_cell h.ce) h.fe,
   fun j u hu => (hb.cell (p := ⟨b, 1 + i * 32 + j, none⟩) (lt_cell (h.rng j u hu))).trans (h.rng j u hu), Nat.le_trans h.hz hb.size⟩
theorem WB.own {A B : World} {row : Option Nat} {D : Nat} {c : Wr} (h : WB A D c) (hg : A.grownBy B row) (hr : ∀ r, row = some r → ∃ o : Obj, A.heap[r]? = some o ∧ o.isCells = false) : WB B D c := by
  unfold WB
  rw [hg.block D h.lt (fun e => by
    obtain ⟨o, ho, hc⟩ := hr D e.symm
    rw [show A.heap[D]? = _ from h] at ho
    cases ho; cases hc)]
  exact h

theorem seen_skip {ws : List Wr} {i : Nat} {old : List UInt8} {k : Nat} : ∀ n, k ≤ n → (∀ j, k ≤ j → j < n → ∀ x, ws[j]? = some x → x.i ≠ i) → seen ws i old n = seen ws i old k
  | 0, h, _ => by rw [show k = 0 by omega]
  | n + 1, h, hx => by
    by_cases e : k = n + 1
    · rw [e]
    · have ih := seen_skip (old := old) n (by omega) (fun j h1 h2 => hx j h1 (by omega))
      show (match ws[n]? with | none => seen ws i old n | some w => if w.i = i then w.b else seen ws i old n) = seen ws i old k
      cases hw : ws[n]? with
      | none => exact ih
      | some x => exact (if_neg (hx n (by omega) (by omega) x hw)).trans ih
theorem seen_hit {ws : List Wr} {i : Nat} {old : List UInt8} {j : Nat} {x : Wr} (hx : ws[j]? = some x) (hi : x.i = i) : seen ws i old (j + 1) = x.b := by
  show (match ws[j]? with | none => seen ws i old j | some w => if w.i = i then w.b else seen ws i old j) = x.b
  rw [hx]; exact if_pos hi

/-- The bytes of a sector, in the plate's block. -/
theorem PBv.sec {w : World} {b : Nat} {s : St} {L K : Nat} {v : Value} (h : PBv w b s L K v) (hg : Good s) {i : Nat} (hi : i < s.is.length) : w.rangeAt b (1 + i * 32) (Lib.byteCells (s.is.getD i [])) := fun j u hu => by
  have hl := hg.sec i hi
  have hj : j < 32 := by have := (List.getElem?_eq_some_iff.1 hu).1; rw [Lib.byteCells_length, hl] at this; exact this
  have hh := hg.hi
  rw [h.row.cell (i := 1 + i * 32 + j) (by omega)]
  unfold pf
  rw [if_neg (by omega), if_pos (by omega)]
  unfold sc byteAt
  rw [show (1 + i * 32 + j - 1) / 32 = i by omega, show (1 + i * 32 + j - 1) % 32 = j by omega]
  rw [← hu]
  unfold Lib.byteCells
  rw [List.getElem?_map, List.getElem?_eq_getElem (by omega : j < (s.is.getD i []).length), List.getD_eq_getElem?_getD (l := s.is.getD i []), List.getElem?_eq_getElem (by omega : j < (s.is.getD i []).length)]
  rfl

set_option maxRecDepth 100000 in
set_option maxHeartbeats 2000000 in
theorem read_no (b : Nat) (s : St) (F : Nat → Prop) (i : Int) (w : World) (h : PB w b s F) (hi : wrong s i ≠ 0) :
    Calls Tryz.prog 69 #[.pointer (some ⟨b, 0, none⟩), .int .i64 i] w fun e w' => e = .returned (.tuple #[.string (str []), .int .i64 (wrong s i)]) ∧ Below w.heap.size w w' := by
  have hb3 : Below w.heap.size w (((w.alloc (.cells #[.int .i64 i] 3)).alloc (.cells #[.string ⟨#[]⟩] 9)).alloc (.cells #[.int .i64 0] 30)) := by go_grown
  have HR := Lib.hid (reach_any b s F i _ (h.below hb3))
  generalize wrong s i = x at HR hi ⊢
  have hx : (x == 0) = false := by simpa using hi
  have HB := Lib.hid hb3
  clear h hb3
  go_enter Tryz.func69, Tryz.ntmps69
  go_wp2_with (go_at_call 53; refine HR.out.mono ?_; rintro e w1 ⟨rfl, rfl⟩)
  exact bodyPost_ret (v := .tuple #[.string (str []), .int .i64 x]) (by simp [results, Tryz.results69, go_sem, str]) rfl ⟨rfl, by go_grown⟩

theorem conv_bytes {w : World} {b o : Nat} {l : List UInt8} (hl : l.length = 32) (hr : w.rangeAt b o (Lib.byteCells l)) : (convert 98 9 (.slice (some ⟨b, o, none⟩) 32 32)).run Tryz.prog w = .ok (.string (str l)) w := by
  have := run_convert_bytes_back (P := Tryz.prog) w 98 9 5 ⟨b, o, none⟩ 32 l Tryz.underlying98 Tryz.underlying5 Tryz.underlying9 (fun j hj => by
    rw [Go.WideShapes.add_plain]
    exact hr j _ (by unfold Lib.byteCells; rw [List.getElem?_map, List.getElem?_eq_getElem hj]; rfl))
  rw [hl] at this
  exact this
theorem down_mem {n k j : Nat} : j ∈ down n k ↔ k ≤ j ∧ j < n := by
  unfold down
  simp only [List.mem_map, List.mem_range]
  constructor
  · rintro ⟨i, hi, rfl⟩; omega
  · rintro ⟨h1, h2⟩; exact ⟨n - 1 - j, by omega, by omega⟩

set_option maxRecDepth 100000 in
set_option maxHeartbeats 4000000 in
theorem read_yes (b : Nat) (s : St) (F : Nat → Prop) (i : Nat) (w : World) (h : PB w b s F) (hg : Good s) (hi : wrong s (i : Int) = 0) :
    Calls Tryz.prog 69 #[.pointer (some ⟨b, 0, none⟩), .int .i64 (i : Int)] w fun e w' => e = .returned (.tuple #[.string (str (readB s i)), .int .i64 0]) ∧ Below w.heap.size w w' := by
  have hb3 : Below w.heap.size w (((w.alloc (.cells #[.int .i64 (i : Int)] 3)).alloc (.cells #[.string ⟨#[]⟩] 9)).alloc (.cells #[.int .i64 0] 30)) := by go_grown
  have z3 : (((w.alloc (.cells #[.int .i64 (i : Int)] 3)).alloc (.cells #[.string ⟨#[]⟩] 9)).alloc (.cells #[.int .i64 0] 30)).heap.size = w.heap.size + 3 := by simp
  have HR := Lib.hid (reach_any b s F i _ (h.below hb3))
  rw [hi] at HR
  obtain ⟨-, -, hil⟩ := wrong_zero hi
  have hil : i < s.is.length := by omega
  have hws : ∀ x ∈ s.wait, x.b.length = 32 := fun x hx => (hg.wt x hx).2
  have hhi := hg.hi
  obtain ⟨L, K, v, h, -⟩ := h.v
  have hform := owns_form (f := wcells) h.own (fun x hx => wcells_length (hws x hx))
  obtain ⟨A, cap, hv, hcap, hcm, hrows⟩ : ∃ A cap, v = .slice A s.wait.length cap ∧ s.wait.length ≤ cap ∧ cap ≤ maxLen ∧ ∀ k x, s.wait[k]? = some x → ∃ g, A = some ⟨g, 0, none⟩ ∧ g < w.heap.size ∧ w.rangeAt g (k * 33) (wcells x) := by
    rcases hform with ⟨rfl, h0⟩ | ⟨g, cap, rfl, hgl, hcap, hcm, hat⟩
    · exact ⟨none, 0, by rw [h0]; rfl, by rw [h0]; exact Nat.le_refl _, by unfold maxLen; omega, fun k x hx => by rw [h0] at hx; simp at hx⟩
    · exact ⟨_, cap, rfl, hcap, hcm, fun k x hx => ⟨g, rfl, hgl, hat k x hx⟩⟩
  subst hv
  have h3 := h.below hb3
  have hbl := h.row.lt
  have c1 := h3.cells.2.1
  have HH := Lib.hid (show RHold (((w.alloc (.cells #[.int .i64 (i : Int)] 3)).alloc (.cells #[.string ⟨#[]⟩] 9)).alloc (.cells #[.int .i64 0] 30)) w.heap.size b i (s.is.getD i []) from by
    have b0 := ((Boxed.new w 3 (.int .i64 (i : Int))).alloc (.cells #[.string ⟨#[]⟩] 9)).alloc (.cells #[.int .i64 0] 30)
    have b1 := (Boxed.new (w.alloc (.cells #[.int .i64 (i : Int)] 3)) 9 (.string ⟨#[]⟩)).alloc (.cells #[.int .i64 0] 30)
    have b2 := Boxed.new ((w.alloc (.cells #[.int .i64 (i : Int)] 3)).alloc (.cells #[.string ⟨#[]⟩] 9)) 30 (.int .i64 0)
    rw [World.size_alloc] at b1
    rw [World.size_alloc, World.size_alloc] at b2
    exact ⟨b0.cell, b1.cell, b2.cell, b1.frozen, b2.frozen, h3.sec hg hil, by simp⟩)
  have hro : ∀ k x, s.wait[k]? = some x → ∃ g, A = some ⟨g, 0, none⟩ ∧ g < w.heap.size ∧ (((w.alloc (.cells #[.int .i64 (i : Int)] 3)).alloc (.cells #[.string ⟨#[]⟩] 9)).alloc (.cells #[.int .i64 0] 30)).rangeAt g (k * 33) (wcells x) := fun k x hx => by
    obtain ⟨g, hA, hgl, h1⟩ := hrows k x hx
    exact ⟨g, hA, hgl, fun j u hu => (hb3.cell (p := ⟨g, k * 33 + j, none⟩) hgl).trans (h1 j u hu)⟩
  have HRO := Lib.hid hro
  have HB := Lib.hid hb3
  have HZ := Lib.hid z3
  have HW := Lib.hid hws
  have HS := Lib.hid (hg.sec i hil)
  clear h h3 hg hi hform hrows hro hb3 z3 hws
  refine (callsIn_wide (n := 8)).1 ?_
  refine callsIn_of_wp_marks Tryz.func69 rfl trivial ?_ rfl
  simp only [Tryz.ntmps69, List.size_toArray, List.length_cons, List.length_nil, Nat.reduceAdd, Nat.reduceSub, Array.replicate_succ, Array.replicate_zero, List.push_toArray, List.append_toArray, List.nil_append, List.cons_append]
  gi_wp2_with (first
    | (refine ⟨trivial, ?_⟩; gi_at_call 53; refine (callsIn_wide.2 HR.out).mono ?_; rintro e w1 ⟨rfl, rfl⟩)
    | (refine ⟨trivial, ?_⟩; gi_at_call 87; refine (callsIn_wide.2 (backward_any _ _ _ _)).mono ?_; rintro e w2 ⟨rfl, rfl⟩))
  have hcell : ((((w.alloc (.cells #[.int .i64 (i : Int)] 3)).alloc (.cells #[.string ⟨#[]⟩] 9)).alloc (.cells #[.int .i64 0] 30)).alloc (.cells #[.slice A s.wait.length cap] 71)).cell? ⟨w.heap.size + 1 + 1 + 1, 0, none⟩ = some (.slice A s.wait.length cap) := by
    have b3 := Boxed.new (((w.alloc (.cells #[.int .i64 (i : Int)] 3)).alloc (.cells #[.string ⟨#[]⟩] 9)).alloc (.cells #[.int .i64 0] 30)) 71 (.slice A s.wait.length cap)
    rw [World.size_alloc, World.size_alloc, World.size_alloc] at b3
    exact b3.cell
  have z4 : ((((w.alloc (.cells #[.int .i64 (i : Int)] 3)).alloc (.cells #[.string ⟨#[]⟩] 9)).alloc (.cells #[.int .i64 0] 30)).alloc (.cells #[.slice A s.wait.length cap] 71)).heap.size = w.heap.size + 4 := by simp
  have hb4 : Below (((w.alloc (.cells #[.int .i64 (i : Int)] 3)).alloc (.cells #[.string ⟨#[]⟩] 9)).alloc (.cells #[.int .i64 0] 30)).heap.size (((w.alloc (.cells #[.int .i64 (i : Int)] 3)).alloc (.cells #[.string ⟨#[]⟩] 9)).alloc (.cells #[.int .i64 0] 30)) ((((w.alloc (.cells #[.int .i64 (i : Int)] 3)).alloc (.cells #[.string ⟨#[]⟩] 9)).alloc (.cells #[.int .i64 0] 30)).alloc (.cells #[.slice A s.wait.length cap] 71)) := (Below.refl _ _).alloc (Nat.le_refl _) _
  have hH4 := HH.out.below hb4
  have hB4 := HB.out.trans (hb4.mono HB.out.size)
  have hR4 : ∀ k x, s.wait[k]? = some x → ∃ g, A = some ⟨g, 0, none⟩ ∧ g < w.heap.size + 4 ∧ ((((w.alloc (.cells #[.int .i64 (i : Int)] 3)).alloc (.cells #[.string ⟨#[]⟩] 9)).alloc (.cells #[.int .i64 0] 30)).alloc (.cells #[.slice A s.wait.length cap] 71)).rangeAt g (k * 33) (wcells x) := fun k x hx => by
    obtain ⟨g, hA, hg, h1⟩ := HRO.out k x hx
    exact ⟨g, hA, by omega, fun j u hu => (hb4.cell (p := ⟨g, k * 33 + j, none⟩) (by rw [HZ.out]; show g < _; omega)).trans (h1 j u hu)⟩
  clear hb4 HRO HH HB HZ HR c1
  generalize ((((w.alloc (.cells #[.int .i64 (i : Int)] 3)).alloc (.cells #[.string ⟨#[]⟩] 9)).alloc (.cells #[.int .i64 0] 30)).alloc (.cells #[.slice A s.wait.length cap] 71)) = W0 at *
  refine wpIn_rangeFunc_ownH rfl (by omega) (gf := 100) (lb := #[.pointer (some ⟨w.heap.size + 1 + 1 + 1, 0, none⟩)]) rfl trivial (enters_of Tryz.func100 (by kernel_rfl) rfl)
    (back_stops s.wait HW.out _ (w.heap.size + 1 + 1 + 1) A cap (w.heap.size + 4) (by omega) hcap hcm W0 (by omega) (by omega) hcell hR4) belowK_t (belowK_b (by omega)) (Below.refl _ _) (fun _ => rfl)
    (fun pre W => ((∀ p ∈ pre, (nth s.wait p.1).i ≠ i) ∧ RHold W w.heap.size b i (s.is.getD i []) ∧ w.heap.size + 4 ≤ W.heap.size) ∧ Below w.heap.size w W)
    (fun e pre W => (e = .ret ∧ ∃ ini x, pre = ini ++ [x] ∧ (∀ p ∈ ini, (nth s.wait p.1).i ≠ i) ∧ (nth s.wait x.1).i = i ∧ RRes W w.heap.size (nth s.wait x.1).b) ∧ Below w.heap.size w W)
    (OwnFrom.and (Own.from (fun s A B row hs hg hr => ⟨hs.1, hs.2.1.own hg hr, Nat.le_trans hs.2.2 hg.size⟩) _) (ownFrom_below (Nat.le_refl _) (by omega)))
    (fun e => OwnFrom.and (Own.from (fun s A B row hs hg hr => by obtain ⟨he, ini, x, e1, e2, e3, e4⟩ := hs; exact ⟨he, ini, x, e1, e2, e3, e4.own hg hr⟩) _) (ownFrom_below (Nat.le_refl _) (by omega)))
    ⟨⟨by simp, hH4, by omega⟩, hB4⟩
    (fun x a' W => ∃ Bx, w.heap.size + 4 ≤ Bx ∧ WB W Bx (nth s.wait x.1) ∧ a' = { tmps := #[.pointer (some ⟨b, 0, none⟩), .int .i64 (i : Int), undef, .pointer (some ⟨w.heap.size, 0, none⟩), .pointer (some ⟨w.heap.size + 1, 0, none⟩), .pointer (some ⟨w.heap.size + 1 + 1, 0, none⟩), .int .i64 0, undef, .pointer (some ⟨Bx, 0, none⟩), .pointer (some ⟨b, 0, none⟩), .int .i64 (i : Int), .int .i64 0, .int .i64 0, .bool false, undef, .pointer (some ⟨b, 0, none⟩), .pointer (some ⟨b, 0, none⟩), .pointer (some ⟨b, 4097, none⟩), .slice A s.wait.length cap, .func (.func 100) #[] #[.pointer (some ⟨w.heap.size + 1 + 1 + 1, 0, none⟩)], .int .i64 (x.1 : Int), .agg (wcells (nth s.wait x.1)).toArray, undef, undef, undef, undef, undef, undef, undef, undef, undef, undef, undef, undef, undef, undef], defers := [] })
    (fun x a' _ X Y row hs hg hr => by obtain ⟨Bx, h1, h2, h3⟩ := hs; exact ⟨Bx, h1, h2.own hg (fun r e => (hr r e).2), h3⟩)
    ?assign ?body ?done ?stop
  case assign =>
    rintro l pre x W K ⟨⟨hne, hH, hz⟩, hB⟩ hK
    have H32 := Lib.hid (HW.out (nth s.wait x.1) (List.mem_of_getElem? (nth_get x.2)))
    have HN := Lib.hid hne
    have H1 := Lib.hid hH
    have B1 := Lib.hid hB
    have HK := Lib.hid hK
    clear hne hH hB hK
    gi_wp2_with (with_reducible show wpListIn _ _ _ _ _ (Oper.mk none (Op.store 97 _ _) _ _ _ _ :: _) _ _; refine wpListIn_store_wr rfl (.tmp 8) (.tmp 21) rfl W.heap.size (nth s.wait x.1) H32.out _ rfl rfl (heap_alloc_new W _) rfl ?_; intro wF hWB hBF hKO)
    have hb1 : Below W.heap.size W wF := ((Below.refl _ W).alloc (Nat.le_refl _) _).trans hBF
    exact HK.out _ _ (((KeepsOthers.alloc _ _).trans hKO).from _) (hb1.mono hz) ⟨⟨HN.out, H1.out.below hb1, Nat.le_trans hz hb1.size⟩, B1.out.trans (hb1.mono B1.out.size)⟩ ⟨W.heap.size, hz, hWB, rfl⟩
  case body =>
    rintro l pre x a' W hl ⟨r, hr⟩ ⟨⟨hne, hH, hz⟩, hB⟩ ⟨Bx, hBx, hWB, rfl⟩ hlt
    have H32 := HW.out (nth s.wait x.1) (List.mem_of_getElem? (nth_get x.2))
    generalize hc : nth s.wait x.1 = c at *
    have HC := Lib.hid hc
    have c0 := hWB.at0
    have ci := hH.ci
    have cs := hH.cs
    have ce := hH.ce
    have fs := hH.fs
    have fe := hH.fe
    have hcv := conv_bytes H32 (show W.rangeAt Bx 1 (Lib.byteCells c.b) from fun j u hu => hWB.bytes j u hu)
    have HN := Lib.hid hne
    have H1 := Lib.hid hH
    have B1 := Lib.hid hB
    clear hne hH hB hc
    by_cases hci : c.i = i
    · have HCI := Lib.hid hci
      have ht : ((c.i : Int) == (i : Int)) = true := by simp [hci]
      clear hci
      gi_wp2
      refine ⟨((KeepsOthers.setCell _ _ _).trans (KeepsOthers.setCell _ _ _)).from _, ⟨rfl, pre, x, rfl, HN.out, by rw [HC.out]; exact HCI.out, ?_⟩, ?_⟩
      · rw [HC.out]
        refine ⟨?_, World.cell?_setCell_same' _ _ _ (by rw [World.cell?_setCell_other _ _ _ _ (by simp), H1.out.ce]; rfl)⟩
        rw [World.cell?_setCell_other _ _ _ _ (by simp)]
        exact World.cell?_setCell_same' _ _ _ (by rw [H1.out.cs]; rfl)
      · exact (B1.out.setCell (p := ⟨w.heap.size + 1, 0, none⟩) (by simp) _).setCell (p := ⟨w.heap.size + 1 + 1, 0, none⟩) (by simp; omega) _
    · have HCI := Lib.hid hci
      have ht : ((c.i : Int) == (i : Int)) = false := by simp; omega
      clear hci
      gi_wp2
      refine ⟨KeepsFrom.refl _ _, Below.refl _ _, ⟨fun p hp => ?_, H1.out, hz⟩, B1.out⟩
      rcases List.mem_append.1 hp with h1 | h1
      · exact HN.out p h1
      · simp only [List.mem_singleton] at h1
        subst h1
        rw [HC.out]; exact HCI.out
  case done =>
    rintro D ys W hD hys ⟨⟨hne, hH, hz⟩, hB⟩ hK
    have c0 := hH.ci
    have cs := hH.cs
    have ce := hH.ce
    have fs := hH.fs
    have fe := hH.fe
    have hcv := conv_bytes (w := W.drew) HS.out (show W.drew.rangeAt b (1 + i * 32) (Lib.byteCells (s.is.getD i [])) from hH.rng)
    have hi0 : (0 : Int) ≤ (i : Int) := by omega
    have hi1 : (i : Int) < 128 := by omega
    have HN := Lib.hid hne
    have HY := Lib.hid hys
    have H1 := Lib.hid hH
    have B1 := Lib.hid hB
    have HK := Lib.hid hK
    clear hne hys hH hB hK
    have hb : readB s i = s.is.getD i [] := by
      unfold readB
      rw [seen_skip (k := 0) _ (Nat.zero_le _) (fun j _ h2 x hx => ?_)]
      · rfl
      · have hm : j ∈ ys.map Subtype.val := by rw [HY.out, down_mem]; omega
        obtain ⟨p, hp, rfl⟩ := List.mem_map.1 hm
        have := HN.out p hp
        rw [nth_get p.2] at hx
        cases hx; exact this
    have HBb := Lib.hid hb
    clear hb
    generalize s.is.getD i [] = sec at *
    gi_wp2
    gi_region
    gi_wp2
    have HK2 : (((W.setCell ⟨w.heap.size + 1, 0, none⟩ (.string (str sec))).setCell ⟨w.heap.size + 1 + 1, 0, none⟩ (.int .i64 0)).drew).heap[D]? = some (.deferred (some [])) := ((KeepsOthers.setCell W _ _).trans (KeepsOthers.setCell _ _ _)).same D _ HK.out rfl
    refine ⟨by simp, .inl ⟨_, _, rfl, run_takeDeferred HK2, ?_⟩⟩
    have hR4 : RRes (((W.setCell ⟨w.heap.size + 1, 0, none⟩ (.string (str sec))).setCell ⟨w.heap.size + 1 + 1, 0, none⟩ (.int .i64 0)).drew) w.heap.size sec := by
      refine ⟨?_, World.cell?_setCell_same' _ _ _ (by rw [World.cell?_setCell_other _ _ _ _ (by simp), H1.out.ce]; rfl)⟩
      show ((W.setCell _ _).setCell _ _).cell? _ = _
      rw [World.cell?_setCell_other _ _ _ _ (by simp)]
      exact World.cell?_setCell_same' _ _ _ (by rw [H1.out.cs]; rfl)
    have hR5 := hR4.own (grownBy_putObj' _ D (.deferred none)) (fun r e => by cases e; exact ⟨_, HK2, rfl⟩)
    have e0 := hR5.cs
    have e1 := hR5.ce
    refine ⟨.tuple #[.string (str sec), .int .i64 0], ?_, by rw [HBb.out], (((B1.out.setCell (p := ⟨w.heap.size + 1, 0, none⟩) (by simp) _).setCell (p := ⟨w.heap.size + 1 + 1, 0, none⟩) (by simp; omega) _).drew).trans (belowK_b (w := w) (Nat.le_refl _) _ D _ _ (by omega) HK2 rfl rfl)⟩
    simp [results, Tryz.f69, go_sem, e0, e1]
  case stop =>
    rintro D e pre W hD hpre ⟨⟨rfl, ini, x, rfl, e2, e3, hR⟩, hB⟩ hK
    gi_wp2
    refine ⟨by simp, .inl ⟨_, _, rfl, run_takeDeferred hK, ?_⟩⟩
    have hR5 := hR.own (grownBy_putObj' _ D (.deferred none)) (fun r e => by cases e; exact ⟨_, hK, rfl⟩)
    have e0 := hR5.cs
    have e1 := hR5.ce
    refine ⟨.tuple #[.string (str (readB s i)), .int .i64 0], ?_, rfl, hB.trans (belowK_b (w := w) (Nat.le_refl _) W D _ _ (by omega) hK rfl rfl)⟩
    have hb : readB s i = (nth s.wait x.1).b := by
      obtain ⟨k, hk, hp⟩ := hpre
      have hkn : k < s.wait.length := by
        rcases Nat.lt_or_ge k s.wait.length with h | h
        · exact h
        · have : k = s.wait.length := by omega
          rw [this, down_top] at hp
          simp at hp
      rw [down_succ hkn, List.map_append] at hp
      obtain ⟨h1, h2⟩ := List.append_inj' hp (by simp)
      have hxk : x.1 = k := by simpa using h2
      unfold readB
      rw [seen_skip (k := k + 1) _ hkn (fun j h3 h4 y hy => ?_)]
      · rw [hxk] at e3 ⊢
        exact seen_hit (nth_get hkn) e3
      · have hm : j ∈ ini.map Subtype.val := by rw [h1, down_mem]; omega
        obtain ⟨p, hp', rfl⟩ := List.mem_map.1 hm
        have := e2 p hp'
        rw [nth_get p.2] at hy
        cases hy; exact this
    rw [hb]
    simp [results, Tryz.f69, go_sem, e0, e1]

theorem read_any (b : Nat) (s : St) (F : Nat → Prop) (i : Int) (w : World) (h : PB w b s F) (hg : Good s) :
    Calls Tryz.prog 69 #[.pointer (some ⟨b, 0, none⟩), .int .i64 i] w fun e w' => e = .returned (.tuple #[.string (str (readV s i)), .int .i64 (wrong s i)]) ∧ Below w.heap.size w w' := by
  unfold readV
  by_cases hi : wrong s i = 0
  · rw [if_neg (by omega), hi]
    have h0 := (wrong_zero hi).2.1
    have := read_yes b s F i.toNat w h hg (by rw [show (i.toNat : Int) = i by omega]; exact hi)
    rw [show (i.toNat : Int) = i by omega] at this
    exact this
  · rw [if_pos hi]
    exact read_no b s F i w h hi
end Go.Proofs.YtacdbfaoeioflaaGreatDoor

namespace Go.Proofs.YtacdbfaoeioflaaGreatDoor
open Go.RowKit

/-- A text is copied to the head of a write's bytes. -/
theorem wpList_copy_str {ops : Array Oper} {rest : List Oper} {o : Oper} {a : Act} {w : World} {Q : Exit → Act → World → Prop} (hgd : o.guard = none) (d e : Operand)
    (ho : o.op = .call { callee := .builtin .copy, args := #[d, e], argTypes := #[98, 9] })
    (D : Nat) (i : Nat) (s : ByteArray) (hD : WB w D ⟨i, zeros 32⟩) (hd : a.eval d = .slice (some ⟨D, 1, none⟩) 32 32) (he : a.eval e = .string s) (hs : s.size ≤ 32)
    (h : ∀ wF, WB wF D ⟨i, pad s⟩ → Below D w wF → wpList Tryz.prog ops Q rest (a.put o.dst (goInt s.size)) wF) : wpList Tryz.prog ops Q (o :: rest) a w := by
  refine wpList_plain hgd fun K hK => ?_
  have hl : s.data.toList.length = s.size := by show s.data.toList.length = s.data.size; simp
  have hz : (Lib.byteCells (zeros 32)).length = 32 := by rw [Lib.byteCells_length]; simp [zeros]
  have hrun := Lib.run_copy_row_string (P := Tryz.prog) w 98 9 o.type 5 D 1 32 32 s _ _ Tryz.underlying98 info5 hD hs (by simp [wcells, hz]; omega)
  have hrow : ((wcells ⟨i, zeros 32⟩).toArray.toList.take 1 ++ Lib.byteCells s.data.toList ++ (wcells ⟨i, zeros 32⟩).toArray.toList.drop (1 + s.size)).toArray = (wcells ⟨i, pad s⟩).toArray := by
    have e1 : (wcells ⟨i, zeros 32⟩).take 1 = [.int .i64 (i : Int)] := rfl
    have e2 : (wcells ⟨i, zeros 32⟩).drop (1 + s.size) = Lib.byteCells (zeros (32 - s.size)) := by
      rw [show 1 + s.size = s.size + 1 by omega]
      show (Lib.byteCells (zeros 32)).drop s.size = _
      unfold Lib.byteCells zeros
      rw [← List.map_drop, List.drop_replicate]
    rw [List.toList_toArray, e1, e2]
    unfold wcells pad Lib.byteCells
    rw [List.map_append]
    rfl
  rw [hrow] at hrun
  unfold Oper.wp
  simp [execOp, ho, resolve, invoke, builtin, hd, he, hrun, Result.andThen]
  exact hK _ _ (h _ (setRow_heap w D (wcells ⟨i, zeros 32⟩).toArray (wcells ⟨i, pad s⟩).toArray _ _ hD) (below_setRow (Below.refl D w) (Nat.le_refl D) _))

theorem built61 (i : Nat) : Tryz.prog.built 97 [(0, .int .i64 (i : Int))] = some (wcells ⟨i, zeros 32⟩).toArray := by kernel_rfl
theorem wpList_build_wr {ops : Array Oper} {rest : List Oper} {o : Oper} {a : Act} {w : World} {Q : Exit → Act → World → Prop} (hgd : o.guard = none) (x : Operand) (ho : o.op = .build 97 #[(0, x)])
    (i : Nat) (hx : a.eval x = .int .i64 (i : Int)) (h : wpList Tryz.prog ops Q rest (a.put o.dst (.agg (wcells ⟨i, zeros 32⟩).toArray)) w) : wpList Tryz.prog ops Q (o :: rest) a w :=
  wpList_buildTo hgd _ _ ho o.dst rfl _ (by simp only [List.map_toArray, List.map_cons, List.map_nil, hx]; exact built61 i) h
theorem wpList_alloc_wr {ops : Array Oper} {rest : List Oper} {o : Oper} {a : Act} {w : World} {Q : Exit → Act → World → Prop} (hgd : o.guard = none) (ho : o.op = .alloc 97)
    (h : wpList Tryz.prog ops Q rest (a.put o.dst (.pointer (some ⟨w.heap.size, 0, none⟩))) (w.alloc (.cells (wcells ⟨0, zeros 32⟩).toArray 97))) : wpList Tryz.prog ops Q (o :: rest) a w := by
  refine wpList_plain hgd fun K hK => ?_
  have hz : (zeroValue 97).run Tryz.prog w = .ok (.agg (wcells ⟨0, zeros 32⟩).toArray) w := by
    obtain ⟨i0, hi0, hz0, hz1, hz2⟩ := info_parts info61'
    simp [zeroValue, typeInfo, hi0, hz0]
  unfold Oper.wp
  simp only [execOp, ho, Instr.alloc, Sem.run_bind, hz, Result.andThen_ok, newVar]
  simp [Result.andThen, Value.cells]
  exact hK _ _ h

theorem run_build61 (c : Wr) (hc : c.b.length = 32) (W : World) : (Instr.buildSlice 71 1 #[(0, .agg (wcells c).toArray)]).run Tryz.prog W = .ok (.slice (some ⟨W.heap.size, 0, none⟩) 1 1) (W.alloc (.cells (wcells c).toArray 97)) := by
  obtain ⟨i0, hi0, hz0, hz1, hz2⟩ := info_parts info61'
  refine run_buildSlice W _ 97 1 _ _ i0 _ Tryz.underlying71 hi0 hz0 (by rw [hz1]; omega) (by rw [hz1]; omega) ?_
  rw [hz1]
  have hl := wcells_length hc
  have := Great.fill_whole (s := 33) (by omega) [.agg (wcells c).toArray] ((Array.range (1 * 33)).map ((Value.agg (wcells ⟨0, zeros 32⟩).toArray).cells[· % (Value.agg (wcells ⟨0, zeros 32⟩).toArray).cells.size]!)) (fun v hv => by simp at hv; subst hv; simp [Value.cells, hl]) (by simp)
  simpa [Value.cells] using this

/-- A write lies whole where v points to. -/
def okL (w : World) (v : Value) : Prop := ∃ D c, c.b.length = 32 ∧ v = .pointer (some ⟨D, 0, none⟩) ∧ WB w D c
def valL (w : World) (v : Value) : Value := match v with
  | .pointer (some a) => match w.heap[a.block]? with
    | some (.cells cs _ _) => .agg cs
    | _ => undef
  | _ => undef
theorem okL_of {w : World} {D : Nat} {c : Wr} (h : WB w D c) (hc : c.b.length = 32) : okL w (.pointer (some ⟨D, 0, none⟩)) := ⟨D, c, hc, rfl, h⟩
theorem valL_of {w : World} {D : Nat} {c : Wr} (h : WB w D c) : valL w (.pointer (some ⟨D, 0, none⟩)) = .agg (wcells c).toArray := by
  unfold valL; simp only [show w.heap[D]? = _ from h]
theorem wp_loadL {d : Option Tmp} {x : Operand} {ty : TypeId} {pos : String} {after : Array Edge} {g : Option (Nat × Bool)} {a : Act} {w : World} {K : Act → World → Prop} {Q : Exit → Act → World → Prop} (h : okL w (a.eval x)) :
    Oper.wp Tryz.prog { dst := d, op := .load 97 x, type := ty, pos := pos, after := after, guard := g } a w K Q = K (a.put d (valL w (a.eval x))) w := by
  obtain ⟨D, c, hc, hx, hw⟩ := h
  rw [hx, valL_of hw]
  have hl := run_loadVar_mid (P := Tryz.prog) w D 0 97 (wcells c) _ hw.range Tryz.underlying97 rfl (by rw [info61, wcells_length hc])
  unfold Oper.wp execOp
  simp only [hx, Instr.loadAt, Instr.sureAddr, Sem.run_bind, Sem.run_pure, Result.andThen_ok, hl]
  rfl

def okB (v : Value) : Prop := ∃ c : Wr, c.b.length = 32 ∧ v = .agg (wcells c).toArray
theorem wp_buildL {d : Option Tmp} {x : Operand} {ty : TypeId} {pos : String} {after : Array Edge} {g : Option (Nat × Bool)} {a : Act} {w : World} {K : Act → World → Prop} {Q : Exit → Act → World → Prop} (h : okB (a.eval x)) :
    Oper.wp Tryz.prog { dst := d, op := .buildSlice 71 1 #[(0, x)], type := ty, pos := pos, after := after, guard := g } a w K Q = K (a.put d (.slice (some ⟨w.heap.size, 0, none⟩) 1 1)) (w.alloc (.cells (a.eval x).cells 97)) := by
  obtain ⟨c, hc, hx⟩ := h
  have hr := run_build61 c hc w
  unfold Oper.wp execOp
  simp only [List.map_toArray, List.map_cons, List.map_nil, hx, Sem.run_bind, Sem.run_pure, Result.andThen_ok, hr]
  rfl

attribute [local go_sem ↓] Go.wp_at_zero Go.wp_at_succ wp_loadL wp_buildL

/-- What waits is another row, the old one gone or not. -/
theorem PBv.putWaits {w : World} {b : Nat} {s : St} {L K : Nat} {v u : Value} {ws : List Wr} (hr : w.rowIs b 75 4102 (pf s L K v)) (lf : s.gone = false → L = s.left ∧ (s.left ≠ 0 → K = s.keep)) (lt : L < 9223372036854775808) (kt : K < 18446744073709551616)
    (ho : w.ownsRow 0 97 33 u ws.length (flat ws)) : PBv (w.setCell ⟨b, 4097, none⟩ u) b { s with wait := ws } L K u :=
  ⟨(hr.set 4097 u).congr fun o _ => pf_waits s ws L K v u o, owns_kept ho fun g hg => Below.heap_setCell _ _ _ _ (fun e => owns_ne ho hr (by decide) (by rw [hg]; exact congrArg some e)), lf, lt, kt⟩

set_option maxRecDepth 100000 in
set_option maxHeartbeats 4000000 in
theorem write_yes (b : Nat) (s : St) (F : Nat → Prop) (i : Nat) (t : ByteArray) (w : World) (h : PB w b s F) (hg : Good s) (hi : wrong s (i : Int) = 0) (ht : t.size ≤ 32) (hn : s.wait.length ≤ 900) (hc : s.n ≤ 1000000) :
    Calls Tryz.prog 17 #[.pointer (some ⟨b, 0, none⟩), .int .i64 (i : Int), .string t] w fun e w' => e = .returned (.int .i64 (countE s)) ∧ Goes F w w' (PB w' b (count (add s i t))) := by
  have HR := Lib.hid (reach_any b s F i w h)
  rw [hi] at HR
  have hbF := h.mem
  have hbl := h.lt b hbF
  have HGA := Lib.hid (hg.add hi ht)
  have hgo := (wrong_zero hi).1
  obtain ⟨L, K, v, h, hF⟩ := h.v
  have HP := Lib.hid h
  have HF := Lib.hid hF
  have HGO := Lib.hid hgo
  have htI : ¬ ((32 : Int) < (t.size : Int)) := by omega
  have hadd : add s (i : Int) t = { s with wait := s.wait ++ [⟨i, pad t⟩] } := by unfold add; rw [Int.toNat_natCast]
  rw [hadd] at HGA ⊢
  clear h hF hi hg hgo hadd
  go_enter Tryz.func17, Tryz.ntmps17
  go_wp2_with (first
    | (go_at_call 53; refine HR.out.mono ?_; rintro e w1 ⟨rfl, rfl⟩)
    | (with_reducible show wpList _ _ _ (Oper.mk _ (Op.build 97 _) _ _ _ _ :: _) _ _; refine wpList_build_wr rfl (.tmp 18) rfl i rfl ?_)
    | (with_reducible show wpList _ _ _ (Oper.mk _ (Op.alloc 97) _ _ _ _ :: _) _ _; refine wpList_alloc_wr rfl rfl ?_)
    | (with_reducible show wpList _ _ _ (Oper.mk none (Op.store 97 _ _) _ _ _ _ :: _) _ _; refine wpList_store_wr rfl (.tmp 8) (.tmp 19) rfl w.heap.size ⟨i, zeros 32⟩ (by simp [zeros]) _ rfl rfl (heap_alloc_new w _) (by simp [wcells_length, zeros]) ?_; intro wF hWB hBF; have WB1 := Lib.hid hWB; have BF1 := Lib.hid hBF; clear hWB hBF)
    | (with_reducible show wpList _ _ _ (Oper.mk (some 23) _ _ _ _ _ :: _) _ _; refine wpList_copy_str rfl (.tmp 21) (.tmp 22) rfl w.heap.size i t WB1.out rfl rfl ht ?_; intro wG hWB hBF; have WB2 := Lib.hid hWB; have BF2 := Lib.hid hBF; clear hWB hBF))
  have hsz : (w.alloc (.cells (wcells ⟨0, zeros 32⟩).toArray 97)).heap.size = w.heap.size + 1 := by simp
  have hzl : w.heap.size < wG.heap.size := by have h1 := BF1.out.size; have h2 := BF2.out.size; omega
  have hb0 : Below w.heap.size w wG.drew := ((((Below.refl _ w).alloc (Nat.le_refl _) _).trans BF1.out).trans BF2.out).drew
  have hb1 : Below w.heap.size w (wG.drew.alloc (.cells (wcells ⟨i, pad t⟩).toArray 97)) := hb0.alloc (by show w.heap.size ≤ wG.heap.size; omega) _
  have hcl : (pad t).length = 32 := pad_length ht
  have P0 := Lib.hid (HP.out.below hb0)
  have P1 := Lib.hid (HP.out.below hb1)
  have R0 := Lib.hid (show wG.drew.rangeAt w.heap.size 0 (wcells ⟨i, pad t⟩) from WB2.out.range)
  have R1 := Lib.hid (show (wG.drew.alloc (.cells (wcells ⟨i, pad t⟩).toArray 97)).rangeAt w.heap.size 0 (wcells ⟨i, pad t⟩) from World.rangeAt_alloc R0.out _)
  have hc0 := P0.out.cells.2.1
  have hc1 : (wG.alloc (.cells (wcells ⟨i, pad t⟩).toArray 97)).cell? ⟨b, 4097, none⟩ = some v := P1.out.cells.2.1
  have HN := Lib.hid (show ∀ j u, (flat [⟨i, pad t⟩])[j]? = some u → (wG.drew.alloc (.cells (wcells ⟨i, pad t⟩).toArray 97)).cell? ((⟨wG.heap.size, 0, none⟩ : Addr).add j) = some u from fun j u hu =>
    World.news_of_block (cs := (wcells ⟨i, pad t⟩).toArray) (t := 97) (fr := (0, 0)) (heap_alloc_new wG.drew _) j u (by simpa [flat_one] using hu))
  have hbs : okB (.agg (wcells ⟨i, pad t⟩).toArray) := ⟨_, hcl, rfl⟩
  have ok0 := okL_of (w := wG.drew) WB2.out hcl
  have va0 := valL_of (w := wG.drew) WB2.out
  obtain ⟨i0, hi0, hz0, hz1, hz2⟩ := info_parts info61'
  have HI := Lib.hid (And.intro hi0 (And.intro hz0 (And.intro hz1 hz2)))
  have B1 := Lib.hid hb1
  have CL := Lib.hid hcl
  have HNE := Lib.hid P1.out.ne
  clear hsz hb0 hb1 hcl hi0 hz0 hz1 hz2 R0 R1
  go_region_law
    ((refine step_append_lies _ (by rfl) (.tmp 28) (.tmp 30) 71 (by rfl) 0 97 i0 _ 33 40 Tryz.underlying71 HI.out.1 HI.out.2.1 HI.out.2.2.1 HI.out.2.2.2 (by simp [Value.cells, wcells_length, zeros]) (by omega) v s.wait.length (flat s.wait) (by rfl) P1.out.own
          ⟨wG.heap.size, 0, none⟩ 1 1 (flat [⟨i, pad t⟩]) (by rfl) (by rw [flat_one, wcells_length CL.out]) HN.out (flat_oneCell _) (by omega) (by unfold maxLen; omega) (by omega) (by simp) (wG.heap.size + 1) (by simp) ?_; intro g cap w2 hown2 hgrow hat hlt; (have hf2 : w2.frozen? ⟨b, 4097, none⟩ = false := by rw [hgrow.frozen_far _ (by have := P1.out.row.lt; simpa using this) (Ne.symm HNE.out)]; exact P1.out.row.frozen 4097); (have hc2 : w2.cell? ⟨b, 4097, none⟩ = some v := by rw [hgrow.cell_far _ (by have := P1.out.row.lt; simpa using this) (Ne.symm HNE.out)]; exact P1.out.cells.2.1)))
  all_goals
    have hr2 := P1.out.row.of_block (hgrow.block b P1.out.row.lt (fun e => HNE.out e.symm))
    have P3 := Lib.hid (PBv.putWaits (ws := s.wait ++ [⟨i, pad t⟩]) hr2 P1.out.lf P1.out.lt P1.out.kt (by rw [flat_append]; simpa using hown2))
    have K3 := Lib.hid (((Keeps.of_below (F := F) B1.out).grown (w1 := wG.drew.alloc (.cells (wcells ⟨i, pad t⟩).toArray 97)) hgrow (fun k hk => .inl (HF.out k (.inr hk)))).set (b := b) (o := 4097) (.inl hbF) (.slice (some ⟨g, 0, none⟩) (s.wait.length + 1) cap))
    have HFG := Lib.hid (show ∀ k, (k = b ∨ (Value.slice (some ⟨g, 0, none⟩) (s.wait.length + 1) cap).ownBlock = some k) → F k ∨ w.heap.size ≤ k from fun k hk => by
      rcases hk with rfl | hk
      · exact .inl hbF
      · simp only [Value.ownBlock, Option.some.injEq] at hk
        subst hk
        rcases hat with hat | hat
        · exact .inl (HF.out _ (.inr hat))
        · exact .inr (by omega))
    have HC := Lib.hid (count_any b { s with wait := s.wait ++ [⟨i, pad t⟩] } _ _ P3.out.pb HGA.out HGO.out (by show (s.wait ++ [(⟨i, pad t⟩ : Wr)]).length ≤ 1000; simp; omega) hc)
    clear hown2 hgrow hat hlt hf2 hc2 hr2 P3 ok0 va0 hbs hc0 hc1 P0 P1 HN HI B1 CL HNE WB1 WB2 BF1 BF2
    go_wp2_with (go_at_call 54; refine HC.out.mono ?_; rintro e w3 ⟨rfl, k1⟩; have K4 := Lib.hid k1; clear k1)
    go_ret
    exact ⟨rfl, Goes.trans HFG.out K3.out K4.out⟩

set_option maxRecDepth 100000 in
set_option maxHeartbeats 2000000 in
theorem write_any (b : Nat) (s : St) (F : Nat → Prop) (i : Int) (t : ByteArray) (w : World) (h : PB w b s F) (hg : Good s) (hn : s.wait.length ≤ 900) (hc : s.n ≤ 1000000) (ht : t.size ≤ 9223372036854775807) :
    Calls Tryz.prog 17 #[.pointer (some ⟨b, 0, none⟩), .int .i64 i, .string t] w fun e w' => e = .returned (.int .i64 (writeE s i t)) ∧ Goes F w w' (PB w' b (writeS s i t)) := by
  by_cases hi : wrong s i = 0
  · by_cases h32 : t.size ≤ 32
    · have e1 : writeE s i t = countE s := by unfold writeE; rw [if_neg (by omega), if_neg (by omega)]
      have e2 : writeS s i t = count (add s i t) := by unfold writeS; rw [if_neg (by omega)]
      rw [e1, e2]
      have hi0 := (wrong_zero hi).2.1
      have := write_yes b s F i.toNat t w h hg (by rw [show (i.toNat : Int) = i by omega]; exact hi) h32 hn hc
      rw [show (i.toNat : Int) = i by omega] at this
      exact this
    · have e1 : writeE s i t = 11 := by unfold writeE; rw [if_neg (by omega), if_pos (by omega)]
      have e2 : writeS s i t = s := by unfold writeS; rw [if_pos (by omega)]
      rw [e1, e2]
      have HP := Lib.hid h
      have HR := Lib.hid (reach_any b s F i w h)
      rw [hi] at HR
      have htI : (32 : Int) < (t.size : Int) := by omega
      clear h hg hi e1 e2 h32
      go_enter Tryz.func17, Tryz.ntmps17
      go_wp2_with (go_at_call 53; refine HR.out.mono ?_; rintro e w1 ⟨rfl, rfl⟩)
      go_ret
      exact ⟨rfl, Goes.same HP.out (Keeps.refl _ _)⟩
  · have e1 : writeE s i t = wrong s i := by unfold writeE; rw [if_pos hi]
    have e2 : writeS s i t = s := by unfold writeS; rw [if_pos (.inl hi)]
    rw [e1, e2]
    have HP := Lib.hid h
    have HR := Lib.hid (reach_any b s F i w h)
    generalize wrong s i = x at HR hi ⊢
    have hx : (x == 0) = false := by simpa using hi
    clear h hg e1 e2
    go_enter Tryz.func17, Tryz.ntmps17
    go_wp2_with (go_at_call 53; refine HR.out.mono ?_; rintro e w1 ⟨rfl, rfl⟩)
    go_ret
    exact ⟨rfl, Goes.same HP.out (Keeps.refl _ _)⟩
end Go.Proofs.YtacdbfaoeioflaaGreatDoor
