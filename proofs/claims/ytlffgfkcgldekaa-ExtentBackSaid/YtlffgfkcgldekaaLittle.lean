/-
  check, holds, Free (package extent), by contracts.
-/
import Derived.Test.YtlffgfkcgldekaaCells
namespace Go.Proofs.Ytlffgfkcgldekaa
open Go.RowKit

/-- A range as an argument: boxed. -/
theorem boxed (w : World) (r : Rg) (t : TypeId) : (w.alloc (.cells r.cells t)).cell? ⟨w.heap.size, 0, none⟩ = some (.int .i64 r.f) ∧ (w.alloc (.cells r.cells t)).cell? ⟨w.heap.size, 1, none⟩ = some (.int .i64 r.t) := by
  have hc : ∀ j, (w.alloc (.cells r.cells t)).cell? ⟨w.heap.size, j, none⟩ = r.cells[j]? := fun j => cell_of_row _ _ _ _ _ _ (heap_alloc_new w _)
  exact ⟨hc 0, hc 1⟩

set_option maxRecDepth 100000 in
theorem check_any (b : Nat) (s : St) (g cap : Nat) (r : Rg) (w : World) (h : PBv w b s g cap) :
    Calls Try.prog 29 #[.pointer (some ⟨b, 0, none⟩), r.val] w fun e w' => e = .returned (.int .i64 (mayE s r)) ∧ Below w.heap.size w w' := by
  obtain ⟨c0, c1, -⟩ := h.cells
  have hlt := h.lt
  clear h
  unfold mayE
  generalize s.n = n at c0 ⊢
  generalize (runs s).length = m at c1
  obtain ⟨f, t⟩ := r
  show Calls _ _ #[_, .agg #[.int .i64 f, .int .i64 t]] w _
  by_cases h1 : t ≤ f
  · rw [if_pos h1]
    go_enter Try.func29, Try.ntmps29
    go_wp2
    go_ret
    exact ⟨rfl, (Below.refl _ _).alloc (Nat.le_refl _) _⟩
  · rw [if_neg h1]
    by_cases h2 : f < 0
    · rw [if_pos (.inl h2)]
      go_enter Try.func29, Try.ntmps29
      go_wp2
      go_quiet (fail)
      go_wp2
      go_ret
      exact ⟨rfl, below_drewN ((Below.refl _ _).alloc (Nat.le_refl _) _) _⟩
    · have hd : decide (f < 0) = false := by simpa using h2
      by_cases h3 : (n : Int) < t
      · rw [if_pos (.inr h3)]
        go_enter Try.func29, Try.ntmps29
        go_wp2
        go_quiet (fail)
        go_wp2
        go_ret
        exact ⟨rfl, below_drewN ((Below.refl _ _).alloc (Nat.le_refl _) _) _⟩
      · rw [if_neg (fun hc => by rcases hc with hc | hc; exact h2 hc; exact h3 hc)]
        go_enter Try.func29, Try.ntmps29
        go_wp2
        go_quiet (fail)
        go_wp2
        go_ret
        exact ⟨rfl, below_drewN ((Below.refl _ _).alloc (Nat.le_refl _) _) _⟩

set_option maxRecDepth 100000 in
theorem holds_any (b : Nat) (s : St) (g cap k : Nat) (i : Int) (w : World) (h : PBv w b s g cap) (hk : k ≤ (runs s).length) :
    Calls Try.prog 31 #[.pointer (some ⟨b, 0, none⟩), .int .i64 (k : Int), .int .i64 i] w fun e w' => e = .returned (.bool (holdsB (runs s) k i)) ∧ w = w' := by
  obtain ⟨c0, c1, -⟩ := h.cells
  have hl := h.l
  clear h
  have hcap := hl.le
  unfold holdsB
  cases hx : (runs s)[k]? with
  | none =>
    have : (runs s).length = k := by have := List.getElem?_eq_none_iff.1 hx; omega
    clear hx hl
    generalize (runs s).length = m at *
    subst this
    have hlI : ¬ ((m : Int) < (m : Int)) := by omega
    go_enter Try.func31, Try.ntmps31
    go_wp2
    go_ret
    exact ⟨rfl, rfl⟩
  | some x =>
    have hlt : k < (runs s).length := (List.getElem?_eq_some_iff.1 hx).1
    obtain ⟨a0, a1⟩ := hl.at_ k x hx
    clear hx hl
    generalize (runs s).length = m at *
    have hlI : (k : Int) < (m : Int) := by omega
    have hk0 : (0 : Int) ≤ (k : Int) := by omega
    obtain ⟨xf, xt⟩ := x
    show Calls _ _ _ w fun e w' => e = .returned (.bool (decide (xf ≤ i))) ∧ w = w'
    go_enter Try.func31, Try.ntmps31
    go_wp2
    go_ret
    exact ⟨rfl, rfl⟩

theorem total_snoc {l : List Rg} {k : Nat} {x : Rg} (h : l[k]? = some x) : total (l.take (k + 1)) = total (l.take k) + (x.t - x.f) := by
  obtain ⟨hk, rfl⟩ := List.getElem?_eq_some_iff.1 h
  rw [List.take_succ_eq_append_getElem hk, total_append]
  simp [total]
theorem total_take {s : St} (hs : Sep (runs s)) (k : Nat) : 0 ≤ total ((runs s).take k) ∧ total ((runs s).take k) ≤ (s.n : Int) := by
  have e := List.take_append_drop k (runs s)
  rw [← e] at hs
  have h1 := sep_length (sep_append.1 hs).1
  have h2 := sep_length (sep_append.1 hs).2.1
  have h3 := runs_total s
  rw [← e, total_append] at h3
  have h4 := cnt_in s.p s.n
  omega
set_option maxRecDepth 100000 in
set_option maxHeartbeats 1000000 in
theorem free_any (b : Nat) (s : St) (g cap : Nat) (w : World) (h : PBv w b s g cap) (hG : Good s) :
    Calls Try.prog 11 #[.pointer (some ⟨b, 0, none⟩)] w fun e w' => e = .returned (.int .i64 (cnt s.p s.n)) ∧ Below w.heap.size w w' := by
  obtain ⟨c0, c1, -⟩ := h.cells
  have HB := Lib.hid h
  have hm := runs_length hG
  have hn := hG.hi
  have HT := Lib.hid (total_take (runs_is s).sep)
  have HE := Lib.hid (runs_total s)
  have hcap := h.l.le
  clear h hG
  generalize hl : runs s = l at *
  generalize cnt s.p s.n = c at HE ⊢
  have HL := Lib.hid hl
  clear hl
  go_enter Try.func11, Try.ntmps11
  go_wp2
  go_loopw [3, 11] (fun cv iv wr => ∃ k : Nat, k ≤ l.length ∧ iv = .int .i64 k ∧ cv = .int .i64 (total (l.take k)) ∧ Below w.heap.size w wr) (fun _ iv _ => l.length - (intOf iv).toNat)
  case atStart => exact ⟨0, Nat.zero_le _, rfl, rfl, Below.refl _ _⟩
  case round =>
    obtain ⟨k, hk, rfl, rfl, hb⟩ := hrel
    have HBw := Lib.hid hb
    clear hb
    by_cases hlt : k < l.length
    · have hlI : (k : Int) < (l.length : Int) := by omega
      have hk0 : (0 : Int) ≤ (k : Int) := by omega
      obtain ⟨x, hx⟩ := ex_get hlt
      have hlst : Lst wr g cap l := (HL.out ▸ (HB.out.below HBw.out).l)
      have t1 := HT.out k
      have t2 := HT.out (k + 1)
      have hts := total_snoc hx
      obtain ⟨a0, a1⟩ := hlst.at_ k x hx
      clear hlst hx
      have HS := Lib.hid hts
      obtain ⟨xf, xt⟩ := x
      have d1 : 0 ≤ total (l.take k) + (xt - xf) := by have : total (l.take (k + 1)) = total (l.take k) + (xt - xf) := hts; omega
      have d2 : total (l.take k) + (xt - xf) ≤ 4096 := by have : total (l.take (k + 1)) = total (l.take k) + (xt - xf) := hts; omega
      clear hts t2
      go_wp2
      go_roundw
      case rel => exact ⟨k + 1, by omega, by go_num, congrArg (Value.int .i64) HS.out.symm, HBw.out.alloc HBw.out.size _⟩
      case measure => simp [intOf]; omega
    · have : l.length = k := by omega
      subst this
      have hlI : ¬ ((l.length : Int) < (l.length : Int)) := by omega
      go_wp2
      go_ret
      exact ⟨congrArg (fun z => Ending.returned (Value.int .i64 z)) HE.out, HBw.out⟩
end Go.Proofs.Ytlffgfkcgldekaa
