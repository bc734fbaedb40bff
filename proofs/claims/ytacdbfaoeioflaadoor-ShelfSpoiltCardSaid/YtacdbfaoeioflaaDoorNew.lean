/-
  New (package plate), by a contract: a plate's 4102 cells.
-/
import Derived.Test.YtacdbfaoeioflaaDoorCrash
import Derived.Great.BuildSlice
namespace Go.Proofs.YtacdbfaoeioflaaDoor
open Go.RowKit

def zs : List Value := List.replicate 4096 (.int .u8 0)
theorem zs_length : zs.length = 4096 := List.length_replicate
theorem zs_get (q : Nat) (h : q < 4096) : zs[q]? = some (.int .u8 0) := by unfold zs; rw [List.getElem?_replicate, if_pos h]
/-- The cells of a plate with nothing in it, of so many sectors. -/
def blank (m : Int) : List Value := .int .i64 m :: (zs ++ [.slice none 0 0, .bool false, .int .i64 0, .int .i64 0, .int .u64 0])
set_option maxRecDepth 1000000 in
theorem info58 : (Tryd.prog.info? 103).map (fun i => (i.zero, i.size)) = some (some (.agg (blank 0).toArray), 4102) := by kernel_rfl
theorem blank_length (m : Int) : (blank m).length = 4102 := by
  unfold blank; rw [List.length_cons, List.length_append, zs_length]; rfl
theorem blank_set (k m : Int) : (blank k).toArray.setIfInBounds 0 (.int .i64 m) = (blank m).toArray := by
  rw [List.setIfInBounds_toArray]; rfl
theorem zero58 : ∃ Z : Array Value, (∀ w, (zeroValue 103).run Tryd.prog w = .ok (.agg Z) w) ∧ Z ≠ #[] ∧ ∀ m, Z.setIfInBounds 0 (.int .i64 m) = (blank m).toArray := by
  refine ⟨(blank 0).toArray, fun w => ?_, fun e => ?_, fun m => blank_set 0 m⟩
  · have h := info58
    generalize blank 0 = z at h ⊢
    cases hi : Tryd.prog.info? 103 with
    | none => rw [hi] at h; simp at h
    | some i =>
      rw [hi] at h
      simp only [Option.map_some, Option.some.injEq, Prod.mk.injEq] at h
      simp [zeroValue, typeInfo, hi, h.1]
  · have h1 := congrArg Array.size e
    rw [List.size_toArray, blank_length] at h1
    exact absurd h1 (by simp)
theorem byteAt_zero (m q : Nat) : byteAt (List.replicate m (zeros 32)) q = 0 := by
  unfold byteAt
  simp only [List.getD_eq_getElem?_getD, List.getElem?_replicate]
  split
  · simp only [Option.getD_some, zeros, List.getElem?_replicate]
    split <;> rfl
  · rfl
theorem blank_get (n : Int) (o : Nat) (h : o < 4102) : (blank (size0 n : Int)).toArray[o]? = some (pf (fresh n) 0 0 (.slice none 0 0) o) := by
  rw [List.getElem?_toArray]
  unfold pf
  by_cases h0 : o = 0
  · subst h0; rw [if_pos rfl]; show some (Value.int .i64 (size0 n : Int)) = some (Value.int .i64 ((List.replicate (size0 n) (zeros 32)).length : Int)); rw [List.length_replicate]
  · rw [if_neg h0]
    obtain ⟨q, rfl⟩ : ∃ q, o = q + 1 := ⟨o - 1, by omega⟩
    have e : (blank (size0 n : Int))[q + 1]? = (zs ++ [.slice none 0 0, .bool false, .int .i64 0, .int .i64 0, .int .u64 0])[q]? := rfl
    rw [e]
    by_cases h1 : q + 1 < 4097
    · rw [if_pos h1, List.getElem?_append_left (by rw [zs_length]; omega), zs_get q (by omega)]
      unfold sc
      rw [show (fresh n).is = List.replicate (size0 n) (zeros 32) from rfl, byteAt_zero]
      rfl
    · rw [if_neg h1, List.getElem?_append_right (by rw [zs_length]; omega), zs_length]
      obtain ⟨r, rfl, hr⟩ : ∃ r, q = 4096 + r ∧ r < 5 := ⟨q - 4096, by omega, by omega⟩
      rw [Nat.add_sub_cancel_left]
      clear h h0 h1 e
      rcases (show r = 0 ∨ r = 1 ∨ r = 2 ∨ r = 3 ∨ r = 4 by omega) with rfl | rfl | rfl | rfl | rfl <;> simp [fresh]
theorem PB.fresh (n : Int) (w : World) : PB (w.alloc (.cells (blank (size0 n : Int)).toArray 103)) w.heap.size (fresh n) (fun k => k = w.heap.size ∨ (Value.slice none 0 0).ownBlock = some k) := by
  have hr : (w.alloc (.cells (blank (size0 n : Int)).toArray 103)).rowIs w.heap.size 103 4102 (pf (Go.Proofs.YtacdbfaoeioflaaDoor.fresh n) 0 0 (.slice none 0 0)) :=
    ⟨_, heap_alloc_new w _, by simp [blank_length], fun i hi => blank_get n i hi⟩
  exact PBv.pb ⟨hr, World.ownsRow_nil _ _ _ _, fun _ => ⟨rfl, fun e => absurd rfl e⟩, by omega, by omega⟩

set_option maxRecDepth 100000 in
set_option maxHeartbeats 2000000 in
theorem new_any (n : Int) (w : World) :
    Calls Tryd.prog 24 #[.int .i64 n] w fun e w' => e = .returned (.pointer (some ⟨w.heap.size, 0, none⟩)) ∧ Goes (fun _ => False) w w' (PB w' w.heap.size (fresh n)) := by
  have HP := Lib.hid (PB.fresh n w)
  have HB := Lib.hid (show Below w.heap.size w (w.alloc (.cells (blank (size0 n : Int)).toArray 103)) from (Below.refl _ _).alloc (Nat.le_refl _) _)
  have hsz : (size0 n : Int) = if n < 4 then 4 else if 128 < n then 128 else n := by
    unfold size0; split; rfl; split; rfl; omega
  generalize (size0 n : Int) = m at HP HB hsz
  obtain ⟨Z, hz, hne, hset⟩ := zero58
  have fin : ∀ w' : World, w' = w.alloc (.cells (Z.setIfInBounds 0 (.int .i64 m)) 103) → Goes (fun _ => False) w w' (PB w' w.heap.size (fresh n)) := fun w' e => by
    rw [hset] at e
    subst e
    exact ⟨_, HP.out, fun k hk => by rcases hk with rfl | hk; (exact .inr (Nat.le_refl _)); (simp [Value.ownBlock] at hk), Keeps.of_below HB.out⟩
  have FIN := Lib.hid fin
  clear fin HP HB hset
  by_cases h1 : n < 4
  · rw [if_pos h1] at hsz
    subst hsz
    go_enter Tryd.func24, Tryd.ntmps24
    go_wp2
    go_ret
    exact ⟨rfl, FIN.out _ rfl⟩
  · rw [if_neg h1] at hsz
    by_cases h2 : 128 < n
    · rw [if_pos h2] at hsz
      subst hsz
      go_enter Tryd.func24, Tryd.ntmps24
      go_wp2
      go_ret
      exact ⟨rfl, FIN.out _ rfl⟩
    · rw [if_neg h2] at hsz
      subst hsz
      go_enter Tryd.func24, Tryd.ntmps24
      go_wp2
      go_ret
      exact ⟨rfl, FIN.out _ rfl⟩
end Go.Proofs.YtacdbfaoeioflaaDoor
