/-
  The writer's Num, by contracts: what fits is written, the lowest byte first; what does not is ErrArg, and nothing is written.
-/
import Derived.Test.YthjinpbclfankaaGreatDoorPut
namespace Go.Proofs.YthjinpbclfankaaGreatDoor
open Go.RowKit Go.Extern.Stop Go.Stop Go.Extern Go.PlainAid

/-- The k lowest bytes of n, the lowest first. -/
def leb (n : Int) (k : Nat) : List Int :=
  [n % 256, n / 256 % 256, n / 65536 % 256, n / 16777216 % 256, n / 4294967296 % 256, n / 1099511627776 % 256, n / 281474976710656 % 256, n / 72057594037927936 % 256].take k

def Width (k : Int) : Prop := k = 1 ∨ k = 2 ∨ k = 4 ∨ k = 8

/-- n fits into k bytes. -/
def Fits (n k : Int) : Prop := 0 ≤ n ∧ ((k = 1 ∧ n < 256) ∨ (k = 2 ∧ n < 65536) ∨ (k = 4 ∧ n < 4294967296) ∨ (k = 8 ∧ n ≤ 9223372036854775807))

theorem put_any (b : Nat) (row : Option Nat) (bs : List Int) (n k : Int) (w : World) (hk : Width k) (h0 : 0 ≤ n) (h1 : n ≤ 9223372036854775807) (hW : Wrt w b row bs) (hl : bs.length ≤ 100000000) :
    Calls Tryz.prog 40 #[.pointer (some ⟨b, 0, none⟩), .int .i64 n, .int .i64 k] w fun e w' => e = .returned (.tuple #[]) ∧
      ∃ row', Wrt w' b row' (bs ++ leb n k.toNat) ∧ RowOk row row' w ∧ Fr b row w w' := by
  have hn : IntKind.u64.wrap n = n := u64_nonneg h0 (by omega)
  rcases hk with rfl | rfl | rfl | rfl
  · exact put_of b row bs n 1 _ 0 0 0 0 0 0 0 w (by omega) (by omega) hn (fun w => split1 n w) hW hl
  · exact put_of b row bs n 2 _ _ 0 0 0 0 0 0 w (by omega) (by omega) hn (fun w => split2 n w) hW hl
  · exact put_of b row bs n 4 _ _ _ _ 0 0 0 0 w (by omega) (by omega) hn (fun w => split4 n w) hW hl
  · exact put_of b row bs n 8 _ _ _ _ _ _ _ _ w (by omega) (by omega) hn (fun w => split8 n w) hW hl

/-- Wrap of a number that is not OK: a new Fault. -/
theorem wrap_new (E at_ : Int) (u : Value) (es : List Int) (w : World) (hE : E ≠ 0) (hu : Chained w u es) :
    Calls Tryz.prog 51 #[.int .i64 E, .int .i64 at_, u] w fun e w' => ∃ v, e = .returned v ∧ Chained w' v (E :: es) ∧ Below w.heap.size w w' := by
  have hE' : (E == 0) = false := by simpa using hE
  have done : ∀ x, (∃ t y, x = Value.iface t y) ∨ x = .nilIface → Chained w x es → Calls Tryz.prog 51 #[.int .i64 E, .int .i64 at_, x] w fun e w' => ∃ v, e = .returned v ∧ Chained w' v (E :: es) ∧ Below w.heap.size w w' := by
    intro x hx hu
    have hb : Below w.heap.size w (w.alloc (.cells #[.int .i64 E, .int .i64 at_, x] 129)) := (Below.refl _ _).alloc (Nat.le_refl _) _
    have HU := Lib.hid (hu.below hb)
    have HB := Lib.hid hb
    clear hu hb
    rcases hx with ⟨t, y, rfl⟩ | rfl
    all_goals
      go_enter Tryz.func51, Tryz.ntmps51
      go_wp2
      go_ret
      exact ⟨_, rfl, ⟨w.heap.size, 0, _, rfl, by simp, by simp, HU.out⟩, HB.out⟩
  cases es with
  | nil => exact done u (.inr hu) hu
  | cons e es => exact done u (by obtain ⟨b, o, y, rfl, _⟩ := hu; exact .inl ⟨_, _, rfl⟩) hu

/-- The writer's fault. -/
theorem wfault (b : Nat) (row : Option Nat) (bs : List Int) (E : Int) (w : World) (hE : E ≠ 0) (hW : Wrt w b row bs) :
    Calls Tryz.prog 39 #[.pointer (some ⟨b, 0, none⟩), .int .i64 E] w fun e w' => ∃ v, e = .returned v ∧ Chained w' v [E] ∧ Below w.heap.size w w' := by
  obtain ⟨s, hs, hsf, hown, hrow⟩ := hW
  rcases owned_form hown with ⟨rfl, _, _⟩ | ⟨g, cap, rfl, _⟩
  all_goals
    clear hown hrow hsf
    go_enter Tryz.func39, Tryz.ntmps39
    go_wp2_with (go_at_call 51; refine (wrap_new E _ .nilIface [] _ hE rfl).mono ?_; rintro e w' ⟨v, rfl, hc, hb⟩)
    go_ret
    exact ⟨v, rfl, hc, hb⟩

/-- Num of what fits. -/
theorem num_ok (b : Nat) (row : Option Nat) (bs : List Int) (n k : Int) (w : World) (hf : Fits n k) (hW : Wrt w b row bs) (hl : bs.length ≤ 100000000) :
    Calls Tryz.prog 21 #[.pointer (some ⟨b, 0, none⟩), .int .i64 n, .int .i64 k] w fun e w' => e = .returned .nilIface ∧
      ∃ row', Wrt w' b row' (bs ++ leb n k.toNat) ∧ RowOk row row' w ∧ Fr b row w w' := by
  obtain ⟨h0, hf⟩ := hf
  have hw : Width k := by unfold Width; omega
  have h1 : n ≤ 9223372036854775807 := by omega
  have hn : IntKind.u64.wrap n = n := u64_nonneg h0 (by omega)
  have HP := Lib.hid (put_any b row bs n k w hw h0 h1 hW hl)
  clear hW h1
  rcases hf with ⟨rfl, h⟩ | ⟨rfl, h⟩ | ⟨rfl, h⟩ | ⟨rfl, h⟩
  · have hq : n / 256 = 0 := by omega
    clear h
    go_enter Tryz.func21, Tryz.ntmps21
    go_wp2_with (first
      | (go_at_call 33; refine (isWidth_yes _ _ hw).mono ?_; rintro e w' ⟨rfl, rfl⟩)
      | (go_at_call 40; refine HP.out.mono ?_; rintro e w' ⟨rfl, hP⟩))
    go_ret
    exact ⟨rfl, hP⟩
  · have hq : n / 65536 = 0 := by omega
    clear h
    go_enter Tryz.func21, Tryz.ntmps21
    go_wp2_with (first
      | (go_at_call 33; refine (isWidth_yes _ _ hw).mono ?_; rintro e w' ⟨rfl, rfl⟩)
      | (go_at_call 40; refine HP.out.mono ?_; rintro e w' ⟨rfl, hP⟩))
    go_ret
    exact ⟨rfl, hP⟩
  · have hq : n / 4294967296 = 0 := by omega
    clear h
    go_enter Tryz.func21, Tryz.ntmps21
    go_wp2_with (first
      | (go_at_call 33; refine (isWidth_yes _ _ hw).mono ?_; rintro e w' ⟨rfl, rfl⟩)
      | (go_at_call 40; refine HP.out.mono ?_; rintro e w' ⟨rfl, hP⟩))
    go_ret
    exact ⟨rfl, hP⟩
  · have hq : n / 18446744073709551616 = 0 := by omega
    clear h
    go_enter Tryz.func21, Tryz.ntmps21
    go_wp2_with (first
      | (go_at_call 33; refine (isWidth_yes _ _ hw).mono ?_; rintro e w' ⟨rfl, rfl⟩)
      | (go_at_call 40; refine HP.out.mono ?_; rintro e w' ⟨rfl, hP⟩))
    go_ret
    exact ⟨rfl, hP⟩

/-- Num of what does not fit. -/
theorem num_bad (b : Nat) (row : Option Nat) (bs : List Int) (n k : Int) (w : World) (hf : ¬ Fits n k) (h1 : n ≤ 9223372036854775807) (hW : Wrt w b row bs) :
    Calls Tryz.prog 21 #[.pointer (some ⟨b, 0, none⟩), .int .i64 n, .int .i64 k] w fun e w' => ∃ v, e = .returned v ∧ Chained w' v [1] ∧ Below w.heap.size w w' := by
  have HP := Lib.hid (wfault b row bs 1 w (by decide) hW)
  clear hW
  by_cases hw : Width k
  · by_cases h0 : 0 ≤ n
    · have hn : IntKind.u64.wrap n = n := u64_nonneg h0 (by omega)
      unfold Fits at hf
      have hw' := hw
      rcases hw' with rfl | rfl | rfl | rfl
      · have hq : (n / 256 != 0) = true := by simp only [bne_iff_ne, ne_eq]; omega
        have hd : decide (n < 0) = false := by simp only [decide_eq_false_iff_not]; omega
        clear hf h1
        go_enter Tryz.func21, Tryz.ntmps21
        go_wp2_with (first
          | (go_at_call 33; refine (isWidth_yes _ _ hw).mono ?_; rintro e w' ⟨rfl, rfl⟩)
          | (go_at_call 39; refine HP.out.mono ?_; rintro e w' ⟨v, rfl, hP⟩))
        go_ret
        exact ⟨v, rfl, hP⟩
      · have hq : (n / 65536 != 0) = true := by simp only [bne_iff_ne, ne_eq]; omega
        have hd : decide (n < 0) = false := by simp only [decide_eq_false_iff_not]; omega
        clear hf h1
        go_enter Tryz.func21, Tryz.ntmps21
        go_wp2_with (first
          | (go_at_call 33; refine (isWidth_yes _ _ hw).mono ?_; rintro e w' ⟨rfl, rfl⟩)
          | (go_at_call 39; refine HP.out.mono ?_; rintro e w' ⟨v, rfl, hP⟩))
        go_ret
        exact ⟨v, rfl, hP⟩
      · have hq : (n / 4294967296 != 0) = true := by simp only [bne_iff_ne, ne_eq]; omega
        have hd : decide (n < 0) = false := by simp only [decide_eq_false_iff_not]; omega
        clear hf h1
        go_enter Tryz.func21, Tryz.ntmps21
        go_wp2_with (first
          | (go_at_call 33; refine (isWidth_yes _ _ hw).mono ?_; rintro e w' ⟨rfl, rfl⟩)
          | (go_at_call 39; refine HP.out.mono ?_; rintro e w' ⟨v, rfl, hP⟩))
        go_ret
        exact ⟨v, rfl, hP⟩
      · omega
    · have hn : n < 0 := by omega
      have hd : decide (n < 0) = true := by simp only [decide_eq_true_eq]; omega
      clear hf h0 h1
      go_enter Tryz.func21, Tryz.ntmps21
      go_wp2_with (first
        | (go_at_call 33; refine (isWidth_yes _ _ hw).mono ?_; rintro e w' ⟨rfl, rfl⟩)
        | (go_at_call 39; refine HP.out.mono ?_; rintro e w' ⟨v, rfl, hP⟩))
      go_ret
      exact ⟨v, rfl, hP⟩
  · have k1 : k ≠ 1 := fun h => hw (.inl h)
    have k2 : k ≠ 2 := fun h => hw (.inr (.inl h))
    have k4 : k ≠ 4 := fun h => hw (.inr (.inr (.inl h)))
    have k8 : k ≠ 8 := fun h => hw (.inr (.inr (.inr h)))
    have HW := Lib.hid (isWidth_no k w k1 k2 k4 k8)
    clear hf hw h1 k1 k2 k4 k8
    go_enter Tryz.func21, Tryz.ntmps21
    go_wp2_with (first
      | (go_at_call 33; refine HW.out.mono ?_; rintro e w' ⟨rfl, rfl⟩)
      | (go_at_call 39; refine HP.out.mono ?_; rintro e w' ⟨v, rfl, hP⟩))
    go_ret
    exact ⟨v, rfl, hP⟩
end Go.Proofs.YthjinpbclfankaaGreatDoor
