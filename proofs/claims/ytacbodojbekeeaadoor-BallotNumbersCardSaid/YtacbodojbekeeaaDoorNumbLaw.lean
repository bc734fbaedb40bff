/-
  BallotNumbers (weirkeeplaw10), walked.
-/
import Derived.Test.YtacbodojbekeeaaDoorShown10
namespace Go.Proofs.YtacbodojbekeeaaDoor
open Go.RowKit

set_option maxRecDepth 100000 in
set_option maxHeartbeats 4000000 in
theorem ballotNumbers_any (r n b c : Int) (w : World) (hT : Tab w) (hE : ErrType w) :
    Calls Tryd.prog 5 #[.int .i64 r, .int .i64 n, .int .i64 b, .int .i64 c] w fun e w' => e = .returned (.bool true) ∧ Below w.heap.size w w' := by
  have H1 := Lib.hid (numb_any r n)
  have H2 := Lib.hid (rnumb_any r n)
  have H3 := Lib.hid (own_any b)
  have H4 := Lib.hid (rown_any b)
  have H5 := Lib.hid (own_any c)
  have H6 := Lib.hid (own_any (numV r n))
  have HS := Lib.hid (shown_any w hT hE)
  have P1 := Lib.hid (@own_num r n)
  have P2 := Lib.hid (@num_none r n)
  have P3 := Lib.hid (@own_inj b c)
  clear hT hE
  generalize numV r n = nv at H1 H2 H6 P1 P2
  generalize numR r n = nr at H1 H2 P1 P2
  generalize ownR b = rb at H3 H4 P3
  generalize ownN b = nb at H3 H4 P3
  generalize ownR c = rc at H5 P3
  generalize ownN c = nc at H5 P3
  generalize ownR nv = rv at H6 P1
  generalize ownN nv = nn at H6 P1
  go_enter Tryd.func5, Tryd.ntmps5
  go_wp2_with fail
  go_at_call 24
  refine (H1.out _).mono ?_
  rintro e w1 ⟨rfl, rfl⟩
  go_wp2_with fail
  go_at_call 25
  refine (H2.out _).mono ?_
  rintro e w1 ⟨rfl, rfl⟩
  go_wp2_with fail
  go_at_call 26
  refine (H3.out _).mono ?_
  rintro e w1 ⟨rfl, rfl⟩
  go_wp2_with fail
  go_at_call 27
  refine (H4.out _).mono ?_
  rintro e w1 ⟨rfl, rfl⟩
  go_wp2_with fail
  go_at_call 10
  refine HS.out.mono ?_
  rintro e w1 ⟨rfl, hb⟩
  have HB := Lib.hid hb
  clear hb
  go_wp2_with fail
  go_at_call 26
  refine (H5.out _).mono ?_
  rintro e w2 ⟨rfl, rfl⟩
  clear H1 H2 H3 H4 H5 HS
  have HP3 := Lib.hid P3.out
  clear P3
  by_cases h0 : b = c
  · subst h0
    by_cases hn : nr = 0
    · obtain ⟨rfl, rfl⟩ := P1.out hn
      have hd : (nr != 0) = false := by simp [hn]
      go_wp2_with fail
      go_at_call 26
      refine (H6.out _).mono ?_
      rintro e w3 ⟨rfl, rfl⟩
      go_wp2
      go_ret
      exact ⟨rfl, HB.out⟩
    · have hd : (nr != 0) = true := by simp [hn]
      obtain rfl := P2.out hn
      go_wp2
      go_ret
      exact ⟨rfl, HB.out⟩
  · have g0 : (b != c) = true := by simp [h0]
    by_cases h1 : rb = rc
    · subst h1
      by_cases h2 : nb = nc
      · subst h2
        have g3 : ¬ 0 ≤ rb := fun h => h0 (HP3.out h rfl rfl)
        by_cases hn : nr = 0
        · obtain ⟨rfl, rfl⟩ := P1.out hn
          have hd : (nr != 0) = false := by simp [hn]
          go_wp2_with fail
          go_at_call 26
          refine (H6.out _).mono ?_
          rintro e w3 ⟨rfl, rfl⟩
          go_wp2
          go_ret
          exact ⟨rfl, HB.out⟩
        · have hd : (nr != 0) = true := by simp [hn]
          obtain rfl := P2.out hn
          go_wp2
          go_ret
          exact ⟨rfl, HB.out⟩
      · have g2 : (nb == nc) = false := by simp [h2]
        by_cases hn : nr = 0
        · obtain ⟨rfl, rfl⟩ := P1.out hn
          have hd : (nr != 0) = false := by simp [hn]
          go_wp2_with fail
          go_at_call 26
          refine (H6.out _).mono ?_
          rintro e w3 ⟨rfl, rfl⟩
          go_wp2
          go_ret
          exact ⟨rfl, HB.out⟩
        · have hd : (nr != 0) = true := by simp [hn]
          obtain rfl := P2.out hn
          go_wp2
          go_ret
          exact ⟨rfl, HB.out⟩
    · have g1 : (rb == rc) = false := by simp [h1]
      by_cases hn : nr = 0
      · obtain ⟨rfl, rfl⟩ := P1.out hn
        have hd : (nr != 0) = false := by simp [hn]
        go_wp2_with fail
        go_at_call 26
        refine (H6.out _).mono ?_
        rintro e w3 ⟨rfl, rfl⟩
        go_wp2
        go_ret
        exact ⟨rfl, HB.out⟩
      · have hd : (nr != 0) = true := by simp [hn]
        obtain rfl := P2.out hn
        go_wp2
        go_ret
        exact ⟨rfl, HB.out⟩
end Go.Proofs.YtacbodojbekeeaaDoor
