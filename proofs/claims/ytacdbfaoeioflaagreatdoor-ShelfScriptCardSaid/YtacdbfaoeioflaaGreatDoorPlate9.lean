/-
  The plate's Cut, Crash, Power beneath a shelf; what a Put leaves that was cut off; Bad.
-/
import Derived.Test.YtacdbfaoeioflaaGreatDoorSolo2
import Derived.Deep.AppendLies
namespace Go.Proofs.YtacdbfaoeioflaaGreatDoor
open Go.RowKit Go.PlainAid

section
variable {w0 w : World} {sb mb pb : Nat} {s : St} {L : Lay} {odd : List Nat} {lost : Bool} {O : Nat → Prop}
theorem Solo.pl (h : Solo w0 w sb mb pb s L odd lost O) : ∃ Fp, PB w pb s Fp ∧ ∀ w' s', Goes Fp w w' (PB w' pb s') → Solo w0 w' sb mb pb s' L odd lost O ∧ Kept O w w' := by
  obtain ⟨F, h1, h2, h3, h4⟩ := h
  obtain ⟨Fp, k1, k2⟩ := h1.pl
  refine ⟨Fp, k1, fun w' s' hg => ?_⟩
  obtain ⟨F', q1, q2, q3⟩ := k2 w' s' hg
  refine ⟨⟨F', q1, fun k hk => ?_, q3.below h3 h3.size h2, fun k hk => ⟨fun hf => ?_, Nat.lt_of_lt_of_le (h4 k hk).2 q3.size⟩⟩, fun k hk => q3.block k (h4 k hk).2 (h4 k hk).1⟩
  · rcases q2 k hk with h | h
    · exact h2 k h
    · exact Nat.le_trans h3.size h
  · rcases q2 k hf with h | h
    · exact (h4 k hk).1 h
    · have := (h4 k hk).2; omega
theorem so_cut (h : Solo w0 w sb mb pb s L odd lost O) {k : Int} {keep : Nat} (hk : k < 9223372036854775808) (hkp : keep < 18446744073709551616) :
    Calls Tryz.prog 15 #[.pointer (some ⟨pb, 0, none⟩), .int .i64 k, .int .u64 keep] w fun e w' => e = .returned (.tuple #[]) ∧ Solo w0 w' sb mb pb (cut s k keep) L odd lost O ∧ Kept O w w' := by
  obtain ⟨Fp, k1, k2⟩ := h.pl
  exact (cut_any pb s Fp k keep w k1 hk hkp).mono fun e w' ⟨he, hg⟩ => ⟨he, k2 _ _ hg⟩
theorem so_crash (h : Solo w0 w sb mb pb s L odd lost O) (hG : Good s) (hw : s.wait.length ≤ 1000) {keep : Nat} (hkp : keep < 18446744073709551616) :
    Calls Tryz.prog 23 #[.pointer (some ⟨pb, 0, none⟩), .int .u64 keep] w fun e w' => e = .returned (.tuple #[]) ∧ Solo w0 w' sb mb pb (crash s keep) L odd lost O ∧ Kept O w w' := by
  obtain ⟨Fp, k1, k2⟩ := h.pl
  exact (crash_any pb s Fp keep w k1 hG hw hkp).mono fun e w' ⟨he, hg⟩ => ⟨he, k2 _ _ hg⟩
theorem so_power (h : Solo w0 w sb mb pb s L odd lost O) :
    Calls Tryz.prog 25 #[.pointer (some ⟨pb, 0, none⟩)] w fun e w' => e = .returned (.tuple #[]) ∧ Solo w0 w' sb mb pb (power s) L odd lost O ∧ Kept O w w' := by
  obtain ⟨Fp, k1, k2⟩ := h.pl
  exact (power_any pb s Fp w k1).mono fun e w' ⟨he, hg⟩ => ⟨he, k2 _ _ hg⟩
end

/-! ### a Put that is cut off -/
theorem Rest.cut {s : St} {n c : Nat} (h : Rest s n c) {k : Int} {keep : Nat} (hk : k < 9223372036854775808) (hkp : keep < 18446744073709551616) : Rest (cut s k keep) n c :=
  ⟨h.good.cut hk hkp, h.wait, h.len, h.few⟩
theorem cut_read {s : St} {n c : Nat} (h : Rest s n c) (k : Int) (keep j : Nat) : readB (cut s k keep) j = readB s j := by
  rw [readB_rest h.wait, readB_rest (s := Go.Proofs.YtacdbfaoeioflaaGreatDoor.cut s k keep) h.wait]; rfl
/-- Power goes and comes, where nothing waits. -/
theorem Rest.again {s : St} {n c : Nat} (h : Rest s n c) (keep : Nat) : Rest (power (crash s keep)) n c ∧ (power (crash s keep)).gone = false ∧ ∀ j, readB (power (crash s keep)) j = readB s j := by
  have hw : (crash s keep).wait = [] := (Still.crash s keep (still_of h.wait)).1
  have his : (crash s keep).is = s.is := by
    unfold Go.Proofs.YtacdbfaoeioflaaGreatDoor.crash
    by_cases hg : s.gone = true
    · rw [if_pos hg]
    · rw [if_neg hg]
      show done _ s.wait s.is s.wait.length = _
      rw [h.wait]; rfl
  refine ⟨⟨(h.good.crash keep).power, hw, by show (crash s keep).is.length = n; rw [his]; exact h.len, by show (crash s keep).n ≤ c; rw [crash_n]; exact h.few⟩, rfl, fun j => ?_⟩
  rw [readB_rest (s := power (crash s keep)) hw, readB_rest h.wait]
  show (crash s keep).is.getD j [] = _
  rw [his]
/-- What lies there behind a Put in which the power may have gone: what did, or the block too. -/
theorem cuts_out {s : St} {L : Lay} {n c : Nat} (h : Sound s L n c) {at_ : Int} {keep : Nat} (hk : at_ < 9223372036854775808) (hkp : keep < 18446744073709551616) (b : Bk) :
    ∃ L3, Fit (readB (putS L (cut s at_ keep) b)) L3 ∧ L3.length = n ∧ ((L3 = L ∧ putE L (cut s at_ keep) b ≠ 0) ∨ (L3 = putL L (low L) b ∧ refE b 1 = 0 ∧ low L < L.length)) := by
  have hR := h.rest.cut hk hkp
  have hrd := cut_read h.rest at_ keep
  have hg : (cut s at_ keep).gone = false := h.live.1
  generalize cut s at_ keep = s1 at hR hrd hg ⊢
  have hF : Fit (readB s1) L := h.fit.same fun j _ => hrd j
  unfold putE putS
  by_cases hp : preE L s1.gone b ≠ 0
  · rw [if_pos hp, if_pos hp]
    exact ⟨L, hF, h.len, .inl ⟨rfl, hp⟩⟩
  · rw [if_neg hp, if_neg hp]
    obtain ⟨r1, r2, r3, r4⟩ := preE_zero (by omega : preE L s1.gone b = 0)
    obtain ⟨q1, q2, q3⟩ := hR.wr_out hg (i := low L) (by rw [← h.len]; exact r4) r1
    have hfr := low_free r4
    have hput : ∀ hp : str (readB (wrS s1 (low L) b) (low L)) = recB b 1, Fit (readB (wrS s1 (low L) b)) (putL L (low L) b) := fun hp => hF.put hfr (fun j _ hj => q1 j hj) r1 r3 hp
    by_cases he : wrE s1 (low L) b = 0
    · exact ⟨_, hput (q2 he).1, by rw [putL_length]; exact h.len, .inr ⟨rfl, r1, r4⟩⟩
    · rcases q3 with e | e | e
      · exact ⟨L, hF.same fun j _ => by by_cases ej : j = low L; (rw [ej]; exact e); (exact q1 j ej), h.len, .inl ⟨rfl, he⟩⟩
      · exact ⟨L, hF.torn hfr (fun j _ hj => q1 j hj) e, h.len, .inl ⟨rfl, he⟩⟩
      · exact ⟨_, hput e, by rw [putL_length]; exact h.len, .inr ⟨rfl, r1, r4⟩⟩

/-! ### Bad -/
section
variable {w : World} {sb mb pb : Nat} {s : St} {L : Lay} {odd : List Nat} {lost : Bool} {F : Nat → Prop}
set_option maxRecDepth 100000 in
set_option maxHeartbeats 1000000 in
theorem clone_any {w : World} {v : Value} {l : List Nat} (h : w.ownsRow 0 3 1 v l.length (l.map fun i : Nat => Value.int .i64 (i : Int))) (hl : l.length ≤ 1000) :
    Calls Tryz.prog 65 #[v] w fun e w' => ∃ v', e = .returned v' ∧ w'.ownsRow 0 3 1 v' l.length (l.map fun i : Nat => Value.int .i64 (i : Int)) ∧ Below w.heap.size w w' := by
  obtain ⟨i0, hi0, hz0, hz1, hz2⟩ := info_parts infoI
  have HO := Lib.hid h
  have he : ∀ (a : Option Addr) (n c : Nat) (w : World), (binOp .eql 54 (.slice a n c) (.slice none 0 0)).run Tryz.prog w = .ok (.bool a.isNone) w := fun a n c w => by cases a <;> rfl
  have h' := h
  rcases h'.2 with ⟨rfl, hz⟩ | ⟨g, cap, cur, rfl, hb, hg, rest⟩
  · have he1 := fun w => he none 0 0 w
    clear h h' he
    go_enter Tryz.func65, Tryz.ntmps65
    go_wp2
    go_ret
    exact ⟨_, rfl, HO.out, Below.refl _ _⟩
  · have hgl : g < w.heap.size := (Array.getElem?_eq_some_iff.1 hg).1
    have hba : Below w.heap.size w (w.alloc (.cells #[] 3)) := (Below.refl _ _).alloc (Nat.le_refl _) _
    have HB := Lib.hid hba
    have HE := Lib.hid (World.ownsRow_lit (base := w.heap.size) (e := 3) (size := 1) w #[] 0 (Nat.le_refl _) (by simp) rfl)
    have HC := Lib.hid (show ∀ j u, (l.map fun i : Nat => Value.int .i64 (i : Int))[j]? = some u → (w.alloc (.cells #[] 3)).cell? ((⟨g, 0, none⟩ : Addr).add j) = some u from fun j u hu => by
      have := h.cells (g := g) rfl j u hu
      exact (hba.cell (p := (⟨g, 0, none⟩ : Addr).add j) (by by_cases hj : j = 0 <;> simp [Addr.add, hj] <;> exact hgl)).trans this)
    have hlen : (l.map fun i : Nat => Value.int .i64 (i : Int)).length = l.length := by simp
    have h1 : ∀ u ∈ (l.map fun i : Nat => Value.int .i64 (i : Int)), u.oneCell' = true := fun u hu => by
      obtain ⟨i, -, rfl⟩ := List.mem_map.1 hu; rfl
    have H1 := Lib.hid h1
    have he1 := fun n c w => he (some ⟨g, 0, none⟩) n c w
    simp only [Option.isNone_some] at he1
    clear h h' rest hg hba h1 hb he
    by_cases hl0 : l = []
    · subst hl0
      go_enter Tryz.func65, Tryz.ntmps65
      go_wp2
      go_ret
      exact ⟨_, rfl, ownsRow_base_a HE.out (Nat.zero_le _), HB.out⟩
    have hpos : 0 < l.length := List.length_pos_iff.2 hl0
    go_enter Tryz.func65, Tryz.ntmps65
    go_wp2_with (at_builtin; refine wpList_append_lies _ rfl (.tmp 5) (.tmp 6) 54 rfl w.heap.size 3 i0 _ 1 8 Tryz.underlying54 hi0 hz0 hz1 hz2 rfl (by decide) _ 0 [] rfl HE.out ⟨g, 0, none⟩ l.length cap (l.map fun i : Nat => Value.int .i64 (i : Int)) rfl (by simp) HC.out H1.out hpos (by unfold maxLen; omega) (by omega) (by simp) (w.heap.size + 1) (by simp) ?_; intro g' cap' w3 hown hgrow _ _; (have K2 := Lib.hid (below_grown HB.out hgrow HB.out.size (fun q hq => (World.ownsRow.lt HE.out q hq).1))); have K3 := Lib.hid hown; clear hown hgrow)
    go_ret
    have k3 := K3.out
    simp only [List.nil_append, Nat.zero_add] at k3
    exact ⟨_, rfl, ownsRow_base_a k3 (Nat.zero_le _), K2.out⟩
theorem sbad_any (h : SF w sb mb pb s L odd lost F) (hl : odd.length ≤ 1000) :
    Calls Tryz.prog 35 #[.pointer (some ⟨sb, 0, none⟩)] w fun e w' => ∃ v', e = .returned v' ∧ w'.ownsRow 0 3 1 v' odd.length (odd.map fun i : Nat => Value.int .i64 (i : Int)) ∧ Below w.heap.size w w' := by
  obtain ⟨Fp, vb, h1, h2, h3, h4⟩ := h
  obtain ⟨-, -, c2, -⟩ := h2.cells
  have HC := Lib.hid (clone_any h2.bad hl)
  clear h1 h2 h3 h4
  go_enter Tryz.func35, Tryz.ntmps35
  go_wp2_with fail
  go_at_call 65
  refine HC.out.mono ?_
  rintro e w' ⟨v', rfl, k1, k2⟩
  have K1 := Lib.hid k1
  have K2 := Lib.hid k2
  clear k1 k2
  go_wp2
  go_ret
  exact ⟨_, rfl, K1.out, K2.out⟩
end
end Go.Proofs.YtacdbfaoeioflaaGreatDoor
