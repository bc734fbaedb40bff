/-
  The document's own (weirkeepref08): List and Alloc, by contracts.
-/
import Derived.Test.YtlffgfkcgldekaaRlist
namespace Go.Proofs.Ytlffgfkcgldekaa
open Go.RowKit

/-- The last range's end is stored. -/
theorem Owns.setLast {w : World} {base g cap : Nat} {l0 : List Rg} {a x y : Int} (h : Owns w base (.slice (some ⟨g, 0, none⟩) (l0.length + 1) cap) (l0 ++ [⟨a, x⟩])) : Owns (w.setCell ⟨g, l0.length * 2 + 1, none⟩ (.int .i64 y)) base (.slice (some ⟨g, 0, none⟩) (l0.length + 1) cap) (l0 ++ [⟨a, y⟩]) := by
  have hlen : (l0 ++ [⟨a, x⟩] : List Rg).length = l0.length + 1 := by simp
  have hlen' : (l0 ++ [⟨a, y⟩] : List Rg).length = l0.length + 1 := by simp
  unfold Owns at h ⊢
  rw [hlen] at h
  rw [hlen']
  refine ⟨by rw [flat_length, hlen'], .inr ?_⟩
  rcases h.2 with ⟨hn, h0⟩ | ⟨g', cap', cur, hv, hb, hg, hn, hm, hs, ht⟩
  · omega
  · simp only [Value.slice.injEq, Option.some.injEq, Addr.mk.injEq, and_true, true_and] at hv
    obtain ⟨rfl, rfl⟩ := hv
    refine ⟨g, cap, cur.setIfInBounds (l0.length * 2 + 1) (.int .i64 y), rfl, hb, heap_setCell_same _ _ _ _ _ _ hg, hn, hm, by simpa using hs, ?_⟩
    rw [Array.toList_setIfInBounds, List.take_set, ht, flat_append, flat_append, flat_one, flat_one, List.set_append_right _ _ (by rw [flat_length]; omega), flat_length]
    rw [show l0.length * 2 + 1 - l0.length * 2 = 1 by omega]
    simp
theorem isU_bound {p : Int → Bool} {k : Nat} {l : List Rg} (h : IsU p k l) : l.length ≤ k := by
  have h1 := sep_length h.sep
  rw [h.total] at h1
  have := cnt_in p k
  omega

set_option maxRecDepth 100000 in
set_option maxHeartbeats 4000000 in
theorem rlist_any (b : Nat) (s : St) (F : Nat → Prop) (w : World) (hR : RB w b s F) (hn : s.n ≤ 4096) :
    Calls Try.prog 21 #[.pointer (some ⟨b, 0, none⟩)] w fun e w' => RowOf w w' (runs s) e ∧ Below w.heap.size w w' := by
  obtain ⟨g, h, rfl⟩ := hR.v
  have HC := Lib.hid (fun W (hW : Below w.heap.size w W) => (h.below hW).cell)
  have HB := Lib.hid (fun W (hW : Below w.heap.size w W) i h0 h1 => ((h.below hW).bit (i := i) h0 h1).1)
  have HE := Lib.hid (fun l (hl : IsU s.p s.n l) => runs_eq hl)
  have H0 := Lib.hid (show Below w.heap.size w (w.alloc (.cells #[] 30)) from (Below.refl _ _).alloc (Nat.le_refl _) _)
  have HO := Lib.hid (Owns.lit (w := w) (base := w.heap.size) (Nat.le_refl _))
  have c0 := HC.out _ (Below.refl _ _)
  clear h hR
  generalize runs s = rs at *
  obtain ⟨n, p⟩ := s
  replace hn : n ≤ 4096 := hn
  replace c0 : w.cell? ⟨b, 0, none⟩ = some (.slice (some ⟨g, 0, none⟩) n n) := c0
  go_enter Try.func21, Try.ntmps21
  go_wp2
  go_loopw [3, 4] (fun lv iv wr => ∃ k : Nat, ∃ l, k ≤ n ∧ iv = .int .i64 k ∧ IsU p k l ∧ Owns wr w.heap.size lv l ∧ Below w.heap.size w wr) (fun _ iv _ => n - (intOf iv).toNat)
  case atStart => exact ⟨0, [], Nat.zero_le _, rfl, IsU.zero p, HO.out, H0.out⟩
  case round =>
    obtain ⟨k, l, hk, rfl, hU, hO, hb⟩ := hrel
    have HBw := Lib.hid hb
    have c1 := HC.out _ hb
    replace c1 : wr.cell? ⟨b, 0, none⟩ = some (.slice (some ⟨g, 0, none⟩) n n) := c1
    have hlb := isU_bound hU
    clear hb
    by_cases hlt : k < n
    · have hlI : (k : Int) < (n : Int) := by omega
      have hk0 : (0 : Int) ≤ (k : Int) := by omega
      have c2 : wr.cell? ⟨g, k, none⟩ = some (.bool (p k)) := HB.out _ HBw.out (k : Int) hk0 hlI
      cases hp : p k with
      | false =>
        rw [hp] at c2
        have HU := Lib.hid (hU.no hp)
        have HOw := Lib.hid hO
        obtain ⟨A, c, rfl, -, -⟩ := hO.read
        clear hU hO hp
        go_wp2
        go_roundw
        case rel => exact ⟨k + 1, l, by omega, by go_num, HU.out, HOw.out, HBw.out⟩
        case measure => simp [intOf]; omega
      | true =>
        rw [hp] at c2
        by_cases hq : 0 < k ∧ p ((k : Int) - 1) = true
        · obtain ⟨l0, a, rfl, hU'⟩ := hU.ext hp hq.1 hq.2
          have hq0 := hq.1
          have c3 : wr.cell? ⟨g, k - 1, none⟩ = some (.bool true) := by
            have := HB.out _ HBw.out ((k : Int) - 1) (by omega) (by show (k : Int) - 1 < (n : Int); omega)
            rw [show ((k : Int) - 1).toNat = k - 1 by omega] at this
            rw [this]; exact congrArg (fun z => some (Value.bool z)) hq.2
          have hk1I : (0 : Int) < (k : Int) := by omega
          rcases hO.form with ⟨-, e⟩ | ⟨gl, cap, rfl, hgl, hl⟩
          · simp at e
          · have hcap := hl.le
            have hll : (l0 ++ [⟨a, (k : Int)⟩] : List Rg).length = l0.length + 1 := by simp
            obtain ⟨d0, d1⟩ := hl.at_ l0.length ⟨a, (k : Int)⟩ (by simp)
            replace d1 : wr.cell? ⟨gl, l0.length * 2 + 1, none⟩ = some (.int .i64 (k : Int)) := d1
            have d2 : wr.frozen? ⟨gl, l0.length * 2 + 1, none⟩ = false := by
              rcases hO.2 with ⟨e, -⟩ | ⟨g', cap', cur, hv, -, hg', -⟩
              · cases e
              · simp only [Value.slice.injEq, Option.some.injEq, Addr.mk.injEq, and_true, true_and] at hv
                obtain ⟨rfl, rfl⟩ := hv
                exact frozen_of_row _ _ _ _ _ hg'
            have HW := Lib.hid (HBw.out.setCell (p := ⟨gl, l0.length * 2 + 1, none⟩) hgl (.int .i64 ((k : Int) + 1)))
            rw [hll] at hO hlb hcap ⊢
            have HOw := Lib.hid (hO.setLast (y := (k : Int) + 1))
            have HU := Lib.hid hU'
            clear hU hO hp hq hU' hl hll d0
            generalize hL : l0.length = L at *
            clear hL
            go_wp2
            go_roundw
            case rel => exact ⟨k + 1, _, by omega, by go_num, HU.out, HOw.out, HW.out⟩
            case measure => simp [intOf]; omega
        · have HU := Lib.hid (hU.new hp hq)
          have HB1 := Lib.hid (HBw.out.alloc HBw.out.size (.cells #[.int .i64 (k : Int), .int .i64 ((k : Int) + 1)] 30))
          have HO1 := Lib.hid (hO.below ((Below.refl _ _).alloc (Nat.le_refl _) (.cells #[.int .i64 (k : Int), .int .i64 ((k : Int) + 1)] 30)))
          have HS1 := Lib.hid (srcs_new wr ⟨k, k + 1⟩ 1 30)
          by_cases hq0 : 0 < k
          · have hpk : p ((k : Int) - 1) = false := by
              cases h1 : p ((k : Int) - 1) with
              | false => rfl
              | true => exact absurd ⟨hq0, h1⟩ hq
            have c3 : wr.cell? ⟨g, k - 1, none⟩ = some (.bool false) := by
              have := HB.out _ HBw.out ((k : Int) - 1) (by omega) (by show (k : Int) - 1 < (n : Int); omega)
              rw [show ((k : Int) - 1).toNat = k - 1 by omega] at this
              rw [this]; exact congrArg (fun z => some (Value.bool z)) hpk
            have hk1I : (0 : Int) < (k : Int) := by omega
            clear hU hO hp hq hpk
            go_wp2_with (first
              | (at_builtin; refine wpList_own (w0 := w) (L := l.length + 1) (lm := l ++ [⟨k, k + 1⟩]) rfl (.tmp 43) (.tmp 48) rfl HO1.out HB1.out HS1.out (by simp) (by omega) rfl (by simp) ?_; intro g2 cap2 w4 hA hB _ _; have A2 := Lib.hid hA; have B2 := Lib.hid hB; clear hA hB)
              | fail)
            go_roundw
            case rel => exact ⟨k + 1, _, by omega, by go_num, HU.out, A2.out, B2.out⟩
            case measure => simp [intOf]; omega
          · obtain rfl : k = 0 := by omega
            clear hU hO hp hq
            go_wp2_with (first
              | (at_builtin; refine wpList_own (w0 := w) (L := l.length + 1) (lm := l ++ [⟨((0 : Nat) : Int), ((0 : Nat) : Int) + 1⟩]) rfl (.tmp 43) (.tmp 48) rfl HO1.out HB1.out HS1.out (by simp) (by omega) rfl (by simp) ?_; intro g2 cap2 w4 hA hB _ _; have A2 := Lib.hid hA; have B2 := Lib.hid hB; clear hA hB)
              | fail)
            go_roundw
            case rel => exact ⟨0 + 1, _, by omega, by go_num, HU.out, A2.out, B2.out⟩
            case measure => simp [intOf]; omega
    · obtain rfl : n = k := by omega
      have hlI : ¬ ((n : Int) < (n : Int)) := by omega
      have e := HE.out l hU
      subst e
      have HOw := Lib.hid hO
      obtain ⟨A, c, rfl, -, -⟩ := hO.read
      clear hU hO
      go_wp2
      go_ret
      exact ⟨⟨_, rfl, HOw.out⟩, HBw.out⟩

theorem Goes.updR {F : Nat → Prop} {w W w' w'' : World} {b : Nat} {s : St} (h : Goes F W w' (RB w' b s)) (hW : Below w.heap.size w W) {n : Nat} (hn : w.heap.size ≤ n) (hn2 : n < W.heap.size) (hF : ∀ k, F k → k < w.heap.size) (hk : Keeps (· = n) w' w'') : Goes F w w'' (RB w'' b s) := by
  obtain ⟨F', h1, h2, h3⟩ := h
  refine ⟨F', h1.keeps hk (fun k hk' e => ?_), fun k hk' => ?_, ((Keeps.of_below hW).trans h3 (fun _ h => .inl h)).trans hk (fun k e => .inr (by omega))⟩
  · subst e
    rcases h2 _ hk' with h | h
    · have := hF _ h; omega
    · omega
  · rcases h2 _ hk' with h | h
    · exact .inl h
    · exact .inr (Nat.le_trans hW.size h)
theorem find_none {s : St} {k : Int} (hk : 1 ≤ k) (h : ∀ (a : Nat) x, (runs s)[a]? = some x → wide k x = false) : allocE s k = 2 ∧ allocR s k = ⟨0, 0⟩ ∧ allocS s k = s :=
  ix_none hk (j := -1) (.inl ⟨rfl, fun x hx => by obtain ⟨a, ha⟩ := List.getElem?_of_mem hx; exact h a x ha⟩) (by omega)
theorem find_some {s : St} {k : Int} (hk : 1 ≤ k) {a : Nat} {x : Rg} (hx : (runs s)[a]? = some x) (hw : wide k x = true) (h : ∀ b y, b < a → (runs s)[b]? = some y → wide k y = false) :
    allocE s k = 0 ∧ allocR s k = ⟨x.f, x.f + k⟩ ∧ allocS s k = set s ⟨x.f, x.f + k⟩ false ∧ mayE s ⟨x.f, x.f + k⟩ = 0 := by
  obtain ⟨a', x', h1, h2, h3, h4, h5, h6⟩ := ix_some hk (j := (a : Int)) (.inr ⟨a, x, rfl, hx, hw, h⟩) (by omega)
  obtain rfl : a = a' := by omega
  rw [hx] at h2
  cases h2
  have hb := (runs_is s).bd x (List.mem_of_getElem? hx)
  exact ⟨h4, h5, h6, mayE_of (by show x.f < x.f + k; omega) hb.1 (by show x.f + k ≤ _; omega)⟩

set_option maxRecDepth 100000 in
set_option maxHeartbeats 4000000 in
theorem ralloc_any (b : Nat) (s : St) (F : Nat → Prop) (k : Int) (w : World) (hR : RB w b s F) (hn : s.n ≤ 4096) :
    Calls Try.prog 14 #[.pointer (some ⟨b, 0, none⟩), .int .i64 k] w fun e w' => e = .returned (.tuple #[.agg #[.int .i64 (allocR s k).f, .int .i64 (allocR s k).t], .int .i64 (allocE s k)]) ∧ Goes F w w' (RB w' b (allocS s k)) := by
  obtain ⟨g, h, rfl⟩ := hR.v
  have hB1 : Below w.heap.size w (w.alloc (.cells #[.int .i64 0, .int .i64 0] 30)) := (Below.refl _ _).alloc (Nat.le_refl _) _
  have HB1 := Lib.hid hB1
  have HP := Lib.hid (fun W (hW : Below w.heap.size w W) => show Goes (fun k => k = b ∨ k = g) w W (RB W b s) from Goes.same (h.below hW).rb (Keeps.of_below hW))
  by_cases hk : k < 1
  · have e1 : allocE s k = 1 := by unfold allocE; rw [if_pos hk]
    have e2 : allocR s k = ⟨0, 0⟩ := by unfold allocR; rw [if_pos hk]
    have e3 : allocS s k = s := by unfold allocS; rw [if_pos hk]
    rw [e1, e2, e3]
    clear h hR e1 e2 e3
    go_enter Try.func14, Try.ntmps14
    go_wp2
    exact bodyPost_ret (v := .tuple #[.agg #[.int .i64 0, .int .i64 0], .int .i64 1]) (by simp [results, Try.results14, go_sem]) rfl ⟨rfl, HP.out _ HB1.out⟩
  · have hk1 : 1 ≤ k := by omega
    have HL := Lib.hid (rlist_any b s _ _ ((h.below hB1).rb) hn)
    have hsz : (w.alloc (.cells #[.int .i64 0, .int .i64 0] 30)).heap.size = w.heap.size + 1 := by simp
    have HC := Lib.hid (fun W (hW : Below (w.heap.size + 1) (w.alloc (.cells #[.int .i64 0, .int .i64 0] 30)) W) => show Rb W w.heap.size ⟨0, 0⟩ from (hW.block _ (by omega)).trans (heap_alloc_new w _))
    have HBB := Lib.hid (fun W (hW : Below (w.heap.size + 1) (w.alloc (.cells #[.int .i64 0, .int .i64 0] 30)) W) => hB1.trans (hW.mono (by omega)))
    have HFN := Lib.hid (find_none (s := s) hk1)
    have HFS := Lib.hid (fun (a : Nat) x => find_some (s := s) hk1 (a := a) (x := x))
    have HBD := Lib.hid (fun x (hx : x ∈ runs s) => show 0 ≤ x.f ∧ x.f < x.t ∧ x.t ≤ 4096 from by have h1 := (runs_is s).bd x hx; have h2 := (runs_is s).sep.pos x hx; omega)
    go_enter Try.func14, Try.ntmps14
    go_wp2_with fail
    go_at_call 21
    refine HL.out.mono ?_
    rintro e w1 ⟨⟨v, rfl, hv⟩, hb⟩
    rw [hsz] at hb hv
    obtain ⟨A, c, rfl, hc, hA⟩ := hv.read
    have HB2 := Lib.hid hb
    have HA := Lib.hid hA
    have HG := Lib.hid (fun a (ha : a < (runs s).length) => ex_get ha)
    have HH := Lib.hid h
    have hm : (runs s).length ≤ 4096 := by have := isU_bound (runs_is s); omega
    clear hb hv hA HL h hR hB1 hsz
    obtain ⟨n, hnn⟩ : ∃ n, (runs s).length = n := ⟨_, rfl⟩
    have HN := Lib.hid hnn
    rw [hnn] at hc hm HG ⊢
    clear hnn
    go_wp2
    go_loopw [7] (fun iv wr => ∃ j q : Nat, j ≤ n ∧ iv = .int .i64 j ∧ wr = w1.drewN q ∧ Hid (∀ b y, b < j → (runs s)[b]? = some y → wide k y = false)) (fun iv _ => n - (intOf iv).toNat)
    case atStart => exact ⟨0, 0, Nat.zero_le _, rfl, rfl, fun b y hb => by omega⟩
    case round =>
      obtain ⟨j, q, hj, rfl, rfl, HNO⟩ := hrel
      by_cases hlt : j < n
      · have hlI : (j : Int) < (n : Int) := by omega
        have hj0 : (0 : Int) ≤ (j : Int) := by omega
        obtain ⟨⟨xf, xt⟩, hx⟩ := HG.out j hlt
        obtain ⟨gl, rfl, a0, a1⟩ := HA.out j _ hx
        replace a0 : w1.cell? ⟨gl, j * 2, none⟩ = some (.int .i64 xf) := a0
        replace a1 : w1.cell? ⟨gl, j * 2 + 1, none⟩ = some (.int .i64 xt) := a1
        obtain ⟨b0, b1, b2⟩ := HBD.out _ (List.mem_of_getElem? hx)
        replace b0 : 0 ≤ xf := b0
        replace b1 : xf < xt := b1
        replace b2 : xt ≤ 4096 := b2
        have HX := Lib.hid hx
        clear hx
        by_cases hw : k ≤ xt - xf
        · have HF := Lib.hid (HFS.out j _ HX.out (by simpa [wide] using hw) HNO.out)
          go_wp2
          go_quiet (fail)
          go_wp2
          have HD := Lib.hid (below_drewN (below_drewN HB2.out q) nq)
          replace a0 : ((w1.drewN q).drewN nq).cell? ⟨gl, j * 2, none⟩ = some (.int .i64 xf) := a0
          clear a1
          have hgl : gl < ((w1.drewN q).drewN nq).heap.size := World.block_lt_of_cell? _ _ a0
          have c0 := (HH.out.below (HBB.out _ HD.out)).cell
          generalize (w1.drewN q).drewN nq = wd at *
          have hwd := (HC.out _ HD.out).lt
          have hbl := HH.out.lt
          have hgg := HH.out.bits.lt
          have hBW : Below wd.heap.size wd ((wd.alloc (.cells #[.int .i64 xf, .int .i64 (xf + k)] 30)).drew) := ((Below.refl _ _).alloc (Nat.le_refl _) _).drew
          have hWW : Below w.heap.size w ((wd.alloc (.cells #[.int .i64 xf, .int .i64 (xf + k)] 30)).drew) := (HBB.out _ HD.out).trans (hBW.mono (HBB.out _ HD.out).size)
          have hR3 : Rb ((wd.alloc (.cells #[.int .i64 xf, .int .i64 (xf + k)] 30)).drew) w.heap.size ⟨0, 0⟩ := (HC.out _ HD.out).below hBW
          have hR4 : Rb ((wd.alloc (.cells #[.int .i64 xf, .int .i64 (xf + k)] 30)).drew) wd.heap.size ⟨xf, xf + k⟩ := Rb.new wd ⟨xf, xf + k⟩
          have HCO := Lib.hid (rset_any b s g ⟨xf, xf + k⟩ false _ (HH.out.below hWW) HF.out.2.2.2 hn)
          have HK := Lib.hid (fun w4 (hk : Goes (fun k => k = b ∨ k = g) ((wd.alloc (.cells #[.int .i64 xf, .int .i64 (xf + k)] 30)).drew) w4 (RB w4 b (set s ⟨xf, xf + k⟩ false))) =>
            show (Rb w4 w.heap.size ⟨0, 0⟩ ∧ Rb w4 wd.heap.size ⟨xf, xf + k⟩) ∧ ∀ w5, Keeps (· = w.heap.size) w4 w5 → Goes (fun k => k = b ∨ k = g) w w5 (RB w5 b (set s ⟨xf, xf + k⟩ false)) from
            ⟨⟨hR3.keeps hk.keeps (by omega), hR4.keeps hk.keeps (by omega)⟩, fun w5 h5 => hk.updR hWW (Nat.le_refl _) hR3.lt (fun k hk => by rcases hk with rfl | rfl; (exact hbl); (exact hgg)) h5⟩)
          clear hBW hWW hR3 hR4
          go_region
          go_wp2_with (first
            | (go_at_call 28; (with_reducible refine HCO.out.mono ?_); rintro e w4 ⟨rfl, hk⟩; have HZ := Lib.hid (HK.out _ hk); (obtain ⟨x0, x1, x2, x3⟩ := (HK.out _ hk).1.1.cells); (obtain ⟨y0, y1, -, -⟩ := (HK.out _ hk).1.2.cells); clear hk)
            | fail)
          exact bodyPost_ret (v := .tuple #[.agg #[.int .i64 xf, .int .i64 (xf + k)], .int .i64 0]) (by simp [results, Try.results14, go_sem, x0, x1]) rfl ⟨by rw [HF.out.1, HF.out.2.1], by rw [HF.out.2.2.1]; exact HZ.out.2 _ (set2 _ _ _ _)⟩
        · have HW := Lib.hid (show wide k ⟨xf, xt⟩ = false from by simpa [wide] using hw)
          have hd : decide (k ≤ xt - xf) = false := by simpa using hw
          go_wp2
          go_quiet (fail)
          go_wp2
          go_roundw
          case rel =>
            refine ⟨j + 1, _, by omega, by go_num, rfl, fun b y hb hy => ?_⟩
            by_cases e : b = j
            · subst e; rw [HX.out] at hy; cases hy; exact HW.out
            · exact HNO.out b y (by omega) hy
          case measure => simp [intOf]; omega
      · obtain rfl : n = j := by omega
        have hlI : ¬ ((n : Int) < (n : Int)) := by omega
        obtain ⟨r0, r1, f0, f1⟩ := (HC.out _ (below_drewN HB2.out q)).cells
        have E := Lib.hid (HFN.out (fun a x hx => HNO.out a x (by have := (List.getElem?_eq_some_iff.1 hx).1; rw [HN.out] at this; exact this) hx))
        have HF := Lib.hid (fun w'' (hk : Keeps (· = w.heap.size) (w1.drewN q) w'') => Goes.updR (F := fun k => k = b ∨ k = g) (w := w) (Goes.same (HH.out.below (HBB.out _ (below_drewN HB2.out q))).rb (Keeps.refl _ _)) (HBB.out _ (below_drewN HB2.out q)) (n := w.heap.size) (Nat.le_refl _) (HC.out _ (below_drewN HB2.out q)).lt (fun k hk => by rcases hk with rfl | rfl; (exact HH.out.lt); (exact HH.out.bits.lt)) hk)
        go_wp2
        exact bodyPost_ret (v := .tuple #[.agg #[.int .i64 0, .int .i64 0], .int .i64 2]) (by simp [results, Try.results14, go_sem, r0, r1]) rfl ⟨by rw [E.out.1, E.out.2.1], by rw [E.out.2.2]; exact HF.out _ (set2 _ _ _ _)⟩
end Go.Proofs.Ytlffgfkcgldekaa
