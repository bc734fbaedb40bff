/-
  Open of the document's own shelf (weirkeepref09), by a contract.

  The package's shelf and the document's own, side by side: what a call of either one leaves.
-/
import Derived.Test.YtmmpknfkncgjpaaGreatDoorM35
import Derived.Test.YtmmpknfkncgjpaaGreatDoorM36
import Derived.Test.YtmmpknfkncgjpaaGreatDoorM28
import Derived.Test.YtmmpknfkncgjpaaGreatDoorM34
import Derived.Test.YtmmpknfkncgjpaaGreatDoorM32
import Derived.Test.YtmmpknfkncgjpaaGreatDoorM37
import Derived.Test.YtmmpknfkncgjpaaGreatDoorM06
namespace Go.Proofs.YtmmpknfkncgjpaaGreatDoor
open Go.RowKit Go.PlainAid

/-! ### a bad sector more -/
theorem rodd_stored {w w2 : World} {rb g rp : Nat} {vo : Value} {L : Lay} {odd : List Nat} {lost : Bool} {i q cap : Nat} {t : TypeId} (h : Rb9 w rb g rp vo L odd lost)
    (hg : (w.alloc (.cells #[.int .i64 (i : Int)] t)).grownBy w2 vo.ownBlock) (ho : w2.ownsRow 0 3 1 (.slice (some ⟨q, 0, none⟩) (odd.length + 1) cap) (odd.length + 1) ((odd.map fun i : Nat => Value.int .i64 (i : Int)) ++ [.int .i64 (i : Int)])) (hat : vo.ownBlock = some q ∨ q = w.heap.size + 1) :
    Rb9 (w2.setCell ⟨rb, 2, none⟩ (.slice (some ⟨q, 0, none⟩) (odd.length + 1) cap)) rb g rp (.slice (some ⟨q, 0, none⟩) (odd.length + 1) cap) L (odd ++ [i]) lost ∧
      Keeps (Or9 rb g vo) w (w2.setCell ⟨rb, 2, none⟩ (.slice (some ⟨q, 0, none⟩) (odd.length + 1) cap)) ∧ ∀ k, (Value.slice (some ⟨q, 0, none⟩) (odd.length + 1) cap).ownBlock = some k → vo.ownBlock = some k ∨ w.heap.size ≤ k := by
  have hB : ∀ k, k < w.heap.size → vo.ownBlock ≠ some k → w2.heap[k]? = w.heap[k]? := fun k hk hn => (hg.block k (by simp; omega) (fun e => hn e.symm)).trans (Below.heap_alloc w _ k hk)
  have hgs : q ≠ rb := fun e => by
    rcases hat with h1 | h1
    · exact h.ne_bad (by rw [h1, e])
    · have := h.row.lt; omega
  have hgm : q ≠ g := fun e => by
    rcases hat with h1 | h1
    · exact h.ne_bad_lay (by rw [h1, e])
    · have := h.lay.lt; omega
  refine ⟨⟨((h.row.of_block (hB _ h.row.lt h.ne_bad)).set 2 _).congr fun o ho => ?_, h.lay.of_block ((Below.heap_setCell _ _ _ _ (Ne.symm h.ne)).trans (hB _ h.lay.lt h.ne_bad_lay)), ?_, h.good⟩, ?_, fun k hk => ?_⟩
  · unfold rsf
    by_cases e : o = 2
    · subst e; simp
    · rw [if_neg e]
      have : o = 0 ∨ o = 1 ∨ o = 3 := by omega
      rcases this with rfl | rfl | rfl <;> simp
  · rw [List.length_append, List.map_append]
    exact owns_kept ho fun p hp => by
      simp only [Value.ownBlock, Option.some.injEq] at hp
      subst hp
      exact Below.heap_setCell _ _ _ _ hgs
  · exact ((Keeps.of_below (F := Or9 rb g vo) ((Below.refl _ w).alloc (Nat.le_refl _) (.cells #[.int .i64 (i : Int)] t))).grown hg (fun q hq => .inl (.inr (.inr hq)))).set (b := rb) (o := 2) (.inl (.inl rfl)) _
  · simp only [Value.ownBlock, Option.some.injEq] at hk
    subst hk
    rcases hat with h1 | h1
    · exact .inl h1
    · right; omega

/-! ### a new one -/
def zcs : Array Value := #[.int .i64 0, .int .i64 0, .string ⟨#[]⟩]
theorem lc_new (n q : Nat) : lc (List.replicate n none) q = if q % 3 = 0 then .int .i64 0 else if q % 3 = 1 then .int .i64 0 else .string ⟨#[]⟩ := by
  have hb : bkA (List.replicate n none) (q / 3) = Bk.zero := by
    unfold bkA
    rw [List.getElem?_replicate]
    split <;> rfl
  unfold lc
  rw [hb]
  rfl
theorem made_lay (w : World) (n : Nat) : (w.alloc (.cells (madeCells zcs (n * 3)) 34)).rowIs w.heap.size 34 (n * 3) (lc (List.replicate n none)) := by
  have := World.rowIs_alloc w (madeCells zcs (n * 3)) 34 (lc (List.replicate n none)) (fun q hq => by
    rw [size_madeCells] at hq
    rw [lc_new]
    have h3 : q % 3 = 0 ∨ q % 3 = 1 ∨ q % 3 = 2 := by omega
    have h : (madeCells zcs (n * 3))[q]? = some (zcs[q % 3]!) := by
      unfold madeCells
      rw [Array.getElem?_map, Array.getElem?_range, if_pos hq]
      rfl
    rw [h]
    rcases h3 with h | h | h
    · rw [h]; rfl
    · rw [h]; rfl
    · rw [h]; rfl)
  rwa [size_madeCells] at this
theorem RSF.made {w : World} {rp n : Nat} {s : St} {Fp : Nat → Prop} (h : RB w rp s Fp) (hn : n ≤ 128) :
    RSF ((w.alloc (.cells (madeCells zcs (n * 3)) 34)).alloc (.cells #[.pointer (some ⟨rp, 0, none⟩), .slice (some ⟨w.heap.size, 0, none⟩) n n, .slice none 0 0, .bool false] 89)) (w.heap.size + 1) rp s (List.replicate n none) [] false
      (fun k => Fp k ∨ Or9 (w.heap.size + 1) w.heap.size (.slice none 0 0) k) := by
  have hb1 : Below w.heap.size w (w.alloc (.cells (madeCells zcs (n * 3)) 34)) := (Below.refl _ _).alloc (Nat.le_refl _) _
  have hb2 : Below (w.alloc (.cells (madeCells zcs (n * 3)) 34)).heap.size (w.alloc (.cells (madeCells zcs (n * 3)) 34)) ((w.alloc (.cells (madeCells zcs (n * 3)) 34)).alloc (.cells #[.pointer (some ⟨rp, 0, none⟩), .slice (some ⟨w.heap.size, 0, none⟩) n n, .slice none 0 0, .bool false] 89)) := (Below.refl _ _).alloc (Nat.le_refl _) _
  have hl := h.lt
  have hm := made_lay w n
  refine ⟨Fp, .slice none 0 0, w.heap.size, h.below (hb1.trans (hb2.mono hb1.size)), ⟨?_, ?_, World.ownsRow_nil _ _ _ _, ?_⟩, fun k hf ho => ?_, fun k => Iff.rfl⟩
  · have := World.rowIs_alloc (w.alloc (.cells (madeCells zcs (n * 3)) 34)) #[.pointer (some ⟨rp, 0, none⟩), .slice (some ⟨w.heap.size, 0, none⟩) n n, .slice none 0 0, .bool false] 89 (rsf rp w.heap.size n (.slice none 0 0) false) (fun i hi => by
      rcases i with _ | _ | _ | _ | i
      · rfl
      · rfl
      · rfl
      · rfl
      · simp at hi; omega)
    simpa using this
  · rw [List.length_replicate]
    exact hm.of_block (hb2.block _ hm.lt)
  · exact ⟨by simp; omega, fun i b hb => (at_replicate hb).elim, fun i j b c hb => (at_replicate hb).elim⟩
  · have := hl k hf
    rcases ho with rfl | rfl | ho
    · omega
    · omega
    · simp [Value.ownBlock] at ho
theorem scan_lay {f : Nat → List UInt8} {n k : Nat} {b : Bk} (h : parse (str (f k)) = some b) : scan f n (k + 1) = layL (scan f n k) k b ∧ odds f (k + 1) = odds f k := by
  unfold layL
  cases hn : newer (scan f n k) b with
  | true => rw [if_pos rfl]; exact scan_new h hn
  | false => rw [if_neg (by simp)]; exact scan_old h hn

/-! ### Open -/
set_option maxRecDepth 100000 in
set_option maxHeartbeats 2000000 in
theorem ropen_dead {w : World} {rp : Nat} {s : St} {Fp : Nat → Prop} (h : RB w rp s Fp) (hg : s.gone = true) :
    Calls Tryz.prog 67 #[.pointer (some ⟨rp, 0, none⟩)] w fun e w' => e = .returned (.tuple #[.pointer none, .int .i64 70]) ∧ w = w' := by
  obtain ⟨vi, vw, h1, -⟩ := h
  obtain ⟨-, -, c2, -⟩ := h1.cells
  rw [hg] at c2
  clear h1
  go_enter Tryz.func67, Tryz.ntmps67
  go_wp2
  go_returns
  exact ⟨rfl, rfl⟩
/-- What Open answers and leaves, where there is power. -/
def ROpened (Fp : Nat → Prop) (w : World) (rp : Nat) (s : St) (n : Nat) (e : Ending) (w' : World) : Prop :=
  ∃ rb : Nat, e = .returned (.tuple #[.pointer (some ⟨rb, 0, none⟩), .int .i64 0]) ∧ Goes Fp w w' (RSF w' rb rp s (scan (readB s) n n) (odds (readB s) n) false)
theorem ROpened.of {Fp : Nat → Prop} {w w' : World} {rp n : Nat} {s : St} {e : Ending} (rb : Nat) (he : e = .returned (.tuple #[.pointer (some ⟨rb, 0, none⟩), .int .i64 0])) (h : Goes Fp w w' (RSF w' rb rp s (scan (readB s) n n) (odds (readB s) n) false)) : ROpened Fp w rp s n e w' := ⟨rb, he, h⟩
theorem RSg.oddc {F : Nat → Prop} {w0 w : World} {rb rp : Nat} {s : St} {L : Lay} {odd : List Nat} {lost : Bool} (h : RSg F w0 w rb rp s L odd lost) : ∃ vo : Value, w.cell? ⟨rb, 2, none⟩ = some vo ∧ w.frozen? ⟨rb, 2, none⟩ = false ∧ w.ownsRow 0 3 1 vo odd.length (odd.map fun i : Nat => Value.int .i64 (i : Int)) ∧ vo.ownBlock ≠ some rb ∧ rb < w.heap.size ∧
    ∀ (i q cap : Nat) (t : TypeId) (w2 : World), (w.alloc (.cells #[.int .i64 (i : Int)] t)).grownBy w2 vo.ownBlock → w2.ownsRow 0 3 1 (.slice (some ⟨q, 0, none⟩) (odd.length + 1) cap) (odd.length + 1) ((odd.map fun i : Nat => Value.int .i64 (i : Int)) ++ [.int .i64 (i : Int)]) → (vo.ownBlock = some q ∨ q = w.heap.size + 1) →
      RSg F w0 (w2.setCell ⟨rb, 2, none⟩ (.slice (some ⟨q, 0, none⟩) (odd.length + 1) cap)) rb rp s L (odd ++ [i]) lost := by
  obtain ⟨F1, h1, h2⟩ := h.go
  obtain ⟨vo, g, hS, hk⟩ := h1.own
  obtain ⟨-, -, c2, -⟩ := hS.cells
  refine ⟨vo, c2, hS.row.frozen 2, hS.bad, hS.ne_bad, hS.row.lt, fun i q cap t w2 k1 k2 k3 => ?_⟩
  obtain ⟨q1, q2, q3⟩ := rodd_stored hS k1 k2 k3
  exact h2 _ _ _ _ _ (hk _ _ g _ _ _ q1 q2 (.inl rfl) q3)
theorem RSg.isc {F : Nat → Prop} {w0 w : World} {rb rp : Nat} {s : St} {L : Lay} {odd : List Nat} {lost : Bool} (h : RSg F w0 w rb rp s L odd lost) : ∃ A c, w.cell? ⟨rp, 0, none⟩ = some (.slice A s.is.length c) := by
  obtain ⟨F1, h1, -⟩ := h.go
  obtain ⟨Fp, hP, -⟩ := h1.pl
  obtain ⟨vi, vw, k1, -⟩ := hP
  obtain ⟨c0, -⟩ := k1.cells
  obtain ⟨⟨A, c, rfl, -⟩, -⟩ := k1.shapes
  exact ⟨A, c, c0⟩
set_option maxRecDepth 100000 in
set_option maxHeartbeats 8000000 in
theorem ropen_yes {w : World} {rp n : Nat} {s : St} {Fp : Nat → Prop} (h : RB w rp s Fp) (hG : Good s) (hgo : s.gone = false) (hn : s.is.length = n) :
    Calls Tryz.prog 67 #[.pointer (some ⟨rp, 0, none⟩)] w fun e w' => ROpened Fp w rp s n e w' := by
  have hhi := hG.hi
  have hn128 : n ≤ 128 := by omega
  obtain ⟨i0, hi0, hz0, hz1, hz2⟩ := info_parts infoB
  obtain ⟨j0, hj0, jz0, jz1, jz2⟩ := info_parts infoI
  have hmk := run_make (P := Tryz.prog) w 54 34 i0 _ rfl hi0 hz0 .i64 .i64 n n (by omega) (Int.le_refl _) (by rw [hz2]; omega) (by omega)
  simp only [Int.toNat_natCast, hz1] at hmk
  replace hmk : (Instr.makeSlice 54 (.int .i64 (n : Int)) (.int .i64 (n : Int))).run Tryz.prog w = .ok (.slice (some ⟨w.heap.size, 0, none⟩) n n) (w.alloc (.cells (madeCells zcs (n * 3)) 34)) := hmk
  have hb0 : Below w.heap.size w ((w.alloc (.cells (madeCells zcs (n * 3)) 34)).alloc (.cells #[.pointer (some ⟨rp, 0, none⟩), .slice (some ⟨w.heap.size, 0, none⟩) n n, .slice none 0 0, .bool false] 89)) := ((Below.refl _ _).alloc (Nat.le_refl _) _).alloc (by simp) _
  have S0 := Lib.hid (RSg.start (RSF.made h hn128))
  have B0 := Lib.hid hb0
  obtain ⟨vi, vw, h1, -⟩ := h
  obtain ⟨c0, -, c2, -⟩ := h1.cells
  obtain ⟨⟨A, c, rfl, -⟩, -⟩ := h1.shapes
  rw [hgo] at c2
  rw [hn] at c0
  have HGd := Lib.hid hG
  have HN := Lib.hid hn
  have HGo := Lib.hid hgo
  clear h1 hb0 hG hhi hn hgo hi0 hz0 hz1 hz2
  go_enter Tryz.func67, Tryz.ntmps67
  go_wp2
  clear hmk c0 c2
  obtain ⟨G, hG'⟩ : ∃ G : Nat → Prop, (fun k => Fp k ∨ Or9 (w.heap.size + 1) w.heap.size (.slice none 0 0) k) = G := ⟨_, rfl⟩
  have hGe := Lib.hid (show ∀ k, G k → Fp k ∨ w.heap.size ≤ k from fun k hk => by
    rw [← hG'] at hk
    rcases hk with hk | hk | hk | hk
    · exact .inl hk
    · right; omega
    · right; omega
    · simp [Value.ownBlock] at hk)
  rw [hG'] at S0
  clear hG'
  generalize ((w.alloc (.cells (madeCells zcs (n * 3)) 34)).alloc (.cells #[.pointer (some ⟨rp, 0, none⟩), .slice (some ⟨w.heap.size, 0, none⟩) n n, .slice none 0 0, .bool false] 89)) = w1 at S0 B0 ⊢
  go_loopw [5] (fun iv wr => ∃ i : Nat, i ≤ n ∧ iv = .int .i64 i ∧ RSg G w1 wr (w.heap.size + 1) rp s (scan (readB s) n i) (odds (readB s) i) false) (fun iv _ => n - (RowKit.intOf iv).toNat)
  case atStart => exact ⟨0, Nat.zero_le _, rfl, S0.out⟩
  case round =>
    obtain ⟨i, hi, rfl, hS⟩ := hrel
    obtain ⟨A1, c1, c0⟩ := hS.isc
    rw [HN.out] at c0
    have HS := Lib.hid hS
    clear hS S0
    by_cases hlt : i < n
    · have hlI : (i : Int) < (n : Int) := by omega
      have hiI : (0 : Int) ≤ (i : Int) := by omega
      have hsz : (readB s i).length = 32 := readB_length HGd.out (by rw [HN.out]; exact hlt)
      have hts : (str (readB s i)).size = 32 := by rw [str_size]; exact hsz
      have HRd := Lib.hid (rsg_read HS.out (i : Int))
      rw [readV_live HGo.out (by rw [HN.out]; exact hlt), wrong_live HGo.out (by rw [HN.out]; exact hlt)] at HRd
      have HPa := Lib.hid (fun w => rparse_any (str (readB s i)) w)
      have hmr := show mrk (readB s i) ↔ bt (str (readB s i)) 0 = 1 from Iff.rfl
      have hsn := @scan_none (readB s) n i
      have hso := @scan_lay (readB s) n i
      have hol := odds_le (readB s) i
      have hLl : i < (scan (readB s) n i).length := by rw [scan_length]; omega
      clear hsz
      generalize readB s i = tx at hts HRd HPa hmr hsn hso
      obtain ⟨t, ht⟩ : ∃ t, str tx = t := ⟨_, rfl⟩
      rw [ht] at hts HRd HPa hmr hsn hso
      clear ht
      cases hp : parse t with
      | none =>
        obtain ⟨q1, q2⟩ := hsn hp
        obtain ⟨p1, p2⟩ := parseB_none hp
        rw [p1, p2] at HPa
        have Q1 := Lib.hid q1
        have hbt := get_bt t
        have hb0 : (0 : Int) < (t.size : Int) := by omega
        by_cases hm : bt t 0 = 1
        · rw [if_pos (hmr.2 hm)] at q2
          have Q2 := Lib.hid q2
          have hq : (bt t 0 == 1) = true := by simp [hm]
          clear hsn hso p1 p2 q1 q2 hmr hp hm
          go_wp2_with fail
          go_at_call 96
          refine HRd.out.mono ?_
          rintro e w' ⟨rfl, rfl⟩
          go_wp2_with fail
          go_at_call 97
          refine (HPa.out _).mono ?_
          rintro e w2 ⟨rfl, k2⟩
          have S2 := Lib.hid (HS.out.below k2)
          clear k2 c0 HS
          have hba : Below w2.heap.size w2 (w2.alloc (.cells #[.int .i64 Bk.zero.id, .int .i64 Bk.zero.ver, .string Bk.zero.data] 34)) := (Below.refl _ _).alloc (Nat.le_refl _) _
          have S3 := Lib.hid (S2.out.below hba)
          obtain ⟨vo, c2, f2, hown, hne, hrl, hadd⟩ := S3.out.oddc
          have HAdd := Lib.hid hadd
          clear hba hadd
          have hz : (w2.alloc (.cells #[.int .i64 Bk.zero.id, .int .i64 Bk.zero.ver, .string Bk.zero.data] 34)).heap.size = w2.heap.size + 1 := by simp
          have HZ := Lib.hid hz
          have HNw := Lib.hid (show ∀ (j : Nat) (u : Value), [Value.int .i64 (i : Int)][j]? = some u → ((w2.alloc (.cells #[.int .i64 Bk.zero.id, .int .i64 Bk.zero.ver, .string Bk.zero.data] 34)).alloc (.cells #[.int .i64 (i : Int)] 3)).cell? ((⟨w2.heap.size + 1, 0, none⟩ : Addr).add j) = some u from hz ▸ World.news_of_block (cs := #[.int .i64 (i : Int)]) (t := 3) (fr := (0, 0)) (heap_alloc_new (w2.alloc (.cells #[.int .i64 Bk.zero.id, .int .i64 Bk.zero.ver, .string Bk.zero.data] 34)) _))
          clear hz
          have hlen : ((odds (readB s) i).map fun i : Nat => Value.int .i64 (i : Int)).length = (odds (readB s) i).length := by simp
          go_wp2_with (at_builtin; refine wpList_append_lies _ rfl (.tmp 54) (.tmp 56) 49 rfl 0 3 j0 _ 1 8 Tryz.underlying49 hj0 jz0 jz1 jz2 rfl (by decide) vo _ _ rfl (hown.alloc _) ⟨w2.heap.size + 1, 0, none⟩ 1 1 [.int .i64 (i : Int)] rfl rfl HNw.out (by simp [Value.oneCell']) (by decide) (by unfold maxLen; omega) (by omega) (Nat.zero_le _) (w2.heap.size + 1 + 1) (by simp) ?_; intro q cap w4 hown2 hgrow hat hglt; (have hf2 : w4.frozen? ⟨w.heap.size + 1, 2, none⟩ = false := by rw [hgrow.frozen_far _ (by simp at hrl ⊢; omega) (Ne.symm hne)]; exact (World.frozen?_alloc_old (w2.alloc (.cells #[.int .i64 Bk.zero.id, .int .i64 Bk.zero.ver, .string Bk.zero.data] 34)) _ ⟨w.heap.size + 1, 2, none⟩ (Nat.ne_of_lt hrl)).trans f2); (have hc2 : w4.cell? ⟨w.heap.size + 1, 2, none⟩ = some vo := by rw [hgrow.cell_far _ (by simp at hrl ⊢; omega) (Ne.symm hne)]; exact (World.cell?_alloc_lt (w2.alloc (.cells #[.int .i64 Bk.zero.id, .int .i64 Bk.zero.ver, .string Bk.zero.data] 34)) _ ⟨w.heap.size + 1, 2, none⟩ hrl).trans c2); have R := Lib.hid (HAdd.out i q cap 3 w4 hgrow hown2 (by rw [HZ.out]; exact hat)); clear hgrow hown2 hat)
          go_roundw
          case rel => exact ⟨i + 1, by omega, by go_num, by rw [Q1.out, Q2.out]; exact R.out⟩
          case measure => simp [RowKit.intOf]; omega
        · rw [if_neg (fun e => hm (hmr.1 e))] at q2
          have Q2 := Lib.hid q2
          have hq : (bt t 0 == 1) = false := by simp [hm]
          clear hsn hso p1 p2 q1 q2 hmr hp hm
          go_wp2_with fail
          go_at_call 96
          refine HRd.out.mono ?_
          rintro e w' ⟨rfl, rfl⟩
          go_wp2_with fail
          go_at_call 97
          refine (HPa.out _).mono ?_
          rintro e w2 ⟨rfl, k2⟩
          have S2 := Lib.hid (HS.out.below k2)
          clear k2 c0 HS
          have hba : Below w2.heap.size w2 (w2.alloc (.cells #[.int .i64 Bk.zero.id, .int .i64 Bk.zero.ver, .string Bk.zero.data] 34)) := (Below.refl _ _).alloc (Nat.le_refl _) _
          have S3 := Lib.hid (S2.out.below hba)
          clear hba
          go_wp2
          go_roundw
          case rel => exact ⟨i + 1, by omega, by go_num, by rw [Q1.out, Q2.out]; exact S3.out⟩
          case measure => simp [RowKit.intOf]; omega
      | some b =>
        obtain ⟨q1, q2⟩ := hso hp
        obtain ⟨p1, p2⟩ := parseB_some hp
        rw [p1, p2] at HPa
        have Q1 := Lib.hid q1
        have Q2 := Lib.hid q2
        have HB := Lib.hid (parse_some hp).1
        have HLl := Lib.hid hLl
        clear hsn hso p1 p2 q1 q2 hmr hp hLl
        go_wp2_with fail
        go_at_call 96
        refine HRd.out.mono ?_
        rintro e w' ⟨rfl, rfl⟩
        go_wp2_with fail
        go_at_call 97
        refine (HPa.out _).mono ?_
        rintro e w2 ⟨rfl, k2⟩
        have S2 := Lib.hid (HS.out.below k2)
        clear k2 c0 HS
        have hba : Below w2.heap.size w2 (w2.alloc (.cells #[.int .i64 b.id, .int .i64 b.ver, .string b.data] 34)) := (Below.refl _ _).alloc (Nat.le_refl _) _
        have S3 := Lib.hid (S2.out.below hba)
        have A3 := Lib.hid (show AB (w2.alloc (.cells #[.int .i64 b.id, .int .i64 b.ver, .string b.data] 34)) w2.heap.size b from AB.fresh w2 b)
        obtain ⟨d0, d1, d2⟩ := A3.out.all
        clear hba
        go_wp2_with fail
        go_at_call 98
        refine Calls.mono (show Calls Tryz.prog 98 #[.pointer (some ⟨w.heap.size + 1, 0, none⟩), .int .i64 (i : Int), .agg #[.int .i64 b.id, .int .i64 b.ver, .string b.data]] (w2.alloc (.cells #[.int .i64 b.id, .int .i64 b.ver, .string b.data] 34)) _ from rsg_lay S3.out HLl.out HB.out) ?_
        rintro e w4 ⟨rfl, k2⟩
        have S4 := Lib.hid k2
        clear k2 d0 d1 d2
        go_wp2
        go_roundw
        case rel => exact ⟨i + 1, by omega, by go_num, by rw [Q1.out, Q2.out]; exact S4.out⟩
        case measure => simp [RowKit.intOf]; omega
    · have hlI : ¬ ((i : Int) < (n : Int)) := by omega
      obtain rfl : i = n := by omega
      go_wp2
      go_returns
      exact ROpened.of (w.heap.size + 1) rfl (Goes.trans hGe.out (Keeps.of_below B0.out) HS.out)
end Go.Proofs.YtmmpknfkncgjpaaGreatDoor

namespace Go.Proofs.YtmmpknfkncgjpaaGreatDoor
open Go.RowKit

/-! ### the plain part -/
theorem write_gone {s : St} (h : s.gone = true) (i : Int) (t : ByteArray) : writeS s i t = s := by
  have : wrong s i ≠ 0 := by unfold wrong; rw [h]; simp
  unfold writeS; rw [if_pos (.inl this)]
theorem sync_gone {s : St} (h : s.gone = true) : syncS s = s := by unfold syncS; rw [if_pos h]
theorem put_lost {s : St} {L : Lay} {n c : Nat} (h : Rest s n c) (hL : L.length = n) (b : Bk) : (s.gone = true → (putS L s b).gone = true) ∧ (putE L s b = 70 → (putS L s b).gone = true) := by
  by_cases hp : preE L s.gone b = 0
  · obtain ⟨h1, h2, h3⟩ := putS_wr hp
    obtain ⟨k1, k2, k3, k4⟩ := preE_zero hp
    rw [h1, h2]
    refine ⟨fun e => (by rw [k2] at e; cases e), fun e => (h.wr_dead (by omega) k1 (by rw [e]; decide)).2⟩
  · obtain ⟨h1, h2, h3⟩ := putS_pre hp
    rw [h1, h2]
    refine ⟨id, fun e => ?_⟩
    have hr : refE b 1 ≠ 70 := by unfold refE; split; split <;> omega; omega
    unfold preE at e
    split at e
    · omega
    · split at e
      · assumption
      · split at e
        · cases e
        · split at e <;> cases e
theorem drop_lost {s : St} {n c : Nat} (h : Rest s n c) (id : Int) : (s.gone = true → (dropS s id).gone = true) ∧ (dropE s id = 70 → (dropS s id).gone = true) := by
  cases hg : s.gone with
  | true =>
    have e2 : dropS s id = s := by unfold dropS; rw [hg]; rfl
    rw [e2]; exact ⟨fun _ => hg, fun _ => hg⟩
  | false =>
    refine ⟨fun e => (by cases e), fun e => ?_⟩
    have hI := h.dk hg id n (Nat.le_refl _)
    have hn := h.len
    by_cases h0 : (dk (readB s) id s n).1 = 0
    · cases hf : (dk (readB s) id s n).2.2 with
      | false =>
        obtain ⟨e1, -⟩ := drop_none hg hn h0 hf
        rw [e1] at e; cases e
      | true =>
        obtain ⟨e1, e2⟩ := drop_some hg hn h0 hf
        rw [e2]
        exact (syncE_dead (by rw [← e1, e]; decide)).2
    · obtain ⟨-, e2⟩ := drop_hit hg hn (Nat.le_refl n) h0
      rw [e2]; exact (hI.bad h0).2
/-- What is known of the two, as plain data. -/
structure Pln (s : St) (L : Lay) (odd : List Nat) (lp lr : Bool) (n c : Nat) : Prop where
  rest : Rest s n c
  len : L.length = n
  few : odd.length ≤ n
  lp : lp = true → s.gone = true
  lr : lr = true → s.gone = true
section
variable {s : St} {L : Lay} {odd : List Nat} {lp lr : Bool} {n c : Nat}
theorem Pln.mono (h : Pln s L odd lp lr n c) {c' : Nat} (hc : c ≤ c') : Pln s L odd lp lr n c' := ⟨h.rest.mono hc, h.len, h.few, h.lp, h.lr⟩
theorem lostP_cases {l : Bool} {e : Int} (h : lostP l e = true) : l = true ∨ e = 70 := by
  unfold lostP at h
  simpa using h
theorem Pln.put (h : Pln s L odd lp lr n c) (hG : GoodL L) (b : Bk) : Pln (putS L s b) (putY L s b) odd (lostP lp (putE L s b)) (lostP lr (putE L s b)) n (c + 4) := by
  obtain ⟨h1, h2⟩ := put_lost h.rest h.len b
  refine ⟨h.rest.put h.len b, by rw [(putY_good hG s b).2]; exact h.len, h.few, fun e => ?_, fun e => ?_⟩
  · rcases lostP_cases e with e | e
    · exact h1 (h.lp e)
    · exact h2 e
  · rcases lostP_cases e with e | e
    · exact h1 (h.lr e)
    · exact h2 e
theorem Pln.drop (h : Pln s L odd lp lr n c) (hG : GoodL L) (id : Int) : Pln (dropS s id) (dropY L s id) odd lp (lostP lr (dropE s id)) n (c + n + 1) := by
  obtain ⟨h1, h2⟩ := drop_lost h.rest id
  refine ⟨h.rest.drop id, by rw [(dropY_good hG s id).2]; exact h.len, h.few, fun e => h1 (h.lp e), fun e => ?_⟩
  rcases lostP_cases e with e | e
  · exact h1 (h.lr e)
  · exact h2 e
theorem Pln.cut (h : Pln s L odd lp lr n c) {k : Int} {keep : Nat} (hk : k < 9223372036854775808) (hkp : keep < 18446744073709551616) : Pln (cut s k keep) L odd lp lr n c :=
  ⟨h.rest.cut hk hkp, h.len, h.few, h.lp, h.lr⟩
theorem Pln.wrote (h : Pln s L odd lp lr n c) (i : Int) (t : ByteArray) : Pln (syncS (writeS s i t)) L odd lp lr n (c + 2) := by
  have h1 := h.rest
  refine ⟨⟨(h1.good.write i t).sync, ((still_of h1.wait).write i t).sync, by rw [sync_len, write_len]; exact h1.len, ?_⟩, h.len, h.few, fun e => ?_, fun e => ?_⟩
  · have := write_n s i t
    have := sync_n (writeS s i t)
    have := h1.few
    omega
  · have hg := h.lp e; rw [write_gone hg, sync_gone hg]; exact hg
  · have hg := h.lr e; rw [write_gone hg, sync_gone hg]; exact hg
theorem Pln.opened (h : Rest s n c) : Pln s (scan (readB s) n n) (odds (readB s) n) false false n c :=
  ⟨h, scan_length _ _ _, odds_le _ _, fun e => (by cases e), fun e => (by cases e)⟩
theorem Pln.fresh (k : Int) : Pln (fresh k) (List.replicate (size0 k) none) [] false false (size0 k) 0 :=
  ⟨fresh_rest k, by simp, by simp, fun e => (by cases e), fun e => (by cases e)⟩
end

/-! ### the two -/
def Duo (w0 w : World) (sb mb pb : Nat) (s : St) (L : Lay) (odd : List Nat) (lost : Bool) (rb rp : Nat) (s' : St) (L' : Lay) (odd' : List Nat) (lost' : Bool) (O : Nat → Prop) : Prop :=
  ∃ F G, SF w sb mb pb s L odd lost F ∧ RSF w rb rp s' L' odd' lost' G ∧ (∀ k, F k → ¬ G k) ∧ (∀ k, F k → w0.heap.size ≤ k) ∧ (∀ k, G k → w0.heap.size ≤ k) ∧ Below w0.heap.size w0 w ∧ ∀ k, O k → ¬ F k ∧ ¬ G k ∧ k < w.heap.size
section
variable {w0 w w' : World} {sb mb pb : Nat} {s : St} {L : Lay} {odd : List Nat} {lost : Bool} {rb rp : Nat} {s' : St} {L' : Lay} {odd' : List Nat} {lost' : Bool} {O : Nat → Prop}
theorem Duo.bel (h : Duo w0 w sb mb pb s L odd lost rb rp s' L' odd' lost' O) : Below w0.heap.size w0 w := by obtain ⟨F, G, h1, h2, h3, h4, h5, h6, h7⟩ := h; exact h6
theorem Duo.good (h : Duo w0 w sb mb pb s L odd lost rb rp s' L' odd' lost' O) : GoodL L := by obtain ⟨F, G, h1, h2, h3, h4, h5, h6, h7⟩ := h; exact h1.good
theorem Duo.sf (h : Duo w0 w sb mb pb s L odd lost rb rp s' L' odd' lost' O) : ∃ F, SF w sb mb pb s L odd lost F := by obtain ⟨F, G, h1, h2, h3, h4, h5, h6, h7⟩ := h; exact ⟨F, h1⟩
theorem Duo.rsf (h : Duo w0 w sb mb pb s L odd lost rb rp s' L' odd' lost' O) : ∃ G, RSF w rb rp s' L' odd' lost' G := by obtain ⟨F, G, h1, h2, h3, h4, h5, h6, h7⟩ := h; exact ⟨G, h2⟩
theorem Duo.less {O' : Nat → Prop} (h : Duo w0 w sb mb pb s L odd lost rb rp s' L' odd' lost' O) (hO : ∀ k, O' k → O k) : Duo w0 w sb mb pb s L odd lost rb rp s' L' odd' lost' O' := by
  obtain ⟨F, G, h1, h2, h3, h4, h5, h6, h7⟩ := h
  exact ⟨F, G, h1, h2, h3, h4, h5, h6, fun k hk => h7 k (hO k hk)⟩
theorem Duo.below (h : Duo w0 w sb mb pb s L odd lost rb rp s' L' odd' lost' O) (hb : Below w.heap.size w w') : Duo w0 w' sb mb pb s L odd lost rb rp s' L' odd' lost' O ∧ Kept O w w' := by
  obtain ⟨F, G, h1, h2, h3, h4, h5, h6, h7⟩ := h
  exact ⟨⟨F, G, h1.below hb, h2.below hb, h3, h4, h5, h6.trans (hb.mono h6.size), fun k hk => ⟨(h7 k hk).1, (h7 k hk).2.1, Nat.lt_of_lt_of_le (h7 k hk).2.2 hb.size⟩⟩, fun k hk => hb.block k (h7 k hk).2.2⟩
theorem Duo.news (h : Duo w0 w sb mb pb s L odd lost rb rp s' L' odd' lost' O) (hb : Below w.heap.size w w') : Duo w0 w' sb mb pb s L odd lost rb rp s' L' odd' lost' (fun k => O k ∨ (w.heap.size ≤ k ∧ k < w'.heap.size)) := by
  obtain ⟨F, G, h1, h2, h3, h4, h5, h6, h7⟩ := h
  refine ⟨F, G, h1.below hb, h2.below hb, h3, h4, h5, h6.trans (hb.mono h6.size), fun k hk => ?_⟩
  rcases hk with hk | ⟨k1, k2⟩
  · exact ⟨(h7 k hk).1, (h7 k hk).2.1, Nat.lt_of_lt_of_le (h7 k hk).2.2 hb.size⟩
  · exact ⟨fun hf => by have := h1.lt k hf; omega, fun hf => by have := h2.lt k hf; omega, k2⟩
/-- The package's shelf, or its plate alone, turns. -/
theorem Duo.p (h : Duo w0 w sb mb pb s L odd lost rb rp s' L' odd' lost' O) (hT : Tab w0) : ∃ F Fp, SF w sb mb pb s L odd lost F ∧ PB w pb s Fp ∧ ¬ F 1 ∧ ¬ Fp 1 ∧
    (∀ w' s2, Goes Fp w w' (PB w' pb s2) → Duo w0 w' sb mb pb s2 L odd lost rb rp s' L' odd' lost' O ∧ Kept O w w') ∧
    (∀ w' sb2 mb2 s2 L2 odd2 lost2, Goes F w w' (SF w' sb2 mb2 pb s2 L2 odd2 lost2) → Duo w0 w' sb2 mb2 pb s2 L2 odd2 lost2 rb rp s' L' odd' lost' O ∧ Kept O w w') ∧
    (∀ w' sb2 mb2 s2 L2 odd2 lost2, Goes Fp w w' (SF w' sb2 mb2 pb s2 L2 odd2 lost2) → Duo w0 w' sb2 mb2 pb s2 L2 odd2 lost2 rb rp s' L' odd' lost' O ∧ Kept O w w') := by
  obtain ⟨F, G, h1, h2, h3, h4, h5, h6, h7⟩ := h
  have hsub : ∃ Fp, PB w pb s Fp ∧ (∀ k, Fp k → F k) ∧ (∀ w' s2, Goes Fp w w' (PB w' pb s2) → Goes F w w' (SF w' sb mb pb s2 L odd lost)) := by
    have h1' := h1
    obtain ⟨Fp, vb, k1, k2, k3, k4⟩ := h1
    obtain ⟨Fp', q1, q2⟩ := h1'.pl
    exact ⟨Fp, k1, fun k hk => (k4 k).2 (.inl hk), fun w' s2 ⟨F', e1, e2, e3⟩ => by
      refine ⟨fun k => F' k ∨ Ow sb mb vb k, ⟨F', vb, e1, k2.kept fun k ho => e3.block k (k2.lt k ho) (fun hf => k3 k hf ho), fun k hf ho => ?_, fun k => Iff.rfl⟩, fun k hk => ?_, ?_⟩
      · rcases e2 k hf with h | h
        · exact k3 k h ho
        · have := k2.lt k ho; omega
      · rcases hk with hk | hk
        · rcases e2 k hk with h | h
          · exact .inl ((k4 k).2 (.inl h))
          · exact .inr h
        · exact .inl ((k4 k).2 (.inr hk))
      · exact ⟨e3.os, e3.tape, e3.output, e3.size, fun k hk hn => e3.block k hk fun hf => hn ((k4 k).2 (.inl hf))⟩⟩
  obtain ⟨Fp, hP, hs, hg⟩ := hsub
  have hh : (1 : Nat) < w0.heap.size := World.block_lt_of_cell? w0 _ (hT 0 (by decide))
  have core : ∀ (E : Nat → Prop), (∀ k, E k → F k) → ∀ w' sb2 mb2 s2 L2 odd2 lost2, Goes E w w' (SF w' sb2 mb2 pb s2 L2 odd2 lost2) → Duo w0 w' sb2 mb2 pb s2 L2 odd2 lost2 rb rp s' L' odd' lost' O ∧ Kept O w w' := by
    intro E hE w' sb2 mb2 s2 L2 odd2 lost2 ⟨F', q1, q2, q3⟩
    refine ⟨⟨F', G, q1, h2.keeps q3 fun k hk he => h3 k (hE k he) hk, fun k hk hg => ?_, fun k hk => ?_, h5, q3.below h6 h6.size (fun k hk => h4 k (hE k hk)), fun k hk => ⟨fun hf => ?_, (h7 k hk).2.1, Nat.lt_of_lt_of_le (h7 k hk).2.2 q3.size⟩⟩, fun k hk => q3.block k (h7 k hk).2.2 fun he => (h7 k hk).1 (hE k he)⟩
    · rcases q2 k hk with h | h
      · exact h3 k (hE k h) hg
      · have := h2.lt k hg; omega
    · rcases q2 k hk with h | h
      · exact h4 k (hE k h)
      · exact Nat.le_trans h6.size h
    · rcases q2 k hf with h | h
      · exact (h7 k hk).1 (hE k h)
      · have := (h7 k hk).2.2; omega
  exact ⟨F, Fp, h1, hP, fun e => by have := h4 _ e; omega, fun e => by have := h4 _ (hs _ e); omega, fun w' s2 k => core F (fun _ h => h) _ _ _ _ _ _ _ (hg w' s2 k), core F (fun _ h => h), core Fp hs⟩
/-- The document's own, or its plate alone, turns. -/
theorem Duo.r (h : Duo w0 w sb mb pb s L odd lost rb rp s' L' odd' lost' O) : ∃ G Gp, RSF w rb rp s' L' odd' lost' G ∧ RB w rp s' Gp ∧
    (∀ w' s2, Goes Gp w w' (RB w' rp s2) → Duo w0 w' sb mb pb s L odd lost rb rp s2 L' odd' lost' O ∧ Kept O w w') ∧
    (∀ w' rb2 s2 L2 odd2 lost2, Goes G w w' (RSF w' rb2 rp s2 L2 odd2 lost2) → Duo w0 w' sb mb pb s L odd lost rb2 rp s2 L2 odd2 lost2 O ∧ Kept O w w') ∧
    (∀ w' rb2 s2 L2 odd2 lost2, Goes Gp w w' (RSF w' rb2 rp s2 L2 odd2 lost2) → Duo w0 w' sb mb pb s L odd lost rb2 rp s2 L2 odd2 lost2 O ∧ Kept O w w') := by
  obtain ⟨F, G, h1, h2, h3, h4, h5, h6, h7⟩ := h
  have hsub : ∃ Gp, RB w rp s' Gp ∧ (∀ k, Gp k → G k) ∧ (∀ w' s2, Goes Gp w w' (RB w' rp s2) → Goes G w w' (RSF w' rb rp s2 L' odd' lost')) := by
    obtain ⟨Gp, vo, g, k1, k2, k3, k4⟩ := h2
    exact ⟨Gp, k1, fun k hk => (k4 k).2 (.inl hk), fun w' s2 ⟨F', e1, e2, e3⟩ => by
      refine ⟨fun k => F' k ∨ Or9 rb g vo k, ⟨F', vo, g, e1, k2.kept fun k ho => e3.block k (k2.lt k ho) (fun hf => k3 k hf ho), fun k hf ho => ?_, fun k => Iff.rfl⟩, fun k hk => ?_, ?_⟩
      · rcases e2 k hf with h | h
        · exact k3 k h ho
        · have := k2.lt k ho; omega
      · rcases hk with hk | hk
        · rcases e2 k hk with h | h
          · exact .inl ((k4 k).2 (.inl h))
          · exact .inr h
        · exact .inl ((k4 k).2 (.inr hk))
      · exact ⟨e3.os, e3.tape, e3.output, e3.size, fun k hk hn => e3.block k hk fun hf => hn ((k4 k).2 (.inl hf))⟩⟩
  obtain ⟨Gp, hP, hs, hg⟩ := hsub
  have core : ∀ (E : Nat → Prop), (∀ k, E k → G k) → ∀ w' rb2 s2 L2 odd2 lost2, Goes E w w' (RSF w' rb2 rp s2 L2 odd2 lost2) → Duo w0 w' sb mb pb s L odd lost rb2 rp s2 L2 odd2 lost2 O ∧ Kept O w w' := by
    intro E hE w' rb2 s2 L2 odd2 lost2 ⟨F', q1, q2, q3⟩
    refine ⟨⟨F, F', h1.keeps q3 fun k hk he => h3 k hk (hE k he), q1, fun k hf hk => ?_, h4, fun k hk => ?_, q3.below h6 h6.size (fun k hk => h5 k (hE k hk)), fun k hk => ⟨(h7 k hk).1, fun hf => ?_, Nat.lt_of_lt_of_le (h7 k hk).2.2 q3.size⟩⟩, fun k hk => q3.block k (h7 k hk).2.2 fun he => (h7 k hk).2.1 (hE k he)⟩
    · rcases q2 k hk with h | h
      · exact h3 k hf (hE k h)
      · have := h1.lt k hf; omega
    · rcases q2 k hk with h | h
      · exact h5 k (hE k h)
      · exact Nat.le_trans h6.size h
    · rcases q2 k hf with h | h
      · exact (h7 k hk).2.1 (hE k h)
      · have := (h7 k hk).2.2; omega
  exact ⟨G, Gp, h2, hP, fun w' s2 k => core G (fun _ h => h) _ _ _ _ _ _ (hg w' s2 k), core G (fun _ h => h), core Gp hs⟩
end
end Go.Proofs.YtmmpknfkncgjpaaGreatDoor
