/-
  note, Open (package shelf), by contracts.

  Open (package shelf), by a contract.
-/
import Derived.Test.YtmmpknfkncgjpaaGreatDoorM30
import Derived.Test.YtmmpknfkncgjpaaGreatDoorM03
namespace Go.Proofs.YtmmpknfkncgjpaaGreatDoor
open Go.RowKit

theorem infoI : (Tryz.prog.info? 3).map (fun i => (i.zero, i.size, i.bytes)) = some (some (.int .i64 0), 1, 8) := by kernel_rfl
theorem note_stored {w w2 : World} {sb mb pb : Nat} {vb : Value} {L : Lay} {odd : List Nat} {lost : Bool} {i g cap : Nat} {t : TypeId} (h : Sb w sb mb pb vb L odd lost)
    (hg : (w.alloc (.cells #[.int .i64 (i : Int)] t)).grownBy w2 vb.ownBlock) (ho : w2.ownsRow 0 3 1 (.slice (some ⟨g, 0, none⟩) (odd.length + 1) cap) (odd.length + 1) ((odd.map fun i : Nat => Value.int .i64 (i : Int)) ++ [.int .i64 (i : Int)])) (hat : vb.ownBlock = some g ∨ g = w.heap.size + 1) :
    Sb (w2.setCell ⟨sb, 2, none⟩ (.slice (some ⟨g, 0, none⟩) (odd.length + 1) cap)) sb mb pb (.slice (some ⟨g, 0, none⟩) (odd.length + 1) cap) L (odd ++ [i]) lost ∧
      Keeps (Ow sb mb vb) w (w2.setCell ⟨sb, 2, none⟩ (.slice (some ⟨g, 0, none⟩) (odd.length + 1) cap)) ∧ ∀ k, (Value.slice (some ⟨g, 0, none⟩) (odd.length + 1) cap).ownBlock = some k → vb.ownBlock = some k ∨ w.heap.size ≤ k := by
  have hB : ∀ k, k < w.heap.size → vb.ownBlock ≠ some k → w2.heap[k]? = w.heap[k]? := fun k hk hn => (hg.block k (by simp; omega) (fun e => hn e.symm)).trans (Below.heap_alloc w _ k hk)
  have hgs : g ≠ sb := fun e => by
    rcases hat with h1 | h1
    · exact h.ne_bad (by rw [h1, e])
    · have := h.row.lt; omega
  have hgm : g ≠ mb := fun e => by
    rcases hat with h1 | h1
    · exact h.ne_bad_map (by rw [h1, e])
    · have := h.tm.lt; omega
  refine ⟨⟨((h.row.of_block (hB _ h.row.lt h.ne_bad)).set 2 _).congr fun o ho => ?_, h.tm.of_block ((Below.heap_setCell _ _ _ _ h.ne).trans (hB _ h.tm.lt h.ne_bad_map)), ?_⟩, ?_, fun k hk => ?_⟩
  · unfold sf
    by_cases e : o = 2
    · subst e; simp
    · rw [if_neg e]
      have : o = 0 ∨ o = 1 ∨ o = 3 := by omega
      rcases this with rfl | rfl | rfl <;> simp
  · rw [List.length_append, List.map_append]
    exact owns_kept ho fun q hq => by
      simp only [Value.ownBlock, Option.some.injEq] at hq
      subst hq
      exact Below.heap_setCell _ _ _ _ hgs
  · exact ((Keeps.of_below (F := Ow sb mb vb) ((Below.refl _ w).alloc (Nat.le_refl _) (.cells #[.int .i64 (i : Int)] t))).grown hg (fun q hq => .inl (.inr (.inr hq)))).set (b := sb) (o := 2) (.inl (.inl rfl)) _
  · simp only [Value.ownBlock, Option.some.injEq] at hk
    subst hk
    rcases hat with h1 | h1
    · exact .inl h1
    · right; omega
set_option maxRecDepth 100000 in
set_option maxHeartbeats 2000000 in
theorem note_any {F : Nat → Prop} {w : World} {sb mb pb : Nat} {s : St} {L : Lay} {odd : List Nat} {lost : Bool} (h : SF w sb mb pb s L odd lost F) (i : Nat) (t : ByteArray) (hn : odd.length ≤ 1000) :
    Calls Tryz.prog 94 #[.pointer (some ⟨sb, 0, none⟩), .int .i64 (i : Int), .string t] w fun e w' => e = .returned (.tuple #[]) ∧ Sg F w w' sb mb pb s L (if pfx t then odd ++ [i] else odd) lost := by
  obtain ⟨i0, hi0, hz0, hz1, hz2⟩ := info_parts infoI
  have HP := Lib.hid (hasPrefix_any t w)
  have HS := Lib.hid (Sg.start h)
  cases hp : pfx t
  · rw [if_neg (by simp)]
    rw [hp] at HP
    clear hp h
    go_enter Tryz.func94, Tryz.ntmps94
    go_wp2_with fail
    go_at_call 126
    refine HP.out.mono ?_
    rintro e w' ⟨rfl, rfl⟩
    go_wp2
    go_end0
    exact ⟨rfl, HS.out⟩
  · rw [if_pos rfl]
    rw [hp] at HP
    obtain ⟨vb, hS, hk⟩ := h.own
    obtain ⟨-, -, c2, -⟩ := hS.cells
    have f2 := hS.row.frozen 2
    have hne := hS.ne_bad
    have hsl := hS.row.lt
    have HSb := Lib.hid hS
    have HK := Lib.hid hk
    have hlen : (odd.map fun i : Nat => Value.int .i64 (i : Int)).length = odd.length := by simp
    clear hp h hk HS
    go_enter Tryz.func94, Tryz.ntmps94
    go_wp2_with fail
    go_at_call 126
    refine HP.out.mono ?_
    rintro e w' ⟨rfl, rfl⟩
    go_wp2_with (at_builtin; refine wpList_append_lies _ rfl (.tmp 12) (.tmp 14) 49 rfl 0 3 i0 _ 1 8 Tryz.underlying49 hi0 hz0 hz1 hz2 rfl (by decide) vb _ _ rfl (HSb.out.bad.alloc _) ⟨w.heap.size, 0, none⟩ 1 1 [.int .i64 (i : Int)] rfl rfl (World.news_of_block (cs := #[.int .i64 (i : Int)]) (t := 3) (fr := (0, 0)) (heap_alloc_new w _)) (by simp [Value.oneCell']) (by decide) (by unfold maxLen; omega) (by omega) (Nat.zero_le _) (w.heap.size + 1) (by simp) ?_; intro g cap w2 hown2 hgrow hat hglt; (have hf2 : w2.frozen? ⟨sb, 2, none⟩ = false := by rw [hgrow.frozen_far _ (by simp; omega) (Ne.symm hne)]; exact (World.frozen?_alloc_old w _ ⟨sb, 2, none⟩ (Nat.ne_of_lt hsl)).trans f2); (have hc2 : w2.cell? ⟨sb, 2, none⟩ = some vb := by rw [hgrow.cell_far _ (by simp; omega) (Ne.symm hne)]; exact (World.cell?_alloc_lt w _ ⟨sb, 2, none⟩ hsl).trans c2); obtain ⟨q1, q2, q3⟩ := note_stored HSb.out hgrow hown2 hat; have R := Lib.hid (HK.out _ _ _ _ _ q1 q2 q3); clear q1 q2 q3 hgrow hown2 hat)
    go_end0
    exact ⟨rfl, R.out⟩
end Go.Proofs.YtmmpknfkncgjpaaGreatDoor

namespace Go.Proofs.YtmmpknfkncgjpaaGreatDoor
open Go.RowKit Go.PlainAid

theorem pfx_mrk (x : List UInt8) (h : x ≠ []) : pfx (str x) = true ↔ mrk x := by
  cases x with
  | nil => exact absurd rfl h
  | cons y l =>
    rw [mrk_cons]
    unfold pfx
    rw [decide_eq_true_eq, str_extract]
    constructor
    · intro e
      have := congrArg (fun s : ByteArray => s.data.toList) e
      simpa [str] using this
    · rintro rfl; rfl
theorem scan_none {f : Nat → List UInt8} {n k : Nat} (h : parse (str (f k)) = none) : scan f n (k + 1) = scan f n k ∧ odds f (k + 1) = if mrk (f k) then odds f k ++ [k] else odds f k := by
  refine ⟨by rw [scan, h], ?_⟩
  rw [odds, h]
  by_cases hm : mrk (f k)
  · rw [if_pos ⟨rfl, hm⟩, if_pos hm]
  · rw [if_neg (fun e => hm e.2), if_neg hm]
theorem scan_new {f : Nat → List UInt8} {n k : Nat} {b : Bk} (h : parse (str (f k)) = some b) (hn : newer (scan f n k) b = true) : scan f n (k + 1) = putL (scan f n k) k b ∧ odds f (k + 1) = odds f k := by
  refine ⟨by rw [scan, h]; simp [hn], ?_⟩
  rw [odds, h, if_neg (by simp)]
theorem scan_old {f : Nat → List UInt8} {n k : Nat} {b : Bk} (h : parse (str (f k)) = some b) (hn : newer (scan f n k) b = false) : scan f n (k + 1) = scan f n k ∧ odds f (k + 1) = odds f k := by
  refine ⟨by rw [scan, h]; simp [hn], ?_⟩
  rw [odds, h, if_neg (by simp)]
theorem scan_free {f : Nat → List UInt8} {n k : Nat} (hn : n ≤ 128) (hk : k < n) : Fre (scan f n k) k := by
  have hl : k < (scan f n k).length := by rw [scan_length]; omega
  unfold Fre
  rw [List.getElem?_eq_getElem hl]
  cases hx : (scan f n k)[k] with
  | none => rfl
  | some b =>
    have := ((scan_good hn k (by omega)).2.1 k b (by unfold At; rw [List.getElem?_eq_getElem hl, hx])).1
    omega
theorem odds_le (f : Nat → List UInt8) (k : Nat) : (odds f k).length ≤ k := by
  induction k with
  | zero => exact Nat.le_refl _
  | succ k ih => unfold odds; split; (simp; omega); omega
/-- A row that isn't theirs stays. -/
theorem Sg.row {F : Nat → Prop} {w w1 : World} {sb mb pb : Nat} {s : St} {L : Lay} {odd : List Nat} {lost : Bool} (h : Sg F w w1 sb mb pb s L odd lost) {g t n : Nat} {f : Nat → Value} (hr : w.rowIs g t n f) (hg : ¬ F g) : w1.rowIs g t n f := by
  obtain ⟨F1, h1, h2, h3⟩ := h
  exact h3.row hr hg
set_option maxRecDepth 100000 in
set_option maxHeartbeats 4000000 in
theorem open_dead {w : World} {pb : Nat} {s : St} {Fp : Nat → Prop} (h : PB w pb s Fp) (hg : s.gone = true) :
    Calls Tryz.prog 65 #[.pointer (some ⟨pb, 0, none⟩)] w fun e w' => e = .returned (.tuple #[.pointer none, .int .i64 70]) ∧ w = w' := by
  have HD := Lib.hid (dead_any pb s Fp w h)
  rw [hg] at HD
  go_enter Tryz.func65, Tryz.ntmps65
  go_wp2_with fail
  go_at_call 15
  refine HD.out.mono ?_
  rintro e w' ⟨rfl, rfl⟩
  go_wp2
  go_returns
  exact ⟨rfl, rfl⟩
/-- A new shelf's cells. -/
theorem SF.made {w : World} {pb n : Nat} {s : St} {Fp : Nat → Prop} (h : PB w pb s Fp) (hn : n ≤ 128) :
    SF ((w.alloc (.map #[] 0)).alloc (.cells #[.pointer (some ⟨pb, 0, none⟩), .map (some w.heap.size), .slice none 0 0, .bool false] 146)) (w.heap.size + 1) w.heap.size pb s (List.replicate n none) [] false
      (fun k => Fp k ∨ Ow (w.heap.size + 1) w.heap.size (.slice none 0 0) k) := by
  have hb1 : Below w.heap.size w (w.alloc (.map #[] 0)) := (Below.refl _ _).alloc (Nat.le_refl _) _
  have hb2 : Below (w.alloc (.map #[] 0)).heap.size (w.alloc (.map #[] 0)) ((w.alloc (.map #[] 0)).alloc (.cells #[.pointer (some ⟨pb, 0, none⟩), .map (some w.heap.size), .slice none 0 0, .bool false] 146)) := (Below.refl _ _).alloc (Nat.le_refl _) _
  have hl := h.lt
  refine ⟨Fp, .slice none 0 0, h.below (hb1.trans (hb2.mono hb1.size)), ⟨?_, (Tm.made w n hn).below hb2, World.ownsRow_nil _ _ _ _⟩, fun k hf ho => ?_, fun k => Iff.rfl⟩
  · have := World.rowIs_alloc (w.alloc (.map #[] 0)) #[.pointer (some ⟨pb, 0, none⟩), .map (some w.heap.size), .slice none 0 0, .bool false] 146 (sf pb w.heap.size (.slice none 0 0) false) (fun i hi => by
      rcases i with _ | _ | _ | _ | i
      · rfl
      · rfl
      · rfl
      · rfl
      · simp at hi; omega)
    simpa using this
  · have := hl k hf
    rcases ho with rfl | rfl | ho
    · omega
    · omega
    · simp [Value.ownBlock] at ho
/-- What Open answers and leaves, where there is power. -/
def OpenedAt (Fp : Nat → Prop) (w : World) (pb : Nat) (s : St) (n : Nat) (e : Ending) (w' : World) : Prop :=
  ∃ sb mb : Nat, e = .returned (.tuple #[.pointer (some ⟨sb, 0, none⟩), .int .i64 0]) ∧ Goes Fp w w' (SF w' sb mb pb s (scan (readB s) n n) (odds (readB s) n) false)
theorem OpenedAt.of {Fp : Nat → Prop} {w w' : World} {pb n : Nat} {s : St} {e : Ending} (sb mb : Nat) (he : e = .returned (.tuple #[.pointer (some ⟨sb, 0, none⟩), .int .i64 0])) (h : Goes Fp w w' (SF w' sb mb pb s (scan (readB s) n n) (odds (readB s) n) false)) : OpenedAt Fp w pb s n e w' := ⟨sb, mb, he, h⟩
set_option maxRecDepth 100000 in
set_option maxHeartbeats 4000000 in
theorem open_yes9 {w : World} {pb n : Nat} {s : St} {Fp : Nat → Prop} (h : PB w pb s Fp) (hG : Good s) (hgo : s.gone = false) (hn : s.is.length = n) (hT : Tab w) (hF : ¬ Fp 1) :
    Calls Tryz.prog 65 #[.pointer (some ⟨pb, 0, none⟩)] w fun e w' => OpenedAt Fp w pb s n e w' := by
  have hhi := hG.hi
  have HD := Lib.hid (dead_any pb s Fp w h)
  rw [hgo] at HD
  have hb0 : Below w.heap.size w ((w.alloc (.map #[] 0)).alloc (.cells #[.pointer (some ⟨pb, 0, none⟩), .map (some w.heap.size), .slice none 0 0, .bool false] 146)) := ((Below.refl _ _).alloc (Nat.le_refl _) _).alloc (by simp) _
  have HSF := Lib.hid (SF.made (n := n) h (by omega))
  have HP0 := Lib.hid (h.below hb0)
  have T0 := Lib.hid (hT.below hb0)
  have B0 := Lib.hid hb0
  have hG0 : ¬ (Fp 1 ∨ Ow (w.heap.size + 1) w.heap.size (.slice none 0 0) 1) := fun e => by
    have hh : (1 : Nat) < w.heap.size := World.block_lt_of_cell? w _ (hT 0 (by decide))
    rcases e with e | e | e | e
    · exact hF e
    · omega
    · omega
    · simp [Value.ownBlock] at e
  have HG0 := Lib.hid hG0
  have HGd := Lib.hid hG
  have hmm := @run_makeMap Tryz.prog
  clear h hT hF hb0 hG0
  go_enter Tryz.func65, Tryz.ntmps65
  go_wp2_with fail
  go_at_call 15
  refine HD.out.mono ?_
  rintro e w' ⟨rfl, rfl⟩
  go_wp2_with fail
  generalize hW : ((w.alloc (.map #[] 0)).alloc (.cells #[.pointer (some ⟨pb, 0, none⟩), .map (some w.heap.size), .slice none 0 0, .bool false] 146)) = w0 at HSF HP0 T0 B0 ⊢
  have hz0 := HSF.out.lt
  go_at_call 92
  refine (sectors_any pb n s Fp w0 HP0.out hG hgo hn).mono ?_
  rintro e w1 ⟨g, rfl, hg, hr, k2⟩
  have S1 := Lib.hid (HSF.out.below k2)
  have T1 := Lib.hid (T0.out.below k2)
  have B1 := Lib.hid (B0.out.trans (k2.mono B0.out.size))
  have R1 := Lib.hid hr
  have HGn := Lib.hid (fun (e : Fp g ∨ Ow (w.heap.size + 1) w.heap.size (.slice none 0 0) g) => Nat.lt_irrefl _ (Nat.lt_of_lt_of_le (hz0 g e) hg))
  have hn128 : n ≤ 128 := by omega
  clear k2 hr hz0 hg HSF HP0 T0 B0 HD hmm hW
  go_wp2
  obtain ⟨G, hG'⟩ : ∃ G : Nat → Prop, (fun k => Fp k ∨ Ow (w.heap.size + 1) w.heap.size (.slice none 0 0) k) = G := ⟨_, rfl⟩
  have hGe := Lib.hid (show ∀ k, G k → Fp k ∨ w.heap.size ≤ k from fun k hk => by
    rw [← hG'] at hk
    rcases hk with hk | hk | hk | hk
    · exact .inl hk
    · right; omega
    · right; omega
    · simp [Value.ownBlock] at hk)
  rw [hG'] at S1
  replace HGn := Lib.hid (show ¬ G g from by rw [← hG']; exact HGn.out)
  replace HG0 := Lib.hid (show ¬ G 1 from by rw [← hG']; exact HG0.out)
  clear hG'
  go_loopw [18] (fun iv wr => ∃ i : Nat, i ≤ n ∧ iv = .int .i64 i ∧ Sg G w1 wr (w.heap.size + 1) w.heap.size pb s (scan (readB s) n i) (odds (readB s) i) false) (fun iv _ => n - (RowKit.intOf iv).toNat)
  case atStart => exact ⟨0, Nat.zero_le _, rfl, Sg.start S1.out⟩
  case round =>
    obtain ⟨i, hi, rfl, hS⟩ := hrel
    have HS := Lib.hid hS
    clear hS
    by_cases hlt : i < n
    · have hlI : (i : Int) < (n : Int) := by omega
      have hiI : (0 : Int) ≤ (i : Int) := by omega
      have hrow := HS.out.row R1.out HGn.out
      have c0 := hrow.cell hlt
      rw [show secF s n i = .string (str (readB s i)) from if_pos hlt] at c0
      have hsz : (readB s i).length = 32 := readB_length HGd.out (by rw [hn]; exact hlt)
      have hts : (str (readB s i)).size ≤ 100000 := by rw [str_size]; omega
      have hpm := pfx_mrk (readB s i) (fun e => by rw [e] at hsz; simp at hsz)
      have hTr := HS.out.tab T1.out HG0.out
      have HPa := Lib.hid (parse_any (str (readB s i)) wr hTr hts)
      have hsn := @scan_none (readB s) n i
      have hsw := @scan_new (readB s) n i
      have hso := @scan_old (readB s) n i
      have hfr := Lib.hid (scan_free (f := readB s) hn128 hlt)
      have hol := odds_le (readB s) i
      clear hrow hsz hts hTr
      generalize readB s i = tx at c0 hpm HPa hsn hsw hso
      obtain ⟨t, ht⟩ : ∃ t, str tx = t := ⟨_, rfl⟩
      rw [ht] at c0 hpm HPa hsn hsw hso
      clear ht
      cases hp : parse t with
      | none =>
        obtain ⟨q1, q2⟩ := hsn hp
        obtain ⟨p1, p2⟩ := parseB_none hp
        rw [p1, p2] at HPa
        have Q1 := Lib.hid q1
        have Q2 := Lib.hid (show odds (readB s) (i + 1) = if pfx t then odds (readB s) i ++ [i] else odds (readB s) i from by
          rw [q2]
          by_cases hm : pfx t = true
          · rw [if_pos hm, if_pos (hpm.1 hm)]
          · rw [if_neg hm, if_neg (fun e => hm (hpm.2 e))])
        clear hsn hsw hso p1 p2 q1 q2 hpm hp hfr
        go_wp2_with fail
        go_at_call 93
        refine HPa.out.mono ?_
        rintro e w2 ⟨rfl, k2⟩
        have S2 := Lib.hid (HS.out.below k2)
        clear k2 c0
        go_wp2_with fail
        have hba : Below w2.heap.size w2 (w2.alloc (.cells #[.int .i64 Bk.zero.id, .int .i64 Bk.zero.ver, .string Bk.zero.data] 34)) := (Below.refl _ _).alloc (Nat.le_refl _) _
        have S3 := Lib.hid (S2.out.below hba)
        clear hba
        generalize w2.alloc (.cells #[.int .i64 Bk.zero.id, .int .i64 Bk.zero.ver, .string Bk.zero.data] 34) = w3 at S3 ⊢
        go_at_call 94
        obtain ⟨F3, h3, k3⟩ := S3.out.go
        refine (note_any h3 i t (by omega)).mono ?_
        rintro e w4 ⟨rfl, k2⟩
        have S4' := k3 _ _ _ _ _ k2
        rw [← Q1.out, ← Q2.out] at S4'
        have S4 := Lib.hid S4'
        clear k2 S4' h3 k3
        go_wp2
        go_roundw
        case rel => exact ⟨i + 1, by omega, by go_num, S4.out⟩
        case measure => simp [RowKit.intOf]; omega
      | some b =>
        obtain ⟨p1, p2⟩ := parseB_some hp
        rw [p1, p2] at HPa
        have HB := Lib.hid (parse_some hp).1
        have hid := Bk.id64 HB.out
        clear hsn p1 p2 hpm
        go_wp2_with fail
        go_at_call 93
        refine HPa.out.mono ?_
        rintro e w2 ⟨rfl, k2⟩
        have S2 := Lib.hid (HS.out.below k2)
        clear k2 c0
        go_wp2_with fail
        have hba : Below w2.heap.size w2 (w2.alloc (.cells #[.int .i64 b.id, .int .i64 b.ver, .string b.data] 34)) := (Below.refl _ _).alloc (Nat.le_refl _) _
        have S3 := Lib.hid (S2.out.below hba)
        have A3 := Lib.hid (show AB (w2.alloc (.cells #[.int .i64 b.id, .int .i64 b.ver, .string b.data] 34)) w2.heap.size b from AB.fresh w2 b)
        clear hba
        generalize w2.alloc (.cells #[.int .i64 b.id, .int .i64 b.ver, .string b.data] 34) = w3 at S3 A3 ⊢
        go_at_call 95
        obtain ⟨F3, h3, k3⟩ := S3.out.go
        refine (isNew_any h3 b hid).mono ?_
        rintro e w4 ⟨rfl, k2⟩
        have S4 := Lib.hid (S3.out.below k2)
        have A4 := Lib.hid (A3.out.below k2)
        clear k2 h3 k3
        cases hnw : newer (scan (readB s) n i) b with
        | false =>
          obtain ⟨q1, q2⟩ := hso hp hnw
          have S5' := S4.out
          rw [← q1, ← q2] at S5'
          have S5 := Lib.hid S5'
          clear S5' q1 q2 hsw hso hp hnw
          go_wp2
          go_roundw
          case rel => exact ⟨i + 1, by omega, by go_num, S5.out⟩
          case measure => simp [RowKit.intOf]; omega
        | true =>
          obtain ⟨q1, q2⟩ := hsw hp hnw
          have Q1 := Lib.hid q1
          have Q2 := Lib.hid q2
          clear q1 q2 hsw hso hp hnw
          have hbd : Below w4.heap.size w4 w4.drew := (Below.refl _ _).drew
          have S5 := Lib.hid (S4.out.below hbd)
          have A5 := Lib.hid (A4.out.below hbd)
          obtain ⟨-, c1, -⟩ := S4.out.cells
          obtain ⟨d0, d1, d2⟩ := A4.out.all
          obtain ⟨w6, hrun, k1, k2⟩ := S5.out.tm.put HB.out hfr.out
          have S6' := S5.out.turned k2 k1
          rw [← Q1.out, ← Q2.out] at S6'
          have S6 := Lib.hid S6'
          clear k1 k2 hbd S6'
          go_wp2_with fail
          go_region
          all_goals
            go_wp2
            go_roundw
            case rel => exact ⟨i + 1, by omega, by go_num, S6.out⟩
            case measure => simp [RowKit.intOf]; omega
    · have hlI : ¬ ((i : Int) < (n : Int)) := by omega
      obtain rfl : i = n := by omega
      go_wp2
      go_returns
      exact OpenedAt.of (w.heap.size + 1) w.heap.size rfl (Goes.trans hGe.out (Keeps.of_below B1.out) HS.out)
end Go.Proofs.YtmmpknfkncgjpaaGreatDoor
