/-
  Open (package shelf), by a contract.

  Drop (package shelf), by a contract.
-/
import Derived.Test.YtmmpknfkncgjpaaGreatDoorM30
namespace Go.Proofs.YtmmpknfkncgjpaaGreatDoor
open Go.RowKit Go.PlainAid

theorem pfx_mrk (x : List UInt8) (h : x ≠ []) : pfx (str x) = true ↔ mrk x := by
  cases x with
  | nil => exact absurd rfl h
  | cons y l =>
    rw [mrk_cons]
    unfold pfx
    rw [decide_eq_true_eq, str_extract]
    constructor
    · intro e
      have := congrArg (fun s : ByteArray => s.data.toList) e
      simpa [str] using this
    · rintro rfl; rfl
theorem scan_none {f : Nat → List UInt8} {n k : Nat} (h : parse (str (f k)) = none) : scan f n (k + 1) = scan f n k ∧ odds f (k + 1) = if mrk (f k) then odds f k ++ [k] else odds f k := by
  refine ⟨by rw [scan, h], ?_⟩
  rw [odds, h]
  by_cases hm : mrk (f k)
  · rw [if_pos ⟨rfl, hm⟩, if_pos hm]
  · rw [if_neg (fun e => hm e.2), if_neg hm]
theorem scan_new {f : Nat → List UInt8} {n k : Nat} {b : Bk} (h : parse (str (f k)) = some b) (hn : newer (scan f n k) b = true) : scan f n (k + 1) = putL (scan f n k) k b ∧ odds f (k + 1) = odds f k := by
  refine ⟨by rw [scan, h]; simp [hn], ?_⟩
  rw [odds, h, if_neg (by simp)]
theorem scan_old {f : Nat → List UInt8} {n k : Nat} {b : Bk} (h : parse (str (f k)) = some b) (hn : newer (scan f n k) b = false) : scan f n (k + 1) = scan f n k ∧ odds f (k + 1) = odds f k := by
  refine ⟨by rw [scan, h]; simp [hn], ?_⟩
  rw [odds, h, if_neg (by simp)]
theorem scan_free {f : Nat → List UInt8} {n k : Nat} (hn : n ≤ 128) (hk : k < n) : Fre (scan f n k) k := by
  have hl : k < (scan f n k).length := by rw [scan_length]; omega
  unfold Fre
  rw [List.getElem?_eq_getElem hl]
  cases hx : (scan f n k)[k] with
  | none => rfl
  | some b =>
    have := ((scan_good hn k (by omega)).2.1 k b (by unfold At; rw [List.getElem?_eq_getElem hl, hx])).1
    omega
theorem odds_le (f : Nat → List UInt8) (k : Nat) : (odds f k).length ≤ k := by
  induction k with
  | zero => exact Nat.le_refl _
  | succ k ih => unfold odds; split; (simp; omega); omega
/-- A row that isn't theirs stays. -/
theorem Sg.row {F : Nat → Prop} {w w1 : World} {sb mb pb : Nat} {s : St} {L : Lay} {odd : List Nat} {lost : Bool} (h : Sg F w w1 sb mb pb s L odd lost) {g t n : Nat} {f : Nat → Value} (hr : w.rowIs g t n f) (hg : ¬ F g) : w1.rowIs g t n f := by
  obtain ⟨F1, h1, h2, h3⟩ := h
  exact h3.row hr hg
set_option maxRecDepth 100000 in
set_option maxHeartbeats 4000000 in
theorem open_dead {w : World} {pb : Nat} {s : St} {Fp : Nat → Prop} (h : PB w pb s Fp) (hg : s.gone = true) :
    Calls Tryz.prog 65 #[.pointer (some ⟨pb, 0, none⟩)] w fun e w' => e = .returned (.tuple #[.pointer none, .int .i64 70]) ∧ w = w' := by
  have HD := Lib.hid (dead_any pb s Fp w h)
  rw [hg] at HD
  go_enter Tryz.func65, Tryz.ntmps65
  go_wp2_with fail
  go_at_call 15
  refine HD.out.mono ?_
  rintro e w' ⟨rfl, rfl⟩
  go_wp2
  go_returns
  exact ⟨rfl, rfl⟩
/-- A new shelf's cells. -/
theorem SF.made {w : World} {pb n : Nat} {s : St} {Fp : Nat → Prop} (h : PB w pb s Fp) (hn : n ≤ 128) :
    SF ((w.alloc (.map #[] 0)).alloc (.cells #[.pointer (some ⟨pb, 0, none⟩), .map (some w.heap.size), .slice none 0 0, .bool false] 146)) (w.heap.size + 1) w.heap.size pb s (List.replicate n none) [] false
      (fun k => Fp k ∨ Ow (w.heap.size + 1) w.heap.size (.slice none 0 0) k) := by
  have hb1 : Below w.heap.size w (w.alloc (.map #[] 0)) := (Below.refl _ _).alloc (Nat.le_refl _) _
  have hb2 : Below (w.alloc (.map #[] 0)).heap.size (w.alloc (.map #[] 0)) ((w.alloc (.map #[] 0)).alloc (.cells #[.pointer (some ⟨pb, 0, none⟩), .map (some w.heap.size), .slice none 0 0, .bool false] 146)) := (Below.refl _ _).alloc (Nat.le_refl _) _
  have hl := h.lt
  refine ⟨Fp, .slice none 0 0, h.below (hb1.trans (hb2.mono hb1.size)), ⟨?_, (Tm.made w n hn).below hb2, World.ownsRow_nil _ _ _ _⟩, fun k hf ho => ?_, fun k => Iff.rfl⟩
  · have := World.rowIs_alloc (w.alloc (.map #[] 0)) #[.pointer (some ⟨pb, 0, none⟩), .map (some w.heap.size), .slice none 0 0, .bool false] 146 (sf pb w.heap.size (.slice none 0 0) false) (fun i hi => by
      rcases i with _ | _ | _ | _ | i
      · rfl
      · rfl
      · rfl
      · rfl
      · simp at hi; omega)
    simpa using this
  · have := hl k hf
    rcases ho with rfl | rfl | ho
    · omega
    · omega
    · simp [Value.ownBlock] at ho
/-- What Open answers and leaves, where there is power. -/
def OpenedAt (Fp : Nat → Prop) (w : World) (pb : Nat) (s : St) (n : Nat) (e : Ending) (w' : World) : Prop :=
  ∃ sb mb : Nat, e = .returned (.tuple #[.pointer (some ⟨sb, 0, none⟩), .int .i64 0]) ∧ Goes Fp w w' (SF w' sb mb pb s (scan (readB s) n n) (odds (readB s) n) false)
theorem OpenedAt.of {Fp : Nat → Prop} {w w' : World} {pb n : Nat} {s : St} {e : Ending} (sb mb : Nat) (he : e = .returned (.tuple #[.pointer (some ⟨sb, 0, none⟩), .int .i64 0])) (h : Goes Fp w w' (SF w' sb mb pb s (scan (readB s) n n) (odds (readB s) n) false)) : OpenedAt Fp w pb s n e w' := ⟨sb, mb, he, h⟩
set_option maxRecDepth 100000 in
set_option maxHeartbeats 4000000 in
theorem open_yes9 {w : World} {pb n : Nat} {s : St} {Fp : Nat → Prop} (h : PB w pb s Fp) (hG : Good s) (hgo : s.gone = false) (hn : s.is.length = n) (hT : Tab w) (hF : ¬ Fp 1) :
    Calls Tryz.prog 65 #[.pointer (some ⟨pb, 0, none⟩)] w fun e w' => OpenedAt Fp w pb s n e w' := by
  have hhi := hG.hi
  have HD := Lib.hid (dead_any pb s Fp w h)
  rw [hgo] at HD
  have hb0 : Below w.heap.size w ((w.alloc (.map #[] 0)).alloc (.cells #[.pointer (some ⟨pb, 0, none⟩), .map (some w.heap.size), .slice none 0 0, .bool false] 146)) := ((Below.refl _ _).alloc (Nat.le_refl _) _).alloc (by simp) _
  have HSF := Lib.hid (SF.made (n := n) h (by omega))
  have HP0 := Lib.hid (h.below hb0)
  have T0 := Lib.hid (hT.below hb0)
  have B0 := Lib.hid hb0
  have hG0 : ¬ (Fp 1 ∨ Ow (w.heap.size + 1) w.heap.size (.slice none 0 0) 1) := fun e => by
    have hh : (1 : Nat) < w.heap.size := World.block_lt_of_cell? w _ (hT 0 (by decide))
    rcases e with e | e | e | e
    · exact hF e
    · omega
    · omega
    · simp [Value.ownBlock] at e
  have HG0 := Lib.hid hG0
  have HGd := Lib.hid hG
  have hmm := @run_makeMap Tryz.prog
  clear h hT hF hb0 hG0
  go_enter Tryz.func65, Tryz.ntmps65
  go_wp2_with fail
  go_at_call 15
  refine HD.out.mono ?_
  rintro e w' ⟨rfl, rfl⟩
  go_wp2_with fail
  generalize hW : ((w.alloc (.map #[] 0)).alloc (.cells #[.pointer (some ⟨pb, 0, none⟩), .map (some w.heap.size), .slice none 0 0, .bool false] 146)) = w0 at HSF HP0 T0 B0 ⊢
  have hz0 := HSF.out.lt
  go_at_call 92
  refine (sectors_any pb n s Fp w0 HP0.out hG hgo hn).mono ?_
  rintro e w1 ⟨g, rfl, hg, hr, k2⟩
  have S1 := Lib.hid (HSF.out.below k2)
  have T1 := Lib.hid (T0.out.below k2)
  have B1 := Lib.hid (B0.out.trans (k2.mono B0.out.size))
  have R1 := Lib.hid hr
  have HGn := Lib.hid (fun (e : Fp g ∨ Ow (w.heap.size + 1) w.heap.size (.slice none 0 0) g) => Nat.lt_irrefl _ (Nat.lt_of_lt_of_le (hz0 g e) hg))
  have hn128 : n ≤ 128 := by omega
  clear k2 hr hz0 hg HSF HP0 T0 B0 HD hmm hW
  go_wp2
  obtain ⟨G, hG'⟩ : ∃ G : Nat → Prop, (fun k => Fp k ∨ Ow (w.heap.size + 1) w.heap.size (.slice none 0 0) k) = G := ⟨_, rfl⟩
  have hGe := Lib.hid (show ∀ k, G k → Fp k ∨ w.heap.size ≤ k from fun k hk => by
    rw [← hG'] at hk
    rcases hk with hk | hk | hk | hk
    · exact .inl hk
    · right; omega
    · right; omega
    · simp [Value.ownBlock] at hk)
  rw [hG'] at S1
  replace HGn := Lib.hid (show ¬ G g from by rw [← hG']; exact HGn.out)
  replace HG0 := Lib.hid (show ¬ G 1 from by rw [← hG']; exact HG0.out)
  clear hG'
  go_loopw [18] (fun iv wr => ∃ i : Nat, i ≤ n ∧ iv = .int .i64 i ∧ Sg G w1 wr (w.heap.size + 1) w.heap.size pb s (scan (readB s) n i) (odds (readB s) i) false) (fun iv _ => n - (RowKit.intOf iv).toNat)
  case atStart => exact ⟨0, Nat.zero_le _, rfl, Sg.start S1.out⟩
  case round =>
    obtain ⟨i, hi, rfl, hS⟩ := hrel
    have HS := Lib.hid hS
    clear hS
    by_cases hlt : i < n
    · have hlI : (i : Int) < (n : Int) := by omega
      have hiI : (0 : Int) ≤ (i : Int) := by omega
      have hrow := HS.out.row R1.out HGn.out
      have c0 := hrow.cell hlt
      rw [show secF s n i = .string (str (readB s i)) from if_pos hlt] at c0
      have hsz : (readB s i).length = 32 := readB_length HGd.out (by rw [hn]; exact hlt)
      have hts : (str (readB s i)).size ≤ 100000 := by rw [str_size]; omega
      have hpm := pfx_mrk (readB s i) (fun e => by rw [e] at hsz; simp at hsz)
      have hTr := HS.out.tab T1.out HG0.out
      have HPa := Lib.hid (parse_any (str (readB s i)) wr hTr hts)
      have hsn := @scan_none (readB s) n i
      have hsw := @scan_new (readB s) n i
      have hso := @scan_old (readB s) n i
      have hfr := Lib.hid (scan_free (f := readB s) hn128 hlt)
      have hol := odds_le (readB s) i
      clear hrow hsz hts hTr
      generalize readB s i = tx at c0 hpm HPa hsn hsw hso
      obtain ⟨t, ht⟩ : ∃ t, str tx = t := ⟨_, rfl⟩
      rw [ht] at c0 hpm HPa hsn hsw hso
      clear ht
      cases hp : parse t with
      | none =>
        obtain ⟨q1, q2⟩ := hsn hp
        obtain ⟨p1, p2⟩ := parseB_none hp
        rw [p1, p2] at HPa
        have Q1 := Lib.hid q1
        have Q2 := Lib.hid (show odds (readB s) (i + 1) = if pfx t then odds (readB s) i ++ [i] else odds (readB s) i from by
          rw [q2]
          by_cases hm : pfx t = true
          · rw [if_pos hm, if_pos (hpm.1 hm)]
          · rw [if_neg hm, if_neg (fun e => hm (hpm.2 e))])
        clear hsn hsw hso p1 p2 q1 q2 hpm hp hfr
        go_wp2_with fail
        go_at_call 93
        refine HPa.out.mono ?_
        rintro e w2 ⟨rfl, k2⟩
        have S2 := Lib.hid (HS.out.below k2)
        clear k2 c0
        go_wp2_with fail
        have hba : Below w2.heap.size w2 (w2.alloc (.cells #[.int .i64 Bk.zero.id, .int .i64 Bk.zero.ver, .string Bk.zero.data] 34)) := (Below.refl _ _).alloc (Nat.le_refl _) _
        have S3 := Lib.hid (S2.out.below hba)
        clear hba
        generalize w2.alloc (.cells #[.int .i64 Bk.zero.id, .int .i64 Bk.zero.ver, .string Bk.zero.data] 34) = w3 at S3 ⊢
        go_at_call 94
        obtain ⟨F3, h3, k3⟩ := S3.out.go
        refine (note_any h3 i t (by omega)).mono ?_
        rintro e w4 ⟨rfl, k2⟩
        have S4' := k3 _ _ _ _ _ k2
        rw [← Q1.out, ← Q2.out] at S4'
        have S4 := Lib.hid S4'
        clear k2 S4' h3 k3
        go_wp2
        go_roundw
        case rel => exact ⟨i + 1, by omega, by go_num, S4.out⟩
        case measure => simp [RowKit.intOf]; omega
      | some b =>
        obtain ⟨p1, p2⟩ := parseB_some hp
        rw [p1, p2] at HPa
        have HB := Lib.hid (parse_some hp).1
        have hid := Bk.id64 HB.out
        clear hsn p1 p2 hpm
        go_wp2_with fail
        go_at_call 93
        refine HPa.out.mono ?_
        rintro e w2 ⟨rfl, k2⟩
        have S2 := Lib.hid (HS.out.below k2)
        clear k2 c0
        go_wp2_with fail
        have hba : Below w2.heap.size w2 (w2.alloc (.cells #[.int .i64 b.id, .int .i64 b.ver, .string b.data] 34)) := (Below.refl _ _).alloc (Nat.le_refl _) _
        have S3 := Lib.hid (S2.out.below hba)
        have A3 := Lib.hid (show AB (w2.alloc (.cells #[.int .i64 b.id, .int .i64 b.ver, .string b.data] 34)) w2.heap.size b from AB.fresh w2 b)
        clear hba
        generalize w2.alloc (.cells #[.int .i64 b.id, .int .i64 b.ver, .string b.data] 34) = w3 at S3 A3 ⊢
        go_at_call 95
        obtain ⟨F3, h3, k3⟩ := S3.out.go
        refine (isNew_any h3 b hid).mono ?_
        rintro e w4 ⟨rfl, k2⟩
        have S4 := Lib.hid (S3.out.below k2)
        have A4 := Lib.hid (A3.out.below k2)
        clear k2 h3 k3
        cases hnw : newer (scan (readB s) n i) b with
        | false =>
          obtain ⟨q1, q2⟩ := hso hp hnw
          have S5' := S4.out
          rw [← q1, ← q2] at S5'
          have S5 := Lib.hid S5'
          clear S5' q1 q2 hsw hso hp hnw
          go_wp2
          go_roundw
          case rel => exact ⟨i + 1, by omega, by go_num, S5.out⟩
          case measure => simp [RowKit.intOf]; omega
        | true =>
          obtain ⟨q1, q2⟩ := hsw hp hnw
          have Q1 := Lib.hid q1
          have Q2 := Lib.hid q2
          clear q1 q2 hsw hso hp hnw
          have hbd : Below w4.heap.size w4 w4.drew := (Below.refl _ _).drew
          have S5 := Lib.hid (S4.out.below hbd)
          have A5 := Lib.hid (A4.out.below hbd)
          obtain ⟨-, c1, -⟩ := S4.out.cells
          obtain ⟨d0, d1, d2⟩ := A4.out.all
          obtain ⟨w6, hrun, k1, k2⟩ := S5.out.tm.put HB.out hfr.out
          have S6' := S5.out.turned k2 k1
          rw [← Q1.out, ← Q2.out] at S6'
          have S6 := Lib.hid S6'
          clear k1 k2 hbd S6'
          go_wp2_with fail
          go_region
          all_goals
            go_wp2
            go_roundw
            case rel => exact ⟨i + 1, by omega, by go_num, S6.out⟩
            case measure => simp [RowKit.intOf]; omega
    · have hlI : ¬ ((i : Int) < (n : Int)) := by omega
      obtain rfl : i = n := by omega
      go_wp2
      go_returns
      exact OpenedAt.of (w.heap.size + 1) w.heap.size rfl (Goes.trans hGe.out (Keeps.of_below B1.out) HS.out)
end Go.Proofs.YtmmpknfkncgjpaaGreatDoor

namespace Go.Proofs.YtmmpknfkncgjpaaGreatDoor
open Go.RowKit Go.PlainAid

section
variable {T : Nat → List UInt8} {id : Int} {s : St} {k : Nat}
theorem dk_none (h : parse (str (T k)) = none) : dk T id s (k + 1) = dk T id s k := by
  rw [dk]; split
  · rfl
  · rw [h]
theorem dk_other {b : Bk} (h : parse (str (T k)) = some b) (hb : b.id ≠ id) : dk T id s (k + 1) = dk T id s k := by
  rw [dk]; split
  · rfl
  · rw [h]; exact if_neg hb
theorem dk_hit {b : Bk} (h0 : (dk T id s k).1 = 0) (h : parse (str (T k)) = some b) (hb : b.id = id) : dk T id s (k + 1) = (writeE (dk T id s k).2.1 k (unm (T k)), writeS (dk T id s k).2.1 k (unm (T k)), true) := by
  rw [dk, if_neg (by omega), h]; exact if_pos hb
theorem dk_stop (h : (dk T id s k).1 ≠ 0) : ∀ m, dk T id s (k + m) = dk T id s k
  | 0 => rfl
  | m + 1 => by
    have ih := dk_stop h m
    rw [show k + (m + 1) = (k + m) + 1 by omega, dk, if_pos (by rw [ih]; exact h), ih]
end
theorem unm_app (x : List UInt8) : (⟨#[0]⟩ : ByteArray) ++ (str x).extract 1 (str x).size = unm x := by
  apply ByteArray.ext
  apply Array.toList_inj.1
  unfold unm
  have h1 : (str x).data.toList = x := str_toList x
  have h2 : (str (0 :: x.drop 1)).data.toList = 0 :: x.drop 1 := str_toList _
  rw [h2]
  simp only [ByteArray.data_append, ByteArray.data_extract, Array.toList_append, Array.toList_extract]
  rw [h1, str_size, List.extract_eq_take_drop, List.take_of_length_le (by simp)]
  rfl
theorem drop_hit {s : St} {id : Int} {n : Nat} (hg : s.gone = false) (hn : s.is.length = n) {k : Nat} (hk : k ≤ n) (he : (dk (readB s) id s k).1 ≠ 0) : dropE s id = (dk (readB s) id s k).1 ∧ dropS s id = (dk (readB s) id s k).2.1 := by
  have h1 : dk (readB s) id s n = dk (readB s) id s k := by
    have := dk_stop he (n - k)
    rwa [show k + (n - k) = n by omega] at this
  unfold dropE dropS
  rw [hg, hn, h1]
  simp only [Bool.false_eq_true, if_false, if_pos he]
  exact ⟨trivial, trivial⟩
theorem drop_none {s : St} {id : Int} {n : Nat} (hg : s.gone = false) (hn : s.is.length = n) (he : (dk (readB s) id s n).1 = 0) (hf : (dk (readB s) id s n).2.2 = false) : dropE s id = 3 ∧ dropS s id = (dk (readB s) id s n).2.1 := by
  unfold dropE dropS
  rw [hg, hn]
  simp only [Bool.false_eq_true, if_false, he, ne_eq, not_true_eq_false, hf, if_true]
  exact ⟨trivial, trivial⟩
theorem drop_some {s : St} {id : Int} {n : Nat} (hg : s.gone = false) (hn : s.is.length = n) (he : (dk (readB s) id s n).1 = 0) (hf : (dk (readB s) id s n).2.2 = true) : dropE s id = syncE (dk (readB s) id s n).2.1 ∧ dropS s id = syncS (dk (readB s) id s n).2.1 := by
  unfold dropE dropS
  rw [hg, hn]
  simp only [Bool.false_eq_true, if_false, he, ne_eq, not_true_eq_false, hf]
  exact ⟨rfl, rfl⟩
set_option maxRecDepth 100000 in
set_option maxHeartbeats 8000000 in
theorem sdrop_any {F : Nat → Prop} {w : World} {sb mb pb : Nat} {s : St} {L : Lay} {odd : List Nat} {lost : Bool} {n c : Nat} (h : SF w sb mb pb s L odd lost F) (hT : Tab w) (hF : ¬ F 1) (hR : Rest s n c) (hc : c ≤ 900000) (hlost : lost = true → s.gone = true) {id : Int} (hid : i64 id) :
    Calls Tryz.prog 74 #[.pointer (some ⟨sb, 0, none⟩), .int .i64 id] w fun e w' => e = .returned (.int .i64 (dropE s id)) ∧ Sg F w w' sb mb pb (dropS s id) (dropY L s id) odd lost := by
  have HD := Lib.hid (sdead_any h hlost)
  obtain ⟨c0, c1, -⟩ := h.cells
  have HS0 := Lib.hid h
  have HF := Lib.hid hF
  cases hg : s.gone
  case true =>
    have e1 : dropE s id = 70 := by unfold dropE; rw [hg]; rfl
    have e2 : dropS s id = s := by unfold dropS; rw [hg]; rfl
    have e3 : dropY L s id = L := by unfold dropY; rw [e1]; rfl
    rw [hg] at HD
    rw [e1, e2, e3]
    clear e1 e2 e3 hg hF h
    go_enter Tryz.func74, Tryz.ntmps74
    go_wp2_with fail
    go_at_call 108
    refine HD.out.mono ?_
    rintro e w' ⟨rfl, rfl⟩
    go_wp2
    go_ret
    exact ⟨rfl, Sg.start HS0.out⟩
  case false =>
  rw [hg] at HD
  obtain ⟨Fp, hP, -⟩ := h.pl
  have hn := hR.len
  have hhi := hR.good.hi
  have HSec := Lib.hid (sectors_any pb n s Fp w hP hR.good hg hn)
  have HT := Lib.hid hT
  have HR := Lib.hid hR
  have HDk := Lib.hid (fun k (hk : k ≤ n) => hR.dk hg id k hk)
  have HHit := Lib.hid (fun k (hk : k ≤ n) => drop_hit (id := id) hg hn hk)
  have HNone := Lib.hid (drop_none (id := id) hg hn)
  have HSome := Lib.hid (drop_some (id := id) hg hn)
  have hn128 : n ≤ 128 := by omega
  have HG := Lib.hid hR.good
  obtain ⟨dE, hdE⟩ : ∃ x, dropE s id = x := ⟨_, rfl⟩
  obtain ⟨dS, hdS⟩ : ∃ x, dropS s id = x := ⟨_, rfl⟩
  obtain ⟨dY, hdY⟩ : ∃ x, dropY L s id = x := ⟨_, rfl⟩
  have hY0 : dropE s id ≠ 0 → dropY L s id = L := fun e => if_pos e
  have hY1 : dropE s id = 0 → dropY L s id = woL L id := fun e => if_neg (by omega)
  rw [hdE, hdY] at hY0 hY1
  rw [hdE, hdS] at HHit HNone HSome
  rw [hdE, hdS, hdY]
  have HY0 := Lib.hid hY0
  have HY1 := Lib.hid hY1
  have HLen := Lib.hid hn
  clear hdE hdS hdY hY0 hY1 hP h hR hF hT hg hn hhi
  go_enter Tryz.func74, Tryz.ntmps74
  go_wp2_with fail
  go_at_call 108
  refine HD.out.mono ?_
  rintro e w' ⟨rfl, rfl⟩
  go_wp2_with fail
  go_at_call 92
  refine HSec.out.mono ?_
  rintro e w1 ⟨g, rfl, hg1, hr, k2⟩
  have S1 := Lib.hid (HS0.out.below k2)
  have T1 := Lib.hid (HT.out.below k2)
  have B1 := Lib.hid k2
  have R1 := Lib.hid hr
  have HGn := Lib.hid (show ¬ F g from fun e => by have := HS0.out.lt g e; omega)
  clear k2 hr hg1 HSec HD HS0 HT c0 c1
  go_wp2
  go_loopw [5, 20] (fun fv iv wr => ∃ i : Nat, i ≤ n ∧ iv = .int .i64 i ∧ fv = .bool (dk (readB s) id s i).2.2 ∧ (dk (readB s) id s i).1 = 0 ∧ Sg F w1 wr sb mb pb (dk (readB s) id s i).2.1 L odd lost) (fun _ iv _ => n - (RowKit.intOf iv).toNat)
  case atStart => exact ⟨0, Nat.zero_le _, rfl, rfl, rfl, Sg.start S1.out⟩
  case round =>
    obtain ⟨i, hi, rfl, rfl, hz, hS⟩ := hrel
    have HS := Lib.hid hS
    have HDi := Lib.hid (HDk.out i hi)
    clear hS
    by_cases hlt : i < n
    · have hlI : (i : Int) < (n : Int) := by omega
      have hiI : (0 : Int) ≤ (i : Int) := by omega
      have hrow := HS.out.row R1.out HGn.out
      have c0 := hrow.cell hlt
      rw [show secF s n i = .string (str (readB s i)) from if_pos hlt] at c0
      have hsz : (readB s i).length = 32 := readB_length HG.out (by rw [HLen.out]; exact hlt)
      have hts : (str (readB s i)).size = 32 := by rw [str_size]; exact hsz
      have hTr := HS.out.tab T1.out HF.out
      have HPa := Lib.hid (parse_any (str (readB s i)) wr hTr (by omega))
      have hsn := @dk_none (readB s) id s i
      have hso := @dk_other (readB s) id s i
      have hsh := @dk_hit (readB s) id s i
      have HHi := Lib.hid (HHit.out (i + 1) (by omega))
      have HUm := Lib.hid (unm_app (readB s i))
      have HUs := Lib.hid (unm_size hsz)
      clear hrow hsz hTr
      generalize readB s i = tx at c0 hts HPa hsn hso hsh HUm HUs
      obtain ⟨t, ht⟩ : ∃ t, str tx = t := ⟨_, rfl⟩
      rw [ht] at c0 hts HPa hsn hso hsh HUm
      clear ht
      generalize hr : dk (readB s) id s i = r at hz HS HDi hsn hso hsh
      generalize hr1 : dk (readB s) id s (i + 1) = r1 at hsn hso hsh HHi
      have HR1 := Lib.hid hr1
      clear hr hr1
      cases hp : parse t with
      | none =>
        obtain ⟨p1, p2⟩ := parseB_none hp
        rw [p1, p2] at HPa
        obtain rfl : r1 = r := hsn hp
        clear hsn hso hsh p1 p2 hp HHi HUm HUs
        go_wp2_with fail
        go_at_call 93
        refine HPa.out.mono ?_
        rintro e w2 ⟨rfl, k2⟩
        have S2 := Lib.hid (HS.out.below k2)
        clear k2 c0
        go_wp2_with fail
        have hba : Below w2.heap.size w2 (w2.alloc (.cells #[.int .i64 Bk.zero.id, .int .i64 Bk.zero.ver, .string Bk.zero.data] 34)) := (Below.refl _ _).alloc (Nat.le_refl _) _
        have S3 := Lib.hid (S2.out.below hba)
        have A3 := Lib.hid (show AB (w2.alloc (.cells #[.int .i64 Bk.zero.id, .int .i64 Bk.zero.ver, .string Bk.zero.data] 34)) w2.heap.size Bk.zero from AB.fresh w2 Bk.zero)
        clear hba
        generalize w2.alloc (.cells #[.int .i64 Bk.zero.id, .int .i64 Bk.zero.ver, .string Bk.zero.data] 34) = w3 at S3 A3 ⊢
        obtain ⟨d0, d1, d2⟩ := A3.out.all
        go_wp2
        go_roundw
        case rel => exact ⟨i + 1, by omega, by go_num, by rw [HR1.out], by rw [HR1.out]; exact hz, by rw [HR1.out]; exact S3.out⟩
        case measure => simp [RowKit.intOf]; omega
      | some b =>
        obtain ⟨p1, p2⟩ := parseB_some hp
        rw [p1, p2] at HPa
        by_cases hid : b.id = id
        · have h1 := hsh hz hp hid
          have HEq := Lib.hid h1
          obtain ⟨wE, hwE⟩ : ∃ x, writeE r.2.1 (i : Int) (unm tx) = x := ⟨_, rfl⟩
          rw [hwE] at h1
          have HWE := Lib.hid hwE
          have HR11 := Lib.hid (show r1.1 = wE from by rw [h1])
          have HR12 := Lib.hid (show r1.2.1 = writeS r.2.1 (i : Int) (unm tx) from by rw [h1])
          have HR13 := Lib.hid (show r1.2.2 = true from by rw [h1])
          have hne : (b.id != id) = false := by simp [hid]
          have hst : t.size = 32 := hts
          have hsl : t.extract 1 t.size = t.extract 1 32 := by rw [hst]
          have HSl := Lib.hid (show (⟨#[0]⟩ : ByteArray) ++ t.extract 1 32 = unm tx from by rw [← hsl]; exact HUm.out)
          have HSz := Lib.hid (show ((⟨#[0]⟩ : ByteArray) ++ t.extract 1 32).size ≤ 9223372036854775807 from by rw [HSl.out, HUs.out]; decide)
          have HFew := Lib.hid (show r.2.1.n ≤ 1000000 ∧ r.2.1.wait.length ≤ 900 from ⟨by have := HDi.out.few; omega, by have := HDi.out.wt; omega⟩)
          clear hsn hso hsh p1 p2 hp hid h1 hwE HUm HEq hst hsl
          go_wp2_with fail
          go_at_call 93
          refine HPa.out.mono ?_
          rintro e w2 ⟨rfl, k2⟩
          have S2 := Lib.hid (HS.out.below k2)
          clear k2 c0
          go_wp2_with fail
          have hba : Below w2.heap.size w2 (w2.alloc (.cells #[.int .i64 b.id, .int .i64 b.ver, .string b.data] 34)) := (Below.refl _ _).alloc (Nat.le_refl _) _
          have S3 := Lib.hid (S2.out.below hba)
          have A3 := Lib.hid (show AB (w2.alloc (.cells #[.int .i64 b.id, .int .i64 b.ver, .string b.data] 34)) w2.heap.size b from AB.fresh w2 b)
          clear hba
          generalize w2.alloc (.cells #[.int .i64 b.id, .int .i64 b.ver, .string b.data] 34) = w3 at S3 A3 ⊢
          obtain ⟨d0, d1, d2⟩ := A3.out.all
          obtain ⟨c3, -, -⟩ := S3.out.cells
          have hb3 : Below w3.heap.size w3 w3.drew := (Below.refl _ _).drew
          have S4 := Lib.hid (S3.out.below hb3)
          have hts1 : (1 : Int) ≤ (t.size : Int) := by omega
          have C3 := Lib.hid c3
          have C4 := Lib.hid (S4.out.cells.1)
          clear hb3
          go_wp2_with fail
          go_region_held3 (fun w' => w'.cell? ⟨sb, 0, none⟩ = some (.pointer (some ⟨pb, 0, none⟩)))
            (first | exact C4.out | exact C3.out | exact S5.out.cells.1 | fail)
            (first
              | (go_at_call 109; with_reducible refine (sg_write S4.out HDi.out.good HFew.out.2 HFew.out.1 (i : Int) _ HSz.out).mono ?_; rintro e w5 ⟨rfl, k2⟩; rw [HSl.out] at k2; rw [HSl.out, HWE.out]; have S5 := Lib.hid k2; clear k2)
              | fail)
          by_cases hw0 : wE = 0
          · subst hw0
            have S6 := Lib.hid (show Sg F w1 w5 sb mb pb r1.2.1 L odd lost from by rw [HR12.out]; exact S5.out)
            clear S5 HWE HSz HSl HHi
            go_wp2
            go_roundw
            case rel => exact ⟨i + 1, by omega, by go_num, by rw [HR1.out, HR13.out], by rw [HR1.out]; exact HR11.out, by rw [HR1.out]; exact S6.out⟩
            case measure => simp [RowKit.intOf]; omega
          · obtain ⟨e1, e2⟩ := HHi.out (by rw [HR11.out]; exact hw0)
            have hd1 : dE = wE := e1.trans HR11.out
            have hd2 : dS = writeS r.2.1 (i : Int) (unm tx) := e2.trans HR12.out
            have hd3 : dY = L := HY0.out (by rw [hd1]; exact hw0)
            subst hd1 hd2 hd3
            have hz0 : (dE == 0) = false := by simpa using hw0
            have S6 := Lib.hid (Sg.ahead B1.out S5.out)
            clear S5 HWE HSz HSl HHi e1 e2 hw0
            go_wp2
            go_ret
            exact ⟨rfl, S6.out⟩
        · obtain rfl : r1 = r := hso hp hid
          have hne : (b.id != id) = true := by simp [hid]
          clear hsn hso hsh p1 p2 hp hid HHi HUm HUs
          go_wp2_with fail
          go_at_call 93
          refine HPa.out.mono ?_
          rintro e w2 ⟨rfl, k2⟩
          have S2 := Lib.hid (HS.out.below k2)
          clear k2 c0
          go_wp2_with fail
          have hba : Below w2.heap.size w2 (w2.alloc (.cells #[.int .i64 b.id, .int .i64 b.ver, .string b.data] 34)) := (Below.refl _ _).alloc (Nat.le_refl _) _
          have S3 := Lib.hid (S2.out.below hba)
          have A3 := Lib.hid (show AB (w2.alloc (.cells #[.int .i64 b.id, .int .i64 b.ver, .string b.data] 34)) w2.heap.size b from AB.fresh w2 b)
          clear hba
          generalize w2.alloc (.cells #[.int .i64 b.id, .int .i64 b.ver, .string b.data] 34) = w3 at S3 A3 ⊢
          obtain ⟨d0, d1, d2⟩ := A3.out.all
          go_wp2
          go_roundw
          case rel => exact ⟨i + 1, by omega, by go_num, by rw [HR1.out], by rw [HR1.out]; exact hz, by rw [HR1.out]; exact S3.out⟩
          case measure => simp [RowKit.intOf]; omega
    · have hlI : ¬ ((i : Int) < (n : Int)) := by omega
      obtain rfl : i = n := by omega
      have hno := HNone.out hz
      have hso := HSome.out hz
      have HFew := Lib.hid (show (dk (readB s) id s i).2.1.n ≤ 1000000 ∧ (dk (readB s) id s i).2.1.wait.length ≤ 1000 from ⟨by have := HDi.out.few; omega, by have := HDi.out.wt; omega⟩)
      have hlive := HDi.out.live hz
      generalize dk (readB s) id s i = r at hno hso HFew hlive hz HS HDi ⊢
      cases hf : r.2.2
      case false =>
        obtain ⟨rfl, rfl⟩ := hno hf
        obtain rfl : dY = L := HY0.out (by decide)
        have S6 := Lib.hid (Sg.ahead B1.out HS.out)
        clear hno hso hf
        go_wp2
        go_ret
        exact ⟨rfl, S6.out⟩
      case true =>
        obtain ⟨e1, e2⟩ := hso hf
        obtain ⟨c0, c1, -⟩ := HS.out.cells
        have HSy := Lib.hid (sg_sync HS.out HDi.out.good HFew.out.2 HFew.out.1)
        rw [← e1, ← e2] at HSy
        clear hno hso hf e1 e2
        go_wp2_with fail
        go_at_call 110
        refine HSy.out.mono ?_
        rintro e w3 ⟨rfl, k2⟩
        have S3 := Lib.hid (Sg.ahead B1.out k2)
        clear k2 c0 c1
        by_cases hd0 : dE = 0
        · obtain rfl : dY = woL L id := HY1.out hd0
          obtain ⟨c0, c1, -⟩ := S3.out.cells
          obtain ⟨w4, hrun, k1, k2⟩ := S3.out.tm.del hid 0
          have S4 := Lib.hid (S3.out.turned k2 k1)
          subst hd0
          clear k1 k2
          go_wp2
          go_ret
          exact ⟨rfl, S4.out⟩
        · obtain rfl : dY = L := HY0.out hd0
          have hz0 : (dE == 0) = false := by simpa using hd0
          clear hd0
          go_wp2
          go_ret
          exact ⟨rfl, S3.out⟩
end Go.Proofs.YtmmpknfkncgjpaaGreatDoor
