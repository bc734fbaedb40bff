/-
  Open (package shelf), by a contract.
-/
import Derived.Test.YtacdbfaoeioflaaGreatDoorNote
namespace Go.Proofs.YtacdbfaoeioflaaGreatDoor
open Go.RowKit Go.PlainAid

theorem pfx_mrk (x : List UInt8) (h : x ≠ []) : pfx (str x) = true ↔ mrk x := by
  cases x with
  | nil => exact absurd rfl h
  | cons y l =>
    rw [mrk_cons]
    unfold pfx
    rw [decide_eq_true_eq, str_extract]
    constructor
    · intro e
      have := congrArg (fun s : ByteArray => s.data.toList) e
      simpa [str] using this
    · rintro rfl; rfl
theorem scan_none {f : Nat → List UInt8} {n k : Nat} (h : parse (str (f k)) = none) : scan f n (k + 1) = scan f n k ∧ odds f (k + 1) = if mrk (f k) then odds f k ++ [k] else odds f k := by
  refine ⟨by rw [scan, h], ?_⟩
  rw [odds, h]
  by_cases hm : mrk (f k)
  · rw [if_pos ⟨rfl, hm⟩, if_pos hm]
  · rw [if_neg (fun e => hm e.2), if_neg hm]
theorem scan_new {f : Nat → List UInt8} {n k : Nat} {b : Bk} (h : parse (str (f k)) = some b) (hn : newer (scan f n k) b = true) : scan f n (k + 1) = putL (scan f n k) k b ∧ odds f (k + 1) = odds f k := by
  refine ⟨by rw [scan, h]; simp [hn], ?_⟩
  rw [odds, h, if_neg (by simp)]
theorem scan_old {f : Nat → List UInt8} {n k : Nat} {b : Bk} (h : parse (str (f k)) = some b) (hn : newer (scan f n k) b = false) : scan f n (k + 1) = scan f n k ∧ odds f (k + 1) = odds f k := by
  refine ⟨by rw [scan, h]; simp [hn], ?_⟩
  rw [odds, h, if_neg (by simp)]
theorem scan_free {f : Nat → List UInt8} {n k : Nat} (hn : n ≤ 128) (hk : k < n) : Fre (scan f n k) k := by
  have hl : k < (scan f n k).length := by rw [scan_length]; omega
  unfold Fre
  rw [List.getElem?_eq_getElem hl]
  cases hx : (scan f n k)[k] with
  | none => rfl
  | some b =>
    have := ((scan_good hn k (by omega)).2.1 k b (by unfold At; rw [List.getElem?_eq_getElem hl, hx])).1
    omega
theorem odds_le (f : Nat → List UInt8) (k : Nat) : (odds f k).length ≤ k := by
  induction k with
  | zero => exact Nat.le_refl _
  | succ k ih => unfold odds; split; (simp; omega); omega
/-- A row that isn't theirs stays. -/
theorem Sg.row {F : Nat → Prop} {w w1 : World} {sb mb pb : Nat} {s : St} {L : Lay} {odd : List Nat} {lost : Bool} (h : Sg F w w1 sb mb pb s L odd lost) {g t n : Nat} {f : Nat → Value} (hr : w.rowIs g t n f) (hg : ¬ F g) : w1.rowIs g t n f := by
  obtain ⟨F1, h1, h2, h3⟩ := h
  exact h3.row hr hg
set_option maxRecDepth 100000 in
set_option maxHeartbeats 4000000 in
theorem open_dead {w : World} {pb : Nat} {s : St} {Fp : Nat → Prop} (h : PB w pb s Fp) (hg : s.gone = true) :
    Calls Tryz.prog 11 #[.pointer (some ⟨pb, 0, none⟩)] w fun e w' => e = .returned (.tuple #[.pointer none, .int .i64 70]) ∧ w = w' := by
  have HD := Lib.hid (dead_any pb s Fp w h)
  rw [hg] at HD
  go_enter Tryz.func11, Tryz.ntmps11
  go_wp2_with fail
  go_at_call 39
  refine HD.out.mono ?_
  rintro e w' ⟨rfl, rfl⟩
  go_wp2
  go_returns
  exact ⟨rfl, rfl⟩
/-- A new shelf's cells. -/
theorem SF.made {w : World} {pb n : Nat} {s : St} {Fp : Nat → Prop} (h : PB w pb s Fp) (hn : n ≤ 128) :
    SF ((w.alloc (.map #[] 0)).alloc (.cells #[.pointer (some ⟨pb, 0, none⟩), .map (some w.heap.size), .slice none 0 0, .bool false] 79)) (w.heap.size + 1) w.heap.size pb s (List.replicate n none) [] false
      (fun k => Fp k ∨ Ow (w.heap.size + 1) w.heap.size (.slice none 0 0) k) := by
  have hb1 : Below w.heap.size w (w.alloc (.map #[] 0)) := (Below.refl _ _).alloc (Nat.le_refl _) _
  have hb2 : Below (w.alloc (.map #[] 0)).heap.size (w.alloc (.map #[] 0)) ((w.alloc (.map #[] 0)).alloc (.cells #[.pointer (some ⟨pb, 0, none⟩), .map (some w.heap.size), .slice none 0 0, .bool false] 79)) := (Below.refl _ _).alloc (Nat.le_refl _) _
  have hl := h.lt
  refine ⟨Fp, .slice none 0 0, h.below (hb1.trans (hb2.mono hb1.size)), ⟨?_, (Tm.made w n hn).below hb2, World.ownsRow_nil _ _ _ _⟩, fun k hf ho => ?_, fun k => Iff.rfl⟩
  · have := World.rowIs_alloc (w.alloc (.map #[] 0)) #[.pointer (some ⟨pb, 0, none⟩), .map (some w.heap.size), .slice none 0 0, .bool false] 79 (sf pb w.heap.size (.slice none 0 0) false) (fun i hi => by
      rcases i with _ | _ | _ | _ | i
      · rfl
      · rfl
      · rfl
      · rfl
      · simp at hi; omega)
    simpa using this
  · have := hl k hf
    rcases ho with rfl | rfl | ho
    · omega
    · omega
    · simp [Value.ownBlock] at ho
/-- What Open answers and leaves, where there is power. -/
def OpenedAt (Fp : Nat → Prop) (w : World) (pb : Nat) (s : St) (n : Nat) (e : Ending) (w' : World) : Prop :=
  ∃ sb mb : Nat, e = .returned (.tuple #[.pointer (some ⟨sb, 0, none⟩), .int .i64 0]) ∧ Goes Fp w w' (SF w' sb mb pb s (scan (readB s) n n) (odds (readB s) n) false)
theorem OpenedAt.of {Fp : Nat → Prop} {w w' : World} {pb n : Nat} {s : St} {e : Ending} (sb mb : Nat) (he : e = .returned (.tuple #[.pointer (some ⟨sb, 0, none⟩), .int .i64 0])) (h : Goes Fp w w' (SF w' sb mb pb s (scan (readB s) n n) (odds (readB s) n) false)) : OpenedAt Fp w pb s n e w' := ⟨sb, mb, he, h⟩
set_option maxRecDepth 100000 in
set_option maxHeartbeats 4000000 in
theorem open_yes9 {w : World} {pb n : Nat} {s : St} {Fp : Nat → Prop} (h : PB w pb s Fp) (hG : Good s) (hgo : s.gone = false) (hn : s.is.length = n) (hT : Tab w) (hF : ¬ Fp 0) :
    Calls Tryz.prog 11 #[.pointer (some ⟨pb, 0, none⟩)] w fun e w' => OpenedAt Fp w pb s n e w' := by
  have hhi := hG.hi
  have HD := Lib.hid (dead_any pb s Fp w h)
  rw [hgo] at HD
  have hb0 : Below w.heap.size w ((w.alloc (.map #[] 0)).alloc (.cells #[.pointer (some ⟨pb, 0, none⟩), .map (some w.heap.size), .slice none 0 0, .bool false] 79)) := ((Below.refl _ _).alloc (Nat.le_refl _) _).alloc (by simp) _
  have HSF := Lib.hid (SF.made (n := n) h (by omega))
  have HP0 := Lib.hid (h.below hb0)
  have T0 := Lib.hid (hT.below hb0)
  have B0 := Lib.hid hb0
  have hG0 : ¬ (Fp 0 ∨ Ow (w.heap.size + 1) w.heap.size (.slice none 0 0) 0) := fun e => by
    have hh : (0 : Nat) < w.heap.size := World.block_lt_of_cell? w _ (hT 0 (by decide))
    rcases e with e | e | e | e
    · exact hF e
    · omega
    · omega
    · simp [Value.ownBlock] at e
  have HG0 := Lib.hid hG0
  have HGd := Lib.hid hG
  have hmm := @run_makeMap Tryz.prog
  clear h hT hF hb0 hG0
  go_enter Tryz.func11, Tryz.ntmps11
  go_wp2_with fail
  go_at_call 39
  refine HD.out.mono ?_
  rintro e w' ⟨rfl, rfl⟩
  go_wp2_with fail
  generalize hW : ((w.alloc (.map #[] 0)).alloc (.cells #[.pointer (some ⟨pb, 0, none⟩), .map (some w.heap.size), .slice none 0 0, .bool false] 79)) = w0 at HSF HP0 T0 B0 ⊢
  have hz0 := HSF.out.lt
  go_at_call 40
  refine (sectors_any pb n s Fp w0 HP0.out hG hgo hn).mono ?_
  rintro e w1 ⟨g, rfl, hg, hr, k2⟩
  have S1 := Lib.hid (HSF.out.below k2)
  have T1 := Lib.hid (T0.out.below k2)
  have B1 := Lib.hid (B0.out.trans (k2.mono B0.out.size))
  have R1 := Lib.hid hr
  have HGn := Lib.hid (fun (e : Fp g ∨ Ow (w.heap.size + 1) w.heap.size (.slice none 0 0) g) => Nat.lt_irrefl _ (Nat.lt_of_lt_of_le (hz0 g e) hg))
  have hn128 : n ≤ 128 := by omega
  clear k2 hr hz0 hg HSF HP0 T0 B0 HD hmm hW
  go_wp2
  obtain ⟨G, hG'⟩ : ∃ G : Nat → Prop, (fun k => Fp k ∨ Ow (w.heap.size + 1) w.heap.size (.slice none 0 0) k) = G := ⟨_, rfl⟩
  have hGe := Lib.hid (show ∀ k, G k → Fp k ∨ w.heap.size ≤ k from fun k hk => by
    rw [← hG'] at hk
    rcases hk with hk | hk | hk | hk
    · exact .inl hk
    · right; omega
    · right; omega
    · simp [Value.ownBlock] at hk)
  rw [hG'] at S1
  replace HGn := Lib.hid (show ¬ G g from by rw [← hG']; exact HGn.out)
  replace HG0 := Lib.hid (show ¬ G 0 from by rw [← hG']; exact HG0.out)
  clear hG'
  go_loopw [18] (fun iv wr => ∃ i : Nat, i ≤ n ∧ iv = .int .i64 i ∧ Sg G w1 wr (w.heap.size + 1) w.heap.size pb s (scan (readB s) n i) (odds (readB s) i) false) (fun iv _ => n - (RowKit.intOf iv).toNat)
  case atStart => exact ⟨0, Nat.zero_le _, rfl, Sg.start S1.out⟩
  case round =>
    obtain ⟨i, hi, rfl, hS⟩ := hrel
    have HS := Lib.hid hS
    clear hS
    by_cases hlt : i < n
    · have hlI : (i : Int) < (n : Int) := by omega
      have hiI : (0 : Int) ≤ (i : Int) := by omega
      have hrow := HS.out.row R1.out HGn.out
      have c0 := hrow.cell hlt
      rw [show secF s n i = .string (str (readB s i)) from if_pos hlt] at c0
      have hsz : (readB s i).length = 32 := readB_length HGd.out (by rw [hn]; exact hlt)
      have hts : (str (readB s i)).size ≤ 100000 := by rw [str_size]; omega
      have hpm := pfx_mrk (readB s i) (fun e => by rw [e] at hsz; simp at hsz)
      have hTr := HS.out.tab T1.out HG0.out
      have HPa := Lib.hid (parse_any (str (readB s i)) wr hTr hts)
      have hsn := @scan_none (readB s) n i
      have hsw := @scan_new (readB s) n i
      have hso := @scan_old (readB s) n i
      have hfr := Lib.hid (scan_free (f := readB s) hn128 hlt)
      have hol := odds_le (readB s) i
      clear hrow hsz hts hTr
      generalize readB s i = tx at c0 hpm HPa hsn hsw hso
      obtain ⟨t, ht⟩ : ∃ t, str tx = t := ⟨_, rfl⟩
      rw [ht] at c0 hpm HPa hsn hsw hso
      clear ht
      cases hp : parse t with
      | none =>
        obtain ⟨q1, q2⟩ := hsn hp
        obtain ⟨p1, p2⟩ := parseB_none hp
        rw [p1, p2] at HPa
        have Q1 := Lib.hid q1
        have Q2 := Lib.hid (show odds (readB s) (i + 1) = if pfx t then odds (readB s) i ++ [i] else odds (readB s) i from by
          rw [q2]
          by_cases hm : pfx t = true
          · rw [if_pos hm, if_pos (hpm.1 hm)]
          · rw [if_neg hm, if_neg (fun e => hm (hpm.2 e))])
        clear hsn hsw hso p1 p2 q1 q2 hpm hp hfr
        go_wp2_with fail
        go_at_call 41
        refine HPa.out.mono ?_
        rintro e w2 ⟨rfl, k2⟩
        have S2 := Lib.hid (HS.out.below k2)
        clear k2 c0
        go_wp2_with fail
        have hba : Below w2.heap.size w2 (w2.alloc (.cells #[.int .i64 Bk.zero.id, .int .i64 Bk.zero.ver, .string Bk.zero.data] 37)) := (Below.refl _ _).alloc (Nat.le_refl _) _
        have S3 := Lib.hid (S2.out.below hba)
        clear hba
        generalize w2.alloc (.cells #[.int .i64 Bk.zero.id, .int .i64 Bk.zero.ver, .string Bk.zero.data] 37) = w3 at S3 ⊢
        go_at_call 42
        obtain ⟨F3, h3, k3⟩ := S3.out.go
        refine (note_any h3 i t (by omega)).mono ?_
        rintro e w4 ⟨rfl, k2⟩
        have S4' := k3 _ _ _ _ _ k2
        rw [← Q1.out, ← Q2.out] at S4'
        have S4 := Lib.hid S4'
        clear k2 S4' h3 k3
        go_wp2
        go_roundw
        case rel => exact ⟨i + 1, by omega, by go_num, S4.out⟩
        case measure => simp [RowKit.intOf]; omega
      | some b =>
        obtain ⟨p1, p2⟩ := parseB_some hp
        rw [p1, p2] at HPa
        have HB := Lib.hid (parse_some hp).1
        have hid := Bk.id64 HB.out
        clear hsn p1 p2 hpm
        go_wp2_with fail
        go_at_call 41
        refine HPa.out.mono ?_
        rintro e w2 ⟨rfl, k2⟩
        have S2 := Lib.hid (HS.out.below k2)
        clear k2 c0
        go_wp2_with fail
        have hba : Below w2.heap.size w2 (w2.alloc (.cells #[.int .i64 b.id, .int .i64 b.ver, .string b.data] 37)) := (Below.refl _ _).alloc (Nat.le_refl _) _
        have S3 := Lib.hid (S2.out.below hba)
        have A3 := Lib.hid (show AB (w2.alloc (.cells #[.int .i64 b.id, .int .i64 b.ver, .string b.data] 37)) w2.heap.size b from AB.fresh w2 b)
        clear hba
        generalize w2.alloc (.cells #[.int .i64 b.id, .int .i64 b.ver, .string b.data] 37) = w3 at S3 A3 ⊢
        go_at_call 43
        obtain ⟨F3, h3, k3⟩ := S3.out.go
        refine (isNew_any h3 b hid).mono ?_
        rintro e w4 ⟨rfl, k2⟩
        have S4 := Lib.hid (S3.out.below k2)
        have A4 := Lib.hid (A3.out.below k2)
        clear k2 h3 k3
        cases hnw : newer (scan (readB s) n i) b with
        | false =>
          obtain ⟨q1, q2⟩ := hso hp hnw
          have S5' := S4.out
          rw [← q1, ← q2] at S5'
          have S5 := Lib.hid S5'
          clear S5' q1 q2 hsw hso hp hnw
          go_wp2
          go_roundw
          case rel => exact ⟨i + 1, by omega, by go_num, S5.out⟩
          case measure => simp [RowKit.intOf]; omega
        | true =>
          obtain ⟨q1, q2⟩ := hsw hp hnw
          have Q1 := Lib.hid q1
          have Q2 := Lib.hid q2
          clear q1 q2 hsw hso hp hnw
          have hbd : Below w4.heap.size w4 w4.drew := (Below.refl _ _).drew
          have S5 := Lib.hid (S4.out.below hbd)
          have A5 := Lib.hid (A4.out.below hbd)
          obtain ⟨-, c1, -⟩ := S4.out.cells
          obtain ⟨d0, d1, d2⟩ := A4.out.all
          obtain ⟨w6, hrun, k1, k2⟩ := S5.out.tm.put HB.out hfr.out
          have S6' := S5.out.turned k2 k1
          rw [← Q1.out, ← Q2.out] at S6'
          have S6 := Lib.hid S6'
          clear k1 k2 hbd S6'
          go_wp2_with fail
          go_region
          all_goals
            go_wp2
            go_roundw
            case rel => exact ⟨i + 1, by omega, by go_num, S6.out⟩
            case measure => simp [RowKit.intOf]; omega
    · have hlI : ¬ ((i : Int) < (n : Int)) := by omega
      obtain rfl : i = n := by omega
      go_wp2
      go_returns
      exact OpenedAt.of (w.heap.size + 1) w.heap.size rfl (Goes.trans hGe.out (Keeps.of_below B1.out) HS.out)
end Go.Proofs.YtacdbfaoeioflaaGreatDoor
