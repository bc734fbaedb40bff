/-
  Drop (package shelf), by a contract.

  Blocks in a row of their own.
-/
import Derived.Test.YtmmpknfkncgjpaaGreatDoorM31
namespace Go.Proofs.YtmmpknfkncgjpaaGreatDoor
open Go.RowKit Go.PlainAid

section
variable {T : Nat → List UInt8} {id : Int} {s : St} {k : Nat}
theorem dk_none (h : parse (str (T k)) = none) : dk T id s (k + 1) = dk T id s k := by
  rw [dk]; split
  · rfl
  · rw [h]
theorem dk_other {b : Bk} (h : parse (str (T k)) = some b) (hb : b.id ≠ id) : dk T id s (k + 1) = dk T id s k := by
  rw [dk]; split
  · rfl
  · rw [h]; exact if_neg hb
theorem dk_hit {b : Bk} (h0 : (dk T id s k).1 = 0) (h : parse (str (T k)) = some b) (hb : b.id = id) : dk T id s (k + 1) = (writeE (dk T id s k).2.1 k (unm (T k)), writeS (dk T id s k).2.1 k (unm (T k)), true) := by
  rw [dk, if_neg (by omega), h]; exact if_pos hb
theorem dk_stop (h : (dk T id s k).1 ≠ 0) : ∀ m, dk T id s (k + m) = dk T id s k
  | 0 => rfl
  | m + 1 => by
    have ih := dk_stop h m
    rw [show k + (m + 1) = (k + m) + 1 by omega, dk, if_pos (by rw [ih]; exact h), ih]
end
theorem unm_app (x : List UInt8) : (⟨#[0]⟩ : ByteArray) ++ (str x).extract 1 (str x).size = unm x := by
  apply ByteArray.ext
  apply Array.toList_inj.1
  unfold unm
  have h1 : (str x).data.toList = x := str_toList x
  have h2 : (str (0 :: x.drop 1)).data.toList = 0 :: x.drop 1 := str_toList _
  rw [h2]
  simp only [ByteArray.data_append, ByteArray.data_extract, Array.toList_append, Array.toList_extract]
  rw [h1, str_size, List.extract_eq_take_drop, List.take_of_length_le (by simp)]
  rfl
theorem drop_hit {s : St} {id : Int} {n : Nat} (hg : s.gone = false) (hn : s.is.length = n) {k : Nat} (hk : k ≤ n) (he : (dk (readB s) id s k).1 ≠ 0) : dropE s id = (dk (readB s) id s k).1 ∧ dropS s id = (dk (readB s) id s k).2.1 := by
  have h1 : dk (readB s) id s n = dk (readB s) id s k := by
    have := dk_stop he (n - k)
    rwa [show k + (n - k) = n by omega] at this
  unfold dropE dropS
  rw [hg, hn, h1]
  simp only [Bool.false_eq_true, if_false, if_pos he]
  exact ⟨trivial, trivial⟩
theorem drop_none {s : St} {id : Int} {n : Nat} (hg : s.gone = false) (hn : s.is.length = n) (he : (dk (readB s) id s n).1 = 0) (hf : (dk (readB s) id s n).2.2 = false) : dropE s id = 3 ∧ dropS s id = (dk (readB s) id s n).2.1 := by
  unfold dropE dropS
  rw [hg, hn]
  simp only [Bool.false_eq_true, if_false, he, ne_eq, not_true_eq_false, hf, if_true]
  exact ⟨trivial, trivial⟩
theorem drop_some {s : St} {id : Int} {n : Nat} (hg : s.gone = false) (hn : s.is.length = n) (he : (dk (readB s) id s n).1 = 0) (hf : (dk (readB s) id s n).2.2 = true) : dropE s id = syncE (dk (readB s) id s n).2.1 ∧ dropS s id = syncS (dk (readB s) id s n).2.1 := by
  unfold dropE dropS
  rw [hg, hn]
  simp only [Bool.false_eq_true, if_false, he, ne_eq, not_true_eq_false, hf]
  exact ⟨rfl, rfl⟩
set_option maxRecDepth 100000 in
set_option maxHeartbeats 8000000 in
theorem sdrop_any {F : Nat → Prop} {w : World} {sb mb pb : Nat} {s : St} {L : Lay} {odd : List Nat} {lost : Bool} {n c : Nat} (h : SF w sb mb pb s L odd lost F) (hT : Tab w) (hF : ¬ F 1) (hR : Rest s n c) (hc : c ≤ 900000) (hlost : lost = true → s.gone = true) {id : Int} (hid : i64 id) :
    Calls Tryz.prog 74 #[.pointer (some ⟨sb, 0, none⟩), .int .i64 id] w fun e w' => e = .returned (.int .i64 (dropE s id)) ∧ Sg F w w' sb mb pb (dropS s id) (dropY L s id) odd lost := by
  have HD := Lib.hid (sdead_any h hlost)
  obtain ⟨c0, c1, -⟩ := h.cells
  have HS0 := Lib.hid h
  have HF := Lib.hid hF
  cases hg : s.gone
  case true =>
    have e1 : dropE s id = 70 := by unfold dropE; rw [hg]; rfl
    have e2 : dropS s id = s := by unfold dropS; rw [hg]; rfl
    have e3 : dropY L s id = L := by unfold dropY; rw [e1]; rfl
    rw [hg] at HD
    rw [e1, e2, e3]
    clear e1 e2 e3 hg hF h
    go_enter Tryz.func74, Tryz.ntmps74
    go_wp2_with fail
    go_at_call 108
    refine HD.out.mono ?_
    rintro e w' ⟨rfl, rfl⟩
    go_wp2
    go_ret
    exact ⟨rfl, Sg.start HS0.out⟩
  case false =>
  rw [hg] at HD
  obtain ⟨Fp, hP, -⟩ := h.pl
  have hn := hR.len
  have hhi := hR.good.hi
  have HSec := Lib.hid (sectors_any pb n s Fp w hP hR.good hg hn)
  have HT := Lib.hid hT
  have HR := Lib.hid hR
  have HDk := Lib.hid (fun k (hk : k ≤ n) => hR.dk hg id k hk)
  have HHit := Lib.hid (fun k (hk : k ≤ n) => drop_hit (id := id) hg hn hk)
  have HNone := Lib.hid (drop_none (id := id) hg hn)
  have HSome := Lib.hid (drop_some (id := id) hg hn)
  have hn128 : n ≤ 128 := by omega
  have HG := Lib.hid hR.good
  obtain ⟨dE, hdE⟩ : ∃ x, dropE s id = x := ⟨_, rfl⟩
  obtain ⟨dS, hdS⟩ : ∃ x, dropS s id = x := ⟨_, rfl⟩
  obtain ⟨dY, hdY⟩ : ∃ x, dropY L s id = x := ⟨_, rfl⟩
  have hY0 : dropE s id ≠ 0 → dropY L s id = L := fun e => if_pos e
  have hY1 : dropE s id = 0 → dropY L s id = woL L id := fun e => if_neg (by omega)
  rw [hdE, hdY] at hY0 hY1
  rw [hdE, hdS] at HHit HNone HSome
  rw [hdE, hdS, hdY]
  have HY0 := Lib.hid hY0
  have HY1 := Lib.hid hY1
  have HLen := Lib.hid hn
  clear hdE hdS hdY hY0 hY1 hP h hR hF hT hg hn hhi
  go_enter Tryz.func74, Tryz.ntmps74
  go_wp2_with fail
  go_at_call 108
  refine HD.out.mono ?_
  rintro e w' ⟨rfl, rfl⟩
  go_wp2_with fail
  go_at_call 92
  refine HSec.out.mono ?_
  rintro e w1 ⟨g, rfl, hg1, hr, k2⟩
  have S1 := Lib.hid (HS0.out.below k2)
  have T1 := Lib.hid (HT.out.below k2)
  have B1 := Lib.hid k2
  have R1 := Lib.hid hr
  have HGn := Lib.hid (show ¬ F g from fun e => by have := HS0.out.lt g e; omega)
  clear k2 hr hg1 HSec HD HS0 HT c0 c1
  go_wp2
  go_loopw [5, 20] (fun fv iv wr => ∃ i : Nat, i ≤ n ∧ iv = .int .i64 i ∧ fv = .bool (dk (readB s) id s i).2.2 ∧ (dk (readB s) id s i).1 = 0 ∧ Sg F w1 wr sb mb pb (dk (readB s) id s i).2.1 L odd lost) (fun _ iv _ => n - (RowKit.intOf iv).toNat)
  case atStart => exact ⟨0, Nat.zero_le _, rfl, rfl, rfl, Sg.start S1.out⟩
  case round =>
    obtain ⟨i, hi, rfl, rfl, hz, hS⟩ := hrel
    have HS := Lib.hid hS
    have HDi := Lib.hid (HDk.out i hi)
    clear hS
    by_cases hlt : i < n
    · have hlI : (i : Int) < (n : Int) := by omega
      have hiI : (0 : Int) ≤ (i : Int) := by omega
      have hrow := HS.out.row R1.out HGn.out
      have c0 := hrow.cell hlt
      rw [show secF s n i = .string (str (readB s i)) from if_pos hlt] at c0
      have hsz : (readB s i).length = 32 := readB_length HG.out (by rw [HLen.out]; exact hlt)
      have hts : (str (readB s i)).size = 32 := by rw [str_size]; exact hsz
      have hTr := HS.out.tab T1.out HF.out
      have HPa := Lib.hid (parse_any (str (readB s i)) wr hTr (by omega))
      have hsn := @dk_none (readB s) id s i
      have hso := @dk_other (readB s) id s i
      have hsh := @dk_hit (readB s) id s i
      have HHi := Lib.hid (HHit.out (i + 1) (by omega))
      have HUm := Lib.hid (unm_app (readB s i))
      have HUs := Lib.hid (unm_size hsz)
      clear hrow hsz hTr
      generalize readB s i = tx at c0 hts HPa hsn hso hsh HUm HUs
      obtain ⟨t, ht⟩ : ∃ t, str tx = t := ⟨_, rfl⟩
      rw [ht] at c0 hts HPa hsn hso hsh HUm
      clear ht
      generalize hr : dk (readB s) id s i = r at hz HS HDi hsn hso hsh
      generalize hr1 : dk (readB s) id s (i + 1) = r1 at hsn hso hsh HHi
      have HR1 := Lib.hid hr1
      clear hr hr1
      cases hp : parse t with
      | none =>
        obtain ⟨p1, p2⟩ := parseB_none hp
        rw [p1, p2] at HPa
        obtain rfl : r1 = r := hsn hp
        clear hsn hso hsh p1 p2 hp HHi HUm HUs
        go_wp2_with fail
        go_at_call 93
        refine HPa.out.mono ?_
        rintro e w2 ⟨rfl, k2⟩
        have S2 := Lib.hid (HS.out.below k2)
        clear k2 c0
        go_wp2_with fail
        have hba : Below w2.heap.size w2 (w2.alloc (.cells #[.int .i64 Bk.zero.id, .int .i64 Bk.zero.ver, .string Bk.zero.data] 34)) := (Below.refl _ _).alloc (Nat.le_refl _) _
        have S3 := Lib.hid (S2.out.below hba)
        have A3 := Lib.hid (show AB (w2.alloc (.cells #[.int .i64 Bk.zero.id, .int .i64 Bk.zero.ver, .string Bk.zero.data] 34)) w2.heap.size Bk.zero from AB.fresh w2 Bk.zero)
        clear hba
        generalize w2.alloc (.cells #[.int .i64 Bk.zero.id, .int .i64 Bk.zero.ver, .string Bk.zero.data] 34) = w3 at S3 A3 ⊢
        obtain ⟨d0, d1, d2⟩ := A3.out.all
        go_wp2
        go_roundw
        case rel => exact ⟨i + 1, by omega, by go_num, by rw [HR1.out], by rw [HR1.out]; exact hz, by rw [HR1.out]; exact S3.out⟩
        case measure => simp [RowKit.intOf]; omega
      | some b =>
        obtain ⟨p1, p2⟩ := parseB_some hp
        rw [p1, p2] at HPa
        by_cases hid : b.id = id
        · have h1 := hsh hz hp hid
          have HEq := Lib.hid h1
          obtain ⟨wE, hwE⟩ : ∃ x, writeE r.2.1 (i : Int) (unm tx) = x := ⟨_, rfl⟩
          rw [hwE] at h1
          have HWE := Lib.hid hwE
          have HR11 := Lib.hid (show r1.1 = wE from by rw [h1])
          have HR12 := Lib.hid (show r1.2.1 = writeS r.2.1 (i : Int) (unm tx) from by rw [h1])
          have HR13 := Lib.hid (show r1.2.2 = true from by rw [h1])
          have hne : (b.id != id) = false := by simp [hid]
          have hst : t.size = 32 := hts
          have hsl : t.extract 1 t.size = t.extract 1 32 := by rw [hst]
          have HSl := Lib.hid (show (⟨#[0]⟩ : ByteArray) ++ t.extract 1 32 = unm tx from by rw [← hsl]; exact HUm.out)
          have HSz := Lib.hid (show ((⟨#[0]⟩ : ByteArray) ++ t.extract 1 32).size ≤ 9223372036854775807 from by rw [HSl.out, HUs.out]; decide)
          have HFew := Lib.hid (show r.2.1.n ≤ 1000000 ∧ r.2.1.wait.length ≤ 900 from ⟨by have := HDi.out.few; omega, by have := HDi.out.wt; omega⟩)
          clear hsn hso hsh p1 p2 hp hid h1 hwE HUm HEq hst hsl
          go_wp2_with fail
          go_at_call 93
          refine HPa.out.mono ?_
          rintro e w2 ⟨rfl, k2⟩
          have S2 := Lib.hid (HS.out.below k2)
          clear k2 c0
          go_wp2_with fail
          have hba : Below w2.heap.size w2 (w2.alloc (.cells #[.int .i64 b.id, .int .i64 b.ver, .string b.data] 34)) := (Below.refl _ _).alloc (Nat.le_refl _) _
          have S3 := Lib.hid (S2.out.below hba)
          have A3 := Lib.hid (show AB (w2.alloc (.cells #[.int .i64 b.id, .int .i64 b.ver, .string b.data] 34)) w2.heap.size b from AB.fresh w2 b)
          clear hba
          generalize w2.alloc (.cells #[.int .i64 b.id, .int .i64 b.ver, .string b.data] 34) = w3 at S3 A3 ⊢
          obtain ⟨d0, d1, d2⟩ := A3.out.all
          obtain ⟨c3, -, -⟩ := S3.out.cells
          have hb3 : Below w3.heap.size w3 w3.drew := (Below.refl _ _).drew
          have S4 := Lib.hid (S3.out.below hb3)
          have hts1 : (1 : Int) ≤ (t.size : Int) := by omega
          have C3 := Lib.hid c3
          have C4 := Lib.hid (S4.out.cells.1)
          clear hb3
          go_wp2_with fail
          go_region_held3 (fun w' => w'.cell? ⟨sb, 0, none⟩ = some (.pointer (some ⟨pb, 0, none⟩)))
            (first | exact C4.out | exact C3.out | exact S5.out.cells.1 | fail)
            (first
              | (go_at_call 109; with_reducible refine (sg_write S4.out HDi.out.good HFew.out.2 HFew.out.1 (i : Int) _ HSz.out).mono ?_; rintro e w5 ⟨rfl, k2⟩; rw [HSl.out] at k2; rw [HSl.out, HWE.out]; have S5 := Lib.hid k2; clear k2)
              | fail)
          by_cases hw0 : wE = 0
          · subst hw0
            have S6 := Lib.hid (show Sg F w1 w5 sb mb pb r1.2.1 L odd lost from by rw [HR12.out]; exact S5.out)
            clear S5 HWE HSz HSl HHi
            go_wp2
            go_roundw
            case rel => exact ⟨i + 1, by omega, by go_num, by rw [HR1.out, HR13.out], by rw [HR1.out]; exact HR11.out, by rw [HR1.out]; exact S6.out⟩
            case measure => simp [RowKit.intOf]; omega
          · obtain ⟨e1, e2⟩ := HHi.out (by rw [HR11.out]; exact hw0)
            have hd1 : dE = wE := e1.trans HR11.out
            have hd2 : dS = writeS r.2.1 (i : Int) (unm tx) := e2.trans HR12.out
            have hd3 : dY = L := HY0.out (by rw [hd1]; exact hw0)
            subst hd1 hd2 hd3
            have hz0 : (dE == 0) = false := by simpa using hw0
            have S6 := Lib.hid (Sg.ahead B1.out S5.out)
            clear S5 HWE HSz HSl HHi e1 e2 hw0
            go_wp2
            go_ret
            exact ⟨rfl, S6.out⟩
        · obtain rfl : r1 = r := hso hp hid
          have hne : (b.id != id) = true := by simp [hid]
          clear hsn hso hsh p1 p2 hp hid HHi HUm HUs
          go_wp2_with fail
          go_at_call 93
          refine HPa.out.mono ?_
          rintro e w2 ⟨rfl, k2⟩
          have S2 := Lib.hid (HS.out.below k2)
          clear k2 c0
          go_wp2_with fail
          have hba : Below w2.heap.size w2 (w2.alloc (.cells #[.int .i64 b.id, .int .i64 b.ver, .string b.data] 34)) := (Below.refl _ _).alloc (Nat.le_refl _) _
          have S3 := Lib.hid (S2.out.below hba)
          have A3 := Lib.hid (show AB (w2.alloc (.cells #[.int .i64 b.id, .int .i64 b.ver, .string b.data] 34)) w2.heap.size b from AB.fresh w2 b)
          clear hba
          generalize w2.alloc (.cells #[.int .i64 b.id, .int .i64 b.ver, .string b.data] 34) = w3 at S3 A3 ⊢
          obtain ⟨d0, d1, d2⟩ := A3.out.all
          go_wp2
          go_roundw
          case rel => exact ⟨i + 1, by omega, by go_num, by rw [HR1.out], by rw [HR1.out]; exact hz, by rw [HR1.out]; exact S3.out⟩
          case measure => simp [RowKit.intOf]; omega
    · have hlI : ¬ ((i : Int) < (n : Int)) := by omega
      obtain rfl : i = n := by omega
      have hno := HNone.out hz
      have hso := HSome.out hz
      have HFew := Lib.hid (show (dk (readB s) id s i).2.1.n ≤ 1000000 ∧ (dk (readB s) id s i).2.1.wait.length ≤ 1000 from ⟨by have := HDi.out.few; omega, by have := HDi.out.wt; omega⟩)
      have hlive := HDi.out.live hz
      generalize dk (readB s) id s i = r at hno hso HFew hlive hz HS HDi ⊢
      cases hf : r.2.2
      case false =>
        obtain ⟨rfl, rfl⟩ := hno hf
        obtain rfl : dY = L := HY0.out (by decide)
        have S6 := Lib.hid (Sg.ahead B1.out HS.out)
        clear hno hso hf
        go_wp2
        go_ret
        exact ⟨rfl, S6.out⟩
      case true =>
        obtain ⟨e1, e2⟩ := hso hf
        obtain ⟨c0, c1, -⟩ := HS.out.cells
        have HSy := Lib.hid (sg_sync HS.out HDi.out.good HFew.out.2 HFew.out.1)
        rw [← e1, ← e2] at HSy
        clear hno hso hf e1 e2
        go_wp2_with fail
        go_at_call 110
        refine HSy.out.mono ?_
        rintro e w3 ⟨rfl, k2⟩
        have S3 := Lib.hid (Sg.ahead B1.out k2)
        clear k2 c0 c1
        by_cases hd0 : dE = 0
        · obtain rfl : dY = woL L id := HY1.out hd0
          obtain ⟨c0, c1, -⟩ := S3.out.cells
          obtain ⟨w4, hrun, k1, k2⟩ := S3.out.tm.del hid 0
          have S4 := Lib.hid (S3.out.turned k2 k1)
          subst hd0
          clear k1 k2
          go_wp2
          go_ret
          exact ⟨rfl, S4.out⟩
        · obtain rfl : dY = L := HY0.out hd0
          have hz0 : (dE == 0) = false := by simpa using hd0
          clear hd0
          go_wp2
          go_ret
          exact ⟨rfl, S3.out⟩
end Go.Proofs.YtmmpknfkncgjpaaGreatDoor

namespace Go.Proofs.YtmmpknfkncgjpaaGreatDoor
open Go.RowKit

/-! ### cells in a row -/
/-- The cells of blocks, one behind the other. -/
def bflat : List Bk → List Value
  | [] => []
  | x :: l => x.cells.toList ++ bflat l
theorem bflat_length (l : List Bk) : (bflat l).length = l.length * 3 := by
  induction l with
  | nil => rfl
  | cons m l ih => simp only [bflat, List.length_append, ih, List.length_cons]; simp; omega
theorem bflat_append (l k : List Bk) : bflat (l ++ k) = bflat l ++ bflat k := by
  induction l with
  | nil => rfl
  | cons m l ih => simp only [List.cons_append, bflat, ih, List.append_assoc]
theorem bflat_one (m : Bk) : bflat [m] = m.cells.toList := by simp [bflat]
theorem bflat_oneCell (l : List Bk) : ∀ u ∈ bflat l, u.oneCell' = true := by
  induction l with
  | nil => intro u hu; simp [bflat] at hu
  | cons m l ih =>
    intro u hu
    simp only [bflat, List.mem_append] at hu
    rcases hu with hu | hu
    · simp at hu
      rcases hu with rfl | rfl | rfl <;> rfl
    · exact ih u hu
theorem bflat_get (l : List Bk) (i : Nat) (m : Bk) (h : l[i]? = some m) (j : Nat) (hj : j < 3) : (bflat l)[i * 3 + j]? = m.cells.toList[j]? := by
  induction l generalizing i with
  | nil => simp at h
  | cons x l ih =>
    have hx : x.cells.toList.length = 3 := by simp
    cases i with
    | zero =>
      simp at h
      subst h
      rw [bflat, List.getElem?_append_left (by omega)]
      congr 1; omega
    | succ i =>
      simp at h
      rw [bflat, List.getElem?_append_right (by omega), hx]
      rw [show (i + 1) * 3 + j - 3 = i * 3 + j by omega]
      exact ih i h

/-- The block m lies at the place o of block g. -/
structure BAt (w : World) (g o : Nat) (m : Bk) : Prop where
  c0 : w.cell? ⟨g, o, none⟩ = some (.int .i64 m.id)
  c1 : w.cell? ⟨g, o + 1, none⟩ = some (.int .i64 m.ver)
  c2 : w.cell? ⟨g, o + 2, none⟩ = some (.string m.data)

/-- The slice v has the blocks l, in a row of its own from block 'base' on; e: their type. -/
def OwnsB (e : TypeId) (w : World) (base : Nat) (v : Value) (l : List Bk) : Prop := w.ownsRow base e 3 v l.length (bflat l)

theorem OwnsB.nil (e : TypeId) (w : World) (base : Nat) : OwnsB e w base (.slice none 0 0) [] := World.ownsRow_nil _ _ _ _
theorem OwnsB.kept {e : TypeId} {w w' : World} {base : Nat} {v : Value} {l : List Bk} (h : OwnsB e w base v l) (hb : ∀ g, v.ownBlock = some g → w'.heap[g]? = w.heap[g]?) : OwnsB e w' base v l := by
  refine ⟨h.1, ?_⟩
  rcases h.2 with hn | ⟨g, cap, cur, rfl, hbs, hgg, rest⟩
  · exact .inl hn
  · exact .inr ⟨g, cap, cur, rfl, hbs, by rw [hb g rfl]; exact hgg, rest⟩
theorem OwnsB.lt {e : TypeId} {w : World} {base : Nat} {v : Value} {l : List Bk} (h : OwnsB e w base v l) {g : Nat} (hg : v.ownBlock = some g) : base ≤ g ∧ g < w.heap.size := World.ownsRow.lt h g hg
theorem OwnsB.below {e : TypeId} {w w' : World} (hb : Below w.heap.size w w') {base : Nat} {v : Value} {l : List Bk} (h : OwnsB e w base v l) : OwnsB e w' base v l :=
  h.kept fun g hg => hb.block g (h.lt hg).2
theorem OwnsB.grown {e : TypeId} {w w' : World} {row : Option Nat} (hb : w.grownBy w' row) {base : Nat} {v : Value} {l : List Bk} (h : OwnsB e w base v l) (hne : ∀ g, v.ownBlock = some g → some g ≠ row) : OwnsB e w' base v l :=
  h.kept fun g hg => hb.block g (h.lt hg).2 (hne g hg)
theorem OwnsB.mono {e : TypeId} {w : World} {base base' : Nat} {v : Value} {l : List Bk} (h : OwnsB e w base v l) (hb : base' ≤ base) : OwnsB e w base' v l := by
  refine ⟨h.1, ?_⟩
  rcases h.2 with hn | ⟨g, cap, cur, rfl, hbs, rest⟩
  · exact .inl hn
  · exact .inr ⟨g, cap, cur, rfl, by omega, rest⟩
/-- What it looks like: nothing, or a row whose blocks lie one behind the other. -/
theorem OwnsB.form {e : TypeId} {w : World} {base : Nat} {v : Value} {l : List Bk} (h : OwnsB e w base v l) :
    (v = .slice none 0 0 ∧ l = []) ∨ ∃ g cap, v = .slice (some ⟨g, 0, none⟩) l.length cap ∧ base ≤ g ∧ g < w.heap.size ∧ l.length ≤ cap ∧ cap ≤ maxLen ∧ ∀ i m, l[i]? = some m → BAt w g (i * 3) m := by
  rcases h.2 with ⟨hv, h0⟩ | ⟨g, cap, cur, hv, hb, hg, hn, hm, hs, ht⟩
  · exact .inl ⟨hv, List.length_eq_zero_iff.1 h0⟩
  · refine .inr ⟨g, cap, hv, hb, (Array.getElem?_eq_some_iff.1 hg).1, hn, hm, fun i m hi => ?_⟩
    have hil : i < l.length := (List.getElem?_eq_some_iff.1 hi).1
    have hc : ∀ j, j < 3 → w.cell? ⟨g, i * 3 + j, none⟩ = m.cells.toList[j]? := fun j hj => by
      rw [cell_of_row w g (i * 3 + j) cur _ (0, 0) hg, ← bflat_get l i m hi j hj, ← ht, List.getElem?_take, if_pos (by omega)]
      simp
    exact ⟨hc 0 (by omega), hc 1 (by omega), hc 2 (by omega)⟩
theorem OwnsB.shape {e : TypeId} {w : World} {base : Nat} {v : Value} {l : List Bk} (h : OwnsB e w base v l) : ∃ A c, v = .slice A l.length c := by
  rcases h.form with ⟨rfl, rfl⟩ | ⟨g, cap, rfl, -⟩
  · exact ⟨none, 0, rfl⟩
  · exact ⟨_, cap, rfl⟩
/-- The cells that lie there, for one who appends them. -/
theorem OwnsB.news {e : TypeId} {w : World} {base g n cap : Nat} {l : List Bk} (h : OwnsB e w base (.slice (some ⟨g, 0, none⟩) n cap) l) : ∀ j u, (bflat l)[j]? = some u → w.cell? ((⟨g, 0, none⟩ : Addr).add j) = some u :=
  World.ownsRow.cells h rfl
/-- An empty slice that is not nil. -/
theorem OwnsB.lit {e : TypeId} {w : World} {base : Nat} (hb : base ≤ w.heap.size) : OwnsB e (w.alloc (.cells #[] e)) base (.slice (some ⟨w.heap.size, 0, none⟩) 0 0) [] :=
  World.ownsRow_lit (base := base) (e := e) (size := 3) w #[] 0 hb (by simp) rfl

/-- The cells of a block that is to be appended: behind one more block, or behind none. -/
theorem bnews1 (w : World) (y : Bk) (e : TypeId) : ∀ j u, (bflat [y])[j]? = some u → (w.alloc (.cells y.cells e)).cell? ((⟨w.heap.size, 0, none⟩ : Addr).add j) = some u := fun j u hu =>
  World.news_of_block (cs := y.cells) (t := e) (fr := (0, 0)) (heap_alloc_new w _) j u (by rw [bflat_one] at hu; exact hu)
theorem bnews2 (w : World) (o : Obj) (y : Bk) (e : TypeId) : ∀ j u, (bflat [y])[j]? = some u → ((w.alloc o).alloc (.cells y.cells e)).cell? ((⟨w.heap.size + 1, 0, none⟩ : Addr).add j) = some u := fun j u hu => by
  have := bnews1 (w.alloc o) y e j u hu
  rwa [World.size_alloc] at this
theorem bnews3 (w : World) (o o' : Obj) (y : Bk) (e : TypeId) : ∀ j u, (bflat [y])[j]? = some u → (((w.alloc o).alloc o').alloc (.cells y.cells e)).cell? ((⟨w.heap.size + 1 + 1, 0, none⟩ : Addr).add j) = some u := fun j u hu => by
  have := bnews2 (w.alloc o) o' y e j u hu
  rwa [World.size_alloc] at this
/-- What an append leaves, as a list. -/
theorem OwnsB.snoc {e : TypeId} {w : World} {base g cap : Nat} {l : List Bk} {y : Bk} (h : w.ownsRow base e 3 (.slice (some ⟨g, 0, none⟩) (l.length + 1) cap) (l.length + 1) (bflat l ++ bflat [y])) : OwnsB e w base (.slice (some ⟨g, 0, none⟩) (l.length + 1) cap) (l ++ [y]) := by
  unfold OwnsB; rw [bflat_append]; simpa using h

theorem OwnsB.lit2 {e : TypeId} (w : World) (base : Nat) (o : Obj) (hb : base ≤ w.heap.size + 1) : OwnsB e ((w.alloc o).alloc (.cells #[] e)) base (.slice (some ⟨w.heap.size + 1, 0, none⟩) 0 0) [] := by
  have := OwnsB.lit (e := e) (w := w.alloc o) (base := base) (by simp; omega)
  rwa [World.size_alloc] at this
theorem infoB : (Tryz.prog.info? 34).map (fun i => (i.zero, i.size, i.bytes)) = some (some (.agg #[.int .i64 0, .int .i64 0, .string ⟨#[]⟩]), 3, 32) := by kernel_rfl
end Go.Proofs.YtmmpknfkncgjpaaGreatDoor
