/-
  Drop of the document's own shelf (weirkeepref09), by a contract.
-/
import Derived.Test.YtmmpknfkncgjpaaGreatDoorM35
import Derived.Test.YtmmpknfkncgjpaaGreatDoorM32
import Derived.Test.YtmmpknfkncgjpaaGreatDoorM07
namespace Go.Proofs.YtmmpknfkncgjpaaGreatDoor
open Go.RowKit

section
variable {F : Nat → Prop} {w w0 w1 : World} {rb rp : Nat} {s : St} {L : Lay} {odd : List Nat} {lost : Bool}
theorem rsg_read (h : RSg F w0 w1 rb rp s L odd lost) (i : Int) :
    Calls Tryz.prog 96 #[.pointer (some ⟨rp, 0, none⟩), .int .i64 i] w1 fun e w2 => e = .returned (.tuple #[.string (str (readV s i)), .int .i64 (wrong s i)]) ∧ w1 = w2 := by
  obtain ⟨F1, h1, h2⟩ := h.go
  obtain ⟨Fp, hP, hk⟩ := h1.pl
  exact rread_any rp s Fp i w1 hP
theorem rsg_at (h : RSg F w0 w1 rb rp s L odd lost) (id : Int) :
    Calls Tryz.prog 42 #[.pointer (some ⟨rb, 0, none⟩), .int .i64 id] w1 fun e w' => e = .returned (.int .i64 (atI L id)) ∧ w1 = w' := by
  obtain ⟨F1, h1, h2⟩ := h.go
  exact rsf_at h1 id
theorem RSg.len (h : RSg F w w1 rb rp s L odd lost) : ∃ g, w1.cell? ⟨rb, 1, none⟩ = some (.slice (some ⟨g, 0, none⟩) L.length L.length) := by
  obtain ⟨F1, h1, h2⟩ := h.go
  obtain ⟨g, c1, -⟩ := h1.lays
  exact ⟨g, c1⟩
/-- One block of its list goes. -/
theorem RSg.setNone (h : RSg F w0 w1 rb rp s L odd lost) {k : Nat} (hk : k < L.length) : ∃ g, w1.cell? ⟨rb, 1, none⟩ = some (.slice (some ⟨g, 0, none⟩) L.length L.length) ∧ (∃ a b c, w1.cell? ⟨g, k * 3, none⟩ = some (.int .i64 a) ∧ w1.cell? ⟨g, k * 3 + 1, none⟩ = some (.int .i64 b) ∧ w1.cell? ⟨g, k * 3 + 2, none⟩ = some (.string c)) ∧ (w1.frozen? ⟨g, k * 3, none⟩ = false ∧ w1.frozen? ⟨g, k * 3 + 1, none⟩ = false ∧ w1.frozen? ⟨g, k * 3 + 2, none⟩ = false) ∧
    RSg F w0 (((w1.setCell ⟨g, k * 3, none⟩ (.int .i64 0)).setCell ⟨g, k * 3 + 1, none⟩ (.int .i64 0)).setCell ⟨g, k * 3 + 2, none⟩ (.string ⟨#[]⟩)) rb rp s (L.set k none) odd lost := by
  obtain ⟨F1, h1, h2⟩ := h.go
  obtain ⟨vo, g, hS, hK⟩ := h1.own
  obtain ⟨-, c1, -, -⟩ := hS.cells
  obtain ⟨s0, s1, s2⟩ := hS.sec hk
  refine ⟨g, c1, ⟨_, _, _, s0, s1, s2⟩, ⟨hS.lay.frozen _, hS.lay.frozen _, hS.lay.frozen _⟩, h2 _ _ _ _ _ (hK _ vo g _ _ _ ?_ (Rb9.setSecK rb vo w1 g (k * 3) (k * 3 + 1) (k * 3 + 2) (.int .i64 0) (.int .i64 0) (.string ⟨#[]⟩)) (.inl rfl) (fun k hk => .inl hk))⟩
  exact hS.setSec (o := none) (b := Bk.zero) hk rfl (goodL_set_none hS.good k)
end
theorem wrong_live {s : St} {i : Nat} (hg : s.gone = false) (hi : i < s.is.length) : wrong s (i : Int) = 0 := by
  unfold wrong; rw [hg, if_neg (by simp), if_neg (by omega)]
theorem readV_live {s : St} {i : Nat} (hg : s.gone = false) (hi : i < s.is.length) : readV s (i : Int) = readB s i := by
  unfold readV; rw [if_neg (by rw [wrong_live hg hi]; simp), Int.toNat_natCast]
theorem wo_cases {L : Lay} (hG : GoodL L) (id : Int) : (atI L id = -1 ∧ woL L id = L) ∨ ∃ k : Nat, atI L id = (k : Int) ∧ k < L.length ∧ woL L id = L.set k none := by
  rcases at_cases hG id with ⟨e1, e2⟩ | ⟨k, b, e1, e2, e3, e4⟩
  · exact .inl ⟨e1, woL_self e2⟩
  · exact .inr ⟨k, e1, e2.lt, by rw [← e3]; exact wo_set hG e2⟩
theorem sync_bad {s : St} (h : syncE s ≠ 0) : syncE s = 70 := by unfold syncE at h ⊢; split at h <;> simp_all
theorem zero_one : str (zeros 1) = (⟨#[0]⟩ : ByteArray) := by decide
set_option maxRecDepth 100000 in
set_option maxHeartbeats 8000000 in
theorem rdrop_any {F : Nat → Prop} {w : World} {rb rp : Nat} {s : St} {L : Lay} {odd : List Nat} {lost : Bool} {n c : Nat} (h : RSF w rb rp s L odd lost F) (hR : Rest s n c) (hc : c ≤ 900000) (hlost : lost = true → s.gone = true) (hL : L.length = n) (id : Int) :
    Calls Tryz.prog 75 #[.pointer (some ⟨rb, 0, none⟩), .int .i64 id] w fun e w' => e = .returned (.int .i64 (dropE s id)) ∧ RSg F w w' rb rp (dropS s id) (dropY L s id) odd (lostP lost (dropE s id)) := by
  have S0 := Lib.hid (RSg.start h)
  cases hg : s.gone
  case true =>
    have e1 : dropE s id = 70 := by unfold dropE; rw [hg]; rfl
    have e2 : dropS s id = s := by unfold dropS; rw [hg]; rfl
    have e3 : dropY L s id = L := by unfold dropY; rw [e1]; rfl
    have hlp := Lib.hid (show lostP lost 70 = true from by unfold lostP; simp)
    rw [e1, e2, e3, hlp.out]
    have c2 := h.gone
    rw [hg] at c2
    obtain ⟨c0, c3⟩ := h.c0
    obtain ⟨k1, f3⟩ := S0.out.setLost
    have S2 := Lib.hid k1
    clear k1 e1 e2 e3 hg h hR hlost
    cases lost
    all_goals
      go_enter Tryz.func75, Tryz.ntmps75
      go_wp2
      go_ret
      exact ⟨rfl, S2.out⟩
  case false =>
  obtain rfl : lost = false := by
    cases lost
    · rfl
    · have := hlost rfl; rw [hg] at this; cases this
  have hn := hR.len
  have hhi := hR.good.hi
  have HR := Lib.hid hR
  have HDk := Lib.hid (fun k (hk : k ≤ n) => hR.dk hg id k hk)
  have HSame := Lib.hid (fun k (hk : k ≤ n) => hR.dk_same hg id hk)
  have HHit := Lib.hid (fun k (hk : k ≤ n) => drop_hit (id := id) hg hn hk)
  have HNone := Lib.hid (drop_none (id := id) hg hn)
  have HSome := Lib.hid (drop_some (id := id) hg hn)
  have hn128 : n ≤ 128 := by omega
  have HG := Lib.hid hR.good
  have HGL := Lib.hid h.good
  obtain ⟨dE, hdE⟩ : ∃ x, dropE s id = x := ⟨_, rfl⟩
  obtain ⟨dS, hdS⟩ : ∃ x, dropS s id = x := ⟨_, rfl⟩
  obtain ⟨dY, hdY⟩ : ∃ x, dropY L s id = x := ⟨_, rfl⟩
  have hY0 : dropE s id ≠ 0 → dropY L s id = L := fun e => if_pos e
  have hY1 : dropE s id = 0 → dropY L s id = woL L id := fun e => if_neg (by omega)
  rw [hdE, hdY] at hY0 hY1
  rw [hdE, hdS] at HHit HNone HSome
  rw [hdE, hdS, hdY]
  have HY0 := Lib.hid hY0
  have HY1 := Lib.hid hY1
  have HLen := Lib.hid hn
  have HL := Lib.hid hL
  have c2 := h.gone
  rw [hg] at c2
  obtain ⟨c0, c3⟩ := h.c0
  clear hdE hdS hdY hY0 hY1 h hR hg hn hhi hlost
  go_enter Tryz.func75, Tryz.ntmps75
  go_wp2
  clear c0 c2 c3
  go_loopw [5, 6] (fun fv iv wr => ∃ i : Nat, i ≤ n ∧ iv = .int .i64 i ∧ fv = .bool (dk (readB s) id s i).2.2 ∧ (dk (readB s) id s i).1 = 0 ∧ RSg F w wr rb rp (dk (readB s) id s i).2.1 L odd false) (fun _ iv _ => n - (RowKit.intOf iv).toNat)
  case atStart => exact ⟨0, Nat.zero_le _, rfl, rfl, rfl, S0.out⟩
  case round =>
    obtain ⟨i, hi, rfl, rfl, hz, hS⟩ := hrel
    have HS := Lib.hid hS
    have HDi := Lib.hid (HDk.out i hi)
    have hsm := HSame.out i hi hz
    obtain ⟨g1, c1⟩ := hS.len
    rw [HL.out] at c1
    obtain ⟨c0, c3⟩ := hS.c0
    clear hS
    by_cases hlt : i < n
    · have hlI : (i : Int) < (n : Int) := by omega
      have hiI : (0 : Int) ≤ (i : Int) := by omega
      have hsz : (readB s i).length = 32 := readB_length HG.out (by rw [HLen.out]; exact hlt)
      have hts : (str (readB s i)).size = 32 := by rw [str_size]; exact hsz
      have HRd := Lib.hid (rsg_read HS.out (i : Int))
      rw [readV_live (HDi.out.live hz) (by rw [HDi.out.len]; exact hlt), wrong_live (HDi.out.live hz) (by rw [HDi.out.len]; exact hlt), hsm] at HRd
      have HPa := Lib.hid (fun w => rparse_any (str (readB s i)) w)
      have hsn := @dk_none (readB s) id s i
      have hso := @dk_other (readB s) id s i
      have hsh := @dk_hit (readB s) id s i
      have HHi := Lib.hid (HHit.out (i + 1) (by omega))
      have HUm := Lib.hid (unm_app (readB s i))
      have HUs := Lib.hid (unm_size hsz)
      clear hsz hsm
      generalize readB s i = tx at hts HRd HPa hsn hso hsh HUm HUs
      obtain ⟨t, ht⟩ : ∃ t, str tx = t := ⟨_, rfl⟩
      rw [ht] at hts HRd HPa hsn hso hsh HUm
      clear ht
      generalize hr : dk (readB s) id s i = r at hz HS HDi hsn hso hsh
      generalize hr1 : dk (readB s) id s (i + 1) = r1 at hsn hso hsh HHi
      have HR1 := Lib.hid hr1
      clear hr hr1
      go_wp2_with fail
      go_at_call 96
      refine HRd.out.mono ?_
      rintro e w' ⟨rfl, rfl⟩
      go_wp2_with fail
      go_at_call 97
      refine (HPa.out _).mono ?_
      rintro e w2 ⟨rfl, k2⟩
      have S2 := Lib.hid (HS.out.below k2)
      clear k2 c0 c1 c3 HS
      cases hp : parse t with
      | none =>
        obtain ⟨p1, p2⟩ := parseB_none hp
        rw [p1, p2]
        obtain rfl : r1 = r := hsn hp
        clear hsn hso hsh p1 p2 hp HHi HUm HUs
        go_wp2_with fail
        have hba : Below w2.heap.size w2 (w2.alloc (.cells #[.int .i64 Bk.zero.id, .int .i64 Bk.zero.ver, .string Bk.zero.data] 34)) := (Below.refl _ _).alloc (Nat.le_refl _) _
        have S3 := Lib.hid (S2.out.below hba)
        have A3 := Lib.hid (show AB (w2.alloc (.cells #[.int .i64 Bk.zero.id, .int .i64 Bk.zero.ver, .string Bk.zero.data] 34)) w2.heap.size Bk.zero from AB.fresh w2 Bk.zero)
        clear hba
        generalize w2.alloc (.cells #[.int .i64 Bk.zero.id, .int .i64 Bk.zero.ver, .string Bk.zero.data] 34) = w3 at S3 A3 ⊢
        obtain ⟨d0, d1, d2⟩ := A3.out.all
        go_wp2
        go_roundw
        case rel => exact ⟨i + 1, by omega, by go_num, by rw [HR1.out], by rw [HR1.out]; exact hz, by rw [HR1.out]; exact S3.out⟩
        case measure => simp [RowKit.intOf]; omega
      | some b =>
        obtain ⟨p1, p2⟩ := parseB_some hp
        rw [p1, p2]
        have hba : Below w2.heap.size w2 (w2.alloc (.cells #[.int .i64 b.id, .int .i64 b.ver, .string b.data] 34)) := (Below.refl _ _).alloc (Nat.le_refl _) _
        have S3 := Lib.hid (S2.out.below hba)
        have A3 := Lib.hid (show AB (w2.alloc (.cells #[.int .i64 b.id, .int .i64 b.ver, .string b.data] 34)) w2.heap.size b from AB.fresh w2 b)
        clear hba p1 p2
        by_cases hid : b.id = id
        · have h1 := hsh hz hp hid
          obtain ⟨wE, hwE⟩ : ∃ x, writeE r.2.1 (i : Int) (unm tx) = x := ⟨_, rfl⟩
          rw [hwE] at h1
          have HWE := Lib.hid hwE
          have HR11 := Lib.hid (show r1.1 = wE from by rw [h1])
          have HR12 := Lib.hid (show r1.2.1 = writeS r.2.1 (i : Int) (unm tx) from by rw [h1])
          have HR13 := Lib.hid (show r1.2.2 = true from by rw [h1])
          have hne : (b.id != id) = false := by simp [hid]
          have hst : t.size = 32 := hts
          have hsl : t.extract 1 t.size = t.extract 1 32 := by rw [hst]
          have HSl := Lib.hid (show (⟨#[0]⟩ : ByteArray) ++ t.extract 1 32 = unm tx from by rw [← hsl]; exact HUm.out)
          have HSz := Lib.hid (show ((⟨#[0]⟩ : ByteArray) ++ t.extract 1 32).size ≤ 9223372036854775807 from by rw [HSl.out, HUs.out]; decide)
          have HFew := Lib.hid (show r.2.1.n ≤ 1000000 ∧ r.2.1.wait.length ≤ 900 from ⟨by have := HDi.out.few; omega, by have := HDi.out.wt; omega⟩)
          have HBad := Lib.hid (show wE ≠ 0 → wE = 70 from fun e => by
            have h2 := (HDk.out (i + 1) (by omega)).bad
            rw [HR1.out, HR11.out] at h2
            exact (h2 e).1)
          clear hsn hso hsh hp hid h1 hwE HUm hst hsl
          go_wp2_with fail
          generalize w2.alloc (.cells #[.int .i64 b.id, .int .i64 b.ver, .string b.data] 34) = w3 at S3 A3 ⊢
          obtain ⟨d0, d1, d2⟩ := A3.out.all
          obtain ⟨c3, -⟩ := S3.out.c0
          have hb3 : Below w3.heap.size w3 w3.drew := (Below.refl _ _).drew
          have S4 := Lib.hid (S3.out.below hb3)
          have hts1 : (1 : Int) ≤ (t.size : Int) := by omega
          have C3 := Lib.hid c3
          have C4 := Lib.hid (S4.out.c0.1)
          have HZr := Lib.hid (show ∀ w, Calls Tryz.prog 66 #[.int .i64 1] w fun e w' => e = .returned (.string ⟨#[0]⟩) ∧ Below w.heap.size w w' from fun w => by rw [← zero_one]; exact rzeros_any 1 (by decide) w)
          clear hb3
          go_wp2_with fail
          go_region_held3 (fun w' => w'.cell? ⟨rb, 0, none⟩ = some (.pointer (some ⟨rp, 0, none⟩)))
            (first | exact C4.out | exact C3.out | exact S6.out.c0.1 | exact S5.out.c0.1 | fail)
            (first
              | (go_at_call 66; with_reducible refine (HZr.out _).mono ?_; rintro e w5 ⟨rfl, k2⟩; have S5 := Lib.hid (S4.out.below k2); clear k2)
              | (go_at_call 111; with_reducible refine (rsg_write S5.out HDi.out.good HFew.out.2 HFew.out.1 (i : Int) _ HSz.out).mono ?_; rintro e w6 ⟨rfl, k2⟩; rw [HSl.out] at k2; rw [HSl.out, HWE.out]; have S6 := Lib.hid k2; clear k2)
              | fail)
          by_cases hw0 : wE = 0
          · subst hw0
            have S7 := Lib.hid (show RSg F w w6 rb rp r1.2.1 L odd false from by rw [HR12.out]; exact S6.out)
            clear S6 HWE HSz HSl HHi
            go_wp2
            go_roundw
            case rel => exact ⟨i + 1, by omega, by go_num, by rw [HR1.out, HR13.out], by rw [HR1.out]; exact HR11.out, by rw [HR1.out]; exact S7.out⟩
            case measure => simp [RowKit.intOf]; omega
          · obtain ⟨e1, e2⟩ := HHi.out (by rw [HR11.out]; exact hw0)
            have hw70 : wE = 70 := HBad.out hw0
            have hd1 : dE = 70 := (e1.trans HR11.out).trans hw70
            have hd2 : dS = writeS r.2.1 (i : Int) (unm tx) := e2.trans HR12.out
            have hd3 : dY = L := HY0.out (by rw [hd1]; decide)
            have hlp := Lib.hid (show lostP false 70 = true from by decide)
            subst hd1 hd2 hd3 hw70
            obtain ⟨-, c3⟩ := S6.out.c0
            obtain ⟨k1, f3⟩ := S6.out.setLost
            have S7 := Lib.hid k1
            clear S6 HWE HSz HSl HHi e1 e2 hw0 k1
            go_wp2
            go_ret
            exact ⟨rfl, by rw [hlp.out]; exact S7.out⟩
        · obtain rfl : r1 = r := hso hp hid
          have hne : (b.id != id) = true := by simp [hid]
          clear hsn hso hsh hp hid HHi HUm HUs
          go_wp2_with fail
          generalize w2.alloc (.cells #[.int .i64 b.id, .int .i64 b.ver, .string b.data] 34) = w3 at S3 A3 ⊢
          obtain ⟨d0, d1, d2⟩ := A3.out.all
          go_wp2
          go_roundw
          case rel => exact ⟨i + 1, by omega, by go_num, by rw [HR1.out], by rw [HR1.out]; exact hz, by rw [HR1.out]; exact S3.out⟩
          case measure => simp [RowKit.intOf]; omega
    · have hlI : ¬ ((i : Int) < (n : Int)) := by omega
      obtain rfl : i = n := by omega
      have hno := HNone.out hz
      have hso := HSome.out hz
      have HFew := Lib.hid (show (dk (readB s) id s i).2.1.n ≤ 1000000 ∧ (dk (readB s) id s i).2.1.wait.length ≤ 1000 from ⟨by have := HDi.out.few; omega, by have := HDi.out.wt; omega⟩)
      generalize dk (readB s) id s i = r at hno hso HFew hz HS HDi ⊢
      cases hf : r.2.2
      case false =>
        obtain ⟨rfl, rfl⟩ := hno hf
        obtain rfl : dY = L := HY0.out (by decide)
        have hlp := Lib.hid (show lostP false 3 = false from by decide)
        clear hno hso hf
        go_wp2
        go_ret
        exact ⟨rfl, by rw [hlp.out]; exact HS.out⟩
      case true =>
        obtain ⟨e1, e2⟩ := hso hf
        have HSy := Lib.hid (rsg_sync HS.out HDi.out.good HFew.out.1)
        have HBad := Lib.hid (show dE ≠ 0 → dE = 70 from fun e => by rw [e1] at e ⊢; exact sync_bad e)
        rw [← e1, ← e2] at HSy
        clear hno hso hf e1 e2 c3
        go_wp2_with fail
        go_at_call 112
        refine HSy.out.mono ?_
        rintro e w3 ⟨rfl, k2⟩
        have S3 := Lib.hid k2
        clear k2 c0 c1 HS
        by_cases hd0 : dE = 0
        · obtain rfl : dY = woL L id := HY1.out hd0
          subst hd0
          have hlp := Lib.hid (show lostP false 0 = false from by decide)
          have HA := Lib.hid (rsg_at S3.out id)
          rcases wo_cases HGL.out id with ⟨e1, e2⟩ | ⟨k, e1, e2, e3⟩
          · rw [e1] at HA
            have HE := Lib.hid e2
            clear e1 e2
            go_wp2_with fail
            go_at_call 42
            refine HA.out.mono ?_
            rintro e w' ⟨rfl, rfl⟩
            go_wp2
            go_ret
            exact ⟨rfl, by rw [hlp.out, HE.out]; exact S3.out⟩
          · rw [e1] at HA
            have HE := Lib.hid e3
            obtain ⟨g, c1, ⟨x0, x1, x2, s0, s1, s2⟩, ⟨f0, f1, f2⟩, k1⟩ := S3.out.setNone e2
            have S4 := Lib.hid k1
            have hkI : (k : Int) < (L.length : Int) := by omega
            have hk0 : (0 : Int) ≤ (k : Int) := by omega
            clear e1 e2 e3 k1
            generalize L.length = m at c1 hkI
            go_wp2_with fail
            go_at_call 42
            refine HA.out.mono ?_
            rintro e w' ⟨rfl, rfl⟩
            go_wp2
            go_ret
            exact ⟨rfl, by rw [hlp.out, HE.out]; exact S4.out⟩
        · have hd70 := HBad.out hd0
          subst hd70
          obtain rfl : dY = L := HY0.out (by decide)
          have hlp := Lib.hid (show lostP false 70 = true from by decide)
          obtain ⟨-, c3⟩ := S3.out.c0
          obtain ⟨k1, f3⟩ := S3.out.setLost
          have S4 := Lib.hid k1
          clear hd0 k1
          go_wp2
          go_ret
          exact ⟨rfl, by rw [hlp.out]; exact S4.out⟩
end Go.Proofs.YtmmpknfkncgjpaaGreatDoor
