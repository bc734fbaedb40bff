/-
  Record (package shelf), by a contract; strings.HasPrefix, strings.CutPrefix, strings.Repeat as it calls them.
-/
import Derived.Test.YtacdbfaoeioflaaGreatDoorWrong
import Derived.Test.YtacdbfaoeioflaaGreatDoorLive
import Derived.Test.YtacdbfaoeioflaaGreatDoorLayRep
namespace Go.Proofs.YtacdbfaoeioflaaGreatDoor
open Go.RowKit Go.PlainAid Go.Lib

/-! ### the library's texts -/
theorem repExtra : Builder.Extra Tryz.prog repA_ren := { sizeBuilder := by kernel_rfl, liesBuilder := by kernel_rfl, t5 := repA.t5, a5 := repA.a5, z5 := repA.z5, v5 := repA.v5, infoByte := by kernel_rfl, cellsByte := by kernel_rfl, sizeByte := by kernel_rfl, neB5 := by decide }
theorem rep0 : ∀ c, Lib.repeatL [0] c = List.replicate c 0
  | 0 => rfl
  | c + 1 => by show [0] ++ Lib.repeatL [0] c = _; rw [rep0 c]; rfl
theorem repeat_any (c : Nat) (w : World) (hc : c ≤ 16) :
    Calls Tryz.prog 91 #[.string ⟨#[0]⟩, .int .i64 (c : Int)] w fun e w' => e = .returned (.string (str (zeros c))) ∧ Below w.heap.size w w' := by
  have h := Any.strings_Repeat repA repExtra (⟨#[0]⟩ : ByteArray) c w (by omega) (by show 1 * c ≤ _; omega)
  refine Calls.mono (show Calls Tryz.prog 91 #[.string ⟨#[0]⟩, .int .i64 (c : Int)] w _ from h) ?_
  rintro e w' ⟨rfl, hb⟩
  refine ⟨?_, hb⟩
  congr 2
  unfold str zeros
  congr 2
  exact rep0 c
theorem one_list : (⟨#[1]⟩ : ByteArray).toList = [1] := by decide +kernel
/-- Does s begin with the mark? -/
def pfx (s : ByteArray) : Bool := decide (s.extract 0 1 = ⟨#[1]⟩)
set_option maxRecDepth 100000 in
theorem hasP_any (s : ByteArray) (w : World) :
    Calls Tryz.prog 93 #[.string s, .string ⟨#[1]⟩] w fun e w' => e = .returned (.bool (pfx s)) ∧ w = w' := by
  by_cases h : 1 ≤ s.size
  · have hI : (1 : Int) ≤ (s.size : Int) := by omega
    by_cases hp : s.extract 0 1 = ⟨#[1]⟩
    · have e : pfx s = true := decide_eq_true hp
      rw [e]
      have he : ((s.extract 0 1).toList == [1]) = true := one_list ▸ str_eq hp
      go_enter Tryz.func93, Tryz.ntmps93
      go_wp2
      go_ret
      exact ⟨rfl, rfl⟩
    · have e : pfx s = false := decide_eq_false hp
      rw [e]
      have he : ((s.extract 0 1).toList == [1]) = false := one_list ▸ str_ne hp
      go_enter Tryz.func93, Tryz.ntmps93
      go_wp2
      go_ret
      exact ⟨rfl, rfl⟩
  · have hI : ¬ ((1 : Int) ≤ (s.size : Int)) := by omega
    have e : pfx s = false := decide_eq_false fun hp => by
      have := congrArg ByteArray.size hp
      rw [ByteArray.size_extract] at this
      have h1 : (⟨#[1]⟩ : ByteArray).size = 1 := rfl
      omega
    rw [e]
    go_enter Tryz.func93, Tryz.ntmps93
    go_wp2
    go_ret
    exact ⟨rfl, rfl⟩
theorem hasPrefix_any (s : ByteArray) (w : World) :
    Calls Tryz.prog 74 #[.string s, .string ⟨#[1]⟩] w fun e w' => e = .returned (.bool (pfx s)) ∧ w = w' := by
  have HP := Lib.hid (hasP_any s w)
  go_enter Tryz.func74, Tryz.ntmps74
  go_wp2_with fail
  go_at_call 93
  refine HP.out.mono ?_
  rintro e w' ⟨rfl, rfl⟩
  go_wp2
  go_ret
  exact ⟨rfl, rfl⟩
theorem pfx_size {s : ByteArray} (h : pfx s = true) : 1 ≤ s.size := by
  have hp := of_decide_eq_true h
  have := congrArg ByteArray.size hp
  rw [ByteArray.size_extract] at this
  have h1 : (⟨#[1]⟩ : ByteArray).size = 1 := rfl
  omega
set_option maxRecDepth 100000 in
theorem cutP_any (s : ByteArray) (w : World) :
    Calls Tryz.prog 88 #[.string s, .string ⟨#[1]⟩] w fun e w' => e = .returned (.tuple #[.string (if pfx s then s.extract 1 s.size else s), .bool (pfx s)]) ∧ w = w' := by
  have HP := Lib.hid (hasP_any s w)
  cases hp : pfx s
  · rw [hp] at HP
    rw [if_neg (by simp)]
    clear hp
    go_enter Tryz.func88, Tryz.ntmps88
    go_wp2_with fail
    go_at_call 93
    refine HP.out.mono ?_
    rintro e w' ⟨rfl, rfl⟩
    go_wp2
    go_returns
    exact ⟨rfl, rfl⟩
  · have h1 := pfx_size hp
    have hI : (1 : Int) ≤ (s.size : Int) := by omega
    rw [hp] at HP
    rw [if_pos rfl]
    clear hp
    go_enter Tryz.func88, Tryz.ntmps88
    go_wp2_with fail
    go_at_call 93
    refine HP.out.mono ?_
    rintro e w' ⟨rfl, rfl⟩
    go_wp2
    go_returns
    exact ⟨rfl, rfl⟩
theorem cutPrefix_any (s : ByteArray) (w : World) :
    Calls Tryz.prog 70 #[.string s, .string ⟨#[1]⟩] w fun e w' => e = .returned (.tuple #[.string (if pfx s then s.extract 1 s.size else s), .bool (pfx s)]) ∧ w = w' := by
  obtain ⟨q, hq⟩ : ∃ q, (if pfx s then s.extract 1 s.size else s) = q := ⟨_, rfl⟩
  have HP := Lib.hid (cutP_any s w)
  rw [hq] at HP ⊢
  go_enter Tryz.func70, Tryz.ntmps70
  go_wp2_with fail
  go_at_call 88
  refine HP.out.mono ?_
  rintro e w' ⟨rfl, rfl⟩
  go_wp2
  go_returns
  exact ⟨rfl, rfl⟩

/-! ### Record -/
def recV (b : Bk) (m : Int) : ByteArray := if refE b m = 0 then recB b m else ⟨#[]⟩
theorem recV_yes {b : Bk} {m : Int} (h : refE b m = 0) : recV b m = recB b m := if_pos h
theorem recV_no {b : Bk} {m : Int} (h : refE b m ≠ 0) : recV b m = ⟨#[]⟩ := if_neg h
theorem leb_mark {m : Int} (h0 : 0 ≤ m) (h1 : m ≤ 1) : leb m 1 = [m] := by
  have : m % 256 = m := by omega
  simp [leb, this]
theorem body_parts (b : Bk) : ((strOfNums (leb b.id 1) ++ strOfNums (leb b.ver 8)) ++ strOfNums (leb b.data.size 2)) ++ b.data ++ str (zeros (16 - b.data.size)) = bodyB b := by
  unfold bodyB hdr
  rw [nums_append, nums_append]

set_option maxRecDepth 100000 in
set_option maxHeartbeats 4000000 in
theorem record_any (b : Bk) (m : Int) (w : World) (hT : Tab w) (hd : b.data.size ≤ 100000) :
    Calls Tryz.prog 73 #[b.val, .int .i64 m] w fun e w' => e = .returned (.tuple #[.string (recV b m), .int .i64 (refE b m)]) ∧ Below w.heap.size w w' := by
  have hb0 : Below w.heap.size w (w.alloc (.cells b.cells 37)) := (Below.refl _ _).alloc (Nat.le_refl _) _
  have X0 := Lib.hid (BC.new w b 37)
  have T0 := Lib.hid (hT.below hb0)
  have B0 := Lib.hid hb0
  have HW := Lib.hid (fun w => wrong_any b m w)
  have hfw := find_wrong b m
  obtain ⟨r, hr⟩ : ∃ r, refE b m = r := ⟨_, rfl⟩
  rw [hr] at hfw ⊢
  have FW := Lib.hid hfw
  have Hr := Lib.hid hr
  clear hT hb0 hfw hr
  obtain ⟨c0, c1, c2⟩ := X0.out
  go_enter Tryz.func73, Tryz.ntmps73
  go_wp2_with fail
  go_at_call 78
  refine (HW.out _).mono ?_
  rintro e w1 ⟨v, rfl, k1, k2⟩
  have V1 := Lib.hid k1
  have B1 := Lib.hid (B0.out.trans (k2.mono B0.out.size))
  have X1 := Lib.hid (X0.out.below k2)
  have T1 := Lib.hid (T0.out.below k2)
  clear k1 k2 c0 c1 c2
  go_wp2_with fail
  have hb2 : Below w1.heap.size w1 (w1.alloc (.cells #[.int .i64 1, .int .i64 11] 30)) := (Below.refl _ _).alloc (Nat.le_refl _) _
  have HF := Lib.hid (find_any 1 w1.heap.size 2 2 v (wrongL b m) [1, 11] _ (V1.out.below hb2) rfl (by omega) (fun j x hx => by
    rcases j with _ | _ | j
    · simp at hx; subst hx; simp
    · simp at hx; subst hx; simp
    · simp at hx))
  have B2 := Lib.hid (B1.out.trans (hb2.mono B1.out.size))
  have X2 := Lib.hid (X1.out.below hb2)
  have T2 := Lib.hid (T1.out.below hb2)
  rw [FW.out] at HF
  clear hb2
  generalize w1.alloc (.cells #[.int .i64 1, .int .i64 11] 30) = w2 at HF B2 X2 T2 ⊢
  go_at_call 47
  refine HF.out.mono ?_
  rintro e w' ⟨rfl, rfl⟩
  by_cases h0 : r = 0
  · obtain ⟨hok, hsz⟩ := refE_zero.1 (Hr.out.trans h0)
    have hm0 := hok.2.2.2.2.1
    have hm1 := hok.2.2.2.2.2
    have hv := Lib.hid (recV_yes (Hr.out.trans h0))
    subst h0
    have D1 := Lib.hid (fun w => toB1 b.id w)
    have D8 := Lib.hid (fun w => toB8 b.ver w)
    have D2 := Lib.hid (fun w => toB2 (b.data.size : Int) w)
    have DM := Lib.hid (fun w => leb_mark hm0 hm1 ▸ toB1 m w)
    have s1 : (strOfNums (leb b.id 1)).size = 1 := by rw [strOfNums_size, leb_len _ _ (by omega)]
    have s8 : (strOfNums (leb b.ver 8)).size = 8 := by rw [strOfNums_size, leb_len _ _ (by omega)]
    have s2 : (strOfNums (leb (b.data.size : Int) 2)).size = 2 := by rw [strOfNums_size, leb_len _ _ (by omega)]
    have sm : (strOfNums [m]).size = 1 := by rw [strOfNums_size]; rfl
    have bp := body_parts b
    generalize strOfNums (leb b.id 1) = a1 at D1 s1 bp
    generalize strOfNums (leb b.ver 8) = a8 at D8 s8 bp
    generalize strOfNums (leb (b.data.size : Int) 2) = a2 at D2 s2 bp
    obtain ⟨am, ham⟩ : ∃ am, strOfNums [m] = am := ⟨_, rfl⟩
    rw [ham] at DM sm
    have Ham := Lib.hid ham
    have BP := Lib.hid bp
    obtain ⟨dc, hdc⟩ : ∃ dc : Nat, 16 - b.data.size = dc := ⟨_, rfl⟩
    have hz : (16 : Int) - (b.data.size : Int) = (dc : Int) := by omega
    have hdc16 : dc ≤ 16 := by omega
    have DZ := Lib.hid (fun w => repeat_any dc w hdc16)
    rw [hdc] at BP
    clear ham bp hok hm0 hm1 hdc
    have X3 := Lib.hid (X2.out.below (w' := w2.drew) ((Below.refl _ _).drew))
    have T3 := Lib.hid (T2.out.below (w' := w2.drew) ((Below.refl _ _).drew))
    have B3 := Lib.hid (B2.out.drew)
    obtain ⟨c0, c1, c2⟩ := X2.out
    go_wp2_with fail
    clear c0 c1 c2
    go_region_held3 (fun w' => w'.cell? ⟨w.heap.size, 0, none⟩ = some (.int .i64 b.id) ∧ w'.cell? ⟨w.heap.size, 1, none⟩ = some (.int .i64 b.ver) ∧ w'.cell? ⟨w.heap.size, 2, none⟩ = some (.string b.data))
      (first | exact X3.out | exact X4.out | exact X5.out | exact X6.out | fail)
      (first
        | (go_at_call 90; with_reducible refine (D1.out _).mono ?_; rintro e w4 ⟨rfl, k2⟩; have X4 := Lib.hid (X3.out.below k2); have T4 := Lib.hid (T3.out.below k2); have B4 := Lib.hid (B3.out.trans (k2.mono B3.out.size)); clear k2)
        | (go_at_call 90; with_reducible refine (D8.out _).mono ?_; rintro e w5 ⟨rfl, k2⟩; have X5 := Lib.hid (X4.out.below k2); have T5 := Lib.hid (T4.out.below k2); have B5 := Lib.hid (B4.out.trans (k2.mono B4.out.size)); clear k2)
        | (go_at_call 90; with_reducible refine (D2.out _).mono ?_; rintro e w6 ⟨rfl, k2⟩; have X6 := Lib.hid (X5.out.below k2); have T6 := Lib.hid (T5.out.below k2); have B6 := Lib.hid (B5.out.trans (k2.mono B5.out.size)); clear k2)
        | fail)
    obtain ⟨c0, c1, c2⟩ := X6.out
    go_wp2_with fail
    go_at_call 91
    refine (DZ.out _).mono ?_
    rintro e w7 ⟨rfl, k2⟩
    have X7 := Lib.hid (X6.out.below k2)
    have T7 := Lib.hid (T6.out.below k2)
    have B7 := Lib.hid (B6.out.trans (k2.mono B6.out.size))
    clear k2 c0 c1 c2
    have sz : (str (zeros dc)).size = dc := by rw [str_size]; simp [zeros]
    obtain ⟨zs, hzs⟩ : ∃ zs, str (zeros dc) = zs := ⟨_, rfl⟩
    rw [hzs] at sz BP
    have ssb := sealB_size hsz
    have hbs := bodyB_size hsz
    have hsl := Lib.hid (fun w (T : Tab w) => seal_any (bodyB b) w T (by omega))
    obtain ⟨sb, hsb⟩ : ∃ sb, sealB b = sb := ⟨_, rfl⟩
    rw [hsb] at ssb
    have DS := Lib.hid (fun w (T : Tab w) => show Calls Tryz.prog 92 #[.string (a1 ++ a8 ++ a2 ++ b.data ++ zs)] w fun e w' => e = .returned (.string sb) ∧ Below w.heap.size w w' from by rw [BP.out, ← hsb]; exact hsl.out w T)
    have hrec := Lib.hid (show recB b m = am ++ sb from by rw [← Ham.out, ← hsb]; rfl)
    clear hsl hbs hsb
    rw [hzs]
    clear hzs
    have z1 : (a1 ++ a8 ++ a2).size = 11 := by rw [ByteArray.size_append, ByteArray.size_append]; omega
    have z2 : (a1 ++ a8 ++ a2 ++ b.data).size ≤ 27 := by rw [ByteArray.size_append]; omega
    have z3 : (a1 ++ a8 ++ a2 ++ b.data ++ zs).size ≤ 43 := by rw [ByteArray.size_append]; omega
    obtain ⟨dd, hdd⟩ : ∃ dd, (a1 ++ a8 ++ a2 ++ b.data) = dd := ⟨_, rfl⟩
    obtain ⟨aa, haa⟩ : ∃ aa, (a1 ++ a8 ++ a2) = aa := ⟨_, rfl⟩
    rw [haa] at z1 z2 z3 DS ⊢
    clear haa hdd
    have q1 : ¬9223372036854775807 < 11 + b.data.size := by omega
    have q2 : ¬9223372036854775807 < 11 + b.data.size + dc := by omega
    have X8 := Lib.hid (X7.out.below (w' := w7.drew) ((Below.refl _ _).drew))
    have T8 := Lib.hid (T7.out.below (w' := w7.drew) ((Below.refl _ _).drew))
    have B8 := Lib.hid (B7.out.drew)
    go_wp2_with fail
    go_region_held3 (fun w' => w'.cell? ⟨w.heap.size, 0, none⟩ = some (.int .i64 b.id) ∧ w'.cell? ⟨w.heap.size, 1, none⟩ = some (.int .i64 b.ver) ∧ w'.cell? ⟨w.heap.size, 2, none⟩ = some (.string b.data))
      (first | exact X8.out | exact X9.out | exact XA.out | fail)
      (first
        | (go_at_call 90; with_reducible refine (DM.out _).mono ?_; rintro e w9 ⟨rfl, k2⟩; have X9 := Lib.hid (X8.out.below k2); have T9 := Lib.hid (T8.out.below k2); have B9 := Lib.hid (B8.out.trans (k2.mono B8.out.size)); clear k2)
        | (go_at_call 92; with_reducible refine (DS.out _ T9.out).mono ?_; rintro e wA ⟨rfl, k2⟩; have XA := Lib.hid (X9.out.below k2); have BA := Lib.hid (B9.out.trans (k2.mono B9.out.size)); clear k2)
        | fail)
    go_wp2
    go_returns
    exact ⟨by rw [hv.out, hrec.out]; rfl, BA.out⟩
  · have hv := Lib.hid (recV_no (fun e => h0 (Hr.out.symm.trans e)))
    have hr0 : (r == 0) = false := by simpa using h0
    go_wp2
    go_returns
    exact ⟨by rw [hv.out]; rfl, B2.out⟩
end Go.Proofs.YtacdbfaoeioflaaGreatDoor
