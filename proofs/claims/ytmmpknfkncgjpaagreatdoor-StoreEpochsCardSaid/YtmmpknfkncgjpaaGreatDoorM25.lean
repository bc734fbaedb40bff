/-
  Record (package shelf), by a contract; strings.HasPrefix, strings.CutPrefix, strings.Repeat as it calls them.

  Parse (package shelf), by a contract.
-/
import Derived.Test.YtmmpknfkncgjpaaGreatDoorM24
import Derived.Test.YtmmpknfkncgjpaaGreatDoorM21
import Derived.Test.YtmmpknfkncgjpaaGreatDoorM19
import Derived.Laws.Tables
namespace Go.Proofs.YtmmpknfkncgjpaaGreatDoor
open Go.RowKit Go.PlainAid Go.Lib

/-! ### the library's texts -/
theorem repExtra : Builder.Extra Tryz.prog repA_ren := { sizeBuilder := by kernel_rfl, liesBuilder := by kernel_rfl, t5 := repA.t5, a5 := repA.a5, z5 := repA.z5, v5 := repA.v5, infoByte := by kernel_rfl, cellsByte := by kernel_rfl, sizeByte := by kernel_rfl, neB5 := by decide }
theorem rep0 : ∀ c, Lib.repeatL [0] c = List.replicate c 0
  | 0 => rfl
  | c + 1 => by show [0] ++ Lib.repeatL [0] c = _; rw [rep0 c]; rfl
theorem repeat_any (c : Nat) (w : World) (hc : c ≤ 16) :
    Calls Tryz.prog 147 #[.string ⟨#[0]⟩, .int .i64 (c : Int)] w fun e w' => e = .returned (.string (str (zeros c))) ∧ Below w.heap.size w w' := by
  have h := Any.strings_Repeat repA repExtra (⟨#[0]⟩ : ByteArray) c w (by omega) (by show 1 * c ≤ _; omega)
  refine Calls.mono (show Calls Tryz.prog 147 #[.string ⟨#[0]⟩, .int .i64 (c : Int)] w _ from h) ?_
  rintro e w' ⟨rfl, hb⟩
  refine ⟨?_, hb⟩
  congr 2
  unfold str zeros
  congr 2
  exact rep0 c
theorem one_list : (⟨#[1]⟩ : ByteArray).toList = [1] := by decide +kernel
/-- Does s begin with the mark? -/
def pfx (s : ByteArray) : Bool := decide (s.extract 0 1 = ⟨#[1]⟩)
set_option maxRecDepth 100000 in
theorem hasP_any (s : ByteArray) (w : World) :
    Calls Tryz.prog 149 #[.string s, .string ⟨#[1]⟩] w fun e w' => e = .returned (.bool (pfx s)) ∧ w = w' := by
  by_cases h : 1 ≤ s.size
  · have hI : (1 : Int) ≤ (s.size : Int) := by omega
    by_cases hp : s.extract 0 1 = ⟨#[1]⟩
    · have e : pfx s = true := decide_eq_true hp
      rw [e]
      have he : ((s.extract 0 1).toList == [1]) = true := one_list ▸ str_eq hp
      go_enter Tryz.func149, Tryz.ntmps149
      go_wp2
      go_ret
      exact ⟨rfl, rfl⟩
    · have e : pfx s = false := decide_eq_false hp
      rw [e]
      have he : ((s.extract 0 1).toList == [1]) = false := one_list ▸ str_ne hp
      go_enter Tryz.func149, Tryz.ntmps149
      go_wp2
      go_ret
      exact ⟨rfl, rfl⟩
  · have hI : ¬ ((1 : Int) ≤ (s.size : Int)) := by omega
    have e : pfx s = false := decide_eq_false fun hp => by
      have := congrArg ByteArray.size hp
      rw [ByteArray.size_extract] at this
      have h1 : (⟨#[1]⟩ : ByteArray).size = 1 := rfl
      omega
    rw [e]
    go_enter Tryz.func149, Tryz.ntmps149
    go_wp2
    go_ret
    exact ⟨rfl, rfl⟩
theorem hasPrefix_any (s : ByteArray) (w : World) :
    Calls Tryz.prog 126 #[.string s, .string ⟨#[1]⟩] w fun e w' => e = .returned (.bool (pfx s)) ∧ w = w' := by
  have HP := Lib.hid (hasP_any s w)
  go_enter Tryz.func126, Tryz.ntmps126
  go_wp2_with fail
  go_at_call 149
  refine HP.out.mono ?_
  rintro e w' ⟨rfl, rfl⟩
  go_wp2
  go_ret
  exact ⟨rfl, rfl⟩
theorem pfx_size {s : ByteArray} (h : pfx s = true) : 1 ≤ s.size := by
  have hp := of_decide_eq_true h
  have := congrArg ByteArray.size hp
  rw [ByteArray.size_extract] at this
  have h1 : (⟨#[1]⟩ : ByteArray).size = 1 := rfl
  omega
set_option maxRecDepth 100000 in
theorem cutP_any (s : ByteArray) (w : World) :
    Calls Tryz.prog 144 #[.string s, .string ⟨#[1]⟩] w fun e w' => e = .returned (.tuple #[.string (if pfx s then s.extract 1 s.size else s), .bool (pfx s)]) ∧ w = w' := by
  have HP := Lib.hid (hasP_any s w)
  cases hp : pfx s
  · rw [hp] at HP
    rw [if_neg (by simp)]
    clear hp
    go_enter Tryz.func144, Tryz.ntmps144
    go_wp2_with fail
    go_at_call 149
    refine HP.out.mono ?_
    rintro e w' ⟨rfl, rfl⟩
    go_wp2
    go_returns
    exact ⟨rfl, rfl⟩
  · have h1 := pfx_size hp
    have hI : (1 : Int) ≤ (s.size : Int) := by omega
    rw [hp] at HP
    rw [if_pos rfl]
    clear hp
    go_enter Tryz.func144, Tryz.ntmps144
    go_wp2_with fail
    go_at_call 149
    refine HP.out.mono ?_
    rintro e w' ⟨rfl, rfl⟩
    go_wp2
    go_returns
    exact ⟨rfl, rfl⟩
theorem cutPrefix_any (s : ByteArray) (w : World) :
    Calls Tryz.prog 122 #[.string s, .string ⟨#[1]⟩] w fun e w' => e = .returned (.tuple #[.string (if pfx s then s.extract 1 s.size else s), .bool (pfx s)]) ∧ w = w' := by
  obtain ⟨q, hq⟩ : ∃ q, (if pfx s then s.extract 1 s.size else s) = q := ⟨_, rfl⟩
  have HP := Lib.hid (cutP_any s w)
  rw [hq] at HP ⊢
  go_enter Tryz.func122, Tryz.ntmps122
  go_wp2_with fail
  go_at_call 144
  refine HP.out.mono ?_
  rintro e w' ⟨rfl, rfl⟩
  go_wp2
  go_returns
  exact ⟨rfl, rfl⟩

/-! ### Record -/
def recV (b : Bk) (m : Int) : ByteArray := if refE b m = 0 then recB b m else ⟨#[]⟩
theorem recV_yes {b : Bk} {m : Int} (h : refE b m = 0) : recV b m = recB b m := if_pos h
theorem recV_no {b : Bk} {m : Int} (h : refE b m ≠ 0) : recV b m = ⟨#[]⟩ := if_neg h
theorem leb_mark {m : Int} (h0 : 0 ≤ m) (h1 : m ≤ 1) : leb m 1 = [m] := by
  have : m % 256 = m := by omega
  simp [leb, this]
theorem body_parts (b : Bk) : ((strOfNums (leb b.id 1) ++ strOfNums (leb b.ver 8)) ++ strOfNums (leb b.data.size 2)) ++ b.data ++ str (zeros (16 - b.data.size)) = bodyB b := by
  unfold bodyB hdr
  rw [nums_append, nums_append]

set_option maxRecDepth 100000 in
set_option maxHeartbeats 4000000 in
theorem record_any (b : Bk) (m : Int) (w : World) (hT : Tab w) (hd : b.data.size ≤ 100000) :
    Calls Tryz.prog 125 #[b.val, .int .i64 m] w fun e w' => e = .returned (.tuple #[.string (recV b m), .int .i64 (refE b m)]) ∧ Below w.heap.size w w' := by
  have hb0 : Below w.heap.size w (w.alloc (.cells b.cells 34)) := (Below.refl _ _).alloc (Nat.le_refl _) _
  have X0 := Lib.hid (BC.new w b 34)
  have T0 := Lib.hid (hT.below hb0)
  have B0 := Lib.hid hb0
  have HW := Lib.hid (fun w => wrong_any b m w)
  have hfw := find_wrong b m
  obtain ⟨r, hr⟩ : ∃ r, refE b m = r := ⟨_, rfl⟩
  rw [hr] at hfw ⊢
  have FW := Lib.hid hfw
  have Hr := Lib.hid hr
  clear hT hb0 hfw hr
  obtain ⟨c0, c1, c2⟩ := X0.out
  go_enter Tryz.func125, Tryz.ntmps125
  go_wp2_with fail
  go_at_call 130
  refine (HW.out _).mono ?_
  rintro e w1 ⟨v, rfl, k1, k2⟩
  have V1 := Lib.hid k1
  have B1 := Lib.hid (B0.out.trans (k2.mono B0.out.size))
  have X1 := Lib.hid (X0.out.below k2)
  have T1 := Lib.hid (T0.out.below k2)
  clear k1 k2 c0 c1 c2
  go_wp2_with fail
  have hb2 : Below w1.heap.size w1 (w1.alloc (.cells #[.int .i64 1, .int .i64 11] 57)) := (Below.refl _ _).alloc (Nat.le_refl _) _
  have HF := Lib.hid (find_any 1 w1.heap.size 2 2 v (wrongL b m) [1, 11] _ (V1.out.below hb2) rfl (by omega) (fun j x hx => by
    rcases j with _ | _ | j
    · simp at hx; subst hx; simp
    · simp at hx; subst hx; simp
    · simp at hx))
  have B2 := Lib.hid (B1.out.trans (hb2.mono B1.out.size))
  have X2 := Lib.hid (X1.out.below hb2)
  have T2 := Lib.hid (T1.out.below hb2)
  rw [FW.out] at HF
  clear hb2
  generalize w1.alloc (.cells #[.int .i64 1, .int .i64 11] 57) = w2 at HF B2 X2 T2 ⊢
  go_at_call 102
  refine HF.out.mono ?_
  rintro e w' ⟨rfl, rfl⟩
  by_cases h0 : r = 0
  · obtain ⟨hok, hsz⟩ := refE_zero.1 (Hr.out.trans h0)
    have hm0 := hok.2.2.2.2.1
    have hm1 := hok.2.2.2.2.2
    have hv := Lib.hid (recV_yes (Hr.out.trans h0))
    subst h0
    have D1 := Lib.hid (fun w => toB1 b.id w)
    have D8 := Lib.hid (fun w => toB8 b.ver w)
    have D2 := Lib.hid (fun w => toB2 (b.data.size : Int) w)
    have DM := Lib.hid (fun w => leb_mark hm0 hm1 ▸ toB1 m w)
    have s1 : (strOfNums (leb b.id 1)).size = 1 := by rw [strOfNums_size, leb_len _ _ (by omega)]
    have s8 : (strOfNums (leb b.ver 8)).size = 8 := by rw [strOfNums_size, leb_len _ _ (by omega)]
    have s2 : (strOfNums (leb (b.data.size : Int) 2)).size = 2 := by rw [strOfNums_size, leb_len _ _ (by omega)]
    have sm : (strOfNums [m]).size = 1 := by rw [strOfNums_size]; rfl
    have bp := body_parts b
    generalize strOfNums (leb b.id 1) = a1 at D1 s1 bp
    generalize strOfNums (leb b.ver 8) = a8 at D8 s8 bp
    generalize strOfNums (leb (b.data.size : Int) 2) = a2 at D2 s2 bp
    obtain ⟨am, ham⟩ : ∃ am, strOfNums [m] = am := ⟨_, rfl⟩
    rw [ham] at DM sm
    have Ham := Lib.hid ham
    have BP := Lib.hid bp
    obtain ⟨dc, hdc⟩ : ∃ dc : Nat, 16 - b.data.size = dc := ⟨_, rfl⟩
    have hz : (16 : Int) - (b.data.size : Int) = (dc : Int) := by omega
    have hdc16 : dc ≤ 16 := by omega
    have DZ := Lib.hid (fun w => repeat_any dc w hdc16)
    rw [hdc] at BP
    clear ham bp hok hm0 hm1 hdc
    have X3 := Lib.hid (X2.out.below (w' := w2.drew) ((Below.refl _ _).drew))
    have T3 := Lib.hid (T2.out.below (w' := w2.drew) ((Below.refl _ _).drew))
    have B3 := Lib.hid (B2.out.drew)
    obtain ⟨c0, c1, c2⟩ := X2.out
    go_wp2_with fail
    clear c0 c1 c2
    go_region_held3 (fun w' => w'.cell? ⟨w.heap.size, 0, none⟩ = some (.int .i64 b.id) ∧ w'.cell? ⟨w.heap.size, 1, none⟩ = some (.int .i64 b.ver) ∧ w'.cell? ⟨w.heap.size, 2, none⟩ = some (.string b.data))
      (first | exact X3.out | exact X4.out | exact X5.out | exact X6.out | fail)
      (first
        | (go_at_call 146; with_reducible refine (D1.out _).mono ?_; rintro e w4 ⟨rfl, k2⟩; have X4 := Lib.hid (X3.out.below k2); have T4 := Lib.hid (T3.out.below k2); have B4 := Lib.hid (B3.out.trans (k2.mono B3.out.size)); clear k2)
        | (go_at_call 146; with_reducible refine (D8.out _).mono ?_; rintro e w5 ⟨rfl, k2⟩; have X5 := Lib.hid (X4.out.below k2); have T5 := Lib.hid (T4.out.below k2); have B5 := Lib.hid (B4.out.trans (k2.mono B4.out.size)); clear k2)
        | (go_at_call 146; with_reducible refine (D2.out _).mono ?_; rintro e w6 ⟨rfl, k2⟩; have X6 := Lib.hid (X5.out.below k2); have T6 := Lib.hid (T5.out.below k2); have B6 := Lib.hid (B5.out.trans (k2.mono B5.out.size)); clear k2)
        | fail)
    obtain ⟨c0, c1, c2⟩ := X6.out
    go_wp2_with fail
    go_at_call 147
    refine (DZ.out _).mono ?_
    rintro e w7 ⟨rfl, k2⟩
    have X7 := Lib.hid (X6.out.below k2)
    have T7 := Lib.hid (T6.out.below k2)
    have B7 := Lib.hid (B6.out.trans (k2.mono B6.out.size))
    clear k2 c0 c1 c2
    have sz : (str (zeros dc)).size = dc := by rw [str_size]; simp [zeros]
    obtain ⟨zs, hzs⟩ : ∃ zs, str (zeros dc) = zs := ⟨_, rfl⟩
    rw [hzs] at sz BP
    have ssb := sealB_size hsz
    have hbs := bodyB_size hsz
    have hsl := Lib.hid (fun w (T : Tab w) => seal_any (bodyB b) w T (by omega))
    obtain ⟨sb, hsb⟩ : ∃ sb, sealB b = sb := ⟨_, rfl⟩
    rw [hsb] at ssb
    have DS := Lib.hid (fun w (T : Tab w) => show Calls Tryz.prog 148 #[.string (a1 ++ a8 ++ a2 ++ b.data ++ zs)] w fun e w' => e = .returned (.string sb) ∧ Below w.heap.size w w' from by rw [BP.out, ← hsb]; exact hsl.out w T)
    have hrec := Lib.hid (show recB b m = am ++ sb from by rw [← Ham.out, ← hsb]; rfl)
    clear hsl hbs hsb
    rw [hzs]
    clear hzs
    have z1 : (a1 ++ a8 ++ a2).size = 11 := by rw [ByteArray.size_append, ByteArray.size_append]; omega
    have z2 : (a1 ++ a8 ++ a2 ++ b.data).size ≤ 27 := by rw [ByteArray.size_append]; omega
    have z3 : (a1 ++ a8 ++ a2 ++ b.data ++ zs).size ≤ 43 := by rw [ByteArray.size_append]; omega
    obtain ⟨dd, hdd⟩ : ∃ dd, (a1 ++ a8 ++ a2 ++ b.data) = dd := ⟨_, rfl⟩
    obtain ⟨aa, haa⟩ : ∃ aa, (a1 ++ a8 ++ a2) = aa := ⟨_, rfl⟩
    rw [haa] at z1 z2 z3 DS ⊢
    clear haa hdd
    have q1 : ¬9223372036854775807 < 11 + b.data.size := by omega
    have q2 : ¬9223372036854775807 < 11 + b.data.size + dc := by omega
    have X8 := Lib.hid (X7.out.below (w' := w7.drew) ((Below.refl _ _).drew))
    have T8 := Lib.hid (T7.out.below (w' := w7.drew) ((Below.refl _ _).drew))
    have B8 := Lib.hid (B7.out.drew)
    go_wp2_with fail
    go_region_held3 (fun w' => w'.cell? ⟨w.heap.size, 0, none⟩ = some (.int .i64 b.id) ∧ w'.cell? ⟨w.heap.size, 1, none⟩ = some (.int .i64 b.ver) ∧ w'.cell? ⟨w.heap.size, 2, none⟩ = some (.string b.data))
      (first | exact X8.out | exact X9.out | exact XA.out | fail)
      (first
        | (go_at_call 146; with_reducible refine (DM.out _).mono ?_; rintro e w9 ⟨rfl, k2⟩; have X9 := Lib.hid (X8.out.below k2); have T9 := Lib.hid (T8.out.below k2); have B9 := Lib.hid (B8.out.trans (k2.mono B8.out.size)); clear k2)
        | (go_at_call 148; with_reducible refine (DS.out _ T9.out).mono ?_; rintro e wA ⟨rfl, k2⟩; have XA := Lib.hid (X9.out.below k2); have BA := Lib.hid (B9.out.trans (k2.mono B9.out.size)); clear k2)
        | fail)
    go_wp2
    go_returns
    exact ⟨by rw [hv.out, hrec.out]; rfl, BA.out⟩
  · have hv := Lib.hid (recV_no (fun e => h0 (Hr.out.symm.trans e)))
    have hr0 : (r == 0) = false := by simpa using h0
    go_wp2
    go_returns
    exact ⟨by rw [hv.out]; rfl, B2.out⟩
end Go.Proofs.YtmmpknfkncgjpaaGreatDoor

namespace Go.Proofs.YtmmpknfkncgjpaaGreatDoor
open Go.RowKit Go.PlainAid Go.Lib

/-- The block x is all that block b has. -/
def AB (w : World) (b : Nat) (x : Bk) : Prop := w.heap[b]? = some (.cells x.cells 34 (0, 0))
theorem AB.fresh (w : World) (x : Bk) : AB (w.alloc (.cells x.cells 34)) w.heap.size x := heap_alloc_new w _
theorem AB.lt {w : World} {b : Nat} {x : Bk} (h : AB w b x) : b < w.heap.size := (Array.getElem?_eq_some_iff.1 h).1
theorem AB.below {w w' : World} {b : Nat} {x : Bk} (h : AB w b x) (hb : Below w.heap.size w w') : AB w' b x := by
  unfold AB; rw [hb.block b h.lt]; exact h
theorem AB.cell {w : World} {b : Nat} {x : Bk} (h : AB w b x) (i : Nat) : w.cell? ⟨b, i, none⟩ = x.cells[i]? := by
  unfold World.cell?; simp only [show w.heap[b]? = _ from h]; rfl
theorem AB.all {w : World} {b : Nat} {x : Bk} (h : AB w b x) : w.cell? ⟨b, 0, none⟩ = some (.int .i64 x.id) ∧ w.cell? ⟨b, 1, none⟩ = some (.int .i64 x.ver) ∧ w.cell? ⟨b, 2, none⟩ = some (.string x.data) := ⟨h.cell 0, h.cell 1, h.cell 2⟩
theorem AB.free {w : World} {b : Nat} {x : Bk} (h : AB w b x) (i : Nat) : w.frozen? ⟨b, i, none⟩ = false := by
  unfold World.frozen?; simp only [show w.heap[b]? = _ from h]; simp
theorem AB.frees {w : World} {b : Nat} {x : Bk} (h : AB w b x) : w.frozen? ⟨b, 0, none⟩ = false ∧ w.frozen? ⟨b, 1, none⟩ = false ∧ w.frozen? ⟨b, 2, none⟩ = false := ⟨h.free 0, h.free 1, h.free 2⟩
theorem wpList_store_bk {ops : Array Oper} {rest : List Oper} {o : Oper} {a : Act} {w : World} {Q : Exit → Act → World → Prop} (hgd : o.guard = none) (x y : Operand) (ho : o.op = .store 34 x y)
    (D : Nat) (m m0 : Bk) (hx : a.eval x = .pointer (some ⟨D, 0, none⟩)) (hy : a.eval y = m.val) (hD : AB w D m0)
    (h : ∀ wF, AB wF D m → Below D w wF → wpList Tryz.prog ops Q rest (a.put o.dst undef) wF) : wpList Tryz.prog ops Q (o :: rest) a w :=
  wpList_store_row hgd 34 x y ho D m.cells hx hy 34 m0.cells hD (by kernel_rfl) rfl (by simp [Bk.cells, Value.oneCell'])
    (h _ (setRow_heap w D m0.cells m.cells _ _ hD) (below_setRow (Below.refl D w) (Nat.le_refl D) m.cells))

/-- What Parse answers. -/
noncomputable def parseB (s : ByteArray) : Bk := (parse s).getD Bk.zero
noncomputable def parseI (s : ByteArray) : Bool := (parse s).isSome
theorem parseB_none {s : ByteArray} (h : parse s = none) : parseB s = Bk.zero ∧ parseI s = false := by unfold parseB parseI; rw [h]; exact ⟨rfl, rfl⟩
theorem parseB_some {s : ByteArray} {b : Bk} (h : parse s = some b) : parseB s = b ∧ parseI s = true := by unfold parseB parseI; rw [h]; exact ⟨rfl, rfl⟩
theorem rec_split (c : Bk) (m : Int) : (recB c m).extract 0 1 = strOfNums [m] ∧ (recB c m).extract 1 (recB c m).size = sealB c := by
  have h1 : (strOfNums [m]).size = 1 := by rw [strOfNums_size]; rfl
  unfold recB
  exact ⟨by have := app_left (strOfNums [m]) (sealB c); rwa [h1] at this, by have := app_right (strOfNums [m]) (sealB c); rwa [h1] at this⟩
theorem pfx_rec (c : Bk) : pfx (recB c 1) = true := decide_eq_true (by rw [(rec_split c 1).1]; rfl)
theorem parse_nopfx {s : ByteArray} (h : pfx s = false) : parse s = none := parse_none fun c _ he => by rw [← he, pfx_rec] at h; cases h
/-- What stands behind the mark is not sealed, or of another size. -/
theorem parse_notopen {s : ByteArray} (h : (openOf (s.extract 1 s.size)).2 = false ∨ (openOf (s.extract 1 s.size)).1.size ≠ 27) : parse s = none := parse_none fun c hc he => by
  have h1 : openOf (s.extract 1 s.size) = (bodyB c, true) := by rw [← he, (rec_split c 1).2]; exact sealB_open c
  rw [h1] at h
  rcases h with h | h
  · cases h
  · exact h (bodyB_size (refE_zero.1 hc).2)
/-- What is read out of a body. -/
def readBk (B : ByteArray) (v : Int) (n : Nat) : Bk := ⟨lev (B.extract 0 1) 1, v, B.extract 11 (11 + n)⟩
theorem parse_read {s B : ByteArray} (h : openOf (s.extract 1 s.size) = (B, true)) {v : Int} {n : Nat} (hv : (bt (B.extract 1 9) 7 ≤ 127 → v = lev (B.extract 1 9) 8)) (hn : (n : Int) = min (lev (B.extract 9 11) 2) 16) :
    (refE (readBk B v n) 1 = 0 ∧ recB (readBk B v n) 1 = s → parse s = some (readBk B v n)) ∧ (¬ (refE (readBk B v n) 1 = 0 ∧ recB (readBk B v n) 1 = s) → parse s = none) := by
  refine ⟨fun ⟨h1, h2⟩ => parse_of h1 h2, fun hno => parse_none fun c hc he => hno ?_⟩
  have h1 : openOf (s.extract 1 s.size) = (bodyB c, true) := by rw [← he, (rec_split c 1).2]; exact sealB_open c
  rw [h] at h1
  have hB : B = bodyB c := (Prod.mk.inj h1).1
  subst hB
  have e1 := body_id c hc
  have e2 := body_ver c hc
  have e3 := body_len c hc
  have e4 := (refE_zero.1 hc).2
  have e5 : n = c.data.size := by rw [e3] at hn; omega
  have : readBk (bodyB c) v n = c := by
    unfold readBk
    rw [e1, hv e2.2, e2.1, e5, body_data]
  rw [this]
  exact ⟨hc, he⟩
theorem lev2_in (s : ByteArray) : 0 ≤ lev s 2 ∧ lev s 2 ≤ 65535 := by
  have h0 := bt_in s 0
  have h1 := bt_in s 1
  simp only [lev]
  omega
theorem lev1_in (s : ByteArray) : 0 ≤ lev s 1 ∧ lev s 1 ≤ 255 := by
  have h0 := bt_in s 0
  simp only [lev]
  omega

set_option maxRecDepth 100000 in
set_option maxHeartbeats 4000000 in
theorem parse_any (s : ByteArray) (w : World) (hT : Tab w) (hs : s.size ≤ 100000) :
    Calls Tryz.prog 93 #[.string s] w fun e w' => e = .returned (.tuple #[(parseB s).val, .bool (parseI s)]) ∧ Below w.heap.size w w' := by
  obtain ⟨pb, hpb⟩ : ∃ b, parseB s = b := ⟨_, rfl⟩
  obtain ⟨pi, hpi⟩ : ∃ b, parseI s = b := ⟨_, rfl⟩
  rw [hpb, hpi]
  have PB := Lib.hid hpb
  have PI := Lib.hid hpi
  have HC := Lib.hid (fun w => cutPrefix_any s w)
  have hb0 : Below w.heap.size w (w.alloc (.cells #[.int .i64 0, .int .i64 0, .string ⟨#[]⟩] 34)) := (Below.refl _ _).alloc (Nat.le_refl _) _
  have T0 := Lib.hid (hT.below hb0)
  have B0 := Lib.hid hb0
  have hR : AB (w.alloc (.cells #[.int .i64 0, .int .i64 0, .string ⟨#[]⟩] 34)) w.heap.size Bk.zero := AB.fresh w Bk.zero
  have R0 := Lib.hid hR
  clear hb0 hT hpb hpi hR
  go_enter Tryz.func93, Tryz.ntmps93
  go_wp2_with fail
  generalize w.alloc (.cells #[.int .i64 0, .int .i64 0, .string ⟨#[]⟩] 34) = w0 at T0 B0 R0 ⊢
  go_at_call 122
  refine (HC.out w0).mono ?_
  rintro e w' ⟨rfl, rfl⟩
  have HO := Lib.hid (fun t w (T : Tab w) (h : t.size ≤ 100000) => open_any t w T (by omega))
  cases hp : pfx s
  · rw [if_neg (by simp)]
    obtain ⟨hz1, hz2⟩ := parseB_none (parse_nopfx hp)
    obtain rfl : pb = Bk.zero := PB.out.symm.trans hz1
    obtain rfl : pi = false := PI.out.symm.trans hz2
    clear hp hz1 hz2
    go_wp2_with fail
    go_at_call 123
    refine (HO.out _ _ T0.out hs).mono ?_
    rintro e w1 ⟨rfl, k2⟩
    have R1 := Lib.hid (R0.out.below k2)
    have B1 := Lib.hid (B0.out.trans (k2.mono B0.out.size))
    generalize (openOf s).1 = q1
    generalize (openOf s).2 = q2
    clear k2
    go_wp2_with ((with_reducible show wpList _ _ _ (Oper.mk none (Op.store _ (.tmp 2) _) _ _ _ _ :: _) _ _); refine wpList_store_bk rfl (.tmp 2) (.tmp 33) rfl w.heap.size Bk.zero Bk.zero rfl rfl R1.out ?_; intro wF k1 k2; obtain ⟨d0, d1, d2⟩ := k1.all; have BF := Lib.hid (B1.out.trans k2); clear k1 k2)
    exact bodyPost_ret (v := .tuple #[Bk.zero.val, .bool false]) (by simp [results, Tryz.results93, go_sem, d0, d1, d2]) rfl ⟨rfl, BF.out⟩
  · rw [if_pos rfl]
    have h1s := pfx_size hp
    obtain ⟨t, ht⟩ : ∃ t, s.extract 1 s.size = t := ⟨_, rfl⟩
    have hts : t.size ≤ 100000 := by rw [← ht, ByteArray.size_extract]; omega
    have hno := @parse_notopen s
    have hrd := @parse_read s
    rw [ht] at hno hrd ⊢
    obtain ⟨B, q2, hq⟩ : ∃ B q2, openOf t = (B, q2) := ⟨_, _, rfl⟩
    have HO' := Lib.hid (fun w (T : Tab w) => HO.out t w T hts)
    rw [hq] at hno HO'
    simp only at hno HO'
    go_wp2_with fail
    go_at_call 123
    refine (HO'.out _ T0.out).mono ?_
    rintro e w1 ⟨rfl, k2⟩
    have R1 := Lib.hid (R0.out.below k2)
    have T1 := Lib.hid (T0.out.below k2)
    have B1 := Lib.hid (B0.out.trans (k2.mono B0.out.size))
    clear k2 HO HO'
    by_cases hbad : q2 = false ∨ B.size ≠ 27
    · obtain ⟨hz1, hz2⟩ := parseB_none (hno hbad)
      obtain rfl : pb = Bk.zero := PB.out.symm.trans hz1
      obtain rfl : pi = false := PI.out.symm.trans hz2
      clear hz1 hz2 hno hrd hq
      cases q2
      · clear hbad
        go_wp2_with ((with_reducible show wpList _ _ _ (Oper.mk none (Op.store _ (.tmp 2) _) _ _ _ _ :: _) _ _); refine wpList_store_bk rfl (.tmp 2) (.tmp 33) rfl w.heap.size Bk.zero Bk.zero rfl rfl R1.out ?_; intro wF k1 k2; obtain ⟨d0, d1, d2⟩ := k1.all; have BF := Lib.hid (B1.out.trans k2); clear k1 k2)
        exact bodyPost_ret (v := .tuple #[Bk.zero.val, .bool false]) (by simp [results, Tryz.results93, go_sem, d0, d1, d2]) rfl ⟨rfl, BF.out⟩
      · have hI : ((B.size : Int) == 27) = false := by
          rcases hbad with h | h
          · cases h
          · simp; omega
        clear hbad
        go_wp2_with ((with_reducible show wpList _ _ _ (Oper.mk none (Op.store _ (.tmp 2) _) _ _ _ _ :: _) _ _); refine wpList_store_bk rfl (.tmp 2) (.tmp 33) rfl w.heap.size Bk.zero Bk.zero rfl rfl R1.out ?_; intro wF k1 k2; obtain ⟨d0, d1, d2⟩ := k1.all; have BF := Lib.hid (B1.out.trans k2); clear k1 k2)
        exact bodyPost_ret (v := .tuple #[Bk.zero.val, .bool false]) (by simp [results, Tryz.results93, go_sem, d0, d1, d2]) rfl ⟨rfl, BF.out⟩
    · obtain ⟨rfl, hB⟩ : q2 = true ∧ B.size = 27 := ⟨by cases q2; (exact absurd (.inl rfl) hbad); rfl, Classical.not_not.1 fun h => hbad (.inr h)⟩
      have hBI : (B.size : Int) = 27 := by omega
      clear hbad hno
      have y2 : (B.extract 9 11).size = 2 := by rw [ByteArray.size_extract]; omega
      have y1 : (B.extract 0 1).size = 1 := by rw [ByteArray.size_extract]; omega
      have y8 : (B.extract 1 9).size = 8 := by rw [ByteArray.size_extract]; omega
      obtain ⟨v, N8⟩ : ∃ v, (bt (B.extract 1 9) 7 ≤ 127 → v = lev (B.extract 1 9) 8) ∧ ∀ w, Calls Tryz.prog 124 #[.string (B.extract 1 9)] w fun e w' => e = .returned (.int .i64 v) ∧ w = w' := by
        by_cases h7 : bt (B.extract 1 9) 7 ≤ 127
        · exact ⟨_, fun _ => rfl, fun w => toNum8 (B.extract 1 9) w y8 h7⟩
        · obtain ⟨V, -, hV⟩ := toNumBad (B.extract 1 9) y8 (by omega)
          exact ⟨V, fun h => absurd h h7, hV⟩
      obtain ⟨hv8, N8⟩ := N8
      obtain ⟨l0, l1⟩ := lev2_in (B.extract 9 11)
      have N2 := Lib.hid (fun w => toNum2 (B.extract 9 11) w y2)
      have N1 := Lib.hid (fun w => toNum1 (B.extract 0 1) w y1)
      have NV := Lib.hid N8
      obtain ⟨L, hL⟩ : ∃ L, lev (B.extract 9 11) 2 = L := ⟨_, rfl⟩
      rw [hL] at N2 l0 l1
      obtain ⟨n, hn, hn16⟩ : ∃ n : Nat, (n : Int) = min L 16 ∧ n ≤ 16 := ⟨(min L 16).toNat, by omega, by omega⟩
      obtain ⟨hy, hno⟩ := hrd hq hv8 (n := n) (by rw [hL]; exact hn)
      obtain ⟨q, hqd⟩ : ∃ q, readBk B v n = q := ⟨_, rfl⟩
      rw [hqd] at hy hno
      have hq1 : lev (B.extract 0 1) 1 = q.id := by rw [← hqd]; rfl
      have hq2 : v = q.ver := by rw [← hqd]; rfl
      have hq3 : B.extract 11 (11 + n) = q.data := by rw [← hqd]; rfl
      have hqs : q.data.size ≤ 16 := by rw [← hq3, ByteArray.size_extract]; omega
      rw [hq1] at N1
      subst hq2
      have Hy := Lib.hid hy
      have Hn := Lib.hid hno
      have hmin : (if L ≤ 16 then L else 16) = (n : Int) := by rw [hn]; omega
      clear hy hno hqd hq1 hv8 N8 hrd hq hL
      have T1' := T1
      go_wp2_with fail
      go_at_call 124
      refine (N2.out _).mono ?_
      rintro e w' ⟨rfl, rfl⟩
      obtain ⟨E, hE⟩ : ∃ E : Nat, 11 + n = E := ⟨_, rfl⟩
      have g1 : IntKind.i64.wrap (11 + min L 16) = (E : Int) := by rw [← hn, IntWalk.i64_in _ (by omega)]; omega
      have g2 : (11 : Int) ≤ (E : Int) := by omega
      have g3 : (E : Int) ≤ 27 := by omega
      have g4 : (0 : Int) ≤ (E : Int) := by omega
      rw [hE] at hq3
      clear hE hmin hn
      go_wp2_with fail
      go_region_held3 (fun w' => True)
        (first | trivial | fail)
        (first
          | (go_at_call 124; with_reducible refine (N1.out _).mono ?_; rintro e w' ⟨rfl, rfl⟩)
          | (go_at_call 124; with_reducible refine (NV.out _).mono ?_; rintro e w' ⟨rfl, rfl⟩)
          | fail)
      all_goals
        go_wp2_with fail
        have hb2 : Below w1.heap.size w1 (w1.alloc (.cells #[.int .i64 q.id, .int .i64 q.ver, .string q.data] 34)).drew := ((Below.refl _ _).alloc (Nat.le_refl _) _).drew
        have Q2 := Lib.hid (show AB (w1.alloc (.cells #[.int .i64 q.id, .int .i64 q.ver, .string q.data] 34)).drew w1.heap.size q from AB.fresh w1 q)
        have R2 := Lib.hid (R1.out.below hb2)
        have T2 := Lib.hid (T1.out.below hb2)
        have B2 := Lib.hid (B1.out.trans (hb2.mono B1.out.size))
        have HZ := Lib.hid R1.out.lt
        clear hb2
        generalize (w1.alloc (.cells #[.int .i64 q.id, .int .i64 q.ver, .string q.data] 34)).drew = w2 at Q2 R2 T2 B2 ⊢
        go_at_call 125
        refine (record_any q 1 w2 T2.out (by omega)).mono ?_
        rintro e w3 ⟨rfl, k2⟩
        have Q3 := Lib.hid (Q2.out.below k2)
        have R3 := Lib.hid (R2.out.below k2)
        have B3 := Lib.hid (B2.out.trans (k2.mono B2.out.size))
        clear k2
        by_cases hr : refE q 1 = 0
        · rw [recV_yes hr, hr]
          obtain ⟨rq, hrq⟩ : ∃ x, recB q 1 = x := ⟨_, rfl⟩
          rw [hrq]
          have HQ := Lib.hid hrq
          clear hrq
          by_cases hre : rq = s
          · obtain ⟨hz1, hz2⟩ := parseB_some (Hy.out ⟨hr, HQ.out.trans hre⟩)
            obtain rfl : pb = q := PB.out.symm.trans hz1
            obtain rfl : pi = true := PI.out.symm.trans hz2
            have he := str_eq hre
            clear hz1 hz2
            obtain ⟨e0, e1, e2⟩ := Q3.out.all
            clear hre
            go_wp2_with ((with_reducible show wpList _ _ _ (Oper.mk none (Op.store _ (.tmp 2) _) _ _ _ _ :: _) _ _); refine wpList_store_bk rfl (.tmp 2) (.tmp 62) rfl w.heap.size pb Bk.zero rfl rfl R3.out ?_; intro wF k1 k2; obtain ⟨d0, d1, d2⟩ := k1.all; have BF := Lib.hid (B3.out.trans k2); clear k1 k2)
            exact bodyPost_ret (v := .tuple #[pb.val, .bool true]) (by simp [results, Tryz.results93, go_sem, d0, d1, d2]) rfl ⟨rfl, BF.out⟩
          · obtain ⟨hz1, hz2⟩ := parseB_none (Hn.out fun h => hre (HQ.out.symm.trans h.2))
            obtain rfl : pb = Bk.zero := PB.out.symm.trans hz1
            obtain rfl : pi = false := PI.out.symm.trans hz2
            have he := str_ne hre
            clear hz1 hz2 hre
            go_wp2_with ((with_reducible show wpList _ _ _ (Oper.mk none (Op.store _ (.tmp 2) _) _ _ _ _ :: _) _ _); refine wpList_store_bk rfl (.tmp 2) (.tmp 61) rfl w.heap.size Bk.zero Bk.zero rfl rfl R3.out ?_; intro wF k1 k2; obtain ⟨d0, d1, d2⟩ := k1.all; have BF := Lib.hid (B3.out.trans k2); clear k1 k2)
            exact bodyPost_ret (v := .tuple #[Bk.zero.val, .bool false]) (by simp [results, Tryz.results93, go_sem, d0, d1, d2]) rfl ⟨rfl, BF.out⟩
        · obtain ⟨hz1, hz2⟩ := parseB_none (Hn.out fun h => hr h.1)
          obtain rfl : pb = Bk.zero := PB.out.symm.trans hz1
          obtain rfl : pi = false := PI.out.symm.trans hz2
          have hr0 : (refE q 1 == 0) = false := by simpa using hr
          clear hz1 hz2
          generalize refE q 1 = r at hr hr0
          generalize recV q 1 = rq
          go_wp2_with ((with_reducible show wpList _ _ _ (Oper.mk none (Op.store _ (.tmp 2) _) _ _ _ _ :: _) _ _); refine wpList_store_bk rfl (.tmp 2) (.tmp 61) rfl w.heap.size Bk.zero Bk.zero rfl rfl R3.out ?_; intro wF k1 k2; obtain ⟨d0, d1, d2⟩ := k1.all; have BF := Lib.hid (B3.out.trans k2); clear k1 k2)
          exact bodyPost_ret (v := .tuple #[Bk.zero.val, .bool false]) (by simp [results, Tryz.results93, go_sem, d0, d1, d2]) rfl ⟨rfl, BF.out⟩
end Go.Proofs.YtmmpknfkncgjpaaGreatDoor
