/-
  The document's own Record (weirkeepref09), by a contract.
-/
import Derived.Test.YtmmpknfkncgjpaaGreatDoorM25
import Derived.Test.YtmmpknfkncgjpaaGreatDoorM05
import Derived.Laws.BytesArg
import Derived.Deep.RegionHeld
namespace Go.Proofs.YtmmpknfkncgjpaaGreatDoor
open Go.RowKit Go.PlainAid Go.Lib

/-- Bytes: all that is written. -/
theorem rbytes_any (b : Nat) (row : Option Nat) (bs : List Int) (w : World) (hW : Wrt w b row bs) :
    Calls Tryz.prog 49 #[.pointer (some ⟨b, 0, none⟩)] w fun e w' => e = .returned (.string (strOfNums bs)) ∧ w = w' := by
  obtain ⟨s, hs, hf, ho, hr⟩ := hW
  rcases owned_form ho with ⟨rfl, h0, _⟩ | ⟨g, cap, rfl, hcell⟩
  · have hcv := run_convert_bytes_nil (P := Tryz.prog) w 73 5 Tryz.underlying73 Tryz.underlying5 0 0 9 Tryz.underlying9
    have hbs : bs = [] := by simpa using h0
    subst hbs
    clear ho hr hf h0
    go_enter Tryz.func49, Tryz.ntmps49
    go_wp2
    go_ret
    exact ⟨rfl, rfl⟩
  · have hcv := run_convert_bytes_arg (P := Tryz.prog) w 73 5 Tryz.underlying73 Tryz.underlying5 g 0 bs.length cap bs rfl (fun i hi => by
      rw [Nat.zero_add]
      exact hcell i _ (by rw [List.getElem?_map, List.getElem?_eq_getElem hi]; simp [List.getElem?_eq_getElem hi])) 9 Tryz.underlying9
    clear ho hr hf hcell
    go_enter Tryz.func49, Tryz.ntmps49
    go_wp2
    go_ret
    exact ⟨rfl, rfl⟩

theorem wrt_new (w : World) : Wrt (w.alloc (.cells #[.slice none 0 0] 99)) w.heap.size none [] :=
  ⟨.slice none 0 0, by simp, by simp, World.ownsRow_nil _ _ _ _, rfl⟩
/-- A block that is no writer's. -/
theorem Fr.ab {b z : Nat} {row : Option Nat} {w w' : World} {x : Bk} (h : Fr b row w w') (hz : AB w z x) (h1 : z < b) (h2 : ∀ g, row = some g → b < g) : AB w' z x := by
  unfold AB
  rw [h.block z hz.lt (by omega) (fun e => by have := h2 z e.symm; omega)]
  exact hz
theorem conv_in (m : Int) {am : ByteArray} (ham : strOfNums [m] = am) (g : Nat) (w : World) (hc : w.cell? ⟨g, 0, none⟩ = some (.int .u8 m)) :
    (convert 73 9 (.slice (some ⟨g, 0, none⟩) 1 1)).run Tryz.prog w = .ok (.string am) w := by
  subst ham
  exact run_convert_bytes_arg _ 73 5 Tryz.underlying73 Tryz.underlying5 g 0 1 1 [m] rfl (fun i hi => by
    obtain rfl : i = 0 := by omega
    simpa using hc) 9 Tryz.underlying9
theorem rrec_arg (b : Bk) (m : Int) (w : World) (h : ¬ argOk b m) :
    Calls Tryz.prog 106 #[b.val, .int .i64 m] w fun e w' => e = .returned (.tuple #[.string ⟨#[]⟩, .int .i64 1]) ∧ Below w.heap.size w w' := by
  unfold argOk at h
  by_cases h1 : b.id < 0
  · go_enter Tryz.func106, Tryz.ntmps106
    go_wp2
    go_returns
    exact ⟨rfl, by go_grown⟩
  · by_cases h2 : 256 ≤ b.id
    · go_enter Tryz.func106, Tryz.ntmps106
      go_wp2
      go_returns
      exact ⟨rfl, by go_grown⟩
    · by_cases h3 : b.ver < 1
      · go_enter Tryz.func106, Tryz.ntmps106
        go_wp2
        go_returns
        exact ⟨rfl, by go_grown⟩
      · by_cases h4 : 1099511627776 < b.ver
        · go_enter Tryz.func106, Tryz.ntmps106
          go_wp2
          go_returns
          exact ⟨rfl, by go_grown⟩
        · have h5 : ¬ m = 0 := by omega
          have h6 : ¬ m = 1 := by omega
          have h7 : (m != 0 && m != 1) = true := by simp [h5, h6]
          have h8 : ¬ ((m != 0) = false ∨ (m != 1) = false) := by simp [h5, h6]
          clear h
          go_enter Tryz.func106, Tryz.ntmps106
          go_wp2
          go_returns
          exact ⟨rfl, by go_grown⟩
theorem rrec_long (b : Bk) (m : Int) (w : World) (h : argOk b m) (hs : 16 < b.data.size) :
    Calls Tryz.prog 106 #[b.val, .int .i64 m] w fun e w' => e = .returned (.tuple #[.string ⟨#[]⟩, .int .i64 11]) ∧ Below w.heap.size w w' := by
  obtain ⟨h1, h2, h3, h4, h5, h6⟩ := h
  have n1 : ¬ b.id < 0 := by omega
  have n2 : ¬ 256 ≤ b.id := by omega
  have n3 : ¬ b.ver < 1 := by omega
  have n4 : ¬ 1099511627776 < b.ver := by omega
  have hsI : (16 : Int) < (b.data.size : Int) := by omega
  have hm : m = 0 ∨ m = 1 := by omega
  clear h1 h2 h3 h4 h5 h6
  rcases hm with rfl | rfl
  all_goals
    go_enter Tryz.func106, Tryz.ntmps106
    go_wp2
    go_returns
    exact ⟨rfl, by go_grown⟩
set_option maxRecDepth 100000 in
set_option maxHeartbeats 8000000 in
theorem rrec_ok (b : Bk) (m : Int) (w : World) (h : refE b m = 0) :
    Calls Tryz.prog 106 #[b.val, .int .i64 m] w fun e w' => e = .returned (.tuple #[.string (recB b m), .int .i64 0]) ∧ Below w.heap.size w w' := by
  obtain ⟨⟨h1, h2, h3, h4, h5, h6⟩, hs⟩ := refE_zero.1 h
  have n1 : ¬ b.id < 0 := by omega
  have n2 : ¬ 256 ≤ b.id := by omega
  have n3 : ¬ b.ver < 1 := by omega
  have n4 : ¬ 1099511627776 < b.ver := by omega
  have hsI : ¬ (16 : Int) < (b.data.size : Int) := by omega
  have hm : m = 0 ∨ m = 1 := by omega
  have hb0 : Below w.heap.size w (w.alloc (.cells b.cells 34)) := (Below.refl _ _).alloc (Nat.le_refl _) _
  have A0 := Lib.hid (AB.fresh w b)
  have hwr := wrt_new (w.alloc (.cells b.cells 34))
  have hb1 : Below (w.alloc (.cells b.cells 34)).heap.size (w.alloc (.cells b.cells 34)) ((w.alloc (.cells b.cells 34)).alloc (.cells #[.slice none 0 0] 99)) := (Below.refl _ _).alloc (Nat.le_refl _) _
  rw [show (w.alloc (.cells b.cells 34)).heap.size = w.heap.size + 1 by simp] at hwr
  have A1 := Lib.hid (A0.out.below hb1)
  have B1 := Lib.hid (hb0.trans (hb1.mono hb0.size))
  have W1 := Lib.hid hwr
  have Z1 : ((w.alloc (.cells b.cells 34)).alloc (.cells #[.slice none 0 0] 99)).heap.size = w.heap.size + 2 := by simp
  have H1 := Lib.hid h1
  have H2 := Lib.hid h2
  have H3 := Lib.hid h3
  have H4 := Lib.hid h4
  have BP : strOfNums (hdr b) ++ b.data ++ str (zeros (16 - b.data.size)) = bodyB b := rfl
  obtain ⟨dc, hdc⟩ : ∃ dc : Nat, 16 - b.data.size = dc := ⟨_, rfl⟩
  have hz : (16 : Int) - (b.data.size : Int) = (dc : Int) := by omega
  have hdc16 : dc ≤ 32 := by omega
  have hwz : IntKind.i64.wrap (dc : Int) = (dc : Int) := IntWalk.i64_in _ (by omega)
  have sz : (str (zeros dc)).size = dc := by rw [str_size]; simp [zeros]
  have sh : (strOfNums (hdr b)).size = 11 := by rw [strOfNums_size, hdr_len]
  have ssb := sealB_size hs
  have hbs := bodyB_size hs
  rw [hdc] at BP
  have HZ := Lib.hid (fun w => rzeros_any dc hdc16 w)
  obtain ⟨zs, hzs⟩ : ∃ zs, str (zeros dc) = zs := ⟨_, rfl⟩
  obtain ⟨sb, hsb⟩ : ∃ sb, sealB b = sb := ⟨_, rfl⟩
  rw [hzs] at sz BP HZ
  have HSl := Lib.hid (fun w => show Calls Tryz.prog 134 #[.string (strOfNums (hdr b) ++ b.data ++ zs)] w fun e w' => e = .returned (.string sb) ∧ Below w.heap.size w w' from by rw [BP, ← hsb]; exact rseal_any (bodyB b) w (by omega))
  have hrec := Lib.hid (show recB b m = strOfNums [m] ++ sb from by rw [← hsb]; rfl)
  have sm : (strOfNums [m]).size = 1 := by rw [strOfNums_size]; rfl
  obtain ⟨am, ham⟩ : ∃ am, strOfNums [m] = am := ⟨_, rfl⟩
  rw [ham] at hrec sm
  have HAM := Lib.hid ham
  clear ham
  have hm8 : m % 256 = m := by omega
  have hmw : IntKind.u8.wrap m = m := by rw [IntKind.wrap_u8']; exact hm8
  rw [hsb] at ssb
  clear h hwr hb0 hb1 h1 h2 h3 h4 h5 h6 BP hdc hzs hsb hbs
  have HD := Lib.hid (show (([] ++ leb b.id 1) ++ leb b.ver 8) ++ leb (b.data.size : Int) 2 = hdr b from rfl)
  obtain ⟨d0, d1, d2⟩ := A0.out.all
  obtain ⟨e0, e1, e2⟩ := A1.out.all
  rcases hm with rfl | rfl
  · skip
    go_enter Tryz.func106, Tryz.ntmps106
    go_wp2_with fail
    generalize (w.alloc (.cells #[.int .i64 b.id, .int .i64 b.ver, .string b.data] 34)).alloc (.cells #[.slice none 0 0] 99) = w1 at A1 B1 W1 Z1 e0 e1 e2 ⊢
    go_at_call 47
    refine (refnum1_ok (w.heap.size + 1) none [] b.id w1 H1.out H2.out W1.out (by simp)).mono ?_
    rintro e w2 ⟨rfl, r2, k1, k2, k3⟩
    have W2 := Lib.hid k1
    have A2 := Lib.hid (k3.ab A1.out (by omega) (fun g hg => by cases hg))
    have B2 := Lib.hid (B1.out.trans ((k3.below (by omega) (fun g hg => by cases hg)).mono (by omega)))
    have Z2 := Lib.hid k3.size
    have Q2 := Lib.hid (fun g (hg : r2 = some g) => (k1.row_lt hg).1)
    clear k1 k2 k3 d0 d1 d2 e0 e1 e2
    obtain ⟨d0, d1, d2⟩ := A2.out.all
    go_wp2_with fail
    go_at_call 47
    refine (refnum8_ok (w.heap.size + 1) r2 ([] ++ leb b.id 1) b.ver w2 (by have := H3.out; omega) (by have := H4.out; omega) W2.out (by simp [leb])).mono ?_
    rintro e w3 ⟨rfl, r3, k1, k2, k3⟩
    have W3 := Lib.hid k1
    have A3 := Lib.hid (k3.ab A2.out (by omega) Q2.out)
    have B3 := Lib.hid (B2.out.trans ((k3.below (by have := Z2.out; omega) Q2.out).mono (by omega)))
    have Z3 := Lib.hid (Nat.le_trans Z2.out k3.size)
    have Q3 := Lib.hid (fun g (hg : r3 = some g) => (k1.row_lt hg).1)
    clear k1 k2 k3 d0 d1 d2
    obtain ⟨d0, d1, d2⟩ := A3.out.all
    go_wp2_with fail
    go_at_call 47
    refine (refnum2_ok (w.heap.size + 1) r3 (([] ++ leb b.id 1) ++ leb b.ver 8) (b.data.size : Int) w3 (by omega) (by omega) W3.out (by simp [leb])).mono ?_
    rintro e w4 ⟨rfl, r4, k1, k2, k3⟩
    rw [HD.out] at k1
    have W4 := Lib.hid k1
    have A4 := Lib.hid (k3.ab A3.out (by omega) Q3.out)
    have B4 := Lib.hid (B3.out.trans ((k3.below (by have := Z3.out; omega) Q3.out).mono (by omega)))
    clear k1 k2 k3 d0 d1 d2 hsI n1 n2 n3 n4 W1 W2 W3 A0 A1 A2 A3 B1 B2 B3 Q2 Q3 Z2 Z3 H1 H2 H3 H4
    have A5 := Lib.hid (A4.out.below (w' := w4.drew) ((Below.refl _ _).drew))
    have W5 := Lib.hid (W4.out.below (w' := w4.drew) ((Below.refl _ _).drew))
    have hbm : Below w4.heap.size w4 (w4.alloc (.cells #[.int .u8 0] 5)).drew := ((Below.refl _ _).alloc (Nat.le_refl _) _).drew
    have A5b := Lib.hid (A4.out.below hbm)
    have W5b := Lib.hid (W4.out.below hbm)
    have B5b := Lib.hid (B4.out.trans (hbm.mono B4.out.size))
    have hcb : (w4.alloc (.cells #[.int .u8 0] 5)).drew.cell? ⟨w4.heap.size, 0, none⟩ = some (.int .u8 0) := by simp
    have C5b := conv_in 0 HAM.out w4.heap.size _ hcb
    have HCb := Lib.hid hcb
    have Y0 := Lib.hid (rbytes_any (w.heap.size + 1) r4 (hdr b) w4.drew W5.out)
    have Y1 := Lib.hid (rbytes_any (w.heap.size + 1) r4 (hdr b) _ W5b.out)
    have Y2 := Lib.hid (HZ.out w4.drew)
    have Y3 := Lib.hid (HZ.out (w4.alloc (.cells #[.int .u8 0] 5)).drew)
    have q1 : ¬9223372036854775807 < 11 + b.data.size := by omega
    have q2 : ¬9223372036854775807 < 11 + b.data.size + dc := by omega
    obtain ⟨-, -, d2⟩ := A5.out.all
    obtain ⟨-, -, e2⟩ := A5b.out.all
    generalize strOfNums (hdr b) = hb at sh HSl Y0 Y1
    clear hbm hcb W4 W5 W5b hs A4 HD
    go_wp2_with fail
    go_region_held (fun w' => w'.cell? ⟨w.heap.size, 2, none⟩ = some (.string b.data))
      (first | exact A5.out.all.2.2 | exact A5b.out.all.2.2 | exact A6.out.all.2.2 | exact (A6.out.below ((Below.refl _ _).alloc (Nat.le_refl _) _)).all.2.2 | exact A7.out.all.2.2 | exact (A7.out.below ((Below.refl _ _).alloc (Nat.le_refl _) _)).all.2.2 | fail)
      (first
      | (go_at_call 49; with_reducible refine Y0.out.mono ?_; rintro e w' ⟨rfl, rfl⟩)
      | (go_at_call 49; with_reducible refine Y1.out.mono ?_; rintro e w' ⟨rfl, rfl⟩)
      | (go_at_call 66; with_reducible refine Y2.out.mono ?_; rintro e w6 ⟨rfl, k2⟩; have A6 := Lib.hid (A5.out.below k2); have B6 := Lib.hid (B4.out.drew.trans (k2.mono B4.out.drew.size)); (obtain ⟨-, -, g2⟩ := A6.out.all); have hl6 := A6.out.lt; (have hb6 := (Below.refl w6.heap.size w6).alloc (Nat.le_refl _) (.cells #[.int .u8 0] 5)); (have C6 := conv_in 0 HAM.out w6.heap.size (w6.alloc (.cells #[.int .u8 0] 5)) (by simp)); have B6b := Lib.hid (B6.out.trans (hb6.mono B6.out.size)); have L6 := Lib.hid (Nat.le_refl w6.heap.size); clear k2 hb6)
      | (go_at_call 66; with_reducible refine Y3.out.mono ?_; rintro e w6 ⟨rfl, k2⟩; have A6 := Lib.hid (A5b.out.below k2); have B6 := Lib.hid (B5b.out.trans (k2.mono B5b.out.size)); (obtain ⟨-, -, g2⟩ := A6.out.all); (have K6 := Lib.hid ((k2.cell (p := ⟨w4.heap.size, 0, none⟩) (World.block_lt_of_cell? _ _ HCb.out)).trans HCb.out)); have C6 := conv_in 0 HAM.out w4.heap.size w6 K6.out; clear k2)
      | (go_at_call 134; with_reducible refine (HSl.out w6).mono ?_; rintro e w7 ⟨rfl, k2⟩; have A7 := Lib.hid (A6.out.below k2); have B7 := Lib.hid (B6.out.trans (k2.mono B6.out.size)); have C7 := conv_in 0 HAM.out w4.heap.size w7 ((k2.cell (p := ⟨w4.heap.size, 0, none⟩) (World.block_lt_of_cell? _ _ K6.out)).trans K6.out); clear k2)
      | (go_at_call 134; with_reducible refine (HSl.out w6).mono ?_; rintro e w7 ⟨rfl, k2⟩; have A7 := Lib.hid (A6.out.below k2); have B7 := Lib.hid (B6.out.trans (k2.mono B6.out.size)); (have C7 := conv_in 0 HAM.out w7.heap.size (w7.alloc (.cells #[.int .u8 0] 5)) (by simp)); have B7b := Lib.hid (B7.out.alloc B7.out.size (.cells #[.int .u8 0] 5)); clear k2)
      | (go_at_call 134; with_reducible refine (HSl.out (w6.alloc (.cells #[.int .u8 0] 5))).mono ?_; rintro e w7 ⟨rfl, k2⟩; have A7 := Lib.hid ((A6.out.below ((Below.refl _ _).alloc (Nat.le_refl _) _)).below k2); have B7 := Lib.hid (B6b.out.trans (k2.mono B6b.out.size)); have C7 := conv_in 0 HAM.out w6.heap.size w7 ((k2.cell (p := ⟨w6.heap.size, 0, none⟩) (by simp)).trans (by simp)); clear k2)
      | fail)
    all_goals
      go_wp2
      go_returns
      first
        | exact ⟨by rw [hrec.out]; rfl, B7.out⟩
        | exact ⟨by rw [hrec.out]; rfl, B7b.out⟩
  · skip
    go_enter Tryz.func106, Tryz.ntmps106
    go_wp2_with fail
    generalize (w.alloc (.cells #[.int .i64 b.id, .int .i64 b.ver, .string b.data] 34)).alloc (.cells #[.slice none 0 0] 99) = w1 at A1 B1 W1 Z1 e0 e1 e2 ⊢
    go_at_call 47
    refine (refnum1_ok (w.heap.size + 1) none [] b.id w1 H1.out H2.out W1.out (by simp)).mono ?_
    rintro e w2 ⟨rfl, r2, k1, k2, k3⟩
    have W2 := Lib.hid k1
    have A2 := Lib.hid (k3.ab A1.out (by omega) (fun g hg => by cases hg))
    have B2 := Lib.hid (B1.out.trans ((k3.below (by omega) (fun g hg => by cases hg)).mono (by omega)))
    have Z2 := Lib.hid k3.size
    have Q2 := Lib.hid (fun g (hg : r2 = some g) => (k1.row_lt hg).1)
    clear k1 k2 k3 d0 d1 d2 e0 e1 e2
    obtain ⟨d0, d1, d2⟩ := A2.out.all
    go_wp2_with fail
    go_at_call 47
    refine (refnum8_ok (w.heap.size + 1) r2 ([] ++ leb b.id 1) b.ver w2 (by have := H3.out; omega) (by have := H4.out; omega) W2.out (by simp [leb])).mono ?_
    rintro e w3 ⟨rfl, r3, k1, k2, k3⟩
    have W3 := Lib.hid k1
    have A3 := Lib.hid (k3.ab A2.out (by omega) Q2.out)
    have B3 := Lib.hid (B2.out.trans ((k3.below (by have := Z2.out; omega) Q2.out).mono (by omega)))
    have Z3 := Lib.hid (Nat.le_trans Z2.out k3.size)
    have Q3 := Lib.hid (fun g (hg : r3 = some g) => (k1.row_lt hg).1)
    clear k1 k2 k3 d0 d1 d2
    obtain ⟨d0, d1, d2⟩ := A3.out.all
    go_wp2_with fail
    go_at_call 47
    refine (refnum2_ok (w.heap.size + 1) r3 (([] ++ leb b.id 1) ++ leb b.ver 8) (b.data.size : Int) w3 (by omega) (by omega) W3.out (by simp [leb])).mono ?_
    rintro e w4 ⟨rfl, r4, k1, k2, k3⟩
    rw [HD.out] at k1
    have W4 := Lib.hid k1
    have A4 := Lib.hid (k3.ab A3.out (by omega) Q3.out)
    have B4 := Lib.hid (B3.out.trans ((k3.below (by have := Z3.out; omega) Q3.out).mono (by omega)))
    clear k1 k2 k3 d0 d1 d2 hsI n1 n2 n3 n4 W1 W2 W3 A0 A1 A2 A3 B1 B2 B3 Q2 Q3 Z2 Z3 H1 H2 H3 H4
    have A5 := Lib.hid (A4.out.below (w' := w4.drew) ((Below.refl _ _).drew))
    have W5 := Lib.hid (W4.out.below (w' := w4.drew) ((Below.refl _ _).drew))
    have hbm : Below w4.heap.size w4 (w4.alloc (.cells #[.int .u8 1] 5)).drew := ((Below.refl _ _).alloc (Nat.le_refl _) _).drew
    have A5b := Lib.hid (A4.out.below hbm)
    have W5b := Lib.hid (W4.out.below hbm)
    have B5b := Lib.hid (B4.out.trans (hbm.mono B4.out.size))
    have hcb : (w4.alloc (.cells #[.int .u8 1] 5)).drew.cell? ⟨w4.heap.size, 0, none⟩ = some (.int .u8 1) := by simp
    have C5b := conv_in 1 HAM.out w4.heap.size _ hcb
    have HCb := Lib.hid hcb
    have Y0 := Lib.hid (rbytes_any (w.heap.size + 1) r4 (hdr b) w4.drew W5.out)
    have Y1 := Lib.hid (rbytes_any (w.heap.size + 1) r4 (hdr b) _ W5b.out)
    have Y2 := Lib.hid (HZ.out w4.drew)
    have Y3 := Lib.hid (HZ.out (w4.alloc (.cells #[.int .u8 1] 5)).drew)
    have q1 : ¬9223372036854775807 < 11 + b.data.size := by omega
    have q2 : ¬9223372036854775807 < 11 + b.data.size + dc := by omega
    obtain ⟨-, -, d2⟩ := A5.out.all
    obtain ⟨-, -, e2⟩ := A5b.out.all
    generalize strOfNums (hdr b) = hb at sh HSl Y0 Y1
    clear hbm hcb W4 W5 W5b hs A4 HD
    go_wp2_with fail
    go_region_held (fun w' => w'.cell? ⟨w.heap.size, 2, none⟩ = some (.string b.data))
      (first | exact A5.out.all.2.2 | exact A5b.out.all.2.2 | exact A6.out.all.2.2 | exact (A6.out.below ((Below.refl _ _).alloc (Nat.le_refl _) _)).all.2.2 | exact A7.out.all.2.2 | exact (A7.out.below ((Below.refl _ _).alloc (Nat.le_refl _) _)).all.2.2 | fail)
      (first
      | (go_at_call 49; with_reducible refine Y0.out.mono ?_; rintro e w' ⟨rfl, rfl⟩)
      | (go_at_call 49; with_reducible refine Y1.out.mono ?_; rintro e w' ⟨rfl, rfl⟩)
      | (go_at_call 66; with_reducible refine Y2.out.mono ?_; rintro e w6 ⟨rfl, k2⟩; have A6 := Lib.hid (A5.out.below k2); have B6 := Lib.hid (B4.out.drew.trans (k2.mono B4.out.drew.size)); (obtain ⟨-, -, g2⟩ := A6.out.all); have hl6 := A6.out.lt; (have hb6 := (Below.refl w6.heap.size w6).alloc (Nat.le_refl _) (.cells #[.int .u8 1] 5)); (have C6 := conv_in 1 HAM.out w6.heap.size (w6.alloc (.cells #[.int .u8 1] 5)) (by simp)); have B6b := Lib.hid (B6.out.trans (hb6.mono B6.out.size)); have L6 := Lib.hid (Nat.le_refl w6.heap.size); clear k2 hb6)
      | (go_at_call 66; with_reducible refine Y3.out.mono ?_; rintro e w6 ⟨rfl, k2⟩; have A6 := Lib.hid (A5b.out.below k2); have B6 := Lib.hid (B5b.out.trans (k2.mono B5b.out.size)); (obtain ⟨-, -, g2⟩ := A6.out.all); (have K6 := Lib.hid ((k2.cell (p := ⟨w4.heap.size, 0, none⟩) (World.block_lt_of_cell? _ _ HCb.out)).trans HCb.out)); have C6 := conv_in 1 HAM.out w4.heap.size w6 K6.out; clear k2)
      | (go_at_call 134; with_reducible refine (HSl.out w6).mono ?_; rintro e w7 ⟨rfl, k2⟩; have A7 := Lib.hid (A6.out.below k2); have B7 := Lib.hid (B6.out.trans (k2.mono B6.out.size)); have C7 := conv_in 1 HAM.out w4.heap.size w7 ((k2.cell (p := ⟨w4.heap.size, 0, none⟩) (World.block_lt_of_cell? _ _ K6.out)).trans K6.out); clear k2)
      | (go_at_call 134; with_reducible refine (HSl.out w6).mono ?_; rintro e w7 ⟨rfl, k2⟩; have A7 := Lib.hid (A6.out.below k2); have B7 := Lib.hid (B6.out.trans (k2.mono B6.out.size)); (have C7 := conv_in 1 HAM.out w7.heap.size (w7.alloc (.cells #[.int .u8 1] 5)) (by simp)); have B7b := Lib.hid (B7.out.alloc B7.out.size (.cells #[.int .u8 1] 5)); clear k2)
      | (go_at_call 134; with_reducible refine (HSl.out (w6.alloc (.cells #[.int .u8 1] 5))).mono ?_; rintro e w7 ⟨rfl, k2⟩; have A7 := Lib.hid ((A6.out.below ((Below.refl _ _).alloc (Nat.le_refl _) _)).below k2); have B7 := Lib.hid (B6b.out.trans (k2.mono B6b.out.size)); have C7 := conv_in 1 HAM.out w6.heap.size w7 ((k2.cell (p := ⟨w6.heap.size, 0, none⟩) (by simp)).trans (by simp)); clear k2)
      | fail)
    all_goals
      go_wp2
      go_returns
      first
        | exact ⟨by rw [hrec.out]; rfl, B7.out⟩
        | exact ⟨by rw [hrec.out]; rfl, B7b.out⟩
end Go.Proofs.YtmmpknfkncgjpaaGreatDoor
