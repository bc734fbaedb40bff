/-
  The document's own For and Cut of layer 4 (weirkeepref04), by contracts.
-/
import Derived.Test.YthcoghgpdcnhlaaRbag
namespace Go.Proofs.Ythcoghgpdcnhlaa
open Go.RowKit

set_option maxRecDepth 100000 in
set_option maxHeartbeats 2000000 in
theorem rfor_any (b : Nat) (row : Option Nat) (l : List M) (i : Int) (w : World) (hB : Bg w b row l) (hl : l.length ≤ 900) :
    Calls Try.prog 17 #[.pointer (some ⟨b, 0, none⟩), .int .i64 i] w fun e w' => ∃ v, e = .returned v ∧ OwnsI w' w.heap.size v (plc i l l.length) ∧ Below w.heap.size w w' := by
  have hbl := hB.lt
  obtain ⟨s, hs, -, hown, -⟩ := hB
  obtain ⟨i0, hi0, hz0, hz1', hz2⟩ := info_parts infoInt
  obtain ⟨A, cap, rfl, hat⟩ := hown.look
  have HA := Lib.hid hat
  have HS := Lib.hid hs
  have HE := Lib.hid (World.ownsRow_lit (base := w.heap.size) (e := 3) (size := 1) w #[] 0 (Nat.le_refl _) (by simp) rfl)
  have HBE := Lib.hid (show Below w.heap.size w (w.alloc (.cells #[] 3)) from (Below.refl _ _).alloc (Nat.le_refl _) _)
  clear hown hat
  go_enter Try.func17, Try.ntmps17
  go_wp2
  go_loopw [5, 6] (fun v iv wr => ∃ k : Nat, k ≤ l.length ∧ iv = .int .i64 k ∧ OwnsI wr w.heap.size v (plc i l k) ∧ Below w.heap.size w wr) (fun _ iv _ => l.length - (intOf iv).toNat)
  case atStart => exact ⟨0, Nat.zero_le _, rfl, HE.out, HBE.out⟩
  case round =>
    obtain ⟨k, hk, rfl, ho, hb⟩ := hrel
    have hz := hb.size
    have hs' := (hb.cell (p := ⟨b, 0, none⟩) hbl).trans HS.out
    by_cases hlt : k < l.length
    · obtain ⟨m, hm'⟩ : ∃ m, l[k]? = some m := ⟨_, List.getElem?_eq_getElem hlt⟩
      obtain ⟨g, rfl, hgl, hat⟩ := HA.out k m hm'
      obtain ⟨c0, c1, c2, c3, c4, c5, c6, c7⟩ := hat.kept (w' := wr) (fun o => hb.cell (p := ⟨g, o, none⟩) hgl)
      have hgr : g < wr.heap.size := by omega
      have hlI : (k : Int) < (l.length : Int) := by omega
      have hkI : (0 : Int) ≤ (k : Int) := by omega
      have HO := Lib.hid ho
      have HB := Lib.hid hb
      have HM := Lib.hid hm'
      clear ho hb hm' hat
      by_cases hp : (m.dst == i) = true
      · have HP := Lib.hid hp
        have HN := Lib.hid (show ∀ j u, ([(k : Int)].map (Value.int .i64))[j]? = some u → (wr.alloc (.cells #[.int .i64 k] 3)).cell? ((⟨wr.heap.size, 0, none⟩ : Addr).add j) = some u from fun j u hu => World.news_of_block (cs := #[.int .i64 k]) (t := 3) (fr := (0, 0)) (heap_alloc_new wr _) j u hu)
        have hkl := plc_le i l k
        have hpi : m.dst = i := by simpa using hp
        clear hp
        go_wp2_with (at_builtin; refine wpList_append_own _ rfl (.tmp 27) (.tmp 29) 41 rfl w.heap.size 3 i0 _ 1 8 Try.underlying41 hi0 hz0 hz1' hz2 rfl (by decide) u5 _ _ rfl (World.ownsRow.alloc HO.out _) ⟨wr.heap.size, 0, none⟩ 1 1 ([(k : Int)].map (Value.int .i64)) rfl (by simp) HN.out (ints_one _) (by unfold maxLen; omega) (by omega) (by simp; omega) ?_; intro v w2 hown2 hgrow _)
        go_roundw
        case rel =>
          refine ⟨k + 1, by omega, by go_num, ?_, ?_⟩
          · rw [plc_yes HM.out HP.out]; unfold OwnsI; rw [List.map_append]; simpa using hown2
          · exact (HB.out.alloc (by omega) _).grown hgrow (by simp; omega) (fun g hg => (HO.out.lt hg).1)
        case measure => simp [intOf]; omega
      · have hp : (m.dst == i) = false := by simpa using hp
        have HP := Lib.hid hp
        go_wp2
        go_roundw
        case rel => exact ⟨k + 1, by omega, by go_num, by rw [plc_no HM.out HP.out]; exact HO.out, HB.out⟩
        case measure => simp [intOf]; omega
    · have hlI : ¬ ((k : Int) < (l.length : Int)) := by omega
      have hkl : k = l.length := by omega
      subst hkl
      have HO := Lib.hid ho
      have HB := Lib.hid hb
      clear ho hb
      go_wp2
      go_ret
      exact ⟨_, rfl, HO.out, HB.out⟩

set_option maxRecDepth 100000 in
set_option maxHeartbeats 2000000 in
theorem rcut_any (b : Nat) (row : Option Nat) (l : List M) (i : Int) (w : World) (hB : Bg w b row l) (hl : l.length ≤ 900) :
    Calls Try.prog 32 #[.pointer (some ⟨b, 0, none⟩), .int .i64 i] w fun e w' => e = .returned (.int .i64 ((l.length : Int) - ((l.filter (fun m => m.dst != i && m.src != i)).length : Int))) ∧ ∃ row', Bg w' b row' (l.filter (fun m => m.dst != i && m.src != i)) ∧ RowOk row row' w ∧ Fr b row w w' := by
  have hbl := hB.lt
  have HBG := Lib.hid hB
  obtain ⟨s, hs, hsf, hown, -⟩ := hB
  obtain ⟨i0, hi0, hz0, hz1', hz2⟩ := info_parts infoMsg
  obtain ⟨A, cap, rfl, hat⟩ := hown.look
  have HA := Lib.hid hat
  have HS := Lib.hid hs
  have HSF := Lib.hid hsf
  have HE := Lib.hid (World.ownsRow_lit (base := w.heap.size) (e := 31) (size := 8) w #[] 0 (Nat.le_refl _) (by simp) rfl)
  have HBE := Lib.hid (show Below w.heap.size w (w.alloc (.cells #[] 31)) from (Below.refl _ _).alloc (Nat.le_refl _) _)
  have HK := Lib.hid (show kp (fun _ m => m.dst != i && m.src != i) l l.length = l.filter (fun m => m.dst != i && m.src != i) by rw [kp_cut _ _ _ (Nat.le_refl _), List.take_length])
  rw [← HK.out]
  clear hown hat hsf
  go_enter Try.func32, Try.ntmps32
  go_wp2
  go_loopw [5, 6] (fun v iv wr => ∃ k : Nat, k ≤ l.length ∧ iv = .int .i64 k ∧ Owns wr w.heap.size v (kp (fun _ m => m.dst != i && m.src != i) l k) ∧ Below w.heap.size w wr) (fun _ iv _ => l.length - (intOf iv).toNat)
  case atStart => exact ⟨0, Nat.zero_le _, rfl, HE.out, HBE.out⟩
  case round =>
    obtain ⟨k, hk, rfl, ho, hb⟩ := hrel
    have hz := hb.size
    have hs' := (hb.cell (p := ⟨b, 0, none⟩) hbl).trans HS.out
    by_cases hlt : k < l.length
    · obtain ⟨m, hm'⟩ : ∃ m, l[k]? = some m := ⟨_, List.getElem?_eq_getElem hlt⟩
      obtain ⟨g, rfl, hgl, hat⟩ := HA.out k m hm'
      obtain ⟨c0, c1, c2, c3, c4, c5, c6, c7⟩ := hat.kept (w' := wr) (fun o => hb.cell (p := ⟨g, o, none⟩) hgl)
      have hgr : g < wr.heap.size := by omega
      have hlI : (k : Int) < (l.length : Int) := by omega
      have hkI : (0 : Int) ≤ (k : Int) := by omega
      have HO := Lib.hid ho
      have HB := Lib.hid hb
      have HM := Lib.hid hm'
      clear ho hb hm' hat
      by_cases hd : m.dst = i
      · have HP := Lib.hid (show (m.dst != i && m.src != i) = false by simp [hd])
        have hdb : (m.dst != i) = false := by simpa using hd
        go_wp2
        go_roundw
        case rel => exact ⟨k + 1, by omega, by go_num, by rw [kp_no HM.out HP.out]; exact HO.out, HB.out⟩
        case measure => simp [intOf]; omega
      · have hdb : (m.dst != i) = true := by simpa using hd
        by_cases hf : m.src = i
        · have HP := Lib.hid (show (m.dst != i && m.src != i) = false by simp [hf])
          have hfb : (m.src != i) = false := by simpa using hf
          go_wp2
          go_roundw
          case rel => exact ⟨k + 1, by omega, by go_num, by rw [kp_no HM.out HP.out]; exact HO.out, HB.out⟩
          case measure => simp [intOf]; omega
        · have HP := Lib.hid (show (m.dst != i && m.src != i) = true by simp [hf, hd])
          have hfb : (m.src != i) = true := by simpa using hf
          have HN := Lib.hid (show ∀ j u, (flat [m])[j]? = some u → (wr.alloc (.cells m.cells 31)).cell? ((⟨wr.heap.size, 0, none⟩ : Addr).add j) = some u from fun j u hu => World.news_of_block (cs := m.cells) (t := 31) (fr := (0, 0)) (heap_alloc_new wr _) j u (by rw [flat_one] at hu; exact hu))
          have hkl := kp_le (fun _ m => m.dst != i && m.src != i) l k
          go_wp2_with (at_builtin; refine wpList_append_own _ rfl (.tmp 40) (.tmp 48) 27 rfl w.heap.size 31 i0 _ 8 72 Try.underlying27 hi0 hz0 hz1' hz2 rfl (by decide) u5 _ _ rfl (World.ownsRow.alloc HO.out _) ⟨wr.heap.size, 0, none⟩ 1 1 (flat [m]) rfl (by simp [flat]) HN.out (flat_oneCell _) (by unfold maxLen; omega) (by omega) (by simp; omega) ?_; intro v w2 hown2 hgrow _)
          go_roundw
          case rel =>
            refine ⟨k + 1, by omega, by go_num, ?_, ?_⟩
            · rw [kp_yes HM.out HP.out]; unfold Owns; rw [flat_append]; simpa using hown2
            · exact (HB.out.alloc (by omega) _).grown hgrow (by simp; omega) (fun g hg => (HO.out.lt hg).1)
          case measure => simp [intOf]; omega
    · have hlI : ¬ ((k : Int) < (l.length : Int)) := by omega
      have hkl : k = l.length := by omega
      subst hkl
      have hf' := (hb.frozen (p := ⟨b, 0, none⟩) hbl).trans HSF.out
      have hkl := kp_le (fun _ m => m.dst != i && m.src != i) l l.length
      obtain ⟨kl, hkk⟩ : ∃ kl, kp (fun _ m => m.dst != i && m.src != i) l l.length = kl := ⟨_, rfl⟩
      have HKK := Lib.hid hkk
      rw [hkk] at ho hkl
      clear hkk
      have hbr : b < wr.heap.size := by omega
      have HO := Lib.hid ho
      have HB := Lib.hid hb
      obtain ⟨A', cap', rfl, -⟩ := ho.look
      clear ho hb
      go_wp2
      go_ret
      rw [HKK.out]
      have := Bg.anew HBG.out (Below.refl _ _) HB.out HO.out (Nat.le_refl _)
      exact ⟨rfl, _, this.1, this.2.1, this.2.2⟩
end Go.Proofs.Ythcoghgpdcnhlaa
