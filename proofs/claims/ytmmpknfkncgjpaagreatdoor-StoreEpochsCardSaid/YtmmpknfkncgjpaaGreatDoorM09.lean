/-
  Chain and Code of an error that is a chain of Faults, of whatever length up to 1000: all numbers, from the outside in; the first one.

  The writer of package field, by contracts.

  The writer's Num, by contracts: what fits is written, the lowest byte first; what does not is ErrArg, and nothing is written.
-/
import Derived.Test.YtmmpknfkncgjpaaGreatDoorM08
import Derived.LoopTactic
import Derived.Lib.Hide
import Derived.Deep.AppendLies
import Derived.Deep.RegionHeld3
import Derived.Deep.RegionLaw
import Derived.PlainAid
namespace Go.Proofs.YtmmpknfkncgjpaaGreatDoor
open Go.RowKit Go.Extern.Stop Go.Stop Go.Extern

/-- The error v is nothing, or a Fault in memory on such an error: es are the numbers, from the outside in. -/
def Chained (w : World) : Value → List Int → Prop
  | v, [] => v = .nilIface
  | v, e :: es => ∃ b o u, v = .iface 213 (.pointer (some ⟨b, o, none⟩)) ∧ w.cell? ⟨b, o, none⟩ = some (.int .i64 e) ∧ w.cell? ⟨b, o + 2, none⟩ = some u ∧ Chained w u es

theorem cell_lt {w : World} {b o : Nat} {v : Value} (h : w.cell? ⟨b, o, none⟩ = some v) : b < w.heap.size := by
  rcases Nat.lt_or_ge b w.heap.size with h1 | h1
  · exact h1
  · simp [World.cell?, Array.getElem?_eq_none h1] at h

theorem Chained.below {w w' : World} (hb : Below w.heap.size w w') : ∀ {es : List Int} {v : Value}, Chained w v es → Chained w' v es
  | [], _, h => h
  | _ :: _, _, ⟨b, o, u, hv, he, hu, hr⟩ => ⟨b, o, u, hv, by rw [hb.cell (p := ⟨b, o, none⟩) (cell_lt he)]; exact he, by rw [hb.cell (p := ⟨b, o + 2, none⟩) (cell_lt hu)]; exact hu, hr.below hb⟩

theorem ErrType.below {w w' : World} (hg : ErrType w) (hb : Below w.heap.size w w') : ErrType w' := by
  unfold ErrType at *
  rw [hb.cell (p := ⟨0, 0, none⟩) (cell_lt hg)]; exact hg

theorem ownsRow_below {w w' : World} (hb : Below w.heap.size w w') {base : Nat} {e : TypeId} {size : Nat} {v : Value} {n : Nat} {xs : List Value} (h : w.ownsRow base e size v n xs) : w'.ownsRow base e size v n xs := by
  obtain ⟨h1, h2⟩ := h
  refine ⟨h1, ?_⟩
  rcases h2 with h2 | ⟨g, cap, cur, hv, hg, hh, r⟩
  · exact Or.inl h2
  · refine Or.inr ⟨g, cap, cur, hv, hg, ?_, r⟩
    have hlt : g < w.heap.size := by
      rcases Nat.lt_or_ge g w.heap.size with h1 | h1
      · exact h1
      · simp [Array.getElem?_eq_none h1] at hh
    rw [hb.block g hlt]; exact hh

/-- joined of a Fault on whatever lies under it. -/
theorem joined_any (b o : Nat) (u : Value) (es : List Int) (w : World) (hu : w.cell? ⟨b, o + 2, none⟩ = some u) (hc : Chained w u es) :
    Calls Tryz.prog 166 #[.iface 213 (.pointer (some ⟨b, o, none⟩))] w fun ev w' => ev = .returned (.slice none 0 0) ∧ Below w.heap.size w w' := by
  cases es with
  | nil => cases hc; exact joined_bare b o w hu
  | cons e es => obtain ⟨b', o', u', rfl, _⟩ := hc; exact joined_over b o _ _ w hu

theorem infoErrno : (Tryz.prog.info? 57).map (fun i => (i.zero, i.size, i.bytes)) = some (some (.int .i64 0), 1, 8) := by kernel_rfl

set_option maxRecDepth 100000 in
set_option maxHeartbeats 2000000 in
theorem follow_chain (v : Value) (es : List Int) (w : World) (hg : ErrType w) (hc : Chained w v es) (hl : es.length ≤ 1000) :
    Calls Tryz.prog 142 #[.slice none 0 0, v, .int .i64 0] w fun ev w' => ∃ s, ev = .returned s ∧ w'.ownsRow w.heap.size 57 1 s es.length (es.map (Value.int .i64)) ∧ Below w.heap.size w w' := by
  obtain ⟨i0, hi, hz0, hz1, hz2⟩ := info_parts infoErrno
  have HG := Lib.hid hg
  go_enter Tryz.func142, Tryz.ntmps142
  go_wp2
  go_loopw [0, 1, 2] (fun s e lv wr => ∃ ds rs : List Int, ds ++ rs = es ∧ lv = .int .i64 ds.length ∧ wr.ownsRow w.heap.size 57 1 s ds.length (ds.map (Value.int .i64)) ∧ Chained w e rs ∧ Below w.heap.size w wr) (fun _ _ lv _ => 1001 - (intOf lv).toNat)
  case atStart => exact ⟨[], es, rfl, rfl, World.ownsRow_nil _ _ _ _, hc, Below.refl _ _⟩
  case round =>
    obtain ⟨ds, rs, hes, rfl, hown, hch, hb⟩ := hrel
    have hdl : ds.length + rs.length ≤ 1000 := by rw [← hes] at hl; simpa using hl
    have HES := Lib.hid hes
    clear hes hc
    cases rs with
    | nil =>
      cases hch
      go_wp2
      go_ret
      refine ⟨_, rfl, ?_, hb⟩
      have := HES.out; simp at this; subst this; exact hown
    | cons x rs =>
      obtain ⟨b, o, u, rfl, he, hu, hr⟩ := hch
      have hd : (ds.length : Int) < 131072 := by simp at hdl; omega
      have hE1 : wr.cell? ⟨b, o, none⟩ = some (.int .i64 x) := by rw [hb.cell (p := ⟨b, o, none⟩) (cell_lt he)]; exact he
      have HU := Lib.hid hu
      have HR := Lib.hid hr
      have HB := Lib.hid hb
      clear hu hr he
      go_wp2_with fail
      go_at_call 165
      refine (own_fault b o x wr (HG.out.below hb) hE1).mono ?_
      rintro ev w1 ⟨rfl, hb1⟩
      have hown1 := ownsRow_below hb1 hown
      clear hown hE1
      have hbz := hb.size
      have hbz1 := hb1.size
      go_wp2_with (at_builtin; refine wpList_append_own _ rfl (.tmp 25) (.tmp 27) 100 rfl w.heap.size 57 i0 (.int .i64 0) 1 8 Tryz.underlying100 hi hz0 hz1 hz2 rfl (by decide) _ _ _ rfl (hown1.alloc _) ⟨w1.heap.size, 0, none⟩ 1 1 [.int .i64 x] rfl rfl ?c1 ?c2 ?c3 ?c4 ?c5 ?_)
      case c1 =>
        intro j u hj
        match j, hj with
        | 0, hj => simp at hj; subst hj; simp [Addr.add]
      case c2 => intro u hu; simp at hu; subst hu; rfl
      case c3 => unfold maxLen; simp at hdl; omega
      case c4 => simp at hdl; omega
      case c5 => simp; omega
      · intro v' w2 hown2 hgrow _
        have hb2 : Below w.heap.size w w2 := by
          refine Below.grown ((HB.out.trans (hb1.mono hbz)).alloc (by omega) _) hgrow (by simp; omega) ?_
          intro k hk
          exact (hown1.lt k hk).1
        have hu2 : w2.cell? ⟨b, o + 2, none⟩ = some u := by rw [hb2.cell (p := ⟨b, o + 2, none⟩) (cell_lt HU.out)]; exact HU.out
        have hr2 := HR.out.below hb2
        have HR2 := Lib.hid hr2
        have HB2 := Lib.hid hb2
        clear hown1 hgrow hb1 hb hr2 hb2
        go_wp2_with fail
        go_at_call 166
        refine (joined_any b o u rs w2 hu2 HR2.out).mono ?_
        rintro ev w3 ⟨rfl, hb3⟩
        have hown3 := ownsRow_below hb3 hown2
        have hz3 := hb3.size
        have hz2 := HB2.out.size
        have hb3' : Below w.heap.size w w3 := HB2.out.trans (hb3.mono hz2)
        have hu3 : w3.cell? ⟨b, o + 2, none⟩ = some u := by rw [hb3'.cell (p := ⟨b, o + 2, none⟩) (cell_lt HU.out)]; exact HU.out
        have HB3 := Lib.hid hb3'
        clear hown2 hb3 hb3' hu2
        go_wp2
        refine wp_loop_rounds 1 ?_
        rw [rounds_succ]
        go_wp2_with (go_at_call 167; refine (unwrap_fault b o u _ hu3).mono ?_; rintro ev w4 ⟨rfl, rfl⟩)
        go_roundw
        case rel => exact ⟨ds ++ [x], rs, by simpa using HES.out, by simp, by simpa using hown3, HR.out, HB3.out⟩
        case measure => simp at hdl; simp [intOf]; omega
/-- Chain of a chain of Faults: its numbers, in memory of its own. -/
theorem chain_any (v : Value) (es : List Int) (w : World) (hg : ErrType w) (hc : Chained w v es) (hl : es.length ≤ 1000) :
    Calls Tryz.prog 118 #[v] w fun ev w' => ∃ s, ev = .returned s ∧ w'.ownsRow w.heap.size 57 1 s es.length (es.map (Value.int .i64)) ∧ Below w.heap.size w w' := by
  go_enter Tryz.func118, Tryz.ntmps118
  go_wp2_with (go_at_call 142; refine (follow_chain v es _ hg hc hl).mono ?_; rintro ev w' ⟨s, rfl, hown, hb⟩)
  go_ret
  exact ⟨s, rfl, hown, hb⟩
/-- What an owned slice of numbers is: nil, or a row whose first cells are they. -/
theorem owned_form {w : World} {base : Nat} {e : TypeId} {s : Value} {n : Nat} {xs : List Value} (h : w.ownsRow base e 1 s n xs) :
    (s = .slice none 0 0 ∧ xs = [] ∧ n = 0) ∨ ∃ g cap, s = .slice (some ⟨g, 0, none⟩) n cap ∧ ∀ j u, xs[j]? = some u → w.cell? ⟨g, j, none⟩ = some u := by
  have h' := h
  obtain ⟨h1, h2 | ⟨g, cap, cur, hv, hg, hh, r⟩⟩ := h
  · obtain ⟨rfl, rfl⟩ := h2
    refine .inl ⟨rfl, ?_, rfl⟩
    cases xs with
    | nil => rfl
    | cons x xs => simp at h1
  · refine .inr ⟨g, cap, hv, fun j u hu => ?_⟩
    have := h'.cells (g := g) (by rw [hv]; rfl) j u hu
    have e : (⟨g, 0, none⟩ : Addr).add j = ⟨g, j, none⟩ := by
      by_cases hj : j = 0 <;> simp [Addr.add, hj]
    rw [e] at this; exact this
/-- Code of a chain of Faults: the first number, or 0. -/
theorem code_any (v : Value) (es : List Int) (w : World) (hg : ErrType w) (hc : Chained w v es) (hl : es.length ≤ 1000) :
    Calls Tryz.prog 86 #[v] w fun ev w' => ev = .returned (.int .i64 (es.headD 0)) ∧ Below w.heap.size w w' := by
  have HG := Lib.hid hg
  have HC := Lib.hid hc
  clear hg hc
  go_enter Tryz.func86, Tryz.ntmps86
  go_wp2_with fail
  go_at_call 118
  refine (chain_any v es w HG.out HC.out hl).mono ?_
  rintro ev w' ⟨s, rfl, hown, hb⟩
  have HB := Lib.hid hb
  clear hb
  cases es with
  | nil =>
    rcases owned_form hown with ⟨rfl, _, _⟩ | ⟨g, cap, rfl, _⟩
    · clear hown
      go_wp2
      go_ret
      exact ⟨rfl, HB.out⟩
    · clear hown
      go_wp2
      go_ret
      exact ⟨rfl, HB.out⟩
  | cons e es =>
    rcases owned_form hown with ⟨_, h, _⟩ | ⟨g, cap, rfl, hcell⟩
    · simp at h
    · have h0 := hcell 0 (.int .i64 e) rfl
      have hlen : (0 : Int) < ((e :: es).length : Int) := by simp
      clear hown hcell
      go_wp2
      go_ret
      exact ⟨rfl, HB.out⟩
end Go.Proofs.YtmmpknfkncgjpaaGreatDoor

namespace Go.Proofs.YtmmpknfkncgjpaaGreatDoor
open Go.RowKit Go.Extern.Stop Go.Stop Go.Extern

theorem isWidth_yes (k : Int) (w : World) (h : k = 1 ∨ k = 2 ∨ k = 4 ∨ k = 8) :
    Calls Tryz.prog 78 #[.int .i64 k] w fun e w' => e = .returned (.bool true) ∧ w = w' := by
  rcases h with rfl | rfl | rfl | rfl
  all_goals
    go_enter Tryz.func78, Tryz.ntmps78
    go_wp2
    go_ret
    exact ⟨rfl, rfl⟩
theorem isWidth_no (k : Int) (w : World) (h1 : k ≠ 1) (h2 : k ≠ 2) (h4 : k ≠ 4) (h8 : k ≠ 8) :
    Calls Tryz.prog 78 #[.int .i64 k] w fun e w' => e = .returned (.bool false) ∧ w = w' := by
  go_enter Tryz.func78, Tryz.ntmps78
  go_wp2
  go_ret
  exact ⟨rfl, rfl⟩

set_option maxRecDepth 100000 in
theorem split1 (n : Int) (w : World) :
    Calls Tryz.prog 117 #[.int .u64 n, .int .i64 1] w fun e w' => e = .returned (.agg #[.int .u8 (n % 256), .int .u8 0, .int .u8 0, .int .u8 0, .int .u8 0, .int .u8 0, .int .u8 0, .int .u8 0]) ∧ Below w.heap.size w w' := by
  go_enter Tryz.func117, Tryz.ntmps117
  go_wp2
  go_returns
  exact ⟨rfl, by go_grown⟩
set_option maxRecDepth 100000 in
theorem split2 (n : Int) (w : World) :
    Calls Tryz.prog 117 #[.int .u64 n, .int .i64 2] w fun e w' => e = .returned (.agg #[.int .u8 (n % 256), .int .u8 (n / 256 % 256), .int .u8 0, .int .u8 0, .int .u8 0, .int .u8 0, .int .u8 0, .int .u8 0]) ∧ Below w.heap.size w w' := by
  go_enter Tryz.func117, Tryz.ntmps117
  go_wp2
  go_returns
  exact ⟨rfl, by go_grown⟩
set_option maxRecDepth 100000 in
theorem split4 (n : Int) (w : World) :
    Calls Tryz.prog 117 #[.int .u64 n, .int .i64 4] w fun e w' => e = .returned (.agg #[.int .u8 (n % 256), .int .u8 (n / 256 % 256), .int .u8 (n / 65536 % 256), .int .u8 (n / 16777216 % 256), .int .u8 0, .int .u8 0, .int .u8 0, .int .u8 0]) ∧ Below w.heap.size w w' := by
  go_enter Tryz.func117, Tryz.ntmps117
  go_wp2
  go_returns
  exact ⟨rfl, by go_grown⟩
set_option maxRecDepth 100000 in
theorem split8 (n : Int) (w : World) :
    Calls Tryz.prog 117 #[.int .u64 n, .int .i64 8] w fun e w' => e = .returned (.agg #[.int .u8 (n % 256), .int .u8 (n / 256 % 256), .int .u8 (n / 65536 % 256), .int .u8 (n / 16777216 % 256), .int .u8 (n / 4294967296 % 256), .int .u8 (n / 1099511627776 % 256), .int .u8 (n / 281474976710656 % 256), .int .u8 (n / 72057594037927936 % 256)]) ∧ Below w.heap.size w w' := by
  go_enter Tryz.func117, Tryz.ntmps117
  go_wp2
  go_returns
  exact ⟨rfl, by go_grown⟩

theorem infoByte : (Tryz.prog.info? 5).map (fun i => (i.zero, i.size, i.bytes)) = some (some (.int .u8 0), 1, 1) := by kernel_rfl

/-- A writer in block b: its bytes bs, in a row of its own behind it (row: that row's block). -/
def Wrt (w : World) (b : Nat) (row : Option Nat) (bs : List Int) : Prop :=
  ∃ s, w.cell? ⟨b, 0, none⟩ = some s ∧ w.frozen? ⟨b, 0, none⟩ = false ∧ w.ownsRow (b + 1) 5 1 s bs.length (bs.map (Value.int .u8)) ∧ s.ownBlock = row

/-- From w to w' only block b, the block 'row' and new ones have turned. -/
structure Fr (b : Nat) (row : Option Nat) (w w' : World) : Prop where
  os : w'.os = w.os
  tape : w'.tape = w.tape
  output : w'.output = w.output
  size : w.heap.size ≤ w'.heap.size
  block : ∀ k, k < w.heap.size → k ≠ b → some k ≠ row → w'.heap[k]? = w.heap[k]?

theorem nums_oneCell (l : List Int) (κ : IntKind) : ∀ u ∈ l.map (Value.int κ), u.oneCell' = true := fun u hu => by
  obtain ⟨x, _, rfl⟩ := List.mem_map.1 hu; rfl
theorem take_news (l : List Int) (k : Nat) (κ : IntKind) (j : Nat) (u : Value) (h : ((l.take k).map (Value.int κ))[j]? = some u) : (l.map (Value.int κ))[j]? = some u := by
  rw [List.getElem?_map, List.getElem?_take] at h
  split at h
  · rw [List.getElem?_map]; exact h
  · simp at h

/-- The row is the old one, or a new block. -/
def RowOk (row row' : Option Nat) (w : World) : Prop := row' = row ∨ ∃ g, row' = some g ∧ w.heap.size ≤ g

theorem Wrt.stored {w2 : World} {b g n cap : Nat} {s : Value} {cs : List Int} (hc : w2.cell? ⟨b, 0, none⟩ = some s) (hf : w2.frozen? ⟨b, 0, none⟩ = false) (hn : n = cs.length)
    (hown : w2.ownsRow (b + 1) 5 1 (.slice (some ⟨g, 0, none⟩) n cap) n (cs.map (Value.int .u8))) :
    Wrt (w2.setCell ⟨b, 0, none⟩ (.slice (some ⟨g, 0, none⟩) n cap)) b (some g) cs := by
  subst hn
  exact ⟨_, World.cell?_setCell_same _ _ _ hc, by rw [World.frozen?_setCell]; exact hf, ownsRow_setCell_below hown (Nat.lt_succ_self b) _, rfl⟩

theorem Fr.put {b : Nat} {row srow : Option Nat} {w w1 w2 : World} {o : Obj} {v : Value} (hb : Below w.heap.size w w1) (hg : (w1.alloc o).drew.grownBy w2 srow) (hr : srow = row) : Fr b row w (w2.setCell ⟨b, 0, none⟩ v) := by
  subst hr
  have hz := hb.size
  have hz2 : w1.heap.size + 1 ≤ w2.heap.size := by have := hg.size; simpa using this
  refine ⟨hg.os.trans hb.os, hg.tape.trans hb.tape, hg.output.trans hb.output, by simp [World.setCell]; omega, fun k hk hkb hkr => ?_⟩
  rw [Below.heap_setCell _ _ _ _ (by simpa using hkb), hg.block k (by simp; omega) hkr]
  exact (Below.heap_alloc w1 o k (by omega)).trans (hb.block k hk)

set_option maxRecDepth 100000 in
set_option maxHeartbeats 3200000 in
theorem put_of (b : Nat) (row : Option Nat) (bs : List Int) (n : Int) (k : Nat) (p0 p1 p2 p3 p4 p5 p6 p7 : Int) (w : World) (hk0 : 0 < k) (hk8 : k ≤ 8) (hn : IntKind.u64.wrap n = n)
    (hsp : ∀ w, Calls Tryz.prog 117 #[.int .u64 n, .int .i64 k] w fun e w' => e = .returned (.agg #[.int .u8 p0, .int .u8 p1, .int .u8 p2, .int .u8 p3, .int .u8 p4, .int .u8 p5, .int .u8 p6, .int .u8 p7]) ∧ Below w.heap.size w w')
    (hW : Wrt w b row bs) (hl : bs.length ≤ 100000000) :
    Calls Tryz.prog 80 #[.pointer (some ⟨b, 0, none⟩), .int .i64 n, .int .i64 k] w fun e w' => e = .returned (.tuple #[]) ∧
      ∃ row', Wrt w' b row' (bs ++ [p0, p1, p2, p3, p4, p5, p6, p7].take k) ∧ RowOk row row' w ∧ Fr b row w w' := by
  obtain ⟨s, hs, hsf, hown, hrow⟩ := hW
  obtain ⟨i0, hi0, hz0, hz1, hz2⟩ := info_parts infoByte
  have hbl := cell_lt hs
  have HS := Lib.hid hs
  have HF := Lib.hid hsf
  have HO := Lib.hid hown
  have HR := Lib.hid hrow
  clear hs hsf hown hrow
  go_enter Tryz.func80, Tryz.ntmps80
  go_wp2_with fail
  go_at_call 117
  refine (hsp w).mono ?_
  rintro e w1 ⟨rfl, hb1⟩
  have hz := hb1.size
  have hs1 : w1.cell? ⟨b, 0, none⟩ = some s := by rw [hb1.cell (p := ⟨b, 0, none⟩) hbl]; exact HS.out
  have hown1 := ownsRow_below hb1 HO.out
  have HB := Lib.hid hb1
  clear hb1 hsp
  go_wp2_with fail
  have hf1 : w1.frozen? ⟨b, 0, none⟩ = false := by rw [HB.out.frozen (p := ⟨b, 0, none⟩) hbl]; exact HF.out
  have hne : s.ownBlock ≠ some b := fun h => by have := (HO.out.lt b h).1; omega
  have hkI0 : (0 : Int) ≤ (k : Int) := Int.natCast_nonneg _
  have hkI8 : (k : Int) ≤ 8 := by omega
  have hbl1 : b < w1.heap.size := by omega
  have hnews : ∀ j u, (([p0, p1, p2, p3, p4, p5, p6, p7].take k).map (Value.int .u8))[j]? = some u → ((w1.alloc (.cells #[.int .u8 p0, .int .u8 p1, .int .u8 p2, .int .u8 p3, .int .u8 p4, .int .u8 p5, .int .u8 p6, .int .u8 p7] 190)).drew).cell? ((⟨w1.heap.size, 0, none⟩ : Addr).add j) = some u := fun j u hu =>
    World.news_of_block (cs := #[.int .u8 p0, .int .u8 p1, .int .u8 p2, .int .u8 p3, .int .u8 p4, .int .u8 p5, .int .u8 p6, .int .u8 p7]) (t := 190) (fr := (0, 0)) (heap_alloc_new w1 _) j u (take_news _ _ _ _ _ hu)
  have HF1 := Lib.hid (show ((w1.alloc (.cells #[.int .u8 p0, .int .u8 p1, .int .u8 p2, .int .u8 p3, .int .u8 p4, .int .u8 p5, .int .u8 p6, .int .u8 p7] 190)).drew).frozen? ⟨b, 0, none⟩ = false from (World.frozen?_alloc_old w1 _ ⟨b, 0, none⟩ (Nat.ne_of_lt hbl1)).trans hf1)
  have HC1 := Lib.hid (show ((w1.alloc (.cells #[.int .u8 p0, .int .u8 p1, .int .u8 p2, .int .u8 p3, .int .u8 p4, .int .u8 p5, .int .u8 p6, .int .u8 p7] 190)).drew).cell? ⟨b, 0, none⟩ = some s from (World.cell?_alloc_lt w1 _ ⟨b, 0, none⟩ hbl1).trans hs1)
  have HN := Lib.hid hnews
  clear hnews
  go_region_law
    ((refine step_append_lies _ (by rfl) _ _ _ (by rfl) (b + 1) 5 i0 _ 1 1 Tryz.underlying73 hi0 hz0 hz1 hz2 rfl (by omega) s bs.length (bs.map (Value.int .u8)) (by rfl) ((hown1.alloc _).drew)
        ⟨w1.heap.size, 0, none⟩ k 8 (([p0, p1, p2, p3, p4, p5, p6, p7].take k).map (Value.int .u8)) (by rfl) (by simp; omega) HN.out (nums_oneCell _ _)
        (by omega) (by unfold maxLen; omega) (by omega) (by simp; omega) (w1.heap.size + 1) (by simp) ?_; intro g cap w2 hown2 hgrow hat hlt; (have hf2 : w2.frozen? ⟨b, 0, none⟩ = false := by rw [hgrow.frozen_far _ (by simp; omega) (Ne.symm hne)]; exact HF1.out); (have hc2 : w2.cell? ⟨b, 0, none⟩ = some s := by rw [hgrow.cell_far _ (by simp; omega) (Ne.symm hne)]; exact HC1.out)))
  go_wp2
  go_end0
  refine ⟨rfl, some g, Wrt.stored hc2 hf2 (by simp; omega) (by simpa using hown2), ?_, Fr.put HB.out hgrow (HR.out ▸ rfl)⟩
  rcases hat with h | h
  · exact .inl (by rw [← h]; exact HR.out)
  · exact .inr ⟨g, rfl, by omega⟩
end Go.Proofs.YtmmpknfkncgjpaaGreatDoor

namespace Go.Proofs.YtmmpknfkncgjpaaGreatDoor
open Go.RowKit Go.Extern.Stop Go.Stop Go.Extern Go.PlainAid

/-- The k lowest bytes of n, the lowest first. -/
def leb (n : Int) (k : Nat) : List Int :=
  [n % 256, n / 256 % 256, n / 65536 % 256, n / 16777216 % 256, n / 4294967296 % 256, n / 1099511627776 % 256, n / 281474976710656 % 256, n / 72057594037927936 % 256].take k

def Width (k : Int) : Prop := k = 1 ∨ k = 2 ∨ k = 4 ∨ k = 8

/-- n fits into k bytes. -/
def Fits (n k : Int) : Prop := 0 ≤ n ∧ ((k = 1 ∧ n < 256) ∨ (k = 2 ∧ n < 65536) ∨ (k = 4 ∧ n < 4294967296) ∨ (k = 8 ∧ n ≤ 9223372036854775807))

theorem put_any (b : Nat) (row : Option Nat) (bs : List Int) (n k : Int) (w : World) (hk : Width k) (h0 : 0 ≤ n) (h1 : n ≤ 9223372036854775807) (hW : Wrt w b row bs) (hl : bs.length ≤ 100000000) :
    Calls Tryz.prog 80 #[.pointer (some ⟨b, 0, none⟩), .int .i64 n, .int .i64 k] w fun e w' => e = .returned (.tuple #[]) ∧
      ∃ row', Wrt w' b row' (bs ++ leb n k.toNat) ∧ RowOk row row' w ∧ Fr b row w w' := by
  have hn : IntKind.u64.wrap n = n := u64_nonneg h0 (by omega)
  rcases hk with rfl | rfl | rfl | rfl
  · exact put_of b row bs n 1 _ 0 0 0 0 0 0 0 w (by omega) (by omega) hn (fun w => split1 n w) hW hl
  · exact put_of b row bs n 2 _ _ 0 0 0 0 0 0 w (by omega) (by omega) hn (fun w => split2 n w) hW hl
  · exact put_of b row bs n 4 _ _ _ _ 0 0 0 0 w (by omega) (by omega) hn (fun w => split4 n w) hW hl
  · exact put_of b row bs n 8 _ _ _ _ _ _ _ _ w (by omega) (by omega) hn (fun w => split8 n w) hW hl

/-- Wrap of a number that is not OK: a new Fault. -/
theorem wrap_new (E at_ : Int) (u : Value) (es : List Int) (w : World) (hE : E ≠ 0) (hu : Chained w u es) :
    Calls Tryz.prog 116 #[.int .i64 E, .int .i64 at_, u] w fun e w' => ∃ v, e = .returned v ∧ Chained w' v (E :: es) ∧ Below w.heap.size w w' := by
  have hE' : (E == 0) = false := by simpa using hE
  have done : ∀ x, (∃ t y, x = Value.iface t y) ∨ x = .nilIface → Chained w x es → Calls Tryz.prog 116 #[.int .i64 E, .int .i64 at_, x] w fun e w' => ∃ v, e = .returned v ∧ Chained w' v (E :: es) ∧ Below w.heap.size w w' := by
    intro x hx hu
    have hb : Below w.heap.size w (w.alloc (.cells #[.int .i64 E, .int .i64 at_, x] 215)) := (Below.refl _ _).alloc (Nat.le_refl _) _
    have HU := Lib.hid (hu.below hb)
    have HB := Lib.hid hb
    clear hu hb
    rcases hx with ⟨t, y, rfl⟩ | rfl
    all_goals
      go_enter Tryz.func116, Tryz.ntmps116
      go_wp2
      go_ret
      exact ⟨_, rfl, ⟨w.heap.size, 0, _, rfl, by simp, by simp, HU.out⟩, HB.out⟩
  cases es with
  | nil => exact done u (.inr hu) hu
  | cons e es => exact done u (by obtain ⟨b, o, y, rfl, _⟩ := hu; exact .inl ⟨_, _, rfl⟩) hu

/-- The writer's fault. -/
theorem wfault (b : Nat) (row : Option Nat) (bs : List Int) (E : Int) (w : World) (hE : E ≠ 0) (hW : Wrt w b row bs) :
    Calls Tryz.prog 79 #[.pointer (some ⟨b, 0, none⟩), .int .i64 E] w fun e w' => ∃ v, e = .returned v ∧ Chained w' v [E] ∧ Below w.heap.size w w' := by
  obtain ⟨s, hs, hsf, hown, hrow⟩ := hW
  rcases owned_form hown with ⟨rfl, _, _⟩ | ⟨g, cap, rfl, _⟩
  all_goals
    clear hown hrow hsf
    go_enter Tryz.func79, Tryz.ntmps79
    go_wp2_with (go_at_call 116; refine (wrap_new E _ .nilIface [] _ hE rfl).mono ?_; rintro e w' ⟨v, rfl, hc, hb⟩)
    go_ret
    exact ⟨v, rfl, hc, hb⟩

/-- Num of what fits. -/
theorem num_ok (b : Nat) (row : Option Nat) (bs : List Int) (n k : Int) (w : World) (hf : Fits n k) (hW : Wrt w b row bs) (hl : bs.length ≤ 100000000) :
    Calls Tryz.prog 44 #[.pointer (some ⟨b, 0, none⟩), .int .i64 n, .int .i64 k] w fun e w' => e = .returned .nilIface ∧
      ∃ row', Wrt w' b row' (bs ++ leb n k.toNat) ∧ RowOk row row' w ∧ Fr b row w w' := by
  obtain ⟨h0, hf⟩ := hf
  have hw : Width k := by unfold Width; omega
  have h1 : n ≤ 9223372036854775807 := by omega
  have hn : IntKind.u64.wrap n = n := u64_nonneg h0 (by omega)
  have HP := Lib.hid (put_any b row bs n k w hw h0 h1 hW hl)
  clear hW h1
  rcases hf with ⟨rfl, h⟩ | ⟨rfl, h⟩ | ⟨rfl, h⟩ | ⟨rfl, h⟩
  · have hq : n / 256 = 0 := by omega
    clear h
    go_enter Tryz.func44, Tryz.ntmps44
    go_wp2_with (first
      | (go_at_call 78; refine (isWidth_yes _ _ hw).mono ?_; rintro e w' ⟨rfl, rfl⟩)
      | (go_at_call 80; refine HP.out.mono ?_; rintro e w' ⟨rfl, hP⟩))
    go_ret
    exact ⟨rfl, hP⟩
  · have hq : n / 65536 = 0 := by omega
    clear h
    go_enter Tryz.func44, Tryz.ntmps44
    go_wp2_with (first
      | (go_at_call 78; refine (isWidth_yes _ _ hw).mono ?_; rintro e w' ⟨rfl, rfl⟩)
      | (go_at_call 80; refine HP.out.mono ?_; rintro e w' ⟨rfl, hP⟩))
    go_ret
    exact ⟨rfl, hP⟩
  · have hq : n / 4294967296 = 0 := by omega
    clear h
    go_enter Tryz.func44, Tryz.ntmps44
    go_wp2_with (first
      | (go_at_call 78; refine (isWidth_yes _ _ hw).mono ?_; rintro e w' ⟨rfl, rfl⟩)
      | (go_at_call 80; refine HP.out.mono ?_; rintro e w' ⟨rfl, hP⟩))
    go_ret
    exact ⟨rfl, hP⟩
  · have hq : n / 18446744073709551616 = 0 := by omega
    clear h
    go_enter Tryz.func44, Tryz.ntmps44
    go_wp2_with (first
      | (go_at_call 78; refine (isWidth_yes _ _ hw).mono ?_; rintro e w' ⟨rfl, rfl⟩)
      | (go_at_call 80; refine HP.out.mono ?_; rintro e w' ⟨rfl, hP⟩))
    go_ret
    exact ⟨rfl, hP⟩

/-- Num of what does not fit. -/
theorem num_bad (b : Nat) (row : Option Nat) (bs : List Int) (n k : Int) (w : World) (hf : ¬ Fits n k) (h1 : n ≤ 9223372036854775807) (hW : Wrt w b row bs) :
    Calls Tryz.prog 44 #[.pointer (some ⟨b, 0, none⟩), .int .i64 n, .int .i64 k] w fun e w' => ∃ v, e = .returned v ∧ Chained w' v [1] ∧ Below w.heap.size w w' := by
  have HP := Lib.hid (wfault b row bs 1 w (by decide) hW)
  clear hW
  by_cases hw : Width k
  · by_cases h0 : 0 ≤ n
    · have hn : IntKind.u64.wrap n = n := u64_nonneg h0 (by omega)
      unfold Fits at hf
      have hw' := hw
      rcases hw' with rfl | rfl | rfl | rfl
      · have hq : (n / 256 != 0) = true := by simp only [bne_iff_ne, ne_eq]; omega
        have hd : decide (n < 0) = false := by simp only [decide_eq_false_iff_not]; omega
        clear hf h1
        go_enter Tryz.func44, Tryz.ntmps44
        go_wp2_with (first
          | (go_at_call 78; refine (isWidth_yes _ _ hw).mono ?_; rintro e w' ⟨rfl, rfl⟩)
          | (go_at_call 79; refine HP.out.mono ?_; rintro e w' ⟨v, rfl, hP⟩))
        go_ret
        exact ⟨v, rfl, hP⟩
      · have hq : (n / 65536 != 0) = true := by simp only [bne_iff_ne, ne_eq]; omega
        have hd : decide (n < 0) = false := by simp only [decide_eq_false_iff_not]; omega
        clear hf h1
        go_enter Tryz.func44, Tryz.ntmps44
        go_wp2_with (first
          | (go_at_call 78; refine (isWidth_yes _ _ hw).mono ?_; rintro e w' ⟨rfl, rfl⟩)
          | (go_at_call 79; refine HP.out.mono ?_; rintro e w' ⟨v, rfl, hP⟩))
        go_ret
        exact ⟨v, rfl, hP⟩
      · have hq : (n / 4294967296 != 0) = true := by simp only [bne_iff_ne, ne_eq]; omega
        have hd : decide (n < 0) = false := by simp only [decide_eq_false_iff_not]; omega
        clear hf h1
        go_enter Tryz.func44, Tryz.ntmps44
        go_wp2_with (first
          | (go_at_call 78; refine (isWidth_yes _ _ hw).mono ?_; rintro e w' ⟨rfl, rfl⟩)
          | (go_at_call 79; refine HP.out.mono ?_; rintro e w' ⟨v, rfl, hP⟩))
        go_ret
        exact ⟨v, rfl, hP⟩
      · omega
    · have hn : n < 0 := by omega
      have hd : decide (n < 0) = true := by simp only [decide_eq_true_eq]; omega
      clear hf h0 h1
      go_enter Tryz.func44, Tryz.ntmps44
      go_wp2_with (first
        | (go_at_call 78; refine (isWidth_yes _ _ hw).mono ?_; rintro e w' ⟨rfl, rfl⟩)
        | (go_at_call 79; refine HP.out.mono ?_; rintro e w' ⟨v, rfl, hP⟩))
      go_ret
      exact ⟨v, rfl, hP⟩
  · have k1 : k ≠ 1 := fun h => hw (.inl h)
    have k2 : k ≠ 2 := fun h => hw (.inr (.inl h))
    have k4 : k ≠ 4 := fun h => hw (.inr (.inr (.inl h)))
    have k8 : k ≠ 8 := fun h => hw (.inr (.inr (.inr h)))
    have HW := Lib.hid (isWidth_no k w k1 k2 k4 k8)
    clear hf hw h1 k1 k2 k4 k8
    go_enter Tryz.func44, Tryz.ntmps44
    go_wp2_with (first
      | (go_at_call 78; refine HW.out.mono ?_; rintro e w' ⟨rfl, rfl⟩)
      | (go_at_call 79; refine HP.out.mono ?_; rintro e w' ⟨v, rfl, hP⟩))
    go_ret
    exact ⟨v, rfl, hP⟩
end Go.Proofs.YtmmpknfkncgjpaaGreatDoor
