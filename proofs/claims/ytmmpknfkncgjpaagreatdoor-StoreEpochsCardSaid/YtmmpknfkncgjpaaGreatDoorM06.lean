/-
  append as an equation at a walk's own step, for the two kinds of rows that the document's own has.

  The document's own Crash, counted, Sync and Read (weirkeepref07), by contracts.

  The document's own New (weirkeepref07), by a contract.
-/
import Derived.Test.YtmmpknfkncgjpaaGreatDoorM05
import Derived.Deep.DrawnRows
import Derived.BigRegion
namespace Go.Proofs.YtmmpknfkncgjpaaGreatDoor
open Go.RowKit

section
variable {P : Program}
/-- What append answers, and the world that it leaves. -/
def appV (P : Program) (t : TypeId) (w : World) (v x : Value) : Value := match (Builtin.append_ #[t, t] t #[v, x]).run P w with
  | .ok u _ => u
  | _ => undef
def appW (P : Program) (t : TypeId) (w : World) (v x : Value) : World := match (Builtin.append_ #[t, t] t #[v, x]).run P w with
  | .ok _ w' => w'
  | _ => w
def AppS (P : Program) (t : TypeId) (w : World) (v x : Value) : Prop := (Builtin.append_ #[t, t] t #[v, x]).run P w = .ok (appV P t w v x) (appW P t w v x)
theorem app_of {t : TypeId} {w w' : World} {v x u : Value} (h : (Builtin.append_ #[t, t] t #[v, x]).run P w = .ok u w') : AppS P t w v x ∧ appV P t w v x = u ∧ appW P t w v x = w' := by
  unfold AppS appV appW
  rw [h]
  exact ⟨rfl, rfl, rfl⟩
theorem wp_appL {d : Option Tmp} {s x : Operand} {t : TypeId} {pos : String} {after : Array Edge} {g : Option (Nat × Bool)} {a : Act} {w : World} {K : Act → World → Prop} {Q : Exit → Act → World → Prop} (h : AppS P t w (a.eval s) (a.eval x)) :
    Oper.wp P { dst := d, op := .call { callee := .builtin .append, args := #[s, x], argTypes := #[t, t] }, type := t, pos := pos, after := after, guard := g } a w K Q = K (a.put d (appV P t w (a.eval s) (a.eval x))) (appW P t w (a.eval s) (a.eval x)) := by
  unfold AppS at h
  unfold Oper.wp execOp
  simp only [resolve, invoke, builtin, Sem.run_bind, Sem.run_pure, Result.andThen_ok, List.map_toArray, List.map_cons, List.map_nil, h]
  rfl
end
end Go.Proofs.YtmmpknfkncgjpaaGreatDoor

namespace Go.Proofs.YtmmpknfkncgjpaaGreatDoor
open Go.RowKit

theorem scells_set : ∀ (l : List (List UInt8)) (i : Nat) (x : List UInt8), scells (l.set i x) = (scells l).set i (.string (str x))
  | [], i, x => by simp [scells]
  | y :: l, 0, x => by simp [scells]
  | y :: l, i + 1, x => by
    have := scells_set l i x
    unfold scells at this ⊢
    rw [List.set_cons_succ, List.flatMap_cons, List.flatMap_cons, this]
    rfl
theorem scells_length (l : List (List UInt8)) : (scells l).length = l.length := by unfold scells; induction l with | nil => rfl | cons x l ih => rw [List.flatMap_cons, List.length_append, ih]; simp; omega
/-- An element of a row of one-cell elements is stored. -/
theorem owns_set {w : World} {base e n cap g : Nat} {xs : List Value} (h : w.ownsRow base e 1 (.slice (some ⟨g, 0, none⟩) n cap) n xs) (i : Nat) (u : Value) : (w.setCell ⟨g, i, none⟩ u).ownsRow base e 1 (.slice (some ⟨g, 0, none⟩) n cap) n (xs.set i u) := by
  refine ⟨by simpa using h.1, ?_⟩
  rcases h.2 with ⟨hv, _⟩ | ⟨g', cap', cur, hv, hb, hg, hn, hm, hs, ht⟩
  · cases hv
  · cases hv
    refine .inr ⟨g, cap, cur.setIfInBounds i u, rfl, hb, by simp [World.setCell, Array.getElem?_modify, hg], hn, hm, by simpa using hs, ?_⟩
    rw [Array.toList_setIfInBounds, List.take_set, ht]

/-- A sector of what lasts is another one. -/
theorem RBv.setSec {w : World} {b : Nat} {s : St} {g n cap : Nat} {vw : Value} (h : RBv w b s (.slice (some ⟨g, 0, none⟩) n cap) vw) (hn : n = s.is.length) (i : Nat) (x : List UInt8) :
    RBv (w.setCell ⟨g, i, none⟩ (.string (str x))) b { s with is := s.is.set i x } (.slice (some ⟨g, 0, none⟩) n cap) vw := by
  subst hn
  refine ⟨(h.row.setOther (fun e => h.neI (by rw [e]; rfl)) _).congr fun o _ => ?_, ?_, owns_kept h.wt fun k hk => Below.heap_setCell _ _ _ _ (fun e => h.neIW rfl (by rw [hk]; exact congrArg some e))⟩
  · unfold rf; rfl
  · show World.ownsRow _ 0 _ 1 _ (s.is.set i x).length (scells (s.is.set i x))
    rw [scells_set, List.length_set]
    exact owns_set h.is _ _

theorem share_rem (keep j : Nat) : ((keep : Int) / 2 ^ (4 * (j % 16))).tmod 16 = (share keep j : Int) := by
  have e : (keep : Int) / 2 ^ (4 * (j % 16)) = ((keep >>> (4 * (j % 16)) : Nat) : Int) := by
    rw [Nat.shiftRight_eq_div_pow]; push_cast; rfl
  rw [e]
  exact Int.ofNat_tmod _ 16
theorem mix_str {k : Nat} {new old : List UInt8} (ho : old.length = 32) : (str new).extract 0 k ++ (str old).extract k 32 = str (mix k new old) := by
  rw [str_extract, str_extract, strL_append, List.drop_zero, List.take_of_length_le (Nat.le_of_eq ho)]
  rfl

theorem mix_str15 {new old : List UInt8} (ho : old.length = 32) : (str new).extract 0 32 = str (mix 32 new old) := by
  rw [str_extract, List.drop_zero]
  unfold mix
  rw [List.drop_of_length_le (Nat.le_of_eq ho), List.append_nil]
theorem RBv.setWaits {w : World} {b : Nat} {s : St} {vi vw u : Value} {ws : List Wr} (hr : w.rowIs b 46 6 (rf s vi vw)) (hi : w.ownsRow 0 9 1 vi s.is.length (scells s.is)) (ho : w.ownsRow 0 137 2 u ws.length (ws.flatMap rcells)) : RBv (w.setCell ⟨b, 1, none⟩ u) b { s with wait := ws } vi u :=
  ⟨(hr.set 1 u).congr fun o _ => by unfold rf; by_cases e : o = 1 <;> simp [e], owns_kept hi fun g hg => Below.heap_setCell _ _ _ _ (fun e => owns_ne hi hr (by decide) (by rw [hg]; exact congrArg some e)), owns_kept ho fun g hg => Below.heap_setCell _ _ _ _ (fun e => owns_ne ho hr (by decide) (by rw [hg]; exact congrArg some e))⟩

set_option maxRecDepth 100000 in
set_option maxHeartbeats 4000000 in
theorem rcrash_any (b : Nat) (s : St) (F : Nat → Prop) (keep : Nat) (w : World) (h : RB w b s F) (hg : Good s) :
    Calls Tryz.prog 33 #[.pointer (some ⟨b, 0, none⟩), .int .u64 keep] w fun e w' => e = .returned (.tuple #[]) ∧ Goes F w w' (RB w' b (crash s keep)) := by
  have HP0 := Lib.hid h
  have hbF := h.mem
  obtain ⟨vi, vw, h, hF⟩ := h.v
  obtain ⟨-, -, c2, -⟩ := h.cells
  have hbl := h.row.lt
  cases hgo : s.gone
  · have e1 : crash s keep = { { { { s with is := done (part keep) s.wait s.is s.wait.length } with wait := [] } with gone := true } with left := 0 } := by unfold crash; rw [if_neg (by simp [hgo])]
    rw [e1]
    rw [hgo] at c2
    obtain ⟨⟨A, c, rfl, hc1, hc2, -⟩, ⟨B, d, rfl, hd1, hd2, hwt⟩⟩ := h.shapes
    have H0 := Lib.hid h
    have HG := Lib.hid hg
    have HF := Lib.hid hF
    have HWT := Lib.hid hwt
    clear h hg hF hwt e1
    unfold maxLen at hc2 hd2
    go_enter Tryz.func33, Tryz.ntmps33
    go_wp2
    go_loopw [4] (fun jv wr => ∃ j : Nat, j ≤ s.wait.length ∧ jv = .int .i64 j ∧ RBv wr b (at' s (part keep) j) (.slice A s.is.length c) (.slice B s.wait.length d) ∧ Keeps F w wr) (fun jv _ => s.wait.length - (intOf jv).toNat)
    case atStart => exact ⟨0, Nat.zero_le _, rfl, H0.out, Keeps.refl _ _⟩
    case round =>
      obtain ⟨j, hj, rfl, hP, hK⟩ := hrel
      have P1 := Lib.hid hP
      have K1 := Lib.hid hK
      have d1 := hP.cells.2.1
      clear hP hK H0
      by_cases hlt : j < s.wait.length
      · have hlI : (j : Int) < (s.wait.length : Int) := by omega
        obtain ⟨x, hx⟩ : ∃ x, s.wait[j]? = some x := ⟨_, List.getElem?_eq_getElem hlt⟩
        obtain ⟨hxi, hx32⟩ := HG.out.wt x (List.mem_of_getElem? hx)
        obtain ⟨⟨A1, c1, he1, -, -, hcI⟩, ⟨B1, c2', he2, -, -, hcW⟩⟩ := P1.out.shapes
        injection he1 with he1
        injection he2 with he2
        subst he1 he2
        obtain ⟨gw, rfl, hgw, w0, w1⟩ := hcW j x hx
        have hdl : (done (part keep) s.wait s.is j).length = s.is.length := done_length _ _ _ _
        have hxd : x.i < (done (part keep) s.wait s.is j).length := by rw [hdl]; exact hxi
        have hsec := done_sec (f := part keep) HG.out.sec HG.out.wt j x.i hxi
        have hold : (done (part keep) s.wait s.is j)[x.i]? = some ((done (part keep) s.wait s.is j).getD x.i []) := by rw [List.getD_eq_getElem?_getD, List.getElem?_eq_getElem hxd]; rfl
        obtain ⟨gi, rfl, hgi, i0⟩ := hcI x.i _ hold
        have HDS := Lib.hid (show (at' s (part keep) (j + 1)) = { at' s (part keep) j with is := (done (part keep) s.wait s.is j).set x.i (mix (part keep j) x.b ((done (part keep) s.wait s.is j).getD x.i [])) } from by unfold at'; rw [done_succ hx])
        have HDL := Lib.hid hdl
        generalize hod : (done (part keep) s.wait s.is j).getD x.i [] = old at hsec i0 HDS
        have hsh := share_rem keep j
        have hpl : part keep j = if share keep j = 15 then 32 else 2 * share keep j := rfl
        have hsl := share_lt keep j
        generalize share keep j = t at hsh hpl hsl
        have ht0 : (0 : Int) ≤ (t : Int) := by omega
        have ht1 : (t : Int) < 16 := by omega
        have hj0 : (0 : Int) ≤ (j : Int) := by omega
        have hx0 : (0 : Int) ≤ (x.i : Int) := by omega
        have hx1 : (x.i : Int) < (s.is.length : Int) := by omega
        have hz1 : (str x.b).size = 32 := by rw [str_size, hx32]
        have hz2 : (str old).size = 32 := by rw [str_size, hsec]
        have hb1 : Below wr.heap.size wr (wr.alloc (.cells #[.int .i64 (x.i : Int), .string (str x.b)] 137)) := (Below.refl _ _).alloc (Nat.le_refl _) _
        have P2 := Lib.hid (P1.out.below hb1)
        have K2 := Lib.hid (K1.out.then_below hb1)
        have f0 := P2.out.cells.1
        have f3 : (wr.alloc (.cells #[.int .i64 (x.i : Int), .string (str x.b)] 137)).cell? ⟨gi, x.i, none⟩ = some (.string (str old)) := (hb1.cell (p := ⟨gi, x.i, none⟩) hgi).trans i0
        have fz : (wr.alloc (.cells #[.int .i64 (x.i : Int), .string (str x.b)] 137)).frozen? ⟨gi, x.i, none⟩ = false := by
          obtain ⟨cur, hcur⟩ := owns_type P2.out.is rfl
          unfold World.frozen?; simp only [hcur]; simp
        have hr2 := World.rowIs_alloc wr #[.int .i64 (x.i : Int), .string (str x.b)] 137 (fun q => if q = 0 then .int .i64 (x.i : Int) else .string (str x.b)) (fun q hq => by match q, hq with | 0, _ | 1, _ => rfl)
        have f1 := hr2.cell (i := 0) (by simp)
        have f2 := hr2.cell (i := 1) (by simp)
        simp only [if_true, Nat.one_ne_zero, if_false] at f1 f2
        have HX32 := Lib.hid hx32
        have HSEC := Lib.hid hsec
        clear hx hx32 hcI hcW hdl hxd hold hod hsec i0 hb1 hr2
        have HGI := Lib.hid (HF.out gi (.inr (.inl rfl)))
        have fin : ∀ v, v = str (mix (part keep j) x.b old) → RBv ((wr.alloc (.cells #[.int .i64 (x.i : Int), .string (str x.b)] 137)).setCell ⟨gi, x.i, none⟩ (.string v)) b (at' s (part keep) (j + 1)) (.slice (some ⟨gi, 0, none⟩) s.is.length c) (.slice (some ⟨gw, 0, none⟩) s.wait.length d) := fun v hv => by
          rw [HDS.out, hv]
          exact P2.out.setSec HDL.out.symm x.i _
        have FIN := Lib.hid fin
        clear fin
        by_cases ht : t = 15
        · subst ht
          rw [if_pos rfl] at hpl
          have HPL := Lib.hid hpl
          clear hpl
          go_wp2
          generalize hW : wr.alloc (.cells #[.int .i64 (x.i : Int), .string (str x.b)] 137) = W at *
          clear hW w0 w1 hsh
          go_region
          go_wp2
          go_roundw
          case rel => exact ⟨j + 1, by omega, by go_num, (FIN.out _ (by rw [HPL.out]; exact mix_str15 HSEC.out)).below ((Below.refl _ _).drew), (K2.out.set (b := gi) (o := x.i) (.inl HGI.out) _).drew⟩
          case measure => simp [intOf]; omega
        · rw [if_neg ht] at hpl
          have HPL := Lib.hid hpl
          have ht15 : ((t : Int) == 15) = false := by simp; omega
          have hk3 : (2 * (t : Int)) = ((2 * t : Nat) : Int) := by push_cast; rfl
          clear hpl
          generalize hq : 2 * t = q at *
          have hq0 : (0 : Int) ≤ (q : Int) := by omega
          have hq1 : (q : Int) ≤ 32 := by omega
          clear hq
          go_wp2
          generalize hW : wr.alloc (.cells #[.int .i64 (x.i : Int), .string (str x.b)] 137) = W at *
          clear hW w0 w1 hsh hk3 ht15
          go_region
          go_wp2
          go_roundw
          case rel => exact ⟨j + 1, by omega, by go_num, (FIN.out _ (by rw [HPL.out]; exact mix_str HSEC.out)).below ((Below.refl _ _).drew), (K2.out.set (b := gi) (o := x.i) (.inl HGI.out) _).drew⟩
          case measure => simp [intOf]; omega
      · obtain rfl : j = s.wait.length := by omega
        have hlI : ¬ ((s.wait.length : Int) < (s.wait.length : Int)) := by omega
        have c2' := P1.out.cells.2.2.1
        have c3 := P1.out.cells.2.2.2.1
        have z1 := P1.out.row.frozen 1
        have z2 := P1.out.row.frozen 2
        have z3 := P1.out.row.frozen 3
        have PF := Lib.hid (((RBv.setWaits (ws := []) (u := .slice none 0 0) P1.out.row P1.out.is (World.ownsRow_nil _ _ _ _)).setGone true).setLeft 0)
        have KF := Lib.hid (((K1.out.set (b := b) (o := 1) (.inl hbF) (.slice none 0 0)).set (b := b) (o := 2) (.inl hbF) (.bool true)).set (b := b) (o := 3) (.inl hbF) (.int .i64 ((0 : Nat) : Int)))
        have e0 : ((0 : Nat) : Int) = 0 := rfl
        rw [e0] at PF KF
        clear e0 hj
        go_wp2
        go_end0
        exact ⟨rfl, Goes.ref PF.out hbF (fun k hk => .inl (HF.out k (.inr (.inl hk)))) (fun k hk => by simp [Value.ownBlock] at hk) KF.out⟩
  · have e1 : crash s keep = s := by unfold crash; rw [if_pos hgo]
    rw [e1]
    rw [hgo] at c2
    clear h hg hF e1
    go_enter Tryz.func33, Tryz.ntmps33
    go_wp2
    exact bodyPost_ret (results_none rfl _ _ _) rfl ⟨rfl, Goes.same HP0.out (Keeps.refl _ _)⟩
end Go.Proofs.YtmmpknfkncgjpaaGreatDoor

namespace Go.Proofs.YtmmpknfkncgjpaaGreatDoor
open Go.RowKit

theorem info_str : (Tryz.prog.info? 9).map (fun i => (i.zero, i.size, i.bytes)) = some (some (.string ⟨#[]⟩), 1, 16) := by kernel_rfl

/-- A plate of j sectors so far. -/
def grown (j : Nat) : St := ⟨List.replicate j (zeros 32), [], false, 0, 0, 0⟩
theorem fresh_grown (n : Int) : fresh n = grown (size0 n) := rfl
theorem scells_grown (j : Nat) : scells (List.replicate (j + 1) (zeros 32)) = scells (List.replicate j (zeros 32)) ++ [.string (str (zeros 32))] := by
  unfold scells
  rw [List.replicate_succ', List.flatMap_append]
  rfl

/-- What lasts is another row. -/
theorem RBv.setIs {w : World} {b : Nat} {s : St} {vi vw u : Value} {is : List (List UInt8)} (hr : w.rowIs b 46 6 (rf s vi vw)) (hw : w.ownsRow 0 137 2 vw s.wait.length (s.wait.flatMap rcells)) (ho : w.ownsRow 0 9 1 u is.length (scells is)) : RBv (w.setCell ⟨b, 0, none⟩ u) b { s with is := is } u vw :=
  ⟨(hr.set 0 u).congr fun o _ => by unfold rf; by_cases e : o = 0 <;> simp [e], owns_kept ho fun g hg => Below.heap_setCell _ _ _ _ (fun e => owns_ne ho hr (by decide) (by rw [hg]; exact congrArg some e)), owns_kept hw fun g hg => Below.heap_setCell _ _ _ _ (fun e => owns_ne hw hr (by decide) (by rw [hg]; exact congrArg some e))⟩
/-- A text is appended to texts in a row of their own. -/
theorem append_str (w : World) (v : Value) (n : Nat) (xs : List Value) (hown : w.ownsRow 0 9 1 v n xs) (x : ByteArray) (hn : n ≤ 1000) :
    ∃ g cap w2, (Builtin.append_ #[43, 43] 43 #[v, .slice (some ⟨w.heap.size, 0, none⟩) 1 1]).run Tryz.prog (w.alloc (.cells #[.string x] 9)) = .ok (.slice (some ⟨g, 0, none⟩) (n + 1) cap) w2 ∧
      w2.ownsRow 0 9 1 (.slice (some ⟨g, 0, none⟩) (n + 1) cap) (n + 1) (xs ++ [.string x]) ∧ (w.alloc (.cells #[.string x] 9)).grownBy w2 v.ownBlock ∧ (v.ownBlock = some g ∨ g = w.heap.size + 1) := by
  obtain ⟨i0, hi0, hz0, hz1, hz2⟩ := info_parts info_str
  obtain ⟨g, cap, w2, h1, h2, h3, h4, -⟩ := run_append_lies (P := Tryz.prog) (w.alloc (.cells #[.string x] 9)) 43 43 0 9 i0 _ 1 16 Tryz.underlying43 hi0 hz0 hz1 hz2 rfl (by omega) v n xs (owns_below hown ((Below.refl _ w).alloc (Nat.le_refl _) _))
    ⟨w.heap.size, 0, none⟩ 1 1 [.string x] rfl (fun q u hu => World.news_of_block (cs := #[.string x]) (t := 9) (fr := (0, 0)) (heap_alloc_new w _) q u hu) (fun u hu => by simp at hu; subst hu; rfl) (by omega) (by unfold maxLen; omega) (by omega) (by simp) (w.heap.size + 1) (by simp)
  exact ⟨g, cap, w2, h1, h2, h3, h4⟩

attribute [local go_sem ↓] Go.wp_at_zero Go.wp_at_succ wp_appL

set_option maxRecDepth 100000 in
set_option maxHeartbeats 4000000 in
theorem rnew_m (n : Int) (m : Nat) (w : World) (hm : m ≤ 128) (hcase : (n < 4 ∧ m = 4) ∨ (128 < n ∧ m = 128) ∨ (4 ≤ n ∧ n ≤ 128 ∧ n = (m : Int))) :
    Calls Tryz.prog 30 #[.int .i64 n] w fun e w' => e = .returned (.pointer (some ⟨w.heap.size, 0, none⟩)) ∧ Goes (fun _ => False) w w' (RB w' w.heap.size (grown m)) := by
  obtain ⟨i0, hi0, hz0, hz1, hz2⟩ := info_parts info_str
  have HI := Lib.hid (And.intro hi0 (And.intro hz0 (And.intro hz1 hz2)))
  have hr0 : (w.alloc (.cells #[.slice none 0 0, .slice none 0 0, .bool false, .int .i64 0, .int .u64 0, .int .i64 0] 46)).rowIs w.heap.size 46 6 (rf (grown 0) (.slice none 0 0) (.slice none 0 0)) :=
    World.rowIs_alloc w _ _ _ (fun q hq => by match q, hq with | 0, _ | 1, _ | 2, _ | 3, _ | 4, _ | 5, _ => rfl)
  have H0 := Lib.hid (show RBv (w.alloc (.cells #[.slice none 0 0, .slice none 0 0, .bool false, .int .i64 0, .int .u64 0, .int .i64 0] 46)) w.heap.size (grown 0) (.slice none 0 0) (.slice none 0 0) from ⟨hr0, World.ownsRow_nil _ _ _ _, World.ownsRow_nil _ _ _ _⟩)
  have K0 := Lib.hid (show Below w.heap.size w (w.alloc (.cells #[.slice none 0 0, .slice none 0 0, .bool false, .int .i64 0, .int .u64 0, .int .i64 0] 46)) from (Below.refl _ _).alloc (Nat.le_refl _) _)
  have HZ := Lib.hid (fun w => rzeros_any 32 (by omega) w)
  have e32 : ((32 : Nat) : Int) = 32 := rfl
  rw [e32] at HZ
  have HCS := Lib.hid hcase
  have hzl : w.heap.size < (w.alloc (.cells #[.slice none 0 0, .slice none 0 0, .bool false, .int .i64 0, .int .u64 0, .int .i64 0] 46)).heap.size := by simp
  clear hr0 hi0 hz0 hz1 hz2 e32 hcase
  go_enter Tryz.func30, Tryz.ntmps30
  go_wp2
  go_loopw [4] (fun jv wr => ∃ (j : Nat) (v : Value), j ≤ m ∧ jv = .int .i64 j ∧ RBv wr w.heap.size (grown j) v (.slice none 0 0) ∧ (∀ k, v.ownBlock = some k → w.heap.size ≤ k) ∧ Below w.heap.size w wr) (fun jv _ => m - (intOf jv).toNat)
  case atStart => exact ⟨0, _, Nat.zero_le _, rfl, H0.out, fun k hk => by simp [Value.ownBlock] at hk, K0.out⟩
  case round =>
    obtain ⟨j, v, hj, rfl, hP, hv, hK⟩ := hrel
    have P1 := Lib.hid hP
    have V1 := Lib.hid hv
    have K1 := Lib.hid hK
    have hbl := hP.row.lt
    clear hP hv hK H0 K0 hzl
    by_cases hlt : j < m
    · have hbd : Below wr.heap.size wr wr.drew := (Below.refl _ _).drew
      have Pd := Lib.hid (P1.out.below hbd)
      have Bd := Lib.hid K1.out.drew
      have cd := P1.out.cells.1
      have HNE := Lib.hid P1.out.neI
      clear hbd
      have hj1 : j ≤ 127 := by omega
      rcases HCS.out with ⟨hc1, hmm⟩ | ⟨hc1, hmm⟩ | ⟨hc1, hc2, hmm⟩
      · have hlI : (j : Int) < 4 := by omega
        clear hmm
        go_wp2
        all_goals go_region_with (go_at_call 66; refine (HZ.out _).mono ?_; rintro e wz ⟨rfl, kz⟩; have Pz := Lib.hid (Pd.out.below kz); have cz := (Pd.out.below kz).cells.1; have Bz := Lib.hid (Bd.out.trans (kz.mono Bd.out.size)); (obtain ⟨g, cap, w2, hrun, hown2, hgrow, hat⟩ := append_str wz v (grown j).is.length (scells (grown j).is) Pz.out.is (str (zeros 32)) (by simp [grown]; omega)); (obtain ⟨ha1, ha2, ha3⟩ := app_of hrun); clear hrun; (have Pa := Pz.out.below ((Below.refl _ wz).alloc (Nat.le_refl _) (.cells #[.string (str (zeros 32))] 9))); have ca := Pa.cells.1; (have hf2 : w2.frozen? ⟨w.heap.size, 0, none⟩ = false := by rw [hgrow.frozen_far _ Pa.row.lt (Ne.symm HNE.out)]; exact Pa.row.frozen 0); (have hc3 : w2.cell? ⟨w.heap.size, 0, none⟩ = some v := by rw [hgrow.cell_far _ Pa.row.lt (Ne.symm HNE.out)]; exact ca); (have hr3 := Lib.hid (Pa.row.of_block (hgrow.block w.heap.size Pa.row.lt (fun e => HNE.out e.symm)))); have HO := Lib.hid hown2; have HW := Lib.hid hgrow; have HT := Lib.hid hat; clear kz Pa hown2 hgrow hat)
        all_goals
          go_wp2
          go_roundw
          case rel =>
            refine ⟨j + 1, .slice (some ⟨g, 0, none⟩) ((grown j).is.length + 1) cap, by omega, by go_num, ?_, ?_, ?_⟩
            · exact RBv.setIs (s := grown j) (is := List.replicate (j + 1) (zeros 32)) hr3.out (World.ownsRow_nil _ _ _ _) (by rw [scells_grown]; simpa [grown] using HO.out)
            · intro k hk
              simp only [Value.ownBlock, Option.some.injEq] at hk
              subst hk
              rcases HT.out with h | h
              · exact V1.out _ h
              · have := Bz.out.size; omega
            · exact ((Bz.out.alloc Bz.out.size _).grown HW.out (by have := Bz.out.size; simp; omega) (fun k hk => V1.out k hk)).setCell (p := ⟨w.heap.size, 0, none⟩) (Nat.le_refl _) _
          case measure => simp [intOf]; omega
      · have hlI : (j : Int) < 128 := by omega
        clear hmm
        go_wp2
        all_goals go_region_with (go_at_call 66; refine (HZ.out _).mono ?_; rintro e wz ⟨rfl, kz⟩; have Pz := Lib.hid (Pd.out.below kz); have cz := (Pd.out.below kz).cells.1; have Bz := Lib.hid (Bd.out.trans (kz.mono Bd.out.size)); (obtain ⟨g, cap, w2, hrun, hown2, hgrow, hat⟩ := append_str wz v (grown j).is.length (scells (grown j).is) Pz.out.is (str (zeros 32)) (by simp [grown]; omega)); (obtain ⟨ha1, ha2, ha3⟩ := app_of hrun); clear hrun; (have Pa := Pz.out.below ((Below.refl _ wz).alloc (Nat.le_refl _) (.cells #[.string (str (zeros 32))] 9))); have ca := Pa.cells.1; (have hf2 : w2.frozen? ⟨w.heap.size, 0, none⟩ = false := by rw [hgrow.frozen_far _ Pa.row.lt (Ne.symm HNE.out)]; exact Pa.row.frozen 0); (have hc3 : w2.cell? ⟨w.heap.size, 0, none⟩ = some v := by rw [hgrow.cell_far _ Pa.row.lt (Ne.symm HNE.out)]; exact ca); (have hr3 := Lib.hid (Pa.row.of_block (hgrow.block w.heap.size Pa.row.lt (fun e => HNE.out e.symm)))); have HO := Lib.hid hown2; have HW := Lib.hid hgrow; have HT := Lib.hid hat; clear kz Pa hown2 hgrow hat)
        all_goals
          go_wp2
          go_roundw
          case rel =>
            refine ⟨j + 1, .slice (some ⟨g, 0, none⟩) ((grown j).is.length + 1) cap, by omega, by go_num, ?_, ?_, ?_⟩
            · exact RBv.setIs (s := grown j) (is := List.replicate (j + 1) (zeros 32)) hr3.out (World.ownsRow_nil _ _ _ _) (by rw [scells_grown]; simpa [grown] using HO.out)
            · intro k hk
              simp only [Value.ownBlock, Option.some.injEq] at hk
              subst hk
              rcases HT.out with h | h
              · exact V1.out _ h
              · have := Bz.out.size; omega
            · exact ((Bz.out.alloc Bz.out.size _).grown HW.out (by have := Bz.out.size; simp; omega) (fun k hk => V1.out k hk)).setCell (p := ⟨w.heap.size, 0, none⟩) (Nat.le_refl _) _
          case measure => simp [intOf]; omega
      · have hlI : (j : Int) < n := by omega
        clear hmm
        go_wp2
        all_goals go_region_with (go_at_call 66; refine (HZ.out _).mono ?_; rintro e wz ⟨rfl, kz⟩; have Pz := Lib.hid (Pd.out.below kz); have cz := (Pd.out.below kz).cells.1; have Bz := Lib.hid (Bd.out.trans (kz.mono Bd.out.size)); (obtain ⟨g, cap, w2, hrun, hown2, hgrow, hat⟩ := append_str wz v (grown j).is.length (scells (grown j).is) Pz.out.is (str (zeros 32)) (by simp [grown]; omega)); (obtain ⟨ha1, ha2, ha3⟩ := app_of hrun); clear hrun; (have Pa := Pz.out.below ((Below.refl _ wz).alloc (Nat.le_refl _) (.cells #[.string (str (zeros 32))] 9))); have ca := Pa.cells.1; (have hf2 : w2.frozen? ⟨w.heap.size, 0, none⟩ = false := by rw [hgrow.frozen_far _ Pa.row.lt (Ne.symm HNE.out)]; exact Pa.row.frozen 0); (have hc3 : w2.cell? ⟨w.heap.size, 0, none⟩ = some v := by rw [hgrow.cell_far _ Pa.row.lt (Ne.symm HNE.out)]; exact ca); (have hr3 := Lib.hid (Pa.row.of_block (hgrow.block w.heap.size Pa.row.lt (fun e => HNE.out e.symm)))); have HO := Lib.hid hown2; have HW := Lib.hid hgrow; have HT := Lib.hid hat; clear kz Pa hown2 hgrow hat)
        all_goals
          go_wp2
          go_roundw
          case rel =>
            refine ⟨j + 1, .slice (some ⟨g, 0, none⟩) ((grown j).is.length + 1) cap, by omega, by go_num, ?_, ?_, ?_⟩
            · exact RBv.setIs (s := grown j) (is := List.replicate (j + 1) (zeros 32)) hr3.out (World.ownsRow_nil _ _ _ _) (by rw [scells_grown]; simpa [grown] using HO.out)
            · intro k hk
              simp only [Value.ownBlock, Option.some.injEq] at hk
              subst hk
              rcases HT.out with h | h
              · exact V1.out _ h
              · have := Bz.out.size; omega
            · exact ((Bz.out.alloc Bz.out.size _).grown HW.out (by have := Bz.out.size; simp; omega) (fun k hk => V1.out k hk)).setCell (p := ⟨w.heap.size, 0, none⟩) (Nat.le_refl _) _
          case measure => simp [intOf]; omega
    · obtain rfl : j = m := by omega
      rcases HCS.out with ⟨hc1, hmm⟩ | ⟨hc1, hmm⟩ | ⟨hc1, hc2, hmm⟩
      · have hlI : ¬ ((j : Int) < 4) := by omega
        clear hmm hj hlt
        go_wp2
        all_goals go_ret
        all_goals exact ⟨rfl, _, P1.out.rb, fun k hk => .inr (by rcases hk with rfl | hk | hk; (exact Nat.le_refl _); (exact V1.out k hk); (simp [Value.ownBlock] at hk)), Keeps.of_below K1.out⟩
      · have hlI : ¬ ((j : Int) < 128) := by omega
        clear hmm hj hlt
        go_wp2
        all_goals go_ret
        all_goals exact ⟨rfl, _, P1.out.rb, fun k hk => .inr (by rcases hk with rfl | hk | hk; (exact Nat.le_refl _); (exact V1.out k hk); (simp [Value.ownBlock] at hk)), Keeps.of_below K1.out⟩
      · have hlI : ¬ ((j : Int) < n) := by omega
        clear hmm hj hlt
        go_wp2
        all_goals go_ret
        all_goals exact ⟨rfl, _, P1.out.rb, fun k hk => .inr (by rcases hk with rfl | hk | hk; (exact Nat.le_refl _); (exact V1.out k hk); (simp [Value.ownBlock] at hk)), Keeps.of_below K1.out⟩

theorem rnew_any (n : Int) (w : World) :
    Calls Tryz.prog 30 #[.int .i64 n] w fun e w' => e = .returned (.pointer (some ⟨w.heap.size, 0, none⟩)) ∧ Goes (fun _ => False) w w' (RB w' w.heap.size (fresh n)) := by
  refine rnew_m n (size0 n) w (size0_in n).2 ?_
  unfold size0
  by_cases h1 : n < 4
  · exact .inl ⟨h1, if_pos h1⟩
  · rw [if_neg h1]
    by_cases h2 : 128 < n
    · exact .inr (.inl ⟨h2, if_pos h2⟩)
    · rw [if_neg h2]; exact .inr (.inr ⟨by omega, by omega, by omega⟩)
end Go.Proofs.YtmmpknfkncgjpaaGreatDoor
