/-
  Propose of the document's own (weirkeepref11), by a contract: its refusals, its first round.
-/
import Derived.Test.YtkcbmkedhipgeaaGreatDoorRq6
import Derived.Test.YtkcbmkedhipgeaaGreatDoorRq3
import Derived.Test.YtkcbmkedhipgeaaGreatDoorRcho
import Derived.Test.YtkcbmkedhipgeaaGreatDoorRprog3
import Derived.Deep.Upon
import Derived.StillTailTactics
namespace Go.Proofs.YtkcbmkedhipgeaaGreatDoor
open Go.RowKit Go.ChangeMaps

theorem bit4 {L : Nat} (j c : Nat) (hj : 4 * j + c < 64) (w : World) : Calls Tryz.prog 47 #[.int .u64 (L : Int), .int .i64 (4 * (j : Int) + (c : Int))] w fun e w' => e = .returned (.bool (L.testBit (4 * j + c))) ∧ w = w' := by
  have h := bit_any (L := L) (i := 4 * j + c) hj w
  rw [show ((4 * j + c : Nat) : Int) = 4 * (j : Int) + (c : Int) by omega] at h
  exact h
theorem bit40 {L : Nat} (j : Nat) (hj : 4 * j < 64) (w : World) : Calls Tryz.prog 47 #[.int .u64 (L : Int), .int .i64 (4 * (j : Int))] w fun e w' => e = .returned (.bool (L.testBit (4 * j))) ∧ w = w' := by
  have h := bit_any (L := L) (i := 4 * j) hj w
  rw [show ((4 * j : Nat) : Int) = 4 * (j : Int) by omega] at h
  exact h
theorem infoVs : (Tryz.prog.info? 65).map (fun i => (i.zero, i.size, i.bytes)) = some (some (.slice none 0 0), 1, 24) := by kernel_rfl
theorem RT.tld {n : Nat} {Q Q' : Ql} {w w' : World} (h : RT n Q Q' w w') {base : Nat} {u : Value} {T : List (List V)} (ht : Tld 78 65 w base u T) : Tld 78 65 w' base u T :=
  ht.kept fun k cs t hq hb => h.chg.keep hb fun hp => by
    have h2 := hp.2
    simp only [isTy, List.mem_cons, List.not_mem_nil, or_false] at h2
    rcases hq with rfl | rfl
    · exact absurd h2 (by decide)
    · exact absurd h2 (by decide)
theorem ask1_told (S : Gp) (b sl : Int) (L : Nat) : ∀ j, (goes (ask1 b sl L) ⟨S, [], 0⟩ j).told.length ≤ j
  | 0 => Nat.le_refl _
  | j + 1 => by
    have ih := ask1_told S b sl L j
    show (ask1 b sl L (goes (ask1 b sl L) ⟨S, [], 0⟩ j) j).told.length ≤ j + 1
    generalize goes (ask1 b sl L) ⟨S, [], 0⟩ j = R at ih ⊢
    unfold ask1
    split
    · omega
    · split
      · show R.told.length ≤ j + 1; omega
      · show (if _ then _ else _ : List (List V)).length ≤ j + 1
        split
        · rw [List.length_append, List.length_singleton]; omega
        · omega
theorem RG.other {w w' : World} {r : Nat} {S : Gp} {Q : Ql} {p : Nat → Obj → Prop} (h : RG w r S Q) (hc : Chg p w w')
    (hp : ∀ q o, w.heap[q]? = some o → p q o → ∃ cs t, o = Obj.cells cs t (0, 0) ∧ t ∉ [33, 63, 69, 67, 78, 80, 9]) : RG w' r S Q :=
  h.keep fun q o hq hm => hc.keep hq fun e => by
    obtain ⟨cs, t, rfl, ht⟩ := hp q o hq e
    rcases hm with hm | ⟨i, hi, hm⟩
    · simp only [isTy, List.mem_cons, List.not_mem_nil, or_false, not_or] at hm ht
      obtain ⟨t1, t2, t3, t4, t5, t6, -⟩ := ht
      rcases hm with e | e | e | e | e | e
      · exact t1 e
      · exact t2 e
      · exact t3 e
      · exact t4 e
      · exact t5 e
      · exact t6 e
    · obtain ⟨cur, h1⟩ := (h.nd i hi).log.ty hm
      rw [hq] at h1
      injection h1 with h1
      injection h1 with _ h2
      subst h2
      exact ht (by simp)
theorem RT.fresh {n : Nat} {Q Q' : Ql} {w w1 w2 : World} {p : Nat → Obj → Prop} (h : RT n Q Q' w w1) (hf : Chg p w1 w2) (hb : ∀ k o, p k o → w.heap.size ≤ k) : RT n Q Q' w w2 :=
  ⟨h.chg.trans hf (fun k o hk e => by have := lt_of hk; have := hb k o e; omega), h.new, h.fix⟩
theorem ownR_le (b : Int) : -1 ≤ ownR b ∧ ownR b ≤ 137438953472 := by
  unfold ownR
  split
  · rename_i h
    have := h.1
    have := h.2
    omega
  · omega
/-- At the end the round rises by one. -/
theorem RG.rise {w : World} {r k : Nat} {S : Gp} {Q : Ql} {b hi : Int} (h : RG w r (RS b hi k S) Q) (hk : k < S.n) (z : Int) (hz : z = ownR (max b hi) + 1) :
    RG (w.setCell ⟨Q.nds k, 3, none⟩ (.int .i64 z)) r (S.setRd k (nextR b hi)) Q ∧ RT S.n Q Q w (w.setCell ⟨Q.nds k, 3, none⟩ (.int .i64 z)) := by
  subst hz
  have hk' : k < (RS b hi k S).n := hk
  obtain ⟨h1, h2⟩ := h.flip (x' := { (RS b hi k S).nd k with rd := ownR (max b hi) + 1 }) hk' (Fb.same.set 3 _) (heap_setCell (h.nd k hk').cs 3 (.int .i64 (ownR (max b hi) + 1))) rfl rfl
  refine ⟨?_, h2⟩
  have e : (RS b hi k S).set k { (RS b hi k S).nd k with rd := ownR (max b hi) + 1 } = S.setRd k (nextR b hi) := setRd_setRd S k _ _
  rw [← e]; exact h1
theorem infoDn : (Tryz.prog.info? 80).map (fun i => (i.zero, i.size, i.bytes)) = some (some (.agg #[.int .i64 0, .int .i64 0, .int .i64 0, .string ⟨#[]⟩]), 4, 40) := by kernel_rfl
theorem accS_len (S : Gp) (i : Nat) (v : V) : (accS S i v).all.length ≤ S.all.length + 1 := by
  unfold accS
  split
  · show (S.all ++ [(i, v)]).length ≤ _
    rw [List.length_append, List.length_singleton]; omega
  · omega
theorem ask2_len (v : V) (L : Nat) (R : Rnd) (i : Nat) : (ask2 v L R i).S.all.length ≤ R.S.all.length + 1 := by
  unfold ask2
  split
  · omega
  · split
    · exact accS_len _ _ _
    · exact accS_len _ _ _
theorem rnd1_all (S : Gp) (k L : Nat) : (rnd1 S k L).S.all = S.all := by rw [rnd1_S]
theorem accS_no {S : Gp} {i : Nat} {v : V} (h : ¬ accE (S.nd i).A v = 0) : S.set i ((S.nd i).setA ((S.nd i).A.accept v)) = accS S i v := by
  have e : (S.nd i).A.accept v = (S.nd i).A := by unfold Acc.accept; rw [if_neg h]
  unfold accS
  rw [if_neg h, e]
  refine gp_ext rfl (fun j => ?_) rfl rfl
  rw [set_nd]
  by_cases e1 : j = i
  · subst e1; rw [if_pos rfl]; rfl
  · rw [if_neg e1]
/-- append of texts to texts, maybe of none. -/
theorem wpList_appS {ops : Array Oper} {rest : List Oper} {o : Oper} {a : Act} {Q : Exit → Act → World → Prop} {w : World} (hgd : o.guard = none) (s x : Operand) (ho : o.op = .call { callee := .builtin .append, args := #[s, x], argTypes := #[39, 39] })
    (base : Nat) {As : Option Addr} {n cs : Nat} {l : List ByteArray} (hs : a.eval s = .slice As n cs) (hown : OwnsS w base (.slice As n cs) l) {v : Value} {base' : Nat} {m : List ByteArray} (hx : a.eval x = v) (hm : OwnsS w base' v m) (hlen : l.length + m.length ≤ 100000) (hbase : base ≤ w.heap.size) (N : Nat) (hN : w.heap.size = N)
    (h : ∀ A cap w', OwnsS w' base (.slice A (l.length + m.length) cap) (l ++ m) → w.grownBy w' (Value.slice As n cs).ownBlock → (∀ b, (Value.slice A (l.length + m.length) cap).ownBlock = some b → (Value.slice As n cs).ownBlock = some b ∨ N ≤ b) → wpList Tryz.prog ops Q rest (a.put o.dst (.slice A (l.length + m.length) cap)) w') : wpList Tryz.prog ops Q (o :: rest) a w := by
  subst hN
  obtain ⟨A0, c0, hv0, -⟩ := hown.form
  simp only [Value.slice.injEq] at hv0
  obtain ⟨rfl, rfl, rfl⟩ := hv0
  obtain ⟨ti, ti0, tz0, tz1, tz2⟩ := info_parts infoStr
  by_cases h0 : m = []
  · subst h0
    obtain ⟨Ax, cx, rfl, -⟩ := hm.form
    have hle : l.length ≤ cs := by
      rcases hown.parts with ⟨hv, hl⟩ | ⟨g, cap, hv, -, h3, -, -⟩
      · rw [hl]; exact Nat.zero_le _
      · simp only [Value.slice.injEq] at hv; omega
    have hr := run_append_nothing (P := Tryz.prog) w 39 39 o.type 9 ti Tryz.underlying39 ti0 As l.length cs hle (.slice Ax 0 cx) (by
      rw [tz1]
      cases Ax with
      | none => exact Src.ofNil w Tryz.underlying39 cx
      | some ad => exact Src.ofSlice w Tryz.underlying39 _ 0 cx [] (by simp) (by simp) (by simp))
    have h2 := h As cs w (by simpa using hown) (grownBy_refl _ _) (fun b hb => .inl hb)
    refine wpList_plain hgd fun _ hK => ?_
    unfold Oper.wp execOp
    have hx' : a.eval x = .slice Ax 0 cx := hx
    simp only [ho, resolve, invoke, builtin, Sem.run_bind, Sem.run_pure, Result.andThen_ok, List.map_toArray, List.map_cons, List.map_nil, hs, hx', hr]
    exact hK _ _ h2
  · rcases hm.parts with ⟨-, hc⟩ | ⟨g, cap, rfl, hg, hcl, hcm, hget⟩
    · exact absurd hc h0
    · refine wpList_append_lies _ hgd s x 39 ho base 9 ti _ 1 16 Tryz.underlying39 ti0 tz0 tz1 tz2 rfl (by omega) _ l.length (scs l) hs hown ⟨g, 0, none⟩ m.length cap (scs m) hx (by rw [scs_len]; omega) (fun j u hu => ?_) (scs_one _) (by have := List.length_pos_iff.2 h0; omega) (by unfold maxLen; omega) (by omega) hbase w.heap.size rfl ?_
      · unfold scs at hu
        rw [List.getElem?_map] at hu
        cases hq : m[j]? with
        | none => rw [hq] at hu; cases hu
        | some y =>
          rw [hq] at hu
          simp only [Option.map_some, Option.some.injEq] at hu
          subst hu
          have hadd : (⟨g, 0, none⟩ : Addr).add j = ⟨g, j, none⟩ := by unfold Addr.add; split <;> simp_all
          rw [hadd]
          exact hget _ _ hq
      · intro g2 cap2 w' hown2 hgrow hat _
        refine h _ cap2 w' ?_ hgrow (fun b hb => ?_)
        · unfold OwnsS
          rw [List.length_append, show scs (l ++ m) = scs l ++ scs m by simp [scs]]
          exact hown2
        · have e : g2 = b := by simpa [Value.ownBlock] using hb
          subst e
          rcases hat with e | e
          · exact .inl e
          · right; omega
theorem push_setRd (S : Gp) (k : Nat) (x : ByteArray) (z : Int) : (S.setRd k z).set k { (S.setRd k z).nd k with log := (S.nd k).log ++ [x] } = (S.push k x).setRd k z := by
  refine gp_ext rfl (fun j => ?_) rfl rfl
  by_cases e1 : j = k
  · subst e1; simp [Gp.push, Gp.setRd, Gp.set, at1]
  · simp [Gp.push, Gp.setRd, Gp.set, at1, e1]
set_option maxRecDepth 100000 in
set_option maxHeartbeats 8000000 in
theorem rpro_any {w : World} {r : Nat} {S : Gp} {Q : Ql} (h : RG w r S Q) (hI : Inv S (rds S)) (hal : S.all.length ≤ 100000) (i : Int) (x : ByteArray) (L : Nat) :
    Calls Tryz.prog 25 #[.pointer (some ⟨r, 0, none⟩), .int .i64 i, .string x, .int .u64 (L : Int)] w fun e w' => ∃ Q', e = .returned (.tuple #[.int .i64 (proE S i x L).1, .string (proE S i x L).2.1, .int .i64 (proE S i x L).2.2]) ∧ RG w' r (proS S i x L) Q' ∧ RT S.n Q Q' w w' := by
  have HR := Lib.hid h
  have HH := Lib.hid (rhas_any h i)
  by_cases hE : refE S i x = 0
  · obtain ⟨hi0, hkn, hik, hup, hxs, hlog, hR⟩ := refE_zero hE
    have hh : S.has i = true := has_iff.2 ⟨hi0, by omega⟩
    rw [hh] at HH
    have hpe : proE S i x L = if 2 * (rnd1 S i.toNat L).told.length ≤ S.n then (0, ⟨#[]⟩, 110) else if 2 * (rnd2 S i.toNat x L).told.length ≤ S.n then (0, ⟨#[]⟩, 110) else (slotOf S i.toNat, (voteOf S i.toNat x L).x, 0) := by
      unfold proE; rw [if_neg (fun e => e hE)]
    have hps : proS S i x L = if 2 * (rnd1 S i.toNat L).told.length ≤ S.n then (rnd1 S i.toNat L).S.setRd i.toNat (nextR (balOf S i.toNat) (rnd1 S i.toNat L).hi) else if 2 * (rnd2 S i.toNat x L).told.length ≤ S.n then (rnd2 S i.toNat x L).S.setRd i.toNat (nextR (balOf S i.toNat) (max (rnd1 S i.toNat L).hi (rnd2 S i.toNat x L).hi))
        else ((rnd2 S i.toNat x L).S.push i.toNat (voteOf S i.toNat x L).x).setRd i.toNat (nextR (balOf S i.toNat) (max (rnd1 S i.toNat L).hi (rnd2 S i.toNat x L).hi)) := by
      unfold proS; rw [if_neg (fun e => e hE)]
    generalize hk : i.toNat = k at *
    subst hik
    obtain ⟨hb1', hb2⟩ : 1 ≤ balOf S k ∧ balOf S k ≤ 1099511627776 := by
      unfold balOf numV
      unfold numR at hR
      split at hR
      · cases hR
      · rename_i q1
        split at hR
        · cases hR
        · rename_i q2
          rw [if_neg q1, if_neg q2]; omega
    have hown : ownR (balOf S k) = (S.nd k).rd := (own_num hR).1
    have hn5 := hI.n5
    have c0 := h.c0
    have c1 := h.nodeAt hkn
    have hN := h.nd k hkn
    have d0 := hN.c0
    have d2 := hN.c2
    have d3 := hN.c3
    rw [hup] at d0
    obtain ⟨Al, cl, hlv, -⟩ := hN.log.form
    rw [hlv] at d2
    have HNb := Lib.hid (rnumb_any (S.nd k).rd (k : Int) w)
    rw [hR] at HNb
    have hbal : numV (S.nd k).rd (k : Int) = balOf S k := rfl
    rw [hbal] at HNb
    have HPE := Lib.hid hpe
    have HPS := Lib.hid hps
    have HI := Lib.hid hI
    have HOwn := Lib.hid hown
    have HNum := Lib.hid hR
    have hT0 : Tld 78 65 (w.alloc (.cells #[] 65)) w.heap.size (.slice (some ⟨w.heap.size, 0, none⟩) 0 0) [] := Tld.lit w (Nat.le_refl _)
    have hB0 : Below w.heap.size w (w.alloc (.cells #[] 65)) := (Below.refl _ _).alloc (Nat.le_refl _) _
    have HT0 := Lib.hid hT0
    have HB0 := Lib.hid hB0
    have hx0 : ¬ 1024 < (x.size : Int) := by omega
    have hl0 : ¬ (4096 : Int) ≤ ((S.nd k).log.length : Int) := by omega
    have hslot : slotOf S k = (((S.nd k).log.length : Nat) : Int) := rfl
    have HSl := Lib.hid hslot
    clear h hI hpe hps hE hup hR hN hlv hown hT0 hB0 hh hk hbal hslot
    go_enter Tryz.func25, Tryz.ntmps25
    go_wp2_with (first
      | (go_at_call 30; (with_reducible refine HH.out.mono ?_); rintro e w2 ⟨rfl, rfl⟩)
      | (go_at_call 46; (with_reducible refine HNb.out.mono ?_); rintro e w2 ⟨rfl, rfl⟩)
      | fail)
    have hG0 : RG (w.alloc (.cells #[] 65)) r (RS (balOf S k) 0 k S) Q := by
      have e : RS (balOf S k) 0 k S = S := setRd_self S k _ (by rw [show max (balOf S k) 0 = balOf S k by omega, HOwn.out])
      rw [e]; exact HR.out.below HB0.out
    have HG0 := Lib.hid hG0
    clear hG0 c0 c1 d0 d2 d3 HNb HH
    go_loopw [15, 16] (fun u iv wr => ∃ (j : Nat) (R : Rnd), j ≤ S.n ∧ iv = .int .i64 j ∧ goes (ask1 (balOf S k) (slotOf S k) L) ⟨S, [], 0⟩ j = R ∧ R.S.n = S.n ∧ RG wr r (RS (balOf S k) R.hi k R.S) Q ∧ RT S.n Q Q w wr ∧ Tld 78 65 wr w.heap.size u R.told) (fun u iv _ => S.n - (intOf iv).toNat)
    case atStart => exact ⟨0, ⟨S, [], 0⟩, Nat.zero_le _, rfl, rfl, rfl, HG0.out, RT.of_below HB0.out, HT0.out⟩
    case round =>
      obtain ⟨j, R, hj, rfl, hR, hn, hp, ht, htl⟩ := hrel
      obtain ⟨A1, k1, hsh⟩ := htl.shape
      subst hsh
      have c0 := hp.c0
      rw [show (RS (balOf S k) R.hi k R.S).n = S.n from hn] at c0
      have HP := Lib.hid hp
      have HT := Lib.hid ht
      have HTl := Lib.hid htl
      have HRr := Lib.hid hR
      by_cases hlt : j < S.n
      · have hjI : (j : Int) < (S.n : Int) := by omega
        have hj0 : (0 : Int) ≤ (j : Int) := by omega
        have hlt' : j < (RS (balOf S k) R.hi k R.S).n := by rw [show (RS (balOf S k) R.hi k R.S).n = S.n from hn]; exact hlt
        have hstep : goes (ask1 (balOf S k) (slotOf S k) L) ⟨S, [], 0⟩ (j + 1) = ask1 (balOf S k) (slotOf S k) L R j := by
          show ask1 _ _ L (goes (ask1 (balOf S k) (slotOf S k) L) ⟨S, [], 0⟩ j) j = _
          rw [hR]
        obtain ⟨hhi0, hhi1⟩ := rnd1_hi (fun q hq => HI.out.good q hq) (balOf S k) (slotOf S k) L j (by omega)
        rw [hR] at hhi0 hhi1
        have c1 := hp.nodeAt hlt'
        have hNj := hp.nd j hlt'
        obtain ⟨hA, hU, -⟩ := RS_nd (balOf S k) R.hi k R.S j
        have d0 := hNj.c0
        rw [hU] at d0
        have d1 := hNj.c1
        have HB0 := Lib.hid (fun w => bit40 (L := L) j (by omega) w)
        have HB1 := Lib.hid (show ∀ w, Calls Tryz.prog 47 #[.int .u64 (L : Int), .int .i64 (4 * (j : Int) + 1)] w fun e w' => e = .returned (.bool (L.testBit (4 * j + 1))) ∧ w = w' from fun w => bit4 (L := L) j 1 (by omega) w)
        clear hp ht htl hR
        by_cases hu : (R.S.nd j).up = true
        · rw [hu] at d0
          cases hb0 : L.testBit (4 * j) with
          | true =>
            rw [hb0] at HB0
            have hst : goes (ask1 (balOf S k) (slotOf S k) L) ⟨S, [], 0⟩ (j + 1) = R := by rw [hstep]; unfold ask1; exact if_pos (.inr hb0)
            have HSt := Lib.hid hst
            clear hst hstep hNj
            go_wp2_with (go_at_call 47; (with_reducible refine (HB0.out _).mono ?_); rintro e w2 ⟨rfl, rfl⟩)
            go_roundw
            case rel => exact ⟨j + 1, R, by omega, by go_num, HSt.out, hn, HP.out, HT.out, HTl.out⟩
            case measure => simp only [RowKit.intOf]; omega
          | false =>
            rw [hb0] at HB0
            have hneg : ¬ ((R.S.nd j).up = false ∨ L.testBit (4 * j) = true) := by rw [hb0, hu]; simp
            have hacc := hNj.acc
            have hgd := hNj.good
            rw [hA] at hacc hgd
            have HGd := Lib.hid hgd
            have HPr := Lib.hid (rprepare_any (Q.ac j) (balOf S k) (((S.nd k).log.length : Nat) : Int) _ wr hacc hgd.len)
            have HSt := Lib.hid hstep
            have HA := Lib.hid hA
            have HLt := Lib.hid hlt'
            clear hacc hgd hNj hstep hA hU hlt'
            go_wp2_with (go_at_call 47; (with_reducible refine (HB0.out _).mono ?_); rintro e w2 ⟨rfl, rfl⟩)
            go_at_call 48
            (with_reducible refine HPr.out.mono ?_)
            rintro e w2 ⟨v, rfl, hv, hrc, hfb⟩
            clear HPr c0 c1 d0 d1
            obtain ⟨g1, t1⟩ := HP.out.acc HLt.out hfb hrc (HGd.out.prep (balOf S k))
            rw [RS_prep] at g1
            rw [show (RS (balOf S k) R.hi k R.S).n = S.n from hn] at t1
            have hS2 : ∃ S2, R.S.set j ((R.S.nd j).setA ((R.S.nd j).A.prep (balOf S k))) = S2 := ⟨_, rfl⟩
            obtain ⟨S2, hS2⟩ := hS2
            rw [hS2] at g1
            have hn2 : S2.n = S.n := by rw [← hS2]; exact hn
            have hlt2 : j < (RS (balOf S k) R.hi k S2).n := by rw [show (RS (balOf S k) R.hi k S2).n = S.n from hn2]; exact hlt
            have hkn2 : k < (RS (balOf S k) R.hi k S2).n := by rw [show (RS (balOf S k) R.hi k S2).n = S.n from hn2]; exact hkn
            have hp0 := (HGd.out.prep (balOf S k)).p0
            have hp1 := (HGd.out.prep (balOf S k)).p1
            have c0 := g1.c0
            rw [show (RS (balOf S k) R.hi k S2).n = S.n from hn2] at c0
            have c1 := g1.nodeAt hlt2
            have d1 := (g1.nd j hlt2).c1
            obtain ⟨d2, -⟩ := hrc.form
            have hT2 := t1.tld HTl.out
            have HT2 := Lib.hid hT2
            have HG1 := Lib.hid g1
            have HT1 := Lib.hid (HT.out.trans t1)
            have HS2 := Lib.hid hS2
            have HV := Lib.hid (OwnsV.mono hv (Nat.zero_le _))
            clear g1 t1 hT2 hS2 hv hrc hfb HP HT HTl
            cases hb1 : L.testBit (4 * j + 1) with
            | true =>
              rw [hb1] at HB1
              have hst : goes (ask1 (balOf S k) (slotOf S k) L) ⟨S, [], 0⟩ (j + 1) = ⟨S2, R.told, R.hi⟩ := by
                rw [HSt.out]; unfold ask1; rw [if_neg hneg, if_pos hb1, HS2.out]
              have HSt2 := Lib.hid hst
              clear hst
              go_wp2_with (go_at_call 47; (with_reducible refine (HB1.out _).mono ?_); rintro e w3 ⟨rfl, rfl⟩)
              go_roundw
              case rel => exact ⟨j + 1, _, by omega, by go_num, HSt2.out, hn2, HG1.out, HT1.out, HT2.out⟩
              case measure => simp only [RowKit.intOf]; omega
            | false =>
              rw [hb1] at HB1
              have HSn := Lib.hid (seen_any HG1.out hkn2 ((R.S.nd j).A.prep (balOf S k)).p)
              rw [RS_seen k S2 hb1' hb2 hhi0 hhi1 hp0 hp1] at HSn
              go_wp2_with (first
                | (go_at_call 47; (with_reducible refine (HB1.out _).mono ?_); rintro e w3 ⟨rfl, rfl⟩)
                | fail)
              go_at_call 49
              (with_reducible refine HSn.out.mono ?_)
              rintro e w3 ⟨rfl, g2, t2⟩
              clear HSn c0 c1 d1 d2
              rw [show (RS (balOf S k) R.hi k S2).n = S.n from hn2] at t2
              have HG2 := Lib.hid g2
              have HT3 := Lib.hid (HT1.out.trans t2)
              have HTl3 := Lib.hid (t2.tld HT2.out)
              have hv3 : OwnsV 78 w3 0 v (prepL (R.S.nd j).A (balOf S k) (((S.nd k).log.length : Nat) : Int)) := HV.out.kept fun q hq => by
                obtain ⟨cur, h3⟩ := owns_type HV.out hq
                rw [h3]
                refine t2.chg.keep h3 fun hp => ?_
                have h2 := hp.2
                simp only [isTy, List.mem_cons, List.not_mem_nil, or_false] at h2
                exact absurd h2 (by decide)
              obtain ⟨Av, cv, rfl, -⟩ := vshape hv3
              have HV3 := Lib.hid hv3
              clear g2 t2 hv3 HV HT2
              by_cases he : prepE (R.S.nd j).A (balOf S k) = 0
              · have hst : goes (ask1 (balOf S k) (slotOf S k) L) ⟨S, [], 0⟩ (j + 1) = ⟨S2, R.told ++ [prepL (R.S.nd j).A (balOf S k) (slotOf S k)], max R.hi ((R.S.nd j).A.prep (balOf S k)).p⟩ := by
                  rw [HSt.out]; unfold ask1; rw [if_neg hneg, if_neg (by rw [hb1]; decide), HS2.out, if_pos he]
                have HSt2 := Lib.hid hst
                obtain ⟨ti, ti0, tz0, tz1, tz2⟩ := info_parts infoVs
                generalize hN : (prepL (R.S.nd j).A (balOf S k) (((S.nd k).log.length : Nat) : Int)).length = N
                have hba : Below w3.heap.size w3 (w3.alloc (.cells #[.slice Av N cv] 65)) := (Below.refl _ _).alloc (Nat.le_refl _) _
                obtain ⟨xs, ho, hone, hmore⟩ := (HTl3.out.below hba).row
                have HO := Lib.hid ho
                have HM := Lib.hid hmore
                have HBa := Lib.hid hba
                have hv4 := HV3.out.below hba
                rw [hN] at hv4
                have HVa := Lib.hid hv4
                have HNw := Lib.hid (World.news_of_block (heap_alloc_new w3 (.cells #[.slice Av N cv] 65)))
                have hrt : R.told.length ≤ 5 := by
                  have := ask1_told S (balOf S k) (slotOf S k) L j
                  rw [HRr.out] at this
                  omega
                have hZ3 : w.heap.size ≤ w3.heap.size := HT3.out.chg.size
                rw [he]
                clear hst hba ho hmore hv4
                go_wp2_with (at_builtin; refine wpList_append_lies _ rfl (.tmp 129) (.tmp 131) 104 rfl w.heap.size 65 ti _ 1 24 Tryz.underlying104 ti0 tz0 tz1 tz2 rfl (by decide) _ R.told.length xs rfl HO.out ⟨w3.heap.size, 0, none⟩ 1 1 [.slice Av N cv] rfl rfl HNw.out (by intro x hx; obtain rfl := List.mem_singleton.1 hx; rfl) (by decide) (by unfold maxLen; omega) (by omega) (by simp; omega) (w3.heap.size + 1) (by simp) ?_; intro g2 cap w6 hown hgrow _ _; have K3 := Lib.hid (HM.out w6 g2 cap _ _ HVa.out hown hgrow (by decide)); have K4 := Lib.hid hgrow; have K5 := Lib.hid hown; clear hown hgrow)
                go_roundw
                case rel =>
                  have hb6 : Chg (fun q _ => (Value.slice A1 R.told.length k1).ownBlock = some q) w3 w6 := (Chg.of_below HBa.out).same (Chg.of_grown K4.out)
                  refine ⟨j + 1, _, by omega, by go_num, HSt2.out, hn2, ?_, ?_, K3.out⟩
                  · refine HG2.out.other hb6 fun q o hq hp => ?_
                    obtain ⟨cur, h3⟩ := owns_type HO.out hp
                    have h4 := (HBa.out.block q (lt_of hq)).trans hq
                    rw [h3] at h4
                    injection h4 with h4
                    exact ⟨cur, _, h4.symm, by decide⟩
                  · exact HT3.out.fresh hb6 fun q o hp => (World.ownsRow.lt HO.out q hp).1
                case measure => simp only [RowKit.intOf]; omega
              · have hst : goes (ask1 (balOf S k) (slotOf S k) L) ⟨S, [], 0⟩ (j + 1) = ⟨S2, R.told, max R.hi ((R.S.nd j).A.prep (balOf S k)).p⟩ := by
                  rw [HSt.out]; unfold ask1; rw [if_neg hneg, if_neg (by rw [hb1]; decide), HS2.out, if_neg he]
                have HSt2 := Lib.hid hst
                clear hst
                go_wp2_with fail
                go_roundw
                case rel => exact ⟨j + 1, _, by omega, by go_num, HSt2.out, hn2, HG2.out, HT3.out, HTl3.out⟩
                case measure => simp only [RowKit.intOf]; omega
        · have hu' : (R.S.nd j).up = false := by simpa using hu
          rw [hu'] at d0
          have hst : goes (ask1 (balOf S k) (slotOf S k) L) ⟨S, [], 0⟩ (j + 1) = R := by rw [hstep]; unfold ask1; exact if_pos (.inl hu')
          have HSt := Lib.hid hst
          clear hst hstep hNj
          go_wp2_with fail
          go_roundw
          case rel => exact ⟨j + 1, R, by omega, by go_num, HSt.out, hn, HP.out, HT.out, HTl.out⟩
          case measure => simp only [RowKit.intOf]; omega
      · obtain rfl : j = S.n := by omega
        have hr1 : R = rnd1 S k L := hR.symm
        clear hp ht htl hR
        subst hr1
        obtain ⟨hh0, hh1⟩ := rnd1_hi (fun q hq => HI.out.good q hq) (balOf S k) (slotOf S k) L S.n (Nat.le_refl _)
        have hlI : ¬ ((S.n : Int) < (S.n : Int)) := by omega
        have htd : (rnd1 S k L).told.length ≤ S.n := ask1_told S (balOf S k) (slotOf S k) L S.n
        have hkn1 : k < (rnd1 S k L).S.n := by rw [hn]; exact hkn
        have hNk := HP.out.nd k hkn1
        have d3 := hNk.c3
        rw [RS_rd] at d3
        have f3 := free_at hNk.cs 3
        obtain ⟨o0, o1⟩ := ownR_le (max (balOf S k) (rnd1 S k L).hi)
        clear hNk
        by_cases hm1 : S.n < 2 * (rnd1 S k L).told.length
        · have hm1I : (S.n : Int) < 2 * ((rnd1 S k L).told.length : Int) := by omega
          obtain ⟨A2, k2, B2, C2, hu2, hsets⟩ := HTl.out.sets (fun l hl => told_len (fun j hj => HI.out.good j hj) hl)
          simp only [Value.slice.injEq, true_and] at hu2
          obtain ⟨rfl, rfl⟩ := hu2
          have HCh := Lib.hid (rchoose_any (c := k1) (((S.nd k).log.length : Nat) : Int) wr hsets (by omega))
          rw [cat_T] at HCh
          have hval : (voteOf S k x L) = ⟨(((S.nd k).log.length : Nat) : Int), balOf S k, valOf (rnd1 S k L).told (((S.nd k).log.length : Nat) : Int) x⟩ := rfl
          have HVal := Lib.hid hval
          clear hsets hval
          obtain ⟨bb, hbb⟩ : ∃ bb, (cho (rnd1 S k L).told.flatten (((S.nd k).log.length : Nat) : Int)).isSome = bb := ⟨_, rfl⟩
          obtain ⟨u, hu3⟩ : ∃ u, (cho (rnd1 S k L).told.flatten (((S.nd k).log.length : Nat) : Int)).getD V.zero = u := ⟨_, rfl⟩
          have hvo : valOf (rnd1 S k L).told (((S.nd k).log.length : Nat) : Int) x = if bb = true then u.x else x := by
            unfold valOf
            rw [← hbb, ← hu3]
            cases cho (rnd1 S k L).told.flatten (((S.nd k).log.length : Nat) : Int) <;> rfl
          rw [hbb, hu3] at HCh
          have HVo := Lib.hid hvo
          clear hvo hbb hu3
          obtain ⟨us, ub, ux⟩ := u
          go_upto_if 148 with (first
            | (go_at_call 50; (with_reducible refine HCh.out.mono ?_); rintro e w3 ⟨rfl, hb3⟩; have HB3 := Lib.hid hb3; clear hb3)
            | fail)
          have hb4 : Below wr.heap.size wr (w3.alloc (.cells #[.int .i64 us, .int .i64 ub, .string ux] 78)) := HB3.out.alloc HB3.out.size _
          have h4c : (w3.alloc (.cells #[.int .i64 us, .int .i64 ub, .string ux] 78)).cell? ⟨w3.heap.size, 2, none⟩ = some (.string ux) := by rw [cell_at (heap_alloc_new w3 _)]; rfl
          generalize w3.alloc (.cells #[.int .i64 us, .int .i64 ub, .string ux] 78) = w4 at hb4 h4c ⊢
          go_cut [2] from 149 to 151 (fun v2 wx => v2 = .string (if bb = true then ux else x) ∧ wx = w4)
          case first =>
            cases bb
            · go_wp2_with fail
              go_meet
              exact ⟨rfl, rfl⟩
            · go_wp2_with fail
              go_meet
              exact ⟨rfl, rfl⟩
          case rest =>
            obtain ⟨rfl, rfl⟩ := hcut
            rw [← HVo.out]
            have hG4 := HP.out.below hb4
            rw [show (rnd1 S k L).hi = max (rnd1 S k L).hi 0 by have h5 : 0 ≤ (rnd1 S k L).hi := hh0; omega] at hG4
            have HG4 := Lib.hid hG4
            have HT4 := Lib.hid (HT.out.trans (RT.of_below hb4))
            clear HVo HCh HP HT HTl hG4 h4c c0 d3 f3
            have hvo : voteOf S k x L = ⟨(((S.nd k).log.length : Nat) : Int), balOf S k, valOf (rnd1 S k L).told (((S.nd k).log.length : Nat) : Int) x⟩ := rfl
            clear HVal
            generalize valOf (rnd1 S k L).told (((S.nd k).log.length : Nat) : Int) x = vx at hvo ⊢
            have HSj := Lib.hid (fun j (hj : j ≤ S.n) => Sec.goes (S := S) (first_ask HI.out hkn HNum.out hm1 x) hn (fun j => by rw [rnd1_S]; obtain ⟨a, b, c⟩ := nd1_same S (balOf S k) L S.n j; exact ⟨a, c, b⟩) L j hj)
            rw [hvo] at HSj
            have HVo := Lib.hid hvo
            clear hvo hb4
            generalize hv : (⟨(((S.nd k).log.length : Nat) : Int), balOf S k, vx⟩ : V) = v at HSj
            have HV := Lib.hid hv
            clear hv
            go_wp2_with fail
            go_loopw [19, 22] (fun u iv wx => ∃ (j : Nat) (R : Rnd) (Q2 : Ql), j ≤ S.n ∧ iv = .int .i64 j ∧ u = .int .i64 (R.told.length : Nat) ∧ goes (ask2 v L) ⟨(rnd1 S k L).S, [], 0⟩ j = R ∧ R.S.all.length ≤ S.all.length + j ∧ RG wx r (RS (balOf S k) (max (rnd1 S k L).hi R.hi) k R.S) Q2 ∧ RT S.n Q Q2 w wx) (fun u iv _ => S.n - (intOf iv).toNat)
            case atStart => exact ⟨0, ⟨(rnd1 S k L).S, [], 0⟩, Q, Nat.zero_le _, rfl, rfl, rfl, by rw [rnd1_all]; omega, HG4.out, HT4.out⟩
            case round =>
              obtain ⟨j, R, Q2, hj, rfl, rfl, hR, hall, hp, ht⟩ := hrel
              have hs := HSj.out j hj
              rw [hR] at hs
              have hn2 : R.S.n = S.n := hs.n
              have hkn2 : k < R.S.n := by rw [hn2]; exact hkn
              have htd2 : R.told.length ≤ j := Nat.le_trans hs.told (cntP_le _ _)
              obtain ⟨r0, r1⟩ := (⟨hs.hi0, hs.hi1⟩ : 0 ≤ R.hi ∧ R.hi ≤ 1099511627776)
              have c0 := hp.c0
              rw [show (RS (balOf S k) (max (rnd1 S k L).hi R.hi) k R.S).n = S.n from hn2] at c0
              have HP := Lib.hid hp
              have HT := Lib.hid ht
              have HRr := Lib.hid hR
              have HSs := Lib.hid hs
              clear hp ht hR hs
              by_cases hlt : j < S.n
              · have hjI : (j : Int) < (S.n : Int) := by omega
                have hj0 : (0 : Int) ≤ (j : Int) := by omega
                have hlt' : j < R.S.n := by rw [hn2]; exact hlt
                have hstep : goes (ask2 v L) ⟨(rnd1 S k L).S, [], 0⟩ (j + 1) = ask2 v L R j := by
                  show ask2 v L (goes (ask2 v L) ⟨(rnd1 S k L).S, [], 0⟩ j) j = _
                  rw [HRr.out]
                have c1 := HP.out.nodeAt hlt'
                have hNj := HP.out.nd j hlt'
                obtain ⟨hA, hU, -⟩ := RS_nd (balOf S k) (max (rnd1 S k L).hi R.hi) k R.S j
                have d0 := hNj.c0
                rw [hU] at d0
                have HB2 := Lib.hid (show ∀ w, Calls Tryz.prog 47 #[.int .u64 (L : Int), .int .i64 (4 * (j : Int) + 2)] w fun e w' => e = .returned (.bool (L.testBit (4 * j + 2))) ∧ w = w' from fun w => bit4 (L := L) j 2 (by omega) w)
                have HB3 := Lib.hid (show ∀ w, Calls Tryz.prog 47 #[.int .u64 (L : Int), .int .i64 (4 * (j : Int) + 3)] w fun e w' => e = .returned (.bool (L.testBit (4 * j + 3))) ∧ w = w' from fun w => bit4 (L := L) j 3 (by omega) w)
                have HSt := Lib.hid hstep
                have hgd := hNj.good
                rw [hA] at hgd
                have HGd := Lib.hid hgd
                have hLen := ask2_len v L R j
                clear hstep hNj hA hU hgd
                by_cases hu : (R.S.nd j).up = true
                · rw [hu] at d0
                  cases htb2 : L.testBit (4 * j + 2) with
                  | true =>
                    rw [htb2] at HB2
                    have hst : goes (ask2 v L) ⟨(rnd1 S k L).S, [], 0⟩ (j + 1) = R := by rw [HSt.out]; unfold ask2; exact if_pos (.inr htb2)
                    have HSt2 := Lib.hid hst
                    clear hst
                    go_wp2_with (go_at_call 47; (with_reducible refine (HB2.out _).mono ?_); rintro e w2 ⟨rfl, rfl⟩)
                    go_roundw
                    case rel => exact ⟨j + 1, R, Q2, by omega, by go_num, rfl, HSt2.out, by omega, HP.out, HT.out⟩
                    case measure => simp only [RowKit.intOf]; omega
                  | false =>
                    rw [htb2] at HB2
                    have hneg : ¬ ((R.S.nd j).up = false ∨ L.testBit (4 * j + 2) = true) := by rw [htb2, hu]; simp
                    have hkn3 : k < (accS R.S j v).n := by rw [accS_n]; exact hkn2
                    have hn3 : (accS R.S j v).n = S.n := (accS_n _ _ _).trans hn2
                    have hlt3 : j < (accS R.S j v).n := by rw [accS_n]; exact hlt'
                    have hgd3 := HGd.out.accept v
                    have hp0 := hgd3.p0
                    have hp1 := hgd3.p1
                    have HGd3 := Lib.hid hgd3
                    have h10 : 0 ≤ (rnd1 S k L).hi := hh0
                    have h11 : (rnd1 S k L).hi ≤ 1099511627776 := hh1
                    clear hgd3
                    go_upto_region 34 with (first
                      | (go_at_call 47; (with_reducible refine (HB2.out _).mono ?_); rintro e w2 ⟨rfl, rfl⟩)
                      | fail)
                    have hba : Below wr.heap.size wr (wr.alloc (.cells #[.int .i64 (((S.nd k).log.length : Nat) : Int), .int .i64 (balOf S k), .string vx] 78)) := (Below.refl _ _).alloc (Nat.le_refl _) _
                    have hbk := heap_alloc_new wr (.cells #[.int .i64 (((S.nd k).log.length : Nat) : Int), .int .i64 (balOf S k), .string vx] 78)
                    have hlta : Q2.ac j < wr.heap.size := (HP.out.nd j hlt').acc.lt
                    generalize wr.alloc (.cells #[.int .i64 (((S.nd k).log.length : Nat) : Int), .int .i64 (balOf S k), .string vx] 78) = wa at hba hbk ⊢
                    clear c0 c1 d0
                    have hGa := HP.out.below hba
                    have c0 := hGa.c0
                    rw [show (RS (balOf S k) (max (rnd1 S k L).hi R.hi) k R.S).n = S.n from hn2] at c0
                    have c1 := hGa.nodeAt hlt'
                    have d1 := (hGa.nd j hlt').c1
                    have x0 : wa.cell? ⟨wr.heap.size, 0, none⟩ = some (.int .i64 (((S.nd k).log.length : Nat) : Int)) := by rw [cell_at hbk]; rfl
                    have x1 : wa.cell? ⟨wr.heap.size, 1, none⟩ = some (.int .i64 (balOf S k)) := by rw [cell_at hbk]; rfl
                    have x2 : wa.cell? ⟨wr.heap.size, 2, none⟩ = some (.string vx) := by rw [cell_at hbk]; rfl
                    have hacc := (hGa.nd j hlt').acc
                    rw [(RS_nd (balOf S k) (max (rnd1 S k L).hi R.hi) k R.S j).1] at hacc
                    have hbd : Below wa.heap.size wa wa.drew := (Below.refl _ _).drew
                    have hAc := raccept_any (Q2.ac j) v (R.S.nd j).A wa.drew (hacc.below hbd) HGd.out.srt
                    rw [show v.val = .agg #[.int .i64 (((S.nd k).log.length : Nat) : Int), .int .i64 (balOf S k), .string vx] by rw [← HV.out]] at hAc
                    have HAc := Lib.hid hAc
                    have HGa := Lib.hid hGa
                    have HBk := Lib.hid hbk
                    have HTa := Lib.hid ((HT.out.trans (RT.of_below hba)).trans (RT.of_below hbd))
                    have hsa : wr.heap.size < wa.heap.size := lt_of hbk
                    clear hacc hAc hGa hbk hba
                    go_still_tail 11, (by kernel_rfl)
                    change wpList _ _ _ _ _ wa.drew
                    have hGz := HGa.out.below hbd
                    have hvz : wa.drew.heap[wr.heap.size]? = some (.cells #[.int .i64 (((S.nd k).log.length : Nat) : Int), .int .i64 (balOf S k), .string vx] 78) := HBk.out
                    have hsz : wr.heap.size < wa.drew.heap.size := hsa
                    clear hbd HGa HBk c0 c1 d1 x0 x1 x2 hsa
                    generalize wa.drew = wz at hGz hvz hsz HAc HTa ⊢
                    have HGz := Lib.hid hGz
                    have HVz := Lib.hid hvz
                    clear hGz hvz
                    go_wp2_with fail
                    go_at_call 51
                    (with_reducible refine HAc.out.mono ?_)
                    rintro e w5 ⟨rfl, hrc, hfb⟩
                    clear HAc
                    obtain ⟨g1, t1⟩ := HGz.out.acc hlt' hfb hrc HGd3.out
                    rw [RS_prep] at g1
                    rw [show (RS (balOf S k) (max (rnd1 S k L).hi R.hi) k R.S).n = S.n from hn2] at t1
                    have hv5 : w5.heap[wr.heap.size]? = some (.cells #[.int .i64 (((S.nd k).log.length : Nat) : Int), .int .i64 (balOf S k), .string vx] 78) := (hfb.block wr.heap.size hsz (by omega) (by simp)).trans HVz.out
                    have HT5 := Lib.hid (HTa.out.trans t1)
                    clear hrc hfb HGz HVz HTa t1
                    by_cases he : accE (R.S.nd j).A v = 0
                    · rw [he]
                      have hset : ({ RS (balOf S k) (max (rnd1 S k L).hi R.hi) k (R.S.set j ((R.S.nd j).setA ((R.S.nd j).A.accept v))) with all := R.S.all ++ [(j, v)], tab := fun s => if s = v.s then noteR R.S.n j v (R.S.tab s) else R.S.tab s } : Gp) = RS (balOf S k) (max (rnd1 S k L).hi R.hi) k (accS R.S j v) := by
                        unfold accS; rw [if_pos he]; rfl
                      have HSet := Lib.hid hset
                      clear hset
                      go_upto_region 36 with fail
                      have hbd5 : Below w5.heap.size w5 w5.drew := (Below.refl _ _).drew
                      have hbB5 : Below w5.heap.size w5 (w5.alloc (.cells #[.int .i64 (j : Int), .int .i64 (((S.nd k).log.length : Nat) : Int), .int .i64 (balOf S k), .string vx] 80)).drew := ((Below.refl _ _).alloc (Nat.le_refl _) _).drew
                      have hGd5 := g1.below hbd5
                      have hGB5 := g1.below hbB5
                      obtain ⟨Ad, cd, hald, -⟩ := OwnsD.form g1.all
                      have n0 := hGd5.c1
                      have m0 := hGB5.c1
                      rw [hald] at n0 m0
                      have hvd : w5.drew.heap[wr.heap.size]? = some (.cells #[.int .i64 (((S.nd k).log.length : Nat) : Int), .int .i64 (balOf S k), .string vx] 78) := (hbd5.block _ (lt_of hv5)).trans hv5
                      have hvB : (w5.alloc (.cells #[.int .i64 (j : Int), .int .i64 (((S.nd k).log.length : Nat) : Int), .int .i64 (balOf S k), .string vx] 80)).drew.heap[wr.heap.size]? = some (.cells #[.int .i64 (((S.nd k).log.length : Nat) : Int), .int .i64 (balOf S k), .string vx] 78) := (hbB5.block _ (lt_of hv5)).trans hv5
                      have n1 : w5.drew.cell? ⟨wr.heap.size, 0, none⟩ = some (.int .i64 (((S.nd k).log.length : Nat) : Int)) := by rw [cell_at hvd]; rfl
                      have n2 : w5.drew.cell? ⟨wr.heap.size, 1, none⟩ = some (.int .i64 (balOf S k)) := by rw [cell_at hvd]; rfl
                      have n3 : w5.drew.cell? ⟨wr.heap.size, 2, none⟩ = some (.string vx) := by rw [cell_at hvd]; rfl
                      have m1 : (w5.alloc (.cells #[.int .i64 (j : Int), .int .i64 (((S.nd k).log.length : Nat) : Int), .int .i64 (balOf S k), .string vx] 80)).drew.cell? ⟨wr.heap.size, 0, none⟩ = some (.int .i64 (((S.nd k).log.length : Nat) : Int)) := by rw [cell_at hvB]; rfl
                      have m2 : (w5.alloc (.cells #[.int .i64 (j : Int), .int .i64 (((S.nd k).log.length : Nat) : Int), .int .i64 (balOf S k), .string vx] 80)).drew.cell? ⟨wr.heap.size, 1, none⟩ = some (.int .i64 (balOf S k)) := by rw [cell_at hvB]; rfl
                      have m3 : (w5.alloc (.cells #[.int .i64 (j : Int), .int .i64 (((S.nd k).log.length : Nat) : Int), .int .i64 (balOf S k), .string vx] 80)).drew.cell? ⟨wr.heap.size, 2, none⟩ = some (.string vx) := by rw [cell_at hvB]; rfl
                      have hown := hGB5.all
                      rw [hald] at hown
                      have HO := Lib.hid (show (w5.alloc (.cells #[.int .i64 (j : Int), .int .i64 (((S.nd k).log.length : Nat) : Int), .int .i64 (balOf S k), .string vx] 80)).drew.ownsRow Q2.B 80 4 (.slice Ad R.S.all.length cd) R.S.all.length (dflat R.S.all) from hown)
                      have hsB : Q2.B ≤ (w5.alloc (.cells #[.int .i64 (j : Int), .int .i64 (((S.nd k).log.length : Nat) : Int), .int .i64 (balOf S k), .string vx] 80)).drew.heap.size := by have := hGB5.lo; have := lt_of hGB5.grp; omega
                      have hkG : ∀ (w2 : World), (w5.alloc (.cells #[.int .i64 (j : Int), .int .i64 (((S.nd k).log.length : Nat) : Int), .int .i64 (balOf S k), .string vx] 80)).drew.grownBy w2 (Value.ownBlock (.slice Ad R.S.all.length cd)) → w2.heap[r]? = _ := fun w2 hg => (hg.block r (lt_of hGB5.grp) (fun e => by
                        obtain ⟨cur, h3⟩ := owns_type HO.out e.symm
                        rw [hGB5.grp] at h3
                        injection h3 with h3
                        injection h3 with _ h4
                        exact absurd h4 (by decide))).trans hGB5.grp
                      obtain ⟨ti, ti0, tz0, tz1, tz2⟩ := info_parts infoDn
                      have HKG := Lib.hid hkG
                      have HGB := Lib.hid hGB5
                      have HBB := Lib.hid hbB5
                      have hall5 : R.S.all.length ≤ 100005 := by have := HI.out.n5; omega
                      have HAld := Lib.hid hald
                      clear hkG hGB5 hGd5 hbd5 hbB5 hvd hvB hown g1 hv5 hald
                      go_region_law
                        ((refine step_append_lies _ (by rfl) (.tmp 200) (.tmp 204) 31 (by rfl) Q2.B 80 ti _ 4 40 Tryz.underlying31 ti0 tz0 tz1 tz2 rfl (by omega) (.slice Ad R.S.all.length cd) R.S.all.length (dflat R.S.all) (by rfl) HO.out ⟨w5.heap.size, 0, none⟩ 1 1 [.int .i64 (j : Int), .int .i64 (((S.nd k).log.length : Nat) : Int), .int .i64 (balOf S k), .string vx] (by rfl) rfl (World.news_of_block (w := (w5.alloc (.cells #[.int .i64 (j : Int), .int .i64 (((S.nd k).log.length : Nat) : Int), .int .i64 (balOf S k), .string vx] 80)).drew) (heap_alloc_new w5 _)) (by intro y hy; simp only [List.mem_cons, List.not_mem_nil, or_false] at hy; rcases hy with rfl | rfl | rfl | rfl <;> rfl) (by omega) (by unfold maxLen; omega) (by omega) hsB (w5.heap.size + 1) (by simp) ?_; intro g2 cap w9 hown2 hgrow hat hltg; (have p1 := free_at (HKG.out w9 hgrow) 1); (have p2 : w9.cell? ⟨r, 1, none⟩ = some Q2.al := by rw [cell_at (HKG.out w9 hgrow)]; rfl)))
                      all_goals (
                        have hcw := HGB.out.noted (i := j) (u := v) (T := fun s => if s = v.s then noteR R.S.n j v (R.S.tab s) else R.S.tab s) (v := .slice (some ⟨g2, 0, none⟩) (R.S.all.length + 1) cap) (by rw [HAld.out]; exact hgrow) (by
                          show OwnsD w9 Q2.B _ (R.S.all ++ [(j, v)])
                          unfold OwnsD
                          rw [List.length_append, List.length_singleton, ← dflat_more, ← HV.out]
                          exact hown2)
                        obtain ⟨g7, t7⟩ := hcw
                        rw [show (RS (balOf S k) (max (rnd1 S k L).hi R.hi) k (R.S.set j ((R.S.nd j).setA ((R.S.nd j).A.accept v)))).all = R.S.all from rfl, HSet.out] at g7
                        rw [show (RS (balOf S k) (max (rnd1 S k L).hi R.hi) k (R.S.set j ((R.S.nd j).setA ((R.S.nd j).A.accept v)))).n = S.n from hn2] at t7
                        have HT7 := Lib.hid ((HT5.out.trans (RT.of_below HBB.out)).trans t7)
                        clear t7 hown2 hgrow hat hltg p1 p2 n0 n1 n2 n3 m0 m1 m2 m3 HKG HGB HBB HO
                        generalize w9.setCell ⟨r, 1, none⟩ (.slice (some ⟨g2, 0, none⟩) (R.S.all.length + 1) cap) = w7 at g7 HT7 ⊢
                        generalize ({ Q2 with al := .slice (some ⟨g2, 0, none⟩) (R.S.all.length + 1) cap } : Ql) = Q3 at g7 HT7
                        have hnds3 := Lib.hid (show Q3.nds = Q.nds from HT7.out.fix.2.2.1)
                        have hn7 : (RS (balOf S k) (max (rnd1 S k L).hi R.hi) k (accS R.S j v)).n = S.n := hn3
                        have e0 := g7.c0
                        rw [hn7] at e0
                        have e1 := g7.nodeAt hlt3
                        have hN7 := g7.nd j hlt3
                        have e2 := hN7.c1
                        have hac7 := hN7.acc
                        rw [(RS_nd (balOf S k) (max (rnd1 S k L).hi R.hi) k (accS R.S j v) j).1, accS_A] at hac7
                        obtain ⟨e3, -⟩ := hac7.form
                        have HSn := Lib.hid (seen_any g7 hkn3 ((R.S.nd j).A.accept v).p)
                        rw [hnds3.out, hn7, RS_seen k (accS R.S j v) hb1' hb2 (by omega) (by omega) hp0 hp1, show max (max (rnd1 S k L).hi R.hi) ((R.S.nd j).A.accept v).p = max (rnd1 S k L).hi (max R.hi ((R.S.nd j).A.accept v).p) by omega] at HSn
                        have HG7 := Lib.hid g7
                        clear g7 hN7 hac7
                        cases hb3 : L.testBit (4 * j + 3) with
                        | true =>
                          rw [hb3] at HB3
                          have hst : goes (ask2 v L) ⟨(rnd1 S k L).S, [], 0⟩ (j + 1) = ⟨accS R.S j v, R.told, R.hi⟩ := by
                            rw [HSt.out]; unfold ask2; rw [if_neg hneg, if_pos hb3]
                          have HSt2 := Lib.hid hst
                          clear hst HSn
                          go_wp2_with (go_at_call 47; (with_reducible refine (HB3.out _).mono ?_); rintro e w8 ⟨rfl, rfl⟩)
                          go_roundw
                          case rel => exact ⟨j + 1, ⟨accS R.S j v, R.told, R.hi⟩, Q3, by omega, by go_num, rfl, HSt2.out, by show (accS R.S j v).all.length ≤ _; have := accS_len R.S j v; omega, HG7.out, HT7.out⟩
                          case measure => simp only [RowKit.intOf]; omega
                        | false =>
                          rw [hb3] at HB3
                          have hst : goes (ask2 v L) ⟨(rnd1 S k L).S, [], 0⟩ (j + 1) = ⟨accS R.S j v, R.told ++ [[]], max R.hi ((R.S.nd j).A.accept v).p⟩ := by
                            rw [HSt.out]; unfold ask2; rw [if_neg hneg, if_neg (by rw [hb3]; decide), if_pos he]
                          have HSt2 := Lib.hid hst
                          clear hst
                          go_wp2_with (first
                            | (go_at_call 47; (with_reducible refine (HB3.out _).mono ?_); rintro e w8 ⟨rfl, rfl⟩)
                            | fail)
                          go_at_call 49
                          (with_reducible refine HSn.out.mono ?_)
                          rintro e w8 ⟨rfl, g8, t8⟩
                          clear HSn e0 e1 e2 e3
                          have HG8 := Lib.hid g8
                          have HT8 := Lib.hid (HT7.out.trans t8)
                          clear g8 t8
                          go_wp2_with fail
                          go_roundw
                          case rel => exact ⟨j + 1, ⟨accS R.S j v, R.told ++ [[]], max R.hi ((R.S.nd j).A.accept v).p⟩, Q3, by omega, by go_num, (by show _ = Value.int .i64 (((R.told ++ [[]]).length : Nat) : Int); rw [List.length_append, List.length_singleton]; go_num), HSt2.out, by show (accS R.S j v).all.length ≤ _; have := accS_len R.S j v; omega, HG8.out, HT8.out⟩
                          case measure => simp only [RowKit.intOf]; omega)
                    · rw [accS_no he] at g1
                      have g7 := g1
                      have HT7 := HT5
                      have hq3 : ∃ Q3, Q3 = Q2 := ⟨_, rfl⟩
                      obtain ⟨Q3, rfl⟩ := hq3
                      clear g1 hv5
                      have hnds3 := Lib.hid (show Q3.nds = Q.nds from HT7.out.fix.2.2.1)
                      have hn7 : (RS (balOf S k) (max (rnd1 S k L).hi R.hi) k (accS R.S j v)).n = S.n := hn3
                      have e0 := g7.c0
                      rw [hn7] at e0
                      have e1 := g7.nodeAt hlt3
                      have hN7 := g7.nd j hlt3
                      have e2 := hN7.c1
                      have hac7 := hN7.acc
                      rw [(RS_nd (balOf S k) (max (rnd1 S k L).hi R.hi) k (accS R.S j v) j).1, accS_A] at hac7
                      obtain ⟨e3, -⟩ := hac7.form
                      have HSn := Lib.hid (seen_any g7 hkn3 ((R.S.nd j).A.accept v).p)
                      rw [hnds3.out, hn7, RS_seen k (accS R.S j v) hb1' hb2 (by omega) (by omega) hp0 hp1, show max (max (rnd1 S k L).hi R.hi) ((R.S.nd j).A.accept v).p = max (rnd1 S k L).hi (max R.hi ((R.S.nd j).A.accept v).p) by omega] at HSn
                      have HG7 := Lib.hid g7
                      clear g7 hN7 hac7
                      cases hb3 : L.testBit (4 * j + 3) with
                      | true =>
                        rw [hb3] at HB3
                        have hst : goes (ask2 v L) ⟨(rnd1 S k L).S, [], 0⟩ (j + 1) = ⟨accS R.S j v, R.told, R.hi⟩ := by
                          rw [HSt.out]; unfold ask2; rw [if_neg hneg, if_pos hb3]
                        have HSt2 := Lib.hid hst
                        clear hst HSn
                        go_wp2_with (go_at_call 47; (with_reducible refine (HB3.out _).mono ?_); rintro e w8 ⟨rfl, rfl⟩)
                        go_roundw
                        case rel => exact ⟨j + 1, ⟨accS R.S j v, R.told, R.hi⟩, Q3, by omega, by go_num, rfl, HSt2.out, by show (accS R.S j v).all.length ≤ _; have := accS_len R.S j v; omega, HG7.out, HT7.out⟩
                        case measure => simp only [RowKit.intOf]; omega
                      | false =>
                        rw [hb3] at HB3
                        have hst : goes (ask2 v L) ⟨(rnd1 S k L).S, [], 0⟩ (j + 1) = ⟨accS R.S j v, R.told, max R.hi ((R.S.nd j).A.accept v).p⟩ := by
                          rw [HSt.out]; unfold ask2; rw [if_neg hneg, if_neg (by rw [hb3]; decide), if_neg he]
                        have HSt2 := Lib.hid hst
                        clear hst
                        go_wp2_with (first
                          | (go_at_call 47; (with_reducible refine (HB3.out _).mono ?_); rintro e w8 ⟨rfl, rfl⟩)
                          | fail)
                        go_at_call 49
                        (with_reducible refine HSn.out.mono ?_)
                        rintro e w8 ⟨rfl, g8, t8⟩
                        clear HSn e0 e1 e2 e3
                        have HG8 := Lib.hid g8
                        have HT8 := Lib.hid (HT7.out.trans t8)
                        clear g8 t8
                        go_wp2_with fail
                        go_roundw
                        case rel => exact ⟨j + 1, ⟨accS R.S j v, R.told, max R.hi ((R.S.nd j).A.accept v).p⟩, Q3, by omega, by go_num, rfl, HSt2.out, by show (accS R.S j v).all.length ≤ _; have := accS_len R.S j v; omega, HG8.out, HT8.out⟩
                        case measure => simp only [RowKit.intOf]; omega
                · have hu' : (R.S.nd j).up = false := by simpa using hu
                  rw [hu'] at d0
                  have hst : goes (ask2 v L) ⟨(rnd1 S k L).S, [], 0⟩ (j + 1) = R := by rw [HSt.out]; unfold ask2; exact if_pos (.inl hu')
                  have HSt2 := Lib.hid hst
                  clear hst
                  go_wp2_with fail
                  go_roundw
                  case rel => exact ⟨j + 1, R, Q2, by omega, by go_num, rfl, HSt2.out, by omega, HP.out, HT.out⟩
                  case measure => simp only [RowKit.intOf]; omega
              · obtain rfl : j = S.n := by omega
                have hr2 : R = rnd2 S k x L := by unfold rnd2; rw [HVo.out, HV.out]; exact HRr.out.symm
                subst hr2
                have hrs := HP.out.rise hkn2 _ rfl
                rw [hn2] at hrs
                have HRs := Lib.hid hrs
                have hNk := HP.out.nd k hkn2
                have hnds2 := Lib.hid (show Q2.nds = Q.nds from HT.out.fix.2.2.1)
                have d3 := hNk.c3
                rw [RS_rd, hnds2.out] at d3
                have f3 := free_at hNk.cs 3
                rw [hnds2.out] at f3 hrs HRs
                obtain ⟨o0, o1⟩ := ownR_le (max (balOf S k) (max (rnd1 S k L).hi (rnd2 S k x L).hi))
                have hlI : ¬ ((S.n : Int) < (S.n : Int)) := by omega
                have c0' := hrs.1.c0
                rw [show ((rnd2 S k x L).S.setRd k (nextR (balOf S k) (max (rnd1 S k L).hi (rnd2 S k x L).hi))).n = S.n from hn2] at c0'
                clear hNk hrs
                by_cases hm2 : S.n < 2 * (rnd2 S k x L).told.length
                · have hm2I : ¬ 2 * ((rnd2 S k x L).told.length : Int) ≤ (S.n : Int) := by omega
                  have he := HPE.out
                  have hs := HPS.out
                  rw [if_neg (by omega), if_neg (by omega)] at he hs
                  have HE := Lib.hid he
                  have HS := Lib.hid hs
                  clear he hs
                  go_upto_region 44 with fail
                  generalize wr.setCell ⟨Q.nds k, 3, none⟩ (.int .i64 (ownR (max (balOf S k) (max (rnd1 S k L).hi (rnd2 S k x L).hi)) + 1)) = w5 at HRs ⊢
                  obtain ⟨g5, t5⟩ := HRs.out
                  have hsm := (HSs.out.same k).1
                  have hlg : (((rnd2 S k x L).S.setRd k (nextR (balOf S k) (max (rnd1 S k L).hi (rnd2 S k x L).hi))).nd k).log = (S.nd k).log := by rw [setRd_nd, if_pos rfl]; exact hsm
                  have hkn5 : k < ((rnd2 S k x L).S.setRd k (nextR (balOf S k) (max (rnd1 S k L).hi (rnd2 S k x L).hi))).n := hkn2
                  have hb6 : Below w5.heap.size w5 (w5.alloc (.cells #[] 9)) := (Below.refl _ _).alloc (Nat.le_refl _) _
                  have hG6 := g5.below hb6
                  have hN6 := hG6.nd k hkn5
                  have f2 := hN6.c2
                  rw [hnds2.out] at f2
                  have hl6 := hN6.log
                  rw [hlg] at hl6
                  obtain ⟨A6, c6, hv6, -⟩ := hl6.form
                  rw [hv6] at f2 hl6
                  have hsB : Q2.B ≤ w5.heap.size := by have := g5.lo; have := lt_of g5.grp; omega
                  have hcs5 := (g5.nd k hkn5).cs
                  rw [hnds2.out] at hcs5
                  have HO := Lib.hid (show OwnsS (w5.alloc (.cells #[] 9)) Q2.B (.slice (some ⟨w5.heap.size, 0, none⟩) 0 0) [] from World.ownsRow_lit (base := Q2.B) (e := 9) (size := 1) w5 #[] 0 hsB (by simp) rfl)
                  have HL := Lib.hid hl6
                  have HB6 := Lib.hid hb6
                  have HCs := Lib.hid hcs5
                  have HG5 := Lib.hid g5
                  have HT5 := Lib.hid (HT.out.trans t5)
                  clear g5 t5 hb6 hG6 hN6 hl6 hv6 hcs5 hlg c0' d3 f3
                  have f4 : (w5.alloc (.cells #[] 9)).heap.size = w5.heap.size + 1 := by simp
                  go_wp2_with (first
                    | (at_builtin; refine wpList_appS rfl (.tmp 249) (.tmp 253) rfl Q2.B rfl HO.out rfl HL.out (by simp; omega) (by rw [f4]; omega) _ rfl ?_; intro A7 cap7 w7 ho7 hg7 ht7; have B7 := Lib.hid (below_grown HB6.out hg7 HB6.out.size (fun q hq => by simp only [Value.ownBlock, Option.some.injEq] at hq; omega)); have T7 := Lib.hid (fun (q : Nat) (hq : (Value.slice A7 (S.nd k).log.length cap7).ownBlock = some q) => show w5.heap.size ≤ q from (ht7 q (by rw [List.length_nil, Nat.zero_add]; exact hq)).elim (fun e => by simp only [Value.ownBlock, Option.some.injEq] at e; omega) (fun e => by rw [f4] at e; omega)); have B8 := Lib.hid (B7.out.alloc B7.out.size (.cells #[.string vx] 9)); have O8 := Lib.hid (show OwnsS (w7.alloc (.cells #[.string vx] 9)) Q2.B (.slice A7 (S.nd k).log.length cap7) (S.nd k).log from by have h5 := OwnsS.below (show Below w7.heap.size w7 (w7.alloc (.cells #[.string vx] 9)) from (Below.refl _ _).alloc (Nat.le_refl _) _) ho7; simpa using h5); (have q2 := free_at ((B7.out.block _ (lt_of HCs.out)).trans HCs.out) 2); clear ho7 hg7 ht7)
                    | (at_builtin; refine wpList_appS rfl (.tmp 256) (.tmp 258) rfl Q2.B rfl O8.out rfl (m := [vx]) (base' := 0) (show OwnsS _ 0 (.slice (some ⟨w7.heap.size, 0, none⟩) 1 1) [vx] from World.ownsRow_lit (base := 0) (e := 9) (size := 1) w7 #[.string vx] 1 (Nat.zero_le _) (by unfold maxLen; omega) rfl) (by simp; omega) (Nat.le_trans hsB B8.out.size) _ rfl ?_; intro A9 cap9 w9 ho9 hg9 ht9; have B9 := Lib.hid (below_grown B8.out hg9 B8.out.size (fun q hq => T7.out q hq)); have T9 := Lib.hid (fun q hq => show w5.heap.size ≤ q from (ht9 q hq).elim (fun e => T7.out q e) (fun e => Nat.le_trans B8.out.size e)); have O9 := Lib.hid ho9; (have q3 := free_at ((B9.out.block _ (lt_of HCs.out)).trans HCs.out) 2); (have q4 : w9.cell? ⟨Q.nds k, 2, none⟩ = some (Q2.lr k) := by rw [cell_at ((B9.out.block _ (lt_of HCs.out)).trans HCs.out)]; rfl); clear ho9 hg9 ht9)
                    | fail)
                  refine bodyPost_ret (results_tmp3 rfl _ _ _) rfl ?_
                  have o9 := O9.out
                  rw [show (S.nd k).log ++ [vx] = ((rnd2 S k x L).S.nd k).log ++ [vx] by rw [hsm]] at o9
                  obtain ⟨g10, t10⟩ := HG5.out.logged hkn5 B9.out o9 T9.out
                  rw [push_setRd, hnds2.out] at g10
                  rw [hnds2.out] at t10
                  refine ⟨?_, _, ?_, HT5.out.trans (by rw [show ((rnd2 S k x L).S.setRd k (nextR (balOf S k) (max (rnd1 S k L).hi (rnd2 S k x L).hi))).n = S.n from hn2] at t10; exact t10)⟩
                  · rw [HE.out, HSl.out, HVo.out]; rfl
                  · rw [HS.out, HVo.out]; exact g10
                · have hm2I : 2 * ((rnd2 S k x L).told.length : Int) ≤ (S.n : Int) := by omega
                  have he := HPE.out
                  have hs := HPS.out
                  rw [if_neg (by omega), if_pos (by omega)] at he hs
                  have HE := Lib.hid he
                  have HS := Lib.hid hs
                  clear he hs
                  go_wp2_with fail
                  refine bodyPost_ret (results_tmp3 rfl _ _ _) rfl ?_
                  refine ⟨?_, Q2, ?_, HT.out.trans HRs.out.2⟩
                  · rw [HE.out]; rfl
                  · rw [HS.out]; exact HRs.out.1
        · have hm1I : ¬ ((S.n : Int) < 2 * ((rnd1 S k L).told.length : Int)) := by omega
          have he := HPE.out
          have hs := HPS.out
          rw [if_pos (by omega)] at he hs
          have HE := Lib.hid he
          have HS := Lib.hid hs
          clear he hs
          go_wp2_with fail
          refine bodyPost_ret (results_tmp3 rfl _ _ _) rfl ?_
          obtain ⟨q1, q2⟩ := HP.out.rise hkn1 _ rfl
          rw [hn] at q2
          refine ⟨?_, Q, ?_, HT.out.trans q2⟩
          · rw [HE.out]; rfl
          · rw [HS.out]; exact q1
  · have he : proE S i x L = (0, ⟨#[]⟩, refE S i x) := by unfold proE; rw [if_pos hE]
    have hs : proS S i x L = S := by unfold proS; rw [if_pos hE]
    rw [he, hs]
    refine (rpro_wrong HR.out i x L hE).mono ?_
    rintro e w' ⟨rfl, rfl⟩
    exact ⟨Q, rfl, HR.out, RT.of_below (Below.refl _ _)⟩
end Go.Proofs.YtkcbmkedhipgeaaGreatDoor
