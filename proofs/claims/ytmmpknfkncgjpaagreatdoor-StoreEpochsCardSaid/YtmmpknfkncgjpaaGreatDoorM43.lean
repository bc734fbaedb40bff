/-
  What is done by kinds: the table of functions; TIME, EPOCH and READ of the package's server, by contracts.
-/
import Derived.Test.YtmmpknfkncgjpaaGreatDoorM40
import Derived.Test.YtmmpknfkncgjpaaGreatDoorM42
import Derived.Test.YtmmpknfkncgjpaaGreatDoorM18
import Derived.BigQuiet
namespace Go.Proofs.YtmmpknfkncgjpaaGreatDoor
open Go.RowKit Go.WideShapes

theorem Goes.ahead {F : Nat → Prop} {w w1 w2 : World} {Q : (Nat → Prop) → Prop} (hb : Below w.heap.size w w1) (h : Goes F w1 w2 Q) : Goes F w w2 Q := Goes.trans (fun _ h => .inl h) (Keeps.of_below hb) h
theorem Goes.behind {F : Nat → Prop} {w w1 w2 : World} (X : Ob) (h : Goes F w w1 (X.at_ w1)) (hb : Below w1.heap.size w1 w2) : Goes F w w2 (X.at_ w2) := by
  obtain ⟨F', h1, h2, h3⟩ := h
  exact ⟨F', X.below h1 hb, h2, h3.then_below hb⟩
theorem Ob.still (X : Ob) {F : Nat → Prop} {w w1 w2 : World} (h : X.at_ w1 F) (hb : Below w.heap.size w w1) (hq : Below w1.heap.size w1 w2) : Goes F w w2 (X.at_ w2) := ⟨F, X.below h hq, fun _ h => .inl h, Keeps.of_below (hb.trans (hq.mono hb.size))⟩

section
variable {w w' : World} {tb pb sb ub kb : Nat} {id : Int} {v : Sv} {N : Nat}
theorem Hd.below (h : Hd w tb pb sb ub kb id v N) (hb : Below w.heap.size w w') : Hd w' tb pb sb ub kb id v N := h.kept fun k hk => hb.block k (by rcases hk with rfl | rfl | rfl; exact h.lt.1; exact h.lt.2.1; exact h.lt.2.2)
theorem Hd.uturn (h : Hd w tb pb sb ub kb id v N) (ht : w.mapTurned w' ub) {tm2 : List Int} {N2 : Nat} (hm : Mp elI w' ub (gU tm2) N2) (hN : N ≤ N2) : Hd w' tb pb sb ub kb id { v with tm := tm2 } N2 :=
  ⟨h.row.of_block (ht.grown.block _ h.lt.1 (fun e => h.ne_u (Option.some.inj e).symm)), hm, (h.km.of_block (ht.grown.block _ h.lt.2.2 (fun e => h.ne (Option.some.inj e).symm))).mono hN, h.ne⟩
theorem Hd.kturn (h : Hd w tb pb sb ub kb id v N) (ht : w.mapTurned w' kb) {kn2 : List Kn} {N2 : Nat} (hm : Mp elW w' kb (gK kn2) N2) (hN : N ≤ N2) : Hd w' tb pb sb ub kb id { v with kn := kn2 } N2 :=
  ⟨h.row.of_block (ht.grown.block _ h.lt.1 (fun e => h.ne_k (Option.some.inj e).symm)), (h.um.of_block (ht.grown.block _ h.lt.2.1 (fun e => h.ne (Option.some.inj e)))).mono hN, hm, h.ne⟩
end
theorem SVo.mono {w : World} {tb : Nat} {id : Int} {s : St} {L : Lay} {v : Sv} {N N' : Nat} {F : Nat → Prop} (h : (SVo tb id s L v N).at_ w F) (hN : N ≤ N') : (SVo tb id s L v N').at_ w F := by
  obtain ⟨pb, sb, mb, ub, kb, odd, lost, F1, h1, h2, h3⟩ := h
  exact ⟨pb, sb, mb, ub, kb, odd, lost, F1, h1, h2.mono hN, h3⟩

theorem chk_off {m : M} (hm : m.chk = 0) : m.data.size ≤ 1024 ∧ (0 ≤ m.off ∧ m.off ≤ 256) ∧ i64 m.off := by
  unfold M.chk at hm
  split at hm
  · split at hm
    · exact ⟨by omega, by omega, (i64_iff _).2 ⟨by omega, by omega⟩⟩
    · cases hm
  · cases hm
theorem chk_src {m : M} (hm : m.chk = 0) : 0 ≤ m.src ∧ m.src ≤ 7 ∧ i64 m.src := by
  unfold M.chk at hm
  split at hm
  · exact ⟨by omega, by omega, (i64_iff _).2 ⟨by omega, by omega⟩⟩
  · cases hm

/-! ### the table -/
def fv : Option Nat → Value
  | none => .nilFunc
  | some x => .func (.func x) #[] #[]
def rdF : Value → Option (DataW Unit × List MemPlace)
  | .nilFunc => some (.lit (.int .i64 (-1)), [])
  | .func (.func x) a b => if a.toList = [] ∧ b.toList = [] then some (.lit (.int .i64 x), []) else none
  | _ => none
theorem zeroF (w : World) : (zeroValue 121).run Tryz.prog w = .ok .nilFunc w := by kernel_rfl
def elF : El (Option Nat) where
  val := fv
  dat x := match x with
    | none => .lit (.int .i64 (-1))
    | some x => .lit (.int .i64 x)
  rd := rdF
  mkv x := by
    cases x with
    | none => rfl
    | some x =>
      show (if ((#[] : Array Value).toList = [] ∧ (#[] : Array Value).toList = []) then some ((Lit.int .i64 (x : Int)) |> DataW.lit, ([] : List MemPlace)) else none) = _
      exact if_pos (And.intro rfl rfl)
  inv {v z} h := by
    unfold rdF at h
    split at h
    · cases h; exact ⟨none, rfl, rfl⟩
    · split at h
      · rename_i x a b hc
        cases h
        refine ⟨some x, ?_, rfl⟩
        have e1 : a = #[] := Array.toList_inj.1 hc.1
        have e2 : b = #[] := Array.toList_inj.1 hc.2
        subst e1 e2
        rfl
      · cases h
    · cases h
  inj {x y} h := by
    cases x with
    | none => cases y with
      | none => rfl
      | some y => simp at h
    | some x => cases y with
      | none => simp at h
      | some y =>
        simp at h
        have : x = y := by omega
        rw [this]
  zero := none
  mt := 123
  et := 121
  und := Tryz.underlying123
  zer := zeroF
def gD (n : Int) : Option (Option Nat) :=
  if n = 4 then some (some 90) else if n = 3 then some (some 89) else if n = 2 then some (some 88) else if n = 1 then some (some 87) else none
theorem gD_none {n : Int} (h : ¬ (1 ≤ n ∧ n ≤ 4)) : gD n = none := by
  unfold gD
  rw [if_neg (by omega), if_neg (by omega), if_neg (by omega), if_neg (by omega)]
set_option maxRecDepth 100000 in
set_option maxHeartbeats 4000000 in
theorem deeds_any (w : World) : Calls Tryz.prog 57 #[] w fun e w' => ∃ mb, e = .returned (.map (some mb)) ∧ Mp elF w' mb gD 4 ∧ Below w.heap.size w w' := by
  have i64s : ∀ n : Int, 0 ≤ n → n ≤ 8 → i64 n := fun n h1 h2 => (i64_iff n).2 ⟨by omega, by omega⟩
  obtain ⟨w1, r1, m1, t1⟩ := (Mp.made elF w).put (i64s 1 (by omega) (by omega)) (by omega) (some 87)
  obtain ⟨w2, r2, m2, t2⟩ := m1.put (i64s 2 (by omega) (by omega)) (by omega) (some 88)
  obtain ⟨w3, r3, m3, t3⟩ := m2.put (i64s 3 (by omega) (by omega)) (by omega) (some 89)
  obtain ⟨w4, r4, m4, t4⟩ := m3.put (i64s 4 (by omega) (by omega)) (by omega) (some 90)
  have hk : Keeps (fun k => k = w.heap.size) w w4 :=
    (((((Keeps.of_below ((Below.refl w.heap.size w).alloc (Nat.le_refl _) (.map #[] 0))).grown t1.grown (fun g hg => .inl (Option.some.inj hg).symm)).grown t2.grown (fun g hg => .inl (Option.some.inj hg).symm)).grown t3.grown (fun g hg => .inl (Option.some.inj hg).symm)).grown t4.grown (fun g hg => .inl (Option.some.inj hg).symm))
  have HK := Lib.hid (hk.below (Below.refl w.heap.size w) (Nat.le_refl _) (fun k hk => by omega))
  have M4 := Lib.hid m4
  clear m1 m2 m3 m4 t1 t2 t3 t4 hk i64s
  have q1 : (Instr.mapUpdate 123 (.map (some w.heap.size)) (.int .i64 1) (.func (.func 87) #[] #[])).run Tryz.prog (w.alloc (.map #[] 0)) = .ok () w1 := r1
  have q2 : (Instr.mapUpdate 123 (.map (some w.heap.size)) (.int .i64 2) (.func (.func 88) #[] #[])).run Tryz.prog w1 = .ok () w2 := r2
  have q3 : (Instr.mapUpdate 123 (.map (some w.heap.size)) (.int .i64 3) (.func (.func 89) #[] #[])).run Tryz.prog w2 = .ok () w3 := r3
  have q4 : (Instr.mapUpdate 123 (.map (some w.heap.size)) (.int .i64 4) (.func (.func 90) #[] #[])).run Tryz.prog w3 = .ok () w4 := r4
  have hmm := @run_makeMap Tryz.prog
  clear r1 r2 r3 r4
  go_enter Tryz.func57, Tryz.ntmps57
  go_wp2
  go_ret
  exact ⟨_, rfl, M4.out, HK.out⟩

section
variable {w : World} {tb : Nat} {id : Int} {s : St} {L : Lay} {v : Sv} {N : Nat} {F : Nat → Prop}
/-! ### EPOCH -/
set_option maxRecDepth 100000 in
set_option maxHeartbeats 4000000 in
theorem onEpoch_any (h : (SVo tb id s L v N).at_ w F) (m : M) (now : Int) :
    Calls Tryz.prog 90 #[.pointer (some ⟨tb, 0, none⟩), m.val, .int .i64 now] w fun e w' => e = .returned (.tuple #[.string ⟨#[]⟩, .int .i64 (epO v m).1]) ∧ Goes F w w' ((SVo tb id s L { v with ep := (epO v m).2 } N).at_ w') := by
  have hb0 : Below w.heap.size w (w.alloc (.cells m.cells 31)) := (Below.refl _ _).alloc (Nat.le_refl _) _
  have B0 := Lib.hid hb0
  have M0 := Lib.hid (Mat.fresh w m 31)
  have S0 := Lib.hid ((SVo tb id s L v N).below h hb0)
  have hres : ∃ r : Int × Int, epO v m = r ∧ ((m.epoch < v.ep ∧ r = (5, v.ep)) ∨ (¬ m.epoch < v.ep ∧ r = (0, m.epoch))) := by
    refine ⟨_, rfl, ?_⟩
    unfold epO
    by_cases hlt : m.epoch < v.ep
    · exact .inl ⟨hlt, if_pos hlt⟩
    · exact .inr ⟨hlt, if_neg hlt⟩
  obtain ⟨⟨ra, rt⟩, hr, hor⟩ := hres
  rw [hr]
  clear h hb0 hr
  go_enter Tryz.func90, Tryz.ntmps90
  go_wp2_with fail
  generalize w.alloc (.cells m.cells 31) = w1 at B0 M0 S0 ⊢
  have d3 : w1.cell? ⟨w.heap.size, 3, none⟩ = some (.int .i64 m.epoch) := M0.out.1 3 (by omega)
  obtain ⟨pb, sb, mb, ub, kb, odd, lost, F1, Fp, -, hH, -⟩ := SVo.parts S0.out
  obtain ⟨-, -, -, c3, -⟩ := hH.cells
  clear hH
  rcases hor with ⟨hlt, he⟩ | ⟨hlt, he⟩ <;> (simp only [Prod.mk.injEq] at he; obtain ⟨rfl, rfl⟩ := he)
  · have hd : decide (m.epoch < v.ep) = true := decide_eq_true hlt
    go_quiet (fail)
    go_wp2
    go_ret2
    exact ⟨rfl, Ob.still _ S0.out B0.out (below_drewN (Below.refl _ _) _)⟩
  · have hd : decide (m.epoch < v.ep) = false := decide_eq_false (by omega)
    go_quiet (fail)
    have hbq : Below w1.heap.size w1 (w1.drewN nq) := below_drewN (Below.refl _ _) nq
    have S2 := Lib.hid ((SVo tb id s L v N).below S0.out hbq)
    have B2 := Lib.hid (B0.out.trans (hbq.mono B0.out.size))
    have d3' : (w1.drewN nq).cell? ⟨w.heap.size, 3, none⟩ = some (.int .i64 m.epoch) := (M0.out.below hbq).1 3 (by omega)
    clear hbq d3 c3 hd M0 S0 B0
    generalize w1.drewN nq = w2 at S2 B2 d3' ⊢
    obtain ⟨pb, sb, mb, ub, kb, odd, lost, F1, Fp, hS, hH, hl, hP, hF1, hFp, ft, fu, fk, hnt, k1, k2, k3⟩ := SVo.parts S2.out
    obtain ⟨-, -, -, c3, -⟩ := hH.cells
    have f3 := hH.row.frozen 3
    have K := Lib.hid (k3 (w2.setCell ⟨tb, 3, none⟩ (.int .i64 m.epoch)) { v with ep := m.epoch } N ((Keeps.refl _ w2).set (.inl (.inl rfl)) _) (hH.epoch m.epoch))
    clear hS hH hl hP k1 k2 k3 S2
    go_wp2
    go_ret2
    exact ⟨rfl, Goes.ahead B2.out K.out⟩

/-! ### TIME -/
set_option maxRecDepth 100000 in
set_option maxHeartbeats 4000000 in
theorem onTime_any (h : (SVo tb id s L v N).at_ w F) (hE : ErrType w) (hN : N < 900000) (hv : v.tm.length = 8) (m : M) (hm : m.chk = 0) (now : Int) :
    Calls Tryz.prog 89 #[.pointer (some ⟨tb, 0, none⟩), m.val, .int .i64 now] w fun e w' => e = .returned (.tuple #[.string ⟨#[]⟩, .int .i64 (tmO v m).1]) ∧ Goes F w w' ((SVo tb id s L { v with tm := (tmO v m).2 } (N + 1)).at_ w') := by
  have hb0 : Below w.heap.size w (w.alloc (.cells m.cells 31)) := (Below.refl _ _).alloc (Nat.le_refl _) _
  have B0 := Lib.hid hb0
  have M0 := Lib.hid (Mat.fresh w m 31)
  have S0 := Lib.hid ((SVo tb id s L v N).below h hb0)
  have HE := Lib.hid (hE.below hb0)
  have hds : m.data.size ≤ 1024 ∧ 0 ≤ m.off ∧ m.off ≤ 256 := by
    unfold M.chk at hm
    split at hm
    · split at hm
      · omega
      · cases hm
    · cases hm
  obtain ⟨ra, rt, hT⟩ : ∃ a t, tmO v m = (a, t) := ⟨_, _, rfl⟩
  rw [hT]
  have HT := Lib.hid hT
  clear h hb0 hE hm hT
  go_enter Tryz.func89, Tryz.ntmps89
  go_wp2_with fail
  generalize w.alloc (.cells m.cells 31) = w1 at B0 M0 S0 HE ⊢
  have d7 : w1.cell? ⟨w.heap.size, 7, none⟩ = some (.string m.data) := M0.out.2
  go_wp2_with fail
  go_at_call 21
  refine (parse13_any m.data w1 HE.out (by omega)).mono ?_
  rintro e w2 ⟨rfl, hb2⟩
  have S2 := Lib.hid ((SVo tb id s L v N).below S0.out hb2)
  have B2 := Lib.hid (B0.out.trans (hb2.mono B0.out.size))
  have M2 := Lib.hid (M0.out.below hb2)
  clear hb2 d7 M0 S0 B0 HE
  cases hp : parOf m.data with
  | none =>
    have hE := HT.out.symm.trans (show tmO v m = (30, v.tm) by unfold tmO; rw [parO_none hp]; rfl)
    simp only [Prod.mk.injEq] at hE
    obtain ⟨rfl, rfl⟩ := hE
    rw [parO_none hp]
    clear HT
    go_wp2
    go_ret2
    exact ⟨rfl, Ob.still _ (SVo.mono S2.out (Nat.le_succ _)) B2.out (Below.refl _ _)⟩
  | some x =>
    obtain ⟨n, d⟩ := x
    have hn := (numAt_some (parOf_fits hp).2.1).2.2.1
    have hq := parO_some hp
    rw [hq]
    have d5 : w2.cell? ⟨w.heap.size, 5, none⟩ = some (.int .i64 m.off) := M2.out.1 5 (by omega)
    by_cases ho : m.off ≥ 8
    · have hd : decide (8 ≤ m.off) = true := decide_eq_true ho
      have hE := HT.out.symm.trans (show tmO v m = (1, v.tm) by unfold tmO; rw [hq, if_neg (by simp), if_pos ho])
      simp only [Prod.mk.injEq] at hE
      obtain ⟨rfl, rfl⟩ := hE
      clear HT hq
      go_wp2
      go_ret2
      exact ⟨rfl, Ob.still _ (SVo.mono S2.out (Nat.le_succ _)) B2.out (Below.refl _ _)⟩
    · have hd : decide (8 ≤ m.off) = false := decide_eq_false (by omega)
      have hE := HT.out.symm.trans (show tmO v m = (0, v.tm.set m.off.toNat n) by unfold tmO; rw [hq, if_neg (by simp), if_neg ho])
      simp only [Prod.mk.injEq] at hE
      obtain ⟨rfl, rfl⟩ := hE
      clear HT hq
      go_wp2_with fail
      have hbd : Below w2.heap.size w2 w2.drew := (Below.refl _ _).drew
      have S3 := Lib.hid ((SVo tb id s L v N).below S2.out hbd)
      have B3 := Lib.hid (B2.out.trans (hbd.mono B2.out.size))
      have d5' : w2.drew.cell? ⟨w.heap.size, 5, none⟩ = some (.int .i64 m.off) := (M2.out.below hbd).1 5 (by omega)
      obtain ⟨pb, sb, mb, ub, kb, odd, lost, F1, Fp, hS, hH, hl, hP, hF1, hFp, ft, fu, fk, hnt, k1, k2, k3⟩ := SVo.parts S3.out
      obtain ⟨-, -, -, -, c4, -⟩ := hH.cells
      obtain ⟨w3, hrun, hm3, ht3⟩ := hH.um.put (n := m.off) ((i64_iff _).2 ⟨by omega, by omega⟩) (by omega) n
      rw [gU_set (by omega) (by omega) hn] at hm3
      have q : (Instr.mapUpdate 39 (.map (some ub)) (.int .i64 m.off) (.int .i64 n)).run Tryz.prog w2.drew = .ok () w3 := hrun
      have K := Lib.hid (k3 w3 _ (N + 1) ((Keeps.refl _ w2.drew).grown ht3.grown (fun g hg => .inl (.inr (.inl (Option.some.inj hg).symm)))) (hH.uturn ht3 hm3 (Nat.le_succ _)))
      clear hS hH hl hP k1 k2 k3 S3 S2 hrun hm3 ht3 hd d5 M2
      go_region
      go_wp2
      go_ret2
      exact ⟨rfl, Goes.ahead B3.out K.out⟩

/-! ### READ -/
theorem stored_val {w : World} {sb mb pb : Nat} {s : St} {L : Lay} {odd : List Nat} {lost : Bool} {F : Nat → Prop} (h : SF w sb mb pb s L odd lost F) {n : Int} {b : Bk} (hb : getL L n = some b) : valE b.ver b.data = 0 := by
  obtain ⟨⟨i, hi⟩, -⟩ := getL_some hb
  have := h.good.ok i b hi
  obtain ⟨h1, h4⟩ := refE_zero.1 this
  unfold argOk at h1
  exact valE_ok (by omega) (by omega) (by omega)
end
end Go.Proofs.YtmmpknfkncgjpaaGreatDoor
