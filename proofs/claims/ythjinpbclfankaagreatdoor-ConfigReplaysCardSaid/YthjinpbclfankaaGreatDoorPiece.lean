/-
  What Apply puts together, as plain data: the parts behind an order of the second kind, and of the third.
-/
import Derived.Test.YthjinpbclfankaaGreatDoorSrv
namespace Go.Proofs.YthjinpbclfankaaGreatDoor
open Go.RowKit

theorem prt_start {g : Int → Int × Int} {n : Nat} {k k' : Int} (h : n = 0 ∨ k = k') (out : List Pt) : prt g n k out = prt g n k' out := by
  rcases h with rfl | rfl
  · rfl
  · rfl
theorem flat_single {α β : Type} (f : α → β) (l : List α) : l.flatMap (fun p => [f p]) = l.map f := by
  induction l with
  | nil => rfl
  | cons p l ih => rw [List.flatMap_cons, ih]; rfl
/-- A part, where a server goes. -/
def lvP (l : List Int) (n : Int) (p : Pt) : Pt := ⟨p.f, p.t, (leaveC l n (p.a, p.b)).1, (leaveC l n (p.a, p.b)).2⟩
theorem leave_join {srv : List Int} {ps : List Pt} (h : ptsOk srv 0 256 ps = true) (n : Int) : join (ps.map (lvP srv n)) = pts (fun k => leaveC srv n (cop ps k)) := by
  have hc := cop_part h
  have := join_pts (g := fun k => leaveC srv n (cop ps k)) (pieces := fun p => [lvP srv n p]) (ps := ps) (fun p hp out => by
    show jn out (lvP srv n p) = _
    exact prt_seg (x := p.f) (y := p.t) (fun j h1 h2 => by
      show leaveC srv n (cop ps j) = _
      rw [hc p hp j h1 h2]) out) h
  rw [← this, flat_single]
/-- A part, where a range is placed. -/
def cuts (o : Od) (p : Pt) : List Pt := [⟨p.f, min p.t o.f, p.a, p.b⟩, ⟨max p.f o.f, min p.t o.t, o.n, o.m⟩, ⟨max p.f o.t, p.t, p.a, p.b⟩]
theorem place_join {srv : List Int} {ps : List Pt} (h : ptsOk srv 0 256 ps = true) (o : Od) (ho : o.f < o.t) : join (ps.flatMap (cuts o)) = pts (placeC ps o) := by
  have hc := cop_part h
  have hlt : ∀ p ∈ ps, p.f < p.t := by
    have key : ∀ (l : List Pt) (at_ : Int), ptsOk srv at_ 256 l = true → ∀ p ∈ l, p.f < p.t := by
      intro l
      induction l with
      | nil => intro _ _ p hp; cases hp
      | cons q l ih =>
        intro at_ h p hp
        simp only [ptsOk, Bool.and_eq_true, decide_eq_true_eq] at h
        rcases List.mem_cons.1 hp with rfl | hp
        · have := h.1.1; have := h.1.2.1; omega
        · exact ih _ h.2 p hp
    exact key ps 0 h
  refine join_pts (g := placeC ps o) (pieces := cuts o) (fun p hp out => ?_) h
  have hpl := hlt p hp
  have hcp := hc p hp
  show jn (jn (jn out ⟨p.f, min p.t o.f, p.a, p.b⟩) ⟨max p.f o.f, min p.t o.t, o.n, o.m⟩) ⟨max p.f o.t, p.t, p.a, p.b⟩ = _
  rw [prt_seg (g := placeC ps o) (x := p.f) (y := min p.t o.f) (fun j h1 h2 => by unfold placeC; rw [if_neg (by omega)]; exact hcp j h1 (by omega)),
    prt_seg (g := placeC ps o) (x := max p.f o.f) (y := min p.t o.t) (fun j h1 h2 => by unfold placeC; rw [if_pos (by omega)]),
    prt_seg (g := placeC ps o) (x := max p.f o.t) (y := p.t) (fun j h1 h2 => by unfold placeC; rw [if_neg (by omega)]; exact hcp j (by omega) h2)]
  rw [show (p.t - p.f).toNat = (min p.t o.f - p.f).toNat + (min p.t o.t - max p.f o.f).toNat + (p.t - max p.f o.t).toNat by omega, prt_add, prt_add]
  rw [prt_start (n := (min p.t o.t - max p.f o.f).toNat) (k := max p.f o.f) (k' := p.f + ((min p.t o.f - p.f).toNat : Int)) (by omega),
    prt_start (n := (p.t - max p.f o.t).toNat) (k := max p.f o.t) (k' := p.f + (((min p.t o.f - p.f).toNat + (min p.t o.t - max p.f o.f).toNat : Nat) : Int)) (by omega)]
/-- One part is another one now. -/
theorem map_step {α : Type} (f : α → α) {l : List α} {k : Nat} {p : α} (h : l[k]? = some p) : ((l.take k).map f ++ l.drop k).set k (f p) = (l.take (k + 1)).map f ++ l.drop (k + 1) := by
  obtain ⟨h1, h2⟩ := List.getElem?_eq_some_iff.1 h
  have hl : ((l.take k).map f).length = k := by rw [List.length_map, List.length_take]; omega
  rw [List.set_append, hl, if_neg (by omega), Nat.sub_self, List.drop_eq_getElem_cons h1, h2, List.take_add_one, h]
  simp
theorem map_at {α : Type} (f : α → α) {l : List α} {k : Nat} {p : α} (h : l[k]? = some p) : ((l.take k).map f ++ l.drop k)[k]? = some p := by
  obtain ⟨h1, h2⟩ := List.getElem?_eq_some_iff.1 h
  have hl : ((l.take k).map f).length = k := by rw [List.length_map, List.length_take]; omega
  rw [List.getElem?_append_right (by omega), hl, Nat.sub_self, List.getElem?_drop, Nat.add_zero, h]
theorem map_len {α : Type} (f : α → α) (l : List α) (k : Nat) : ((l.take k).map f ++ l.drop k).length = l.length := by
  rw [List.length_append, List.length_map, List.length_take, List.length_drop]; omega
end Go.Proofs.YthjinpbclfankaaGreatDoor
