/-
  A region that draws its order where two operations may come up at a time: a tree of orders.
-/
import Derived.Test.YtmoekalagollhaaCx3
namespace Go.Proofs.Ytmoekalagollhaa.Tr
open Go.RowKit Go.Proofs.Ytmoekalagollhaa.Tx
set_option linter.unusedVariables false
set_option linter.unusedSimpArgs false

inductive Pl where
  | nil
  | rd (i : Nat) (k : Pl)
  | act (i : Nat) (k : Pl)
  | fork (i : Nat) (k : Pl) (j : Nat) (l : Pl)
def Pl.isNil : Pl → Bool
  | .nil => true
  | _ => false
def Pl.len : Pl → Nat
  | .nil => 0
  | .rd _ k => k.len + 1
  | .act _ k => k.len + 1
  | .fork _ k _ _ => k.len + 1
def planT (md : Region.Mode) (ops : Array Oper) (last : Nat) : Pl → Array Bool → Bool
  | .nil, listed => (Region.ready md ops listed).isEmpty
  | .rd i k, listed => Region.free md ops listed i && (Region.ready md ops listed).contains i && waits md ops last i && planT md ops last k (listed.setIfInBounds i true)
  | .act i k, listed => Region.ready md ops listed == [i] && (i != last || k.isNil) && planT md ops last k (listed.setIfInBounds i true)
  | .fork i k j l, listed => Region.ready md ops listed == [i, j] && i != last && j != last && k.len == l.len && planT md ops last k (listed.setIfInBounds i true) && planT md ops last l (listed.setIfInBounds j true)
def actT (P : Program) (ops : Array Oper) (Q : Exit → Act → World → Prop) (S : World → Prop) (last i : Nat) (K : Act → World → Prop) (a : Act) (w : World) : Prop := match ops[i]? with
  | none => False
  | some o => ∀ K' : Act → World → Prop, (∀ a w, (i = last ∨ S w) → K a w → K' a w) → if Region.wanted o (yielded ops a.tmps) = true then Oper.wp P o a w K' Q else K' (a.put o.dst undef) w
def inT (P : Program) (ops : Array Oper) (Q : Exit → Act → World → Prop) (S : World → Prop) (last : Nat) : Pl → Act → World → Prop
  | .nil, a, w => Q .normal a w
  | .rd i k, a, w => match ops[i]? with
    | none => False
    | some o => ∃ v, YieldsIf P ops S o v a ∧ inT P ops Q S last k (a.put o.dst v) w
  | .act i k, a, w => actT P ops Q S last i (inT P ops Q S last k) a w
  | .fork i k j l, a, w => actT P ops Q S last i (inT P ops Q S last k) a w ∧ actT P ops Q S last j (inT P ops Q S last l) a w
section
variable {P : Program} {ops : Array Oper} {Q : Exit → Act → World → Prop} {md : Region.Mode} {S : World → Prop} {last : Nat}
theorem actT_op {i : Nat} {K : Act → World → Prop} {listed : Array Bool} {n : Nat} {a : Act} {w : World} (h : actT P ops Q S last i K a w) (hK : ∀ a w, (i = last ∨ S w) → K a w → wpAnyL P md ops Q S last n listed a w) : wpOp P ops Q i (fun a' w' => (i = last ∨ S w') ∧ wpAnyL P md ops Q S last n listed a' w') a w := by
  unfold actT at h
  cases ho : ops[i]? with
  | none => rw [ho] at h; exact h.elim
  | some o =>
    rw [ho] at h
    exact wpOp_step ho (fun K' hK' => h K' (fun a w hS hk => hK' a w ⟨hS, hK a w hS hk⟩))
theorem inT_any (hs : Region.noSelect ops = true) (hQ : ∀ c a d v w, Q (.panic c) (Act.put a d v) w → Q (.panic c) a w) : ∀ (l : Pl) (listed : Array Bool) (a : Act) (w : World), planT md ops last l listed = true →
    (S w ∨ l.isNil = true) → inT P ops Q S last l a w → wpAnyL P md ops Q S last l.len listed a w
  | .nil, listed, a, w, hp, _, h => by
    simp only [inT] at h
    simp only [planT, List.isEmpty_iff] at hp
    exact wpAnyL_done hp h 0
  | .rd i k, listed, a, w, hp, hS, h => by
    simp only [inT] at h
    simp only [planT, Bool.and_eq_true] at hp
    have hSw : S w := hS.resolve_right (by simp [Pl.isNil])
    cases ho : ops[i]? with
    | none => rw [ho] at h; exact h.elim
    | some o =>
      rw [ho] at h
      obtain ⟨v, hy, h⟩ := h
      exact wpAnyL_first ho (Region.noSelect_spec hs) (fun c a w hq => hQ c a _ _ w hq) hp.1.2 k.len listed a w (Region.free_spec ho hp.1.1.1) (by simpa using hp.1.1.2) hy hSw (inT_any hs hQ k _ _ w hp.2 (.inl hSw) h)
  | .act i k, listed, a, w, hp, hS, h => by
    simp only [inT] at h
    simp only [planT, Bool.and_eq_true, beq_iff_eq, Bool.or_eq_true, bne_iff_ne] at hp
    obtain ⟨⟨hp1, hp3⟩, hp2⟩ := hp
    refine ⟨fun h0 => (by rw [hp1] at h0; cases h0), fun j hj => ?_⟩
    rw [hp1] at hj
    simp at hj
    subst hj
    refine actT_op h (fun a' w' hS' hW => inT_any hs hQ k _ a' w' hp2 ?_ hW)
    rcases hS' with e | e
    · exact .inr (hp3.resolve_left (fun h => h e))
    · exact .inl e
  | .fork i k j l, listed, a, w, hp, hS, h => by
    simp only [inT] at h
    simp only [planT, Bool.and_eq_true, beq_iff_eq, bne_iff_ne] at hp
    obtain ⟨⟨⟨⟨⟨hp1, hi⟩, hj⟩, hl⟩, hk2⟩, hl2⟩ := hp
    refine ⟨fun h0 => (by rw [hp1] at h0; cases h0), fun m hm => ?_⟩
    rw [hp1] at hm
    simp at hm
    rcases hm with rfl | rfl
    · exact actT_op h.1 (fun a' w' hS' hW => inT_any hs hQ k _ a' w' hk2 (.inl (hS'.resolve_left hi)) hW)
    · have := fun a' w' (hS' : m = last ∨ S w') hW => inT_any hs hQ l (listed.setIfInBounds m true) a' w' hl2 (.inl (hS'.resolve_left hj)) hW
      rw [← hl] at this
      exact actT_op h.2 this
theorem wp_region_inT {id : Nat} {a : Act} {w : World} (S : World → Prop) (last : Nat) (pl : Pl) (hm : P.follows .mixedOrders = true) (hs : Region.noSelect ops = true) (hl : pl.len = ops.size) (hp : planT .any ops last pl (Array.replicate ops.size false) = true)
    (hQ : ∀ c a d v w, Q (.panic c) (Act.put a d v) w → Q (.panic c) a w) (hS : S w.drew)
    (h : inT P ops Q S last pl a w.drew) : (Code.region id ops true).wp P Q a w := by
  have := inT_any (md := .any) hs hQ pl _ a w.drew hp (.inl hS) h
  rw [hl] at this
  exact wp_region_any hm (wpAny_of_last (S := S) (last := last) _ _ _ _ this)
variable {i j : Nat} {k l : Pl} {a : Act} {w : World} {o : Oper} {v : Value}
theorem inT_read (ho : ops[i]? = some o) (hy : YieldsIf P ops S o v a) (h : inT P ops Q S last k (a.put o.dst v) w) : inT P ops Q S last (.rd i k) a w := by
  simp only [inT, ho]
  exact ⟨v, hy, h⟩
theorem inT_act (ho : ops[i]? = some o) (hw : Region.wanted o (yielded ops a.tmps) = true) (h : ∀ K' : Act → World → Prop, (∀ a w, (i = last ∨ S w) → inT P ops Q S last k a w → K' a w) → Oper.wp P o a w K' Q) : inT P ops Q S last (.act i k) a w := by
  simp only [inT, actT, ho, hw, if_true]
  exact h
theorem inT_fork {o' : Oper} (ho : ops[i]? = some o) (hw : Region.wanted o (yielded ops a.tmps) = true) (ho' : ops[j]? = some o') (hw' : Region.wanted o' (yielded ops a.tmps) = true)
    (h : ∀ K' : Act → World → Prop, (∀ a w, (i = last ∨ S w) → inT P ops Q S last k a w → K' a w) → Oper.wp P o a w K' Q) (h' : ∀ K' : Act → World → Prop, (∀ a w, (j = last ∨ S w) → inT P ops Q S last l a w → K' a w) → Oper.wp P o' a w K' Q) : inT P ops Q S last (.fork i k j l) a w := by
  simp only [inT, actT, ho, hw, ho', hw', if_true]
  exact ⟨h, h'⟩
theorem inT_end (h : Q .normal a w) : inT P ops Q S last .nil a w := h
end
end Go.Proofs.Ytmoekalagollhaa.Tr
