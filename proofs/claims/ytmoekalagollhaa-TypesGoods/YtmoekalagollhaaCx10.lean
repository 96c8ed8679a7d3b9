/-
  A region that draws its order and ends by several stores: what only reads is taken ahead of all of them.
-/
import Derived.Test.YtmoekalagollhaaCx9
namespace Go.Proofs.Ytmoekalagollhaa.Tr
open Go.RowKit Go.Proofs.Ytmoekalagollhaa.Tx
set_option linter.unusedVariables false
set_option linter.unusedSimpArgs false
section
variable {P : Program} {ops : Array Oper} {Q : Exit → Act → World → Prop} {md : Region.Mode} {S : World → Prop} {ls : List Nat}
def wpAnyM (P : Program) (md : Region.Mode) (ops : Array Oper) (Q : Exit → Act → World → Prop) (S : World → Prop) (ls : List Nat) : Nat → Array Bool → Act → World → Prop
  | 0, listed, a, w => Region.ready md ops listed = [] ∧ Q .normal a w
  | fuel + 1, listed, a, w =>
    (Region.ready md ops listed = [] → Q .normal a w) ∧
    ∀ i ∈ Region.ready md ops listed, wpOp P ops Q i (fun a' w' => (ls.contains i = true ∨ S w') ∧ wpAnyM P md ops Q S ls fuel (listed.setIfInBounds i true) a' w') a w
theorem wpAny_of_lasts : ∀ (fuel : Nat) (listed : Array Bool) (a : Act) (w : World), wpAnyM P md ops Q S ls fuel listed a w → wpAny P md ops Q fuel listed a w
  | 0, _, _, _, h => h
  | fuel + 1, _, _, _, h => ⟨h.1, fun i hi => wpOp_mono (fun a' w' h' => wpAny_of_lasts fuel _ a' w' h'.2) (h.2 i hi)⟩
def waitsAll (md : Region.Mode) (ops : Array Oper) (ls : List Nat) (i : Nat) : Bool := ls.all (fun l => waits md ops l i)
theorem wpAnyM_first {i : Nat} {oi : Oper} {v : Value} (hi : ops[i]? = some oi) (hsel : ∀ (j : Nat) (o : Oper) cs b, ops[j]? = some o → o.op ≠ .select cs b)
    (hQ : ∀ c a w, Q (.panic c) (a.put oi.dst v) w → Q (.panic c) a w) (hwt : waitsAll md ops ls i = true) :
    ∀ (fuel : Nat) (listed : Array Bool) (a : Act) (w : World),
      (∀ j oj, ops[j]? = some oj → j ≠ i → listed.getD j true = false → (∀ e ∈ oj.after, Region.binds md e = true → e.on ≠ i) → oi.apart ops oj = true) →
      i ∈ Region.ready md ops listed → YieldsIf P ops S oi v a → S w →
      wpAnyM P md ops Q S ls fuel (listed.setIfInBounds i true) (a.put oi.dst v) w → wpAnyM P md ops Q S ls (fuel + 1) listed a w := by
  intro fuel
  induction fuel with
  | zero =>
    intro listed a w _ hr hy hS H
    refine ⟨fun h => (by rw [h] at hr; cases hr), fun j hj => ?_⟩
    by_cases hji : j = i
    · subst hji; exact hy.wpOp hi hS ⟨.inr hS, H⟩
    · have := ready_mono hj hji
      rw [H.1] at this
      cases this
  | succ fuel ih =>
    intro listed a w hfree hr hy hS H
    refine ⟨fun h => (by rw [h] at hr; cases hr), fun j hj => ?_⟩
    by_cases hji : j = i
    · subst hji; exact hy.wpOp hi hS ⟨.inr hS, H⟩
    · have h1 := H.2 j (ready_mono hj hji)
      obtain ⟨hjun, oj, hoj, hall⟩ := mem_ready.1 hj
      have hnot : ∀ e ∈ oj.after, Region.binds md e = true → e.on ≠ i := fun e he hb heq => by
        have h1 := hall e he hb
        have h0 := (mem_ready.1 hr).1
        rw [heq] at h1
        rcases Nat.lt_or_ge i listed.size with h' | h'
        · simp [h'] at h0 h1; rw [h0] at h1; cases h1
        · simp [Array.getElem?_eq_none h'] at h1
      have hjl : ls.contains j ≠ true := fun e => by
        have hw := List.all_eq_true.1 hwt j (by simpa using e)
        unfold waits at hw
        rw [hoj] at hw
        obtain ⟨e, he, hb⟩ := Array.any_eq_true'.1 hw
        simp only [Bool.and_eq_true, beq_iff_eq] at hb
        exact hnot e he hb.1 hb.2
      have h2 := wpOp_putIf hoj (hfree j oj hoj hji hjun hnot) (fun cs b => hsel i oi cs b hi) (fun cs b => hsel j oj cs b hoj) hQ hy h1
      have hfree' : ∀ k ok, ops[k]? = some ok → k ≠ i → (listed.setIfInBounds j true).getD k true = false →
          (∀ e ∈ ok.after, Region.binds md e = true → e.on ≠ i) → oi.apart ops ok = true := fun k ok hk hki hun hno => by
        refine hfree k ok hk hki ?_ hno
        by_cases hjk : j = k
        · subst hjk; exact hjun
        · rw [getD_set_ne true hjk] at hun; exact hun
      refine wpOp_mono (fun a' w' h3 => ?_) h2
      have hS' : S w' := h3.2.1.resolve_left hjl
      refine ⟨.inr hS', ih (listed.setIfInBounds j true) a' w' hfree' (ready_mono hr (Ne.symm hji)) h3.1 hS' ?_⟩
      rw [Array.setIfInBounds_comm _ _ hji]
      exact h3.2.2
theorem wpAnyM_done {listed : Array Bool} {a : Act} {w : World} (hr : Region.ready md ops listed = []) (h : Q .normal a w) :
    ∀ fuel, wpAnyM P md ops Q S ls fuel listed a w
  | 0 => ⟨hr, h⟩
  | _ + 1 => ⟨fun _ => h, by rw [hr]; simp⟩
def Pl.noRd : Pl → Bool
  | .nil => true
  | .rd _ _ => false
  | .act _ k => k.noRd
  | .fork _ _ _ _ => false
def planM (md : Region.Mode) (ops : Array Oper) (ls : List Nat) : Pl → Array Bool → Bool
  | .nil, listed => (Region.ready md ops listed).isEmpty
  | .rd i k, listed => Region.free md ops listed i && (Region.ready md ops listed).contains i && waitsAll md ops ls i && planM md ops ls k (listed.setIfInBounds i true)
  | .act i k, listed => Region.ready md ops listed == [i] && (!ls.contains i || k.noRd) && planM md ops ls k (listed.setIfInBounds i true)
  | .fork i k j l, listed => Region.ready md ops listed == [i, j] && !ls.contains i && !ls.contains j && k.len == l.len && planM md ops ls k (listed.setIfInBounds i true) && planM md ops ls l (listed.setIfInBounds j true)
def actM (P : Program) (ops : Array Oper) (Q : Exit → Act → World → Prop) (S : World → Prop) (ls : List Nat) (nr : Bool) (i : Nat) (K : Act → World → Prop) (a : Act) (w : World) : Prop := match ops[i]? with
  | none => False
  | some o => ∀ K' : Act → World → Prop, (∀ a w, (nr = true ∨ S w) → K a w → K' a w) → if Region.wanted o (yielded ops a.tmps) = true then Oper.wp P o a w K' Q else K' (a.put o.dst undef) w
def inM (P : Program) (ops : Array Oper) (Q : Exit → Act → World → Prop) (S : World → Prop) (ls : List Nat) : Pl → Act → World → Prop
  | .nil, a, w => Q .normal a w
  | .rd i k, a, w => match ops[i]? with
    | none => False
    | some o => ∃ v, YieldsIf P ops S o v a ∧ inM P ops Q S ls k (a.put o.dst v) w
  | .act i k, a, w => actM P ops Q S ls (ls.contains i) i (inM P ops Q S ls k) a w
  | .fork i k j l, a, w => actM P ops Q S ls false i (inM P ops Q S ls k) a w ∧ actM P ops Q S ls false j (inM P ops Q S ls l) a w
theorem actM_op {i : Nat} {nr : Bool} {K : Act → World → Prop} {listed : Array Bool} {n : Nat} {a : Act} {w : World} (h : actM P ops Q S ls nr i K a w) (hn : nr = true → ls.contains i = true) (hK : ∀ a w, (nr = true ∨ S w) → K a w → wpAnyM P md ops Q S ls n listed a w) : wpOp P ops Q i (fun a' w' => (ls.contains i = true ∨ S w') ∧ wpAnyM P md ops Q S ls n listed a' w') a w := by
  unfold actM at h
  cases ho : ops[i]? with
  | none => rw [ho] at h; exact h.elim
  | some o =>
    rw [ho] at h
    exact wpOp_step ho (fun K' hK' => h K' (fun a w hS hk => hK' a w ⟨hS.imp hn id, hK a w hS hk⟩))
theorem inM_any (hs : Region.noSelect ops = true) (hQ : ∀ c a d v w, Q (.panic c) (Act.put a d v) w → Q (.panic c) a w) : ∀ (l : Pl) (listed : Array Bool) (a : Act) (w : World), planM md ops ls l listed = true →
    (S w ∨ l.noRd = true) → inM P ops Q S ls l a w → wpAnyM P md ops Q S ls l.len listed a w
  | .nil, listed, a, w, hp, _, h => by
    simp only [inM] at h
    simp only [planM, List.isEmpty_iff] at hp
    exact wpAnyM_done hp h 0
  | .rd i k, listed, a, w, hp, hS, h => by
    simp only [inM] at h
    simp only [planM, Bool.and_eq_true] at hp
    have hSw : S w := hS.resolve_right (by simp [Pl.noRd])
    cases ho : ops[i]? with
    | none => rw [ho] at h; exact h.elim
    | some o =>
      rw [ho] at h
      obtain ⟨v, hy, h⟩ := h
      exact wpAnyM_first ho (Region.noSelect_spec hs) (fun c a w hq => hQ c a _ _ w hq) hp.1.2 k.len listed a w (Region.free_spec ho hp.1.1.1) (by simpa using hp.1.1.2) hy hSw (inM_any hs hQ k _ _ w hp.2 (.inl hSw) h)
  | .act i k, listed, a, w, hp, hS, h => by
    simp only [inM] at h
    simp only [planM, Bool.and_eq_true, beq_iff_eq, Bool.or_eq_true, Bool.not_eq_true'] at hp
    obtain ⟨⟨hp1, hp3⟩, hp2⟩ := hp
    refine ⟨fun h0 => (by rw [hp1] at h0; cases h0), fun j hj => ?_⟩
    rw [hp1] at hj
    simp at hj
    subst hj
    refine actM_op h id (fun a' w' hS' hW => inM_any hs hQ k _ a' w' hp2 ?_ hW)
    rcases hS' with e | e
    · exact .inr (hp3.resolve_left (fun h => by rw [h] at e; cases e))
    · exact .inl e
  | .fork i k j l, listed, a, w, hp, hS, h => by
    simp only [inM] at h
    simp only [planM, Bool.and_eq_true, beq_iff_eq, Bool.not_eq_true'] at hp
    obtain ⟨⟨⟨⟨⟨hp1, hi⟩, hj⟩, hl⟩, hk2⟩, hl2⟩ := hp
    refine ⟨fun h0 => (by rw [hp1] at h0; cases h0), fun m hm => ?_⟩
    rw [hp1] at hm
    simp at hm
    rcases hm with rfl | rfl
    · exact actM_op h.1 (by simp) (fun a' w' hS' hW => inM_any hs hQ k _ a' w' hk2 (.inl (hS'.resolve_left (by simp))) hW)
    · have := fun a' w' (hS' : false = true ∨ S w') hW => inM_any hs hQ l (listed.setIfInBounds m true) a' w' hl2 (.inl (hS'.resolve_left (by simp))) hW
      rw [← hl] at this
      exact actM_op h.2 (by simp) this
theorem wp_region_inM {id : Nat} {a : Act} {w : World} (S : World → Prop) (ls : List Nat) (pl : Pl) (hm : P.follows .mixedOrders = true) (hs : Region.noSelect ops = true) (hl : pl.len = ops.size) (hp : planM .any ops ls pl (Array.replicate ops.size false) = true)
    (hQ : ∀ c a d v w, Q (.panic c) (Act.put a d v) w → Q (.panic c) a w) (hS : S w.drew)
    (h : inM P ops Q S ls pl a w.drew) : (Code.region id ops true).wp P Q a w := by
  have := inM_any (md := .any) hs hQ pl _ a w.drew hp (.inl hS) h
  rw [hl] at this
  exact wp_region_any hm (wpAny_of_lasts (S := S) (ls := ls) _ _ _ _ this)
variable {i j : Nat} {k l : Pl} {a : Act} {w : World} {o : Oper} {v : Value}
theorem inM_read (ho : ops[i]? = some o) (hy : YieldsIf P ops S o v a) (h : inM P ops Q S ls k (a.put o.dst v) w) : inM P ops Q S ls (.rd i k) a w := by
  simp only [inM, ho]
  exact ⟨v, hy, h⟩
theorem inM_act (ho : ops[i]? = some o) (hw : Region.wanted o (yielded ops a.tmps) = true) (h : ∀ K' : Act → World → Prop, (∀ a w, (ls.contains i = true ∨ S w) → inM P ops Q S ls k a w → K' a w) → Oper.wp P o a w K' Q) : inM P ops Q S ls (.act i k) a w := by
  simp only [inM, actM, ho, hw, if_true]
  exact h
theorem inM_fork {o' : Oper} (ho : ops[i]? = some o) (hw : Region.wanted o (yielded ops a.tmps) = true) (ho' : ops[j]? = some o') (hw' : Region.wanted o' (yielded ops a.tmps) = true)
    (h : ∀ K' : Act → World → Prop, (∀ a w, (false = true ∨ S w) → inM P ops Q S ls k a w → K' a w) → Oper.wp P o a w K' Q) (h' : ∀ K' : Act → World → Prop, (∀ a w, (false = true ∨ S w) → inM P ops Q S ls l a w → K' a w) → Oper.wp P o' a w K' Q) : inM P ops Q S ls (.fork i k j l) a w := by
  simp only [inM, actM, ho, hw, ho', hw', if_true]
  exact ⟨h, h'⟩
theorem inM_end (h : Q .normal a w) : inM P ops Q S ls .nil a w := h
end
end Go.Proofs.Ytmoekalagollhaa.Tr
