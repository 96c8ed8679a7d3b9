/-
  A region that draws its order, by a plan: what looks at no memory is taken whenever it is ready, what reads memory while the facts that it needs still hold, what acts where nothing else is ready.
-/
import Derived.Test.YtmoekalagollhaaY1
namespace Go.Proofs.Ytmoekalagollhaa.Tr
open Go.RowKit Go.Proofs.Ytmoekalagollhaa.Tx
set_option linter.unusedVariables false
set_option linter.unusedSimpArgs false
section
variable {P : Program} {ops : Array Oper} {Q : Exit → Act → World → Prop} {md : Region.Mode} {S : World → Prop} {ls : List Nat}
/- st 0: it looks at no memory; st 1: it reads; st 2: it acts; fork: two may come up. -/
inductive Pn where
  | nil
  | st (k i : Nat) (l : Pn)
  | fork (i : Nat) (l : Pn) (j : Nat) (m : Pn)
def Pn.len : Pn → Nat
  | .nil => 0
  | .st _ _ l => l.len + 1
  | .fork _ l _ _ => l.len + 1
def Pn.of : List (Nat × Nat) → Pn → Pn
  | [], q => q
  | p :: l, q => .st p.1 p.2 (Pn.of l q)
/- One operation waits for another one, by whatever others between. -/
def dep (md : Region.Mode) (ops : Array Oper) : Nat → Nat → Nat → Bool
  | 0, _, _ => false
  | f + 1, l, i => match ops[l]? with
    | none => false
    | some o => o.after.any fun e => Region.binds md e && (e.on == i || dep md ops f e.on i)
structure Cl (md : Region.Mode) (ops : Array Oper) (listed : Array Bool) : Prop where
  sz : listed.size = ops.size
  cl : ∀ j o, ops[j]? = some o → listed.getD j true = true → ∀ e ∈ o.after, Region.binds md e = true → listed.getD e.on true = true
theorem Cl.start (md : Region.Mode) (ops : Array Oper) : Cl md ops (Array.replicate ops.size false) :=
  ⟨by simp, fun j o hj ht => by
    have hlt := (Array.getElem?_eq_some_iff.1 hj).1
    simp [hlt] at ht⟩
theorem getD_up {listed : Array Bool} {k : Nat} (h : listed.getD k false = true) : listed.getD k true = true := by
  rcases Nat.lt_or_ge k listed.size with h' | h'
  · simp [h'] at h ⊢; exact h
  · simp [Array.getElem?_eq_none h'] at h
theorem Cl.set {listed : Array Bool} {i : Nat} (h : Cl md ops listed) (hi : i ∈ Region.ready md ops listed) : Cl md ops (listed.setIfInBounds i true) := by
  obtain ⟨hun, oi, hoi, hall⟩ := mem_ready.1 hi
  refine ⟨by simpa using h.sz, fun j o hj ht e he hb => ?_⟩
  have keep : ∀ k, listed.getD k true = true → (listed.setIfInBounds i true).getD k true = true := fun k hk => by
    by_cases e1 : i = k
    · subst e1
      rw [hk] at hun
      cases hun
    · rw [getD_set_ne true e1]
      exact hk
  by_cases e1 : i = j
  · subst e1
    rw [hoi] at hj
    cases hj
    exact keep _ (getD_up (hall e he hb))
  · rw [getD_set_ne true e1] at ht
    exact keep _ (h.cl j o hj ht e he hb)
theorem dep_out {listed : Array Bool} {i : Nat} (h : Cl md ops listed) (hi : listed.getD i true = false) : ∀ (f l : Nat), dep md ops f l i = true → listed.getD l true = true → False
  | 0, l, hd, _ => by cases hd
  | f + 1, l, hd, ht => by
    rw [dep] at hd
    cases ho : ops[l]? with
    | none => rw [ho] at hd; cases hd
    | some o =>
      rw [ho] at hd
      obtain ⟨e, he, hb⟩ := Array.any_eq_true'.1 hd
      simp only [Bool.and_eq_true, Bool.or_eq_true, beq_iff_eq] at hb
      have hl := h.cl l o ho ht e he hb.1
      rcases hb.2 with h2 | h2
      · rw [h2, hi] at hl; cases hl
      · exact dep_out h hi f e.on h2 hl
theorem dep_wait {listed : Array Bool} {i l f : Nat} (h : Cl md ops listed) (hi : listed.getD i true = false) (hd : dep md ops f l i = true) : l ∉ Region.ready md ops listed := fun hl => by
  obtain ⟨hun, o, ho, hall⟩ := mem_ready.1 hl
  cases f with
  | zero => cases hd
  | succ f =>
    rw [dep, ho] at hd
    obtain ⟨e, he, hb⟩ := Array.any_eq_true'.1 hd
    simp only [Bool.and_eq_true, Bool.or_eq_true, beq_iff_eq] at hb
    have hl2 := getD_up (hall e he hb.1)
    rcases hb.2 with h2 | h2
    · rw [h2, hi] at hl2; cases hl2
    · exact dep_out h hi f e.on h2 hl2
def depAll (md : Region.Mode) (ops : Array Oper) (ls : List Nat) (i : Nat) : Bool := ls.all (fun l => dep md ops 16 l i)
/- In whatever order: what is not among ls keeps the facts. -/
def wpAnyN (P : Program) (md : Region.Mode) (ops : Array Oper) (Q : Exit → Act → World → Prop) (S : World → Prop) (ls : List Nat) : Nat → Array Bool → Act → World → Prop
  | 0, listed, a, w => Region.ready md ops listed = [] ∧ Q .normal a w
  | fuel + 1, listed, a, w =>
    (Region.ready md ops listed = [] → Q .normal a w) ∧
    ∀ i ∈ Region.ready md ops listed, wpOp P ops Q i (fun a' w' => (ls.contains i = true ∨ (S w → S w')) ∧ wpAnyN P md ops Q S ls fuel (listed.setIfInBounds i true) a' w') a w
theorem wpAny_of_N : ∀ (fuel : Nat) (listed : Array Bool) (a : Act) (w : World), wpAnyN P md ops Q S ls fuel listed a w → wpAny P md ops Q fuel listed a w
  | 0, _, _, _, h => h
  | fuel + 1, _, _, _, h => ⟨h.1, fun i hi => wpOp_mono (fun a' w' h' => wpAny_of_N fuel _ a' w' h'.2) (h.2 i hi)⟩
theorem wpAnyN_done {listed : Array Bool} {a : Act} {w : World} (hr : Region.ready md ops listed = []) (h : Q .normal a w) :
    ∀ fuel, wpAnyN P md ops Q S ls fuel listed a w
  | 0 => ⟨hr, h⟩
  | _ + 1 => ⟨fun _ => h, by rw [hr]; simp⟩
/- What is taken first, in whatever order the others come: T holds all the while. -/
theorem wpAnyN_first {T : World → Prop} {i : Nat} {oi : Oper} {v : Value} (hi : ops[i]? = some oi) (hsel : ∀ (j : Nat) (o : Oper) cs b, ops[j]? = some o → o.op ≠ .select cs b)
    (hQ : ∀ c a w, Q (.panic c) (a.put oi.dst v) w → Q (.panic c) a w)
    (hT : ∀ (listed : Array Bool) (j : Nat) (w w' : World), Cl md ops listed → listed.getD i true = false → j ∈ Region.ready md ops listed → T w → (ls.contains j = true ∨ (S w → S w')) → T w') :
    ∀ (fuel : Nat) (listed : Array Bool) (a : Act) (w : World), Cl md ops listed →
      (∀ j oj, ops[j]? = some oj → j ≠ i → listed.getD j true = false → (∀ e ∈ oj.after, Region.binds md e = true → e.on ≠ i) → oi.apart ops oj = true) →
      i ∈ Region.ready md ops listed → YieldsIf P ops T oi v a → T w →
      wpAnyN P md ops Q S ls fuel (listed.setIfInBounds i true) (a.put oi.dst v) w → wpAnyN P md ops Q S ls (fuel + 1) listed a w := by
  intro fuel
  induction fuel with
  | zero =>
    intro listed a w hcl _ hr hy hS H
    refine ⟨fun h => (by rw [h] at hr; cases hr), fun j hj => ?_⟩
    by_cases hji : j = i
    · subst hji; exact hy.wpOp hi hS ⟨.inr id, H⟩
    · have := ready_mono hj hji
      rw [H.1] at this
      cases this
  | succ fuel ih =>
    intro listed a w hcl hfree hr hy hS H
    refine ⟨fun h => (by rw [h] at hr; cases hr), fun j hj => ?_⟩
    by_cases hji : j = i
    · subst hji; exact hy.wpOp hi hS ⟨.inr id, H⟩
    · have h1 := H.2 j (ready_mono hj hji)
      obtain ⟨hjun, oj, hoj, hall⟩ := mem_ready.1 hj
      have hnot : ∀ e ∈ oj.after, Region.binds md e = true → e.on ≠ i := fun e he hb heq => by
        have h1 := getD_up (hall e he hb)
        rw [heq, (mem_ready.1 hr).1] at h1
        cases h1
      have h2 := wpOp_putIf hoj (hfree j oj hoj hji hjun hnot) (fun cs b => hsel i oi cs b hi) (fun cs b => hsel j oj cs b hoj) hQ hy h1
      have hfree' : ∀ k ok, ops[k]? = some ok → k ≠ i → (listed.setIfInBounds j true).getD k true = false →
          (∀ e ∈ ok.after, Region.binds md e = true → e.on ≠ i) → oi.apart ops ok = true := fun k ok hk hki hun hno => by
        refine hfree k ok hk hki ?_ hno
        by_cases hjk : j = k
        · subst hjk; exact hjun
        · rw [getD_set_ne true hjk] at hun; exact hun
      refine wpOp_mono (fun a' w' h3 => ?_) h2
      have hS' : T w' := hT listed j w w' hcl (mem_ready.1 hr).1 hj hS h3.2.1
      refine ⟨h3.2.1, ih (listed.setIfInBounds j true) a' w' (hcl.set hj) hfree' (ready_mono hr (Ne.symm hji)) h3.1 hS' ?_⟩
      rw [Array.setIfInBounds_comm _ _ hji]
      exact h3.2.2
def noRd : Pn → Bool
  | .nil => true
  | .st k _ l => k != 1 && noRd l
  | .fork _ l _ m => noRd l && noRd m
def planN (md : Region.Mode) (ops : Array Oper) (ls : List Nat) : Pn → Array Bool → Bool
  | .nil, listed => (Region.ready md ops listed).isEmpty
  | .st k i l, listed => (if k == 0 then Region.free md ops listed i && (Region.ready md ops listed).contains i
    else if k == 1 then Region.free md ops listed i && (Region.ready md ops listed).contains i && depAll md ops ls i
    else Region.ready md ops listed == [i] && (!ls.contains i || noRd l)) && planN md ops ls l (listed.setIfInBounds i true)
  | .fork i l j m, listed => Region.ready md ops listed == [i, j] && !ls.contains i && !ls.contains j && l.len == m.len && planN md ops ls l (listed.setIfInBounds i true) && planN md ops ls m (listed.setIfInBounds j true)
def actN (P : Program) (ops : Array Oper) (Q : Exit → Act → World → Prop) (S : World → Prop) (ls : List Nat) (i : Nat) (K : Act → World → Prop) (a : Act) (w : World) : Prop := match ops[i]? with
  | none => False
  | some o => ∀ K' : Act → World → Prop, (∀ a' w', (ls.contains i = true ∨ (S w → S w')) → K a' w' → K' a' w') → if Region.wanted o (yielded ops a.tmps) = true then Oper.wp P o a w K' Q else K' (a.put o.dst undef) w
def inN (P : Program) (ops : Array Oper) (Q : Exit → Act → World → Prop) (S : World → Prop) (ls : List Nat) : Pn → Act → World → Prop
  | .nil, a, w => Q .normal a w
  | .st k i l, a, w => if k == 0 then (match ops[i]? with
        | none => False
        | some o => ∃ v, YieldsIf P ops (fun _ => True) o v a ∧ inN P ops Q S ls l (a.put o.dst v) w)
      else if k == 1 then (match ops[i]? with
        | none => False
        | some o => ∃ v, YieldsIf P ops S o v a ∧ inN P ops Q S ls l (a.put o.dst v) w)
      else actN P ops Q S ls i (inN P ops Q S ls l) a w
  | .fork i l j m, a, w => actN P ops Q S ls i (inN P ops Q S ls l) a w ∧ actN P ops Q S ls j (inN P ops Q S ls m) a w
theorem actN_op {i : Nat} {K : Act → World → Prop} {listed : Array Bool} {n : Nat} {a : Act} {w : World} (h : actN P ops Q S ls i K a w) (hK : ∀ a' w', (ls.contains i = true ∨ (S w → S w')) → K a' w' → wpAnyN P md ops Q S ls n listed a' w') : wpOp P ops Q i (fun a' w' => (ls.contains i = true ∨ (S w → S w')) ∧ wpAnyN P md ops Q S ls n listed a' w') a w := by
  unfold actN at h
  cases ho : ops[i]? with
  | none => rw [ho] at h; exact h.elim
  | some o =>
    rw [ho] at h
    exact wpOp_step ho (fun K' hK' => h K' (fun a w hS hk => hK' a w ⟨hS, hK a w hS hk⟩))
theorem inN_any (hs : Region.noSelect ops = true) (hQ : ∀ c a d v w, Q (.panic c) (Act.put a d v) w → Q (.panic c) a w) : ∀ (l : Pn) (listed : Array Bool) (a : Act) (w : World), planN md ops ls l listed = true → Cl md ops listed →
    (S w ∨ noRd l = true) → inN P ops Q S ls l a w → wpAnyN P md ops Q S ls l.len listed a w
  | .nil, listed, a, w, hp, _, _, h => by
    simp only [inN] at h
    simp only [planN, List.isEmpty_iff] at hp
    exact wpAnyN_done hp h 0
  | .st k i l, listed, a, w, hp, hcl, hS, h => by
    simp only [inN] at h
    simp only [planN, Bool.and_eq_true] at hp
    obtain ⟨hp1, hp2⟩ := hp
    by_cases h0 : (k == 0) = true
    · rw [if_pos h0] at h hp1
      simp only [Bool.and_eq_true] at hp1
      obtain ⟨q1, q2⟩ := hp1
      cases ho : ops[i]? with
      | none => rw [ho] at h; exact h.elim
      | some o =>
        rw [ho] at h
        obtain ⟨v, hy, h⟩ := h
        have hr : i ∈ Region.ready md ops listed := by simpa using q2
        have hk0 : k = 0 := by simpa using h0
        have hnr : noRd (.st k i l) = noRd l := by rw [noRd, hk0]; rfl
        exact wpAnyN_first (T := fun _ => True) ho (Region.noSelect_spec hs) (fun c a w hq => hQ c a _ _ w hq) (fun _ _ _ _ _ _ _ _ _ => trivial) l.len listed a w hcl (Region.free_spec ho q1) hr hy trivial (inN_any hs hQ l _ _ w hp2 (hcl.set hr) (hS.imp id (fun e => by rw [← hnr]; exact e)) h)
    rw [if_neg h0] at h hp1
    by_cases h1 : (k == 1) = true
    · rw [if_pos h1] at h hp1
      simp only [Bool.and_eq_true] at hp1
      obtain ⟨⟨q1, q2⟩, q3⟩ := hp1
      cases ho : ops[i]? with
      | none => rw [ho] at h; exact h.elim
      | some o =>
        rw [ho] at h
        obtain ⟨v, hy, h⟩ := h
        have hr : i ∈ Region.ready md ops listed := by simpa using q2
        have hk1 : k = 1 := by simpa using h1
        have hSw : S w := hS.resolve_right (by rw [noRd, hk1]; simp)
        exact wpAnyN_first (T := S) ho (Region.noSelect_spec hs) (fun c a w hq => hQ c a _ _ w hq) (fun ld j w1 w' hc hu hj ht hor => hor.resolve_left (fun e => dep_wait hc hu (List.all_eq_true.1 q3 j (by simpa using e)) hj) ht) l.len listed a w hcl (Region.free_spec ho q1) hr hy hSw (inN_any hs hQ l _ _ w hp2 (hcl.set hr) (.inl hSw) h)
    rw [if_neg h1] at h hp1
    simp only [Bool.and_eq_true, beq_iff_eq, Bool.or_eq_true, Bool.not_eq_true'] at hp1
    obtain ⟨hp1, hp3⟩ := hp1
    refine ⟨fun h0 => (by rw [hp1] at h0; cases h0), fun j hj => ?_⟩
    have hj' := hj
    rw [hp1] at hj
    simp at hj
    subst hj
    refine actN_op h (fun a' w' hS' hW => inN_any hs hQ l _ a' w' hp2 (hcl.set hj') ?_ hW)
    rcases hS' with e | e
    · exact .inr (hp3.resolve_left (fun h => by rw [h] at e; cases e))
    · rcases hS with hS | hS
      · exact .inl (e hS)
      · refine .inr ?_
        rw [noRd] at hS
        simp only [Bool.and_eq_true] at hS
        exact hS.2
  | .fork i l j m, listed, a, w, hp, hcl, hS, h => by
    simp only [inN] at h
    simp only [planN, Bool.and_eq_true, beq_iff_eq, Bool.not_eq_true'] at hp
    obtain ⟨⟨⟨⟨⟨hp1, hi⟩, hj⟩, hl⟩, hk2⟩, hl2⟩ := hp
    refine ⟨fun h0 => (by rw [hp1] at h0; cases h0), fun k hk => ?_⟩
    have hk' := hk
    rw [hp1] at hk
    simp at hk
    rcases hk with rfl | rfl
    · refine actN_op h.1 (fun a' w' hS' hW => inN_any hs hQ l _ a' w' hk2 (hcl.set hk') ?_ hW)
      rcases hS with hS | hS
      · exact .inl ((hS'.resolve_left (by rw [hi]; simp)) hS)
      · refine .inr ?_
        rw [noRd] at hS
        simp only [Bool.and_eq_true] at hS
        exact hS.1
    · have := fun a' w' (hS' : ls.contains k = true ∨ (S w → S w')) hW => inN_any hs hQ m (listed.setIfInBounds k true) a' w' hl2 (hcl.set hk') (by
        rcases hS with hS | hS
        · exact .inl ((hS'.resolve_left (by rw [hj]; simp)) hS)
        · refine .inr ?_
          rw [noRd] at hS
          simp only [Bool.and_eq_true] at hS
          exact hS.2) hW
      rw [← hl] at this
      exact actN_op h.2 this
theorem wp_region_inN {id : Nat} {a : Act} {w : World} (S : World → Prop) (ls : List Nat) (pl : Pn) (hm : P.follows .mixedOrders = true) (hs : Region.noSelect ops = true) (hl : pl.len = ops.size) (hp : planN .any ops ls pl (Array.replicate ops.size false) = true)
    (hQ : ∀ c a d v w, Q (.panic c) (Act.put a d v) w → Q (.panic c) a w) (hS : S w.drew)
    (h : inN P ops Q S ls pl a w.drew) : (Code.region id ops true).wp P Q a w := by
  have := inN_any (md := .any) hs hQ pl _ a w.drew hp (Cl.start _ _) (.inl hS) h
  rw [hl] at this
  exact wp_region_any hm (wpAny_of_N (S := S) (ls := ls) _ _ _ _ this)
variable {i j : Nat} {l m : Pn} {a : Act} {w : World} {o : Oper} {v : Value}
theorem inN_pure (ho : ops[i]? = some o) (hy : YieldsIf P ops (fun _ => True) o v a) (h : inN P ops Q S ls l (a.put o.dst v) w) : inN P ops Q S ls (.st 0 i l) a w := by
  simp only [inN, ho]
  exact ⟨v, hy, h⟩
theorem inN_read (ho : ops[i]? = some o) (hy : YieldsIf P ops S o v a) (h : inN P ops Q S ls l (a.put o.dst v) w) : inN P ops Q S ls (.st 1 i l) a w := by
  simp only [inN, ho]
  exact ⟨v, hy, h⟩
theorem inN_act (ho : ops[i]? = some o) (hw : Region.wanted o (yielded ops a.tmps) = true) (h : ∀ K' : Act → World → Prop, (∀ a' w', (ls.contains i = true ∨ (S w → S w')) → inN P ops Q S ls l a' w' → K' a' w') → Oper.wp P o a w K' Q) : inN P ops Q S ls (.st 2 i l) a w := by
  simp only [inN, actN, ho, hw, if_true]
  exact h
theorem inN_skip (ho : ops[i]? = some o) (hw : Region.wanted o (yielded ops a.tmps) = false) (_ : (2 : Nat) = 2) (h : inN P ops Q S ls l (a.put o.dst undef) w) : inN P ops Q S ls (.st 2 i l) a w := by
  simp only [inN, actN, ho, hw, Bool.false_eq_true, if_false]
  exact fun K' hK => hK _ _ (.inr id) h
theorem inN_fork {o' : Oper} (ho : ops[i]? = some o) (hw : Region.wanted o (yielded ops a.tmps) = true) (ho' : ops[j]? = some o') (hw' : Region.wanted o' (yielded ops a.tmps) = true)
    (h : ∀ K' : Act → World → Prop, (∀ a' w', (ls.contains i = true ∨ (S w → S w')) → inN P ops Q S ls l a' w' → K' a' w') → Oper.wp P o a w K' Q) (h' : ∀ K' : Act → World → Prop, (∀ a' w', (ls.contains j = true ∨ (S w → S w')) → inN P ops Q S ls m a' w' → K' a' w') → Oper.wp P o' a w K' Q) : inN P ops Q S ls (.fork i l j m) a w := by
  simp only [inN, actN, ho, hw, ho', hw', if_true]
  exact ⟨h, h'⟩
theorem inN_end (h : Q .normal a w) : inN P ops Q S ls .nil a w := h
end
end Go.Proofs.Ytmoekalagollhaa.Tr
