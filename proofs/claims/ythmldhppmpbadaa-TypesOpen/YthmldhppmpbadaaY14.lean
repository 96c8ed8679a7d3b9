/-
  A region that draws its order, by a plan: what looks at no memory is taken whenever it is ready, what reads memory while the facts that it needs still hold, what acts where nothing else is ready.
  A call's own memory with facts beside it: operations one by one (for regions that draw their order), append, a map's fact that turns.
  A call's own memory with facts beside it: rows that turn, rows and variables in another order, a row more, a row less; a map from which something is taken; one cell cleared.
  A region that draws its order, by a plan, where one operation is the last writer: that it waits for a reading one is shown by a way from one to the other.
-/
import Derived.Test.YthmldhppmpbadaaY1
import Derived.Lib.SliceRun
import Derived.Laws.MakeOwn
namespace Go.Proofs.Ythmldhppmpbadaa.Tr
open Go.RowKit Go.Proofs.Ythmldhppmpbadaa.Tx
set_option linter.unusedVariables false
set_option linter.unusedSimpArgs false
section
variable {P : Program} {ops : Array Oper} {Q : Exit → Act → World → Prop} {md : Region.Mode} {S : World → Prop} {ls : List Nat}
/- st 0: it looks at no memory; st 1: it reads; st 2: it acts; fork: two may come up. -/
inductive Pn where
  | nil
  | st (k i : Nat) (l : Pn)
  | fork (i : Nat) (l : Pn) (j : Nat) (m : Pn)
def Pn.len : Pn → Nat
  | .nil => 0
  | .st _ _ l => l.len + 1
  | .fork _ l _ _ => l.len + 1
def Pn.of : List (Nat × Nat) → Pn → Pn
  | [], q => q
  | p :: l, q => .st p.1 p.2 (Pn.of l q)
/- One operation waits for another one, by whatever others between. -/
def dep (md : Region.Mode) (ops : Array Oper) : Nat → Nat → Nat → Bool
  | 0, _, _ => false
  | f + 1, l, i => match ops[l]? with
    | none => false
    | some o => o.after.any fun e => Region.binds md e && (e.on == i || dep md ops f e.on i)
structure Cl (md : Region.Mode) (ops : Array Oper) (listed : Array Bool) : Prop where
  sz : listed.size = ops.size
  cl : ∀ j o, ops[j]? = some o → listed.getD j true = true → ∀ e ∈ o.after, Region.binds md e = true → listed.getD e.on true = true
theorem Cl.start (md : Region.Mode) (ops : Array Oper) : Cl md ops (Array.replicate ops.size false) :=
  ⟨by simp, fun j o hj ht => by
    have hlt := (Array.getElem?_eq_some_iff.1 hj).1
    simp [hlt] at ht⟩
theorem getD_up {listed : Array Bool} {k : Nat} (h : listed.getD k false = true) : listed.getD k true = true := by
  rcases Nat.lt_or_ge k listed.size with h' | h'
  · simp [h'] at h ⊢; exact h
  · simp [Array.getElem?_eq_none h'] at h
theorem Cl.set {listed : Array Bool} {i : Nat} (h : Cl md ops listed) (hi : i ∈ Region.ready md ops listed) : Cl md ops (listed.setIfInBounds i true) := by
  obtain ⟨hun, oi, hoi, hall⟩ := mem_ready.1 hi
  refine ⟨by simpa using h.sz, fun j o hj ht e he hb => ?_⟩
  have keep : ∀ k, listed.getD k true = true → (listed.setIfInBounds i true).getD k true = true := fun k hk => by
    by_cases e1 : i = k
    · subst e1
      rw [hk] at hun
      cases hun
    · rw [getD_set_ne true e1]
      exact hk
  by_cases e1 : i = j
  · subst e1
    rw [hoi] at hj
    cases hj
    exact keep _ (getD_up (hall e he hb))
  · rw [getD_set_ne true e1] at ht
    exact keep _ (h.cl j o hj ht e he hb)
theorem dep_out {listed : Array Bool} {i : Nat} (h : Cl md ops listed) (hi : listed.getD i true = false) : ∀ (f l : Nat), dep md ops f l i = true → listed.getD l true = true → False
  | 0, l, hd, _ => by cases hd
  | f + 1, l, hd, ht => by
    rw [dep] at hd
    cases ho : ops[l]? with
    | none => rw [ho] at hd; cases hd
    | some o =>
      rw [ho] at hd
      obtain ⟨e, he, hb⟩ := Array.any_eq_true'.1 hd
      simp only [Bool.and_eq_true, Bool.or_eq_true, beq_iff_eq] at hb
      have hl := h.cl l o ho ht e he hb.1
      rcases hb.2 with h2 | h2
      · rw [h2, hi] at hl; cases hl
      · exact dep_out h hi f e.on h2 hl
theorem dep_wait {listed : Array Bool} {i l f : Nat} (h : Cl md ops listed) (hi : listed.getD i true = false) (hd : dep md ops f l i = true) : l ∉ Region.ready md ops listed := fun hl => by
  obtain ⟨hun, o, ho, hall⟩ := mem_ready.1 hl
  cases f with
  | zero => cases hd
  | succ f =>
    rw [dep, ho] at hd
    obtain ⟨e, he, hb⟩ := Array.any_eq_true'.1 hd
    simp only [Bool.and_eq_true, Bool.or_eq_true, beq_iff_eq] at hb
    have hl2 := getD_up (hall e he hb.1)
    rcases hb.2 with h2 | h2
    · rw [h2, hi] at hl2; cases hl2
    · exact dep_out h hi f e.on h2 hl2
def depAll (md : Region.Mode) (ops : Array Oper) (ls : List Nat) (i : Nat) : Bool := ls.all (fun l => dep md ops 16 l i)
/- In whatever order: what is not among ls keeps the facts. -/
def wpAnyN (P : Program) (md : Region.Mode) (ops : Array Oper) (Q : Exit → Act → World → Prop) (S : World → Prop) (ls : List Nat) : Nat → Array Bool → Act → World → Prop
  | 0, listed, a, w => Region.ready md ops listed = [] ∧ Q .normal a w
  | fuel + 1, listed, a, w =>
    (Region.ready md ops listed = [] → Q .normal a w) ∧
    ∀ i ∈ Region.ready md ops listed, wpOp P ops Q i (fun a' w' => (ls.contains i = true ∨ (S w → S w')) ∧ wpAnyN P md ops Q S ls fuel (listed.setIfInBounds i true) a' w') a w
theorem wpAny_of_N : ∀ (fuel : Nat) (listed : Array Bool) (a : Act) (w : World), wpAnyN P md ops Q S ls fuel listed a w → wpAny P md ops Q fuel listed a w
  | 0, _, _, _, h => h
  | fuel + 1, _, _, _, h => ⟨h.1, fun i hi => wpOp_mono (fun a' w' h' => wpAny_of_N fuel _ a' w' h'.2) (h.2 i hi)⟩
theorem wpAnyN_done {listed : Array Bool} {a : Act} {w : World} (hr : Region.ready md ops listed = []) (h : Q .normal a w) :
    ∀ fuel, wpAnyN P md ops Q S ls fuel listed a w
  | 0 => ⟨hr, h⟩
  | _ + 1 => ⟨fun _ => h, by rw [hr]; simp⟩
/- What is taken first, in whatever order the others come: T holds all the while. -/
theorem wpAnyN_first {T : World → Prop} {i : Nat} {oi : Oper} {v : Value} (hi : ops[i]? = some oi) (hsel : ∀ (j : Nat) (o : Oper) cs b, ops[j]? = some o → o.op ≠ .select cs b)
    (hQ : ∀ c a w, Q (.panic c) (a.put oi.dst v) w → Q (.panic c) a w)
    (hT : ∀ (listed : Array Bool) (j : Nat) (w w' : World), Cl md ops listed → listed.getD i true = false → j ∈ Region.ready md ops listed → T w → (ls.contains j = true ∨ (S w → S w')) → T w') :
    ∀ (fuel : Nat) (listed : Array Bool) (a : Act) (w : World), Cl md ops listed →
      (∀ j oj, ops[j]? = some oj → j ≠ i → listed.getD j true = false → (∀ e ∈ oj.after, Region.binds md e = true → e.on ≠ i) → oi.apart ops oj = true) →
      i ∈ Region.ready md ops listed → YieldsIf P ops T oi v a → T w →
      wpAnyN P md ops Q S ls fuel (listed.setIfInBounds i true) (a.put oi.dst v) w → wpAnyN P md ops Q S ls (fuel + 1) listed a w := by
  intro fuel
  induction fuel with
  | zero =>
    intro listed a w hcl _ hr hy hS H
    refine ⟨fun h => (by rw [h] at hr; cases hr), fun j hj => ?_⟩
    by_cases hji : j = i
    · subst hji; exact hy.wpOp hi hS ⟨.inr id, H⟩
    · have := ready_mono hj hji
      rw [H.1] at this
      cases this
  | succ fuel ih =>
    intro listed a w hcl hfree hr hy hS H
    refine ⟨fun h => (by rw [h] at hr; cases hr), fun j hj => ?_⟩
    by_cases hji : j = i
    · subst hji; exact hy.wpOp hi hS ⟨.inr id, H⟩
    · have h1 := H.2 j (ready_mono hj hji)
      obtain ⟨hjun, oj, hoj, hall⟩ := mem_ready.1 hj
      have hnot : ∀ e ∈ oj.after, Region.binds md e = true → e.on ≠ i := fun e he hb heq => by
        have h1 := getD_up (hall e he hb)
        rw [heq, (mem_ready.1 hr).1] at h1
        cases h1
      have h2 := wpOp_putIf hoj (hfree j oj hoj hji hjun hnot) (fun cs b => hsel i oi cs b hi) (fun cs b => hsel j oj cs b hoj) hQ hy h1
      have hfree' : ∀ k ok, ops[k]? = some ok → k ≠ i → (listed.setIfInBounds j true).getD k true = false →
          (∀ e ∈ ok.after, Region.binds md e = true → e.on ≠ i) → oi.apart ops ok = true := fun k ok hk hki hun hno => by
        refine hfree k ok hk hki ?_ hno
        by_cases hjk : j = k
        · subst hjk; exact hjun
        · rw [getD_set_ne true hjk] at hun; exact hun
      refine wpOp_mono (fun a' w' h3 => ?_) h2
      have hS' : T w' := hT listed j w w' hcl (mem_ready.1 hr).1 hj hS h3.2.1
      refine ⟨h3.2.1, ih (listed.setIfInBounds j true) a' w' (hcl.set hj) hfree' (ready_mono hr (Ne.symm hji)) h3.1 hS' ?_⟩
      rw [Array.setIfInBounds_comm _ _ hji]
      exact h3.2.2
def noRd : Pn → Bool
  | .nil => true
  | .st k _ l => k != 1 && noRd l
  | .fork _ l _ m => noRd l && noRd m
def planN (md : Region.Mode) (ops : Array Oper) (ls : List Nat) : Pn → Array Bool → Bool
  | .nil, listed => (Region.ready md ops listed).isEmpty
  | .st k i l, listed => (if k == 0 then Region.free md ops listed i && (Region.ready md ops listed).contains i
    else if k == 1 then Region.free md ops listed i && (Region.ready md ops listed).contains i && depAll md ops ls i
    else Region.ready md ops listed == [i] && (!ls.contains i || noRd l)) && planN md ops ls l (listed.setIfInBounds i true)
  | .fork i l j m, listed => Region.ready md ops listed == [i, j] && !ls.contains i && !ls.contains j && l.len == m.len && planN md ops ls l (listed.setIfInBounds i true) && planN md ops ls m (listed.setIfInBounds j true)
def actN (P : Program) (ops : Array Oper) (Q : Exit → Act → World → Prop) (S : World → Prop) (ls : List Nat) (i : Nat) (K : Act → World → Prop) (a : Act) (w : World) : Prop := match ops[i]? with
  | none => False
  | some o => ∀ K' : Act → World → Prop, (∀ a' w', (ls.contains i = true ∨ (S w → S w')) → K a' w' → K' a' w') → if Region.wanted o (yielded ops a.tmps) = true then Oper.wp P o a w K' Q else K' (a.put o.dst undef) w
def inN (P : Program) (ops : Array Oper) (Q : Exit → Act → World → Prop) (S : World → Prop) (ls : List Nat) : Pn → Act → World → Prop
  | .nil, a, w => Q .normal a w
  | .st k i l, a, w => if k == 0 then (match ops[i]? with
        | none => False
        | some o => ∃ v, YieldsIf P ops (fun _ => True) o v a ∧ inN P ops Q S ls l (a.put o.dst v) w)
      else if k == 1 then (match ops[i]? with
        | none => False
        | some o => ∃ v, YieldsIf P ops S o v a ∧ inN P ops Q S ls l (a.put o.dst v) w)
      else actN P ops Q S ls i (inN P ops Q S ls l) a w
  | .fork i l j m, a, w => actN P ops Q S ls i (inN P ops Q S ls l) a w ∧ actN P ops Q S ls j (inN P ops Q S ls m) a w
theorem actN_op {i : Nat} {K : Act → World → Prop} {listed : Array Bool} {n : Nat} {a : Act} {w : World} (h : actN P ops Q S ls i K a w) (hK : ∀ a' w', (ls.contains i = true ∨ (S w → S w')) → K a' w' → wpAnyN P md ops Q S ls n listed a' w') : wpOp P ops Q i (fun a' w' => (ls.contains i = true ∨ (S w → S w')) ∧ wpAnyN P md ops Q S ls n listed a' w') a w := by
  unfold actN at h
  cases ho : ops[i]? with
  | none => rw [ho] at h; exact h.elim
  | some o =>
    rw [ho] at h
    exact wpOp_step ho (fun K' hK' => h K' (fun a w hS hk => hK' a w ⟨hS, hK a w hS hk⟩))
theorem inN_any (hs : Region.noSelect ops = true) (hQ : ∀ c a d v w, Q (.panic c) (Act.put a d v) w → Q (.panic c) a w) : ∀ (l : Pn) (listed : Array Bool) (a : Act) (w : World), planN md ops ls l listed = true → Cl md ops listed →
    (S w ∨ noRd l = true) → inN P ops Q S ls l a w → wpAnyN P md ops Q S ls l.len listed a w
  | .nil, listed, a, w, hp, _, _, h => by
    simp only [inN] at h
    simp only [planN, List.isEmpty_iff] at hp
    exact wpAnyN_done hp h 0
  | .st k i l, listed, a, w, hp, hcl, hS, h => by
    simp only [inN] at h
    simp only [planN, Bool.and_eq_true] at hp
    obtain ⟨hp1, hp2⟩ := hp
    by_cases h0 : (k == 0) = true
    · rw [if_pos h0] at h hp1
      simp only [Bool.and_eq_true] at hp1
      obtain ⟨q1, q2⟩ := hp1
      cases ho : ops[i]? with
      | none => rw [ho] at h; exact h.elim
      | some o =>
        rw [ho] at h
        obtain ⟨v, hy, h⟩ := h
        have hr : i ∈ Region.ready md ops listed := by simpa using q2
        have hk0 : k = 0 := by simpa using h0
        have hnr : noRd (.st k i l) = noRd l := by rw [noRd, hk0]; rfl
        exact wpAnyN_first (T := fun _ => True) ho (Region.noSelect_spec hs) (fun c a w hq => hQ c a _ _ w hq) (fun _ _ _ _ _ _ _ _ _ => trivial) l.len listed a w hcl (Region.free_spec ho q1) hr hy trivial (inN_any hs hQ l _ _ w hp2 (hcl.set hr) (hS.imp id (fun e => by rw [← hnr]; exact e)) h)
    rw [if_neg h0] at h hp1
    by_cases h1 : (k == 1) = true
    · rw [if_pos h1] at h hp1
      simp only [Bool.and_eq_true] at hp1
      obtain ⟨⟨q1, q2⟩, q3⟩ := hp1
      cases ho : ops[i]? with
      | none => rw [ho] at h; exact h.elim
      | some o =>
        rw [ho] at h
        obtain ⟨v, hy, h⟩ := h
        have hr : i ∈ Region.ready md ops listed := by simpa using q2
        have hk1 : k = 1 := by simpa using h1
        have hSw : S w := hS.resolve_right (by rw [noRd, hk1]; simp)
        exact wpAnyN_first (T := S) ho (Region.noSelect_spec hs) (fun c a w hq => hQ c a _ _ w hq) (fun ld j w1 w' hc hu hj ht hor => hor.resolve_left (fun e => dep_wait hc hu (List.all_eq_true.1 q3 j (by simpa using e)) hj) ht) l.len listed a w hcl (Region.free_spec ho q1) hr hy hSw (inN_any hs hQ l _ _ w hp2 (hcl.set hr) (.inl hSw) h)
    rw [if_neg h1] at h hp1
    simp only [Bool.and_eq_true, beq_iff_eq, Bool.or_eq_true, Bool.not_eq_true'] at hp1
    obtain ⟨hp1, hp3⟩ := hp1
    refine ⟨fun h0 => (by rw [hp1] at h0; cases h0), fun j hj => ?_⟩
    have hj' := hj
    rw [hp1] at hj
    simp at hj
    subst hj
    refine actN_op h (fun a' w' hS' hW => inN_any hs hQ l _ a' w' hp2 (hcl.set hj') ?_ hW)
    rcases hS' with e | e
    · exact .inr (hp3.resolve_left (fun h => by rw [h] at e; cases e))
    · rcases hS with hS | hS
      · exact .inl (e hS)
      · refine .inr ?_
        rw [noRd] at hS
        simp only [Bool.and_eq_true] at hS
        exact hS.2
  | .fork i l j m, listed, a, w, hp, hcl, hS, h => by
    simp only [inN] at h
    simp only [planN, Bool.and_eq_true, beq_iff_eq, Bool.not_eq_true'] at hp
    obtain ⟨⟨⟨⟨⟨hp1, hi⟩, hj⟩, hl⟩, hk2⟩, hl2⟩ := hp
    refine ⟨fun h0 => (by rw [hp1] at h0; cases h0), fun k hk => ?_⟩
    have hk' := hk
    rw [hp1] at hk
    simp at hk
    rcases hk with rfl | rfl
    · refine actN_op h.1 (fun a' w' hS' hW => inN_any hs hQ l _ a' w' hk2 (hcl.set hk') ?_ hW)
      rcases hS with hS | hS
      · exact .inl ((hS'.resolve_left (by rw [hi]; simp)) hS)
      · refine .inr ?_
        rw [noRd] at hS
        simp only [Bool.and_eq_true] at hS
        exact hS.1
    · have := fun a' w' (hS' : ls.contains k = true ∨ (S w → S w')) hW => inN_any hs hQ m (listed.setIfInBounds k true) a' w' hl2 (hcl.set hk') (by
        rcases hS with hS | hS
        · exact .inl ((hS'.resolve_left (by rw [hj]; simp)) hS)
        · refine .inr ?_
          rw [noRd] at hS
          simp only [Bool.and_eq_true] at hS
          exact hS.2) hW
      rw [← hl] at this
      exact actN_op h.2 this
theorem wp_region_inN {id : Nat} {a : Act} {w : World} (S : World → Prop) (ls : List Nat) (pl : Pn) (hm : P.follows .mixedOrders = true) (hs : Region.noSelect ops = true) (hl : pl.len = ops.size) (hp : planN .any ops ls pl (Array.replicate ops.size false) = true)
    (hQ : ∀ c a d v w, Q (.panic c) (Act.put a d v) w → Q (.panic c) a w) (hS : S w.drew)
    (h : inN P ops Q S ls pl a w.drew) : (Code.region id ops true).wp P Q a w := by
  have := inN_any (md := .any) hs hQ pl _ a w.drew hp (Cl.start _ _) (.inl hS) h
  rw [hl] at this
  exact wp_region_any hm (wpAny_of_N (S := S) (ls := ls) _ _ _ _ this)
variable {i j : Nat} {l m : Pn} {a : Act} {w : World} {o : Oper} {v : Value}
theorem inN_pure (ho : ops[i]? = some o) (hy : YieldsIf P ops (fun _ => True) o v a) (h : inN P ops Q S ls l (a.put o.dst v) w) : inN P ops Q S ls (.st 0 i l) a w := by
  simp only [inN, ho]
  exact ⟨v, hy, h⟩
theorem inN_read (ho : ops[i]? = some o) (hy : YieldsIf P ops S o v a) (h : inN P ops Q S ls l (a.put o.dst v) w) : inN P ops Q S ls (.st 1 i l) a w := by
  simp only [inN, ho]
  exact ⟨v, hy, h⟩
theorem inN_act (ho : ops[i]? = some o) (hw : Region.wanted o (yielded ops a.tmps) = true) (h : ∀ K' : Act → World → Prop, (∀ a' w', (ls.contains i = true ∨ (S w → S w')) → inN P ops Q S ls l a' w' → K' a' w') → Oper.wp P o a w K' Q) : inN P ops Q S ls (.st 2 i l) a w := by
  simp only [inN, actN, ho, hw, if_true]
  exact h
theorem inN_skip (ho : ops[i]? = some o) (hw : Region.wanted o (yielded ops a.tmps) = false) (_ : (2 : Nat) = 2) (h : inN P ops Q S ls l (a.put o.dst undef) w) : inN P ops Q S ls (.st 2 i l) a w := by
  simp only [inN, actN, ho, hw, Bool.false_eq_true, if_false]
  exact fun K' hK => hK _ _ (.inr id) h
theorem inN_fork {o' : Oper} (ho : ops[i]? = some o) (hw : Region.wanted o (yielded ops a.tmps) = true) (ho' : ops[j]? = some o') (hw' : Region.wanted o' (yielded ops a.tmps) = true)
    (h : ∀ K' : Act → World → Prop, (∀ a' w', (ls.contains i = true ∨ (S w → S w')) → inN P ops Q S ls l a' w' → K' a' w') → Oper.wp P o a w K' Q) (h' : ∀ K' : Act → World → Prop, (∀ a' w', (ls.contains j = true ∨ (S w → S w')) → inN P ops Q S ls m a' w' → K' a' w') → Oper.wp P o' a w K' Q) : inN P ops Q S ls (.fork i l j m) a w := by
  simp only [inN, actN, ho, hw, ho', hw', if_true]
  exact ⟨h, h'⟩
theorem inN_end (h : Q .normal a w) : inN P ops Q S ls .nil a w := h
end
end Go.Proofs.Ythmldhppmpbadaa.Tr
namespace Go.Proofs.Ythmldhppmpbadaa.Tr
open Go.RowKit Go.Proofs.Ythmldhppmpbadaa.Tx
set_option linter.unusedVariables false
set_option linter.unusedSimpArgs false

section
variable {P : Program} {o : Oper} {a : Act} {w w0 : World} {Q : Exit → Act → World → Prop} {K : Act → World → Prop}
  {A : Nat → Prop} {X : Option Nat} {L L' : List Lc} {Rs Rs' : List Rw} {Fs : List Fk}
theorem Cf.new_loc {cs : List Value} {t : TypeId} (H : Cf w0 A X L Rs Fs w) : Cf w0 A X (⟨w.heap.size, cs, t⟩ :: L) Rs Fs (w.alloc (.cells cs.toArray t)) :=
  H.step (H.cx.loc_new cs t) (World.grownBy_alloc w _ none) (by simp) (fun q hq p hp => by
    rcases List.mem_cons.1 hp with rfl | hp
    · have := H.lt q hq; simp only; omega
    · exact H.ne q hq p hp) H.nr
theorem cfo_alloc (T : TypeId) (ho : o.op = .alloc T) {zs : List Value} (hz : (P.info? T).bind (fun i => i.zero.map (·.cells)) = some zs.toArray) (H : Cf w0 A X L Rs Fs w)
    (h : ∀ b w', w.heap.size ≤ b → w.grownBy w' none → Cf w0 A X (⟨b, zs, T⟩ :: L) Rs Fs w' → K (a.put o.dst (.pointer (some ⟨b, 0, none⟩))) w') : o.wp P a w K Q := by
  cases hi : P.info? T with
  | none => simp [hi] at hz
  | some i =>
    cases hzz : i.zero with
    | none => simp [hi, hzz] at hz
    | some z =>
      simp [hi, hzz] at hz
      refine op_val (w' := w.alloc (.cells zs.toArray T)) ?_ (h w.heap.size _ (Nat.le_refl _) (World.grownBy_alloc w _ none) H.new_loc)
      unfold execOp
      simp [ho, Instr.alloc, zeroValue, typeInfo, hi, hzz, newVar, newRow, hz]
theorem cfo_store (T : TypeId) (x y : Operand) (ho : o.op = .store T x y) {b off : Nat} (hx : a.eval x = .pointer (some ⟨b, off, none⟩)) {us : List Value} (hv : (a.eval y).cells = us.toArray) (hs : (P.info? T).map (·.size) = some us.length) (h1 : us.all (·.oneCell') = true) (H : Cf w0 A X L Rs Fs w) {cs cs' : List Value} {t : TypeId} (hm : ⟨b, cs, t⟩ ∈ L) (hp : PutS off us cs cs') (hu : Upd b cs' L L')
    (h : ∀ w', w.grownBy w' (some b) → Cf w0 A X L' Rs Fs w' → K (a.put o.dst undef) w') : o.wp P a w K Q := by
  refine op_skip (w' := w.setRow b cs'.toArray) ?_ (h _ ⟨rfl, rfl, rfl, by simp, fun k _ hk => setRow_other w b k _ (fun e => hk (by rw [e]))⟩ (H.set hm hu))
  unfold execOp
  simp [ho, hx, Instr.storeAt, Instr.sureAddr, run_store_at H.cx hm hv hs hp h1]
theorem cfo_bl (T : TypeId) (n : Nat) (parts : Array (Nat × Operand)) (ho : o.op = .buildSlice T n parts) (e : TypeId) (vs : List Value) (H : Cf w0 A X L Rs Fs w) (hf : bsCells P T n (parts.map fun (i, x) => (i, a.eval x)).toList = some (e, vs.toArray))
    (h : ∀ b w', NX X b → w.grownBy w' none → Cf w0 A X (⟨b, vs, e⟩ :: L) Rs Fs w' → K (a.put o.dst (.slice (some ⟨b, 0, none⟩) n n)) w') : o.wp P a w K Q := by
  refine op_val (w' := w.alloc (.cells vs.toArray e)) ?_ (h w.heap.size _ H.cx.nx (World.grownBy_alloc w _ none) H.new_loc)
  unfold execOp
  simp [ho, run_bs hf]
/- A row grows by what lies in a block of one's own. -/
theorem cfo_ap (s x : Operand) {T : TypeId} (ho : o.op = .call { callee := .builtin .append, args := #[s, x], argTypes := #[T, T] }) {e : TypeId} {k by_ : Nat} (hT : P.underlying T = some (.slice e)) (hi : (P.info? e).map (fun i => (i.zero.map (·.cells.size), i.size, i.bytes)) = some (some k, k, by_)) (hk : 0 < k) (hb : by_ ≤ 100000)
    {v : Value} {n b : Nat} {xs us : List Value} {t : TypeId} (hs : a.eval s = v) (hx : a.eval x = .slice (some ⟨b, 0, none⟩) 1 1) (H : Cf w0 A X (⟨b, us, t⟩ :: L) (⟨v, e, k, n, xs⟩ :: Rs) Fs w) (hl : us.length = 1 * k) (h1 : us.all (·.oneCell') = true) (hn : n ≤ 900000)
    (h : ∀ d cp w', w.grownBy w' v.ownBlock → Cf w0 A X L (⟨.slice d (n + 1) cp, e, k, n + 1, xs ++ us⟩ :: Rs) Fs w' → K (a.put o.dst (.slice d (n + 1) cp)) w') : o.wp P a w K Q := by
  cases hie : P.info? e with
  | none => simp [hie] at hi
  | some ie =>
    simp [hie] at hi
    obtain ⟨⟨z, hz, hzk⟩, hsz, hby⟩ := hi
    have hr0 := H.cx.row _ (.head _)
    obtain ⟨v', w', hr, h2, h3, h4, h5⟩ := run_append_own_at (P := P) w w0.heap.size T o.type e ie z k by_ hT hie hz hsz hby hzk hk v n xs hr0 ⟨b, 0, none⟩ 1 1 us hl (cells_at H.cx (.head _) (GetS.all us)) (fun u hu => List.all_eq_true.1 h1 u hu) (by unfold maxLen; omega) (Nat.le_trans (Nat.mul_le_mul (show n + 1 ≤ 1000000 by omega) hb) (by decide)) H.cx.grown.size
    have hsh : ∃ d cp, v' = .slice d (n + 1) cp := by
      rcases h2.2 with ⟨rfl, h0⟩ | ⟨g, cap, cur, rfl, _⟩
      · exact ⟨none, 0, by rw [h0]⟩
      · exact ⟨_, cap, rfl⟩
    obtain ⟨d, cp, rfl⟩ := hsh
    have hc := (H.cx.row_app h2 h3 h5).drop
    refine op_val (w' := w') ?_ (h d cp w' h3 (H.drop.step hc h3 (fun q hq e => H.nr q hq _ (.head _) e.symm) (fun q hq p hp => H.ne q hq p (.tail _ hp)) (fun q hq r hr => ?_)))
    · unfold execOp
      simp only [ho, resolve, invoke, builtin, Sem.run_bind, Sem.run_pure, Result.andThen_ok, List.map_toArray, List.map_cons, List.map_nil, hs, hx, hr]
    · rcases List.mem_cons.1 hr with rfl | hr
      · show (Value.slice d (n + 1) cp).ownBlock ≠ some q.b
        rcases h5 with e5 | e5
        · rw [e5]
          exact H.nr q hq _ (.head _)
        · rw [e5]
          intro e6
          have := H.lt q hq
          injection e6 with e6
          omega
      · exact H.nr q hq r (.tail _ hr)
/- A map is written: its fact turns. -/
theorem cfo_put {m : Nat} {p p' : World → Prop} {T : TypeId} {x y z : Operand} {k v : Value} (ho : o.op = .mapUpdate T x y z) (hx : a.eval x = .map (some m)) (hy : a.eval y = k) (hz : a.eval z = v) (H : Cf w0 A X L Rs (⟨m, p⟩ :: Fs) w)
    (hr : ∃ w', (Instr.mapUpdate T (.map (some m)) k v).run P w = .ok () w' ∧ p' w' ∧ w.grownBy w' (some m)) (hs : Stab m p') (h : ∀ w', w.grownBy w' (some m) → Cf w0 A X L Rs (⟨m, p'⟩ :: Fs) w' → K (a.put o.dst undef) w') : o.wp P a w K Q := by
  obtain ⟨w', hr, hp, hg⟩ := hr
  refine op_skip (w' := w') ?_ (h w' hg (H.turn (Fs' := Fs) hg hp hs))
  unfold execOp
  simp [ho, hx, hy, hz, hr]
end
end Go.Proofs.Ythmldhppmpbadaa.Tr
namespace Go.Proofs.Ythmldhppmpbadaa.Tr
open Go.RowKit Go.Proofs.Ythmldhppmpbadaa.Tx
set_option linter.unusedVariables false
set_option linter.unusedSimpArgs false

section
variable {P : Program} {o : Oper} {a : Act} {w w0 : World} {Q : Exit → Act → World → Prop} {K : Act → World → Prop}
  {A : Nat → Prop} {X : Option Nat} {L L' : List Lc} {Rs Rs' : List Rw} {Fs Fs' : List Fk}
theorem Cf.rowstep {r r' : Rw} {w' : World} (H : Cf w0 A X L (r :: Rs) Fs w) (hc : Cx w0 A X L (r' :: Rs) [] w') (hg : w.grownBy w' r.v.ownBlock) (hl : r'.v.ownBlock = r.v.ownBlock ∨ r'.v.ownBlock = some w.heap.size) : Cf w0 A X L (r' :: Rs) Fs w' := by
  refine H.step hc hg (fun q hq e => H.nr q hq _ (.head _) e.symm) H.ne (fun q hq r hr => ?_)
  rcases List.mem_cons.1 hr with rfl | hr
  · rcases hl with e5 | e5
    · rw [e5]
      exact H.nr q hq _ (.head _)
    · rw [e5]
      intro e6
      have := H.lt q hq
      injection e6 with e6
      omega
  · exact H.nr q hq r (.tail _ hr)
theorem Cf.permR (H : Cf w0 A X L Rs Fs w) (hp : Rs.Perm Rs') : Cf w0 A X L Rs' Fs w := by
  have mm : ∀ t, t ∈ Rs' → t ∈ Rs := fun t ht => hp.mem_iff.2 ht
  refine ⟨⟨H.cx.grown, H.cx.loc, H.cx.old, H.cx.dis, fun r hr => H.cx.row r (mm r hr), fun r hr => H.cx.rl r (mm r hr), ?_, by simp, H.cx.xx⟩, H.fs, H.st, H.lt, H.ne, fun q hq r hr => H.nr q hq r (mm r hr), H.old, H.dis⟩
  refine (hp.pairwise_iff (fun {r s} h => ?_)).1 H.cx.rr
  rcases h with h | h
  · cases hs : s.v.ownBlock with
    | none => exact .inl rfl
    | some y => exact .inr (by rw [h]; simp)
  · exact .inr (Ne.symm h)
theorem Cf.permL (H : Cf w0 A X L Rs Fs w) (hp : L.Perm L') : Cf w0 A X L' Rs Fs w := by
  have mm : ∀ t, t ∈ L' → t ∈ L := fun t ht => hp.mem_iff.2 ht
  exact ⟨⟨H.cx.grown, fun p h => H.cx.loc p (mm p h), fun p h => H.cx.old p (mm p h), (hp.pairwise_iff (fun {r s} h => Ne.symm h)).1 H.cx.dis, H.cx.row, fun r hr p h => H.cx.rl r hr p (mm p h), H.cx.rr, by simp, H.cx.xx⟩, H.fs, H.st, H.lt, fun q hq p h => H.ne q hq p (mm p h), H.nr, H.old, H.dis⟩
theorem Cf.permF (H : Cf w0 A X L Rs Fs w) (hp : Fs.Perm Fs') : Cf w0 A X L Rs Fs' w := by
  have mm : ∀ t, t ∈ Fs' → t ∈ Fs := fun t ht => hp.mem_iff.2 ht
  exact ⟨H.cx, fun q h => H.fs q (mm q h), fun q h => H.st q (mm q h), fun q h => H.lt q (mm q h), fun q h => H.ne q (mm q h), fun q h => H.nr q (mm q h), fun q h => H.old q (mm q h), (hp.pairwise_iff (fun {r s} h => Ne.symm h)).1 H.dis⟩
theorem Cf.swapR {r s : Rw} (H : Cf w0 A X L (r :: s :: Rs) Fs w) : Cf w0 A X L (s :: r :: Rs) Fs w := H.permR (List.Perm.swap _ _ _)
theorem Cf.swapL {r s : Lc} (H : Cf w0 A X (r :: s :: L) Rs Fs w) : Cf w0 A X (s :: r :: L) Rs Fs w := H.permL (List.Perm.swap _ _ _)
theorem Cf.up2 {r0 r1 r2 : Rw} (H : Cf w0 A X L (r0 :: r1 :: r2 :: Rs) Fs w) : Cf w0 A X L (r2 :: r0 :: r1 :: Rs) Fs w := H.permR ((List.perm_middle (l₁ := [r0, r1]) (a := r2) (l₂ := Rs)))
theorem Cf.down2 {r0 r1 r2 : Rw} (H : Cf w0 A X L (r2 :: r0 :: r1 :: Rs) Fs w) : Cf w0 A X L (r0 :: r1 :: r2 :: Rs) Fs w := H.permR ((List.perm_middle (l₁ := [r0, r1]) (a := r2) (l₂ := Rs))).symm
theorem Cf.up3 {r0 r1 r2 r3 : Rw} (H : Cf w0 A X L (r0 :: r1 :: r2 :: r3 :: Rs) Fs w) : Cf w0 A X L (r3 :: r0 :: r1 :: r2 :: Rs) Fs w := H.permR ((List.perm_middle (l₁ := [r0, r1, r2]) (a := r3) (l₂ := Rs)))
theorem Cf.down3 {r0 r1 r2 r3 : Rw} (H : Cf w0 A X L (r3 :: r0 :: r1 :: r2 :: Rs) Fs w) : Cf w0 A X L (r0 :: r1 :: r2 :: r3 :: Rs) Fs w := H.permR ((List.perm_middle (l₁ := [r0, r1, r2]) (a := r3) (l₂ := Rs))).symm
theorem Cf.dropR {r : Rw} (H : Cf w0 A X L (r :: Rs) Fs w) : Cf w0 A X L Rs Fs w :=
  ⟨⟨H.cx.grown, H.cx.loc, H.cx.old, H.cx.dis, fun t h => H.cx.row t (.tail _ h), fun t h => H.cx.rl t (.tail _ h), (List.pairwise_cons.1 H.cx.rr).2, by simp, H.cx.xx⟩, H.fs, H.st, H.lt, H.ne, fun q hq t h => H.nr q hq t (.tail _ h), H.old, H.dis⟩
theorem Cf.dropF {q : Fk} (H : Cf w0 A X L Rs (q :: Fs) w) : Cf w0 A X L Rs Fs w :=
  ⟨H.cx, fun q h => H.fs q (.tail _ h), fun q h => H.st q (.tail _ h), fun q h => H.lt q (.tail _ h), fun q h => H.ne q (.tail _ h), fun q h => H.nr q (.tail _ h), fun q h => H.old q (.tail _ h), (List.pairwise_cons.1 H.dis).2⟩
theorem Cf.nilR (H : Cf w0 A X L Rs Fs w) (e : TypeId) (k : Nat) : Cf w0 A X L (⟨.slice none 0 0, e, k, 0, []⟩ :: Rs) Fs w := by
  refine ⟨⟨H.cx.grown, H.cx.loc, H.cx.old, H.cx.dis, fun r hr => ?_, fun r hr => ?_, List.pairwise_cons.2 ⟨fun r hr => .inl rfl, H.cx.rr⟩, by simp, H.cx.xx⟩, H.fs, H.st, H.lt, H.ne, fun q hq r hr => ?_, H.old, H.dis⟩
  · rcases List.mem_cons.1 hr with rfl | hr
    · exact World.ownsRow_nil w _ e k
    · exact H.cx.row r hr
  · rcases List.mem_cons.1 hr with rfl | hr
    · intro p _ e; cases e
    · exact H.cx.rl r hr
  · rcases List.mem_cons.1 hr with rfl | hr
    · intro e; cases e
    · exact H.nr q hq r hr
theorem own_cut {w : World} {B : Nat} {e : TypeId} {k n m c : Nat} {d : Option Addr} {xs : List Value} (h : w.ownsRow B e k (.slice d n c) n xs) (hm : m ≤ n) (h0 : d = none → m = 0) : w.ownsRow B e k (.slice d m c) m (xs.take (m * k)) := by
  obtain ⟨h1, h2⟩ := h
  have hmk : m * k ≤ n * k := Nat.mul_le_mul_right k hm
  refine ⟨by rw [List.length_take, h1]; omega, ?_⟩
  rcases h2 with ⟨e1, e2⟩ | ⟨g, cap, cur, e1, e2, e3, e4, e5, e6, e7⟩
  · injection e1 with e1 e1' e1''
    have := h0 e1
    exact .inl ⟨by rw [e1, this, e1''], this⟩
  · injection e1 with e1 e1' e1''
    subst e1''
    exact .inr ⟨g, c, cur, by rw [e1], e2, e3, by omega, e5, e6, by rw [← e7, List.take_take, Nat.min_eq_left hmk]⟩
theorem Cf.cutR {d : Option Addr} {n m c : Nat} {e : TypeId} {k : Nat} {xs : List Value} (H : Cf w0 A X L (⟨.slice d n c, e, k, n, xs⟩ :: Rs) Fs w) (hm : m ≤ n) (h0 : d = none → m = 0) : Cf w0 A X L (⟨.slice d m c, e, k, m, xs.take (m * k)⟩ :: Rs) Fs w := by
  have hob : (Value.slice d m c).ownBlock = (Value.slice d n c).ownBlock := by cases d <;> rfl
  refine ⟨⟨H.cx.grown, H.cx.loc, H.cx.old, H.cx.dis, fun r hr => ?_, fun r hr => ?_, List.pairwise_cons.2 ⟨fun r hr => ?_, (List.pairwise_cons.1 H.cx.rr).2⟩, by simp, H.cx.xx⟩, H.fs, H.st, H.lt, H.ne, fun q hq r hr => ?_, H.old, H.dis⟩
  · rcases List.mem_cons.1 hr with rfl | hr
    · exact own_cut (H.cx.row _ (.head _)) hm h0
    · exact H.cx.row r (.tail _ hr)
  · rcases List.mem_cons.1 hr with rfl | hr
    · intro p hp
      simp only [hob]
      exact H.cx.rl _ (.head _) p hp
    · exact H.cx.rl r (.tail _ hr)
  · have := (List.pairwise_cons.1 H.cx.rr).1 r hr
    simp only at this ⊢
    rw [hob]
    exact this
  · rcases List.mem_cons.1 hr with rfl | hr
    · simp only [hob]
      exact H.nr q hq _ (.head _)
    · exact H.nr q hq r (.tail _ hr)
/- A cell of a row. -/
theorem own_cell {w : World} {B : Nat} {e : TypeId} {n c : Nat} {ad : Addr} {xs : List Value} (h : w.ownsRow B e 1 (.slice (some ad) n c) n xs) {i : Nat} {v : Value} (hx : xs[i]? = some v) : w.cell? ⟨ad.block, i, none⟩ = some v := by
  obtain ⟨h1, ⟨e1, _⟩ | ⟨g, cap, cur, e1, e2, e3, e4, e5, e6, e7⟩⟩ := h
  · cases e1
  · injection e1 with e1 _ _
    injection e1 with e1
    subst e1
    have hi : i < xs.length := (List.getElem?_eq_some_iff.1 hx).1
    simp only
    rw [cell_of_row _ _ _ _ _ _ e3, ← Array.getElem?_toList]
    rw [← e7, List.getElem?_take] at hx
    split at hx
    · exact hx
    · cases hx
theorem Cf.cell {ad : Addr} {n c : Nat} {e : TypeId} {xs : List Value} (H : Cf w0 A X L Rs Fs w) (hm : ⟨.slice (some ad) n c, e, 1, n, xs⟩ ∈ Rs) {i : Nat} {v : Value} (hx : xs[i]? = some v) : w.cell? ⟨ad.block, i, none⟩ = some v := own_cell (H.cx.row _ hm) hx
theorem own_at {w : World} {B : Nat} {e : TypeId} {k n c m : Nat} {d : Option Addr} {xs : List Value} (h : w.ownsRow B e k (.slice d n c) m xs) (hn : 0 < n) : ∃ g, d = some ⟨g, 0, none⟩ ∧ n ≤ c ∧ c ≤ maxLen := by
  obtain ⟨h1, ⟨e1, h0⟩ | ⟨g, cap, cur, e1, e2, e3, e4, e5, e6, e7⟩⟩ := h
  · injection e1 with _ e2 _
    omega
  · injection e1 with e1 e1' e1''
    exact ⟨g, e1, by omega, by omega⟩
theorem cfo_rowset (T : TypeId) (x y : Operand) (ho : o.op = .store T x y) {g n cap off : Nat} {e : TypeId} {k : Nat} {xs us : List Value} (hx : a.eval x = .pointer (some ⟨g, off, none⟩)) (hv : (a.eval y).cells = us.toArray) (hs : (P.info? T).map (·.size) = some us.length) (h1 : us.all (·.oneCell') = true) (H : Cf w0 A X L (⟨.slice (some ⟨g, 0, none⟩) n cap, e, k, n, xs⟩ :: Rs) Fs w) (hf : off + us.length ≤ xs.length)
    (h : ∀ w', w.grownBy w' (some g) → Cf w0 A X L (⟨.slice (some ⟨g, 0, none⟩) n cap, e, k, n, xs.take off ++ us ++ xs.drop (off + us.length)⟩ :: Rs) Fs w' → K (a.put o.dst undef) w') : o.wp P a w K Q := by
  obtain ⟨w', hr, hg, hc⟩ := run_rowset (P := P) (T := T) H.cx hv hs h1 hf
  refine op_skip (w' := w') ?_ (h _ hg (H.rowstep hc hg (.inl rfl)))
  unfold execOp
  simp [ho, hx, Instr.storeAt, Instr.sureAddr, hr]
theorem cfo_del {m : Nat} {p p' : World → Prop} {T KT : TypeId} {x y : Operand} {k : Value} (ho : o.op = .call { callee := .builtin .delete, args := #[x, y], argTypes := #[T, KT] }) (hx : a.eval x = .map (some m)) (hy : a.eval y = k) (H : Cf w0 A X L Rs (⟨m, p⟩ :: Fs) w)
    (hr : ∃ w', (Builtin.delete_ #[T, KT] o.type #[.map (some m), k]).run P w = .ok (.tuple #[]) w' ∧ p' w' ∧ w.grownBy w' (some m)) (hs : Stab m p') (h : ∀ w', w.grownBy w' (some m) → Cf w0 A X L Rs (⟨m, p'⟩ :: Fs) w' → K (a.put o.dst (.tuple #[])) w') : o.wp P a w K Q := by
  obtain ⟨w', hr, hp, hg⟩ := hr
  refine op_val (w' := w') ?_ (h w' hg (H.turn (Fs' := Fs) hg hp hs))
  unfold execOp
  simp only [ho, resolve, invoke, builtin, Sem.run_bind, Sem.run_pure, Result.andThen_ok, List.map_toArray, List.map_cons, List.map_nil, hx, hy, hr]
/- One cell of the first row is cleared. -/
theorem cfo_clear1 (x : Operand) {T : TypeId} (ho : o.op = .call { callee := .builtin .clear, args := #[x], argTypes := #[T] }) {e : TypeId} {z : Value} (hT : P.underlying T = some (.slice e)) (hz : ∀ w, (zeroValue e).run P w = .ok z w) (hzc : z.cells = #[z]) (h1 : z.oneCell' = true)
    {g n cap off c : Nat} {xs : List Value} (hx : a.eval x = .slice (some ⟨g, off, none⟩) 1 c) (H : Cf w0 A X L (⟨.slice (some ⟨g, 0, none⟩) n cap, e, 1, n, xs⟩ :: Rs) Fs w) (hf : off + 1 ≤ xs.length)
    (h : ∀ w', w.grownBy w' (some g) → Cf w0 A X L (⟨.slice (some ⟨g, 0, none⟩) n cap, e, 1, n, xs.take off ++ [z] ++ xs.drop (off + 1)⟩ :: Rs) Fs w' → K (a.put o.dst (.tuple #[])) w') : o.wp P a w K Q := by
  have H0 := H.cx
  have hr0 := H0.row _ (.head _)
  obtain ⟨hn, ⟨hx', _⟩ | ⟨g', cap', cur, hv', hb, hh, hc1, hc2, hc3, hc4⟩⟩ := id hr0
  · cases hx'
  injection hv' with h1' h2' h3'
  injection h1' with h1'
  injection h1' with h1'
  subst h1'
  subst h3'
  have hlen : n * 1 ≤ cur.size := by rw [hc3]; exact Nat.mul_le_mul_right 1 hc1
  simp only at hn hc4
  have hst := run_storeCells_at P g off e [z] 0 cur w hh (by simp; omega) (fun v hv => by simp at hv; subst hv; exact h1)
  simp only [Nat.add_zero] at hst
  have hg : w.grownBy (w.setRow g (cur.toList.take off ++ [z] ++ cur.toList.drop (off + [z].length)).toArray) (some g) := ⟨rfl, rfl, rfl, by simp, fun k _ hk => setRow_other w g k _ (fun e => hk (by rw [e]))⟩
  have hc : Cx w0 A X L (⟨.slice (some ⟨g, 0, none⟩) n cap, e, 1, n, xs.take off ++ [z] ++ xs.drop (off + 1)⟩ :: Rs) [] (w.setRow g (cur.toList.take off ++ [z] ++ cur.toList.drop (off + [z].length)).toArray) := by
    refine H0.row_turn ⟨?_, .inr ⟨g, cap, _, rfl, hb, setRow_heap w _ _ _ _ _ hh, hc1, hc2, ?_, ?_⟩⟩ hg (.inl rfl)
    · simp; omega
    · simp only at hc3
      simp
      omega
    · rw [← hc4]
      exact take_put _ [z] _ _ (by simp; omega) (by simpa using hlen)
  have hrun : (Builtin.clear_ #[T] o.type #[.slice (some ⟨g, off, none⟩) 1 c]).run P w = .ok (.tuple #[]) (w.setRow g (cur.toList.take off ++ [z] ++ cur.toList.drop (off + [z].length)).toArray) := by
    have hzl : (Builtin.zeroCells z.cells 1).toList = [z] := by rw [hzc]; simp [Builtin.zeroCells]
    simp [Builtin.clear_, run_underlying hT, hz w, hzl, Result.andThen]
    simp at hst
    simp [hst]
  refine op_val (w' := _) ?_ (h _ hg (H.rowstep hc hg (.inl rfl)))
  unfold execOp
  simp only [ho, resolve, invoke, builtin, Sem.run_bind, Sem.run_pure, Result.andThen_ok, List.map_toArray, List.map_cons, List.map_nil, hx, hrun]
/- A slice that is made, one element long, as a row. -/
theorem at_mks1 {ops : Array Oper} {rest : List Oper} (T : TypeId) {x y : Operand} (_ : o.op = .makeSlice T x y) (h : wpList P ops Q (o :: rest) a w) : wpList P ops Q (o :: rest) a w := h
theorem Cf.rownew (H : Cf w0 A X L Rs Fs w) (e : TypeId) (k n : Nat) (vs : List Value) (hn : vs.length = n * k) (hx : n ≤ maxLen) : Cf w0 A X L (⟨.slice (some ⟨w.heap.size, 0, none⟩) n n, e, k, n, vs⟩ :: Rs) Fs (w.alloc (.cells vs.toArray e)) :=
  H.step (H.cx.row_new e k n vs hn hx) (World.grownBy_alloc w _ none) (by simp) H.ne (fun q hq r hr => by
    rcases List.mem_cons.1 hr with rfl | hr
    · intro e6
      have := H.lt q hq
      simp [Value.ownBlock] at e6
      omega
    · exact H.nr q hq r hr)
theorem cf_mks1 {ops : Array Oper} {rest : List Oper} (hgd : o.guard = none) (T : TypeId) (x y : Operand) (ho : o.op = .makeSlice T x y) {e : TypeId} {z : Value} {by_ : Nat} (hT : P.underlying T = some (.slice e)) (hz : (P.info? e).bind (fun i => i.zero.map (·.cells)) = some ([z] : List Value).toArray) (hi : (P.info? e).map (fun i => (i.zero.map (·.cells.size), i.size, i.bytes)) = some (some 1, 1, by_)) (hb : by_ ≤ 100000) (hx : a.eval x = .int .i64 1) (hy : a.eval y = .int .i64 1) (H : Cf w0 A X L Rs Fs w)
    (h : ∀ b w', Cf w0 A X L (⟨.slice (some ⟨b, 0, none⟩) 1 1, e, 1, 1, [z]⟩ :: Rs) Fs w' → wpList P ops Q rest (a.put o.dst (.slice (some ⟨b, 0, none⟩) 1 1)) w') : wpList P ops Q (o :: rest) a w := by
  cases hie : P.info? e with
  | none => simp [hie] at hi
  | some ie =>
    cases hzz : ie.zero with
    | none => simp [hie, hzz] at hz
    | some z' =>
      simp [hie, hzz] at hz
      simp [hie, hzz] at hi
      obtain ⟨_, hsz, hby⟩ := hi
      have hr := run_makeSlice (P := P) (w := w) T e ie z' hT hie hzz .i64 .i64 1 1 (by omega) (Int.le_refl _) (by rw [hsz]; decide) (by rw [hby]; omega) (by omega)
      have hcs : madeCells z'.cells ((1 : Int).toNat * ie.size) = ([z] : List Value).toArray := by rw [hz, hsz]; simp [madeCells]; exact ⟨0, rfl, by simp⟩
      rw [hcs] at hr
      refine wl_val (w' := w.alloc (.cells ([z] : List Value).toArray e)) hgd ?_ (h w.heap.size _ (H.rownew e 1 1 [z] rfl (by decide)))
      unfold execOp
      simp [ho, hx, hy, hr]
/- A slice literal as a row. -/
theorem cfo_br (T : TypeId) (n : Nat) (parts : Array (Nat × Operand)) (ho : o.op = .buildSlice T n parts) (e : TypeId) (k : Nat) (vs : List Value) (H : Cf w0 A X L Rs Fs w) (hn : vs.length = n * k) (hx : n ≤ 64) (hf : bsCells P T n (parts.map fun (i, x) => (i, a.eval x)).toList = some (e, vs.toArray))
    (h : ∀ b w', w.grownBy w' none → Cf w0 A X L (⟨.slice (some ⟨b, 0, none⟩) n n, e, k, n, vs⟩ :: Rs) Fs w' → K (a.put o.dst (.slice (some ⟨b, 0, none⟩) n n)) w') : o.wp P a w K Q := by
  refine op_val (w' := w.alloc (.cells vs.toArray e)) ?_ (h w.heap.size _ (World.grownBy_alloc w _ none) (H.rownew e k n vs hn (by unfold maxLen; omega)))
  unfold execOp
  simp [ho, run_bs hf]
/- A slice literal without elements, as a row. -/
theorem cfo_bs0 (T : TypeId) (ho : o.op = .buildSlice T 0 #[]) {e : TypeId} {k : Nat} (hT : P.underlying T = some (.slice e)) (hi : (P.info? e).map (·.size) = some k) (H : Cf w0 A X L Rs Fs w)
    (h : ∀ b w', w.grownBy w' none → Cf w0 A X L (⟨.slice (some ⟨b, 0, none⟩) 0 0, e, k, 0, []⟩ :: Rs) Fs w' → K (a.put o.dst (.slice (some ⟨b, 0, none⟩) 0 0)) w') : o.wp P a w K Q := by
  cases hie : P.info? e with
  | none => simp [hie] at hi
  | some ie =>
    refine op_val (w' := w.alloc (.cells ([] : List Value).toArray e)) ?_ (h w.heap.size _ (World.grownBy_alloc w _ none) (H.rownew e k 0 [] (by simp) (by decide)))
    unfold execOp
    simp [ho, Instr.buildSlice, run_underlying hT, sizeOf, typeInfo, hie, Instr.fill, newRow]
    rw [show Array.range 0 = #[] by simp [Array.range], Array.map_empty]
/- A row grows by another one's cells. -/
theorem cfo_apr (s x : Operand) {T : TypeId} (ho : o.op = .call { callee := .builtin .append, args := #[s, x], argTypes := #[T, T] }) {e : TypeId} {by_ : Nat} (hT : P.underlying T = some (.slice e)) (hi : (P.info? e).map (fun i => (i.zero.map (·.cells.size), i.size, i.bytes)) = some (some 1, 1, by_)) (hb : by_ ≤ 100000)
    {v : Value} {n m c : Nat} {d : Option Addr} {xs us : List Value} (hs : a.eval s = v) (hx : a.eval x = .slice d m c) (H : Cf w0 A X L (⟨v, e, 1, n, xs⟩ :: Rs) Fs w) (hm : ⟨.slice d m c, e, 1, m, us⟩ ∈ Rs) (h1 : us.all (·.oneCell') = true) (hn : n + m ≤ 900000)
    (h : ∀ d cp w', w.grownBy w' v.ownBlock → Cf w0 A X L (⟨.slice d (n + m) cp, e, 1, n + m, xs ++ us⟩ :: Rs) Fs w' → K (a.put o.dst (.slice d (n + m) cp)) w') : o.wp P a w K Q := by
  cases hie : P.info? e with
  | none => simp [hie] at hi
  | some ie =>
    simp [hie] at hi
    obtain ⟨⟨z, hz, hzk⟩, hsz, hby⟩ := hi
    have hr0 := H.cx.row _ (.head _)
    have hrm := H.cx.row _ (.tail _ hm)
    have hsh : ∀ {w' : World} {v' : Value} {ys : List Value}, w'.ownsRow w0.heap.size e 1 v' (n + m) ys → ∃ d cp, v' = .slice d (n + m) cp := fun h2 => by
      rcases h2.2 with ⟨rfl, h0⟩ | ⟨g, cap, cur, rfl, _⟩
      · exact ⟨none, 0, by rw [h0]⟩
      · exact ⟨_, cap, rfl⟩
    have key : ∃ v' w', (Builtin.append_ #[T, T] o.type #[v, .slice d m c]).run P w = .ok v' w' ∧ w'.ownsRow w0.heap.size e 1 v' (n + m) (xs ++ us) ∧ w.grownBy w' v.ownBlock ∧ (v'.ownBlock = v.ownBlock ∨ v'.ownBlock = some w.heap.size) := by
      cases d with
      | none =>
        have hm0 : m = 0 ∧ us = [] ∧ c = 0 := by
          obtain ⟨q1, ⟨q2, q3⟩ | ⟨g, cap, cur, q2, _⟩⟩ := hrm
          · injection q2 with _ q4 q5
            simp only at q1 q3
            refine ⟨q3, ?_, q5⟩
            rw [q3] at q1
            exact List.length_eq_zero_iff.1 (by simpa using q1)
          · cases q2
        obtain ⟨rfl, rfl, rfl⟩ := hm0
        have hrun := run_append_owned_none (P := P) (w := w) w0.heap.size T o.type e ie 1 hT hie v n xs hr0
        exact ⟨v, w, hrun, by rw [List.append_nil]; exact hr0, grown_refl w _, .inl rfl⟩
      | some ad =>
        have hlen : us.length = m * 1 := hrm.1
        have had : ∃ g, ad = ⟨g, 0, none⟩ := by
          obtain ⟨q1, ⟨q2, _⟩ | ⟨g, cap, cur, q2, _⟩⟩ := hrm
          · cases q2
          · injection q2 with q2
            injection q2 with q2
            exact ⟨g, q2⟩
        obtain ⟨g, rfl⟩ := had
        obtain ⟨v', w', hr, h2, h3, h4, h5⟩ := run_append_own_at (P := P) w w0.heap.size T o.type e ie z 1 by_ hT hie hz hsz hby hzk (by decide) v n xs hr0 ⟨g, 0, none⟩ m c us hlen (fun j u hu => by
          have := own_cell hrm hu
          have e1 : (⟨g, 0, none⟩ : Addr).add j = ⟨g, j, none⟩ := by unfold Addr.add; split <;> simp_all
          rw [e1]
          exact this) (fun u hu => List.all_eq_true.1 h1 u hu) (by unfold maxLen; omega) (Nat.le_trans (Nat.mul_le_mul (show n + m ≤ 1000000 by omega) hb) (by decide)) H.cx.grown.size
        exact ⟨v', w', hr, h2, h3, h5⟩
    obtain ⟨v', w', hr, h2, h3, h5⟩ := key
    obtain ⟨d', cp, rfl⟩ := hsh h2
    refine op_val (w' := w') ?_ (h d' cp w' h3 (H.rowstep (H.cx.row_turn h2 h3 h5) h3 h5))
    unfold execOp
    simp only [ho, resolve, invoke, builtin, Sem.run_bind, Sem.run_pure, Result.andThen_ok, List.map_toArray, List.map_cons, List.map_nil, hs, hx, hr]
theorem wl_op {ops : Array Oper} {rest : List Oper} (hgd : o.guard = none) (h : ∀ K' : Act → World → Prop, (∀ a w, wpList P ops Q rest a w → K' a w) → o.wp P a w K' Q) : wpList P ops Q (o :: rest) a w := wpList_plain hgd h
theorem at_call1 {ops : Array Oper} {rest : List Oper} {b : Builtin} {x : Operand} {T : TypeId} (_ : o.op = .call { callee := .builtin b, args := #[x], argTypes := #[T] }) (h : wpList P ops Q (o :: rest) a w) : wpList P ops Q (o :: rest) a w := h
theorem at_call2 {ops : Array Oper} {rest : List Oper} {b : Builtin} {x y : Operand} {T U : TypeId} (_ : o.op = .call { callee := .builtin b, args := #[x, y], argTypes := #[T, U] }) (h : wpList P ops Q (o :: rest) a w) : wpList P ops Q (o :: rest) a w := h
end
end Go.Proofs.Ythmldhppmpbadaa.Tr
namespace Go.Proofs.Ythmldhppmpbadaa.Tr
open Go.RowKit Go.Proofs.Ythmldhppmpbadaa.Tx
set_option linter.unusedVariables false
set_option linter.unusedSimpArgs false
section
variable {P : Program} {ops : Array Oper} {Q : Exit → Act → World → Prop} {md : Region.Mode} {S : World → Prop}
def edg (md : Region.Mode) (ops : Array Oper) (l m : Nat) : Bool := match ops[l]? with
  | none => false
  | some o => o.after.any fun e => Region.binds md e && e.on == m
def pth (md : Region.Mode) (ops : Array Oper) (i : Nat) : List Nat → Bool
  | [] => false
  | [l] => edg md ops l i
  | l :: m :: r => edg md ops l m && pth md ops i (m :: r)
theorem edg_dep {f l m i : Nat} (h : edg md ops l m = true) (hd : m = i ∨ dep md ops f m i = true) : dep md ops (f + 1) l i = true := by
  unfold edg at h
  unfold dep
  cases ho : ops[l]? with
  | none => rw [ho] at h; cases h
  | some o =>
    rw [ho] at h
    dsimp only at h ⊢
    rw [← Array.any_toList, List.any_eq_true] at h ⊢
    obtain ⟨e, he, hb⟩ := h
    rw [Bool.and_eq_true, beq_iff_eq] at hb
    refine ⟨e, he, ?_⟩
    rw [Bool.and_eq_true, Bool.or_eq_true, beq_iff_eq]
    refine ⟨hb.1, ?_⟩
    rw [hb.2]
    exact hd
theorem pth_dep {i : Nat} : ∀ (f l : Nat) (r : List Nat), r.length < f → pth md ops i (l :: r) = true → dep md ops f l i = true
  | 0, _, _, h, _ => absurd h (Nat.not_lt_zero _)
  | f + 1, l, [], _, hp => edg_dep hp (.inl rfl)
  | f + 1, l, m :: r, h, hp => by
    rw [pth, Bool.and_eq_true] at hp
    exact edg_dep hp.1 (.inr (pth_dep f m r (Nat.lt_of_succ_lt_succ h) hp.2))
def pOk (md : Region.Mode) (ops : Array Oper) (l0 : Nat) (ps : List (Nat × List Nat)) (i : Nat) : Bool := match ps.lookup i with
  | none => false
  | some r => decide (r.length < 16) && pth md ops i (l0 :: r)
def planQ (md : Region.Mode) (ops : Array Oper) (l0 : Nat) (ps : List (Nat × List Nat)) : Pn → Array Bool → Bool
  | .nil, listed => (Region.ready md ops listed).isEmpty
  | .st k i l, listed => (if k == 0 then Region.free md ops listed i && (Region.ready md ops listed).contains i
    else if k == 1 then Region.free md ops listed i && (Region.ready md ops listed).contains i && pOk md ops l0 ps i
    else Region.ready md ops listed == [i] && (!(i == l0) || noRd l)) && planQ md ops l0 ps l (listed.setIfInBounds i true)
  | .fork i l j m, listed => Region.ready md ops listed == [i, j] && !(i == l0) && !(j == l0) && l.len == m.len && planQ md ops l0 ps l (listed.setIfInBounds i true) && planQ md ops l0 ps m (listed.setIfInBounds j true)
theorem pOk_dep {l0 i : Nat} {ps : List (Nat × List Nat)} (h : pOk md ops l0 ps i = true) : depAll md ops [l0] i = true := by
  unfold pOk at h
  cases hl : ps.lookup i with
  | none => rw [hl] at h; cases h
  | some r =>
    rw [hl] at h
    dsimp only at h
    rw [Bool.and_eq_true, decide_eq_true_eq] at h
    unfold depAll
    rw [List.all_cons, List.all_nil, Bool.and_true]
    exact pth_dep 16 l0 r h.1 h.2
theorem one_has {l0 i : Nat} : [l0].contains i = (i == l0) := by
  rw [List.contains_cons]
  exact Bool.or_false _
theorem planQ_N {l0 : Nat} {ps : List (Nat × List Nat)} : ∀ (pl : Pn) (listed : Array Bool), planQ md ops l0 ps pl listed = true → planN md ops [l0] pl listed = true
  | .nil, listed, h => h
  | .st k i l, listed, h => by
    rw [planQ, Bool.and_eq_true] at h
    rw [planN, Bool.and_eq_true]
    refine ⟨?_, planQ_N l _ h.2⟩
    have h1 := h.1
    split at h1
    · rename_i h0
      rw [if_pos h0]
      exact h1
    · rename_i h0
      rw [if_neg h0]
      split at h1
      · rename_i h2
        rw [if_pos h2]
        rw [Bool.and_eq_true] at h1 ⊢
        exact ⟨h1.1, pOk_dep h1.2⟩
      · rename_i h2
        rw [if_neg h2, one_has]
        exact h1
  | .fork i l j m, listed, h => by
    rw [planQ] at h
    rw [planN, one_has, one_has]
    simp only [Bool.and_eq_true] at h ⊢
    exact ⟨⟨h.1.1, planQ_N l _ h.1.2⟩, planQ_N m _ h.2⟩
theorem wp_region_inQ {id : Nat} {a : Act} {w : World} (S : World → Prop) (l0 : Nat) (ps : List (Nat × List Nat)) (pl : Pn) (hm : P.follows .mixedOrders = true) (hs : Region.noSelect ops = true) (hl : pl.len = ops.size) (hp : planQ .any ops l0 ps pl (Array.replicate ops.size false) = true)
    (hQ : ∀ c a d v w, Q (.panic c) (Act.put a d v) w → Q (.panic c) a w) (hS : S w.drew)
    (h : inN P ops Q S [l0] pl a w.drew) : (Code.region id ops true).wp P Q a w := wp_region_inN S [l0] pl hm hs hl (planQ_N pl _ hp) hQ hS h
end
end Go.Proofs.Ythmldhppmpbadaa.Tr
