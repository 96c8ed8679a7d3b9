/-
  A region that draws its order and whose last operation may write what its others read. Lists of files in the order of their names, parted at a name.
-/
import Derived.Test.YtaekljpijnkjoaaDoorSn4
import Derived.Sort.Walk0
namespace Go.Proofs.YtaekljpijnkjoaaDoor.St
open Go.RowKit Go.Maps Go.Proofs.YtaekljpijnkjoaaDoor.Tx
set_option linter.unusedVariables false
set_option linter.unusedSimpArgs false
set_option maxRecDepth 100000

section
variable {P : Program} {ops : Array Oper} {Q : Exit → Act → World → Prop} {md : Region.Mode} {S : World → Prop} {last : Nat}
/- Whatever order is picked from here on; S holds behind each operation but the last one. -/
def wpAnyL (P : Program) (md : Region.Mode) (ops : Array Oper) (Q : Exit → Act → World → Prop) (S : World → Prop) (last : Nat) : Nat → Array Bool → Act → World → Prop
  | 0, listed, a, w => Region.ready md ops listed = [] ∧ Q .normal a w
  | fuel + 1, listed, a, w =>
    (Region.ready md ops listed = [] → Q .normal a w) ∧
    ∀ i ∈ Region.ready md ops listed, wpOp P ops Q i (fun a' w' => (i = last ∨ S w') ∧ wpAnyL P md ops Q S last fuel (listed.setIfInBounds i true) a' w') a w
theorem wpAny_of_last : ∀ (fuel : Nat) (listed : Array Bool) (a : Act) (w : World), wpAnyL P md ops Q S last fuel listed a w → wpAny P md ops Q fuel listed a w
  | 0, _, _, _, h => h
  | fuel + 1, _, _, _, h => ⟨h.1, fun i hi => wpOp_mono (fun a' w' h' => wpAny_of_last fuel _ a' w' h'.2) (h.2 i hi)⟩
def waits (md : Region.Mode) (ops : Array Oper) (last i : Nat) : Bool := match ops[last]? with
  | some o => o.after.any fun e => Region.binds md e && (e.on == i)
  | none => true
theorem wpAnyL_first {i : Nat} {oi : Oper} {v : Value} (hi : ops[i]? = some oi) (hsel : ∀ (j : Nat) (o : Oper) cs b, ops[j]? = some o → o.op ≠ .select cs b)
    (hQ : ∀ c a w, Q (.panic c) (a.put oi.dst v) w → Q (.panic c) a w) (hwt : waits md ops last i = true) :
    ∀ (fuel : Nat) (listed : Array Bool) (a : Act) (w : World),
      (∀ j oj, ops[j]? = some oj → j ≠ i → listed.getD j true = false → (∀ e ∈ oj.after, Region.binds md e = true → e.on ≠ i) → oi.apart ops oj = true) →
      i ∈ Region.ready md ops listed → YieldsIf P ops S oi v a → S w →
      wpAnyL P md ops Q S last fuel (listed.setIfInBounds i true) (a.put oi.dst v) w → wpAnyL P md ops Q S last (fuel + 1) listed a w := by
  intro fuel
  induction fuel with
  | zero =>
    intro listed a w _ hr hy hS H
    refine ⟨fun h => (by rw [h] at hr; cases hr), fun j hj => ?_⟩
    by_cases hji : j = i
    · subst hji; exact hy.wpOp hi hS ⟨.inr hS, H⟩
    · have := ready_mono hj hji
      rw [H.1] at this
      cases this
  | succ fuel ih =>
    intro listed a w hfree hr hy hS H
    refine ⟨fun h => (by rw [h] at hr; cases hr), fun j hj => ?_⟩
    by_cases hji : j = i
    · subst hji; exact hy.wpOp hi hS ⟨.inr hS, H⟩
    · have h1 := H.2 j (ready_mono hj hji)
      obtain ⟨hjun, oj, hoj, hall⟩ := mem_ready.1 hj
      have hnot : ∀ e ∈ oj.after, Region.binds md e = true → e.on ≠ i := fun e he hb heq => by
        have h1 := hall e he hb
        have h0 := (mem_ready.1 hr).1
        rw [heq] at h1
        rcases Nat.lt_or_ge i listed.size with h' | h'
        · simp [h'] at h0 h1; rw [h0] at h1; cases h1
        · simp [Array.getElem?_eq_none h'] at h1
      have hjl : j ≠ last := fun e => by
        subst e
        unfold waits at hwt
        rw [hoj] at hwt
        obtain ⟨e, he, hb⟩ := Array.any_eq_true'.1 hwt
        simp only [Bool.and_eq_true, beq_iff_eq] at hb
        exact hnot e he hb.1 hb.2
      have h2 := wpOp_putIf hoj (hfree j oj hoj hji hjun hnot) (fun cs b => hsel i oi cs b hi) (fun cs b => hsel j oj cs b hoj) hQ hy h1
      have hfree' : ∀ k ok, ops[k]? = some ok → k ≠ i → (listed.setIfInBounds j true).getD k true = false →
          (∀ e ∈ ok.after, Region.binds md e = true → e.on ≠ i) → oi.apart ops ok = true := fun k ok hk hki hun hno => by
        refine hfree k ok hk hki ?_ hno
        by_cases hjk : j = k
        · subst hjk; exact hjun
        · rw [getD_set_ne true hjk] at hun; exact hun
      refine wpOp_mono (fun a' w' h3 => ?_) h2
      have hS' : S w' := h3.2.1.resolve_left hjl
      refine ⟨.inr hS', ih (listed.setIfInBounds j true) a' w' hfree' (ready_mono hr (Ne.symm hji)) h3.1 hS' ?_⟩
      rw [Array.setIfInBounds_comm _ _ hji]
      exact h3.2.2
theorem wpAnyL_take {i : Nat} {oi : Oper} {v : Value} {fuel : Nat} {listed : Array Bool} {a : Act} {w : World} (hi : ops[i]? = some oi)
    (hs : Region.noSelect ops = true) (hf : Region.free md ops listed i = true) (hr : (Region.ready md ops listed).contains i = true) (hwt : waits md ops last i = true)
    (hQ : ∀ c a w, Q (.panic c) (a.put oi.dst v) w → Q (.panic c) a w) (hy : YieldsIf P ops S oi v a) (hS : S w)
    (h : wpAnyL P md ops Q S last fuel (listed.setIfInBounds i true) (a.put oi.dst v) w) : wpAnyL P md ops Q S last (fuel + 1) listed a w :=
  wpAnyL_first hi (Region.noSelect_spec hs) hQ hwt fuel listed a w (Region.free_spec hi hf) (by simpa using hr) hy hS h
theorem wpAnyL_done {listed : Array Bool} {a : Act} {w : World} (hr : Region.ready md ops listed = []) (h : Q .normal a w) :
    ∀ fuel, wpAnyL P md ops Q S last fuel listed a w
  | 0 => ⟨hr, h⟩
  | _ + 1 => ⟨fun _ => h, by rw [hr]; simp⟩
theorem wp_region_last {id : Nat} {a : Act} {w : World} (hm : P.follows .mixedOrders = true) (hS : S w.drew)
    (h : S w.drew → wpAnyL P .any ops Q S last ops.size (Array.replicate ops.size false) a w.drew) : (Code.region id ops true).wp P Q a w :=
  wp_region_any hm (wpAny_of_last _ _ _ _ (h hS))
/- One of those that may come up now. -/
def AllL (P : Program) (md : Region.Mode) (ops : Array Oper) (Q : Exit → Act → World → Prop) (S : World → Prop) (last fuel : Nat) (listed : Array Bool) (a : Act) (w : World) (rs : List Nat) : Prop :=
  ∀ i ∈ rs, wpOp P ops Q i (fun a' w' => (i = last ∨ S w') ∧ wpAnyL P md ops Q S last fuel (listed.setIfInBounds i true) a' w') a w
theorem AllL.nil {fuel : Nat} {listed : Array Bool} {a : Act} {w : World} : AllL P md ops Q S last fuel listed a w [] := fun _ h => by cases h
theorem AllL.cons {fuel : Nat} {listed : Array Bool} {a : Act} {w : World} {i : Nat} {o : Oper} {rs : List Nat} (ho : ops[i]? = some o)
    (h : ∀ K' : Act → World → Prop, Shut (∀ a w, (i = last ∨ S w) → (S w ∨ i = last → wpAnyL P md ops Q S last fuel (listed.setIfInBounds i true) a w) → K' a w) → if Region.wanted o (yielded ops a.tmps) = true then Oper.wp P o a w K' Q else K' (a.put o.dst undef) w)
    (hs : AllL P md ops Q S last fuel listed a w rs) : AllL P md ops Q S last fuel listed a w (i :: rs) := fun j hj => by
  rcases List.mem_cons.1 hj with rfl | hj
  · exact wpOp_step ho (fun K' hK => h K' (fun a w hS hW => hK a w ⟨hS, hW hS.symm⟩))
  · exact hs j hj
theorem wpAnyL_ready {rs : List Nat} {fuel : Nat} {listed : Array Bool} {a : Act} {w : World} (hr : Region.ready md ops listed = rs) (hne : rs ≠ [])
    (h : AllL P md ops Q S last fuel listed a w rs) : wpAnyL P md ops Q S last (fuel + 1) listed a w := ⟨fun h0 => absurd (hr ▸ h0) hne, hr ▸ h⟩
/- Only one may come up: behind it S is shown anew; or it is the last one. -/
theorem turn_L {fuel : Nat} {listed : Array Bool} {a : Act} {w : World} {i : Nat} {o : Oper} (ho : ops[i]? = some o) (hr : Region.ready md ops listed = [i])
    (h : ∀ K' : Act → World → Prop, Shut (∀ a w, S w → (S w → wpAnyL P md ops Q S last fuel (listed.setIfInBounds i true) a w) → K' a w) → if Region.wanted o (yielded ops a.tmps) = true then Oper.wp P o a w K' Q else K' (a.put o.dst undef) w) :
    wpAnyL P md ops Q S last (fuel + 1) listed a w := by
  refine wpAnyL_ready hr (by simp) (AllL.cons ho (fun K' hK => h K' (fun a w hS hW => hK.out a w (.inr hS) (fun _ => hW hS))) AllL.nil)
theorem last_L {fuel : Nat} {listed : Array Bool} {a : Act} {w : World} {o : Oper} (ho : ops[last]? = some o) (hr : Region.ready md ops listed = [last]) (hd : Region.ready md ops (listed.setIfInBounds last true) = [])
    (h : ∀ K' : Act → World → Prop, Shut (∀ a w, Q .normal a w → K' a w) → if Region.wanted o (yielded ops a.tmps) = true then Oper.wp P o a w K' Q else K' (a.put o.dst undef) w) :
    wpAnyL P md ops Q S last (fuel + 1) listed a w := by
  refine wpAnyL_ready hr (by simp) (AllL.cons ho (fun K' hK => h K' (fun a w hq => hK.out a w (.inl rfl) (fun _ => wpAnyL_done hd hq _))) AllL.nil)
end

/- Lists in order. -/
def Srt (l : List Pr) : Prop := l.Pairwise (fun p q => p.1 < q.1)
/- The list parted at a name: what stands ahead of it, what stands behind it, and whether it stands there. -/
structure Cut (n : List UInt8) (l A C : List Pr) (m : Option (List UInt8)) : Prop where
  is : l = A ++ ((m.map fun u => (n, u)).toList ++ C)
  ahead : ∀ p ∈ A, p.1 < n
  behind : ∀ p ∈ C, n < p.1
theorem lt_irr (a : List UInt8) : ¬ a < a := List.lt_irrefl a
theorem lt_tr {a b c : List UInt8} (h : a < b) (k : b < c) : a < c := List.lt_trans h k
theorem lt_tri (a b : List UInt8) : a < b ∨ a = b ∨ b < a := by
  by_cases h : a < b
  · exact .inl h
  · by_cases k : b < a
    · exact .inr (.inr k)
    · exact .inr (.inl (List.le_antisymm (List.not_lt.1 k) (List.not_lt.1 h)))
theorem cut (n : List UInt8) : ∀ l : List Pr, Srt l → ∃ A C m, Cut n l A C m := by
  intro l
  induction l with
  | nil => intro _; exact ⟨[], [], none, rfl, by simp, by simp⟩
  | cons p l ih =>
    intro h
    obtain ⟨h1, h2⟩ := List.pairwise_cons.1 h
    rcases lt_tri p.1 n with hp | hp | hp
    · obtain ⟨A, C, m, h3⟩ := ih h2
      refine ⟨p :: A, C, m, by rw [h3.is]; rfl, fun q hq => ?_, h3.behind⟩
      rcases List.mem_cons.1 hq with rfl | hq
      · exact hp
      · exact h3.ahead q hq
    · exact ⟨[], l, some p.2, by simp [← hp], by simp, fun q hq => by rw [← hp]; exact h1 q hq⟩
    · refine ⟨[], p :: l, none, rfl, by simp, fun q hq => ?_⟩
      rcases List.mem_cons.1 hq with rfl | hq
      · exact hp
      · exact lt_tr hp (h1 q hq)
theorem Cut.srt {n : List UInt8} {l A C : List Pr} {m : Option (List UInt8)} (c : Cut n l A C m) (h : Srt l) : Srt A ∧ Srt C ∧ ∀ p ∈ A, ∀ q ∈ C, p.1 < q.1 := by
  rw [c.is] at h
  unfold Srt at *
  rw [List.pairwise_append, List.pairwise_append] at h
  exact ⟨h.1, h.2.1.2.1, fun p hp q hq => lt_tr (c.ahead p hp) (c.behind q hq)⟩
theorem Cut.put {n : List UInt8} {l A C : List Pr} {m : Option (List UInt8)} (c : Cut n l A C m) (h : Srt l) (t : List UInt8) : Srt (A ++ (n, t) :: C) := by
  obtain ⟨h1, h2, h3⟩ := c.srt h
  unfold Srt at *
  rw [List.pairwise_append, List.pairwise_cons]
  refine ⟨h1, ⟨fun q hq => c.behind q hq, h2⟩, fun p hp q hq => ?_⟩
  rcases List.mem_cons.1 hq with rfl | hq
  · exact c.ahead p hp
  · exact h3 p hp q hq
theorem Cut.del {n : List UInt8} {l A C : List Pr} {m : Option (List UInt8)} (c : Cut n l A C m) (h : Srt l) : Srt (A ++ C) := by
  obtain ⟨h1, h2, h3⟩ := c.srt h
  unfold Srt at *
  rw [List.pairwise_append]
  exact ⟨h1, h2, h3⟩
theorem Cut.out {n : List UInt8} {l A C : List Pr} {m : Option (List UInt8)} (c : Cut n l A C m) : without n l = A ++ C := by
  have hA : without n A = A := List.filter_eq_self.2 (fun p hp => by
    have : p.1 ≠ n := fun e => lt_irr n (by have := c.ahead p hp; rwa [e] at this)
    simpa using this)
  have hC : without n C = C := List.filter_eq_self.2 (fun p hp => by
    have : p.1 ≠ n := fun e => lt_irr n (by have := c.behind p hp; rwa [e] at this)
    simpa using this)
  have hM : without n ((m.map fun u => (n, u)).toList) = [] := by cases m <;> simp [without]
  rw [c.is]
  unfold without at *
  rw [List.filter_append, List.filter_append, hA, hM, hC, List.nil_append]
theorem Cut.perm {n : List UInt8} {l A C : List Pr} {m : Option (List UInt8)} (c : Cut n l A C m) (t : List UInt8) : ((n, t) :: without n l).Perm (A ++ (n, t) :: C) := by
  rw [c.out]
  exact List.perm_middle.symm
theorem Cut.has {n : List UInt8} {l A C : List Pr} {m : Option (List UInt8)} (c : Cut n l A C m) : getL n l = (m.getD [], m.isSome) := by
  have hA : A.find? (fun p => p.1 == n) = none := List.find?_eq_none.2 (fun p hp => by
    have : p.1 ≠ n := fun e => lt_irr n (by have := c.ahead p hp; rwa [e] at this)
    simpa using this)
  have hC : C.find? (fun p => p.1 == n) = none := List.find?_eq_none.2 (fun p hp => by
    have : p.1 ≠ n := fun e => lt_irr n (by have := c.behind p hp; rwa [e] at this)
    simpa using this)
  unfold getL
  rw [c.is, List.find?_append, List.find?_append, hA, hC]
  cases m <;> simp
theorem srt_names {l : List Pr} (h : Srt l) {ns : List (List UInt8)} (hp : ns.Perm (l.map Prod.fst)) : ns.mergeSort (fun x y => decide (x ≤ y)) = l.map Prod.fst := by
  have h1 : ns.mergeSort leB = (l.map Prod.fst).mergeSort leB := mergeSort_of_perm hp
  have h2 : (l.map Prod.fst).mergeSort leB = l.map Prod.fst := by
    apply List.mergeSort_of_pairwise
    rw [List.pairwise_map]
    exact h.imp fun {a b} hlt => by simpa [leB] using List.le_of_lt hlt
  exact h1.trans h2
end Go.Proofs.YtaekljpijnkjoaaDoor.St
