/-
  A map literal, whose entries may come up in any order.
-/
import Derived.Test.YtgdpcdpkaaefbaaCx3
import Derived.Test.YtgdpcdpkaaefbaaMp1
namespace Go.Proofs.Ytgdpcdpkaaefbaa.Mb
open Go.RowKit Go.Maps Go.Proofs.Ytgdpcdpkaaefbaa.Tx Go.Proofs.Ytgdpcdpkaaefbaa.Mp Go.Proofs.Ytgdpcdpkaaefbaa.Tr
set_option linter.unusedVariables false
set_option linter.unusedSimpArgs false

inductive Ro where
  | mk
  | vl (d : Nat)
  | ins (kd : Nat) (v : Operand)
  | mv (d : Nat)
  | en (d : Nat)
  | no
def rl (o : Oper) : Ro := match o.op, o.dst with
  | .makeMap _ none, some 2 => .mk
  | .insert _ (.tmp 2) (.tmp kd) v, none => .ins kd v
  | .move (.tmp 2), some d => .mv d
  | .assign (.tmp d), some 1 => .en d
  | _, some d => .vl d
  | _, none => .no
def dep (ops : Array Oper) (o : Oper) (d : Nat) : Bool := o.after.any fun e => Region.binds .any e && (match ops[e.on]? with
  | some o' => o'.dst == some d
  | none => false)
def depV (ops : Array Oper) (o : Oper) (d : Nat) : Bool := o.after.any fun e => Region.binds .any e && (match ops[e.on]? with
  | some o' => (match rl o' with | .vl d' => d' == d | _ => false)
  | none => false)
def chkO (ops : Array Oper) (T N : Nat) (o : Oper) : Bool := o.guard.isNone && (match rl o with
  | .mk => (match o.op with | .makeMap t _ => t == T | _ => false)
  | .vl d => decide (3 ≤ d) && decide (d < N)
  | .ins kd v => (match o.op with | .insert t _ _ _ => t == T | _ => false) && dep ops o 2 && depV ops o kd && decide (3 ≤ kd) && (match v with | .tmp d => depV ops o d | _ => true)
  | .mv d => decide (3 ≤ d) && decide (d < N) && dep ops o 2
  | .en d => dep ops o d && decide (3 ≤ d) && (match ops.find? (fun o' => o'.dst == some d) with | some o' => (match rl o' with | .mv _ => true | _ => false) | none => false)
  | .no => false)
def apartD (ops : Array Oper) : Bool := (List.range ops.size).all fun i => (List.range ops.size).all fun j => i == j || (match ops[i]?.bind (·.dst), ops[j]?.bind (·.dst) with
  | some a, some b => a != b
  | _, _ => true)
def chkM (ops : Array Oper) (T N : Nat) : Bool := ops.all (chkO ops T N) && apartD ops && decide (3 ≤ N) && decide (ops.size ≤ 1000) && (List.range ops.size).all (fun i => match ops[i]? with | some o => o.after.all (fun e => decide (e.on < i)) | none => true)
theorem apart_of {ops : Array Oper} (h : apartD ops = true) {i j : Nat} {o p : Oper} (ho : ops[i]? = some o) (hp : ops[j]? = some p) {d : Nat} (h1 : o.dst = some d) (h2 : p.dst = some d) : i = j := by
  unfold apartD at h
  have hi : i < ops.size := (Array.getElem?_eq_some_iff.1 ho).1
  have hj : j < ops.size := (Array.getElem?_eq_some_iff.1 hp).1
  have := List.all_eq_true.1 (List.all_eq_true.1 h i (List.mem_range.2 hi)) j (List.mem_range.2 hj)
  rw [ho, hp] at this
  simpa [h1, h2] using this
theorem chk_of {ops : Array Oper} {T N : Nat} (h : chkM ops T N = true) {i : Nat} {o : Oper} (ho : ops[i]? = some o) : chkO ops T N o = true := by
  unfold chkM at h
  simp only [Bool.and_eq_true] at h
  exact Array.all_eq_true'.1 h.1.1.1.1 o (Array.mem_of_getElem? ho)
theorem chk_ap {ops : Array Oper} {T N : Nat} (h : chkM ops T N = true) : apartD ops = true := by
  unfold chkM at h
  simp only [Bool.and_eq_true] at h
  exact h.1.1.1.2
theorem chk_N {ops : Array Oper} {T N : Nat} (h : chkM ops T N = true) : 3 ≤ N ∧ ops.size ≤ 1000 := by
  unfold chkM at h
  simp only [Bool.and_eq_true, decide_eq_true_eq] at h
  exact ⟨h.1.1.2, h.1.2⟩
theorem chk_lt {ops : Array Oper} {T N : Nat} (h : chkM ops T N = true) {i : Nat} {o : Oper} (ho : ops[i]? = some o) : ∀ e ∈ o.after, e.on < i := by
  unfold chkM at h
  simp only [Bool.and_eq_true] at h
  have := List.all_eq_true.1 h.2 i (List.mem_range.2 (Array.getElem?_eq_some_iff.1 ho).1)
  rw [ho] at this
  intro e he
  simpa using Array.all_eq_true'.1 this e he
theorem dep_of {ops : Array Oper} {o : Oper} {d : Nat} (h : dep ops o d = true) {listed : Array Bool} (hl : ∀ e ∈ o.after, Region.binds .any e = true → listed.getD e.on false = true) : ∃ j p, ops[j]? = some p ∧ p.dst = some d ∧ listed.getD j false = true := by
  unfold dep at h
  obtain ⟨e, he, hb⟩ := Array.any_eq_true'.1 h
  simp only [Bool.and_eq_true] at hb
  cases hp : ops[e.on]? with
  | none => rw [hp] at hb; simp at hb
  | some p =>
    rw [hp] at hb
    exact ⟨e.on, p, hp, by simpa using hb.2, hl e he hb.1⟩
def unl (l : Array Bool) : Nat := l.toList.countP (fun b => !b)
theorem unl_set {l : Array Bool} {i : Nat} (h : l.getD i true = false) : unl (l.setIfInBounds i true) + 1 = unl l := by
  have hi : i < l.size := by
    rcases Nat.lt_or_ge i l.size with h' | h'
    · exact h'
    · simp [Array.getD, Nat.not_lt.2 h'] at h
  have hv : l[i] = false := by simpa [Array.getD, hi] using h
  unfold unl
  rw [Array.toList_setIfInBounds, List.countP_set (by simpa using hi)]
  have h0 : 0 < l.toList.countP (fun b => !b) := List.countP_pos_iff.2 ⟨l[i], by simp, by simp [hv]⟩
  rw [if_pos (by simp [hv]), if_neg (by simp)]
  omega
theorem set_getD {l : Array Bool} {i : Nat} (h : l.getD i true = false) (j : Nat) : (l.setIfInBounds i true).getD j false = (if j = i then true else l.getD j false) := by
  have hi : i < l.size := by
    rcases Nat.lt_or_ge i l.size with h' | h'
    · exact h'
    · simp [Array.getD, Nat.not_lt.2 h'] at h
  by_cases e : j = i
  · subst e; simp [Array.getD, hi]
  · by_cases hj : j < l.size
    · simp [Array.getD, hj, e, Array.getElem_setIfInBounds, Ne.symm e]
    · simp [Array.getD, hj, e]
section
variable (P : Program) (K T N : Nat) (ops : Array Oper) (w0 : World) (Φ : Nat → Value → World → Prop) (a0 : Act)
structure MInv (listed : Array Bool) (a : Act) (w : World) (l : List (Value × Value)) : Prop where
  sz : a.tmps.size = N
  df : a.defers = a0.defers
  ls : l.length + unl listed ≤ ops.size
  gr : w0.grownBy w none
  cl : ∀ i o, listed.getD i false = true → ops[i]? = some o → ∀ e ∈ o.after, Region.binds .any e = true → listed.getD e.on false = true
  vs : ∀ i o d, listed.getD i false = true → ops[i]? = some o → rl o = .vl d → Φ d (a.tmps.getD d undef) w
  mm : ∀ i o, listed.getD i false = true → ops[i]? = some o → rl o = .mk → ∃ mb, a.tmps.getD 2 undef = .map (some mb) ∧ w0.heap.size ≤ mb ∧ MapL P K w mb l
  en : ∀ p ∈ l, ∃ i o kd v, listed.getD i false = true ∧ ops[i]? = some o ∧ rl o = .ins kd v ∧ p = (a.tmps.getD kd undef, a.eval v)
  ex : ∀ i o kd v, listed.getD i false = true → ops[i]? = some o → rl o = .ins kd v → (a.tmps.getD kd undef, a.eval v) ∈ l
  mv : ∀ i o d, listed.getD i false = true → ops[i]? = some o → rl o = .mv d → a.tmps.getD d undef = a.tmps.getD 2 undef
  en0 : ∀ i o d, listed.getD i false = true → ops[i]? = some o → rl o = .en d → a.tmps.getD 1 undef = a.tmps.getD 2 undef
end
theorem put_ne (a : Act) {d e : Nat} (v : Value) (h : e ≠ d) : (a.put (some d) v).tmps.getD e undef = a.tmps.getD e undef := by
  simp [Act.put, Array.getD_eq_getD_getElem?, Array.getElem?_setIfInBounds, Ne.symm h]
theorem put_eq (a : Act) {d : Nat} (v : Value) (h : d < a.tmps.size) : (a.put (some d) v).tmps.getD d undef = v := by
  simp [Act.put, Array.getD_eq_getD_getElem?, Array.getElem?_setIfInBounds, h]
theorem put_sz (a : Act) (d : Option Nat) (v : Value) : (a.put d v).tmps.size = a.tmps.size := by cases d <;> simp [Act.put]
theorem put_df (a : Act) (d : Option Nat) (v : Value) : (a.put d v).defers = a.defers := by cases d <;> simp [Act.put]
theorem rl_dst {o : Oper} : (rl o = .mk → o.dst = some 2) ∧ (∀ d, rl o = .vl d → o.dst = some d) ∧ (∀ kd v, rl o = .ins kd v → o.dst = none) ∧ (∀ d, rl o = .mv d → o.dst = some d) ∧ (∀ d, rl o = .en d → o.dst = some 1) := by
  unfold rl
  split <;> simp_all
theorem rl_op {o : Oper} : (rl o = .mk → ∃ t, o.op = .makeMap t none) ∧ (∀ kd v, rl o = .ins kd v → ∃ t, o.op = .insert t (.tmp 2) (.tmp kd) v) ∧ (∀ d, rl o = .mv d → o.op = .move (.tmp 2)) ∧ (∀ d, rl o = .en d → o.op = .assign (.tmp d)) := by
  unfold rl
  split <;> simp_all
theorem depV_of {ops : Array Oper} {o : Oper} {d : Nat} (h : depV ops o d = true) {listed : Array Bool} (hl : ∀ e ∈ o.after, Region.binds .any e = true → listed.getD e.on false = true) : ∃ j p, ops[j]? = some p ∧ rl p = .vl d ∧ listed.getD j false = true := by
  unfold depV at h
  obtain ⟨e, he, hb⟩ := Array.any_eq_true'.1 h
  simp only [Bool.and_eq_true] at hb
  cases hp : ops[e.on]? with
  | none => rw [hp] at hb; simp at hb
  | some p =>
    rw [hp] at hb
    refine ⟨e.on, p, hp, ?_, hl e he hb.1⟩
    cases hx : rl p with
    | vl d' => simp [hx] at hb; rw [hb.2]
    | mk => simp [hx] at hb
    | ins _ _ => simp [hx] at hb
    | mv _ => simp [hx] at hb
    | en _ => simp [hx] at hb
    | no => simp [hx] at hb
end Go.Proofs.Ytgdpcdpkaaefbaa.Mb
