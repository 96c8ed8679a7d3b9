/-
  The names of instructions: the table of all kinds, and how each is spelt.
-/
import Derived.Test.YtfdofleohichiaaGreatDoorTx2
import Derived.KernelRfl
namespace Go.Proofs.YtfdofleohichiaaGreatDoor.Tx
set_option linter.unusedVariables false

/- A kind: its form, its operation or condition, its two marks. -/
abbrev K4 := Int × Int × Bool × Bool
def nmK (k : K4) : List UInt8 := if k.1 = 2 then memN k.2.2.1 k.2.2.2 else if k.1 = 3 then (if k.2.2.2 = true then [66, 76, 46] else [66, 46]) ++ nm cdNs k.2.1 else nm opNs k.2.1 ++ (mkU k.2.2.1 ++ mkV k.2.2.2)
def rgT (k : K4) : Bool := (k.1 == 0) || ((k.1 == 3) && !k.2.2.1)
def uM (i : Nat) : Bool := i % 2 == 1
def vM (i : Nat) : Bool := i / 2 % 2 == 1
def tabO (u v : Bool) (j : Nat) : List K4 := (List.range j).flatMap fun (op : Nat) => [((0 : Int), (op : Int), u, v), ((1 : Int), (op : Int), u, v)]
def tabC (u v : Bool) (j : Nat) : List K4 := (List.range j).map fun (c : Nat) => ((3 : Int), (c : Int), u, v)
def tabM (i : Nat) : List K4 := ((2 : Int), (0 : Int), uM i, vM i) :: (tabO (uM i) (vM i) 12 ++ tabC (uM i) (vM i) 16)
def tab (n : Nat) : List K4 := (List.range n).flatMap tabM
theorem tabO_succ (u v : Bool) (j : Nat) : tabO u v (j + 1) = tabO u v j ++ [((0 : Int), (j : Int), u, v)] ++ [((1 : Int), (j : Int), u, v)] := by simp [tabO, List.range_succ]
theorem tabC_succ (u v : Bool) (j : Nat) : tabC u v (j + 1) = tabC u v j ++ [((3 : Int), (j : Int), u, v)] := by simp [tabC, List.range_succ]
theorem tab_succ (n : Nat) : tab (n + 1) = tab n ++ tabM n := by simp [tab, List.range_succ]
theorem tabO_len (u v : Bool) (j : Nat) : (tabO u v j).length = 2 * j := by
  induction j with
  | zero => rfl
  | succ j ih => rw [tabO_succ]; simp [ih]; omega
theorem tabC_len (u v : Bool) (j : Nat) : (tabC u v j).length = j := by simp [tabC]
theorem tab_len (n : Nat) : (tab n).length = 41 * n := by
  induction n with
  | zero => rfl
  | succ n ih => rw [tab_succ, List.length_append, ih]; simp [tabM, tabO_len, tabC_len]; omega
theorem tab_mark (u v : Bool) : ∃ i, i < 4 ∧ uM i = u ∧ vM i = v := by
  cases u <;> cases v
  · exact ⟨0, by decide, by decide, by decide⟩
  · exact ⟨2, by decide, by decide, by decide⟩
  · exact ⟨1, by decide, by decide, by decide⟩
  · exact ⟨3, by decide, by decide, by decide⟩
theorem tab_mem {f op : Int} (u v : Bool) (h : (f = 2 ∧ op = 0) ∨ ((f = 0 ∨ f = 1) ∧ 0 ≤ op ∧ op ≤ 11) ∨ (f = 3 ∧ 0 ≤ op ∧ op ≤ 15)) : (f, op, u, v) ∈ tab 4 := by
  obtain ⟨i, hi, rfl, rfl⟩ := tab_mark u v
  refine List.mem_flatMap.2 ⟨i, List.mem_range.2 hi, ?_⟩
  rcases h with ⟨rfl, rfl⟩ | ⟨h, h0, h1⟩ | ⟨rfl, h0, h1⟩
  · simp [tabM]
  · obtain ⟨k, rfl⟩ := Int.eq_ofNat_of_zero_le h0
    have hm : (f, (k : Int), uM i, vM i) ∈ tabO (uM i) (vM i) 12 := by
      refine List.mem_flatMap.2 ⟨k, List.mem_range.2 (by omega), ?_⟩
      rcases h with rfl | rfl <;> simp
    simp [tabM, hm]
  · obtain ⟨k, rfl⟩ := Int.eq_ofNat_of_zero_le h0
    have hm : ((3 : Int), (k : Int), uM i, vM i) ∈ tabC (uM i) (vM i) 16 := List.mem_map.2 ⟨k, List.mem_range.2 (by omega), rfl⟩
    simp [tabM, hm]
/- No two kinds are spelt alike. -/
def eqL : List UInt8 → List UInt8 → Bool
  | [], [] => true
  | a :: s, b :: t => Nat.beq a.toNat b.toNat && eqL s t
  | _, _ => false
theorem eqL_self : ∀ s : List UInt8, eqL s s = true
  | [] => rfl
  | a :: s => by simp [eqL, eqL_self s]
def eqK (a b : K4) : Bool := decide (a.1 = b.1) && (decide (a.2.1 = b.2.1) && ((a.2.2.1 == b.2.2.1) && (a.2.2.2 == b.2.2.2)))
theorem eqK_eq {a b : K4} (h : eqK a b = true) : a = b := by
  obtain ⟨a1, a2, a3, a4⟩ := a
  obtain ⟨b1, b2, b3, b4⟩ := b
  simp [eqK] at h
  obtain ⟨rfl, rfl, rfl, rfl⟩ := h
  rfl
theorem tab_all : (tab 4).all (fun k => (tab 4).all fun k' => !(eqL (nmK k) (nmK k') && (rgT k == rgT k')) || eqK k k') = true := by kernel_rfl
theorem tab_inj {k k' : K4} (h : k ∈ tab 4) (h' : k' ∈ tab 4) (hn : nmK k = nmK k') (hr : rgT k = rgT k') : k = k' := by
  have := List.all_eq_true.1 (List.all_eq_true.1 tab_all k h) k' h'
  rw [hn, hr, eqL_self] at this
  simp at this
  exact eqK_eq this
theorem nmK_len (k : K4) : (nmK k).length ≤ 5 := by
  unfold nmK
  have h1 := opNs_len k.2.1
  have h2 := cdNs_len k.2.1
  split
  · unfold memN; split <;> split <;> simp
  · split
    · split <;> simp <;> omega
    · have : (mkU k.2.2.1 ++ mkV k.2.2.2).length ≤ 2 := by unfold mkU mkV; split <;> split <;> simp
      simp at this ⊢; omega
/- A line is its kind's name, a blank, and what it works on. -/
def opnI (f : Int) (u : Bool) (a b c im : Int) : List UInt8 :=
  if f = 3 then (if u = true then decI im else regI c) else regI a ++ [44, 32] ++ regI b ++ [44, 32] ++ (if f = 0 then regI c else decI im)
def kdI (f : Int) (u v : Bool) (a op : Int) : K4 := (f, (if f = 3 then a else op), u, v)
theorem line_split {f : Int} {u v : Bool} {a b c op im : Int} (hf : f = 0 ∨ f = 1 ∨ f = 2 ∨ f = 3) : lineI f u v a b c op im = nmK (kdI f u v a op) ++ [32] ++ opnI f u a b c im := by
  rcases hf with rfl | rfl | rfl | rfl
  · simp [lineI, nmK, kdI, opnI, List.append_assoc]
  · simp [lineI, nmK, kdI, opnI, List.append_assoc]
  · simp [lineI, nmK, kdI, opnI, List.append_assoc]
  · cases v <;> simp [lineI, nmK, kdI, opnI, bN, List.append_assoc]
end Go.Proofs.YtfdofleohichiaaGreatDoor.Tx
