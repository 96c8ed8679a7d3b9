/-
  What the document's own ops, conds and Line do.
  What the document's own Line does with a word of the form 0.
  What the document's own Line does with a word of the form 1.
  What the document's own Line does with a word of the forms 2 and 3, and with a word that is no instruction.
  What the document's own Line does with a word of the form 3, with a word that is no instruction, and as one.
  What the document's own Line does, as one.
  What the document's own cut does.
  What the document's own index, number and register do.
  What the document's own parts does.
  What the document's own parts does with the name of an operation.
  What the document's own parts does, as one.
  What the document's own Word does with a jump's line.
  What the document's own Word does with the other lines.
  What the document's own Word does, as one.
  The document's own Word tells just the words whose lines a text is.
  A word's line is read as that word.
  A word in eight digits of base 16, as a list of bytes (for the document's own Hex).
-/
import Derived.Test.YtfdofleohichiaaGreatDoorAsm1
import Derived.Test.YtfdofleohichiaaGreatDoorTx2
import Derived.Test.YtfdofleohichiaaGreatDoorRref3
import Derived.Laws.Strings
import Derived.Laws.Strings2
import Derived.Laws.Strings3
import Derived.Maps.AppendAt
import Derived.Laws.AppendOwnNone
namespace Go.Proofs.YtfdofleohichiaaGreatDoor.Asm
open Go.RowKit Go.Proofs.YtfdofleohichiaaGreatDoor.Bits Go.Proofs.YtfdofleohichiaaGreatDoor.Gw Go.Proofs.YtfdofleohichiaaGreatDoor.Risc Go.Proofs.YtfdofleohichiaaGreatDoor.Tx
set_option linter.unusedVariables false
set_option linter.unusedSimpArgs false
set_option maxRecDepth 100000

/- The class of worlds may be turned at a call. -/
theorem wpAnyH_sub {P : Program} {md : Region.Mode} {ops : Array Oper} {Q : Exit → Act → World → Prop} {S S' : World → Prop} (hSS : ∀ w, S' w → S w) :
    ∀ (fuel : Nat) (listed : Array Bool) (a : Act) (w : World), wpAnyH P md ops Q S' fuel listed a w → wpAnyH P md ops Q S fuel listed a w
  | 0, _, _, _, h => h
  | fuel + 1, _, _, _, h => ⟨h.1, fun i hi => wpOp_mono (fun a' w' h' => ⟨hSS w' h'.1, wpAnyH_sub hSS fuel _ a' w' h'.2⟩) (h.2 i hi)⟩
theorem ready_turn {P : Program} {md : Region.Mode} {ops : Array Oper} {Q : Exit → Act → World → Prop} {S : World → Prop} {fuel : Nat} {listed : Array Bool} {a : Act} {w : World} {i : Nat} {o : Oper} (ho : ops[i]? = some o)
    (hr : Region.ready md ops listed = [i])
    (h : ∀ K' : Act → World → Prop, Shut (∀ a w, ∀ S' : World → Prop, (∀ w, S' w → S w) → S' w → (S' w → wpAnyH P md ops Q S' fuel (listed.setIfInBounds i true) a w) → K' a w) → if Region.wanted o (yielded ops a.tmps) = true then Oper.wp P o a w K' Q else K' (a.put o.dst undef) w) :
    wpAnyH P md ops Q S (fuel + 1) listed a w := by
  refine wpAnyH_ready hr (by simp) (AllReadyH.cons ho (fun K' hK => ?_) AllReadyH.nil)
  refine h K' (fun a w S' hSS hS' hW => ?_)
  exact hK.out a w (hSS w hS') (fun _ => wpAnyH_sub hSS _ _ _ _ (hW hS'))
end Go.Proofs.YtfdofleohichiaaGreatDoor.Asm
namespace Go.Proofs.YtfdofleohichiaaGreatDoor.Asm
open Go.RowKit Go.Proofs.YtfdofleohichiaaGreatDoor.Bits Go.Proofs.YtfdofleohichiaaGreatDoor.Gw Go.Proofs.YtfdofleohichiaaGreatDoor.Risc Go.Proofs.YtfdofleohichiaaGreatDoor.Tx
set_option linter.unusedVariables false
set_option linter.unusedSimpArgs false
set_option maxRecDepth 100000

theorem add_rule (l r : List UInt8) (h : l.length + r.length ≤ 1000) : ∃ m, m = l ++ r ∧ ∀ W : World, (Op.stringOp .add (bs l) (bs r)).run Tryz.prog W = .ok (.string (bs m)) W :=
  ⟨_, rfl, fun W => by rw [run_string_add_sum W _ _ (by rw [bs_size, bs_size]; omega), bs_append]⟩
theorem add_at (l r : List UInt8) (h : l.length + r.length ≤ 1000) (W : World) : (Op.stringOp .add (bs l) (bs r)).run Tryz.prog W = .ok (.string (bs (l ++ r))) W := by rw [run_string_add_sum W _ _ (by rw [bs_size, bs_size]; omega), bs_append]
theorem cell_drew (w : World) (a : Addr) : w.drew.cell? a = w.cell? a := rfl
theorem g_grown {w w' : World} (h : G w w') : w.grownBy w' none := by
  obtain ⟨p, rfl⟩ := h
  exact ⟨rfl, rfl, rfl, by rw [gr_size]; omega, fun k hk _ => gr_old w p hk⟩
end Go.Proofs.YtfdofleohichiaaGreatDoor.Asm
namespace Go.Proofs.YtfdofleohichiaaGreatDoor.Asm
open Go.RowKit Go.Proofs.YtfdofleohichiaaGreatDoor.Bits Go.Proofs.YtfdofleohichiaaGreatDoor.Gw Go.Proofs.YtfdofleohichiaaGreatDoor.Risc Go.Proofs.YtfdofleohichiaaGreatDoor.Tx
set_option linter.unusedVariables false
set_option linter.unusedSimpArgs false
set_option maxRecDepth 100000

end Go.Proofs.YtfdofleohichiaaGreatDoor.Asm
namespace Go.Proofs.YtfdofleohichiaaGreatDoor.Asm
open Go.RowKit Go.Proofs.YtfdofleohichiaaGreatDoor.Bits Go.Proofs.YtfdofleohichiaaGreatDoor.Gw Go.Proofs.YtfdofleohichiaaGreatDoor.Risc Go.Proofs.YtfdofleohichiaaGreatDoor.Tx
set_option linter.unusedVariables false
set_option linter.unusedSimpArgs false
set_option maxRecDepth 100000

end Go.Proofs.YtfdofleohichiaaGreatDoor.Asm
namespace Go.Proofs.YtfdofleohichiaaGreatDoor.Asm
open Go.RowKit Go.Proofs.YtfdofleohichiaaGreatDoor.Bits Go.Proofs.YtfdofleohichiaaGreatDoor.Gw Go.Proofs.YtfdofleohichiaaGreatDoor.Risc Go.Proofs.YtfdofleohichiaaGreatDoor.Tx
set_option linter.unusedVariables false
set_option linter.unusedSimpArgs false
set_option maxRecDepth 100000

end Go.Proofs.YtfdofleohichiaaGreatDoor.Asm
namespace Go.Proofs.YtfdofleohichiaaGreatDoor.Asm
open Go.RowKit Go.Proofs.YtfdofleohichiaaGreatDoor.Bits Go.Proofs.YtfdofleohichiaaGreatDoor.Gw Go.Proofs.YtfdofleohichiaaGreatDoor.Risc Go.Proofs.YtfdofleohichiaaGreatDoor.Tx
set_option linter.unusedVariables false
set_option linter.unusedSimpArgs false
set_option maxRecDepth 100000

structure Rng (f : Int) (u : Bool) (a b c op im : Int) : Prop where
  a : 0 ≤ a ∧ a ≤ 15
  b : 0 ≤ b ∧ b ≤ 15
  c : 0 ≤ c ∧ c ≤ 15
  op : 0 ≤ op ∧ op ≤ 11
  f1 : f = 1 → 0 ≤ im ∧ im ≤ 65535
  f2 : f = 2 → -1000000 ≤ im ∧ im ≤ 1000000
  f3 : f = 3 → -100000000 ≤ im ∧ im ≤ 100000000
theorem fits20 {x : Int} (h : fitsB x 20 = true) : -1000000 ≤ x ∧ x ≤ 1000000 := by
  simp only [fitsB, decide_eq_true_eq] at h
  have e : (2 : Int) ^ (20 : Int).toNat = 1048576 := by decide
  rw [e] at h
  omega
theorem fits24 {x : Int} (h : fitsB x 24 = true) : -100000000 ≤ x ∧ x ≤ 100000000 := by
  simp only [fitsB, decide_eq_true_eq] at h
  have e : (2 : Int) ^ (24 : Int).toNat = 16777216 := by decide
  rw [e] at h
  omega
theorem good_rng {f : Int} {u v : Bool} {a b c op im : Int} (h : goodR f u v a b c op im = true) : Rng f u a b c op im := by
  simp only [goodR, Bool.and_eq_true, inB, decide_eq_true_eq] at h
  obtain ⟨⟨⟨⟨ha, hb⟩, hc⟩, ho⟩, hx⟩ := h
  refine ⟨ha, hb, hc, ho, fun e => ?_, fun e => ?_, fun e => ?_⟩
  · subst e
    simp at hx
    exact hx.2
  · subst e
    simp at hx
    exact fits20 hx.2
  · subst e
    cases u
    · simp at hx; omega
    · simp at hx; exact fits24 hx.2.2
end Go.Proofs.YtfdofleohichiaaGreatDoor.Asm
namespace Go.Proofs.YtfdofleohichiaaGreatDoor.Asm
open Go.RowKit Go.Proofs.YtfdofleohichiaaGreatDoor.Bits Go.Proofs.YtfdofleohichiaaGreatDoor.Gw Go.Proofs.YtfdofleohichiaaGreatDoor.Risc Go.Proofs.YtfdofleohichiaaGreatDoor.Tx
set_option linter.unusedVariables false
set_option linter.unusedSimpArgs false
set_option maxRecDepth 100000

theorem bs_ext (l : List UInt8) (a b : Nat) : (bs l).extract a b = bs ((l.drop a).take (b - a)) := ByteArray.extract_mk l a b
theorem bs_list (l : List UInt8) : (bs l).toList = l := by rw [ByteArray.toList_eq]; simp [bs]
theorem test_ext (s d : List UInt8) (i : Nat) : (((bs s).extract i (i + d.length)).toList == (bs d).toList) = ((s.drop i).take d.length == d) := by
  rw [bs_ext, bs_list, bs_list, Nat.add_sub_cancel_left]
/- The first place of d in s is not ahead of i. -/
def Nv (s d : List UInt8) (i : Nat) : Prop := cutF d s = (cutF d (s.drop i)).map fun p => (s.take i ++ p.1, p.2)
theorem Nv.zero (s d : List UInt8) : Nv s d 0 := by
  unfold Nv
  cases h : cutF d s <;> simp [h]
theorem pre_iff (d l : List UInt8) : d.isPrefixOf l = (l.take d.length == d) := by
  rw [Bool.eq_iff_iff]
  simp only [List.isPrefixOf_iff_prefix, beq_iff_eq]
  constructor
  · rintro ⟨t, rfl⟩; simp
  · intro h; have := List.take_append_drop d.length l; rw [h] at this; exact ⟨_, this⟩
theorem Nv.succ {s d : List UInt8} {i : Nat} (h : Nv s d i) (hi : i < s.length) (hp : ((s.drop i).take d.length == d) = false) : Nv s d (i + 1) := by
  have e : s.drop i = s[i] :: s.drop (i + 1) := List.drop_eq_getElem_cons hi
  have et : s.take (i + 1) = s.take i ++ [s[i]] := (List.take_succ_eq_append_getElem hi)
  unfold Nv at h ⊢
  have hne : ¬ d.isPrefixOf (s[i] :: s.drop (i + 1)) = true := by rw [← e, pre_iff, hp]; decide
  rw [h, e, cutF, if_neg hne, et]
  cases cutF d (s.drop (i + 1)) with
  | none => rfl
  | some p => simp only [Option.map_some, List.append_assoc, List.singleton_append]
theorem cutF_short (d : List UInt8) : ∀ l : List UInt8, l.length < d.length → cutF d l = none
  | [], h => by
    rw [cutF, if_neg (by rintro rfl; simp at h)]
  | c :: l, h => by
    rw [cutF, if_neg (by rw [pre_iff]; simp only [beq_iff_eq]; intro e; have := congrArg List.length e; simp at this h; omega), cutF_short d l (by simp at h; omega)]
    rfl
theorem cutF_here {s d : List UInt8} {i : Nat} (d0 : 1 ≤ d.length) (hp : ((s.drop i).take d.length == d) = true) : cutF d (s.drop i) = some ([], (s.drop i).drop d.length) := by
  cases h : s.drop i with
  | nil => rw [h] at hp; simp at hp; subst hp; simp at d0
  | cons c l => rw [cutF, if_pos (by rw [pre_iff, ← h]; exact hp)]
theorem Nv.here {s d : List UInt8} {i : Nat} (h : Nv s d i) (d0 : 1 ≤ d.length) (hp : ((s.drop i).take d.length == d) = true) : cut1 s d = s.take i ∧ cut2 s d = s.drop (i + d.length) ∧ cutB s d = true := by
  have e : cutF d s = some (s.take i, s.drop (i + d.length)) := by rw [h, cutF_here d0 hp]; simp
  exact ⟨by rw [cut1, e], by rw [cut2, e], by rw [cutB, e]; rfl⟩
theorem Nv.no {s d : List UInt8} {i : Nat} (h : Nv s d i) (hp : s.length < i + d.length) (hi : i ≤ s.length) : cut1 s d = s ∧ cut2 s d = [] ∧ cutB s d = false := by
  have e : cutF d s = none := by rw [h, cutF_short d _ (by simp; omega)]; rfl
  exact ⟨by rw [cut1, e], by rw [cut2, e], by rw [cutB, e]; rfl⟩
end Go.Proofs.YtfdofleohichiaaGreatDoor.Asm
namespace Go.Proofs.YtfdofleohichiaaGreatDoor.Asm
open Go.RowKit Go.Proofs.YtfdofleohichiaaGreatDoor.Bits Go.Proofs.YtfdofleohichiaaGreatDoor.Gw Go.Proofs.YtfdofleohichiaaGreatDoor.Risc Go.Proofs.YtfdofleohichiaaGreatDoor.Tx
set_option linter.unusedVariables false
set_option linter.unusedSimpArgs false
set_option maxRecDepth 100000

def idxN : List (List UInt8) → List UInt8 → Option Nat
  | [], _ => none
  | x :: l, s => if (x == s) = true then some 0 else (idxN l s).map (· + 1)
def idxI (l : List (List UInt8)) (s : List UInt8) : Int := match idxN l s with | some k => (k : Int) | none => -1
def Iv (l : List (List UInt8)) (s : List UInt8) (i : Nat) : Prop := idxN l s = (idxN (l.drop i) s).map (· + i)
theorem Iv.zero (l : List (List UInt8)) (s : List UInt8) : Iv l s 0 := by
  unfold Iv
  cases h : idxN l s <;> simp [h]
theorem Iv.succ {l : List (List UInt8)} {s : List UInt8} {i : Nat} (h : Iv l s i) (hi : i < l.length) (hp : (l[i] == s) = false) : Iv l s (i + 1) := by
  unfold Iv at h ⊢
  rw [h, List.drop_eq_getElem_cons hi, idxN, if_neg (by rw [hp]; decide)]
  cases idxN (l.drop (i + 1)) s with
  | none => rfl
  | some k => simp only [Option.map_some]; congr 1; omega
theorem Iv.here {l : List (List UInt8)} {s : List UInt8} {i : Nat} (h : Iv l s i) (hi : i < l.length) (hp : (l[i] == s) = true) : idxI l s = i := by
  unfold Iv at h
  rw [List.drop_eq_getElem_cons hi, idxN, if_pos hp] at h
  simp [idxI, h]
theorem Iv.no {l : List (List UInt8)} {s : List UInt8} (h : Iv l s l.length) : idxI l s = -1 := by
  unfold Iv at h
  simp [idxN] at h
  simp [idxI, h]
theorem test_bs (x s : List UInt8) : ((bs x).toList == (bs s).toList) = (x == s) := by rw [bs_list, bs_list]
theorem val_lt : ∀ (l : List UInt8) (n : Nat), l.all isD = true → l.foldl (fun n c => 10 * n + (c.toNat - 48)) n < (n + 1) * 10 ^ l.length
  | [], n, _ => by simp
  | c :: l, n, h => by
    simp only [List.all_cons, Bool.and_eq_true] at h
    have hc : c.toNat ≤ 57 := by have := h.1; simp [isD] at this; exact this.2
    have := val_lt l (10 * n + (c.toNat - 48)) h.2
    simp only [List.foldl_cons, List.length_cons, Nat.pow_succ]
    refine Nat.lt_of_lt_of_le this ?_
    have e : (n + 1) * (10 ^ l.length * 10) = (10 * (n + 1)) * 10 ^ l.length := by rw [Nat.mul_comm (10 ^ l.length) 10, ← Nat.mul_assoc, Nat.mul_comm (n + 1) 10]
    rw [e]
    exact Nat.mul_le_mul_right _ (by omega)
theorem valL_lt {l : List UInt8} (h : l.all isD = true) (h9 : l.length ≤ 9) : valL l < 1000000000 := by
  have := val_lt l 0 h
  simp at this
  exact Nat.lt_of_lt_of_le this (Nat.pow_le_pow_right (n := 10) (by decide) h9)
theorem take_snoc {t : List UInt8} {k : Nat} (h : k < t.length) : t.take (k + 1) = t.take k ++ [t[k]] := List.take_succ_eq_append_getElem h
theorem bs_get (t : List UInt8) (k : Nat) (h : k < (bs t).size) : (bs t)[k]'h = t[k]'h := rfl
end Go.Proofs.YtfdofleohichiaaGreatDoor.Asm
namespace Go.Proofs.YtfdofleohichiaaGreatDoor.Asm
open Go.RowKit Go.Proofs.YtfdofleohichiaaGreatDoor.Bits Go.Proofs.YtfdofleohichiaaGreatDoor.Gw Go.Proofs.YtfdofleohichiaaGreatDoor.Risc Go.Proofs.YtfdofleohichiaaGreatDoor.Tx
set_option linter.unusedVariables false
set_option linter.unusedSimpArgs false
set_option maxRecDepth 100000

def meNs : List (List UInt8) := [[76, 68, 82], [76, 68, 66], [83, 84, 82], [83, 84, 66]]
theorem idx_lt (l : List (List UInt8)) (s : List UInt8) : -1 ≤ idxI l s ∧ idxI l s < l.length := by
  have key : ∀ (l : List (List UInt8)) k, idxN l s = some k → k < l.length := by
    intro l
    induction l with
    | nil => intro k h; cases h
    | cons x l ih =>
      intro k h
      rw [idxN] at h
      split at h
      · cases h; simp
      · cases hh : idxN l s with
        | none => rw [hh] at h; cases h
        | some j => rw [hh] at h; simp at h; have := ih j hh; simp; omega
  unfold idxI
  cases h : idxN l s with
  | none => simp; omega
  | some k => have := key l k h; simp; omega
theorem me_cells (w : World) : ∀ k : Nat, ∀ h : k < meNs.length, ((w.alloc (Obj.cells #[Value.int IntKind.i64 0, Value.bool false, Value.bool false, Value.int IntKind.i64 0, Value.int IntKind.i64 0, Value.int IntKind.i64 0, Value.int IntKind.i64 0, Value.int IntKind.i64 0] 72)).alloc (Obj.cells #[Value.string ⟨#[76, 68, 82]⟩, Value.string ⟨#[76, 68, 66]⟩, Value.string ⟨#[83, 84, 82]⟩, Value.string ⟨#[83, 84, 66]⟩] 9)).cell? ⟨w.heap.size + 1, k, none⟩ = some (.string (bs meNs[k])) := by
  intro k h
  have e : ((w.alloc (Obj.cells #[Value.int IntKind.i64 0, Value.bool false, Value.bool false, Value.int IntKind.i64 0, Value.int IntKind.i64 0, Value.int IntKind.i64 0, Value.int IntKind.i64 0, Value.int IntKind.i64 0] 72)).alloc (Obj.cells #[Value.string ⟨#[76, 68, 82]⟩, Value.string ⟨#[76, 68, 66]⟩, Value.string ⟨#[83, 84, 82]⟩, Value.string ⟨#[83, 84, 66]⟩] 9)).heap[w.heap.size + 1]? = some (Obj.cells #[Value.string ⟨#[76, 68, 82]⟩, Value.string ⟨#[76, 68, 66]⟩, Value.string ⟨#[83, 84, 82]⟩, Value.string ⟨#[83, 84, 66]⟩] 9) := by
    have := heap_alloc_new (w.alloc (Obj.cells #[Value.int IntKind.i64 0, Value.bool false, Value.bool false, Value.int IntKind.i64 0, Value.int IntKind.i64 0, Value.int IntKind.i64 0, Value.int IntKind.i64 0, Value.int IntKind.i64 0] 72)) (Obj.cells #[Value.string ⟨#[76, 68, 82]⟩, Value.string ⟨#[76, 68, 66]⟩, Value.string ⟨#[83, 84, 82]⟩, Value.string ⟨#[83, 84, 66]⟩] 9)
    rw [size_alloc] at this
    exact this
  rw [cell_of_row _ _ _ _ _ _ e]
  have : k = 0 ∨ k = 1 ∨ k = 2 ∨ k = 3 := by simp [meNs] at h; omega
  rcases this with h | h | h | h <;> subst h <;> rfl
theorem own_g {w w' : World} {b : Nat} {cs : Array Value} (h : Own w b cs) (g : w.grownBy w' none) : Own w' b cs := by
  unfold Own at h ⊢
  rw [g.block b (lt_of_block h) (by simp)]
  exact h
theorem drewN_g (w : World) (n : Nat) : w.grownBy (w.drewN n) none := ⟨rfl, rfl, rfl, Nat.le_refl _, fun _ _ _ => rfl⟩
/- Eight cells of a block that came after w are written. -/
theorem far_set8 {w V : World} {b : Nat} (h : w.grownBy V none) (hb : w.heap.size ≤ b) (x0 x1 x2 x3 x4 x5 x6 x7 : Value) :
    w.grownBy ((((((((V.setCell ⟨b, 0, none⟩ x0).setCell ⟨b, 1, none⟩ x1).setCell ⟨b, 2, none⟩ x2).setCell ⟨b, 3, none⟩ x3).setCell ⟨b, 4, none⟩ x4).setCell ⟨b, 5, none⟩ x5).setCell ⟨b, 6, none⟩ x6).setCell ⟨b, 7, none⟩ x7) none := by
  have one : ∀ (V : World), w.grownBy V none → ∀ (i : Nat) (x : Value), w.grownBy (V.setCell ⟨b, i, none⟩ x) none := fun V h i x =>
    ⟨h.os, h.tape, h.output, by simpa [World.setCell] using h.size, fun k hk hr => by rw [← h.block k hk hr]; simp [World.setCell, Array.getElem?_modify]; omega⟩
  exact one _ (one _ (one _ (one _ (one _ (one _ (one _ (one _ h 0 x0) 1 x1) 2 x2) 3 x3) 4 x4) 5 x5) 6 x6) 7 x7
end Go.Proofs.YtfdofleohichiaaGreatDoor.Asm
namespace Go.Proofs.YtfdofleohichiaaGreatDoor.Asm
open Go.RowKit Go.Proofs.YtfdofleohichiaaGreatDoor.Bits Go.Proofs.YtfdofleohichiaaGreatDoor.Gw Go.Proofs.YtfdofleohichiaaGreatDoor.Risc Go.Proofs.YtfdofleohichiaaGreatDoor.Tx
set_option linter.unusedVariables false
set_option linter.unusedSimpArgs false
set_option maxRecDepth 100000

/- A mark at a text's end, and the text without it. -/
def endB (s : List UInt8) (c : UInt8) : Bool := s.getLast? == some c
def endL (s : List UInt8) (c : UInt8) : List UInt8 := if endB s c = true then s.dropLast else s
structure En (s : List UInt8) (c : UInt8) (n : Nat) (y : Bool) (r : List UInt8) : Prop where
  len : s.length = n
  b : endB s c = y
  l : endL s c = r
  nil : n = 0 → y = false
  at' : 0 < n → ∀ h : n - 1 < (bs s).size, ((((bs s)[n - 1]'h).toNat : Int) == (c.toNat : Int)) = y
  cut : y = true → (bs s).extract 0 (n - 1) = bs r
  same : y = false → r = s
theorem En.mk' (s : List UInt8) (c : UInt8) : En s c s.length (endB s c) (endL s c) := by
  refine ⟨rfl, rfl, rfl, fun h => ?_, fun h0 h => ?_, fun h => ?_, fun h => ?_⟩
  · have : s = [] := List.eq_nil_of_length_eq_zero h
    subst this
    rfl
  · have hl : s.getLast? = some (s[s.length - 1]'h) := by
      rw [List.getLast?_eq_getElem?, List.getElem?_eq_getElem h]
    rw [bs_get, endB, hl]
    rw [Bool.eq_iff_iff]
    simp only [beq_iff_eq, Option.some.injEq]
    constructor
    · intro e; exact UInt8.toNat_inj.1 (by omega)
    · intro e; rw [e]
  · rw [endL, if_pos h, bs_ext, List.dropLast_eq_take]
    simp
  · rw [endL, if_neg (by rw [h]; decide)]
theorem own_new' (V : World) (cs : Array Value) (k : Nat) (h : V.heap.size = k) : Own (V.alloc (.cells cs 72)) k cs := by rw [← h]; exact Own.new V cs
theorem own_drew {V : World} {b : Nat} {cs : Array Value} (h : Own V b cs) : Own V.drew b cs := h
theorem own_other {V : World} {b c i : Nat} {v : Value} {cs : Array Value} (h : Own V b cs) (hc : c ≠ b) : Own (V.setCell ⟨c, i, none⟩ v) b cs := by
  unfold Own at h ⊢
  simp [World.setCell, Array.getElem?_modify, h]
  omega
theorem own_six {V : World} {b : Nat} {c0 c1 c2 c3 c4 c5 c6 c7 : Value} (h : Own V b #[c0, c1, c2, c3, c4, c5, c6, c7]) (v : Value) : Own (V.setCell ⟨b, 6, none⟩ v) b #[c0, c1, c2, c3, c4, c5, v, c7] := by
  have := h.set 6 v
  simpa using this
theorem far_set {w V : World} {b i : Nat} {v : Value} (h : w.grownBy V none) (hb : w.heap.size ≤ b) : w.grownBy (V.setCell ⟨b, i, none⟩ v) none :=
  ⟨h.os, h.tape, h.output, by simpa [World.setCell] using h.size, fun k hk hr => by rw [← h.block k hk hr]; simp [World.setCell, Array.getElem?_modify]; omega⟩
theorem own_cell {V : World} {b : Nat} {cs : Array Value} (h : Own V b cs) {j : Nat} {v : Value} (hj : cs[j]? = some v) : V.cell? ⟨b, j, none⟩ = some v := by rw [cell_of_row _ _ _ _ _ _ h]; exact hj
theorem own_fr {V : World} {b : Nat} {cs : Array Value} (h : Own V b cs) : ∀ i, V.frozen? ⟨b, i, none⟩ = false := fun i => by
  unfold Own at h
  simp [World.frozen?, h]
end Go.Proofs.YtfdofleohichiaaGreatDoor.Asm
namespace Go.Proofs.YtfdofleohichiaaGreatDoor.Asm
open Go.RowKit Go.Proofs.YtfdofleohichiaaGreatDoor.Bits Go.Proofs.YtfdofleohichiaaGreatDoor.Gw Go.Proofs.YtfdofleohichiaaGreatDoor.Risc Go.Proofs.YtfdofleohichiaaGreatDoor.Tx
set_option linter.unusedVariables false
set_option linter.unusedSimpArgs false
set_option maxRecDepth 100000

def pM (s : List UInt8) : Bool := decide (0 ≤ idxI meNs s)
def pF (s : List UInt8) : Int := if pM s = true then 2 else if cutB s [46] = true then 3 else 0
def pU (s : List UInt8) : Bool := if pM s = true then decide (1 < idxI meNs s) else if cutB s [46] = true then false else endB (endL s 34) 39
def pV (s : List UInt8) : Bool := if pM s = true then idxI meNs s % 2 == 1 else if cutB s [46] = true then cut1 s [46] == [66, 76] else endB s 34
def pA (s : List UInt8) : Int := if pM s = true then 0 else if cutB s [46] = true then idxI cdNs (cut2 s [46]) else 0
def pO (s : List UInt8) : Int := if pM s = true then 0 else if cutB s [46] = true then 0 else idxI opNs (endL (endL s 34) 39)
def pK (s : List UInt8) : Bool := if pM s = true then true else if cutB s [46] = true then decide (0 ≤ idxI cdNs (cut2 s [46])) && (cut1 s [46] == [66] || cut1 s [46] == [66, 76]) else decide (0 ≤ idxI opNs (endL (endL s 34) 39))
theorem pF_is (s : List UInt8) : pF s = 0 ∨ pF s = 2 ∨ pF s = 3 := by
  unfold pF
  split
  · exact .inr (.inl rfl)
  · split
    · exact .inr (.inr rfl)
    · exact .inl rfl
end Go.Proofs.YtfdofleohichiaaGreatDoor.Asm
namespace Go.Proofs.YtfdofleohichiaaGreatDoor.Asm
open Go.RowKit Go.Proofs.YtfdofleohichiaaGreatDoor.Bits Go.Proofs.YtfdofleohichiaaGreatDoor.Gw Go.Proofs.YtfdofleohichiaaGreatDoor.Risc Go.Proofs.YtfdofleohichiaaGreatDoor.Tx
set_option linter.unusedVariables false
set_option linter.unusedSimpArgs false
set_option maxRecDepth 100000

def noV : Value := .tuple #[.int .u32 0, .int .i64 60]
def tlB (s : List UInt8) (f : Int) (u v : Bool) (a b c op im : Int) : Bool := goodR f u v a b c op im && (decR (packI f u v a b c op im) && (lineX (packI f u v a b c op im) == s))
def tlV (s : List UInt8) (f : Int) (u v : Bool) (a b c op im : Int) : Value := if tlB s f u v a b c op im = true then .tuple #[.int .u32 (packI f u v a b c op im), .int .i64 0] else noV
theorem own_set {V : World} {b : Nat} {l : List Value} (h : Own V b l.toArray) (i : Nat) (v : Value) : Own (V.setCell ⟨b, i, none⟩ v) b (l.set i v).toArray := by
  have := h.set i v
  simpa using this
theorem cutF_len (d : List UInt8) : ∀ (s : List UInt8) p, cutF d s = some p → p.1.length ≤ s.length ∧ p.2.length ≤ s.length
  | [], p, h => by
    rw [cutF] at h
    split at h
    · cases h; exact ⟨Nat.le_refl _, Nat.le_refl _⟩
    · cases h
  | c :: s, p, h => by
    rw [cutF] at h
    split at h
    · cases h; simp
    · cases hh : cutF d s with
      | none => rw [hh] at h; cases h
      | some r =>
        rw [hh] at h
        simp at h
        have := cutF_len d s r hh
        subst h
        simp
        omega
theorem cut_len (s d : List UInt8) : (cut1 s d).length ≤ s.length ∧ (cut2 s d).length ≤ s.length := by
  unfold cut1 cut2
  cases h : cutF d s with
  | none => simp
  | some p => exact cutF_len d s p h
end Go.Proofs.YtfdofleohichiaaGreatDoor.Asm
namespace Go.Proofs.YtfdofleohichiaaGreatDoor.Asm
open Go.RowKit Go.Proofs.YtfdofleohichiaaGreatDoor.Bits Go.Proofs.YtfdofleohichiaaGreatDoor.Gw Go.Proofs.YtfdofleohichiaaGreatDoor.Risc Go.Proofs.YtfdofleohichiaaGreatDoor.Tx
set_option linter.unusedVariables false
set_option linter.unusedSimpArgs false
set_option maxRecDepth 100000

def rsB (f : Int) (one two k m : Bool) : Bool := one && (two && ((k || m) && !(k && f == 2)))
def rsF (f : Int) (k : Bool) : Int := if k = false ∧ f = 0 then 1 else f
end Go.Proofs.YtfdofleohichiaaGreatDoor.Asm
namespace Go.Proofs.YtfdofleohichiaaGreatDoor.Asm
open Go.RowKit Go.Proofs.YtfdofleohichiaaGreatDoor.Bits Go.Proofs.YtfdofleohichiaaGreatDoor.Gw Go.Proofs.YtfdofleohichiaaGreatDoor.Risc Go.Proofs.YtfdofleohichiaaGreatDoor.Tx
set_option linter.unusedVariables false
set_option linter.unusedSimpArgs false
set_option maxRecDepth 100000

def wN (s : List UInt8) : List UInt8 := cut1 s [32]
def wR (s : List UInt8) : List UInt8 := cut2 s [32]
def wA (s : List UInt8) : List UInt8 := cut1 (wR s) [44, 32]
def wM (s : List UInt8) : List UInt8 := cut2 (wR s) [44, 32]
def wB (s : List UInt8) : List UInt8 := cut1 (wM s) [44, 32]
def wL (s : List UInt8) : List UInt8 := cut2 (wM s) [44, 32]
def wV (s : List UInt8) : Value :=
  if 60 < s.length then noV
  else if (cutB s [32] && pK (wN s)) = false then noV
  else if pF (wN s) = 3 then (if (rgK (wR s) || numB (wR s)) = true then tlV s 3 (!rgK (wR s)) (pV (wN s)) (pA (wN s)) 0 (rgV (wR s)) (pO (wN s)) (if rgK (wR s) = true then 0 else numV (wR s)) else noV)
  else if rsB (pF (wN s)) (rgK (wA s)) (rgK (wB s)) (rgK (wL s)) (numB (wL s)) = true then tlV s (rsF (pF (wN s)) (rgK (wL s))) (pU (wN s)) (pV (wN s)) (rgV (wA s)) (rgV (wB s)) (if rgK (wL s) = true then rgV (wL s) else 0) (pO (wN s)) (if rgK (wL s) = true then 0 else numV (wL s)) else noV
end Go.Proofs.YtfdofleohichiaaGreatDoor.Asm
namespace Go.Proofs.YtfdofleohichiaaGreatDoor.Asm
open Go.RowKit Go.Proofs.YtfdofleohichiaaGreatDoor.Bits Go.Proofs.YtfdofleohichiaaGreatDoor.Gw Go.Proofs.YtfdofleohichiaaGreatDoor.Risc Go.Proofs.YtfdofleohichiaaGreatDoor.Tx
set_option linter.unusedVariables false
set_option linter.unusedSimpArgs false
set_option maxRecDepth 100000

/- What a name is read as. -/
structure Nm (s : List UInt8) (f : Int) (u v : Bool) (a op : Int) : Prop where
  no : (32 : UInt8) ∉ s
  f : pF s = f
  u : pU s = u
  v : pV s = v
  a : pA s = a
  op : pO s = op
  k : pK s = true
  len : s.length ≤ 5
theorem nm_op (k : Nat) (h : k < 12) (u v : Bool) : Nm (nm opNs (k : Int) ++ (mkU u ++ mkV v)) 0 u v 0 k := by
  have : k = 0 ∨ k = 1 ∨ k = 2 ∨ k = 3 ∨ k = 4 ∨ k = 5 ∨ k = 6 ∨ k = 7 ∨ k = 8 ∨ k = 9 ∨ k = 10 ∨ k = 11 := by omega
  rcases this with h | h | h | h | h | h | h | h | h | h | h | h <;> subst h <;> cases u <;> cases v <;> exact ⟨by decide, by decide, by decide, by decide, by decide, by decide, by decide, by decide⟩
theorem nm_mem (u v : Bool) : Nm (memN u v) 2 u v 0 0 := by
  cases u <;> cases v <;> exact ⟨by decide, by decide, by decide, by decide, by decide, by decide, by decide, by decide⟩
theorem nm_jump (k : Nat) (h : k < 16) (v : Bool) : Nm (bN v ++ ([46] ++ nm cdNs (k : Int))) 3 false v k 0 := by
  have : k = 0 ∨ k = 1 ∨ k = 2 ∨ k = 3 ∨ k = 4 ∨ k = 5 ∨ k = 6 ∨ k = 7 ∨ k = 8 ∨ k = 9 ∨ k = 10 ∨ k = 11 ∨ k = 12 ∨ k = 13 ∨ k = 14 ∨ k = 15 := by omega
  rcases this with h | h | h | h | h | h | h | h | h | h | h | h | h | h | h | h <;> subst h <;> cases v <;> exact ⟨by decide, by decide, by decide, by decide, by decide, by decide, by decide, by decide⟩
theorem cut_eq {s d p t : List UInt8} (h : cutF d s = some (p, t)) : cut1 s d = p ∧ cut2 s d = t ∧ cutB s d = true := ⟨by rw [cut1, h], by rw [cut2, h], by rw [cutB, h]; rfl⟩
theorem tl_yes {s : List UInt8} {x : Int} (hd : decR x = true) (hs : lineX x = s) : tlV s (uF x) (uU x) (uV x) (uA x) (uB x) (uC x) (uOp x) (uIm x) = .tuple #[.int .u32 x, .int .i64 0] := by
  have h := hd
  simp only [decR, Bool.and_eq_true, decide_eq_true_eq] at h
  have e : packI (uF x) (uU x) (uV x) (uA x) (uB x) (uC x) (uOp x) (uIm x) = x := h.2
  rw [tlV, if_pos, e]
  simp [tlB, h.1, e, hd, hs]
theorem tl_no {s : List UInt8} (h : ∀ x, 0 ≤ x → x < 4294967296 → decR x = true → lineX x ≠ s) (f : Int) (u v : Bool) (a b c op im : Int) : tlV s f u v a b c op im = noV := by
  rw [tlV, if_neg]
  intro hb
  simp only [tlB, Bool.and_eq_true, beq_iff_eq] at hb
  have hr := pack_range f u v a b c op im
  exact h _ hr.1 hr.2 hb.2.1 hb.2.2
theorem wV_no {s : List UInt8} (h : ∀ x, 0 ≤ x → x < 4294967296 → decR x = true → lineX x ≠ s) : wV s = noV := by
  unfold wV
  repeat' split
  all_goals first | rfl | exact tl_no h _ _ _ _ _ _ _ _
/- Three operands. -/
theorem three {n A B L : List UInt8} {f : Int} {u v : Bool} {a op : Int} (N : Nm n f u v a op) (hf : f = 0 ∨ f = 2) (hA : (44 : UInt8) ∉ A) (hB : (44 : UInt8) ∉ B) (hl : A.length + (B.length + L.length) ≤ 50) {s : List UInt8} (hs : s = n ++ [32] ++ (A ++ [44, 32] ++ (B ++ [44, 32] ++ L))) (kA : rgK A = true) (kB : rgK B = true)
    (kL : rgK L = true ∧ f = 0 ∨ rgK L = false ∧ numB L = true) :
    wV s = tlV s (rsF f (rgK L)) u v (rgV A) (rgV B) (if rgK L = true then rgV L else 0) op (if rgK L = true then 0 else numV L) := by
  have c1 := cut_eq (s := s) (by rw [hs]; exact cutF_at 32 [] n _ N.no)
  have c2 := cut_eq (cutF_at 44 [32] A (B ++ [44, 32] ++ L) hA)
  have c3 := cut_eq (cutF_at 44 [32] B L hB)
  have e1 : wN s = n := c1.1
  have e2 : wR s = A ++ [44, 32] ++ (B ++ [44, 32] ++ L) := c1.2.1
  have e3 : wA s = A := by rw [wA, e2]; exact c2.1
  have e4 : wM s = B ++ [44, 32] ++ L := by rw [wM, e2]; exact c2.2.1
  have e5 : wB s = B := by rw [wB, e4]; exact c3.1
  have e6 : wL s = L := by rw [wL, e4]; exact c3.2.1
  have hlen : ¬ 60 < s.length := by rw [hs]; have := N.len; simp; omega
  have hn3 : ¬ f = 3 := by omega
  have hb : rsB f true true (rgK L) (numB L) = true := by
    rcases kL with ⟨h1, rfl⟩ | ⟨h1, h2⟩
    · simp [rsB, h1]
    · simp [rsB, h1, h2]
  unfold wV
  rw [if_neg hlen, e1, e2, e3, e5, e6, c1.2.2, N.k, N.f, N.u, N.v, N.op, if_neg (by decide), if_neg hn3, kA, kB, if_pos hb]
/- One operand. -/
theorem one {n R : List UInt8} {u v : Bool} {a op : Int} (N : Nm n 3 u v a op) (hl : R.length ≤ 50) {s : List UInt8} (hs : s = n ++ [32] ++ R) (k : (rgK R || numB R) = true) :
    wV s = tlV s 3 (!rgK R) v a 0 (rgV R) op (if rgK R = true then 0 else numV R) := by
  have c1 := cut_eq (s := s) (by rw [hs]; exact cutF_at 32 [] n _ N.no)
  have e1 : wN s = n := c1.1
  have e2 : wR s = R := c1.2.1
  have hlen : ¬ 60 < s.length := by rw [hs]; have := N.len; simp; omega
  unfold wV
  rw [if_neg hlen, e1, e2, c1.2.2, N.k, N.f, N.v, N.a, N.op, if_neg (by decide), if_pos rfl, if_pos k]
end Go.Proofs.YtfdofleohichiaaGreatDoor.Asm
namespace Go.Proofs.YtfdofleohichiaaGreatDoor.Asm
open Go.RowKit Go.Proofs.YtfdofleohichiaaGreatDoor.Bits Go.Proofs.YtfdofleohichiaaGreatDoor.Gw Go.Proofs.YtfdofleohichiaaGreatDoor.Risc Go.Proofs.YtfdofleohichiaaGreatDoor.Tx
set_option linter.unusedVariables false
set_option linter.unusedSimpArgs false
set_option maxRecDepth 100000

theorem c44 {n : Int} (h0 : 0 ≤ n) (h1 : n ≤ 15) : (44 : UInt8) ∉ regI n := mem_reg (by omega) (by omega) (by decide) (by decide) (by decide)
theorem rlen (n : Int) : (regI n).length ≤ 14 := by have := decI_le n; simp [regI]; omega
theorem rgK_dec {n : Int} (h0 : -1000000000 < n) (h1 : n < 1000000000) : rgK (decI n) = false ∧ rgV (decI n) = 0 := by
  have := reg_dec n h0 h1
  exact ⟨by simp [rgK, this], by simp [rgV, this]⟩
theorem line_read (f : Int) (u v : Bool) (a b c op im : Int) (hg : goodR f u v a b c op im = true) : wV (lineI f u v a b c op im) = tlV (lineI f u v a b c op im) f u v a b c op im := by
  have R := good_rng hg
  have hf := good_form hg
  simp only [goodR, Bool.and_eq_true] at hg
  have hx := hg.2
  obtain ⟨ka, rfl⟩ := Int.eq_ofNat_of_zero_le R.a.1
  obtain ⟨ko, rfl⟩ := Int.eq_ofNat_of_zero_le R.op.1
  have q1 := R.a.2
  have q4 := R.op.2
  have ra := reg_reg R.a.1 R.a.2
  have rb := reg_reg R.b.1 R.b.2
  have rc := reg_reg R.c.1 R.c.2
  have la := rlen (ka : Int)
  have lb := rlen b
  have lc := rlen c
  have li := decI_le im
  rcases hf with rfl | rfl | rfl | rfl
  · simp only [if_pos, Bool.and_eq_true, decide_eq_true_eq] at hx
    obtain ⟨_, rfl⟩ := hx
    have h := three (s := lineI 0 u v ka b c ko 0) (nm_op ko (by omega) u v) (.inl rfl) (c44 R.a.1 R.a.2) (c44 R.b.1 R.b.2) (L := regI c) (by omega) (by simp [lineI, List.append_assoc]) ra.1 rb.1 (.inl ⟨rc.1, rfl⟩)
    rw [h, rc.1, ra.2, rb.2, rc.2]
    rfl
  · obtain ⟨i0, i1⟩ := R.f1 rfl
    have hn := num_dec (n := im) (by omega) (by omega)
    have hr := rgK_dec (n := im) (by omega) (by omega)
    have hc : c = 0 := by
      simp at hx
      exact hx.1.2
    subst hc
    have h := three (s := lineI 1 u v ka b 0 ko im) (nm_op ko (by omega) u v) (.inl rfl) (c44 R.a.1 R.a.2) (c44 R.b.1 R.b.2) (L := decI im) (by omega) (by simp [lineI, List.append_assoc]) ra.1 rb.1 (.inr ⟨hr.1, hn.2.2.1⟩)
    rw [h, hr.1, ra.2, rb.2, hn.2.2.2]
    rfl
  · obtain ⟨i0, i1⟩ := R.f2 rfl
    have hn := num_dec (n := im) (by omega) (by omega)
    have hr := rgK_dec (n := im) (by omega) (by omega)
    have hc : c = 0 ∧ (ko : Int) = 0 := by
      simp at hx
      exact ⟨hx.1.1, by have := hx.1.2; omega⟩
    obtain ⟨rfl, hk⟩ := hc
    rw [hk]
    have h := three (s := lineI 2 u v ka b 0 0 im) (nm_mem u v) (.inr rfl) (c44 R.a.1 R.a.2) (c44 R.b.1 R.b.2) (L := decI im) (by omega) (by simp [lineI, List.append_assoc]) ra.1 rb.1 (.inr ⟨hr.1, hn.2.2.1⟩)
    rw [h, hr.1, ra.2, rb.2, hn.2.2.2]
    rfl
  · obtain ⟨i0, i1⟩ := R.f3 rfl
    cases u
    · have hc : b = 0 ∧ (ko : Int) = 0 ∧ im = 0 := by
        simp at hx
        omega
      obtain ⟨rfl, hk, rfl⟩ := hc
      rw [hk]
      have h := one (s := lineI 3 false v ka 0 c 0 0) (nm_jump ka (by omega) v) (R := regI c) (by omega) (by simp [lineI, List.append_assoc]) (by rw [rc.1]; rfl)
      rw [h, rc.1, rc.2]
      rfl
    · have hc : b = 0 ∧ (ko : Int) = 0 ∧ c = 0 := by
        simp at hx
        omega
      obtain ⟨rfl, hk, rfl⟩ := hc
      rw [hk]
      have hn := num_dec (n := im) (by omega) (by omega)
      have hr := rgK_dec (n := im) (by omega) (by omega)
      have h := one (s := lineI 3 true v ka 0 0 0 im) (nm_jump ka (by omega) v) (R := decI im) (by omega) (by simp [lineI, List.append_assoc]) (by rw [hn.2.2.1]; simp)
      rw [h, hr.1, hr.2, hn.2.2.2]
      rfl
theorem wV_line {x : Int} (hd : decR x = true) : wV (lineX x) = .tuple #[.int .u32 x, .int .i64 0] := by
  have h := hd
  simp only [decR, Bool.and_eq_true] at h
  have := line_read _ _ _ _ _ _ _ _ h.1
  exact this.trans (tl_yes hd rfl)
/- A line is one word's alone. -/
theorem line_inj {x y : Int} (hx : decR x = true) (hy : decR y = true) (h : lineX x = lineX y) : x = y := by
  have e1 := wV_line hx
  rw [h, wV_line hy] at e1
  simp at e1
  exact e1.symm
end Go.Proofs.YtfdofleohichiaaGreatDoor.Asm
namespace Go.Proofs.YtfdofleohichiaaGreatDoor.Asm
open Go.RowKit Go.Proofs.YtfdofleohichiaaGreatDoor.Bits Go.Proofs.YtfdofleohichiaaGreatDoor.Gw Go.Proofs.YtfdofleohichiaaGreatDoor.Risc Go.Proofs.YtfdofleohichiaaGreatDoor.Tx
set_option linter.unusedVariables false
set_option linter.unusedSimpArgs false
set_option maxRecDepth 100000

def hexC (d : Nat) : UInt8 := UInt8.ofNat (if d < 10 then 48 + d else 87 + d)
def dgH (x : Int) (i : Nat) : Nat := (x.toNat / 16 ^ i) % 16
/- The digits from the one at 16^i down to the last. -/
def hexF (x : Int) : Nat → List UInt8
  | 0 => []
  | i + 1 => hexC (dgH x i) :: hexF x i
def hexL (x : Int) : List UInt8 := hexF x 8
theorem hex_len (x : Int) (n : Nat) : (hexF x n).length = n := by
  induction n with
  | zero => rfl
  | succ n ih => simp [hexF, ih]
def b8 (c : UInt8) : Value := .int .u8 (c.toNat : Int)
theorem Tryz.info8 : (Tryz.prog.info? 5).map (fun i => (i.zero, i.size, i.bytes)) = some (some (.int .u8 0), 1, 1) := by kernel_rfl
end Go.Proofs.YtfdofleohichiaaGreatDoor.Asm
