/-
  Rows of constants and of pairs, copied.
  The document's own constants (package spinetref12): Two.
  Constants, purely: what an operation of two tells, by the forms.
  The document's own constants (package spinetref12): Call.
  The document's own constants (package spinetref12): Call, of none, of two.
  The document's own constants (package spinetref12): Call, of one.
  The document's own constants (package spinetref12): Call, whole.
  ConstsCalls, walked.
-/
import Derived.Test.YtgdpcdpkaaefbaaCn19
import Derived.Laws.AppendOwnNone
import Derived.OwnWalk
import Derived.Test.YtgdpcdpkaaefbaaCr3
import Derived.Test.YtgdpcdpkaaefbaaCl4
namespace Go.Proofs.Ytgdpcdpkaaefbaa.Cn
open Go.RowKit hiding Hid
open Go.Maps Go.Proofs.Ytgdpcdpkaaefbaa.Tx Go.Proofs.Ytgdpcdpkaaefbaa.Lx Go.Proofs.Ytgdpcdpkaaefbaa.Mp Go.Proofs.Ytgdpcdpkaaefbaa.Bits Go.Proofs.Ytgdpcdpkaaefbaa.Tr Go.Proofs.Ytgdpcdpkaaefbaa.Bm
set_option linter.unusedVariables false
set_option linter.unusedSimpArgs false
set_option maxRecDepth 100000

theorem own_shape {w : World} {B n k : Nat} {e : TypeId} {v : Value} {xs : List Value} (h : w.ownsRow B e k v n xs) : ∃ a c, v = .slice a n c := by
  rcases h.2 with ⟨rfl, h0⟩ | ⟨g, cap, cur, rfl, _⟩
  · exact ⟨none, 0, by rw [h0]⟩
  · exact ⟨_, cap, rfl⟩
theorem own_cls {w : World} {B n k : Nat} {e : TypeId} {o : Option Addr} {m cp : Nat} {xs : List Value} (h : w.ownsRow B e k (.slice o m cp) n xs) (hn : xs.length = n * k) : Cls w o xs := by
  intro j u hu
  have hj := (List.getElem?_eq_some_iff.1 hu).1
  rcases h.2 with ⟨h1, h0⟩ | ⟨g, cap, cur, h1, hb, hg, hc, hm, hs, ht⟩
  · rw [h0, Nat.zero_mul] at hn
    omega
  · cases h1
    refine ⟨_, rfl, ?_⟩
    have ka : (⟨g, 0, none⟩ : Addr).add j = ⟨g, j, none⟩ := by unfold Addr.add; split <;> simp_all
    rw [ka, cell_of_row _ _ _ _ _ _ hg]
    have e2 := congrArg (fun l => l[j]?) ht
    rw [hu, List.getElem?_take, if_pos (by omega), Array.getElem?_toList] at e2
    exact e2
theorem Cx.gnew {w0 w w' : World} {A : Nat → Prop} {L : List Lc} {g : Nat} (H : Cx w0 A none L [] [] w) (hg : w.grownBy w' (some g)) (h0 : w0.heap.size ≤ g) (hn : ∀ p ∈ L, p.b ≠ g) : Cx w0 A none L [] [] w' :=
  ⟨grown_then H.grown hg (fun y e => by cases e; exact .inr h0), fun p hp => by rw [hg.block p.b (H.lt hp) (fun e => hn p hp (by simpa using e))]; exact H.loc p hp, H.old, H.dis, by simp, by simp, List.Pairwise.nil, by simp, fun x e => by cases e⟩
theorem flat_len {α : Type} {enc : α → List Value} {k : Nat} (hk : ∀ x, (enc x).length = k) (l : List α) : (l.flatMap enc).length = l.length * k := by
  induction l with
  | nil => simp
  | cons y l ih => rw [List.flatMap_cons, List.length_append, ih, hk, List.length_cons, Nat.succ_mul]; omega
theorem info_P : (Try.prog.info? 49).map (fun i => (i.zero, i.size, i.bytes)) = some (some (.agg #[.int .i64 0, .int .i64 0]), 2, 16) := by kernel_rfl
theorem one_P {l : List Pr} : ∀ u ∈ l.flatMap prC, u.oneCell' = true := by
  intro u hu
  rw [List.mem_flatMap] at hu
  obtain ⟨t, _, hu⟩ := hu
  simp [prC] at hu
  rcases hu with rfl | rfl <;> rfl
theorem wp_copyP {w : World} {ops : Array Oper} {rest : List Oper} {o : Oper} {a : Act} {Q : Exit → Act → World → Prop} (hgd : o.guard = none) (s x : Operand)
    (ho : o.op = .call { callee := .builtin .append, args := #[s, x], argTypes := #[41, 41] }) (g : Nat) (hs : a.eval s = .slice (some ⟨g, 0, none⟩) 0 0) (hg : w.heap[g]? = some (.cells #[] 49 (0, 0)))
    (ao : Option Addr) (n c : Nat) (hx : a.eval x = .slice ao n c) (l : List Pr) (hsrc : Cls w ao (l.flatMap prC)) (hn : l.length = n) (hc : ao = none → c = 0) (hn0 : ao = none → n = 0) (hlen : n ≤ 100000)
    (B : Nat) (hB : B ≤ g)
    (h : ∀ d c' w', Cls w' d (l.flatMap prC) → w.grownBy w' (some g) → wpList Try.prog ops Q rest (a.put o.dst (.slice d n c')) w') : wpList Try.prog ops Q (o :: rest) a w := by
  obtain ⟨i0, hi, hz0, hz1, hz2⟩ := info_parts info_P
  have hgl := (Array.getElem?_eq_some_iff.1 hg).1
  have hown : w.ownsRow B 49 2 (.slice (some ⟨g, 0, none⟩) 0 0) 0 [] := ⟨by simp, .inr ⟨g, 0, #[], rfl, hB, hg, Nat.le_refl _, by unfold maxLen; omega, by simp, by simp⟩⟩
  cases ao with
  | none =>
    have h0 := hn0 rfl
    have hts : l = [] := List.length_eq_zero_iff.1 (by omega)
    subst hts
    obtain rfl := hc rfl
    subst h0
    refine wpList_append_own_none hgd s x 41 ho B 49 i0 2 Try.underlying41 hi _ 0 _ hs hown hx ?_
    exact h _ _ w (fun j u hu => by simp at hu) ⟨rfl, rfl, rfl, Nat.le_refl _, fun _ _ _ => rfl⟩
  | some ad =>
    refine wpList_append_own w hgd s x 41 ho B 49 i0 _ 2 16 Try.underlying41 hi hz0 hz1 hz2 rfl (by decide) _ 0 _ hs hown ad n c (l.flatMap prC) hx (by rw [flat_len prC_len, hn]) (fun j u hu => by obtain ⟨a2, e, hc2⟩ := hsrc j u hu; cases e; exact hc2) one_P (by unfold maxLen; omega) (by omega) (by omega) ?_
    intro v' w' ho' hg' hv'
    simp only [Nat.zero_add, List.nil_append] at ho'
    obtain ⟨d, c', hv⟩ := own_shape ho'
    subst hv
    exact h d c' w' (own_cls ho' (by rw [flat_len prC_len, hn])) hg'
theorem info_V : (Try.prog.info? 23).map (fun i => (i.zero, i.size, i.bytes)) = some (some (.agg #[.int .i64 0, .int .i64 0, .string ⟨#[]⟩]), 3, 32) := by kernel_rfl
theorem one_V {l : List Vl} : ∀ u ∈ l.flatMap vC, u.oneCell' = true := by
  intro u hu
  rw [List.mem_flatMap] at hu
  obtain ⟨t, _, hu⟩ := hu
  simp [vC] at hu
  rcases hu with rfl | rfl | rfl <;> rfl
theorem wp_copyV {w : World} {ops : Array Oper} {rest : List Oper} {o : Oper} {a : Act} {Q : Exit → Act → World → Prop} (hgd : o.guard = none) (s x : Operand)
    (ho : o.op = .call { callee := .builtin .append, args := #[s, x], argTypes := #[37, 37] }) (g : Nat) (hs : a.eval s = .slice (some ⟨g, 0, none⟩) 0 0) (hg : w.heap[g]? = some (.cells #[] 23 (0, 0)))
    (ao : Option Addr) (n c : Nat) (hx : a.eval x = .slice ao n c) (l : List Vl) (hsrc : Cls w ao (l.flatMap vC)) (hn : l.length = n) (hc : ao = none → c = 0) (hn0 : ao = none → n = 0) (hlen : n ≤ 100000)
    (B : Nat) (hB : B ≤ g)
    (h : ∀ d c' w', Cls w' d (l.flatMap vC) → w.grownBy w' (some g) → wpList Try.prog ops Q rest (a.put o.dst (.slice d n c')) w') : wpList Try.prog ops Q (o :: rest) a w := by
  obtain ⟨i0, hi, hz0, hz1, hz2⟩ := info_parts info_V
  have hgl := (Array.getElem?_eq_some_iff.1 hg).1
  have hown : w.ownsRow B 23 3 (.slice (some ⟨g, 0, none⟩) 0 0) 0 [] := ⟨by simp, .inr ⟨g, 0, #[], rfl, hB, hg, Nat.le_refl _, by unfold maxLen; omega, by simp, by simp⟩⟩
  cases ao with
  | none =>
    have h0 := hn0 rfl
    have hts : l = [] := List.length_eq_zero_iff.1 (by omega)
    subst hts
    obtain rfl := hc rfl
    subst h0
    refine wpList_append_own_none hgd s x 37 ho B 23 i0 3 Try.underlying37 hi _ 0 _ hs hown hx ?_
    exact h _ _ w (fun j u hu => by simp at hu) ⟨rfl, rfl, rfl, Nat.le_refl _, fun _ _ _ => rfl⟩
  | some ad =>
    refine wpList_append_own w hgd s x 37 ho B 23 i0 _ 3 32 Try.underlying37 hi hz0 hz1 hz2 rfl (by decide) _ 0 _ hs hown ad n c (l.flatMap vC) hx (by rw [flat_len vC_len, hn]) (fun j u hu => by obtain ⟨a2, e, hc2⟩ := hsrc j u hu; cases e; exact hc2) one_V (by unfold maxLen; omega) (by omega) (by omega) ?_
    intro v' w' ho' hg' hv'
    simp only [Nat.zero_add, List.nil_append] at ho'
    obtain ⟨d, c', hv⟩ := own_shape ho'
    subst hv
    exact h d c' w' (own_cls ho' (by rw [flat_len vC_len, hn])) hg'
end Go.Proofs.Ytgdpcdpkaaefbaa.Cn
namespace Go.Proofs.Ytgdpcdpkaaefbaa.Cn
open Go.RowKit hiding Hid
open Go.Maps Go.Proofs.Ytgdpcdpkaaefbaa.Tx Go.Proofs.Ytgdpcdpkaaefbaa.Lx Go.Proofs.Ytgdpcdpkaaefbaa.Mp Go.Proofs.Ytgdpcdpkaaefbaa.Bits Go.Proofs.Ytgdpcdpkaaefbaa.Tr Go.Proofs.Ytgdpcdpkaaefbaa.Bm
set_option linter.unusedVariables false
set_option linter.unusedSimpArgs false
set_option maxRecDepth 100000

theorem rchar_as {a v : Vl} (ha : a.t.length ≤ 9223372036854775807) (h : chV a = v) : ∀ W, Calls Try.prog 37 #[.agg #[.int .i64 a.f, .int .i64 a.n, .string (bs a.t)]] W (Told W (.agg #[.int .i64 v.f, .int .i64 v.n, .string (bs v.t)])) := fun W => by
  have := rchar_at a ha W
  rw [h] at this
  exact this
theorem bes_y {a b : Vl} : (if a.f = 3 then chV b else b) = besV b a := by
  unfold besV chV
  by_cases h : a.f = 3
  · simp [h]
  · simp [h]
theorem bes_x {a b : Vl} : (if (besV b a).f = 3 then chV a else a) = besV a b := by
  unfold besV chV
  by_cases h3 : b.f = 3
  · have : ¬ (a.f = 3 ∧ b.f = 6 ∧ b.t.length = 1) := by omega
    rw [if_neg this, if_pos h3]
    simp [h3]
  · rw [if_neg (show ¬ (b.f = 3 ∧ a.f = 6 ∧ a.t.length = 1) from fun h => h3 h.1)]
    by_cases hc : a.f = 3 ∧ b.f = 6 ∧ b.t.length = 1
    · rw [if_pos hc]
      dsimp only
      rw [if_pos rfl, if_neg (by omega)]
    · rw [if_neg hc, if_neg h3]
theorem cells6 {w0 w : World} {A : Nat → Prop} {X : Option Nat} {p : Lc} {L : List Lc} {Rs : List Rw} {Ts : List (List Dt × List Value)} {b c : Nat} {u0 u1 u2 v0 v1 v2 : Value} {t t' : TypeId} (H : Cx w0 A X (p :: ⟨b, [u0, u1, u2], t⟩ :: ⟨c, [v0, v1, v2], t'⟩ :: L) Rs Ts w) : w.cell? ⟨b, 0, none⟩ = some u0 ∧ w.cell? ⟨b, 1, none⟩ = some u1 ∧ w.cell? ⟨b, 2, none⟩ = some u2 ∧ w.cell? ⟨c, 0, none⟩ = some v0 ∧ w.cell? ⟨c, 1, none⟩ = some v1 ∧ w.cell? ⟨c, 2, none⟩ = some v2 :=
  ⟨cell_of_row _ _ _ _ _ _ (H.loc _ (.tail _ (.head _))), cell_of_row _ _ _ _ _ _ (H.loc _ (.tail _ (.head _))), cell_of_row _ _ _ _ _ _ (H.loc _ (.tail _ (.head _))), cell_of_row _ _ _ _ _ _ (H.loc _ (.tail _ (.tail _ (.head _)))), cell_of_row _ _ _ _ _ _ (H.loc _ (.tail _ (.tail _ (.head _)))), cell_of_row _ _ _ _ _ _ (H.loc _ (.tail _ (.tail _ (.head _))))⟩
/- What the parts of a way tell, each as it is called. -/
def Gd (f n : Int) (t : List UInt8) (B : Bool) : Prop := ∀ W, Calls Try.prog 16 #[.agg #[.int .i64 f, .int .i64 n, .string (bs t)]] W (Told W (.bool B))
def Ch (f n : Int) (t : List UInt8) (g m : Int) (u : List UInt8) : Prop := ∀ W, Calls Try.prog 37 #[.agg #[.int .i64 f, .int .i64 n, .string (bs t)]] W (Told W (.agg #[.int .i64 g, .int .i64 m, .string (bs u)]))
def Rl (s : List UInt8) (o : Int) (B1 B2 : Bool) : Prop := ∀ W : World, Calls Try.prog 40 #[.string (bs s), .int .i64 o] W fun e w' => e = .returned (.tuple #[.bool B1, .bool B2]) ∧ w' = W
def Od (t u : List UInt8) (c : Int) : Prop := ∀ W : World, Calls Try.prog 39 #[.string (bs t), .string (bs u)] W fun e w' => e = .returned (.int .i64 c) ∧ w' = W
def Tr3 (F : FuncId) (ar : Array Value) (rf rn : Int) (rt : List UInt8) (re : Int) : Prop := ∀ W, Calls Try.prog F ar W (Told W (.tuple #[.agg #[.int .i64 rf, .int .i64 rn, .string (bs rt)], .int .i64 re]))
/- How two numbers lie to each other, and what the order is then. -/
def Nc (n m o : Int) : Prop := ((n != m) = false ∧ o = 0) ∨ ((n != m) = true ∧ n < m ∧ o = -1) ∨ ((n != m) = true ∧ ¬ n < m ∧ o = 1)
theorem nc_of (n m : Int) : Nc n m (cmI n m) := by
  unfold Nc cmI
  by_cases h1 : n < m
  · rw [if_pos h1]; exact .inr (.inl ⟨by simp; omega, h1, rfl⟩)
  · rw [if_neg h1]
    by_cases h2 : m < n
    · rw [if_pos h2]; exact .inr (.inr ⟨by simp; omega, h1, rfl⟩)
    · rw [if_neg h2]; exact .inl ⟨by simp; omega, rfl⟩
end Go.Proofs.Ytgdpcdpkaaefbaa.Cn
namespace Go.Proofs.Ytgdpcdpkaaefbaa.Cn
open Go.RowKit hiding Hid
open Go.Maps Go.Proofs.Ytgdpcdpkaaefbaa.Tx Go.Proofs.Ytgdpcdpkaaefbaa.Lx Go.Proofs.Ytgdpcdpkaaefbaa.Mp Go.Proofs.Ytgdpcdpkaaefbaa.Bits Go.Proofs.Ytgdpcdpkaaefbaa.Tr Go.Proofs.Ytgdpcdpkaaefbaa.Bm
set_option linter.unusedVariables false
set_option linter.unusedSimpArgs false
set_option maxRecDepth 100000

theorem cmI_0 {n m : Int} : cmI n m = 0 ↔ n = m := by
  unfold cmI
  by_cases h1 : n < m
  · rw [if_pos h1]; omega
  · rw [if_neg h1]
    by_cases h2 : m < n
    · rw [if_pos h2]; omega
    · rw [if_neg h2]; omega
theorem cmp_0 {t u : List UInt8} : Lib.compareBytes t u = 0 ↔ t = u := by
  rcases cmp3 t u with ⟨h1, h2⟩ | ⟨h1, h3, h2⟩ | ⟨h1, h3, h2⟩
  · rw [h2]
    constructor
    · intro h; cases h
    · intro e
      subst e
      rcases cmp3 t t with ⟨_, h⟩ | ⟨_, h, _⟩ | ⟨_, _, h⟩
      · have : ∀ l : List UInt8, Lib.compareBytes l l = 0 := by
          intro l
          induction l with
          | nil => rfl
          | cons x l ih => simp [Lib.compareBytes, ih]
        rw [this] at h; cases h
      · simp at h
      · rw [h2] at h; cases h
  · rw [h2]
    constructor
    · intro h; cases h
    · intro e; subst e; simp at h3
  · rw [h2]
    exact ⟨fun _ => by simpa using h3, fun _ => rfl⟩
theorem ord_0 (x y : Vl) : ordI x y = 0 ↔ x.n = y.n ∧ x.t = y.t := by
  unfold ordI orI
  by_cases h : cmI x.n y.n = 0
  · rw [if_pos h, cmp_0]
    exact ⟨fun e => ⟨cmI_0.1 h, e⟩, fun e => e.2⟩
  · rw [if_neg h]
    exact ⟨fun e => absurd e h, fun e => absurd (cmI_0.2 e.1) h⟩
theorem eqB_ord {x y : Vl} (h : x.f = y.f) : eqB x y = (ordI x y == 0) := by
  rw [Bool.eq_iff_iff]
  simp only [eqB, Bool.and_eq_true, beq_iff_eq]
  rw [ord_0]
  exact ⟨fun e => e.2, fun e => ⟨h, e⟩⟩
/- A sign of a relation, and which one. -/
def isRel (s : List UInt8) : Bool := (s == [61]) || ((s == [35]) || ((s == [60]) || ((s == [60, 61]) || ((s == [62]) || (s == [62, 61])))))
theorem rel_yes {s : List UInt8} (h : isRel s = true) (o : Int) : (relP s o).2 = true := by
  unfold isRel at h
  unfold relP
  simp only [Bool.or_eq_true, beq_iff_eq] at h
  rcases h with rfl | rfl | rfl | rfl | rfl | rfl <;> rfl
theorem rel_no {s : List UInt8} (h : isRel s = false) (o : Int) : relP s o = (false, false) := by
  unfold isRel at h
  simp only [Bool.or_eq_false_iff, beq_eq_false_iff_ne] at h
  obtain ⟨h1, h2, h3, h4, h5, h6⟩ := h
  unfold relP
  rw [if_neg h1, if_neg h2, if_neg h3, if_neg h4, if_neg h5, if_neg h6]
def memB (f : Int) (s : List UInt8) (c : Cd) : Bool := decide (((f, f, s), c) ∈ twosE)
theorem six {f : Int} (h0 : 1 ≤ f) (h1 : f ≤ 6) : f = 1 ∨ f = 2 ∨ f = 3 ∨ f = 4 ∨ f = 5 ∨ f = 6 := by omega
theorem hit {f : Int} {s : List UInt8} {c : Cd} {x y : Vl} (hx : x.f = f) (hy : y.f = f) (h : memB f s c = true) : rk twosE s x y = ev c x y := rk_hit twos_nd (by rw [hx, hy]; exact of_decide_eq_true h)
theorem rel_pure {x y : Vl} {s : List UInt8} (hxy : x.f = y.f) (h0 : 1 ≤ y.f) (h1 : y.f ≤ 6) (hs : isRel s = true) (ha : s = [61] ∨ s = [35] ∨ y.f = 1 ∨ y.f = 3 ∨ y.f = 6) : rk twosE s x y = bolR (relP s (ordI x y)).1 := by
  have hs' := hs
  unfold isRel at hs
  simp only [Bool.or_eq_true, beq_iff_eq] at hs
  rcases hs with rfl | rfl | rfl | rfl | rfl | rfl
  · rw [show (relP [61] (ordI x y)).1 = (ordI x y == 0) from rfl, ← eqB_ord hxy]
    rcases six h0 h1 with e | e | e | e | e | e <;> exact hit (c := .eq) (hxy.trans e) e (by kernel_rfl)
  · rw [show (relP [35] (ordI x y)).1 = !(ordI x y == 0) from rfl, ← eqB_ord hxy]
    rcases six h0 h1 with e | e | e | e | e | e <;> exact hit (c := .ne) (hxy.trans e) e (by kernel_rfl)
  · have hb : y.f = 1 ∨ y.f = 3 ∨ y.f = 6 := by simpa using ha
    rcases hb with e | e | e <;> exact hit (c := .lt) (hxy.trans e) e (by kernel_rfl)
  · have hb : y.f = 1 ∨ y.f = 3 ∨ y.f = 6 := by simpa using ha
    rcases hb with e | e | e <;> exact hit (c := .le) (hxy.trans e) e (by kernel_rfl)
  · have hb : y.f = 1 ∨ y.f = 3 ∨ y.f = 6 := by simpa using ha
    rcases hb with e | e | e <;> exact hit (c := .gt) (hxy.trans e) e (by kernel_rfl)
  · have hb : y.f = 1 ∨ y.f = 3 ∨ y.f = 6 := by simpa using ha
    rcases hb with e | e | e <;> exact hit (c := .ge) (hxy.trans e) e (by kernel_rfl)
theorem no_of {f g : Int} {L : List (List UInt8 × Cd)} (hL : sub twosE f g = L) {x y : Vl} (hx : x.f = f) (hy : y.f = g) {s : List UInt8} (h : L.all (fun p => p.1 != s) = true) : rk twosE s x y = noR := rk_no (by
  rw [hx, hy, hL]
  intro p hp
  have := List.all_eq_true.1 h p hp
  simpa using this)
theorem isRel_f {s : List UInt8} (h : isRel s = false) : ([61] != s) = true ∧ ([35] != s) = true ∧ ([60] != s) = true ∧ ([60, 61] != s) = true ∧ ([62] != s) = true ∧ ([62, 61] != s) = true := by
  unfold isRel at h
  simp only [Bool.or_eq_false_iff, beq_eq_false_iff_ne] at h
  obtain ⟨h1, h2, h3, h4, h5, h6⟩ := h
  simp [Ne.symm h1, Ne.symm h2, Ne.symm h3, Ne.symm h4, Ne.symm h5, Ne.symm h6]
theorem ints_pure {x y : Vl} {s : List UInt8} (hx : x.f = 1) (hy : y.f = 1) (hs : isRel s = false) : rk twosE s x y = intsP s x.n y.n := by
  obtain ⟨r1, r2, r3, r4, r5, r6⟩ := isRel_f hs
  unfold intsP
  by_cases h1 : s = [43]
  · rw [if_pos h1]; subst h1; exact hit (c := .add) hx hy (by kernel_rfl)
  rw [if_neg h1]
  by_cases h2 : s = [45]
  · rw [if_pos h2]; subst h2; exact hit (c := .sub) hx hy (by kernel_rfl)
  rw [if_neg h2]
  by_cases h3 : s = [42]
  · rw [if_pos h3]; subst h3; exact hit (c := .mul) hx hy (by kernel_rfl)
  rw [if_neg h3]
  by_cases h4 : s = [68, 73, 86]
  · rw [if_pos h4]; subst h4; exact hit (c := .quo) hx hy (by kernel_rfl)
  rw [if_neg h4]
  by_cases h5 : s = [77, 79, 68]
  · rw [if_pos h5]; subst h5; exact hit (c := .rem) hx hy (by kernel_rfl)
  rw [if_neg h5]
  refine no_of (L := [([43], .add), ([45], .sub), ([42], .mul), ([68, 73, 86], .quo), ([77, 79, 68], .rem), ([61], .eq), ([35], .ne), ([60], .lt), ([60, 61], .le), ([62], .gt), ([62, 61], .ge)]) (by kernel_rfl) hx hy ?_
  simp only [List.all_cons, List.all_nil, Bool.and_true, r1, r2, r3, r4, r5, r6]
  simp [Ne.symm h1, Ne.symm h2, Ne.symm h3, Ne.symm h4, Ne.symm h5]
theorem sets_pure {x y : Vl} {s : List UInt8} (hx : x.f = 4) (hy : y.f = 4) : ((sopP s (x.n % 4294967296) (y.n % 4294967296)).2 = true → rk twosE s x y = setR (sopP s (x.n % 4294967296) (y.n % 4294967296)).1 ∧ isRel s = false ∧ ¬ s = [73, 78]) ∧ ((sopP s (x.n % 4294967296) (y.n % 4294967296)).2 = false → ¬ s = [61] → ¬ s = [35] → rk twosE s x y = noR) := by
  unfold sopP
  by_cases h1 : s = [43]
  · rw [if_pos h1]; subst h1; exact ⟨fun _ => ⟨hit (c := .sor) hx hy (by kernel_rfl), rfl, by decide⟩, fun h => by cases h⟩
  rw [if_neg h1]
  by_cases h2 : s = [45]
  · rw [if_pos h2]; subst h2; exact ⟨fun _ => ⟨hit (c := .sdf) hx hy (by kernel_rfl), rfl, by decide⟩, fun h => by cases h⟩
  rw [if_neg h2]
  by_cases h3 : s = [42]
  · rw [if_pos h3]; subst h3; exact ⟨fun _ => ⟨hit (c := .san) hx hy (by kernel_rfl), rfl, by decide⟩, fun h => by cases h⟩
  rw [if_neg h3]
  by_cases h4 : s = [47]
  · rw [if_pos h4]; subst h4; exact ⟨fun _ => ⟨hit (c := .sxo) hx hy (by kernel_rfl), rfl, by decide⟩, fun h => by cases h⟩
  rw [if_neg h4]
  refine ⟨fun h => (by cases h), fun _ h5 h6 => no_of (L := [([43], .sor), ([45], .sdf), ([42], .san), ([47], .sxo), ([61], .eq), ([35], .ne)]) (by kernel_rfl) hx hy ?_⟩
  simp [Ne.symm h1, Ne.symm h2, Ne.symm h3, Ne.symm h4, Ne.symm h5, Ne.symm h6]
theorem none2 {x y : Vl} {s : List UInt8} (hx : x.f = 2) (hy : y.f = 2) (h1 : ¬ s = [38]) (h2 : ¬ s = [79, 82]) (h3 : ¬ s = [61]) (h4 : ¬ s = [35]) : rk twosE s x y = noR := by
  refine no_of (L := [([38], .and), ([79, 82], .or), ([61], .eq), ([35], .ne)]) (by kernel_rfl) hx hy ?_
  simp [Ne.symm h1, Ne.symm h2, Ne.symm h3, Ne.symm h4]
theorem none5 {x y : Vl} {s : List UInt8} (hx : x.f = 5) (hy : y.f = 5) (h3 : ¬ s = [61]) (h4 : ¬ s = [35]) : rk twosE s x y = noR := by
  refine no_of (L := [([61], .eq), ([35], .ne)]) (by kernel_rfl) hx hy ?_
  simp [Ne.symm h3, Ne.symm h4]
theorem none36 {x y : Vl} {s : List UInt8} {f : Int} (hf : f = 3 ∨ f = 6) (hx : x.f = f) (hy : y.f = f) (hs : isRel s = false) : rk twosE s x y = noR := by
  obtain ⟨r1, r2, r3, r4, r5, r6⟩ := isRel_f hs
  rcases hf with rfl | rfl
  · refine no_of (L := [([61], .eq), ([35], .ne), ([60], .lt), ([60, 61], .le), ([62], .gt), ([62, 61], .ge)]) (by kernel_rfl) hx hy ?_
    simp only [List.all_cons, List.all_nil, Bool.and_true, r1, r2, r3, r4, r5, r6]
  · refine no_of (L := [([61], .eq), ([35], .ne), ([60], .lt), ([60, 61], .le), ([62], .gt), ([62, 61], .ge)]) (by kernel_rfl) hx hy ?_
    simp only [List.all_cons, List.all_nil, Bool.and_true, r1, r2, r3, r4, r5, r6]
def unB (p : Ky × Cd) : Bool := (p.1.1 == p.1.2.1) || ((p.1.1 == 1) && ((p.1.2.1 == 4) && (p.1.2.2 == [73, 78])))
theorem un_all : twosE.all unB = true := by kernel_rfl
theorem none_un {x y : Vl} {s : List UInt8} (hne : ¬ x.f = y.f) (hin : ¬ (x.f = 1 ∧ y.f = 4 ∧ s = [73, 78])) : rk twosE s x y = noR := rk_miss (fun p hp e => by
  have := List.all_eq_true.1 un_all p hp
  unfold unB at this
  rw [e] at this
  simp only [Bool.or_eq_true, Bool.and_eq_true, beq_iff_eq] at this
  rcases this with h | h
  · exact hne h
  · exact hin h)
theorem in_hit {x y : Vl} (hx : x.f = 1) (hy : y.f = 4) : rk twosE [73, 78] x y = memR x y := rk_hit twos_nd (c := .isin) (by rw [hx, hy]; exact of_decide_eq_true (by kernel_rfl))
theorem emB (b : Bool) : b = false ∨ b = true := by cases b <;> simp
theorem tr_truth {B : Bool} {rf rn re : Int} {rt : List UInt8} (h : bolR B = (⟨rf, rn, rt⟩, re)) : Tr3 29 #[.bool B] rf rn rt re := rtruth_as h
theorem parts (R : Rs) : ∃ rf rn rt re, R = (⟨rf, rn, rt⟩, re) := ⟨R.1.f, R.1.n, R.1.t, R.2, rfl⟩
theorem mk_form {v : Vl} {f : Int} (hf : v.f = f) (ht : v.t = []) : v = ⟨f, v.n, []⟩ := by cases v; simp_all
theorem drewN_g (w : World) (d : Nat) : w.grownBy (w.drewN d) none := ⟨rfl, rfl, rfl, Nat.le_refl _, fun _ _ _ => rfl⟩
theorem chV_n {v : Vl} (h : ¬ v.f = 6) : chV v = v := if_neg (fun e => h e.1)
end Go.Proofs.Ytgdpcdpkaaefbaa.Cn
namespace Go.Proofs.Ytgdpcdpkaaefbaa.Cn
open Go.RowKit hiding Hid
open Go.Maps Go.Proofs.Ytgdpcdpkaaefbaa.Tx Go.Proofs.Ytgdpcdpkaaefbaa.Lx Go.Proofs.Ytgdpcdpkaaefbaa.Mp Go.Proofs.Ytgdpcdpkaaefbaa.Bits Go.Proofs.Ytgdpcdpkaaefbaa.Tr Go.Proofs.Ytgdpcdpkaaefbaa.Bm
set_option linter.unusedVariables false
set_option linter.unusedSimpArgs false
set_option maxRecDepth 100000

theorem cellh {w0 w : World} {A : Nat → Prop} {X : Option Nat} {L : List Lc} {Rs : List Rw} {Ts : List (List Dt × List Value)} {b : Nat} {u0 u1 u2 : Value} {t : TypeId} (H : Cx w0 A X (⟨b, [u0, u1, u2], t⟩ :: L) Rs Ts w) : w.cell? ⟨b, 0, none⟩ = some u0 ∧ w.cell? ⟨b, 1, none⟩ = some u1 ∧ w.cell? ⟨b, 2, none⟩ = some u2 :=
  ⟨cell_of_row _ _ _ _ _ _ (H.loc _ (.head _)), cell_of_row _ _ _ _ _ _ (H.loc _ (.head _)), cell_of_row _ _ _ _ _ _ (H.loc _ (.head _))⟩
/- The first of the values, the second, as they lie. -/
theorem first_of {w : World} {o : Option Addr} {v : Vl} {l : List Vl} (h : Cls w o ((v :: l).flatMap vC)) : ∃ ad, o = some ad ∧ ∀ j u, (vC v)[j]? = some u → w.cell? (ad.add j) = some u := by
  obtain ⟨ad, e, hc⟩ := h.el vC_len (by decide) (i := 0) (x := v) rfl
  exact ⟨ad, e, fun j u hu => by have := hc j u hu; rw [add_add, Nat.zero_mul, Nat.zero_add] at this; exact this⟩
theorem second_of {w : World} {ad : Addr} {v u : Vl} {l : List Vl} (h : Cls w (some ad) ((v :: u :: l).flatMap vC)) : ∀ j x, (vC u)[j]? = some x → w.cell? (ad.add (3 + j)) = some x := by
  obtain ⟨ad', e, hc⟩ := h.el vC_len (by decide) (i := 1) (x := u) rfl
  cases e
  exact fun j x hx => by have := hc j x hx; rw [add_add] at this; exact this
theorem three_of {w : World} {ad : Addr} {v : Vl} (h : ∀ j u, (vC v)[j]? = some u → w.cell? (ad.add j) = some u) : w.cell? ad = some (.int .i64 v.f) ∧ w.cell? ⟨ad.block, ad.off + 1, none⟩ = some (.int .i64 v.n) ∧ w.cell? ⟨ad.block, ad.off + 2, none⟩ = some (.string (bs v.t)) := by
  have h0 := h 0 _ rfl
  have h1 := h 1 _ rfl
  have h2 := h 2 _ rfl
  rw [Addr.add_zero'] at h0
  rw [Addr.add_succ'] at h1 h2
  exact ⟨h0, h1, h2⟩
theorem three_of' {w : World} {ad : Addr} {v : Vl} (h : ∀ j u, (vC v)[j]? = some u → w.cell? (ad.add (3 + j)) = some u) : w.cell? ⟨ad.block, ad.off + 3, none⟩ = some (.int .i64 v.f) ∧ w.cell? ⟨ad.block, ad.off + 4, none⟩ = some (.int .i64 v.n) := by
  have h0 := h 0 _ rfl
  have h1 := h 1 _ rfl
  rw [show 3 + 0 = 2 + 1 from rfl, Addr.add_succ'] at h0
  rw [show 3 + 1 = 3 + 1 from rfl, Addr.add_succ'] at h1
  exact ⟨h0, h1⟩
def Al (l : List Vl) : Prop := ∀ v ∈ l, goodV v = true ∧ v.t.length ≤ 9223372036854775807
end Go.Proofs.Ytgdpcdpkaaefbaa.Cn
namespace Go.Proofs.Ytgdpcdpkaaefbaa.Cn
open Go.RowKit hiding Hid
open Go.Maps Go.Proofs.Ytgdpcdpkaaefbaa.Tx Go.Proofs.Ytgdpcdpkaaefbaa.Lx Go.Proofs.Ytgdpcdpkaaefbaa.Mp Go.Proofs.Ytgdpcdpkaaefbaa.Bits Go.Proofs.Ytgdpcdpkaaefbaa.Tr Go.Proofs.Ytgdpcdpkaaefbaa.Bm
set_option linter.unusedVariables false
set_option linter.unusedSimpArgs false
set_option maxRecDepth 100000

set_option maxHeartbeats 12800000 in
theorem cno {s : List UInt8} {w : World} {o : Option Addr} {cp : Nat} {l : List Vl} (hl : l.length ≤ 1000000) (ha : Al l) (h : Cls w o (l.flatMap vC)) (h1 : ((l.length : Int) == 1) = false) (h2 : ((l.length : Int) == 2) = false) : Calls Try.prog 20 #[.string (bs s), .slice o l.length cp] w (Told w (.tuple #[.agg #[.int .i64 0, .int .i64 0, .string (bs [])], .int .i64 120])) := by
  have HC := hide (Cx.start w (fun _ => False))
  have HNO := hide rnone_as
  have HO := hide h
  have HAL := hide ha
  have k1 : (l.length : Int) ≤ 1000000 := by omega
  have MF := True.intro
  clear h hl ha
  (go_enter Try.func20, Try.ntmps20; go_wp2_with (first | (refine at_alloc 23 rfl ?_; refine wl_alloc rfl 23 rfl _ zV HC.out ?_; intro br w' hn hc; (replace HC := hide hc; clear hc))); go_loopw [6] (fun iv W => ∃ i : Nat, i ≤ l.length ∧ iv = .int .i64 i ∧ Hid (Cx w (fun _ => False) none [⟨br, [.int .i64 0, .int .i64 0, .string (bs [])], 23⟩] [] [] W)) (fun iv _ => l.length - (intOf iv).toNat))
  case atStart => exact ⟨0, by omega, rfl, HC⟩
  case round =>
    clear HC
    obtain ⟨i, hi, rfl, HC⟩ := hrel
    by_cases hlt : i < l.length
    · have j1 : (i : Int) < l.length := by omega
      obtain ⟨v, hv⟩ : ∃ p, l[i]? = some p := ⟨l[i], List.getElem?_eq_getElem hlt⟩
      have hvg := HAL.out v (List.mem_of_getElem? hv)
      obtain ⟨ad, rfl, hel⟩ := HO.out.el vC_len (by decide) hv
      have HEL := hide (fun W (hW : w.grownBy W none) j u (hu : (vC v)[j]? = some u) => hW.cell (hel j u hu) (by simp))
      unfold vC at HEL
      obtain ⟨B, hB⟩ : ∃ B, ad.add (i * 3) = B := ⟨_, rfl⟩
      rw [hB] at HEL
      have HGD := hide (rgood_as hvg.2 hvg.1)
      clear hel hv hvg
      go_wp2_with (first | (refine at_load 23 rfl ?_; refine wl_run rfl 23 _ rfl rfl (run_load_s tyV _ [.int .i64 v.f, .int .i64 v.n, .string (bs v.t)] rfl (HEL.out _ HC.out.grown)) ?_) | (go_at_call 16; (refine (HGD.out _).mono ?_; rintro e w2 ⟨rfl, hg⟩; (replace HC := hide (HC.out.g hg); clear hg))))
      go_roundw
      case rel => exact ⟨i + 1, by omega, by go_num, HC⟩
      case measure => simp [intOf]; omega
    · have j1 : ¬ (i : Int) < l.length := by omega
      have h1' : ((l.length : Int) != 1) = true := by simp only [bne, h1]; rfl
      go_wp2_with (first | (refine at_alloc 23 rfl ?_; refine wl_alloc rfl 23 rfl _ zV HC.out ?_; intro b w' hn hc; (replace HC := hide hc; clear hc)) | (clear MF; (refine at_load 23 rfl ?_; refine wl_run rfl 23 _ rfl rfl (run_load_s tyV _ [.int .i64 f, .int .i64 n, .string (bs t)] rfl (HFR.out _ HC.out.grown)) ?_)) | (refine at_load 23 rfl ?_; refine wl_load_s rfl 23 _ rfl tyV rfl HC.out (by repeat (first | exact List.Mem.head _ | apply List.Mem.tail)) (GetS.all _) rfl ?_) | (refine at_load 3 rfl ?_; refine wl_load_c rfl 3 _ rfl tcI rfl HC.out (by repeat (first | exact List.Mem.head _ | apply List.Mem.tail)) (by repeat (first | exact GetS.cons _ (GetS.nil _) | apply GetS.skip)) ?_) | (go_at_call 30; (refine (HNO.out _).mono ?_; rintro e w2 ⟨rfl, hg⟩; (replace HC := hide (HC.out.g hg); clear hg))) | (go_at_call 27; (refine (HI.out _).mono ?_; rintro e w2 ⟨rfl, hg⟩; (replace HC := hide (HC.out.g hg); clear hg))) | (go_at_call 29; (refine (HI.out _).mono ?_; rintro e w2 ⟨rfl, hg⟩; (replace HC := hide (HC.out.g hg); clear hg))) | (go_at_call 37; ((refine (HX.out _).mono ?_; rintro e w2 ⟨rfl, hg⟩; (replace HC := hide (HC.out.g hg); clear hg)); ((try clear p0 p1 p2); obtain ⟨p0, p1, p2⟩ := cellh HC.out))) | (go_at_call 45; (refine (HSG.out _).mono ?_; rintro e w2 ⟨rfl, rfl⟩)) | (go_at_call 46; (refine (HSH.out _).mono ?_; rintro e w2 ⟨rfl, rfl⟩)) | (go_at_call 47; (refine (HSH.out _).mono ?_; rintro e w2 ⟨rfl, rfl⟩)) | (go_at_call 48; (refine (HSH.out _).mono ?_; rintro e w2 ⟨rfl, rfl⟩)) | (refine at_store 23 rfl ?_; refine wl_store rfl 23 _ _ rfl rfl rfl tyV.sz rfl HC.out (by repeat (first | exact List.Mem.head _ | apply List.Mem.tail)) (by exact PutS.all _ _ rfl) (by repeat (first | exact Upd.here _ _ _ | apply Upd.there)) ?_; intro w' hc; (replace HC := hide hc; clear hc); ((try clear p0 p1 p2); obtain ⟨p0, p1, p2⟩ := cellh HC.out)))
      ((refine ret_two Try.results20 rfl rfl HC.out (by repeat (first | exact List.Mem.head _ | apply List.Mem.tail)) tyV rfl ?_); exact ⟨rfl, HC.out.grown⟩)

set_option maxHeartbeats 12800000 in
theorem cun {s : List UInt8} {w : World} {o : Option Addr} {cp : Nat} {l : List Vl} (hl : l.length ≤ 1000000) (ha : Al l) (h : Cls w o (l.flatMap vC)) {f n g m : Int} {t u : List UInt8} (hL : l = [⟨f, n, t⟩, ⟨g, m, u⟩]) (hs : (f == 1) = false ∨ ((f == 1) = true ∧ (g == 1) = false)) : Calls Try.prog 20 #[.string (bs s), .slice o l.length cp] w (Told w (.tuple #[.agg #[.int .i64 0, .int .i64 0, .string (bs [])], .int .i64 120])) := by
  have HC := hide (Cx.start w (fun _ => False))
  have HNO := hide rnone_as
  have HO := hide h
  have HAL := hide ha
  have k1 : (l.length : Int) ≤ 1000000 := by omega
  have MF := True.intro
  clear h hl ha
  have HLL := hide hL
  clear hL
  (go_enter Try.func20, Try.ntmps20; go_wp2_with (first | (refine at_alloc 23 rfl ?_; refine wl_alloc rfl 23 rfl _ zV HC.out ?_; intro br w' hn hc; (replace HC := hide hc; clear hc))); go_loopw [6] (fun iv W => ∃ i : Nat, i ≤ l.length ∧ iv = .int .i64 i ∧ Hid (Cx w (fun _ => False) none [⟨br, [.int .i64 0, .int .i64 0, .string (bs [])], 23⟩] [] [] W)) (fun iv _ => l.length - (intOf iv).toNat))
  case atStart => exact ⟨0, by omega, rfl, HC⟩
  case round =>
    clear HC
    obtain ⟨i, hi, rfl, HC⟩ := hrel
    by_cases hlt : i < l.length
    · have j1 : (i : Int) < l.length := by omega
      obtain ⟨v, hv⟩ : ∃ p, l[i]? = some p := ⟨l[i], List.getElem?_eq_getElem hlt⟩
      have hvg := HAL.out v (List.mem_of_getElem? hv)
      obtain ⟨ad, rfl, hel⟩ := HO.out.el vC_len (by decide) hv
      have HEL := hide (fun W (hW : w.grownBy W none) j u (hu : (vC v)[j]? = some u) => hW.cell (hel j u hu) (by simp))
      unfold vC at HEL
      obtain ⟨B, hB⟩ : ∃ B, ad.add (i * 3) = B := ⟨_, rfl⟩
      rw [hB] at HEL
      have HGD := hide (rgood_as hvg.2 hvg.1)
      clear hel hv hvg
      go_wp2_with (first | (refine at_load 23 rfl ?_; refine wl_run rfl 23 _ rfl rfl (run_load_s tyV _ [.int .i64 v.f, .int .i64 v.n, .string (bs v.t)] rfl (HEL.out _ HC.out.grown)) ?_) | (go_at_call 16; (refine (HGD.out _).mono ?_; rintro e w2 ⟨rfl, hg⟩; (replace HC := hide (HC.out.g hg); clear hg))))
      go_roundw
      case rel => exact ⟨i + 1, by omega, by go_num, HC⟩
      case measure => simp [intOf]; omega
    · have j1 : ¬ (i : Int) < l.length := by omega
      obtain rfl : i = l.length := by omega
      clear hi hlt j1 k1
      have hL := HLL.out
      clear HLL
      subst hL
      obtain ⟨ad, rfl, hf⟩ := first_of HO.out
      have hf2 := second_of HO.out
      obtain ⟨x0, x1, x2⟩ := three_of (fun j u hu => HC.out.grown.cell (hf j u hu) (by simp))
      obtain ⟨y0, y1⟩ := three_of' (fun j u hu => HC.out.grown.cell (hf2 j u hu) (by simp))
      have HW := hide (fun W (hW : w.grownBy W none) => (three_of (fun j u hu => hW.cell (hf j u hu) (by simp))).2.1)
      have HW2 := hide (fun W (hW : w.grownBy W none) => (three_of' (fun j u hu => hW.cell (hf2 j u hu) (by simp))).2)
      clear hf hf2
      rcases hs with e1 | ⟨e1, e2⟩
      · go_wp2_with (first | (refine at_alloc 23 rfl ?_; refine wl_alloc rfl 23 rfl _ zV HC.out ?_; intro b w' hn hc; (replace HC := hide hc; clear hc)) | (clear MF; (refine at_load 23 rfl ?_; refine wl_run rfl 23 _ rfl rfl (run_load_s tyV _ [.int .i64 f, .int .i64 n, .string (bs t)] rfl (HFR.out _ HC.out.grown)) ?_)) | (refine at_load 23 rfl ?_; refine wl_load_s rfl 23 _ rfl tyV rfl HC.out (by repeat (first | exact List.Mem.head _ | apply List.Mem.tail)) (GetS.all _) rfl ?_) | (refine at_load 3 rfl ?_; refine wl_load_c rfl 3 _ rfl tcI rfl HC.out (by repeat (first | exact List.Mem.head _ | apply List.Mem.tail)) (by repeat (first | exact GetS.cons _ (GetS.nil _) | apply GetS.skip)) ?_) | (go_at_call 30; (refine (HNO.out _).mono ?_; rintro e w2 ⟨rfl, hg⟩; (replace HC := hide (HC.out.g hg); clear hg))) | (go_at_call 27; (refine (HI.out _).mono ?_; rintro e w2 ⟨rfl, hg⟩; (replace HC := hide (HC.out.g hg); clear hg))) | (go_at_call 29; (refine (HI.out _).mono ?_; rintro e w2 ⟨rfl, hg⟩; (replace HC := hide (HC.out.g hg); clear hg))) | (go_at_call 37; ((refine (HX.out _).mono ?_; rintro e w2 ⟨rfl, hg⟩; (replace HC := hide (HC.out.g hg); clear hg)); ((try clear p0 p1 p2); obtain ⟨p0, p1, p2⟩ := cellh HC.out))) | (go_at_call 45; (refine (HSG.out _).mono ?_; rintro e w2 ⟨rfl, rfl⟩)) | (go_at_call 46; (refine (HSH.out _).mono ?_; rintro e w2 ⟨rfl, rfl⟩)) | (go_at_call 47; (refine (HSH.out _).mono ?_; rintro e w2 ⟨rfl, rfl⟩)) | (go_at_call 48; (refine (HSH.out _).mono ?_; rintro e w2 ⟨rfl, rfl⟩)) | (refine at_store 23 rfl ?_; refine wl_store rfl 23 _ _ rfl rfl rfl tyV.sz rfl HC.out (by repeat (first | exact List.Mem.head _ | apply List.Mem.tail)) (by exact PutS.all _ _ rfl) (by repeat (first | exact Upd.here _ _ _ | apply Upd.there)) ?_; intro w' hc; (replace HC := hide hc; clear hc); ((try clear p0 p1 p2); obtain ⟨p0, p1, p2⟩ := cellh HC.out)))
        ((refine ret_two Try.results20 rfl rfl HC.out (by repeat (first | exact List.Mem.head _ | apply List.Mem.tail)) tyV rfl ?_); exact ⟨rfl, HC.out.grown⟩)
      · go_wp2_with (first | (refine at_alloc 23 rfl ?_; refine wl_alloc rfl 23 rfl _ zV HC.out ?_; intro b w' hn hc; (replace HC := hide hc; clear hc)) | (clear MF; (refine at_load 23 rfl ?_; refine wl_run rfl 23 _ rfl rfl (run_load_s tyV _ [.int .i64 f, .int .i64 n, .string (bs t)] rfl (HFR.out _ HC.out.grown)) ?_)) | (refine at_load 23 rfl ?_; refine wl_load_s rfl 23 _ rfl tyV rfl HC.out (by repeat (first | exact List.Mem.head _ | apply List.Mem.tail)) (GetS.all _) rfl ?_) | (refine at_load 3 rfl ?_; refine wl_load_c rfl 3 _ rfl tcI rfl HC.out (by repeat (first | exact List.Mem.head _ | apply List.Mem.tail)) (by repeat (first | exact GetS.cons _ (GetS.nil _) | apply GetS.skip)) ?_) | (go_at_call 30; (refine (HNO.out _).mono ?_; rintro e w2 ⟨rfl, hg⟩; (replace HC := hide (HC.out.g hg); clear hg))) | (go_at_call 27; (refine (HI.out _).mono ?_; rintro e w2 ⟨rfl, hg⟩; (replace HC := hide (HC.out.g hg); clear hg))) | (go_at_call 29; (refine (HI.out _).mono ?_; rintro e w2 ⟨rfl, hg⟩; (replace HC := hide (HC.out.g hg); clear hg))) | (go_at_call 37; ((refine (HX.out _).mono ?_; rintro e w2 ⟨rfl, hg⟩; (replace HC := hide (HC.out.g hg); clear hg)); ((try clear p0 p1 p2); obtain ⟨p0, p1, p2⟩ := cellh HC.out))) | (go_at_call 45; (refine (HSG.out _).mono ?_; rintro e w2 ⟨rfl, rfl⟩)) | (go_at_call 46; (refine (HSH.out _).mono ?_; rintro e w2 ⟨rfl, rfl⟩)) | (go_at_call 47; (refine (HSH.out _).mono ?_; rintro e w2 ⟨rfl, rfl⟩)) | (go_at_call 48; (refine (HSH.out _).mono ?_; rintro e w2 ⟨rfl, rfl⟩)) | (refine at_store 23 rfl ?_; refine wl_store rfl 23 _ _ rfl rfl rfl tyV.sz rfl HC.out (by repeat (first | exact List.Mem.head _ | apply List.Mem.tail)) (by exact PutS.all _ _ rfl) (by repeat (first | exact Upd.here _ _ _ | apply Upd.there)) ?_; intro w' hc; (replace HC := hide hc; clear hc); ((try clear p0 p1 p2); obtain ⟨p0, p1, p2⟩ := cellh HC.out)))
        ((refine ret_two Try.results20 rfl rfl HC.out (by repeat (first | exact List.Mem.head _ | apply List.Mem.tail)) tyV rfl ?_); exact ⟨rfl, HC.out.grown⟩)

set_option maxHeartbeats 12800000 in
theorem csh0 {s : List UInt8} {w : World} {o : Option Addr} {cp : Nat} {l : List Vl} (hl : l.length ≤ 1000000) (ha : Al l) (h : Cls w o (l.flatMap vC)) {n m : Int} (hL : l = [⟨1, n, []⟩, ⟨1, m, []⟩])  (k0 : ((bs s).toList == [76, 83, 76]) = true) {rf rn re : Int} {rt : List UInt8} {Q Z : Int} (HSH : ∀ W : World, Calls Try.prog 46 #[.int .u32 (n % 4294967296), .int .u32 (m % 4294967296)] W fun e w' => e = .returned (.int .u32 Q) ∧ w' = W) (HSG : ∀ W : World, Calls Try.prog 45 #[.int .u32 Q] W fun e w' => e = .returned (.int .i64 Z) ∧ w' = W) (HI : Tr3 27 #[.int .i64 Z] rf rn rt re) : Calls Try.prog 20 #[.string (bs s), .slice o l.length cp] w (Told w (.tuple #[.agg #[.int .i64 rf, .int .i64 rn, .string (bs rt)], .int .i64 re])) := by
  have HC := hide (Cx.start w (fun _ => False))
  have HNO := hide rnone_as
  have HO := hide h
  have HAL := hide ha
  have k1 : (l.length : Int) ≤ 1000000 := by omega
  have MF := True.intro
  clear h hl ha
  have HLL := hide hL
  clear hL
  unfold Tr3 at HI
  replace HI := hide HI
  replace HSH := hide HSH
  replace HSG := hide HSG
  (go_enter Try.func20, Try.ntmps20; go_wp2_with (first | (refine at_alloc 23 rfl ?_; refine wl_alloc rfl 23 rfl _ zV HC.out ?_; intro br w' hn hc; (replace HC := hide hc; clear hc))); go_loopw [6] (fun iv W => ∃ i : Nat, i ≤ l.length ∧ iv = .int .i64 i ∧ Hid (Cx w (fun _ => False) none [⟨br, [.int .i64 0, .int .i64 0, .string (bs [])], 23⟩] [] [] W)) (fun iv _ => l.length - (intOf iv).toNat))
  case atStart => exact ⟨0, by omega, rfl, HC⟩
  case round =>
    clear HC
    obtain ⟨i, hi, rfl, HC⟩ := hrel
    by_cases hlt : i < l.length
    · have j1 : (i : Int) < l.length := by omega
      obtain ⟨v, hv⟩ : ∃ p, l[i]? = some p := ⟨l[i], List.getElem?_eq_getElem hlt⟩
      have hvg := HAL.out v (List.mem_of_getElem? hv)
      obtain ⟨ad, rfl, hel⟩ := HO.out.el vC_len (by decide) hv
      have HEL := hide (fun W (hW : w.grownBy W none) j u (hu : (vC v)[j]? = some u) => hW.cell (hel j u hu) (by simp))
      unfold vC at HEL
      obtain ⟨B, hB⟩ : ∃ B, ad.add (i * 3) = B := ⟨_, rfl⟩
      rw [hB] at HEL
      have HGD := hide (rgood_as hvg.2 hvg.1)
      clear hel hv hvg
      go_wp2_with (first | (refine at_load 23 rfl ?_; refine wl_run rfl 23 _ rfl rfl (run_load_s tyV _ [.int .i64 v.f, .int .i64 v.n, .string (bs v.t)] rfl (HEL.out _ HC.out.grown)) ?_) | (go_at_call 16; (refine (HGD.out _).mono ?_; rintro e w2 ⟨rfl, hg⟩; (replace HC := hide (HC.out.g hg); clear hg))))
      go_roundw
      case rel => exact ⟨i + 1, by omega, by go_num, HC⟩
      case measure => simp [intOf]; omega
    · have j1 : ¬ (i : Int) < l.length := by omega
      obtain rfl : i = l.length := by omega
      clear hi hlt j1 k1
      have hL := HLL.out
      clear HLL
      subst hL
      obtain ⟨ad, rfl, hf⟩ := first_of HO.out
      have hf2 := second_of HO.out
      obtain ⟨x0, x1, x2⟩ := three_of (fun j u hu => HC.out.grown.cell (hf j u hu) (by simp))
      obtain ⟨y0, y1⟩ := three_of' (fun j u hu => HC.out.grown.cell (hf2 j u hu) (by simp))
      have HW := hide (fun W (hW : w.grownBy W none) => (three_of (fun j u hu => hW.cell (hf j u hu) (by simp))).2.1)
      have HW2 := hide (fun W (hW : w.grownBy W none) => (three_of' (fun j u hu => hW.cell (hf2 j u hu) (by simp))).2)
      clear hf hf2
      go_wp2_with fail
      (replace HC := hide (HC.out.g (d1_g _)); have HC0 := HC; refine wp_region_inO (fun W => World.grownBy _ W none) 99 [0, 1, 2, 3, 5, 6, 7, 8, 10, 11] [0, 1, 2, 3, 5, 6, 7, 8, 4, 9, 10, 11] (by kernel_rfl) (by kernel_rfl) (by kernel_rfl) (by kernel_rfl) (fun _ _ d _ _ h => by cases d <;> exact h) (gr_ref _ _) ?_; have HS := hide (gr_of HC.out none))
      (refine inO_read (v := ?_) rfl rfl (Or.inl ⟨by rfl, ?_⟩) ?_; rotate_left 1; (focus (intro W hSW; clear hSW; go_simp; (try (with_reducible rfl)))); (try simp only [Act.put, List.getElem_toArray, List.getElem_cons_zero, List.getElem_cons_succ, List.setIfInBounds_toArray, List.set_cons_zero, List.set_cons_succ]))
      (refine inO_read (v := ?_) rfl rfl (Or.inl ⟨by rfl, ?_⟩) ?_; rotate_left 1; (focus (intro W hSW; clear hSW; go_simp; (try (with_reducible rfl)))); (try simp only [Act.put, List.getElem_toArray, List.getElem_cons_zero, List.getElem_cons_succ, List.setIfInBounds_toArray, List.set_cons_zero, List.set_cons_succ]))
      (refine inO_read (v := ?_) rfl rfl (Or.inl ⟨by rfl, ?_⟩) ?_; rotate_left 1; (focus (intro W hSW; clear hSW; go_simp; (try (with_reducible rfl)))); (try simp only [Act.put, List.getElem_toArray, List.getElem_cons_zero, List.getElem_cons_succ, List.setIfInBounds_toArray, List.set_cons_zero, List.set_cons_succ]))
      refine inO_read rfl rfl (yl_cell tcI rfl rfl rfl (fun W hW => HW.out W (gr_then0 HC0.out.grown hW))) ?_
      (try simp only [Act.put, List.getElem_toArray, List.getElem_cons_zero, List.getElem_cons_succ, List.setIfInBounds_toArray, List.set_cons_zero, List.set_cons_succ])
      (refine inO_read (v := ?_) rfl rfl (Or.inl ⟨by rfl, ?_⟩) ?_; rotate_left 1; (focus (intro W hSW; clear hSW; go_simp; (try (with_reducible rfl)))); (try simp only [Act.put, List.getElem_toArray, List.getElem_cons_zero, List.getElem_cons_succ, List.setIfInBounds_toArray, List.set_cons_zero, List.set_cons_succ]))
      (refine inO_read (v := ?_) rfl rfl (Or.inl ⟨by rfl, ?_⟩) ?_; rotate_left 1; (focus (intro W hSW; clear hSW; go_simp; (try (with_reducible rfl)))); (try simp only [Act.put, List.getElem_toArray, List.getElem_cons_zero, List.getElem_cons_succ, List.setIfInBounds_toArray, List.set_cons_zero, List.set_cons_succ]))
      (refine inO_read (v := ?_) rfl rfl (Or.inl ⟨by rfl, ?_⟩) ?_; rotate_left 1; (focus (intro W hSW; clear hSW; go_simp; (try (with_reducible rfl)))); (try simp only [Act.put, List.getElem_toArray, List.getElem_cons_zero, List.getElem_cons_succ, List.setIfInBounds_toArray, List.set_cons_zero, List.set_cons_succ]))
      refine inO_read rfl rfl (yl_cell tcI rfl rfl rfl (fun W hW => HW2.out W (gr_then0 HC0.out.grown hW))) ?_
      (try simp only [Act.put, List.getElem_toArray, List.getElem_cons_zero, List.getElem_cons_succ, List.setIfInBounds_toArray, List.set_cons_zero, List.set_cons_succ])
      (refine inO_act rfl rfl rfl (fun K' hK => ?_))
      go_simp
      refine (rword_any _ _).mono ?_
      rintro e w1 ⟨rfl, rfl⟩
      refine hK _ _ (.inr HS.out) ?_
      clear hK K'
      (try simp only [Act.put, List.getElem_toArray, List.getElem_cons_zero, List.getElem_cons_succ, List.setIfInBounds_toArray, List.set_cons_zero, List.set_cons_succ])
      (refine inO_act rfl rfl rfl (fun K' hK => ?_))
      go_simp
      refine (rword_any _ _).mono ?_
      rintro e w1 ⟨rfl, rfl⟩
      refine hK _ _ (.inr HS.out) ?_
      clear hK K'
      (try simp only [Act.put, List.getElem_toArray, List.getElem_cons_zero, List.getElem_cons_succ, List.setIfInBounds_toArray, List.set_cons_zero, List.set_cons_succ])
      (refine inO_read (v := ?_) rfl rfl (Or.inl ⟨by rfl, ?_⟩) ?_; rotate_left 1; (focus (intro W hSW; clear hSW; go_simp; (try (with_reducible rfl)))); (try simp only [Act.put, List.getElem_toArray, List.getElem_cons_zero, List.getElem_cons_succ, List.setIfInBounds_toArray, List.set_cons_zero, List.set_cons_succ]))
      (refine inO_read (v := ?_) rfl rfl (Or.inl ⟨by rfl, ?_⟩) ?_; rotate_left 1; (focus (intro W hSW; clear hSW; go_simp; (try (with_reducible rfl)))); (try simp only [Act.put, List.getElem_toArray, List.getElem_cons_zero, List.getElem_cons_succ, List.setIfInBounds_toArray, List.set_cons_zero, List.set_cons_succ]))
      (refine inO_end ?_)
      clear HC0 HS
      go_wp2_with (first | (refine at_alloc 23 rfl ?_; refine wl_alloc rfl 23 rfl _ zV HC.out ?_; intro b w' hn hc; (replace HC := hide hc; clear hc)) | (clear MF; (refine at_load 23 rfl ?_; refine wl_run rfl 23 _ rfl rfl (run_load_s tyV _ [.int .i64 f, .int .i64 n, .string (bs t)] rfl (HFR.out _ HC.out.grown)) ?_)) | (refine at_load 23 rfl ?_; refine wl_load_s rfl 23 _ rfl tyV rfl HC.out (by repeat (first | exact List.Mem.head _ | apply List.Mem.tail)) (GetS.all _) rfl ?_) | (refine at_load 3 rfl ?_; refine wl_load_c rfl 3 _ rfl tcI rfl HC.out (by repeat (first | exact List.Mem.head _ | apply List.Mem.tail)) (by repeat (first | exact GetS.cons _ (GetS.nil _) | apply GetS.skip)) ?_) | (go_at_call 30; (refine (HNO.out _).mono ?_; rintro e w2 ⟨rfl, hg⟩; (replace HC := hide (HC.out.g hg); clear hg))) | (go_at_call 27; (refine (HI.out _).mono ?_; rintro e w2 ⟨rfl, hg⟩; (replace HC := hide (HC.out.g hg); clear hg))) | (go_at_call 29; (refine (HI.out _).mono ?_; rintro e w2 ⟨rfl, hg⟩; (replace HC := hide (HC.out.g hg); clear hg))) | (go_at_call 37; ((refine (HX.out _).mono ?_; rintro e w2 ⟨rfl, hg⟩; (replace HC := hide (HC.out.g hg); clear hg)); ((try clear p0 p1 p2); obtain ⟨p0, p1, p2⟩ := cellh HC.out))) | (go_at_call 45; (refine (HSG.out _).mono ?_; rintro e w2 ⟨rfl, rfl⟩)) | (go_at_call 46; (refine (HSH.out _).mono ?_; rintro e w2 ⟨rfl, rfl⟩)) | (go_at_call 47; (refine (HSH.out _).mono ?_; rintro e w2 ⟨rfl, rfl⟩)) | (go_at_call 48; (refine (HSH.out _).mono ?_; rintro e w2 ⟨rfl, rfl⟩)) | (refine at_store 23 rfl ?_; refine wl_store rfl 23 _ _ rfl rfl rfl tyV.sz rfl HC.out (by repeat (first | exact List.Mem.head _ | apply List.Mem.tail)) (by exact PutS.all _ _ rfl) (by repeat (first | exact Upd.here _ _ _ | apply Upd.there)) ?_; intro w' hc; (replace HC := hide hc; clear hc); ((try clear p0 p1 p2); obtain ⟨p0, p1, p2⟩ := cellh HC.out)))
      ((refine ret_two Try.results20 rfl rfl HC.out (by repeat (first | exact List.Mem.head _ | apply List.Mem.tail)) tyV rfl ?_); exact ⟨rfl, HC.out.grown⟩)

set_option maxHeartbeats 12800000 in
theorem csh1 {s : List UInt8} {w : World} {o : Option Addr} {cp : Nat} {l : List Vl} (hl : l.length ≤ 1000000) (ha : Al l) (h : Cls w o (l.flatMap vC)) {n m : Int} (hL : l = [⟨1, n, []⟩, ⟨1, m, []⟩]) (k0 : ((bs s).toList == [76, 83, 76]) = false) (k1 : ((bs s).toList == [65, 83, 82]) = true) {rf rn re : Int} {rt : List UInt8} {Q Z : Int} (HSH : ∀ W : World, Calls Try.prog 47 #[.int .u32 (n % 4294967296), .int .u32 (m % 4294967296)] W fun e w' => e = .returned (.int .u32 Q) ∧ w' = W) (HSG : ∀ W : World, Calls Try.prog 45 #[.int .u32 Q] W fun e w' => e = .returned (.int .i64 Z) ∧ w' = W) (HI : Tr3 27 #[.int .i64 Z] rf rn rt re) : Calls Try.prog 20 #[.string (bs s), .slice o l.length cp] w (Told w (.tuple #[.agg #[.int .i64 rf, .int .i64 rn, .string (bs rt)], .int .i64 re])) := by
  have HC := hide (Cx.start w (fun _ => False))
  have HNO := hide rnone_as
  have HO := hide h
  have HAL := hide ha
  have k1 : (l.length : Int) ≤ 1000000 := by omega
  have MF := True.intro
  clear h hl ha
  have HLL := hide hL
  clear hL
  unfold Tr3 at HI
  replace HI := hide HI
  replace HSH := hide HSH
  replace HSG := hide HSG
  (go_enter Try.func20, Try.ntmps20; go_wp2_with (first | (refine at_alloc 23 rfl ?_; refine wl_alloc rfl 23 rfl _ zV HC.out ?_; intro br w' hn hc; (replace HC := hide hc; clear hc))); go_loopw [6] (fun iv W => ∃ i : Nat, i ≤ l.length ∧ iv = .int .i64 i ∧ Hid (Cx w (fun _ => False) none [⟨br, [.int .i64 0, .int .i64 0, .string (bs [])], 23⟩] [] [] W)) (fun iv _ => l.length - (intOf iv).toNat))
  case atStart => exact ⟨0, by omega, rfl, HC⟩
  case round =>
    clear HC
    obtain ⟨i, hi, rfl, HC⟩ := hrel
    by_cases hlt : i < l.length
    · have j1 : (i : Int) < l.length := by omega
      obtain ⟨v, hv⟩ : ∃ p, l[i]? = some p := ⟨l[i], List.getElem?_eq_getElem hlt⟩
      have hvg := HAL.out v (List.mem_of_getElem? hv)
      obtain ⟨ad, rfl, hel⟩ := HO.out.el vC_len (by decide) hv
      have HEL := hide (fun W (hW : w.grownBy W none) j u (hu : (vC v)[j]? = some u) => hW.cell (hel j u hu) (by simp))
      unfold vC at HEL
      obtain ⟨B, hB⟩ : ∃ B, ad.add (i * 3) = B := ⟨_, rfl⟩
      rw [hB] at HEL
      have HGD := hide (rgood_as hvg.2 hvg.1)
      clear hel hv hvg
      go_wp2_with (first | (refine at_load 23 rfl ?_; refine wl_run rfl 23 _ rfl rfl (run_load_s tyV _ [.int .i64 v.f, .int .i64 v.n, .string (bs v.t)] rfl (HEL.out _ HC.out.grown)) ?_) | (go_at_call 16; (refine (HGD.out _).mono ?_; rintro e w2 ⟨rfl, hg⟩; (replace HC := hide (HC.out.g hg); clear hg))))
      go_roundw
      case rel => exact ⟨i + 1, by omega, by go_num, HC⟩
      case measure => simp [intOf]; omega
    · have j1 : ¬ (i : Int) < l.length := by omega
      obtain rfl : i = l.length := by omega
      clear hi hlt j1 k1
      have hL := HLL.out
      clear HLL
      subst hL
      obtain ⟨ad, rfl, hf⟩ := first_of HO.out
      have hf2 := second_of HO.out
      obtain ⟨x0, x1, x2⟩ := three_of (fun j u hu => HC.out.grown.cell (hf j u hu) (by simp))
      obtain ⟨y0, y1⟩ := three_of' (fun j u hu => HC.out.grown.cell (hf2 j u hu) (by simp))
      have HW := hide (fun W (hW : w.grownBy W none) => (three_of (fun j u hu => hW.cell (hf j u hu) (by simp))).2.1)
      have HW2 := hide (fun W (hW : w.grownBy W none) => (three_of' (fun j u hu => hW.cell (hf2 j u hu) (by simp))).2)
      clear hf hf2
      go_wp2_with fail
      (replace HC := hide (HC.out.g (d1_g _)); have HC0 := HC; refine wp_region_inO (fun W => World.grownBy _ W none) 99 [0, 1, 2, 3, 5, 6, 7, 8, 10, 11] [0, 1, 2, 3, 5, 6, 7, 8, 4, 9, 10, 11] (by kernel_rfl) (by kernel_rfl) (by kernel_rfl) (by kernel_rfl) (fun _ _ d _ _ h => by cases d <;> exact h) (gr_ref _ _) ?_; have HS := hide (gr_of HC.out none))
      (refine inO_read (v := ?_) rfl rfl (Or.inl ⟨by rfl, ?_⟩) ?_; rotate_left 1; (focus (intro W hSW; clear hSW; go_simp; (try (with_reducible rfl)))); (try simp only [Act.put, List.getElem_toArray, List.getElem_cons_zero, List.getElem_cons_succ, List.setIfInBounds_toArray, List.set_cons_zero, List.set_cons_succ]))
      (refine inO_read (v := ?_) rfl rfl (Or.inl ⟨by rfl, ?_⟩) ?_; rotate_left 1; (focus (intro W hSW; clear hSW; go_simp; (try (with_reducible rfl)))); (try simp only [Act.put, List.getElem_toArray, List.getElem_cons_zero, List.getElem_cons_succ, List.setIfInBounds_toArray, List.set_cons_zero, List.set_cons_succ]))
      (refine inO_read (v := ?_) rfl rfl (Or.inl ⟨by rfl, ?_⟩) ?_; rotate_left 1; (focus (intro W hSW; clear hSW; go_simp; (try (with_reducible rfl)))); (try simp only [Act.put, List.getElem_toArray, List.getElem_cons_zero, List.getElem_cons_succ, List.setIfInBounds_toArray, List.set_cons_zero, List.set_cons_succ]))
      refine inO_read rfl rfl (yl_cell tcI rfl rfl rfl (fun W hW => HW.out W (gr_then0 HC0.out.grown hW))) ?_
      (try simp only [Act.put, List.getElem_toArray, List.getElem_cons_zero, List.getElem_cons_succ, List.setIfInBounds_toArray, List.set_cons_zero, List.set_cons_succ])
      (refine inO_read (v := ?_) rfl rfl (Or.inl ⟨by rfl, ?_⟩) ?_; rotate_left 1; (focus (intro W hSW; clear hSW; go_simp; (try (with_reducible rfl)))); (try simp only [Act.put, List.getElem_toArray, List.getElem_cons_zero, List.getElem_cons_succ, List.setIfInBounds_toArray, List.set_cons_zero, List.set_cons_succ]))
      (refine inO_read (v := ?_) rfl rfl (Or.inl ⟨by rfl, ?_⟩) ?_; rotate_left 1; (focus (intro W hSW; clear hSW; go_simp; (try (with_reducible rfl)))); (try simp only [Act.put, List.getElem_toArray, List.getElem_cons_zero, List.getElem_cons_succ, List.setIfInBounds_toArray, List.set_cons_zero, List.set_cons_succ]))
      (refine inO_read (v := ?_) rfl rfl (Or.inl ⟨by rfl, ?_⟩) ?_; rotate_left 1; (focus (intro W hSW; clear hSW; go_simp; (try (with_reducible rfl)))); (try simp only [Act.put, List.getElem_toArray, List.getElem_cons_zero, List.getElem_cons_succ, List.setIfInBounds_toArray, List.set_cons_zero, List.set_cons_succ]))
      refine inO_read rfl rfl (yl_cell tcI rfl rfl rfl (fun W hW => HW2.out W (gr_then0 HC0.out.grown hW))) ?_
      (try simp only [Act.put, List.getElem_toArray, List.getElem_cons_zero, List.getElem_cons_succ, List.setIfInBounds_toArray, List.set_cons_zero, List.set_cons_succ])
      (refine inO_act rfl rfl rfl (fun K' hK => ?_))
      go_simp
      refine (rword_any _ _).mono ?_
      rintro e w1 ⟨rfl, rfl⟩
      refine hK _ _ (.inr HS.out) ?_
      clear hK K'
      (try simp only [Act.put, List.getElem_toArray, List.getElem_cons_zero, List.getElem_cons_succ, List.setIfInBounds_toArray, List.set_cons_zero, List.set_cons_succ])
      (refine inO_act rfl rfl rfl (fun K' hK => ?_))
      go_simp
      refine (rword_any _ _).mono ?_
      rintro e w1 ⟨rfl, rfl⟩
      refine hK _ _ (.inr HS.out) ?_
      clear hK K'
      (try simp only [Act.put, List.getElem_toArray, List.getElem_cons_zero, List.getElem_cons_succ, List.setIfInBounds_toArray, List.set_cons_zero, List.set_cons_succ])
      (refine inO_read (v := ?_) rfl rfl (Or.inl ⟨by rfl, ?_⟩) ?_; rotate_left 1; (focus (intro W hSW; clear hSW; go_simp; (try (with_reducible rfl)))); (try simp only [Act.put, List.getElem_toArray, List.getElem_cons_zero, List.getElem_cons_succ, List.setIfInBounds_toArray, List.set_cons_zero, List.set_cons_succ]))
      (refine inO_read (v := ?_) rfl rfl (Or.inl ⟨by rfl, ?_⟩) ?_; rotate_left 1; (focus (intro W hSW; clear hSW; go_simp; (try (with_reducible rfl)))); (try simp only [Act.put, List.getElem_toArray, List.getElem_cons_zero, List.getElem_cons_succ, List.setIfInBounds_toArray, List.set_cons_zero, List.set_cons_succ]))
      (refine inO_end ?_)
      clear HC0 HS
      go_wp2_with (first | (refine at_alloc 23 rfl ?_; refine wl_alloc rfl 23 rfl _ zV HC.out ?_; intro b w' hn hc; (replace HC := hide hc; clear hc)) | (clear MF; (refine at_load 23 rfl ?_; refine wl_run rfl 23 _ rfl rfl (run_load_s tyV _ [.int .i64 f, .int .i64 n, .string (bs t)] rfl (HFR.out _ HC.out.grown)) ?_)) | (refine at_load 23 rfl ?_; refine wl_load_s rfl 23 _ rfl tyV rfl HC.out (by repeat (first | exact List.Mem.head _ | apply List.Mem.tail)) (GetS.all _) rfl ?_) | (refine at_load 3 rfl ?_; refine wl_load_c rfl 3 _ rfl tcI rfl HC.out (by repeat (first | exact List.Mem.head _ | apply List.Mem.tail)) (by repeat (first | exact GetS.cons _ (GetS.nil _) | apply GetS.skip)) ?_) | (go_at_call 30; (refine (HNO.out _).mono ?_; rintro e w2 ⟨rfl, hg⟩; (replace HC := hide (HC.out.g hg); clear hg))) | (go_at_call 27; (refine (HI.out _).mono ?_; rintro e w2 ⟨rfl, hg⟩; (replace HC := hide (HC.out.g hg); clear hg))) | (go_at_call 29; (refine (HI.out _).mono ?_; rintro e w2 ⟨rfl, hg⟩; (replace HC := hide (HC.out.g hg); clear hg))) | (go_at_call 37; ((refine (HX.out _).mono ?_; rintro e w2 ⟨rfl, hg⟩; (replace HC := hide (HC.out.g hg); clear hg)); ((try clear p0 p1 p2); obtain ⟨p0, p1, p2⟩ := cellh HC.out))) | (go_at_call 45; (refine (HSG.out _).mono ?_; rintro e w2 ⟨rfl, rfl⟩)) | (go_at_call 46; (refine (HSH.out _).mono ?_; rintro e w2 ⟨rfl, rfl⟩)) | (go_at_call 47; (refine (HSH.out _).mono ?_; rintro e w2 ⟨rfl, rfl⟩)) | (go_at_call 48; (refine (HSH.out _).mono ?_; rintro e w2 ⟨rfl, rfl⟩)) | (refine at_store 23 rfl ?_; refine wl_store rfl 23 _ _ rfl rfl rfl tyV.sz rfl HC.out (by repeat (first | exact List.Mem.head _ | apply List.Mem.tail)) (by exact PutS.all _ _ rfl) (by repeat (first | exact Upd.here _ _ _ | apply Upd.there)) ?_; intro w' hc; (replace HC := hide hc; clear hc); ((try clear p0 p1 p2); obtain ⟨p0, p1, p2⟩ := cellh HC.out)))
      ((refine ret_two Try.results20 rfl rfl HC.out (by repeat (first | exact List.Mem.head _ | apply List.Mem.tail)) tyV rfl ?_); exact ⟨rfl, HC.out.grown⟩)

set_option maxHeartbeats 12800000 in
theorem csh2 {s : List UInt8} {w : World} {o : Option Addr} {cp : Nat} {l : List Vl} (hl : l.length ≤ 1000000) (ha : Al l) (h : Cls w o (l.flatMap vC)) {n m : Int} (hL : l = [⟨1, n, []⟩, ⟨1, m, []⟩]) (k0 : ((bs s).toList == [76, 83, 76]) = false) (k1 : ((bs s).toList == [65, 83, 82]) = false) (k2 : ((bs s).toList == [82, 79, 82]) = true) {rf rn re : Int} {rt : List UInt8} {Q Z : Int} (HSH : ∀ W : World, Calls Try.prog 48 #[.int .u32 (n % 4294967296), .int .u32 (m % 4294967296)] W fun e w' => e = .returned (.int .u32 Q) ∧ w' = W) (HSG : ∀ W : World, Calls Try.prog 45 #[.int .u32 Q] W fun e w' => e = .returned (.int .i64 Z) ∧ w' = W) (HI : Tr3 27 #[.int .i64 Z] rf rn rt re) : Calls Try.prog 20 #[.string (bs s), .slice o l.length cp] w (Told w (.tuple #[.agg #[.int .i64 rf, .int .i64 rn, .string (bs rt)], .int .i64 re])) := by
  have HC := hide (Cx.start w (fun _ => False))
  have HNO := hide rnone_as
  have HO := hide h
  have HAL := hide ha
  have k1 : (l.length : Int) ≤ 1000000 := by omega
  have MF := True.intro
  clear h hl ha
  have HLL := hide hL
  clear hL
  unfold Tr3 at HI
  replace HI := hide HI
  replace HSH := hide HSH
  replace HSG := hide HSG
  (go_enter Try.func20, Try.ntmps20; go_wp2_with (first | (refine at_alloc 23 rfl ?_; refine wl_alloc rfl 23 rfl _ zV HC.out ?_; intro br w' hn hc; (replace HC := hide hc; clear hc))); go_loopw [6] (fun iv W => ∃ i : Nat, i ≤ l.length ∧ iv = .int .i64 i ∧ Hid (Cx w (fun _ => False) none [⟨br, [.int .i64 0, .int .i64 0, .string (bs [])], 23⟩] [] [] W)) (fun iv _ => l.length - (intOf iv).toNat))
  case atStart => exact ⟨0, by omega, rfl, HC⟩
  case round =>
    clear HC
    obtain ⟨i, hi, rfl, HC⟩ := hrel
    by_cases hlt : i < l.length
    · have j1 : (i : Int) < l.length := by omega
      obtain ⟨v, hv⟩ : ∃ p, l[i]? = some p := ⟨l[i], List.getElem?_eq_getElem hlt⟩
      have hvg := HAL.out v (List.mem_of_getElem? hv)
      obtain ⟨ad, rfl, hel⟩ := HO.out.el vC_len (by decide) hv
      have HEL := hide (fun W (hW : w.grownBy W none) j u (hu : (vC v)[j]? = some u) => hW.cell (hel j u hu) (by simp))
      unfold vC at HEL
      obtain ⟨B, hB⟩ : ∃ B, ad.add (i * 3) = B := ⟨_, rfl⟩
      rw [hB] at HEL
      have HGD := hide (rgood_as hvg.2 hvg.1)
      clear hel hv hvg
      go_wp2_with (first | (refine at_load 23 rfl ?_; refine wl_run rfl 23 _ rfl rfl (run_load_s tyV _ [.int .i64 v.f, .int .i64 v.n, .string (bs v.t)] rfl (HEL.out _ HC.out.grown)) ?_) | (go_at_call 16; (refine (HGD.out _).mono ?_; rintro e w2 ⟨rfl, hg⟩; (replace HC := hide (HC.out.g hg); clear hg))))
      go_roundw
      case rel => exact ⟨i + 1, by omega, by go_num, HC⟩
      case measure => simp [intOf]; omega
    · have j1 : ¬ (i : Int) < l.length := by omega
      obtain rfl : i = l.length := by omega
      clear hi hlt j1 k1
      have hL := HLL.out
      clear HLL
      subst hL
      obtain ⟨ad, rfl, hf⟩ := first_of HO.out
      have hf2 := second_of HO.out
      obtain ⟨x0, x1, x2⟩ := three_of (fun j u hu => HC.out.grown.cell (hf j u hu) (by simp))
      obtain ⟨y0, y1⟩ := three_of' (fun j u hu => HC.out.grown.cell (hf2 j u hu) (by simp))
      have HW := hide (fun W (hW : w.grownBy W none) => (three_of (fun j u hu => hW.cell (hf j u hu) (by simp))).2.1)
      have HW2 := hide (fun W (hW : w.grownBy W none) => (three_of' (fun j u hu => hW.cell (hf2 j u hu) (by simp))).2)
      clear hf hf2
      go_wp2_with fail
      (replace HC := hide (HC.out.g (d1_g _)); have HC0 := HC; refine wp_region_inO (fun W => World.grownBy _ W none) 99 [0, 1, 2, 3, 5, 6, 7, 8, 10, 11] [0, 1, 2, 3, 5, 6, 7, 8, 4, 9, 10, 11] (by kernel_rfl) (by kernel_rfl) (by kernel_rfl) (by kernel_rfl) (fun _ _ d _ _ h => by cases d <;> exact h) (gr_ref _ _) ?_; have HS := hide (gr_of HC.out none))
      (refine inO_read (v := ?_) rfl rfl (Or.inl ⟨by rfl, ?_⟩) ?_; rotate_left 1; (focus (intro W hSW; clear hSW; go_simp; (try (with_reducible rfl)))); (try simp only [Act.put, List.getElem_toArray, List.getElem_cons_zero, List.getElem_cons_succ, List.setIfInBounds_toArray, List.set_cons_zero, List.set_cons_succ]))
      (refine inO_read (v := ?_) rfl rfl (Or.inl ⟨by rfl, ?_⟩) ?_; rotate_left 1; (focus (intro W hSW; clear hSW; go_simp; (try (with_reducible rfl)))); (try simp only [Act.put, List.getElem_toArray, List.getElem_cons_zero, List.getElem_cons_succ, List.setIfInBounds_toArray, List.set_cons_zero, List.set_cons_succ]))
      (refine inO_read (v := ?_) rfl rfl (Or.inl ⟨by rfl, ?_⟩) ?_; rotate_left 1; (focus (intro W hSW; clear hSW; go_simp; (try (with_reducible rfl)))); (try simp only [Act.put, List.getElem_toArray, List.getElem_cons_zero, List.getElem_cons_succ, List.setIfInBounds_toArray, List.set_cons_zero, List.set_cons_succ]))
      refine inO_read rfl rfl (yl_cell tcI rfl rfl rfl (fun W hW => HW.out W (gr_then0 HC0.out.grown hW))) ?_
      (try simp only [Act.put, List.getElem_toArray, List.getElem_cons_zero, List.getElem_cons_succ, List.setIfInBounds_toArray, List.set_cons_zero, List.set_cons_succ])
      (refine inO_read (v := ?_) rfl rfl (Or.inl ⟨by rfl, ?_⟩) ?_; rotate_left 1; (focus (intro W hSW; clear hSW; go_simp; (try (with_reducible rfl)))); (try simp only [Act.put, List.getElem_toArray, List.getElem_cons_zero, List.getElem_cons_succ, List.setIfInBounds_toArray, List.set_cons_zero, List.set_cons_succ]))
      (refine inO_read (v := ?_) rfl rfl (Or.inl ⟨by rfl, ?_⟩) ?_; rotate_left 1; (focus (intro W hSW; clear hSW; go_simp; (try (with_reducible rfl)))); (try simp only [Act.put, List.getElem_toArray, List.getElem_cons_zero, List.getElem_cons_succ, List.setIfInBounds_toArray, List.set_cons_zero, List.set_cons_succ]))
      (refine inO_read (v := ?_) rfl rfl (Or.inl ⟨by rfl, ?_⟩) ?_; rotate_left 1; (focus (intro W hSW; clear hSW; go_simp; (try (with_reducible rfl)))); (try simp only [Act.put, List.getElem_toArray, List.getElem_cons_zero, List.getElem_cons_succ, List.setIfInBounds_toArray, List.set_cons_zero, List.set_cons_succ]))
      refine inO_read rfl rfl (yl_cell tcI rfl rfl rfl (fun W hW => HW2.out W (gr_then0 HC0.out.grown hW))) ?_
      (try simp only [Act.put, List.getElem_toArray, List.getElem_cons_zero, List.getElem_cons_succ, List.setIfInBounds_toArray, List.set_cons_zero, List.set_cons_succ])
      (refine inO_act rfl rfl rfl (fun K' hK => ?_))
      go_simp
      refine (rword_any _ _).mono ?_
      rintro e w1 ⟨rfl, rfl⟩
      refine hK _ _ (.inr HS.out) ?_
      clear hK K'
      (try simp only [Act.put, List.getElem_toArray, List.getElem_cons_zero, List.getElem_cons_succ, List.setIfInBounds_toArray, List.set_cons_zero, List.set_cons_succ])
      (refine inO_act rfl rfl rfl (fun K' hK => ?_))
      go_simp
      refine (rword_any _ _).mono ?_
      rintro e w1 ⟨rfl, rfl⟩
      refine hK _ _ (.inr HS.out) ?_
      clear hK K'
      (try simp only [Act.put, List.getElem_toArray, List.getElem_cons_zero, List.getElem_cons_succ, List.setIfInBounds_toArray, List.set_cons_zero, List.set_cons_succ])
      (refine inO_read (v := ?_) rfl rfl (Or.inl ⟨by rfl, ?_⟩) ?_; rotate_left 1; (focus (intro W hSW; clear hSW; go_simp; (try (with_reducible rfl)))); (try simp only [Act.put, List.getElem_toArray, List.getElem_cons_zero, List.getElem_cons_succ, List.setIfInBounds_toArray, List.set_cons_zero, List.set_cons_succ]))
      (refine inO_read (v := ?_) rfl rfl (Or.inl ⟨by rfl, ?_⟩) ?_; rotate_left 1; (focus (intro W hSW; clear hSW; go_simp; (try (with_reducible rfl)))); (try simp only [Act.put, List.getElem_toArray, List.getElem_cons_zero, List.getElem_cons_succ, List.setIfInBounds_toArray, List.set_cons_zero, List.set_cons_succ]))
      (refine inO_end ?_)
      clear HC0 HS
      go_wp2_with (first | (refine at_alloc 23 rfl ?_; refine wl_alloc rfl 23 rfl _ zV HC.out ?_; intro b w' hn hc; (replace HC := hide hc; clear hc)) | (clear MF; (refine at_load 23 rfl ?_; refine wl_run rfl 23 _ rfl rfl (run_load_s tyV _ [.int .i64 f, .int .i64 n, .string (bs t)] rfl (HFR.out _ HC.out.grown)) ?_)) | (refine at_load 23 rfl ?_; refine wl_load_s rfl 23 _ rfl tyV rfl HC.out (by repeat (first | exact List.Mem.head _ | apply List.Mem.tail)) (GetS.all _) rfl ?_) | (refine at_load 3 rfl ?_; refine wl_load_c rfl 3 _ rfl tcI rfl HC.out (by repeat (first | exact List.Mem.head _ | apply List.Mem.tail)) (by repeat (first | exact GetS.cons _ (GetS.nil _) | apply GetS.skip)) ?_) | (go_at_call 30; (refine (HNO.out _).mono ?_; rintro e w2 ⟨rfl, hg⟩; (replace HC := hide (HC.out.g hg); clear hg))) | (go_at_call 27; (refine (HI.out _).mono ?_; rintro e w2 ⟨rfl, hg⟩; (replace HC := hide (HC.out.g hg); clear hg))) | (go_at_call 29; (refine (HI.out _).mono ?_; rintro e w2 ⟨rfl, hg⟩; (replace HC := hide (HC.out.g hg); clear hg))) | (go_at_call 37; ((refine (HX.out _).mono ?_; rintro e w2 ⟨rfl, hg⟩; (replace HC := hide (HC.out.g hg); clear hg)); ((try clear p0 p1 p2); obtain ⟨p0, p1, p2⟩ := cellh HC.out))) | (go_at_call 45; (refine (HSG.out _).mono ?_; rintro e w2 ⟨rfl, rfl⟩)) | (go_at_call 46; (refine (HSH.out _).mono ?_; rintro e w2 ⟨rfl, rfl⟩)) | (go_at_call 47; (refine (HSH.out _).mono ?_; rintro e w2 ⟨rfl, rfl⟩)) | (go_at_call 48; (refine (HSH.out _).mono ?_; rintro e w2 ⟨rfl, rfl⟩)) | (refine at_store 23 rfl ?_; refine wl_store rfl 23 _ _ rfl rfl rfl tyV.sz rfl HC.out (by repeat (first | exact List.Mem.head _ | apply List.Mem.tail)) (by exact PutS.all _ _ rfl) (by repeat (first | exact Upd.here _ _ _ | apply Upd.there)) ?_; intro w' hc; (replace HC := hide hc; clear hc); ((try clear p0 p1 p2); obtain ⟨p0, p1, p2⟩ := cellh HC.out)))
      ((refine ret_two Try.results20 rfl rfl HC.out (by repeat (first | exact List.Mem.head _ | apply List.Mem.tail)) tyV rfl ?_); exact ⟨rfl, HC.out.grown⟩)

set_option maxHeartbeats 12800000 in
theorem cshn {s : List UInt8} {w : World} {o : Option Addr} {cp : Nat} {l : List Vl} (hl : l.length ≤ 1000000) (ha : Al l) (h : Cls w o (l.flatMap vC)) {n m : Int} (hL : l = [⟨1, n, []⟩, ⟨1, m, []⟩]) (k0 : ((bs s).toList == [76, 83, 76]) = false) (k1 : ((bs s).toList == [65, 83, 82]) = false) (k2 : ((bs s).toList == [82, 79, 82]) = false) : Calls Try.prog 20 #[.string (bs s), .slice o l.length cp] w (Told w (.tuple #[.agg #[.int .i64 0, .int .i64 0, .string (bs [])], .int .i64 120])) := by
  have HC := hide (Cx.start w (fun _ => False))
  have HNO := hide rnone_as
  have HO := hide h
  have HAL := hide ha
  have k1 : (l.length : Int) ≤ 1000000 := by omega
  have MF := True.intro
  clear h hl ha
  have HLL := hide hL
  clear hL
  (go_enter Try.func20, Try.ntmps20; go_wp2_with (first | (refine at_alloc 23 rfl ?_; refine wl_alloc rfl 23 rfl _ zV HC.out ?_; intro br w' hn hc; (replace HC := hide hc; clear hc))); go_loopw [6] (fun iv W => ∃ i : Nat, i ≤ l.length ∧ iv = .int .i64 i ∧ Hid (Cx w (fun _ => False) none [⟨br, [.int .i64 0, .int .i64 0, .string (bs [])], 23⟩] [] [] W)) (fun iv _ => l.length - (intOf iv).toNat))
  case atStart => exact ⟨0, by omega, rfl, HC⟩
  case round =>
    clear HC
    obtain ⟨i, hi, rfl, HC⟩ := hrel
    by_cases hlt : i < l.length
    · have j1 : (i : Int) < l.length := by omega
      obtain ⟨v, hv⟩ : ∃ p, l[i]? = some p := ⟨l[i], List.getElem?_eq_getElem hlt⟩
      have hvg := HAL.out v (List.mem_of_getElem? hv)
      obtain ⟨ad, rfl, hel⟩ := HO.out.el vC_len (by decide) hv
      have HEL := hide (fun W (hW : w.grownBy W none) j u (hu : (vC v)[j]? = some u) => hW.cell (hel j u hu) (by simp))
      unfold vC at HEL
      obtain ⟨B, hB⟩ : ∃ B, ad.add (i * 3) = B := ⟨_, rfl⟩
      rw [hB] at HEL
      have HGD := hide (rgood_as hvg.2 hvg.1)
      clear hel hv hvg
      go_wp2_with (first | (refine at_load 23 rfl ?_; refine wl_run rfl 23 _ rfl rfl (run_load_s tyV _ [.int .i64 v.f, .int .i64 v.n, .string (bs v.t)] rfl (HEL.out _ HC.out.grown)) ?_) | (go_at_call 16; (refine (HGD.out _).mono ?_; rintro e w2 ⟨rfl, hg⟩; (replace HC := hide (HC.out.g hg); clear hg))))
      go_roundw
      case rel => exact ⟨i + 1, by omega, by go_num, HC⟩
      case measure => simp [intOf]; omega
    · have j1 : ¬ (i : Int) < l.length := by omega
      obtain rfl : i = l.length := by omega
      clear hi hlt j1 k1
      have hL := HLL.out
      clear HLL
      subst hL
      obtain ⟨ad, rfl, hf⟩ := first_of HO.out
      have hf2 := second_of HO.out
      obtain ⟨x0, x1, x2⟩ := three_of (fun j u hu => HC.out.grown.cell (hf j u hu) (by simp))
      obtain ⟨y0, y1⟩ := three_of' (fun j u hu => HC.out.grown.cell (hf2 j u hu) (by simp))
      have HW := hide (fun W (hW : w.grownBy W none) => (three_of (fun j u hu => hW.cell (hf j u hu) (by simp))).2.1)
      have HW2 := hide (fun W (hW : w.grownBy W none) => (three_of' (fun j u hu => hW.cell (hf2 j u hu) (by simp))).2)
      clear hf hf2
      go_wp2_with fail
      (replace HC := hide (HC.out.g (d1_g _)); have HC0 := HC; refine wp_region_inO (fun W => World.grownBy _ W none) 99 [0, 1, 2, 3, 5, 6, 7, 8, 10, 11] [0, 1, 2, 3, 5, 6, 7, 8, 4, 9, 10, 11] (by kernel_rfl) (by kernel_rfl) (by kernel_rfl) (by kernel_rfl) (fun _ _ d _ _ h => by cases d <;> exact h) (gr_ref _ _) ?_; have HS := hide (gr_of HC.out none))
      (refine inO_read (v := ?_) rfl rfl (Or.inl ⟨by rfl, ?_⟩) ?_; rotate_left 1; (focus (intro W hSW; clear hSW; go_simp; (try (with_reducible rfl)))); (try simp only [Act.put, List.getElem_toArray, List.getElem_cons_zero, List.getElem_cons_succ, List.setIfInBounds_toArray, List.set_cons_zero, List.set_cons_succ]))
      (refine inO_read (v := ?_) rfl rfl (Or.inl ⟨by rfl, ?_⟩) ?_; rotate_left 1; (focus (intro W hSW; clear hSW; go_simp; (try (with_reducible rfl)))); (try simp only [Act.put, List.getElem_toArray, List.getElem_cons_zero, List.getElem_cons_succ, List.setIfInBounds_toArray, List.set_cons_zero, List.set_cons_succ]))
      (refine inO_read (v := ?_) rfl rfl (Or.inl ⟨by rfl, ?_⟩) ?_; rotate_left 1; (focus (intro W hSW; clear hSW; go_simp; (try (with_reducible rfl)))); (try simp only [Act.put, List.getElem_toArray, List.getElem_cons_zero, List.getElem_cons_succ, List.setIfInBounds_toArray, List.set_cons_zero, List.set_cons_succ]))
      refine inO_read rfl rfl (yl_cell tcI rfl rfl rfl (fun W hW => HW.out W (gr_then0 HC0.out.grown hW))) ?_
      (try simp only [Act.put, List.getElem_toArray, List.getElem_cons_zero, List.getElem_cons_succ, List.setIfInBounds_toArray, List.set_cons_zero, List.set_cons_succ])
      (refine inO_read (v := ?_) rfl rfl (Or.inl ⟨by rfl, ?_⟩) ?_; rotate_left 1; (focus (intro W hSW; clear hSW; go_simp; (try (with_reducible rfl)))); (try simp only [Act.put, List.getElem_toArray, List.getElem_cons_zero, List.getElem_cons_succ, List.setIfInBounds_toArray, List.set_cons_zero, List.set_cons_succ]))
      (refine inO_read (v := ?_) rfl rfl (Or.inl ⟨by rfl, ?_⟩) ?_; rotate_left 1; (focus (intro W hSW; clear hSW; go_simp; (try (with_reducible rfl)))); (try simp only [Act.put, List.getElem_toArray, List.getElem_cons_zero, List.getElem_cons_succ, List.setIfInBounds_toArray, List.set_cons_zero, List.set_cons_succ]))
      (refine inO_read (v := ?_) rfl rfl (Or.inl ⟨by rfl, ?_⟩) ?_; rotate_left 1; (focus (intro W hSW; clear hSW; go_simp; (try (with_reducible rfl)))); (try simp only [Act.put, List.getElem_toArray, List.getElem_cons_zero, List.getElem_cons_succ, List.setIfInBounds_toArray, List.set_cons_zero, List.set_cons_succ]))
      refine inO_read rfl rfl (yl_cell tcI rfl rfl rfl (fun W hW => HW2.out W (gr_then0 HC0.out.grown hW))) ?_
      (try simp only [Act.put, List.getElem_toArray, List.getElem_cons_zero, List.getElem_cons_succ, List.setIfInBounds_toArray, List.set_cons_zero, List.set_cons_succ])
      (refine inO_act rfl rfl rfl (fun K' hK => ?_))
      go_simp
      refine (rword_any _ _).mono ?_
      rintro e w1 ⟨rfl, rfl⟩
      refine hK _ _ (.inr HS.out) ?_
      clear hK K'
      (try simp only [Act.put, List.getElem_toArray, List.getElem_cons_zero, List.getElem_cons_succ, List.setIfInBounds_toArray, List.set_cons_zero, List.set_cons_succ])
      (refine inO_act rfl rfl rfl (fun K' hK => ?_))
      go_simp
      refine (rword_any _ _).mono ?_
      rintro e w1 ⟨rfl, rfl⟩
      refine hK _ _ (.inr HS.out) ?_
      clear hK K'
      (try simp only [Act.put, List.getElem_toArray, List.getElem_cons_zero, List.getElem_cons_succ, List.setIfInBounds_toArray, List.set_cons_zero, List.set_cons_succ])
      (refine inO_read (v := ?_) rfl rfl (Or.inl ⟨by rfl, ?_⟩) ?_; rotate_left 1; (focus (intro W hSW; clear hSW; go_simp; (try (with_reducible rfl)))); (try simp only [Act.put, List.getElem_toArray, List.getElem_cons_zero, List.getElem_cons_succ, List.setIfInBounds_toArray, List.set_cons_zero, List.set_cons_succ]))
      (refine inO_read (v := ?_) rfl rfl (Or.inl ⟨by rfl, ?_⟩) ?_; rotate_left 1; (focus (intro W hSW; clear hSW; go_simp; (try (with_reducible rfl)))); (try simp only [Act.put, List.getElem_toArray, List.getElem_cons_zero, List.getElem_cons_succ, List.setIfInBounds_toArray, List.set_cons_zero, List.set_cons_succ]))
      (refine inO_end ?_)
      clear HC0 HS
      go_wp2_with (first | (refine at_alloc 23 rfl ?_; refine wl_alloc rfl 23 rfl _ zV HC.out ?_; intro b w' hn hc; (replace HC := hide hc; clear hc)) | (clear MF; (refine at_load 23 rfl ?_; refine wl_run rfl 23 _ rfl rfl (run_load_s tyV _ [.int .i64 f, .int .i64 n, .string (bs t)] rfl (HFR.out _ HC.out.grown)) ?_)) | (refine at_load 23 rfl ?_; refine wl_load_s rfl 23 _ rfl tyV rfl HC.out (by repeat (first | exact List.Mem.head _ | apply List.Mem.tail)) (GetS.all _) rfl ?_) | (refine at_load 3 rfl ?_; refine wl_load_c rfl 3 _ rfl tcI rfl HC.out (by repeat (first | exact List.Mem.head _ | apply List.Mem.tail)) (by repeat (first | exact GetS.cons _ (GetS.nil _) | apply GetS.skip)) ?_) | (go_at_call 30; (refine (HNO.out _).mono ?_; rintro e w2 ⟨rfl, hg⟩; (replace HC := hide (HC.out.g hg); clear hg))) | (go_at_call 27; (refine (HI.out _).mono ?_; rintro e w2 ⟨rfl, hg⟩; (replace HC := hide (HC.out.g hg); clear hg))) | (go_at_call 29; (refine (HI.out _).mono ?_; rintro e w2 ⟨rfl, hg⟩; (replace HC := hide (HC.out.g hg); clear hg))) | (go_at_call 37; ((refine (HX.out _).mono ?_; rintro e w2 ⟨rfl, hg⟩; (replace HC := hide (HC.out.g hg); clear hg)); ((try clear p0 p1 p2); obtain ⟨p0, p1, p2⟩ := cellh HC.out))) | (go_at_call 45; (refine (HSG.out _).mono ?_; rintro e w2 ⟨rfl, rfl⟩)) | (go_at_call 46; (refine (HSH.out _).mono ?_; rintro e w2 ⟨rfl, rfl⟩)) | (go_at_call 47; (refine (HSH.out _).mono ?_; rintro e w2 ⟨rfl, rfl⟩)) | (go_at_call 48; (refine (HSH.out _).mono ?_; rintro e w2 ⟨rfl, rfl⟩)) | (refine at_store 23 rfl ?_; refine wl_store rfl 23 _ _ rfl rfl rfl tyV.sz rfl HC.out (by repeat (first | exact List.Mem.head _ | apply List.Mem.tail)) (by exact PutS.all _ _ rfl) (by repeat (first | exact Upd.here _ _ _ | apply Upd.there)) ?_; intro w' hc; (replace HC := hide hc; clear hc); ((try clear p0 p1 p2); obtain ⟨p0, p1, p2⟩ := cellh HC.out)))
      ((refine ret_two Try.results20 rfl rfl HC.out (by repeat (first | exact List.Mem.head _ | apply List.Mem.tail)) tyV rfl ?_); exact ⟨rfl, HC.out.grown⟩)
end Go.Proofs.Ytgdpcdpkaaefbaa.Cn
namespace Go.Proofs.Ytgdpcdpkaaefbaa.Cn
open Go.RowKit hiding Hid
open Go.Maps Go.Proofs.Ytgdpcdpkaaefbaa.Tx Go.Proofs.Ytgdpcdpkaaefbaa.Lx Go.Proofs.Ytgdpcdpkaaefbaa.Mp Go.Proofs.Ytgdpcdpkaaefbaa.Bits Go.Proofs.Ytgdpcdpkaaefbaa.Tr Go.Proofs.Ytgdpcdpkaaefbaa.Bm
set_option linter.unusedVariables false
set_option linter.unusedSimpArgs false
set_option maxRecDepth 100000

set_option maxHeartbeats 12800000 in
theorem cabs {s : List UInt8} {w : World} {o : Option Addr} {cp : Nat} {l : List Vl} (hl : l.length ≤ 1000000) (ha : Al l) (h : Cls w o (l.flatMap vC)) {f n : Int} {t : List UInt8} (hL : l = [⟨f, n, t⟩]) (k0 : ((bs s).toList == [65, 66, 83]) = true) (k1 : ((bs s).toList == [79, 68, 68]) = false) (k2 : ((bs s).toList == [79, 82, 68]) = false) (k3 : ((bs s).toList == [67, 72, 82]) = false) {rf rn re : Int} {rt : List UInt8} (hf : (f == 1) = true) {Z : Int} (hn : (0 ≤ n ∧ ¬ -n > n ∧ Z = n) ∨ (-n > n ∧ Z = -n)) (n0 : -4294967296 ≤ n) (n1 : n < 4294967296) (HI : Tr3 27 #[.int .i64 Z] rf rn rt re) : Calls Try.prog 20 #[.string (bs s), .slice o l.length cp] w (Told w (.tuple #[.agg #[.int .i64 rf, .int .i64 rn, .string (bs rt)], .int .i64 re])) := by
  have HC := hide (Cx.start w (fun _ => False))
  have HNO := hide rnone_as
  have HO := hide h
  have HAL := hide ha
  have k1 : (l.length : Int) ≤ 1000000 := by omega
  have MF := True.intro
  clear h hl ha
  have HLL := hide hL
  clear hL
  unfold Tr3 at HI
  replace HI := hide HI
  (go_enter Try.func20, Try.ntmps20; go_wp2_with (first | (refine at_alloc 23 rfl ?_; refine wl_alloc rfl 23 rfl _ zV HC.out ?_; intro br w' hn hc; (replace HC := hide hc; clear hc))); go_loopw [6] (fun iv W => ∃ i : Nat, i ≤ l.length ∧ iv = .int .i64 i ∧ Hid (Cx w (fun _ => False) none [⟨br, [.int .i64 0, .int .i64 0, .string (bs [])], 23⟩] [] [] W)) (fun iv _ => l.length - (intOf iv).toNat))
  case atStart => exact ⟨0, by omega, rfl, HC⟩
  case round =>
    clear HC
    obtain ⟨i, hi, rfl, HC⟩ := hrel
    by_cases hlt : i < l.length
    · have j1 : (i : Int) < l.length := by omega
      obtain ⟨v, hv⟩ : ∃ p, l[i]? = some p := ⟨l[i], List.getElem?_eq_getElem hlt⟩
      have hvg := HAL.out v (List.mem_of_getElem? hv)
      obtain ⟨ad, rfl, hel⟩ := HO.out.el vC_len (by decide) hv
      have HEL := hide (fun W (hW : w.grownBy W none) j u (hu : (vC v)[j]? = some u) => hW.cell (hel j u hu) (by simp))
      unfold vC at HEL
      obtain ⟨B, hB⟩ : ∃ B, ad.add (i * 3) = B := ⟨_, rfl⟩
      rw [hB] at HEL
      have HGD := hide (rgood_as hvg.2 hvg.1)
      clear hel hv hvg
      go_wp2_with (first | (refine at_load 23 rfl ?_; refine wl_run rfl 23 _ rfl rfl (run_load_s tyV _ [.int .i64 v.f, .int .i64 v.n, .string (bs v.t)] rfl (HEL.out _ HC.out.grown)) ?_) | (go_at_call 16; (refine (HGD.out _).mono ?_; rintro e w2 ⟨rfl, hg⟩; (replace HC := hide (HC.out.g hg); clear hg))))
      go_roundw
      case rel => exact ⟨i + 1, by omega, by go_num, HC⟩
      case measure => simp [intOf]; omega
    · have j1 : ¬ (i : Int) < l.length := by omega
      have hL := HLL.out
      clear HLL
      subst hL
      obtain ⟨ad, rfl, hf⟩ := first_of HO.out
      have HFR := hide (fun W (hW : w.grownBy W none) j u (hu : (vC ⟨f, n, t⟩)[j]? = some u) => hW.cell (hf j u hu) (by simp))
      unfold vC at HFR
      dsimp only at HFR
      obtain ⟨x0, x1, x2⟩ := three_of (fun j u hu => HC.out.grown.cell (hf j u hu) (by simp))
      clear hf
      rcases hn with ⟨h1, h2, rfl⟩ | ⟨h2, rfl⟩
      · go_wp2_with (first | (refine at_alloc 23 rfl ?_; refine wl_alloc rfl 23 rfl _ zV HC.out ?_; intro b w' hn hc; (replace HC := hide hc; clear hc)) | (clear MF; (refine at_load 23 rfl ?_; refine wl_run rfl 23 _ rfl rfl (run_load_s tyV _ [.int .i64 f, .int .i64 n, .string (bs t)] rfl (HFR.out _ HC.out.grown)) ?_)) | (refine at_load 23 rfl ?_; refine wl_load_s rfl 23 _ rfl tyV rfl HC.out (by repeat (first | exact List.Mem.head _ | apply List.Mem.tail)) (GetS.all _) rfl ?_) | (refine at_load 3 rfl ?_; refine wl_load_c rfl 3 _ rfl tcI rfl HC.out (by repeat (first | exact List.Mem.head _ | apply List.Mem.tail)) (by repeat (first | exact GetS.cons _ (GetS.nil _) | apply GetS.skip)) ?_) | (go_at_call 30; (refine (HNO.out _).mono ?_; rintro e w2 ⟨rfl, hg⟩; (replace HC := hide (HC.out.g hg); clear hg))) | (go_at_call 27; (refine (HI.out _).mono ?_; rintro e w2 ⟨rfl, hg⟩; (replace HC := hide (HC.out.g hg); clear hg))) | (go_at_call 29; (refine (HI.out _).mono ?_; rintro e w2 ⟨rfl, hg⟩; (replace HC := hide (HC.out.g hg); clear hg))) | (go_at_call 37; ((refine (HX.out _).mono ?_; rintro e w2 ⟨rfl, hg⟩; (replace HC := hide (HC.out.g hg); clear hg)); ((try clear p0 p1 p2); obtain ⟨p0, p1, p2⟩ := cellh HC.out))) | (go_at_call 45; (refine (HSG.out _).mono ?_; rintro e w2 ⟨rfl, rfl⟩)) | (go_at_call 46; (refine (HSH.out _).mono ?_; rintro e w2 ⟨rfl, rfl⟩)) | (go_at_call 47; (refine (HSH.out _).mono ?_; rintro e w2 ⟨rfl, rfl⟩)) | (go_at_call 48; (refine (HSH.out _).mono ?_; rintro e w2 ⟨rfl, rfl⟩)) | (refine at_store 23 rfl ?_; refine wl_store rfl 23 _ _ rfl rfl rfl tyV.sz rfl HC.out (by repeat (first | exact List.Mem.head _ | apply List.Mem.tail)) (by exact PutS.all _ _ rfl) (by repeat (first | exact Upd.here _ _ _ | apply Upd.there)) ?_; intro w' hc; (replace HC := hide hc; clear hc); ((try clear p0 p1 p2); obtain ⟨p0, p1, p2⟩ := cellh HC.out)))
        ((refine ret_two Try.results20 rfl rfl HC.out (by repeat (first | exact List.Mem.head _ | apply List.Mem.tail)) tyV rfl ?_); exact ⟨rfl, HC.out.grown⟩)
      · go_wp2_with (first | (refine at_alloc 23 rfl ?_; refine wl_alloc rfl 23 rfl _ zV HC.out ?_; intro b w' hn hc; (replace HC := hide hc; clear hc)) | (clear MF; (refine at_load 23 rfl ?_; refine wl_run rfl 23 _ rfl rfl (run_load_s tyV _ [.int .i64 f, .int .i64 n, .string (bs t)] rfl (HFR.out _ HC.out.grown)) ?_)) | (refine at_load 23 rfl ?_; refine wl_load_s rfl 23 _ rfl tyV rfl HC.out (by repeat (first | exact List.Mem.head _ | apply List.Mem.tail)) (GetS.all _) rfl ?_) | (refine at_load 3 rfl ?_; refine wl_load_c rfl 3 _ rfl tcI rfl HC.out (by repeat (first | exact List.Mem.head _ | apply List.Mem.tail)) (by repeat (first | exact GetS.cons _ (GetS.nil _) | apply GetS.skip)) ?_) | (go_at_call 30; (refine (HNO.out _).mono ?_; rintro e w2 ⟨rfl, hg⟩; (replace HC := hide (HC.out.g hg); clear hg))) | (go_at_call 27; (refine (HI.out _).mono ?_; rintro e w2 ⟨rfl, hg⟩; (replace HC := hide (HC.out.g hg); clear hg))) | (go_at_call 29; (refine (HI.out _).mono ?_; rintro e w2 ⟨rfl, hg⟩; (replace HC := hide (HC.out.g hg); clear hg))) | (go_at_call 37; ((refine (HX.out _).mono ?_; rintro e w2 ⟨rfl, hg⟩; (replace HC := hide (HC.out.g hg); clear hg)); ((try clear p0 p1 p2); obtain ⟨p0, p1, p2⟩ := cellh HC.out))) | (go_at_call 45; (refine (HSG.out _).mono ?_; rintro e w2 ⟨rfl, rfl⟩)) | (go_at_call 46; (refine (HSH.out _).mono ?_; rintro e w2 ⟨rfl, rfl⟩)) | (go_at_call 47; (refine (HSH.out _).mono ?_; rintro e w2 ⟨rfl, rfl⟩)) | (go_at_call 48; (refine (HSH.out _).mono ?_; rintro e w2 ⟨rfl, rfl⟩)) | (refine at_store 23 rfl ?_; refine wl_store rfl 23 _ _ rfl rfl rfl tyV.sz rfl HC.out (by repeat (first | exact List.Mem.head _ | apply List.Mem.tail)) (by exact PutS.all _ _ rfl) (by repeat (first | exact Upd.here _ _ _ | apply Upd.there)) ?_; intro w' hc; (replace HC := hide hc; clear hc); ((try clear p0 p1 p2); obtain ⟨p0, p1, p2⟩ := cellh HC.out)))
        ((refine ret_two Try.results20 rfl rfl HC.out (by repeat (first | exact List.Mem.head _ | apply List.Mem.tail)) tyV rfl ?_); exact ⟨rfl, HC.out.grown⟩)

set_option maxHeartbeats 12800000 in
theorem codd {s : List UInt8} {w : World} {o : Option Addr} {cp : Nat} {l : List Vl} (hl : l.length ≤ 1000000) (ha : Al l) (h : Cls w o (l.flatMap vC)) {f n : Int} {t : List UInt8} (hL : l = [⟨f, n, t⟩]) (k0 : ((bs s).toList == [65, 66, 83]) = false) (k1 : ((bs s).toList == [79, 68, 68]) = true) (k2 : ((bs s).toList == [79, 82, 68]) = false) (k3 : ((bs s).toList == [67, 72, 82]) = false) {rf rn re : Int} {rt : List UInt8} (hf : (f == 1) = true) {B : Bool} {Q : Int} (hQ : n.tmod 2 = Q) (hB : (Q != 0) = B) (HI : Tr3 29 #[.bool B] rf rn rt re) : Calls Try.prog 20 #[.string (bs s), .slice o l.length cp] w (Told w (.tuple #[.agg #[.int .i64 rf, .int .i64 rn, .string (bs rt)], .int .i64 re])) := by
  have HC := hide (Cx.start w (fun _ => False))
  have HNO := hide rnone_as
  have HO := hide h
  have HAL := hide ha
  have k1 : (l.length : Int) ≤ 1000000 := by omega
  have MF := True.intro
  clear h hl ha
  have HLL := hide hL
  clear hL
  unfold Tr3 at HI
  replace HI := hide HI
  (go_enter Try.func20, Try.ntmps20; go_wp2_with (first | (refine at_alloc 23 rfl ?_; refine wl_alloc rfl 23 rfl _ zV HC.out ?_; intro br w' hn hc; (replace HC := hide hc; clear hc))); go_loopw [6] (fun iv W => ∃ i : Nat, i ≤ l.length ∧ iv = .int .i64 i ∧ Hid (Cx w (fun _ => False) none [⟨br, [.int .i64 0, .int .i64 0, .string (bs [])], 23⟩] [] [] W)) (fun iv _ => l.length - (intOf iv).toNat))
  case atStart => exact ⟨0, by omega, rfl, HC⟩
  case round =>
    clear HC
    obtain ⟨i, hi, rfl, HC⟩ := hrel
    by_cases hlt : i < l.length
    · have j1 : (i : Int) < l.length := by omega
      obtain ⟨v, hv⟩ : ∃ p, l[i]? = some p := ⟨l[i], List.getElem?_eq_getElem hlt⟩
      have hvg := HAL.out v (List.mem_of_getElem? hv)
      obtain ⟨ad, rfl, hel⟩ := HO.out.el vC_len (by decide) hv
      have HEL := hide (fun W (hW : w.grownBy W none) j u (hu : (vC v)[j]? = some u) => hW.cell (hel j u hu) (by simp))
      unfold vC at HEL
      obtain ⟨B, hB⟩ : ∃ B, ad.add (i * 3) = B := ⟨_, rfl⟩
      rw [hB] at HEL
      have HGD := hide (rgood_as hvg.2 hvg.1)
      clear hel hv hvg
      go_wp2_with (first | (refine at_load 23 rfl ?_; refine wl_run rfl 23 _ rfl rfl (run_load_s tyV _ [.int .i64 v.f, .int .i64 v.n, .string (bs v.t)] rfl (HEL.out _ HC.out.grown)) ?_) | (go_at_call 16; (refine (HGD.out _).mono ?_; rintro e w2 ⟨rfl, hg⟩; (replace HC := hide (HC.out.g hg); clear hg))))
      go_roundw
      case rel => exact ⟨i + 1, by omega, by go_num, HC⟩
      case measure => simp [intOf]; omega
    · have j1 : ¬ (i : Int) < l.length := by omega
      have hL := HLL.out
      clear HLL
      subst hL
      obtain ⟨ad, rfl, hf⟩ := first_of HO.out
      have HFR := hide (fun W (hW : w.grownBy W none) j u (hu : (vC ⟨f, n, t⟩)[j]? = some u) => hW.cell (hf j u hu) (by simp))
      unfold vC at HFR
      dsimp only at HFR
      obtain ⟨x0, x1, x2⟩ := three_of (fun j u hu => HC.out.grown.cell (hf j u hu) (by simp))
      clear hf
      go_wp2_with (first | (refine at_alloc 23 rfl ?_; refine wl_alloc rfl 23 rfl _ zV HC.out ?_; intro b w' hn hc; (replace HC := hide hc; clear hc)) | (clear MF; (refine at_load 23 rfl ?_; refine wl_run rfl 23 _ rfl rfl (run_load_s tyV _ [.int .i64 f, .int .i64 n, .string (bs t)] rfl (HFR.out _ HC.out.grown)) ?_)) | (refine at_load 23 rfl ?_; refine wl_load_s rfl 23 _ rfl tyV rfl HC.out (by repeat (first | exact List.Mem.head _ | apply List.Mem.tail)) (GetS.all _) rfl ?_) | (refine at_load 3 rfl ?_; refine wl_load_c rfl 3 _ rfl tcI rfl HC.out (by repeat (first | exact List.Mem.head _ | apply List.Mem.tail)) (by repeat (first | exact GetS.cons _ (GetS.nil _) | apply GetS.skip)) ?_) | (go_at_call 30; (refine (HNO.out _).mono ?_; rintro e w2 ⟨rfl, hg⟩; (replace HC := hide (HC.out.g hg); clear hg))) | (go_at_call 27; (refine (HI.out _).mono ?_; rintro e w2 ⟨rfl, hg⟩; (replace HC := hide (HC.out.g hg); clear hg))) | (go_at_call 29; (refine (HI.out _).mono ?_; rintro e w2 ⟨rfl, hg⟩; (replace HC := hide (HC.out.g hg); clear hg))) | (go_at_call 37; ((refine (HX.out _).mono ?_; rintro e w2 ⟨rfl, hg⟩; (replace HC := hide (HC.out.g hg); clear hg)); ((try clear p0 p1 p2); obtain ⟨p0, p1, p2⟩ := cellh HC.out))) | (go_at_call 45; (refine (HSG.out _).mono ?_; rintro e w2 ⟨rfl, rfl⟩)) | (go_at_call 46; (refine (HSH.out _).mono ?_; rintro e w2 ⟨rfl, rfl⟩)) | (go_at_call 47; (refine (HSH.out _).mono ?_; rintro e w2 ⟨rfl, rfl⟩)) | (go_at_call 48; (refine (HSH.out _).mono ?_; rintro e w2 ⟨rfl, rfl⟩)) | (refine at_store 23 rfl ?_; refine wl_store rfl 23 _ _ rfl rfl rfl tyV.sz rfl HC.out (by repeat (first | exact List.Mem.head _ | apply List.Mem.tail)) (by exact PutS.all _ _ rfl) (by repeat (first | exact Upd.here _ _ _ | apply Upd.there)) ?_; intro w' hc; (replace HC := hide hc; clear hc); ((try clear p0 p1 p2); obtain ⟨p0, p1, p2⟩ := cellh HC.out)))
      ((refine ret_two Try.results20 rfl rfl HC.out (by repeat (first | exact List.Mem.head _ | apply List.Mem.tail)) tyV rfl ?_); exact ⟨rfl, HC.out.grown⟩)

set_option maxHeartbeats 12800000 in
theorem cnot {s : List UInt8} {w : World} {o : Option Addr} {cp : Nat} {l : List Vl} (hl : l.length ≤ 1000000) (ha : Al l) (h : Cls w o (l.flatMap vC)) {f n : Int} {t : List UInt8} (hL : l = [⟨f, n, t⟩]) (hs : (((bs s).toList == [65, 66, 83]) = true ∧ ((bs s).toList == [79, 68, 68]) = false ∧ ((bs s).toList == [79, 82, 68]) = false ∧ ((bs s).toList == [67, 72, 82]) = false ∧ (f == 1) = false) ∨ (((bs s).toList == [65, 66, 83]) = false ∧ ((bs s).toList == [79, 68, 68]) = true ∧ ((bs s).toList == [79, 82, 68]) = false ∧ ((bs s).toList == [67, 72, 82]) = false ∧ (f == 1) = false) ∨ (((bs s).toList == [65, 66, 83]) = false ∧ ((bs s).toList == [79, 68, 68]) = false ∧ ((bs s).toList == [79, 82, 68]) = false ∧ ((bs s).toList == [67, 72, 82]) = true ∧ (f == 1) = false) ∨ (((bs s).toList == [65, 66, 83]) = false ∧ ((bs s).toList == [79, 68, 68]) = false ∧ ((bs s).toList == [79, 82, 68]) = false ∧ ((bs s).toList == [67, 72, 82]) = false)) : Calls Try.prog 20 #[.string (bs s), .slice o l.length cp] w (Told w (.tuple #[.agg #[.int .i64 0, .int .i64 0, .string (bs [])], .int .i64 120])) := by
  have HC := hide (Cx.start w (fun _ => False))
  have HNO := hide rnone_as
  have HO := hide h
  have HAL := hide ha
  have k1 : (l.length : Int) ≤ 1000000 := by omega
  have MF := True.intro
  clear h hl ha
  have HLL := hide hL
  clear hL
  (go_enter Try.func20, Try.ntmps20; go_wp2_with (first | (refine at_alloc 23 rfl ?_; refine wl_alloc rfl 23 rfl _ zV HC.out ?_; intro br w' hn hc; (replace HC := hide hc; clear hc))); go_loopw [6] (fun iv W => ∃ i : Nat, i ≤ l.length ∧ iv = .int .i64 i ∧ Hid (Cx w (fun _ => False) none [⟨br, [.int .i64 0, .int .i64 0, .string (bs [])], 23⟩] [] [] W)) (fun iv _ => l.length - (intOf iv).toNat))
  case atStart => exact ⟨0, by omega, rfl, HC⟩
  case round =>
    clear HC
    obtain ⟨i, hi, rfl, HC⟩ := hrel
    by_cases hlt : i < l.length
    · have j1 : (i : Int) < l.length := by omega
      obtain ⟨v, hv⟩ : ∃ p, l[i]? = some p := ⟨l[i], List.getElem?_eq_getElem hlt⟩
      have hvg := HAL.out v (List.mem_of_getElem? hv)
      obtain ⟨ad, rfl, hel⟩ := HO.out.el vC_len (by decide) hv
      have HEL := hide (fun W (hW : w.grownBy W none) j u (hu : (vC v)[j]? = some u) => hW.cell (hel j u hu) (by simp))
      unfold vC at HEL
      obtain ⟨B, hB⟩ : ∃ B, ad.add (i * 3) = B := ⟨_, rfl⟩
      rw [hB] at HEL
      have HGD := hide (rgood_as hvg.2 hvg.1)
      clear hel hv hvg
      go_wp2_with (first | (refine at_load 23 rfl ?_; refine wl_run rfl 23 _ rfl rfl (run_load_s tyV _ [.int .i64 v.f, .int .i64 v.n, .string (bs v.t)] rfl (HEL.out _ HC.out.grown)) ?_) | (go_at_call 16; (refine (HGD.out _).mono ?_; rintro e w2 ⟨rfl, hg⟩; (replace HC := hide (HC.out.g hg); clear hg))))
      go_roundw
      case rel => exact ⟨i + 1, by omega, by go_num, HC⟩
      case measure => simp [intOf]; omega
    · have j1 : ¬ (i : Int) < l.length := by omega
      have hL := HLL.out
      clear HLL
      subst hL
      obtain ⟨ad, rfl, hf⟩ := first_of HO.out
      have HFR := hide (fun W (hW : w.grownBy W none) j u (hu : (vC ⟨f, n, t⟩)[j]? = some u) => hW.cell (hf j u hu) (by simp))
      unfold vC at HFR
      dsimp only at HFR
      obtain ⟨x0, x1, x2⟩ := three_of (fun j u hu => HC.out.grown.cell (hf j u hu) (by simp))
      clear hf
      rcases hs with ⟨k0, k1, k2, k3, hf⟩ | ⟨k0, k1, k2, k3, hf⟩ | ⟨k0, k1, k2, k3, hf⟩ | ⟨k0, k1, k2, k3⟩
      · go_wp2_with (first | (refine at_alloc 23 rfl ?_; refine wl_alloc rfl 23 rfl _ zV HC.out ?_; intro b w' hn hc; (replace HC := hide hc; clear hc)) | (clear MF; (refine at_load 23 rfl ?_; refine wl_run rfl 23 _ rfl rfl (run_load_s tyV _ [.int .i64 f, .int .i64 n, .string (bs t)] rfl (HFR.out _ HC.out.grown)) ?_)) | (refine at_load 23 rfl ?_; refine wl_load_s rfl 23 _ rfl tyV rfl HC.out (by repeat (first | exact List.Mem.head _ | apply List.Mem.tail)) (GetS.all _) rfl ?_) | (refine at_load 3 rfl ?_; refine wl_load_c rfl 3 _ rfl tcI rfl HC.out (by repeat (first | exact List.Mem.head _ | apply List.Mem.tail)) (by repeat (first | exact GetS.cons _ (GetS.nil _) | apply GetS.skip)) ?_) | (go_at_call 30; (refine (HNO.out _).mono ?_; rintro e w2 ⟨rfl, hg⟩; (replace HC := hide (HC.out.g hg); clear hg))) | (go_at_call 27; (refine (HI.out _).mono ?_; rintro e w2 ⟨rfl, hg⟩; (replace HC := hide (HC.out.g hg); clear hg))) | (go_at_call 29; (refine (HI.out _).mono ?_; rintro e w2 ⟨rfl, hg⟩; (replace HC := hide (HC.out.g hg); clear hg))) | (go_at_call 37; ((refine (HX.out _).mono ?_; rintro e w2 ⟨rfl, hg⟩; (replace HC := hide (HC.out.g hg); clear hg)); ((try clear p0 p1 p2); obtain ⟨p0, p1, p2⟩ := cellh HC.out))) | (go_at_call 45; (refine (HSG.out _).mono ?_; rintro e w2 ⟨rfl, rfl⟩)) | (go_at_call 46; (refine (HSH.out _).mono ?_; rintro e w2 ⟨rfl, rfl⟩)) | (go_at_call 47; (refine (HSH.out _).mono ?_; rintro e w2 ⟨rfl, rfl⟩)) | (go_at_call 48; (refine (HSH.out _).mono ?_; rintro e w2 ⟨rfl, rfl⟩)) | (refine at_store 23 rfl ?_; refine wl_store rfl 23 _ _ rfl rfl rfl tyV.sz rfl HC.out (by repeat (first | exact List.Mem.head _ | apply List.Mem.tail)) (by exact PutS.all _ _ rfl) (by repeat (first | exact Upd.here _ _ _ | apply Upd.there)) ?_; intro w' hc; (replace HC := hide hc; clear hc); ((try clear p0 p1 p2); obtain ⟨p0, p1, p2⟩ := cellh HC.out)))
        ((refine ret_two Try.results20 rfl rfl HC.out (by repeat (first | exact List.Mem.head _ | apply List.Mem.tail)) tyV rfl ?_); exact ⟨rfl, HC.out.grown⟩)
      · go_wp2_with (first | (refine at_alloc 23 rfl ?_; refine wl_alloc rfl 23 rfl _ zV HC.out ?_; intro b w' hn hc; (replace HC := hide hc; clear hc)) | (clear MF; (refine at_load 23 rfl ?_; refine wl_run rfl 23 _ rfl rfl (run_load_s tyV _ [.int .i64 f, .int .i64 n, .string (bs t)] rfl (HFR.out _ HC.out.grown)) ?_)) | (refine at_load 23 rfl ?_; refine wl_load_s rfl 23 _ rfl tyV rfl HC.out (by repeat (first | exact List.Mem.head _ | apply List.Mem.tail)) (GetS.all _) rfl ?_) | (refine at_load 3 rfl ?_; refine wl_load_c rfl 3 _ rfl tcI rfl HC.out (by repeat (first | exact List.Mem.head _ | apply List.Mem.tail)) (by repeat (first | exact GetS.cons _ (GetS.nil _) | apply GetS.skip)) ?_) | (go_at_call 30; (refine (HNO.out _).mono ?_; rintro e w2 ⟨rfl, hg⟩; (replace HC := hide (HC.out.g hg); clear hg))) | (go_at_call 27; (refine (HI.out _).mono ?_; rintro e w2 ⟨rfl, hg⟩; (replace HC := hide (HC.out.g hg); clear hg))) | (go_at_call 29; (refine (HI.out _).mono ?_; rintro e w2 ⟨rfl, hg⟩; (replace HC := hide (HC.out.g hg); clear hg))) | (go_at_call 37; ((refine (HX.out _).mono ?_; rintro e w2 ⟨rfl, hg⟩; (replace HC := hide (HC.out.g hg); clear hg)); ((try clear p0 p1 p2); obtain ⟨p0, p1, p2⟩ := cellh HC.out))) | (go_at_call 45; (refine (HSG.out _).mono ?_; rintro e w2 ⟨rfl, rfl⟩)) | (go_at_call 46; (refine (HSH.out _).mono ?_; rintro e w2 ⟨rfl, rfl⟩)) | (go_at_call 47; (refine (HSH.out _).mono ?_; rintro e w2 ⟨rfl, rfl⟩)) | (go_at_call 48; (refine (HSH.out _).mono ?_; rintro e w2 ⟨rfl, rfl⟩)) | (refine at_store 23 rfl ?_; refine wl_store rfl 23 _ _ rfl rfl rfl tyV.sz rfl HC.out (by repeat (first | exact List.Mem.head _ | apply List.Mem.tail)) (by exact PutS.all _ _ rfl) (by repeat (first | exact Upd.here _ _ _ | apply Upd.there)) ?_; intro w' hc; (replace HC := hide hc; clear hc); ((try clear p0 p1 p2); obtain ⟨p0, p1, p2⟩ := cellh HC.out)))
        ((refine ret_two Try.results20 rfl rfl HC.out (by repeat (first | exact List.Mem.head _ | apply List.Mem.tail)) tyV rfl ?_); exact ⟨rfl, HC.out.grown⟩)
      · go_wp2_with (first | (refine at_alloc 23 rfl ?_; refine wl_alloc rfl 23 rfl _ zV HC.out ?_; intro b w' hn hc; (replace HC := hide hc; clear hc)) | (clear MF; (refine at_load 23 rfl ?_; refine wl_run rfl 23 _ rfl rfl (run_load_s tyV _ [.int .i64 f, .int .i64 n, .string (bs t)] rfl (HFR.out _ HC.out.grown)) ?_)) | (refine at_load 23 rfl ?_; refine wl_load_s rfl 23 _ rfl tyV rfl HC.out (by repeat (first | exact List.Mem.head _ | apply List.Mem.tail)) (GetS.all _) rfl ?_) | (refine at_load 3 rfl ?_; refine wl_load_c rfl 3 _ rfl tcI rfl HC.out (by repeat (first | exact List.Mem.head _ | apply List.Mem.tail)) (by repeat (first | exact GetS.cons _ (GetS.nil _) | apply GetS.skip)) ?_) | (go_at_call 30; (refine (HNO.out _).mono ?_; rintro e w2 ⟨rfl, hg⟩; (replace HC := hide (HC.out.g hg); clear hg))) | (go_at_call 27; (refine (HI.out _).mono ?_; rintro e w2 ⟨rfl, hg⟩; (replace HC := hide (HC.out.g hg); clear hg))) | (go_at_call 29; (refine (HI.out _).mono ?_; rintro e w2 ⟨rfl, hg⟩; (replace HC := hide (HC.out.g hg); clear hg))) | (go_at_call 37; ((refine (HX.out _).mono ?_; rintro e w2 ⟨rfl, hg⟩; (replace HC := hide (HC.out.g hg); clear hg)); ((try clear p0 p1 p2); obtain ⟨p0, p1, p2⟩ := cellh HC.out))) | (go_at_call 45; (refine (HSG.out _).mono ?_; rintro e w2 ⟨rfl, rfl⟩)) | (go_at_call 46; (refine (HSH.out _).mono ?_; rintro e w2 ⟨rfl, rfl⟩)) | (go_at_call 47; (refine (HSH.out _).mono ?_; rintro e w2 ⟨rfl, rfl⟩)) | (go_at_call 48; (refine (HSH.out _).mono ?_; rintro e w2 ⟨rfl, rfl⟩)) | (refine at_store 23 rfl ?_; refine wl_store rfl 23 _ _ rfl rfl rfl tyV.sz rfl HC.out (by repeat (first | exact List.Mem.head _ | apply List.Mem.tail)) (by exact PutS.all _ _ rfl) (by repeat (first | exact Upd.here _ _ _ | apply Upd.there)) ?_; intro w' hc; (replace HC := hide hc; clear hc); ((try clear p0 p1 p2); obtain ⟨p0, p1, p2⟩ := cellh HC.out)))
        ((refine ret_two Try.results20 rfl rfl HC.out (by repeat (first | exact List.Mem.head _ | apply List.Mem.tail)) tyV rfl ?_); exact ⟨rfl, HC.out.grown⟩)
      · go_wp2_with (first | (refine at_alloc 23 rfl ?_; refine wl_alloc rfl 23 rfl _ zV HC.out ?_; intro b w' hn hc; (replace HC := hide hc; clear hc)) | (clear MF; (refine at_load 23 rfl ?_; refine wl_run rfl 23 _ rfl rfl (run_load_s tyV _ [.int .i64 f, .int .i64 n, .string (bs t)] rfl (HFR.out _ HC.out.grown)) ?_)) | (refine at_load 23 rfl ?_; refine wl_load_s rfl 23 _ rfl tyV rfl HC.out (by repeat (first | exact List.Mem.head _ | apply List.Mem.tail)) (GetS.all _) rfl ?_) | (refine at_load 3 rfl ?_; refine wl_load_c rfl 3 _ rfl tcI rfl HC.out (by repeat (first | exact List.Mem.head _ | apply List.Mem.tail)) (by repeat (first | exact GetS.cons _ (GetS.nil _) | apply GetS.skip)) ?_) | (go_at_call 30; (refine (HNO.out _).mono ?_; rintro e w2 ⟨rfl, hg⟩; (replace HC := hide (HC.out.g hg); clear hg))) | (go_at_call 27; (refine (HI.out _).mono ?_; rintro e w2 ⟨rfl, hg⟩; (replace HC := hide (HC.out.g hg); clear hg))) | (go_at_call 29; (refine (HI.out _).mono ?_; rintro e w2 ⟨rfl, hg⟩; (replace HC := hide (HC.out.g hg); clear hg))) | (go_at_call 37; ((refine (HX.out _).mono ?_; rintro e w2 ⟨rfl, hg⟩; (replace HC := hide (HC.out.g hg); clear hg)); ((try clear p0 p1 p2); obtain ⟨p0, p1, p2⟩ := cellh HC.out))) | (go_at_call 45; (refine (HSG.out _).mono ?_; rintro e w2 ⟨rfl, rfl⟩)) | (go_at_call 46; (refine (HSH.out _).mono ?_; rintro e w2 ⟨rfl, rfl⟩)) | (go_at_call 47; (refine (HSH.out _).mono ?_; rintro e w2 ⟨rfl, rfl⟩)) | (go_at_call 48; (refine (HSH.out _).mono ?_; rintro e w2 ⟨rfl, rfl⟩)) | (refine at_store 23 rfl ?_; refine wl_store rfl 23 _ _ rfl rfl rfl tyV.sz rfl HC.out (by repeat (first | exact List.Mem.head _ | apply List.Mem.tail)) (by exact PutS.all _ _ rfl) (by repeat (first | exact Upd.here _ _ _ | apply Upd.there)) ?_; intro w' hc; (replace HC := hide hc; clear hc); ((try clear p0 p1 p2); obtain ⟨p0, p1, p2⟩ := cellh HC.out)))
        ((refine ret_two Try.results20 rfl rfl HC.out (by repeat (first | exact List.Mem.head _ | apply List.Mem.tail)) tyV rfl ?_); exact ⟨rfl, HC.out.grown⟩)

set_option maxHeartbeats 12800000 in
theorem cor1 {s : List UInt8} {w : World} {o : Option Addr} {cp : Nat} {l : List Vl} (hl : l.length ≤ 1000000) (ha : Al l) (h : Cls w o (l.flatMap vC)) {f n : Int} {t : List UInt8} (hL : l = [⟨f, n, t⟩]) (k0 : ((bs s).toList == [65, 66, 83]) = false) (k1 : ((bs s).toList == [79, 68, 68]) = false) (k2 : ((bs s).toList == [79, 82, 68]) = true) (k3 : ((bs s).toList == [67, 72, 82]) = false) {g m : Int} {u : List UInt8} (HX : Ch f n t g m u) {rf rn re : Int} {rt : List UInt8} (hg : (g == 3) = true ∨ ((g == 3) = false ∧ (g == 2) = true)) (HI : Tr3 27 #[.int .i64 m] rf rn rt re) : Calls Try.prog 20 #[.string (bs s), .slice o l.length cp] w (Told w (.tuple #[.agg #[.int .i64 rf, .int .i64 rn, .string (bs rt)], .int .i64 re])) := by
  have HC := hide (Cx.start w (fun _ => False))
  have HNO := hide rnone_as
  have HO := hide h
  have HAL := hide ha
  have k1 : (l.length : Int) ≤ 1000000 := by omega
  have MF := True.intro
  clear h hl ha
  have HLL := hide hL
  clear hL
  unfold Tr3 at HI
  replace HI := hide HI
  unfold Ch at HX
  replace HX := hide HX
  (go_enter Try.func20, Try.ntmps20; go_wp2_with (first | (refine at_alloc 23 rfl ?_; refine wl_alloc rfl 23 rfl _ zV HC.out ?_; intro br w' hn hc; (replace HC := hide hc; clear hc))); go_loopw [6] (fun iv W => ∃ i : Nat, i ≤ l.length ∧ iv = .int .i64 i ∧ Hid (Cx w (fun _ => False) none [⟨br, [.int .i64 0, .int .i64 0, .string (bs [])], 23⟩] [] [] W)) (fun iv _ => l.length - (intOf iv).toNat))
  case atStart => exact ⟨0, by omega, rfl, HC⟩
  case round =>
    clear HC
    obtain ⟨i, hi, rfl, HC⟩ := hrel
    by_cases hlt : i < l.length
    · have j1 : (i : Int) < l.length := by omega
      obtain ⟨v, hv⟩ : ∃ p, l[i]? = some p := ⟨l[i], List.getElem?_eq_getElem hlt⟩
      have hvg := HAL.out v (List.mem_of_getElem? hv)
      obtain ⟨ad, rfl, hel⟩ := HO.out.el vC_len (by decide) hv
      have HEL := hide (fun W (hW : w.grownBy W none) j u (hu : (vC v)[j]? = some u) => hW.cell (hel j u hu) (by simp))
      unfold vC at HEL
      obtain ⟨B, hB⟩ : ∃ B, ad.add (i * 3) = B := ⟨_, rfl⟩
      rw [hB] at HEL
      have HGD := hide (rgood_as hvg.2 hvg.1)
      clear hel hv hvg
      go_wp2_with (first | (refine at_load 23 rfl ?_; refine wl_run rfl 23 _ rfl rfl (run_load_s tyV _ [.int .i64 v.f, .int .i64 v.n, .string (bs v.t)] rfl (HEL.out _ HC.out.grown)) ?_) | (go_at_call 16; (refine (HGD.out _).mono ?_; rintro e w2 ⟨rfl, hg⟩; (replace HC := hide (HC.out.g hg); clear hg))))
      go_roundw
      case rel => exact ⟨i + 1, by omega, by go_num, HC⟩
      case measure => simp [intOf]; omega
    · have j1 : ¬ (i : Int) < l.length := by omega
      have hL := HLL.out
      clear HLL
      subst hL
      obtain ⟨ad, rfl, hf⟩ := first_of HO.out
      have HFR := hide (fun W (hW : w.grownBy W none) j u (hu : (vC ⟨f, n, t⟩)[j]? = some u) => hW.cell (hf j u hu) (by simp))
      unfold vC at HFR
      dsimp only at HFR
      obtain ⟨x0, x1, x2⟩ := three_of (fun j u hu => HC.out.grown.cell (hf j u hu) (by simp))
      clear hf
      rcases hg with e1 | ⟨e1, e2⟩
      · go_wp2_with (first | (refine at_alloc 23 rfl ?_; refine wl_alloc rfl 23 rfl _ zV HC.out ?_; intro b w' hn hc; (replace HC := hide hc; clear hc)) | (clear MF; (refine at_load 23 rfl ?_; refine wl_run rfl 23 _ rfl rfl (run_load_s tyV _ [.int .i64 f, .int .i64 n, .string (bs t)] rfl (HFR.out _ HC.out.grown)) ?_)) | (refine at_load 23 rfl ?_; refine wl_load_s rfl 23 _ rfl tyV rfl HC.out (by repeat (first | exact List.Mem.head _ | apply List.Mem.tail)) (GetS.all _) rfl ?_) | (refine at_load 3 rfl ?_; refine wl_load_c rfl 3 _ rfl tcI rfl HC.out (by repeat (first | exact List.Mem.head _ | apply List.Mem.tail)) (by repeat (first | exact GetS.cons _ (GetS.nil _) | apply GetS.skip)) ?_) | (go_at_call 30; (refine (HNO.out _).mono ?_; rintro e w2 ⟨rfl, hg⟩; (replace HC := hide (HC.out.g hg); clear hg))) | (go_at_call 27; (refine (HI.out _).mono ?_; rintro e w2 ⟨rfl, hg⟩; (replace HC := hide (HC.out.g hg); clear hg))) | (go_at_call 29; (refine (HI.out _).mono ?_; rintro e w2 ⟨rfl, hg⟩; (replace HC := hide (HC.out.g hg); clear hg))) | (go_at_call 37; ((refine (HX.out _).mono ?_; rintro e w2 ⟨rfl, hg⟩; (replace HC := hide (HC.out.g hg); clear hg)); ((try clear p0 p1 p2); obtain ⟨p0, p1, p2⟩ := cellh HC.out))) | (go_at_call 45; (refine (HSG.out _).mono ?_; rintro e w2 ⟨rfl, rfl⟩)) | (go_at_call 46; (refine (HSH.out _).mono ?_; rintro e w2 ⟨rfl, rfl⟩)) | (go_at_call 47; (refine (HSH.out _).mono ?_; rintro e w2 ⟨rfl, rfl⟩)) | (go_at_call 48; (refine (HSH.out _).mono ?_; rintro e w2 ⟨rfl, rfl⟩)) | (refine at_store 23 rfl ?_; refine wl_store rfl 23 _ _ rfl rfl rfl tyV.sz rfl HC.out (by repeat (first | exact List.Mem.head _ | apply List.Mem.tail)) (by exact PutS.all _ _ rfl) (by repeat (first | exact Upd.here _ _ _ | apply Upd.there)) ?_; intro w' hc; (replace HC := hide hc; clear hc); ((try clear p0 p1 p2); obtain ⟨p0, p1, p2⟩ := cellh HC.out)))
        ((refine ret_two Try.results20 rfl rfl HC.out (by repeat (first | exact List.Mem.head _ | apply List.Mem.tail)) tyV rfl ?_); exact ⟨rfl, HC.out.grown⟩)
      · go_wp2_with (first | (refine at_alloc 23 rfl ?_; refine wl_alloc rfl 23 rfl _ zV HC.out ?_; intro b w' hn hc; (replace HC := hide hc; clear hc)) | (clear MF; (refine at_load 23 rfl ?_; refine wl_run rfl 23 _ rfl rfl (run_load_s tyV _ [.int .i64 f, .int .i64 n, .string (bs t)] rfl (HFR.out _ HC.out.grown)) ?_)) | (refine at_load 23 rfl ?_; refine wl_load_s rfl 23 _ rfl tyV rfl HC.out (by repeat (first | exact List.Mem.head _ | apply List.Mem.tail)) (GetS.all _) rfl ?_) | (refine at_load 3 rfl ?_; refine wl_load_c rfl 3 _ rfl tcI rfl HC.out (by repeat (first | exact List.Mem.head _ | apply List.Mem.tail)) (by repeat (first | exact GetS.cons _ (GetS.nil _) | apply GetS.skip)) ?_) | (go_at_call 30; (refine (HNO.out _).mono ?_; rintro e w2 ⟨rfl, hg⟩; (replace HC := hide (HC.out.g hg); clear hg))) | (go_at_call 27; (refine (HI.out _).mono ?_; rintro e w2 ⟨rfl, hg⟩; (replace HC := hide (HC.out.g hg); clear hg))) | (go_at_call 29; (refine (HI.out _).mono ?_; rintro e w2 ⟨rfl, hg⟩; (replace HC := hide (HC.out.g hg); clear hg))) | (go_at_call 37; ((refine (HX.out _).mono ?_; rintro e w2 ⟨rfl, hg⟩; (replace HC := hide (HC.out.g hg); clear hg)); ((try clear p0 p1 p2); obtain ⟨p0, p1, p2⟩ := cellh HC.out))) | (go_at_call 45; (refine (HSG.out _).mono ?_; rintro e w2 ⟨rfl, rfl⟩)) | (go_at_call 46; (refine (HSH.out _).mono ?_; rintro e w2 ⟨rfl, rfl⟩)) | (go_at_call 47; (refine (HSH.out _).mono ?_; rintro e w2 ⟨rfl, rfl⟩)) | (go_at_call 48; (refine (HSH.out _).mono ?_; rintro e w2 ⟨rfl, rfl⟩)) | (refine at_store 23 rfl ?_; refine wl_store rfl 23 _ _ rfl rfl rfl tyV.sz rfl HC.out (by repeat (first | exact List.Mem.head _ | apply List.Mem.tail)) (by exact PutS.all _ _ rfl) (by repeat (first | exact Upd.here _ _ _ | apply Upd.there)) ?_; intro w' hc; (replace HC := hide hc; clear hc); ((try clear p0 p1 p2); obtain ⟨p0, p1, p2⟩ := cellh HC.out)))
        ((refine ret_two Try.results20 rfl rfl HC.out (by repeat (first | exact List.Mem.head _ | apply List.Mem.tail)) tyV rfl ?_); exact ⟨rfl, HC.out.grown⟩)

set_option maxHeartbeats 12800000 in
theorem cor2 {s : List UInt8} {w : World} {o : Option Addr} {cp : Nat} {l : List Vl} (hl : l.length ≤ 1000000) (ha : Al l) (h : Cls w o (l.flatMap vC)) {f n : Int} {t : List UInt8} (hL : l = [⟨f, n, t⟩]) (k0 : ((bs s).toList == [65, 66, 83]) = false) (k1 : ((bs s).toList == [79, 68, 68]) = false) (k2 : ((bs s).toList == [79, 82, 68]) = true) (k3 : ((bs s).toList == [67, 72, 82]) = false) {g m : Int} {u : List UInt8} (HX : Ch f n t g m u) {rf rn re : Int} {rt : List UInt8} (e1 : (g == 3) = false) (e2 : (g == 2) = false) (e3 : (g == 4) = true) {Z : Int} (HSG : ∀ W : World, Calls Try.prog 45 #[.int .u32 (m % 4294967296)] W fun e w' => e = .returned (.int .i64 Z) ∧ w' = W) (HI : Tr3 27 #[.int .i64 Z] rf rn rt re) : Calls Try.prog 20 #[.string (bs s), .slice o l.length cp] w (Told w (.tuple #[.agg #[.int .i64 rf, .int .i64 rn, .string (bs rt)], .int .i64 re])) := by
  have HC := hide (Cx.start w (fun _ => False))
  have HNO := hide rnone_as
  have HO := hide h
  have HAL := hide ha
  have k1 : (l.length : Int) ≤ 1000000 := by omega
  have MF := True.intro
  clear h hl ha
  have HLL := hide hL
  clear hL
  unfold Tr3 at HI
  replace HI := hide HI
  unfold Ch at HX
  replace HX := hide HX
  replace HSG := hide HSG
  (go_enter Try.func20, Try.ntmps20; go_wp2_with (first | (refine at_alloc 23 rfl ?_; refine wl_alloc rfl 23 rfl _ zV HC.out ?_; intro br w' hn hc; (replace HC := hide hc; clear hc))); go_loopw [6] (fun iv W => ∃ i : Nat, i ≤ l.length ∧ iv = .int .i64 i ∧ Hid (Cx w (fun _ => False) none [⟨br, [.int .i64 0, .int .i64 0, .string (bs [])], 23⟩] [] [] W)) (fun iv _ => l.length - (intOf iv).toNat))
  case atStart => exact ⟨0, by omega, rfl, HC⟩
  case round =>
    clear HC
    obtain ⟨i, hi, rfl, HC⟩ := hrel
    by_cases hlt : i < l.length
    · have j1 : (i : Int) < l.length := by omega
      obtain ⟨v, hv⟩ : ∃ p, l[i]? = some p := ⟨l[i], List.getElem?_eq_getElem hlt⟩
      have hvg := HAL.out v (List.mem_of_getElem? hv)
      obtain ⟨ad, rfl, hel⟩ := HO.out.el vC_len (by decide) hv
      have HEL := hide (fun W (hW : w.grownBy W none) j u (hu : (vC v)[j]? = some u) => hW.cell (hel j u hu) (by simp))
      unfold vC at HEL
      obtain ⟨B, hB⟩ : ∃ B, ad.add (i * 3) = B := ⟨_, rfl⟩
      rw [hB] at HEL
      have HGD := hide (rgood_as hvg.2 hvg.1)
      clear hel hv hvg
      go_wp2_with (first | (refine at_load 23 rfl ?_; refine wl_run rfl 23 _ rfl rfl (run_load_s tyV _ [.int .i64 v.f, .int .i64 v.n, .string (bs v.t)] rfl (HEL.out _ HC.out.grown)) ?_) | (go_at_call 16; (refine (HGD.out _).mono ?_; rintro e w2 ⟨rfl, hg⟩; (replace HC := hide (HC.out.g hg); clear hg))))
      go_roundw
      case rel => exact ⟨i + 1, by omega, by go_num, HC⟩
      case measure => simp [intOf]; omega
    · have j1 : ¬ (i : Int) < l.length := by omega
      have hL := HLL.out
      clear HLL
      subst hL
      obtain ⟨ad, rfl, hf⟩ := first_of HO.out
      have HFR := hide (fun W (hW : w.grownBy W none) j u (hu : (vC ⟨f, n, t⟩)[j]? = some u) => hW.cell (hf j u hu) (by simp))
      unfold vC at HFR
      dsimp only at HFR
      obtain ⟨x0, x1, x2⟩ := three_of (fun j u hu => HC.out.grown.cell (hf j u hu) (by simp))
      clear hf
      go_wp2_with (first | (refine at_alloc 23 rfl ?_; refine wl_alloc rfl 23 rfl _ zV HC.out ?_; intro b w' hn hc; (replace HC := hide hc; clear hc)) | (clear MF; (refine at_load 23 rfl ?_; refine wl_run rfl 23 _ rfl rfl (run_load_s tyV _ [.int .i64 f, .int .i64 n, .string (bs t)] rfl (HFR.out _ HC.out.grown)) ?_)) | (refine at_load 23 rfl ?_; refine wl_load_s rfl 23 _ rfl tyV rfl HC.out (by repeat (first | exact List.Mem.head _ | apply List.Mem.tail)) (GetS.all _) rfl ?_) | (refine at_load 3 rfl ?_; refine wl_load_c rfl 3 _ rfl tcI rfl HC.out (by repeat (first | exact List.Mem.head _ | apply List.Mem.tail)) (by repeat (first | exact GetS.cons _ (GetS.nil _) | apply GetS.skip)) ?_) | (go_at_call 30; (refine (HNO.out _).mono ?_; rintro e w2 ⟨rfl, hg⟩; (replace HC := hide (HC.out.g hg); clear hg))) | (go_at_call 27; (refine (HI.out _).mono ?_; rintro e w2 ⟨rfl, hg⟩; (replace HC := hide (HC.out.g hg); clear hg))) | (go_at_call 29; (refine (HI.out _).mono ?_; rintro e w2 ⟨rfl, hg⟩; (replace HC := hide (HC.out.g hg); clear hg))) | (go_at_call 37; ((refine (HX.out _).mono ?_; rintro e w2 ⟨rfl, hg⟩; (replace HC := hide (HC.out.g hg); clear hg)); ((try clear p0 p1 p2); obtain ⟨p0, p1, p2⟩ := cellh HC.out))) | (go_at_call 45; (refine (HSG.out _).mono ?_; rintro e w2 ⟨rfl, rfl⟩)) | (go_at_call 46; (refine (HSH.out _).mono ?_; rintro e w2 ⟨rfl, rfl⟩)) | (go_at_call 47; (refine (HSH.out _).mono ?_; rintro e w2 ⟨rfl, rfl⟩)) | (go_at_call 48; (refine (HSH.out _).mono ?_; rintro e w2 ⟨rfl, rfl⟩)) | (refine at_store 23 rfl ?_; refine wl_store rfl 23 _ _ rfl rfl rfl tyV.sz rfl HC.out (by repeat (first | exact List.Mem.head _ | apply List.Mem.tail)) (by exact PutS.all _ _ rfl) (by repeat (first | exact Upd.here _ _ _ | apply Upd.there)) ?_; intro w' hc; (replace HC := hide hc; clear hc); ((try clear p0 p1 p2); obtain ⟨p0, p1, p2⟩ := cellh HC.out)))
      ((refine ret_two Try.results20 rfl rfl HC.out (by repeat (first | exact List.Mem.head _ | apply List.Mem.tail)) tyV rfl ?_); exact ⟨rfl, HC.out.grown⟩)

set_option maxHeartbeats 12800000 in
theorem cor0 {s : List UInt8} {w : World} {o : Option Addr} {cp : Nat} {l : List Vl} (hl : l.length ≤ 1000000) (ha : Al l) (h : Cls w o (l.flatMap vC)) {f n : Int} {t : List UInt8} (hL : l = [⟨f, n, t⟩]) (k0 : ((bs s).toList == [65, 66, 83]) = false) (k1 : ((bs s).toList == [79, 68, 68]) = false) (k2 : ((bs s).toList == [79, 82, 68]) = true) (k3 : ((bs s).toList == [67, 72, 82]) = false) {g m : Int} {u : List UInt8} (HX : Ch f n t g m u) (e1 : (g == 3) = false) (e2 : (g == 2) = false) (e3 : (g == 4) = false) : Calls Try.prog 20 #[.string (bs s), .slice o l.length cp] w (Told w (.tuple #[.agg #[.int .i64 0, .int .i64 0, .string (bs [])], .int .i64 120])) := by
  have HC := hide (Cx.start w (fun _ => False))
  have HNO := hide rnone_as
  have HO := hide h
  have HAL := hide ha
  have k1 : (l.length : Int) ≤ 1000000 := by omega
  have MF := True.intro
  clear h hl ha
  have HLL := hide hL
  clear hL
  unfold Ch at HX
  replace HX := hide HX
  (go_enter Try.func20, Try.ntmps20; go_wp2_with (first | (refine at_alloc 23 rfl ?_; refine wl_alloc rfl 23 rfl _ zV HC.out ?_; intro br w' hn hc; (replace HC := hide hc; clear hc))); go_loopw [6] (fun iv W => ∃ i : Nat, i ≤ l.length ∧ iv = .int .i64 i ∧ Hid (Cx w (fun _ => False) none [⟨br, [.int .i64 0, .int .i64 0, .string (bs [])], 23⟩] [] [] W)) (fun iv _ => l.length - (intOf iv).toNat))
  case atStart => exact ⟨0, by omega, rfl, HC⟩
  case round =>
    clear HC
    obtain ⟨i, hi, rfl, HC⟩ := hrel
    by_cases hlt : i < l.length
    · have j1 : (i : Int) < l.length := by omega
      obtain ⟨v, hv⟩ : ∃ p, l[i]? = some p := ⟨l[i], List.getElem?_eq_getElem hlt⟩
      have hvg := HAL.out v (List.mem_of_getElem? hv)
      obtain ⟨ad, rfl, hel⟩ := HO.out.el vC_len (by decide) hv
      have HEL := hide (fun W (hW : w.grownBy W none) j u (hu : (vC v)[j]? = some u) => hW.cell (hel j u hu) (by simp))
      unfold vC at HEL
      obtain ⟨B, hB⟩ : ∃ B, ad.add (i * 3) = B := ⟨_, rfl⟩
      rw [hB] at HEL
      have HGD := hide (rgood_as hvg.2 hvg.1)
      clear hel hv hvg
      go_wp2_with (first | (refine at_load 23 rfl ?_; refine wl_run rfl 23 _ rfl rfl (run_load_s tyV _ [.int .i64 v.f, .int .i64 v.n, .string (bs v.t)] rfl (HEL.out _ HC.out.grown)) ?_) | (go_at_call 16; (refine (HGD.out _).mono ?_; rintro e w2 ⟨rfl, hg⟩; (replace HC := hide (HC.out.g hg); clear hg))))
      go_roundw
      case rel => exact ⟨i + 1, by omega, by go_num, HC⟩
      case measure => simp [intOf]; omega
    · have j1 : ¬ (i : Int) < l.length := by omega
      have hL := HLL.out
      clear HLL
      subst hL
      obtain ⟨ad, rfl, hf⟩ := first_of HO.out
      have HFR := hide (fun W (hW : w.grownBy W none) j u (hu : (vC ⟨f, n, t⟩)[j]? = some u) => hW.cell (hf j u hu) (by simp))
      unfold vC at HFR
      dsimp only at HFR
      obtain ⟨x0, x1, x2⟩ := three_of (fun j u hu => HC.out.grown.cell (hf j u hu) (by simp))
      clear hf
      go_wp2_with (first | (refine at_alloc 23 rfl ?_; refine wl_alloc rfl 23 rfl _ zV HC.out ?_; intro b w' hn hc; (replace HC := hide hc; clear hc)) | (clear MF; (refine at_load 23 rfl ?_; refine wl_run rfl 23 _ rfl rfl (run_load_s tyV _ [.int .i64 f, .int .i64 n, .string (bs t)] rfl (HFR.out _ HC.out.grown)) ?_)) | (refine at_load 23 rfl ?_; refine wl_load_s rfl 23 _ rfl tyV rfl HC.out (by repeat (first | exact List.Mem.head _ | apply List.Mem.tail)) (GetS.all _) rfl ?_) | (refine at_load 3 rfl ?_; refine wl_load_c rfl 3 _ rfl tcI rfl HC.out (by repeat (first | exact List.Mem.head _ | apply List.Mem.tail)) (by repeat (first | exact GetS.cons _ (GetS.nil _) | apply GetS.skip)) ?_) | (go_at_call 30; (refine (HNO.out _).mono ?_; rintro e w2 ⟨rfl, hg⟩; (replace HC := hide (HC.out.g hg); clear hg))) | (go_at_call 27; (refine (HI.out _).mono ?_; rintro e w2 ⟨rfl, hg⟩; (replace HC := hide (HC.out.g hg); clear hg))) | (go_at_call 29; (refine (HI.out _).mono ?_; rintro e w2 ⟨rfl, hg⟩; (replace HC := hide (HC.out.g hg); clear hg))) | (go_at_call 37; ((refine (HX.out _).mono ?_; rintro e w2 ⟨rfl, hg⟩; (replace HC := hide (HC.out.g hg); clear hg)); ((try clear p0 p1 p2); obtain ⟨p0, p1, p2⟩ := cellh HC.out))) | (go_at_call 45; (refine (HSG.out _).mono ?_; rintro e w2 ⟨rfl, rfl⟩)) | (go_at_call 46; (refine (HSH.out _).mono ?_; rintro e w2 ⟨rfl, rfl⟩)) | (go_at_call 47; (refine (HSH.out _).mono ?_; rintro e w2 ⟨rfl, rfl⟩)) | (go_at_call 48; (refine (HSH.out _).mono ?_; rintro e w2 ⟨rfl, rfl⟩)) | (refine at_store 23 rfl ?_; refine wl_store rfl 23 _ _ rfl rfl rfl tyV.sz rfl HC.out (by repeat (first | exact List.Mem.head _ | apply List.Mem.tail)) (by exact PutS.all _ _ rfl) (by repeat (first | exact Upd.here _ _ _ | apply Upd.there)) ?_; intro w' hc; (replace HC := hide hc; clear hc); ((try clear p0 p1 p2); obtain ⟨p0, p1, p2⟩ := cellh HC.out)))
      ((refine ret_two Try.results20 rfl rfl HC.out (by repeat (first | exact List.Mem.head _ | apply List.Mem.tail)) tyV rfl ?_); exact ⟨rfl, HC.out.grown⟩)

set_option maxHeartbeats 12800000 in
theorem cch0 {s : List UInt8} {w : World} {o : Option Addr} {cp : Nat} {l : List Vl} (hl : l.length ≤ 1000000) (ha : Al l) (h : Cls w o (l.flatMap vC)) {f n : Int} {t : List UInt8} (hL : l = [⟨f, n, t⟩]) (k0 : ((bs s).toList == [65, 66, 83]) = false) (k1 : ((bs s).toList == [79, 68, 68]) = false) (k2 : ((bs s).toList == [79, 82, 68]) = false) (k3 : ((bs s).toList == [67, 72, 82]) = true) (hf : (f == 1) = true) (hn : n < 0 ∨ (¬ n < 0 ∧ n > 255)) : Calls Try.prog 20 #[.string (bs s), .slice o l.length cp] w (Told w (.tuple #[.agg #[.int .i64 0, .int .i64 0, .string (bs [])], .int .i64 91])) := by
  have HC := hide (Cx.start w (fun _ => False))
  have HNO := hide rnone_as
  have HO := hide h
  have HAL := hide ha
  have k1 : (l.length : Int) ≤ 1000000 := by omega
  have MF := True.intro
  clear h hl ha
  have HLL := hide hL
  clear hL
  (go_enter Try.func20, Try.ntmps20; go_wp2_with (first | (refine at_alloc 23 rfl ?_; refine wl_alloc rfl 23 rfl _ zV HC.out ?_; intro br w' hn hc; (replace HC := hide hc; clear hc))); go_loopw [6] (fun iv W => ∃ i : Nat, i ≤ l.length ∧ iv = .int .i64 i ∧ Hid (Cx w (fun _ => False) none [⟨br, [.int .i64 0, .int .i64 0, .string (bs [])], 23⟩] [] [] W)) (fun iv _ => l.length - (intOf iv).toNat))
  case atStart => exact ⟨0, by omega, rfl, HC⟩
  case round =>
    clear HC
    obtain ⟨i, hi, rfl, HC⟩ := hrel
    by_cases hlt : i < l.length
    · have j1 : (i : Int) < l.length := by omega
      obtain ⟨v, hv⟩ : ∃ p, l[i]? = some p := ⟨l[i], List.getElem?_eq_getElem hlt⟩
      have hvg := HAL.out v (List.mem_of_getElem? hv)
      obtain ⟨ad, rfl, hel⟩ := HO.out.el vC_len (by decide) hv
      have HEL := hide (fun W (hW : w.grownBy W none) j u (hu : (vC v)[j]? = some u) => hW.cell (hel j u hu) (by simp))
      unfold vC at HEL
      obtain ⟨B, hB⟩ : ∃ B, ad.add (i * 3) = B := ⟨_, rfl⟩
      rw [hB] at HEL
      have HGD := hide (rgood_as hvg.2 hvg.1)
      clear hel hv hvg
      go_wp2_with (first | (refine at_load 23 rfl ?_; refine wl_run rfl 23 _ rfl rfl (run_load_s tyV _ [.int .i64 v.f, .int .i64 v.n, .string (bs v.t)] rfl (HEL.out _ HC.out.grown)) ?_) | (go_at_call 16; (refine (HGD.out _).mono ?_; rintro e w2 ⟨rfl, hg⟩; (replace HC := hide (HC.out.g hg); clear hg))))
      go_roundw
      case rel => exact ⟨i + 1, by omega, by go_num, HC⟩
      case measure => simp [intOf]; omega
    · have j1 : ¬ (i : Int) < l.length := by omega
      have hL := HLL.out
      clear HLL
      subst hL
      obtain ⟨ad, rfl, hf⟩ := first_of HO.out
      have HFR := hide (fun W (hW : w.grownBy W none) j u (hu : (vC ⟨f, n, t⟩)[j]? = some u) => hW.cell (hf j u hu) (by simp))
      unfold vC at HFR
      dsimp only at HFR
      obtain ⟨x0, x1, x2⟩ := three_of (fun j u hu => HC.out.grown.cell (hf j u hu) (by simp))
      clear hf
      rcases hn with h1 | ⟨h1, h2⟩
      · go_wp2_with (first | (refine at_alloc 23 rfl ?_; refine wl_alloc rfl 23 rfl _ zV HC.out ?_; intro b w' hn hc; (replace HC := hide hc; clear hc)) | (clear MF; (refine at_load 23 rfl ?_; refine wl_run rfl 23 _ rfl rfl (run_load_s tyV _ [.int .i64 f, .int .i64 n, .string (bs t)] rfl (HFR.out _ HC.out.grown)) ?_)) | (refine at_load 23 rfl ?_; refine wl_load_s rfl 23 _ rfl tyV rfl HC.out (by repeat (first | exact List.Mem.head _ | apply List.Mem.tail)) (GetS.all _) rfl ?_) | (refine at_load 3 rfl ?_; refine wl_load_c rfl 3 _ rfl tcI rfl HC.out (by repeat (first | exact List.Mem.head _ | apply List.Mem.tail)) (by repeat (first | exact GetS.cons _ (GetS.nil _) | apply GetS.skip)) ?_) | (go_at_call 30; (refine (HNO.out _).mono ?_; rintro e w2 ⟨rfl, hg⟩; (replace HC := hide (HC.out.g hg); clear hg))) | (go_at_call 27; (refine (HI.out _).mono ?_; rintro e w2 ⟨rfl, hg⟩; (replace HC := hide (HC.out.g hg); clear hg))) | (go_at_call 29; (refine (HI.out _).mono ?_; rintro e w2 ⟨rfl, hg⟩; (replace HC := hide (HC.out.g hg); clear hg))) | (go_at_call 37; ((refine (HX.out _).mono ?_; rintro e w2 ⟨rfl, hg⟩; (replace HC := hide (HC.out.g hg); clear hg)); ((try clear p0 p1 p2); obtain ⟨p0, p1, p2⟩ := cellh HC.out))) | (go_at_call 45; (refine (HSG.out _).mono ?_; rintro e w2 ⟨rfl, rfl⟩)) | (go_at_call 46; (refine (HSH.out _).mono ?_; rintro e w2 ⟨rfl, rfl⟩)) | (go_at_call 47; (refine (HSH.out _).mono ?_; rintro e w2 ⟨rfl, rfl⟩)) | (go_at_call 48; (refine (HSH.out _).mono ?_; rintro e w2 ⟨rfl, rfl⟩)) | (refine at_store 23 rfl ?_; refine wl_store rfl 23 _ _ rfl rfl rfl tyV.sz rfl HC.out (by repeat (first | exact List.Mem.head _ | apply List.Mem.tail)) (by exact PutS.all _ _ rfl) (by repeat (first | exact Upd.here _ _ _ | apply Upd.there)) ?_; intro w' hc; (replace HC := hide hc; clear hc); ((try clear p0 p1 p2); obtain ⟨p0, p1, p2⟩ := cellh HC.out)))
        ((refine ret_two Try.results20 rfl rfl HC.out (by repeat (first | exact List.Mem.head _ | apply List.Mem.tail)) tyV rfl ?_); exact ⟨rfl, HC.out.grown⟩)
      · go_wp2_with (first | (refine at_alloc 23 rfl ?_; refine wl_alloc rfl 23 rfl _ zV HC.out ?_; intro b w' hn hc; (replace HC := hide hc; clear hc)) | (clear MF; (refine at_load 23 rfl ?_; refine wl_run rfl 23 _ rfl rfl (run_load_s tyV _ [.int .i64 f, .int .i64 n, .string (bs t)] rfl (HFR.out _ HC.out.grown)) ?_)) | (refine at_load 23 rfl ?_; refine wl_load_s rfl 23 _ rfl tyV rfl HC.out (by repeat (first | exact List.Mem.head _ | apply List.Mem.tail)) (GetS.all _) rfl ?_) | (refine at_load 3 rfl ?_; refine wl_load_c rfl 3 _ rfl tcI rfl HC.out (by repeat (first | exact List.Mem.head _ | apply List.Mem.tail)) (by repeat (first | exact GetS.cons _ (GetS.nil _) | apply GetS.skip)) ?_) | (go_at_call 30; (refine (HNO.out _).mono ?_; rintro e w2 ⟨rfl, hg⟩; (replace HC := hide (HC.out.g hg); clear hg))) | (go_at_call 27; (refine (HI.out _).mono ?_; rintro e w2 ⟨rfl, hg⟩; (replace HC := hide (HC.out.g hg); clear hg))) | (go_at_call 29; (refine (HI.out _).mono ?_; rintro e w2 ⟨rfl, hg⟩; (replace HC := hide (HC.out.g hg); clear hg))) | (go_at_call 37; ((refine (HX.out _).mono ?_; rintro e w2 ⟨rfl, hg⟩; (replace HC := hide (HC.out.g hg); clear hg)); ((try clear p0 p1 p2); obtain ⟨p0, p1, p2⟩ := cellh HC.out))) | (go_at_call 45; (refine (HSG.out _).mono ?_; rintro e w2 ⟨rfl, rfl⟩)) | (go_at_call 46; (refine (HSH.out _).mono ?_; rintro e w2 ⟨rfl, rfl⟩)) | (go_at_call 47; (refine (HSH.out _).mono ?_; rintro e w2 ⟨rfl, rfl⟩)) | (go_at_call 48; (refine (HSH.out _).mono ?_; rintro e w2 ⟨rfl, rfl⟩)) | (refine at_store 23 rfl ?_; refine wl_store rfl 23 _ _ rfl rfl rfl tyV.sz rfl HC.out (by repeat (first | exact List.Mem.head _ | apply List.Mem.tail)) (by exact PutS.all _ _ rfl) (by repeat (first | exact Upd.here _ _ _ | apply Upd.there)) ?_; intro w' hc; (replace HC := hide hc; clear hc); ((try clear p0 p1 p2); obtain ⟨p0, p1, p2⟩ := cellh HC.out)))
        ((refine ret_two Try.results20 rfl rfl HC.out (by repeat (first | exact List.Mem.head _ | apply List.Mem.tail)) tyV rfl ?_); exact ⟨rfl, HC.out.grown⟩)

set_option maxHeartbeats 12800000 in
theorem cch1 {s : List UInt8} {w : World} {o : Option Addr} {cp : Nat} {l : List Vl} (hl : l.length ≤ 1000000) (ha : Al l) (h : Cls w o (l.flatMap vC)) {f n : Int} {t : List UInt8} (hL : l = [⟨f, n, t⟩]) (k0 : ((bs s).toList == [65, 66, 83]) = false) (k1 : ((bs s).toList == [79, 68, 68]) = false) (k2 : ((bs s).toList == [79, 82, 68]) = false) (k3 : ((bs s).toList == [67, 72, 82]) = true) (hf : (f == 1) = true) (h1 : ¬ n < 0) (h2 : ¬ n > 255) : Calls Try.prog 20 #[.string (bs s), .slice o l.length cp] w (Told w (.tuple #[.agg #[.int .i64 3, .int .i64 n, .string (bs [])], .int .i64 0])) := by
  have HC := hide (Cx.start w (fun _ => False))
  have HNO := hide rnone_as
  have HO := hide h
  have HAL := hide ha
  have k1 : (l.length : Int) ≤ 1000000 := by omega
  have MF := True.intro
  clear h hl ha
  have HLL := hide hL
  clear hL
  (go_enter Try.func20, Try.ntmps20; go_wp2_with (first | (refine at_alloc 23 rfl ?_; refine wl_alloc rfl 23 rfl _ zV HC.out ?_; intro br w' hn hc; (replace HC := hide hc; clear hc))); go_loopw [6] (fun iv W => ∃ i : Nat, i ≤ l.length ∧ iv = .int .i64 i ∧ Hid (Cx w (fun _ => False) none [⟨br, [.int .i64 0, .int .i64 0, .string (bs [])], 23⟩] [] [] W)) (fun iv _ => l.length - (intOf iv).toNat))
  case atStart => exact ⟨0, by omega, rfl, HC⟩
  case round =>
    clear HC
    obtain ⟨i, hi, rfl, HC⟩ := hrel
    by_cases hlt : i < l.length
    · have j1 : (i : Int) < l.length := by omega
      obtain ⟨v, hv⟩ : ∃ p, l[i]? = some p := ⟨l[i], List.getElem?_eq_getElem hlt⟩
      have hvg := HAL.out v (List.mem_of_getElem? hv)
      obtain ⟨ad, rfl, hel⟩ := HO.out.el vC_len (by decide) hv
      have HEL := hide (fun W (hW : w.grownBy W none) j u (hu : (vC v)[j]? = some u) => hW.cell (hel j u hu) (by simp))
      unfold vC at HEL
      obtain ⟨B, hB⟩ : ∃ B, ad.add (i * 3) = B := ⟨_, rfl⟩
      rw [hB] at HEL
      have HGD := hide (rgood_as hvg.2 hvg.1)
      clear hel hv hvg
      go_wp2_with (first | (refine at_load 23 rfl ?_; refine wl_run rfl 23 _ rfl rfl (run_load_s tyV _ [.int .i64 v.f, .int .i64 v.n, .string (bs v.t)] rfl (HEL.out _ HC.out.grown)) ?_) | (go_at_call 16; (refine (HGD.out _).mono ?_; rintro e w2 ⟨rfl, hg⟩; (replace HC := hide (HC.out.g hg); clear hg))))
      go_roundw
      case rel => exact ⟨i + 1, by omega, by go_num, HC⟩
      case measure => simp [intOf]; omega
    · have j1 : ¬ (i : Int) < l.length := by omega
      have hL := HLL.out
      clear HLL
      subst hL
      obtain ⟨ad, rfl, hf⟩ := first_of HO.out
      have HFR := hide (fun W (hW : w.grownBy W none) j u (hu : (vC ⟨f, n, t⟩)[j]? = some u) => hW.cell (hf j u hu) (by simp))
      unfold vC at HFR
      dsimp only at HFR
      obtain ⟨x0, x1, x2⟩ := three_of (fun j u hu => HC.out.grown.cell (hf j u hu) (by simp))
      clear hf
      go_wp2_with (first | (refine at_alloc 23 rfl ?_; refine wl_alloc rfl 23 rfl _ zV HC.out ?_; intro b w' hn hc; (replace HC := hide hc; clear hc)) | (clear MF; (refine at_load 23 rfl ?_; refine wl_run rfl 23 _ rfl rfl (run_load_s tyV _ [.int .i64 f, .int .i64 n, .string (bs t)] rfl (HFR.out _ HC.out.grown)) ?_)) | (refine at_load 23 rfl ?_; refine wl_load_s rfl 23 _ rfl tyV rfl HC.out (by repeat (first | exact List.Mem.head _ | apply List.Mem.tail)) (GetS.all _) rfl ?_) | (refine at_load 3 rfl ?_; refine wl_load_c rfl 3 _ rfl tcI rfl HC.out (by repeat (first | exact List.Mem.head _ | apply List.Mem.tail)) (by repeat (first | exact GetS.cons _ (GetS.nil _) | apply GetS.skip)) ?_) | (go_at_call 30; (refine (HNO.out _).mono ?_; rintro e w2 ⟨rfl, hg⟩; (replace HC := hide (HC.out.g hg); clear hg))) | (go_at_call 27; (refine (HI.out _).mono ?_; rintro e w2 ⟨rfl, hg⟩; (replace HC := hide (HC.out.g hg); clear hg))) | (go_at_call 29; (refine (HI.out _).mono ?_; rintro e w2 ⟨rfl, hg⟩; (replace HC := hide (HC.out.g hg); clear hg))) | (go_at_call 37; ((refine (HX.out _).mono ?_; rintro e w2 ⟨rfl, hg⟩; (replace HC := hide (HC.out.g hg); clear hg)); ((try clear p0 p1 p2); obtain ⟨p0, p1, p2⟩ := cellh HC.out))) | (go_at_call 45; (refine (HSG.out _).mono ?_; rintro e w2 ⟨rfl, rfl⟩)) | (go_at_call 46; (refine (HSH.out _).mono ?_; rintro e w2 ⟨rfl, rfl⟩)) | (go_at_call 47; (refine (HSH.out _).mono ?_; rintro e w2 ⟨rfl, rfl⟩)) | (go_at_call 48; (refine (HSH.out _).mono ?_; rintro e w2 ⟨rfl, rfl⟩)) | (refine at_store 23 rfl ?_; refine wl_store rfl 23 _ _ rfl rfl rfl tyV.sz rfl HC.out (by repeat (first | exact List.Mem.head _ | apply List.Mem.tail)) (by exact PutS.all _ _ rfl) (by repeat (first | exact Upd.here _ _ _ | apply Upd.there)) ?_; intro w' hc; (replace HC := hide hc; clear hc); ((try clear p0 p1 p2); obtain ⟨p0, p1, p2⟩ := cellh HC.out)))
      ((refine ret_two Try.results20 rfl rfl HC.out (by repeat (first | exact List.Mem.head _ | apply List.Mem.tail)) tyV rfl ?_); exact ⟨rfl, HC.out.grown⟩)
end Go.Proofs.Ytgdpcdpkaaefbaa.Cn
namespace Go.Proofs.Ytgdpcdpkaaefbaa.Cn
open Go.RowKit hiding Hid
open Go.Maps Go.Proofs.Ytgdpcdpkaaefbaa.Tx Go.Proofs.Ytgdpcdpkaaefbaa.Lx Go.Proofs.Ytgdpcdpkaaefbaa.Mp Go.Proofs.Ytgdpcdpkaaefbaa.Bits Go.Proofs.Ytgdpcdpkaaefbaa.Tr Go.Proofs.Ytgdpcdpkaaefbaa.Bm
set_option linter.unusedVariables false
set_option linter.unusedSimpArgs false
set_option maxRecDepth 100000

set_option maxHeartbeats 6400000 in
theorem cbad {s : List UInt8} {w : World} {o : Option Addr} {cp : Nat} {l : List Vl} (hl : l.length ≤ 1000000) (ht : ∀ v ∈ l, v.t.length ≤ 9223372036854775807) (h : Cls w o (l.flatMap vC)) (hb : l.all goodV = false) : Calls Try.prog 20 #[.string (bs s), .slice o l.length cp] w (Told w (.tuple #[.agg #[.int .i64 0, .int .i64 0, .string (bs [])], .int .i64 120])) := by
  have HC := hide (Cx.start w (fun _ => False))
  have HNO := hide rnone_as
  have HO := hide h
  have HT := hide ht
  have HBD := hide hb
  have k1 : (l.length : Int) ≤ 1000000 := by omega
  clear h hl ht hb
  go_enter Try.func20, Try.ntmps20
  go_wp2_with (first | (refine at_alloc 23 rfl ?_; refine wl_alloc rfl 23 rfl _ zV HC.out ?_; intro br w' hn hc; (replace HC := hide hc; clear hc)))
  go_loopw [6] (fun iv W => ∃ i : Nat, i ≤ l.length ∧ iv = .int .i64 i ∧ Hid ((l.take i).all goodV = true) ∧ Hid (Cx w (fun _ => False) none [⟨br, [.int .i64 0, .int .i64 0, .string (bs [])], 23⟩] [] [] W)) (fun iv _ => l.length - (intOf iv).toNat)
  case atStart => exact ⟨0, by omega, rfl, hide (by simp), HC⟩
  case round =>
    clear HC
    obtain ⟨i, hi, rfl, HG, HC⟩ := hrel
    by_cases hlt : i < l.length
    · have j1 : (i : Int) < l.length := by omega
      obtain ⟨v, hv⟩ : ∃ p, l[i]? = some p := ⟨l[i], List.getElem?_eq_getElem hlt⟩
      have hvl := HT.out v (List.mem_of_getElem? hv)
      obtain ⟨ad, rfl, hel⟩ := HO.out.el vC_len (by decide) hv
      have HEL := hide (fun W (hW : w.grownBy W none) j u (hu : (vC v)[j]? = some u) => hW.cell (hel j u hu) (by simp))
      unfold vC at HEL
      obtain ⟨B, hB⟩ : ∃ B, ad.add (i * 3) = B := ⟨_, rfl⟩
      rw [hB] at HEL
      have HV := hide hv
      cases hgv : goodV v with
      | true =>
        have HGD := hide (rgood_as hvl hgv)
        have HK := hide hgv
        clear hel hv hvl hgv
        go_wp2_with (first | (refine at_load 23 rfl ?_; refine wl_run rfl 23 _ rfl rfl (run_load_s tyV _ [.int .i64 v.f, .int .i64 v.n, .string (bs v.t)] rfl (HEL.out _ HC.out.grown)) ?_) | (go_at_call 16; (refine (HGD.out _).mono ?_; rintro e w2 ⟨rfl, hg⟩; (replace HC := hide (HC.out.g hg); clear hg))))
        go_roundw
        case rel =>
          refine ⟨i + 1, by omega, by go_num, hide ?_, HC⟩
          rw [List.take_add_one, HV.out, List.all_append, HG.out]
          simp [HK.out]
        case measure => simp [intOf]; omega
      | false =>
        have HGD := hide (rgood_as hvl hgv)
        clear hel hv hvl hgv
        go_wp2_with (first | (refine at_load 23 rfl ?_; refine wl_run rfl 23 _ rfl rfl (run_load_s tyV _ [.int .i64 v.f, .int .i64 v.n, .string (bs v.t)] rfl (HEL.out _ HC.out.grown)) ?_) | (go_at_call 16; (refine (HGD.out _).mono ?_; rintro e w2 ⟨rfl, hg⟩; (replace HC := hide (HC.out.g hg); clear hg))) | (go_at_call 30; (refine (HNO.out _).mono ?_; rintro e w2 ⟨rfl, hg⟩; (replace HC := hide (HC.out.g hg); clear hg))) | (refine at_store 23 rfl ?_; refine wl_store rfl 23 _ _ rfl rfl rfl tyV.sz rfl HC.out (by repeat (first | exact List.Mem.head _ | apply List.Mem.tail)) (by exact PutS.all _ _ rfl) (by repeat (first | exact Upd.here _ _ _ | apply Upd.there)) ?_; intro w' hc; (replace HC := hide hc; clear hc)))
        refine ret_two Try.results20 rfl rfl HC.out (by repeat (first | exact List.Mem.head _ | apply List.Mem.tail)) tyV rfl ?_
        exact ⟨rfl, HC.out.grown⟩
    · exfalso
      have h1 := HG.out
      have h2 := HBD.out
      rw [List.take_of_length_le (by omega), h2] at h1
      cases h1
theorem cno_of {f g : Int} {L : List (List UInt8 × Cd)} (hL : sub callsE f g = L) {x y : Vl} (hx : x.f = f) (hy : y.f = g) {s : List UInt8} (h : L.all (fun p => p.1 != s) = true) : rk callsE s x y = noR := rk_no (by
  rw [hx, hy, hL]
  intro p hp
  have := List.all_eq_true.1 h p hp
  simpa using this)
def cmB (f g : Int) (s : List UInt8) (c : Cd) : Bool := decide (((f, g, s), c) ∈ callsE)
theorem chit {f g : Int} {s : List UInt8} {c : Cd} {x y : Vl} (hx : x.f = f) (hy : y.f = g) (h : cmB f g s c = true) : rk callsE s x y = ev c x y := rk_hit calls_nd (by rw [hx, hy]; exact of_decide_eq_true h)
def c2B (p : Ky × Cd) : Bool := (p.1.2.1 == 0) || ((p.1.1 == 1) && (p.1.2.1 == 1))
theorem c2_all : callsE.all c2B = true := by kernel_rfl
theorem cun_no {x y : Vl} {s : List UInt8} (h0 : ¬ y.f = 0) (h1 : ¬ (x.f = 1 ∧ y.f = 1)) : rk callsE s x y = noR := rk_miss (fun p hp e => by
  have := List.all_eq_true.1 c2_all p hp
  unfold c2B at this
  rw [e] at this
  simp only [Bool.or_eq_true, Bool.and_eq_true, beq_iff_eq] at this
  rcases this with h | h
  · exact h0 h
  · exact h1 h)
theorem call_1 (s : List UInt8) {v : Vl} (h : goodV v = true) : callP s [v] = rk callsE s v Vl.z := by
  unfold callP
  rw [if_neg (by simp), if_pos (by simp [h])]
  rfl
theorem call_2 (s : List UInt8) {a b : Vl} (h : goodV a = true) (h' : goodV b = true) : callP s [a, b] = rk callsE s a b := by
  unfold callP
  rw [if_neg (by simp), if_pos (by simp [h, h'])]
  rfl
theorem call_0 (s : List UInt8) : callP s [] = noR := by
  unfold callP
  rw [if_neg (by simp), if_pos (by simp)]
  refine rk_miss (fun p hp e => ?_)
  have : (callsE.all fun p => p.1.1 != 0) = true := by kernel_rfl
  have := List.all_eq_true.1 this p hp
  rw [e] at this
  simp [Vl.z] at this
theorem rcall_two (s : List UInt8) {w : World} {o : Option Addr} {cp : Nat} {a b : Vl} (ha : Al [a, b]) (h : Cls w o (([a, b] : List Vl).flatMap vC)) : Calls Try.prog 20 #[.string (bs s), .slice o ([a, b] : List Vl).length cp] w (Told w (rsV (rk callsE s a b))) := by
  have g1 := (ha a (by simp)).1
  have g2 := (ha b (by simp)).1
  have r2 := good_rg g2
  by_cases hf : a.f = 1 ∧ b.f = 1
  · have e1 := mk_form hf.1 (good_t g1 (by omega))
    have e2 := mk_form hf.2 (good_t g2 (by omega))
    generalize a.n = n at e1
    generalize b.n = m at e2
    subst e1
    subst e2
    by_cases h0 : s = [76, 83, 76]
    · subst h0
      rw [chit (c := .lsl) (x := ⟨1, n, []⟩) (y := ⟨1, m, []⟩) rfl rfl (by kernel_rfl)]
      obtain ⟨rf, rn, rt, re, hR⟩ := parts (intR (wrap32 (lslI (n % 4294967296) (m % 4294967296))))
      rw [show ev .lsl ⟨1, n, []⟩ ⟨1, m, []⟩ = (⟨rf, rn, rt⟩, re) from hR]
      exact csh0 (by simp) ha h rfl (tE_tt rfl) (fun W => rlsl_any _ _ W (m0 _) (m1 _) (m0 _) (m1 _)) (fun W => rsigned_any _ W (lsl_range _ _).1 (lsl_range _ _).2) (rinteger_as hR)
    by_cases h1 : s = [65, 83, 82]
    · subst h1
      rw [chit (c := .asr) (x := ⟨1, n, []⟩) (y := ⟨1, m, []⟩) rfl rfl (by kernel_rfl)]
      obtain ⟨rf, rn, rt, re, hR⟩ := parts (intR (wrap32 (asrI (n % 4294967296) (m % 4294967296))))
      rw [show ev .asr ⟨1, n, []⟩ ⟨1, m, []⟩ = (⟨rf, rn, rt⟩, re) from hR]
      exact csh1 (by simp) ha h rfl (tE_ff h0) (tE_tt rfl) (fun W => rasr_any _ _ W (m0 _) (m1 _) (m0 _) (m1 _)) (fun W => rsigned_any _ W (by unfold asrI; omega) (by unfold asrI; omega)) (rinteger_as hR)
    by_cases h2 : s = [82, 79, 82]
    · subst h2
      rw [chit (c := .ror) (x := ⟨1, n, []⟩) (y := ⟨1, m, []⟩) rfl rfl (by kernel_rfl)]
      obtain ⟨rf, rn, rt, re, hR⟩ := parts (intR (wrap32 (rorI (n % 4294967296) (m % 4294967296))))
      rw [show ev .ror ⟨1, n, []⟩ ⟨1, m, []⟩ = (⟨rf, rn, rt⟩, re) from hR]
      exact csh2 (by simp) ha h rfl (tE_ff h0) (tE_ff h1) (tE_tt rfl) (fun W => rror_any _ _ W (m0 _) (m1 _) (m0 _) (m1 _)) (fun W => rsigned_any _ W (ror_range _ _ (m0 _) (m1 _)).1 (ror_range _ _ (m0 _) (m1 _)).2) (rinteger_as hR)
    rw [cno_of (L := [([76, 83, 76], .lsl), ([65, 83, 82], .asr), ([82, 79, 82], .ror)]) (x := ⟨1, n, []⟩) (y := ⟨1, m, []⟩) (by kernel_rfl) rfl rfl (by simp [Ne.symm h0, Ne.symm h1, Ne.symm h2])]
    exact cshn (by simp) ha h rfl (tE_ff h0) (tE_ff h1) (tE_ff h2)
  · rw [cun_no (by omega) hf]
    obtain ⟨f, n, t⟩ := a
    obtain ⟨g, m, u⟩ := b
    refine cun (by simp) ha h rfl ?_
    rcases emB (f == 1) with h' | h'
    · exact .inl h'
    · rcases emB (g == 1) with h'' | h''
      · exact .inr ⟨h', h''⟩
      · exact absurd ⟨by simpa using h', by simpa using h''⟩ hf
theorem rcall_one (s : List UInt8) {w : World} {o : Option Addr} {cp : Nat} {v : Vl} (ha : Al [v]) (h : Cls w o (([v] : List Vl).flatMap vC)) : Calls Try.prog 20 #[.string (bs s), .slice o ([v] : List Vl).length cp] w (Told w (rsV (rk callsE s v Vl.z))) := by
  obtain ⟨g1, g3⟩ := ha v (by simp)
  have r1 := good_rg g1
  have hx := rchar_as g3 (rfl : chV v = chV v)
  obtain ⟨f, n, t⟩ := v
  dsimp only at r1 g3 hx
  have hch : ¬ f = 6 → chV ⟨f, n, t⟩ = ⟨f, n, t⟩ := fun h => chV_n h
  by_cases h0 : s = [65, 66, 83]
  · subst h0
    by_cases hf : f = 1
    · subst hf
      rw [chit (c := .abs) (x := ⟨1, n, t⟩) (y := Vl.z) rfl rfl (by kernel_rfl)]
      obtain ⟨Z, hZ⟩ : ∃ Z, (if 0 ≤ n then n else -n) = Z := ⟨_, rfl⟩
      obtain ⟨rf, rn, rt, re, hR⟩ := parts (intR Z)
      rw [show ev .abs ⟨1, n, t⟩ Vl.z = (⟨rf, rn, rt⟩, re) from (congrArg intR hZ).trans hR]
      refine cabs (by simp) ha h rfl (tE_tt rfl) (tE_ff (by decide)) (tE_ff (by decide)) (tE_ff (by decide)) rfl ?_ r1.1.1 r1.1.2 (rinteger_as hR)
      by_cases hn : 0 ≤ n
      · rw [if_pos hn] at hZ; exact .inl ⟨hn, by omega, hZ.symm⟩
      · rw [if_neg hn] at hZ; exact .inr ⟨by omega, hZ.symm⟩
    · rw [show rk callsE [65, 66, 83] ⟨f, n, t⟩ Vl.z = noR from rk_miss (fun p hp e => by
        have : (callsE.all fun p => (p.1.2.2 != [65, 66, 83]) || (p.1.1 == 1)) = true := by kernel_rfl
        have := List.all_eq_true.1 this p hp
        rw [e] at this
        simp at this
        exact hf this)]
      exact cnot (by simp) ha h rfl (.inl ⟨tE_tt rfl, tE_ff (by decide), tE_ff (by decide), tE_ff (by decide), by simpa using hf⟩)
  by_cases h1 : s = [79, 68, 68]
  · subst h1
    by_cases hf : f = 1
    · subst hf
      rw [chit (c := .odd) (x := ⟨1, n, t⟩) (y := Vl.z) rfl rfl (by kernel_rfl)]
      obtain ⟨rf, rn, rt, re, hR⟩ := parts (bolR (n.tmod 2 != 0))
      rw [show ev .odd ⟨1, n, t⟩ Vl.z = (⟨rf, rn, rt⟩, re) from hR]
      exact codd (by simp) ha h rfl (tE_ff (by decide)) (tE_tt rfl) (tE_ff (by decide)) (tE_ff (by decide)) rfl rfl rfl (tr_truth hR)
    · rw [show rk callsE [79, 68, 68] ⟨f, n, t⟩ Vl.z = noR from rk_miss (fun p hp e => by
        have : (callsE.all fun p => (p.1.2.2 != [79, 68, 68]) || (p.1.1 == 1)) = true := by kernel_rfl
        have := List.all_eq_true.1 this p hp
        rw [e] at this
        simp at this
        exact hf this)]
      exact cnot (by simp) ha h rfl (.inr (.inl ⟨tE_ff (by decide), tE_tt rfl, tE_ff (by decide), tE_ff (by decide), by simpa using hf⟩))
  by_cases h2 : s = [79, 82, 68]
  · subst h2
    have a0 : ((bs [79, 82, 68]).toList == [65, 66, 83]) = false := tE_ff (by decide)
    have a1 : ((bs [79, 82, 68]).toList == [79, 68, 68]) = false := tE_ff (by decide)
    have a2 : ((bs [79, 82, 68]).toList == [79, 82, 68]) = true := tE_tt rfl
    have a3 : ((bs [79, 82, 68]).toList == [67, 72, 82]) = false := tE_ff (by decide)
    have c6 : f = 1 ∨ f = 2 ∨ f = 3 ∨ f = 4 ∨ f = 5 ∨ f = 6 := by omega
    rcases c6 with rfl | rfl | rfl | rfl | rfl | rfl
    · rw [hch (by decide)] at hx
      rw [cno_of (L := [([65, 66, 83], .abs), ([79, 68, 68], .odd), ([67, 72, 82], .chr)]) (x := ⟨1, n, t⟩) (y := Vl.z) (by kernel_rfl) rfl rfl (by decide)]
      exact cor0 (by simp) ha h rfl a0 a1 a2 a3 hx rfl rfl rfl
    · rw [hch (by decide)] at hx
      rw [chit (c := .wi2) (x := ⟨2, n, t⟩) (y := Vl.z) rfl rfl (by kernel_rfl)]
      have hn : 0 ≤ n ∧ n ≤ 1 := by
        have := g1
        rw [goodV_n (v := ⟨2, n, t⟩) (by dsimp only; decide)] at this
        dsimp only at this
        rw [goodN_2] at this
        simp only [wiB, Bool.and_eq_true, decide_eq_true_eq] at this
        exact this.2
      obtain ⟨rf, rn, rt, re, hR⟩ := parts (intR n)
      rw [show ev .wi2 ⟨2, n, t⟩ Vl.z = (⟨rf, rn, rt⟩, re) from (congrArg intR (wr32 (a := n) (by omega) (by omega))).trans hR]
      exact cor1 (by simp) ha h rfl a0 a1 a2 a3 hx (.inr ⟨rfl, rfl⟩) (rinteger_as hR)
    · rw [hch (by decide)] at hx
      rw [chit (c := .wi1) (x := ⟨3, n, t⟩) (y := Vl.z) rfl rfl (by kernel_rfl)]
      have hn : 0 ≤ n ∧ n ≤ 255 := by
        have := g1
        rw [goodV_n (v := ⟨3, n, t⟩) (by dsimp only; decide)] at this
        dsimp only at this
        rw [goodN_3] at this
        simp only [wiB, Bool.and_eq_true, decide_eq_true_eq] at this
        exact this.2
      obtain ⟨rf, rn, rt, re, hR⟩ := parts (intR n)
      rw [show ev .wi1 ⟨3, n, t⟩ Vl.z = (⟨rf, rn, rt⟩, re) from (congrArg intR (wr32 (a := n) (by omega) (by omega))).trans hR]
      exact cor1 (by simp) ha h rfl a0 a1 a2 a3 hx (.inl rfl) (rinteger_as hR)
    · rw [hch (by decide)] at hx
      rw [chit (c := .wi3) (x := ⟨4, n, t⟩) (y := Vl.z) rfl rfl (by kernel_rfl)]
      obtain ⟨rf, rn, rt, re, hR⟩ := parts (intR (wrap32 (n % 4294967296)))
      rw [show ev .wi3 ⟨4, n, t⟩ Vl.z = (⟨rf, rn, rt⟩, re) from hR]
      exact cor2 (by simp) ha h rfl a0 a1 a2 a3 hx rfl rfl rfl (fun W => rsigned_any _ W (m0 _) (m1 _)) (rinteger_as hR)
    · rw [hch (by decide)] at hx
      rw [cno_of (L := []) (x := ⟨5, n, t⟩) (y := Vl.z) (by kernel_rfl) rfl rfl rfl]
      exact cor0 (by simp) ha h rfl a0 a1 a2 a3 hx rfl rfl rfl
    · rw [chit (c := .otx) (x := ⟨6, n, t⟩) (y := Vl.z) rfl rfl (by kernel_rfl)]
      by_cases hl : t.length = 1
      · rw [show chV ⟨6, n, t⟩ = ⟨3, (t.headD 0).toNat, []⟩ from if_pos ⟨rfl, hl⟩] at hx
        obtain ⟨rf, rn, rt, re, hR⟩ := parts (intR (t.headD 0).toNat)
        rw [show ev .otx ⟨6, n, t⟩ Vl.z = (⟨rf, rn, rt⟩, re) from (show otxR ⟨6, n, t⟩ Vl.z = intR (t.headD 0).toNat from if_pos hl).trans hR]
        exact cor1 (by simp) ha h rfl a0 a1 a2 a3 hx (.inl rfl) (rinteger_as hR)
      · rw [show chV ⟨6, n, t⟩ = ⟨6, n, t⟩ from if_neg (fun e => hl e.2)] at hx
        rw [show ev .otx ⟨6, n, t⟩ Vl.z = noR from if_neg hl]
        exact cor0 (by simp) ha h rfl a0 a1 a2 a3 hx rfl rfl rfl
  by_cases h3 : s = [67, 72, 82]
  · subst h3
    have a0 : ((bs [67, 72, 82]).toList == [65, 66, 83]) = false := tE_ff (by decide)
    have a1 : ((bs [67, 72, 82]).toList == [79, 68, 68]) = false := tE_ff (by decide)
    have a2 : ((bs [67, 72, 82]).toList == [79, 82, 68]) = false := tE_ff (by decide)
    have a3 : ((bs [67, 72, 82]).toList == [67, 72, 82]) = true := tE_tt rfl
    by_cases hf : f = 1
    · subst hf
      rw [chit (c := .chr) (x := ⟨1, n, t⟩) (y := Vl.z) rfl rfl (by kernel_rfl)]
      by_cases n0 : n < 0
      · rw [show ev .chr ⟨1, n, t⟩ Vl.z = (Vl.z, 91) from if_neg (by simp [wiB]; omega)]
        exact cch0 (by simp) ha h rfl a0 a1 a2 a3 rfl (.inl n0)
      by_cases n1 : n > 255
      · rw [show ev .chr ⟨1, n, t⟩ Vl.z = (Vl.z, 91) from if_neg (by simp [wiB]; omega)]
        exact cch0 (by simp) ha h rfl a0 a1 a2 a3 rfl (.inr ⟨n0, n1⟩)
      · rw [show ev .chr ⟨1, n, t⟩ Vl.z = (⟨3, n, []⟩, 0) from if_pos (by simp [wiB]; omega)]
        exact cch1 (by simp) ha h rfl a0 a1 a2 a3 rfl n0 n1
    · rw [show rk callsE [67, 72, 82] ⟨f, n, t⟩ Vl.z = noR from rk_miss (fun p hp e => by
        have : (callsE.all fun p => (p.1.2.2 != [67, 72, 82]) || (p.1.1 == 1)) = true := by kernel_rfl
        have := List.all_eq_true.1 this p hp
        rw [e] at this
        simp at this
        exact hf this)]
      exact cnot (by simp) ha h rfl (.inr (.inr (.inl ⟨a0, a1, a2, a3, by simpa using hf⟩)))
  · rw [show rk callsE s ⟨f, n, t⟩ Vl.z = noR from rk_miss (fun p hp e => by
      have : (callsE.all fun p => (p.1.2.1 == 1) || ((p.1.2.2 == [65, 66, 83]) || ((p.1.2.2 == [79, 68, 68]) || ((p.1.2.2 == [79, 82, 68]) || (p.1.2.2 == [67, 72, 82]))))) = true := by kernel_rfl
      have := List.all_eq_true.1 this p hp
      rw [e] at this
      simp only [Bool.or_eq_true, beq_iff_eq] at this
      rcases this with h | h | h | h | h
      · exact absurd h (by decide)
      · exact h0 h
      · exact h1 h
      · exact h2 h
      · exact h3 h)]
    exact cnot (by simp) ha h rfl (.inr (.inr (.inr ⟨tE_ff h0, tE_ff h1, tE_ff h2, tE_ff h3⟩)))
theorem rcall_at (s : List UInt8) {w : World} {o : Option Addr} {cp : Nat} {l : List Vl} (hl : l.length ≤ 1000000) (ht : ∀ v ∈ l, v.t.length ≤ 9223372036854775807) (h : Cls w o (l.flatMap vC)) : Calls Try.prog 20 #[.string (bs s), .slice o l.length cp] w (Told w (rsV (callP s l))) := by
  cases hb : l.all goodV with
  | false =>
    rw [show callP s l = noR by unfold callP; split; rfl; rw [if_neg (by simp [hb])]]
    exact cbad hl ht h hb
  | true =>
    have ha : Al l := fun v hv => ⟨List.all_eq_true.1 hb v hv, ht v hv⟩
    match l, ha, h with
    | [], ha, h =>
      rw [call_0]
      exact cno hl ha h rfl rfl
    | [v], ha, h =>
      rw [call_1 s (ha v (by simp)).1]
      exact rcall_one s ha h
    | [a, b], ha, h =>
      rw [call_2 s (ha a (by simp)).1 (ha b (by simp)).1]
      exact rcall_two s ha h
    | a :: b :: c :: l, ha, h =>
      rw [callP_long (by simp)]
      exact cno hl ha h (by simp; omega) (by simp; omega)
end Go.Proofs.Ytgdpcdpkaaefbaa.Cn
namespace Go.Proofs.Ytgdpcdpkaaefbaa.Cn
open Go.RowKit hiding Hid
open Go.Maps Go.Proofs.Ytgdpcdpkaaefbaa.Tx Go.Proofs.Ytgdpcdpkaaefbaa.Lx Go.Proofs.Ytgdpcdpkaaefbaa.Mp Go.Proofs.Ytgdpcdpkaaefbaa.Bits Go.Proofs.Ytgdpcdpkaaefbaa.Tr Go.Proofs.Ytgdpcdpkaaefbaa.Bm
set_option linter.unusedVariables false
set_option linter.unusedSimpArgs false
set_option maxRecDepth 100000

theorem pcall_as {s : List UInt8} (hs : s.length ≤ maxLen) {l : List Vl} (hl : l.length ≤ 100) (ht : ∀ v ∈ l, v.t.length ≤ 9223372036854775807) {rf rn re : Int} {rt : List UInt8} (h : callP s l = (⟨rf, rn, rt⟩, re)) : ∀ (W : World) (o : Option Addr) (cp : Nat), Cls W o (l.flatMap vC) → Calls Try.prog 19 #[.string (bs s), .slice o l.length cp] W (Told W (.tuple #[.agg #[.int .i64 rf, .int .i64 rn, .string (bs rt)], .int .i64 re])) := fun W o cp hc => by
  have := pcall_at s hs (by omega) ht hc (cp := cp)
  rw [h] at this
  exact this
theorem rcall_as {s : List UInt8} {l : List Vl} (hl : l.length ≤ 100) (ht : ∀ v ∈ l, v.t.length ≤ 9223372036854775807) {rf rn re : Int} {rt : List UInt8} (h : callP s l = (⟨rf, rn, rt⟩, re)) : ∀ (W : World) (o : Option Addr) (cp : Nat), Cls W o (l.flatMap vC) → Calls Try.prog 20 #[.string (bs s), .slice o l.length cp] W (Told W (.tuple #[.agg #[.int .i64 rf, .int .i64 rn, .string (bs rt)], .int .i64 re])) := fun W o cp hc => by
  have := rcall_at s (by omega) ht hc (cp := cp)
  rw [h] at this
  exact this
set_option maxHeartbeats 6400000 in
theorem lcall_walk (s : List UInt8) (hs : s.length ≤ maxLen) {w : World} {o : Option Addr} {cp : Nat} {l : List Vl} (hl : l.length ≤ maxLen) (ht : ∀ v ∈ l, v.t.length ≤ 9223372036854775807) (h : Cls w o (l.flatMap vC)) (hN : o = none → cp = 0) : Calls Try.prog 5 #[.string (bs s), .slice o l.length cp] w (Told w (.bool true)) := by
  have HC := hide (Cx.start w (fun _ => False))
  have hl' : (l.length : Int) ≤ 9223372036854775807 := by have : l.length ≤ 9223372036854775807 := Nat.le_trans hl (by unfold maxLen; decide); omega
  by_cases h2 : 100 < l.length
  · have j2 : (100 : Int) < l.length := by omega
    clear h2 h hl hN ht hs
    go_enter Try.func5, Try.ntmps5
    go_wp2_with (first | (go_at_call 11; refine (wakes_at _).mono ?_; rintro e w2 ⟨rfl, hg⟩; (replace HC := hide (HC.out.g hg); clear hg)))
    go_ret
    exact ⟨rfl, HC.out.grown⟩
  have j2 : ¬ (100 : Int) < l.length := by omega
  have HO := hide h
  obtain ⟨L, hL⟩ : ∃ L, l.any bigV = L := ⟨_, rfl⟩
  have HLG := hide (show ∀ W : World, W = w → Calls Try.prog 10 #[.slice o l.length cp] W fun e w' => e = .returned (.bool L) ∧ w' = W from fun W e => by subst e; exact large_as (by omega) ht hL _ _ _ h)
  cases L with
  | true =>
    clear h2 h hl hN ht hs hL
    go_enter Try.func5, Try.ntmps5
    go_wp2_with (first | (go_at_call 10; refine (HLG.out _ rfl).mono ?_; rintro e w2 ⟨rfl, rfl⟩) | (go_at_call 11; refine (wakes_at _).mono ?_; rintro e w2 ⟨rfl, hg⟩; (replace HC := hide (HC.out.g hg); clear hg)))
    go_ret
    exact ⟨rfl, HC.out.grown⟩
  | false =>
    have HN := hide hN
    have HN0 := hide (show o = none → l.length = 0 from fun e => by
      subst e
      rcases Nat.eq_zero_or_pos l.length with h0 | h0
      · exact h0
      · obtain ⟨a, e, _⟩ := h.el vC_len (by decide) (List.getElem?_eq_getElem h0)
        cases e)
    have HLN := hide (show l.length ≤ 100000 by omega)
    obtain ⟨⟨⟨rf, rn, rt⟩, re⟩, hI⟩ : ∃ R, callP s l = R := ⟨_, rfl⟩
    have H1 := hide (pcall_as hs (l := l) (by omega) ht hI)
    have H2 := hide (rcall_as (l := l) (by omega) ht hI)
    have HSM := hide (fun W => same_self ⟨rf, rn, rt⟩ W)
    dsimp only at HSM
    have A1 := True.intro
    clear h2 h hl hN hI ht hs hL
    go_enter Try.func5, Try.ntmps5
    go_wp2_with (first | (go_at_call 10; refine (HLG.out _ rfl).mono ?_; rintro e w2 ⟨rfl, rfl⟩) | (at_builtin; refine wp_copyV rfl _ _ rfl _ rfl (heap_alloc_new _ _) o l.length cp rfl l (HO.out.kept (gal (gr_ref _ none) _)) rfl HN.out HN0.out HLN.out _ (Nat.le_refl _) ?_; intro d c' w1 h1 h2; have HD := hide h1; have HGW := hide (grown_then (gal (gr_ref _ none) _) h2 (fun y e => by cases e; exact .inr (Nat.le_refl _))); replace HO := hide (HO.out.kept HGW.out); replace HC := hide (Cx.start w1 (fun _ => False)); clear h1 h2) | (go_at_call 19; refine (H1.out _ _ _ (HD.out.kept HC.out.grown)).mono ?_; rintro e w2 ⟨rfl, hg⟩; (replace HC := hide (HC.out.g hg); clear hg)) | (go_at_call 20; refine (H2.out _ _ _ (HO.out.kept HC.out.grown)).mono ?_; rintro e w2 ⟨rfl, hg⟩; (replace HC := hide (HC.out.g hg); clear hg)) | (clear A1; (refine at_alloc 23 rfl ?_; refine wl_alloc rfl 23 rfl _ zV HC.out ?_; intro b6 w' hn hc; (replace HC := hide hc; clear hc))) | (refine at_alloc 23 rfl ?_; refine wl_alloc rfl 23 rfl _ zV HC.out ?_; intro b8 w' hn hc; (replace HC := hide hc; clear hc)) | (refine at_store 23 rfl ?_; refine wl_store rfl 23 _ _ rfl rfl rfl tyV.sz rfl HC.out (by repeat (first | exact List.Mem.head _ | apply List.Mem.tail)) (by exact PutS.all _ _ rfl) (by repeat (first | exact Upd.here _ _ _ | apply Upd.there)) ?_; intro w' hc; (replace HC := hide hc; clear hc)))
    go_loopw [10] (fun iv W => ∃ i : Nat, i ≤ l.length ∧ iv = .int .i64 i ∧ Hid (Cx w1 (fun _ => False) none [⟨b8, [.int .i64 rf, .int .i64 rn, .string (bs rt)], 23⟩, ⟨b6, [.int .i64 rf, .int .i64 rn, .string (bs rt)], 23⟩] [] [] W)) (fun iv _ => l.length - (intOf iv).toNat)
    case atStart => exact ⟨0, by omega, rfl, HC⟩
    case round =>
      clear HC
      obtain ⟨i, hi, rfl, HC⟩ := hrel
      by_cases hlt : i < l.length
      · have j1 : (i : Int) < l.length := by omega
        obtain ⟨v, hv⟩ : ∃ p, l[i]? = some p := ⟨l[i], List.getElem?_eq_getElem hlt⟩
        obtain ⟨ad, rfl, hel⟩ := HO.out.el vC_len (by decide) hv
        obtain ⟨dd, rfl, hel2⟩ := HD.out.el vC_len (by decide) hv
        obtain ⟨B1, hB1⟩ : ∃ B, ad.add (i * 3) = B := ⟨_, rfl⟩
        obtain ⟨B2, hB2⟩ : ∃ B, dd.add (i * 3) = B := ⟨_, rfl⟩
        rw [hB1] at hel
        rw [hB2] at hel2
        have HE1 := hide (fun W (hW : w1.grownBy W none) j u (hu : (vC v)[j]? = some u) => hW.cell (hel j u hu) (by simp))
        have HE2 := hide (fun W (hW : w1.grownBy W none) j u (hu : (vC v)[j]? = some u) => hW.cell (hel2 j u hu) (by simp))
        unfold vC at HE1 HE2
        have HSV := hide (fun W => same_self v W)
        clear hel hel2 hv
        go_wp2_with fail
        (replace HC := hide (HC.out.g (d1_g _)); have HC0 := HC; refine wp_region_inO (fun W => World.grownBy _ W none) 99 [0, 1, 2, 3, 4, 5, 6, 7, 9] [0, 1, 2, 3, 4, 5, 6, 7, 8, 9] (by kernel_rfl) (by kernel_rfl) (by kernel_rfl) (by kernel_rfl) (fun _ _ d _ _ h => by cases d <;> exact h) (gr_ref _ _) ?_; have HS := hide (gr_of HC.out none))
        (refine inO_read (v := ?_) rfl rfl (Or.inl ⟨by rfl, ?_⟩) ?_; rotate_left 1; (focus (intro W hSW; clear hSW; go_simp; (try (with_reducible rfl)))); (try simp only [Act.put, List.getElem_toArray, List.getElem_cons_zero, List.getElem_cons_succ, List.setIfInBounds_toArray, List.set_cons_zero, List.set_cons_succ]))
        (refine inO_read (v := ?_) rfl rfl (Or.inl ⟨by rfl, ?_⟩) ?_; rotate_left 1; (focus (intro W hSW; clear hSW; go_simp; (try (with_reducible rfl)))); (try simp only [Act.put, List.getElem_toArray, List.getElem_cons_zero, List.getElem_cons_succ, List.setIfInBounds_toArray, List.set_cons_zero, List.set_cons_succ]))
        (refine inO_read (v := ?_) rfl rfl (Or.inl ⟨by rfl, ?_⟩) ?_; rotate_left 1; (focus (intro W hSW; clear hSW; go_simp; (try (with_reducible rfl)))); (try simp only [Act.put, List.getElem_toArray, List.getElem_cons_zero, List.getElem_cons_succ, List.setIfInBounds_toArray, List.set_cons_zero, List.set_cons_succ]))
        (refine inO_read rfl rfl (yl_load rfl rfl rfl (fun W hW => run_load_s tyV _ [.int .i64 v.f, .int .i64 v.n, .string (bs v.t)] rfl (HE2.out W (gr_then0 HC0.out.grown hW)))) ?_; (try simp only [Act.put, List.getElem_toArray, List.getElem_cons_zero, List.getElem_cons_succ, List.setIfInBounds_toArray, List.set_cons_zero, List.set_cons_succ]))
        (refine inO_read (v := ?_) rfl rfl (Or.inl ⟨by rfl, ?_⟩) ?_; rotate_left 1; (focus (intro W hSW; clear hSW; go_simp; (try (with_reducible rfl)))); (try simp only [Act.put, List.getElem_toArray, List.getElem_cons_zero, List.getElem_cons_succ, List.setIfInBounds_toArray, List.set_cons_zero, List.set_cons_succ]))
        (refine inO_read (v := ?_) rfl rfl (Or.inl ⟨by rfl, ?_⟩) ?_; rotate_left 1; (focus (intro W hSW; clear hSW; go_simp; (try (with_reducible rfl)))); (try simp only [Act.put, List.getElem_toArray, List.getElem_cons_zero, List.getElem_cons_succ, List.setIfInBounds_toArray, List.set_cons_zero, List.set_cons_succ]))
        (refine inO_read (v := ?_) rfl rfl (Or.inl ⟨by rfl, ?_⟩) ?_; rotate_left 1; (focus (intro W hSW; clear hSW; go_simp; (try (with_reducible rfl)))); (try simp only [Act.put, List.getElem_toArray, List.getElem_cons_zero, List.getElem_cons_succ, List.setIfInBounds_toArray, List.set_cons_zero, List.set_cons_succ]))
        (refine inO_read rfl rfl (yl_load rfl rfl rfl (fun W hW => run_load_s tyV _ [.int .i64 v.f, .int .i64 v.n, .string (bs v.t)] rfl (HE1.out W (gr_then0 HC0.out.grown hW)))) ?_; (try simp only [Act.put, List.getElem_toArray, List.getElem_cons_zero, List.getElem_cons_succ, List.setIfInBounds_toArray, List.set_cons_zero, List.set_cons_succ]))
        (refine inO_act rfl rfl rfl (fun K' hK => ?_))
        go_simp
        refine (HSV.out _).mono ?_
        rintro e w2 ⟨rfl, hg⟩
        (replace HC := hide (HC.out.g hg); refine hK _ _ (.inr (gr_then0 HS.out hg)) ?_; replace HS := hide (gr_then0 HS.out hg); clear hK K' hg; (try simp only [Act.put, List.getElem_toArray, List.getElem_cons_zero, List.getElem_cons_succ, List.setIfInBounds_toArray, List.set_cons_zero, List.set_cons_succ]))
        (refine inO_read (v := ?_) rfl rfl (Or.inl ⟨by rfl, ?_⟩) ?_; rotate_left 1; (focus (intro W hSW; clear hSW; go_simp; (try (with_reducible rfl)))); (try simp only [Act.put, List.getElem_toArray, List.getElem_cons_zero, List.getElem_cons_succ, List.setIfInBounds_toArray, List.set_cons_zero, List.set_cons_succ]))
        (refine inO_end ?_)
        clear HC0 HS
        go_wp2
        go_roundw
        case rel => exact ⟨i + 1, by omega, by go_num, HC⟩
        case measure => simp [intOf]; omega
      · have j1 : ¬ (i : Int) < l.length := by omega
        go_wp2_with (first | (refine at_load 23 rfl ?_; refine wl_load_s rfl 23 _ rfl tyV rfl HC.out (by repeat (first | exact List.Mem.head _ | apply List.Mem.tail)) (GetS.all _) rfl ?_) | (go_at_call 14; (refine (HSM.out _).mono ?_; rintro e w2 ⟨rfl, hg⟩; (replace HC := hide (HC.out.g hg); clear hg))) | (go_at_call 11; refine (wakes_at _).mono ?_; rintro e w2 ⟨rfl, hg⟩; (replace HC := hide (HC.out.g hg); clear hg)))
        go_ret
        exact ⟨rfl, gr_then0 HGW.out HC.out.grown⟩
end Go.Proofs.Ytgdpcdpkaaefbaa.Cn
