/-
  A memory and the document's own, side by side, alike: what each call leaves of them.
-/
import Derived.Test.YthdmlcendkmnbaaMargs
namespace Go.Proofs.Ythdmlcendkmnbaa.Mem
open Go.RowKit Go.Proofs.Ythdmlcendkmnbaa.Bits

def nl (v : Value) : Prop := v = .pointer none
def Ap (m q : Value) (b b' : Nat) : Prop := (nl m ∧ nl q) ∨ (¬ nl m ∧ ¬ nl q ∧ b ≠ b')
structure PL (B : Nat) (w wr : World) (m q : Value) (b b' : Nat) (xs : List Int) : Prop where
  om : Ob 50 wr m b xs
  oq : Ob 52 wr q b' xs
  ap : Ap m q b b'
  lb : B ≤ b
  lb' : B ≤ b'
  ub : b < wr.heap.size
  ub' : b' < wr.heap.size
  len : xs.length ≤ 65536
  bel : Below B w wr
  base : B = w.heap.size
theorem PL.sz {B : Nat} {w wr : World} {m q : Value} {b b' : Nat} {xs : List Int} (h : PL B w wr m q b b' xs) : B ≤ wr.heap.size := Nat.le_trans h.lb (Nat.le_of_lt h.ub)
theorem PL.kept {B : Nat} {w wr w' : World} {m q : Value} {b b' : Nat} {xs : List Int} (h : PL B w wr m q b b' xs) (hg : wr.grownBy w' none) : PL B w w' m q b b' xs :=
  ⟨h.om.kept hg, h.oq.kept hg, h.ap, h.lb, h.lb', Nat.lt_of_lt_of_le h.ub hg.size, Nat.lt_of_lt_of_le h.ub' hg.size, h.len, h.bel.grown hg h.sz (fun k hk => by cases hk), h.base⟩
theorem Ob.else {T : TypeId} {T' : TypeId} (hT : T ≠ 34) {w w' : World} {v v' : Value} {b b' : Nat} {xs ys : List Int} (h : Ob T w v b xs) (k : Ob T' w v' b' ys) (ap : nl v ∨ (¬ nl v' ∧ b' ≠ b)) (hg : w.grownBy w' (some b')) : Ob T w' v b xs := by
  rcases ap with e | ⟨h1, h2⟩
  · rcases h with h | ⟨a, c, e', _⟩
    · exact .inl h
    · rw [e] at e'; cases e'
  · exact h.other hT k (fun e => absurd e h1) h2 hg
theorem Ap.mq {m q : Value} {b b' : Nat} (h : Ap m q b b') : nl m ∨ (¬ nl q ∧ b' ≠ b) := by
  rcases h with h | h
  · exact .inl h.1
  · exact .inr ⟨h.2.1, Ne.symm h.2.2⟩
theorem Ap.qm {m q : Value} {b b' : Nat} (h : Ap m q b b') : nl q ∨ (¬ nl m ∧ b ≠ b') := by
  rcases h with h | h
  · exact .inl h.2
  · exact .inr ⟨h.1, h.2.2⟩
/- Both have been written, one behind the other, alike. -/
theorem PL.stored {B : Nat} {w wr w1 w2 : World} {m q : Value} {b b' : Nat} {xs ys : List Int} (h : PL B w wr m q b b' xs) (g1 : wr.grownBy w1 (some b)) (o1 : Ob 50 w1 m b ys) (q1 : Ob 52 w1 q b' xs) (g2 : w1.grownBy w2 (some b')) (o2 : Ob 52 w2 q b' ys) (hl : ys.length ≤ 65536) : PL B w w2 m q b b' ys :=
  ⟨o1.else (by decide) q1 h.ap.mq g2, o2, h.ap, h.lb, h.lb', Nat.lt_of_lt_of_le h.ub (Nat.le_trans g1.size g2.size), Nat.lt_of_lt_of_le h.ub' (Nat.le_trans g1.size g2.size), hl,
    (h.bel.grown g1 h.sz (fun k hk => by cases hk; exact h.lb)).grown g2 (Nat.le_trans h.sz g1.size) (fun k hk => by cases hk; exact h.lb'), h.base⟩
theorem len_st (xs : List Int) (p v : Int) : (stL xs p v).length = xs.length := by unfold stL; split <;> simp
theorem len_pb (xs : List Int) (p v : Int) : (pbL xs p v).length = xs.length := by unfold pbL; split <;> simp

/- New, whatever the length. -/
def errN (n : Nat) : Int := if 65536 < n then 3 else 0
def capL (n : Nat) (xs : List Int) : List Int := if 65536 < n then [] else xs
theorem nnl (a : Nat) : ¬ nl (.pointer (some ⟨a, 0, none⟩)) := fun e => by cases e
theorem new_u {w : World} {ao : Option Addr} {xs : List Int} {n cp B b0 : Nat} (hs : Src w ao xs) (hr : inR xs) (hl : xs.length = n) (hm : n ≤ 1000000000000) (h0 : B ≤ b0) (h1 : b0 < w.heap.size) :
    Calls Try.prog 8 #[.slice ao n cp] w fun e w' => ∃ v b, e = .returned (.tuple #[v, .int .i64 (errN n)]) ∧ w.grownBy w' none ∧ Ob 50 w' v b (capL n xs) ∧ B ≤ b ∧ b < w'.heap.size ∧ (65536 < n → nl v) ∧ (¬ 65536 < n → ¬ nl v ∧ w.heap.size ≤ b) := by
  unfold errN capL
  by_cases hn : 65536 < n
  · rw [if_pos hn, if_pos hn]
    exact (new_many hn (by omega)).mono fun e w' ⟨he, hw⟩ => ⟨_, b0, he, by rw [hw]; exact World.grownBy.refl _ _, Ob.nil _ _ _, h0, by rw [hw]; exact h1, fun _ => rfl, fun h => absurd hn h⟩
  · rw [if_neg hn, if_neg hn]
    exact (new_n hs hr hl (by omega)).mono fun e w' ⟨a, b, he, hg, hm, _, hb⟩ => ⟨_, b, he, hg, hm.ob, by omega, hm.row.lt, fun h => absurd h hn, fun _ => ⟨nnl a, hb⟩⟩
theorem rnew_u {w : World} {ao : Option Addr} {xs : List Int} {n cp B b0 : Nat} (hs : Src w ao xs) (hr : inR xs) (hc : ao = none → cp = 0) (hl : xs.length = n) (hm : n ≤ 1000000000000) (h0 : B ≤ b0) (h1 : b0 < w.heap.size) :
    Calls Try.prog 9 #[.slice ao n cp] w fun e w' => ∃ v b, e = .returned (.tuple #[v, .int .i64 (errN n)]) ∧ w.grownBy w' none ∧ Ob 52 w' v b (capL n xs) ∧ B ≤ b ∧ b < w'.heap.size ∧ (65536 < n → nl v) ∧ (¬ 65536 < n → ¬ nl v ∧ w.heap.size ≤ b) := by
  unfold errN capL
  by_cases hn : 65536 < n
  · rw [if_pos hn, if_pos hn]
    exact (rnew_many hn (by omega)).mono fun e w' ⟨he, hw⟩ => ⟨_, b0, he, by rw [hw]; exact World.grownBy.refl _ _, Ob.nil _ _ _, h0, by rw [hw]; exact h1, fun _ => rfl, fun h => absurd hn h⟩
  · rw [if_neg hn, if_neg hn]
    exact (rnew_ok hs hr hc hl (by omega)).mono fun e w' ⟨a, b, c, he, hg, hm, _, hb⟩ => ⟨_, b, he, hg, hm.ob, by omega, hm.row.lt, fun h => absurd h hn, fun _ => ⟨nnl a, hb⟩⟩
theorem len_cap (n : Nat) (xs : List Int) (h : xs.length = n) : (capL n xs).length ≤ 65536 := by unfold capL; split <;> (try simp) <;> omega
/- Fork, of nil too. -/
theorem fork_u {w : World} {v : Value} {b B : Nat} {xs : List Int} (h : Ob 50 w v b xs) (hl : xs.length ≤ 65536) (h0 : B ≤ b) (h1 : b < w.heap.size) :
    Calls Try.prog 23 #[v] w fun e w' => ∃ v' b1, e = .returned v' ∧ w.grownBy w' none ∧ Ob 50 w' v' b1 xs ∧ B ≤ b1 ∧ b1 < w'.heap.size ∧ ((nl v ∧ nl v' ∧ b1 = b) ∨ (¬ nl v ∧ ¬ nl v' ∧ w.heap.size ≤ b1)) := by
  rcases h with ⟨rfl, rfl⟩ | ⟨a, c, rfl, h⟩
  · exact (fork_nil w).mono fun e w' ⟨he, hw⟩ => ⟨_, b, he, by rw [hw]; exact World.grownBy.refl _ _, Ob.nil _ _ _, h0, by rw [hw]; exact h1, .inl ⟨rfl, rfl, rfl⟩⟩
  · exact (fork_at h hl).mono fun e w' ⟨a', b', he, hg, hm, _, hb⟩ => ⟨_, b', he, hg, hm.ob, by omega, hm.row.lt, .inr ⟨nnl a, nnl a', hb⟩⟩
theorem rfork_u {w : World} {v : Value} {b B : Nat} {xs : List Int} (h : Ob 52 w v b xs) (hl : xs.length ≤ 65536) (h0 : B ≤ b) (h1 : b < w.heap.size) :
    Calls Try.prog 24 #[v] w fun e w' => ∃ v' b1, e = .returned v' ∧ w.grownBy w' none ∧ Ob 52 w' v' b1 xs ∧ B ≤ b1 ∧ b1 < w'.heap.size ∧ ((nl v ∧ nl v' ∧ b1 = b) ∨ (¬ nl v ∧ ¬ nl v' ∧ w.heap.size ≤ b1)) := by
  rcases h with ⟨rfl, rfl⟩ | ⟨a, c, rfl, h⟩
  · exact (rfork_nil w).mono fun e w' ⟨he, hw⟩ => ⟨_, b, he, by rw [hw]; exact World.grownBy.refl _ _, Ob.nil _ _ _, h0, by rw [hw]; exact h1, .inl ⟨rfl, rfl, rfl⟩⟩
  · exact (rfork_at h hl).mono fun e w' ⟨a', b', c', he, hg, hm, _, hb⟩ => ⟨_, b', he, hg, hm.ob, by omega, hm.row.lt, .inr ⟨nnl a, nnl a', hb⟩⟩
/- Words, there or not. -/
theorem words_u {w : World} {v : Value} {b : Nat} {xs : List Int} (h : Ob 50 w v b xs) (hl : xs.length ≤ 65536) (i n : Int) (i1 : i ≤ 9223372036854775807) :
    Calls Try.prog 21 #[v, .int .i64 i, .int .i64 n] w fun e w' => ∃ r, e = .returned (.tuple #[r, .bool (okW xs i n)]) ∧ w.grownBy w' none ∧ Rd w' r (cutL xs i n) := by
  cases ho : okW xs i n
  · refine (words_no h i n i1 (by omega) ho).mono fun e w' ⟨he, hw⟩ => ⟨_, he, by rw [hw]; exact World.grownBy.refl _ _, ?_⟩
    unfold cutL
    rw [ho]
    exact ⟨none, 0, rfl, Src.nil _⟩
  · refine (words_ok h hl i n ho).mono fun e w' ⟨g, he, hg, ha⟩ => ⟨_, he, hg, ha.rd ?_⟩
    obtain ⟨h0, h1, h2⟩ := of_decide_eq_true ho
    unfold cutL
    rw [if_pos ho]
    simp
    omega
theorem rwords_u {w : World} {v : Value} {b : Nat} {xs : List Int} (h : Ob 52 w v b xs) (hl : xs.length ≤ 65536) (i n : Int) (i1 : i ≤ 9223372036854775807) :
    Calls Try.prog 22 #[v, .int .i64 i, .int .i64 n] w fun e w' => ∃ r, e = .returned (.tuple #[r, .bool (okW xs i n)]) ∧ w.grownBy w' none ∧ Rd w' r (cutL xs i n) := by
  cases ho : okW xs i n
  · refine (rwords_no h i n i1 (by omega) ho).mono fun e w' ⟨he, hw⟩ => ⟨_, he, by rw [hw]; exact World.grownBy.refl _ _, ?_⟩
    unfold cutL
    rw [ho]
    exact ⟨none, 0, rfl, Src.nil _⟩
  · exact rwords_ok h hl i n ho
theorem len_cut (xs : List Int) (i n : Int) : (cutL xs i n).length ≤ xs.length := by unfold cutL; split <;> simp <;> omega
/- Two pairs: what came of a Fork, and what it came of. -/
structure PF (B : Nat) (w wr : World) (m q : Value) (b b' : Nat) (xs : List Int) (m2 q2 : Value) (b2 b2' X : Nat) : Prop where
  new : PL B w wr m2 q2 b2 b2' xs
  om : Ob 50 wr m b xs
  oq : Ob 52 wr q b' xs
  a1 : nl m ∨ (¬ nl m2 ∧ b2 ≠ b)
  a2 : nl m ∨ (¬ nl q2 ∧ b2' ≠ b)
  a3 : nl q ∨ (¬ nl m2 ∧ b2 ≠ b')
  a4 : nl q ∨ (¬ nl q2 ∧ b2' ≠ b')
  x1 : b2 ≠ X
  x2 : b2' ≠ X
theorem PF.kept {B : Nat} {w wr w' : World} {m q : Value} {b b' : Nat} {xs : List Int} {m2 q2 : Value} {b2 b2' X : Nat} (h : PF B w wr m q b b' xs m2 q2 b2 b2' X) (hg : wr.grownBy w' none) : PF B w w' m q b b' xs m2 q2 b2 b2' X :=
  ⟨h.new.kept hg, h.om.kept hg, h.oq.kept hg, h.a1, h.a2, h.a3, h.a4, h.x1, h.x2⟩
theorem pf_mk {B : Nat} {w wx wa wb : World} {m q m2 q2 : Value} {b b' b2 b2' X : Nat} {xs : List Int} (h : PL B w wx m q b b' xs) (ub : b < X) (ub' : b' < X) (xl : X < wx.heap.size)
    (g1 : wx.grownBy wa none) (o1 : Ob 50 wa m2 b2 xs) (l1 : B ≤ b2) (u1 : b2 < wa.heap.size) (n1 : (nl m ∧ nl m2 ∧ b2 = b) ∨ (¬ nl m ∧ ¬ nl m2 ∧ wx.heap.size ≤ b2))
    (g2 : wa.grownBy wb none) (o2 : Ob 52 wb q2 b2' xs) (l2 : B ≤ b2') (u2 : b2' < wb.heap.size) (n2 : (nl q ∧ nl q2 ∧ b2' = b') ∨ (¬ nl q ∧ ¬ nl q2 ∧ wa.heap.size ≤ b2')) : PF B w wb m q b b' xs m2 q2 b2 b2' X := by
  have hk := (h.kept g1).kept g2
  have s1 := g1.size
  have s2 := g2.size
  rcases h.ap with ⟨m0, q0⟩ | ⟨m0, q0, hne⟩
  · rcases n1 with ⟨_, e1, rfl⟩ | ⟨e, _⟩
    · rcases n2 with ⟨_, e2, rfl⟩ | ⟨e, _⟩
      · exact ⟨⟨o1.kept g2, o2, .inl ⟨e1, e2⟩, l1, l2, by omega, u2, h.len, hk.bel, h.base⟩, hk.om, hk.oq, .inl m0, .inl m0, .inl q0, .inl q0, by omega, by omega⟩
      · exact absurd q0 e
    · exact absurd m0 e
  · rcases n1 with ⟨e, _⟩ | ⟨_, e1, f1⟩
    · exact absurd e m0
    · rcases n2 with ⟨e, _⟩ | ⟨_, e2, f2⟩
      · exact absurd e q0
      · exact ⟨⟨o1.kept g2, o2, .inr ⟨e1, e2, by omega⟩, l1, l2, by omega, u2, h.len, hk.bel, h.base⟩, hk.om, hk.oq, .inr ⟨e1, by omega⟩, .inr ⟨e2, by omega⟩, .inr ⟨e1, by omega⟩, .inr ⟨e2, by omega⟩, by omega, by omega⟩
end Go.Proofs.Ythdmlcendkmnbaa.Mem
