/-
  A call's own memory: its variables' blocks, rows that it builds, trees that it has; what each operation makes of them.
-/
import Derived.Test.YtmoekalagollhaaTr2
namespace Go.Proofs.Ytmoekalagollhaa.Tr
open Go.RowKit Go.Proofs.Ytmoekalagollhaa.Tx
set_option linter.unusedVariables false
set_option linter.unusedSimpArgs false

/- A variable: its block, its cells, its type. A row that is built: its slice, how many, their cells. -/
structure Lc where
  b : Nat
  cs : List Value
  t : TypeId
structure Rw where
  v : Value
  e : TypeId
  k : Nat
  n : Nat
  xs : List Value
def okL (w0 : World) (A : Nat → Prop) (L : List Lc) (Rs : List Rw) (b : Nat) : Prop := (A b ∨ w0.heap.size ≤ b) ∧ (∀ p ∈ L, p.b ≠ b) ∧ (∀ r ∈ Rs, r.v.ownBlock ≠ some b)
structure Cx (w0 : World) (A : Nat → Prop) (X : Option Nat) (L : List Lc) (Rs : List Rw) (Ts : List (List Dt × List Value)) (w : World) : Prop where
  grown : w0.grownBy w X
  loc : ∀ p ∈ L, w.heap[p.b]? = some (.cells p.cs.toArray p.t (0, 0))
  old : ∀ p ∈ L, w0.heap.size ≤ p.b ∨ X = some p.b
  dis : L.Pairwise (fun p q => p.b ≠ q.b)
  row : ∀ r ∈ Rs, w.ownsRow w0.heap.size r.e r.k r.v r.n r.xs
  rl : ∀ r ∈ Rs, ∀ p ∈ L, r.v.ownBlock ≠ some p.b
  rr : Rs.Pairwise (fun r s => r.v.ownBlock = none ∨ r.v.ownBlock ≠ s.v.ownBlock)
  tr : ∀ p ∈ Ts, isV w (okL w0 A L Rs) p.1 p.2
  xx : ∀ x, X = some x → x < w0.heap.size
section
variable {w0 w w' : World} {A : Nat → Prop} {X : Option Nat} {L : List Lc} {Rs : List Rw} {Ts : List (List Dt × List Value)}
theorem grown_then {w0 w w' : World} {X Y : Option Nat} (h : w0.grownBy w X) (k : w.grownBy w' Y) (hy : ∀ y, Y = some y → X = some y ∨ w0.heap.size ≤ y) : w0.grownBy w' X :=
  ⟨k.os.trans h.os, k.tape.trans h.tape, k.output.trans h.output, Nat.le_trans h.size k.size, fun i hi hx => by
    rw [k.block i (Nat.lt_of_lt_of_le hi h.size) (fun e => ?_)]
    · exact h.block i hi hx
    · rcases hy i e.symm with e2 | e2
      · exact hx e2.symm
      · omega⟩
theorem grown_refl (w : World) (X : Option Nat) : w.grownBy w X := ⟨rfl, rfl, rfl, Nat.le_refl _, fun _ _ _ => rfl⟩
theorem Cx.lt (H : Cx w0 A X L Rs Ts w) {p : Lc} (hp : p ∈ L) : p.b < w.heap.size := (Array.getElem?_eq_some_iff.1 (H.loc p hp)).1
/- The beginning: nothing is there yet. -/
theorem Cx.start (w : World) (A : Nat → Prop) : Cx w A none [] [] [] w :=
  ⟨grown_refl w _, by simp, by simp, List.Pairwise.nil, by simp, by simp, List.Pairwise.nil, by simp, by simp⟩
/- Nothing that was there turns. -/
theorem Cx.g (H : Cx w0 A X L Rs Ts w) (hg : w.grownBy w' none) : Cx w0 A X L Rs Ts w' where
  grown := grown_then H.grown hg (fun y h => by cases h)
  loc := fun p hp => by rw [hg.block p.b (H.lt hp) (by simp)]; exact H.loc p hp
  old := H.old
  dis := H.dis
  row := fun r hr => (H.row r hr).kept hg (by cases r.v.ownBlock <;> simp)
  rl := H.rl
  rr := H.rr
  tr := fun p hp => isV.kept (Fr.none hg) _ _ (H.tr p hp)
  xx := H.xx
/- A block more, that is a variable's. -/
theorem Cx.loc_new (H : Cx w0 A X L Rs Ts w) (cs : List Value) (t : TypeId) : Cx w0 A X (⟨w.heap.size, cs, t⟩ :: L) Rs Ts (w.alloc (.cells cs.toArray t)) := by
  have hg : w.grownBy (w.alloc (.cells cs.toArray t)) none := World.grownBy_alloc w _ none
  have H' := H.g hg
  have hrl : ∀ r ∈ Rs, r.v.ownBlock ≠ some w.heap.size := fun r hr e => by have := ((H.row r hr).lt _ e).2; omega
  refine ⟨H'.grown, ?_, ?_, ?_, H'.row, ?_, H'.rr, ?_, H.xx⟩
  · intro p hp
    rcases List.mem_cons.1 hp with rfl | hp
    · exact heap_alloc_new w _
    · exact H'.loc p hp
  · intro p hp
    rcases List.mem_cons.1 hp with rfl | hp
    · exact .inl H.grown.size
    · exact H.old p hp
  · refine List.pairwise_cons.2 ⟨fun p hp e => ?_, H.dis⟩
    have := H.lt hp
    simp at e
    omega
  · intro r hr p hp
    rcases List.mem_cons.1 hp with rfl | hp
    · exact hrl r hr
    · exact H.rl r hr p hp
  · intro p hp
    refine isV.kept (Fr.grow hg (fun b hb hl => ⟨hb.1, fun q hq => ?_, hb.2.2⟩) (fun b h => by cases h)) _ _ (H.tr p hp)
    rcases List.mem_cons.1 hq with rfl | hq
    · simp only; omega
    · exact hb.2.1 q hq
/- A block more, that is a tree's. -/
theorem Cx.tree_new (H : Cx w0 A X L Rs Ts w) (t : TypeId) {ds : List Dt} {vs : List Value} (n : Nat) (hv : isV w (okL w0 A L Rs) ds vs) : Cx w0 A X L Rs (([.s n ds], [.slice (some ⟨w.heap.size, 0, none⟩) n n]) :: Ts) (w.alloc (.cells vs.toArray t)) := by
  have hg : w.grownBy (w.alloc (.cells vs.toArray t)) none := World.grownBy_alloc w _ none
  have H' := H.g hg
  refine ⟨H'.grown, H'.loc, H'.old, H'.dis, H'.row, H'.rl, H'.rr, ?_, H.xx⟩
  intro p hp
  rcases List.mem_cons.1 hp with rfl | hp
  · simp only [isV]
    refine ⟨_, _, rfl, ((isC.eq_2 ..).mpr ⟨_, _, rfl, (fun e => by cases e), .inr ⟨_, vs, rfl, ⟨.inr H.grown.size, fun q hq e => ?_, fun r hr e => ?_⟩, fun j u hu => ?_, isV.kept (Fr.none hg) _ _ hv⟩⟩), rfl⟩
    · have := H.lt hq; simp only at e; omega
    · have := ((H.row r hr).lt _ e).2; simp only at this; omega
    · have hadd : (⟨w.heap.size, 0, none⟩ : Addr).add j = ⟨w.heap.size, j, none⟩ := by unfold Addr.add; split <;> simp_all
      rw [hadd, cell_of_row _ _ _ _ _ _ (heap_alloc_new _ _)]
      simpa using hu
  · exact H'.tr p hp
/- A variable is written. -/
inductive Upd (b : Nat) (cs' : List Value) : List Lc → List Lc → Prop where
  | here (cs : List Value) (t : TypeId) (L : List Lc) : Upd b cs' (⟨b, cs, t⟩ :: L) (⟨b, cs', t⟩ :: L)
  | there (p : Lc) {L L' : List Lc} : Upd b cs' L L' → Upd b cs' (p :: L) (p :: L')
theorem Upd.map {b : Nat} {cs' : List Value} {L L' : List Lc} (h : Upd b cs' L L') : L'.map (·.b) = L.map (·.b) := by
  induction h with
  | here cs t L => rfl
  | there p _ ih => simp [ih]
theorem Upd.mem {b : Nat} {cs' : List Value} {L L' : List Lc} (h : Upd b cs' L L') : ∀ p ∈ L', (p.b = b ∧ p.cs = cs' ∧ ∃ cs, ⟨b, cs, p.t⟩ ∈ L) ∨ p ∈ L := by
  induction h with
  | here cs t L =>
    intro p hp
    rcases List.mem_cons.1 hp with rfl | hp
    · exact .inl ⟨rfl, rfl, cs, .head _⟩
    · exact .inr (.tail _ hp)
  | there q _ ih =>
    intro p hp
    rcases List.mem_cons.1 hp with rfl | hp
    · exact .inr (.head _)
    · rcases ih p hp with ⟨h1, h2, cs, h3⟩ | h
      · exact .inl ⟨h1, h2, cs, .tail _ h3⟩
      · exact .inr (.tail _ h)
theorem Upd.new {b : Nat} {cs' : List Value} {L L' : List Lc} (h : Upd b cs' L L') : ∃ cs t, ⟨b, cs, t⟩ ∈ L ∧ ⟨b, cs', t⟩ ∈ L' := by
  induction h with
  | here cs t L => exact ⟨cs, t, .head _, .head _⟩
  | there p _ ih =>
    obtain ⟨cs, t, h1, h2⟩ := ih
    exact ⟨cs, t, .tail _ h1, .tail _ h2⟩
theorem mem_blocks {L L' : List Lc} (h : L'.map (·.b) = L.map (·.b)) {P : Nat → Prop} (hp : ∀ p ∈ L, P p.b) : ∀ p ∈ L', P p.b := fun p hp' => by
  have : p.b ∈ L.map (·.b) := by rw [← h]; exact List.mem_map.2 ⟨p, hp', rfl⟩
  obtain ⟨q, hq, e⟩ := List.mem_map.1 this
  rw [← e]
  exact hp q hq
theorem dis_of {L L' : List Lc} (h : L'.map (·.b) = L.map (·.b)) (hd : L.Pairwise (fun p q => p.b ≠ q.b)) : L'.Pairwise (fun p q => p.b ≠ q.b) := by
  rw [show (fun p q : Lc => p.b ≠ q.b) = (fun p q => (fun a b : Nat => a ≠ b) p.b q.b) from rfl, ← List.pairwise_map] at hd ⊢
  rw [h]
  exact hd
theorem uniq_of {L : List Lc} (hd : L.Pairwise (fun p q => p.b ≠ q.b)) {p q : Lc} (hp : p ∈ L) (hq : q ∈ L) (e : p.b = q.b) : p = q := by
  induction hd with
  | nil => cases hp
  | cons h1 _ ih =>
    rcases List.mem_cons.1 hp with hp1 | hp1
    · rcases List.mem_cons.1 hq with hq1 | hq1
      · rw [hp1, hq1]
      · rw [hp1] at e; exact absurd e (h1 q hq1)
    · rcases List.mem_cons.1 hq with hq1 | hq1
      · rw [hq1] at e; exact absurd e.symm (h1 p hp1)
      · exact ih hp1 hq1
theorem Cx.loc_set (H : Cx w0 A X L Rs Ts w) {b : Nat} {cs cs' : List Value} {t : TypeId} {L' : List Lc} (hm : ⟨b, cs, t⟩ ∈ L) (hu : Upd b cs' L L') : Cx w0 A X L' Rs Ts (w.setRow b cs'.toArray) := by
  have hb := H.loc _ hm
  have hg : w.grownBy (w.setRow b cs'.toArray) (some b) := ⟨rfl, rfl, rfl, by simp, fun k _ hk => setRow_other w b k _ (fun e => hk (by rw [e]))⟩
  have hold := H.old _ hm
  refine ⟨grown_then H.grown hg (fun y e => by cases e; exact hold.symm), ?_, mem_blocks (P := fun b => w0.heap.size ≤ b ∨ X = some b) hu.map H.old, dis_of hu.map H.dis, ?_, fun r hr => mem_blocks (P := fun b => r.v.ownBlock ≠ some b) hu.map (H.rl r hr), H.rr, ?_, H.xx⟩
  · intro p hp
    by_cases e : p.b = b
    · obtain ⟨cs1, t1, k1, k2⟩ := hu.new
      have e1 := uniq_of H.dis k1 hm rfl
      have e2 := uniq_of (dis_of hu.map H.dis) hp k2 e
      cases e1
      subst e2
      exact setRow_heap w _ _ _ _ _ hb
    · rcases hu.mem p hp with ⟨h1, _⟩ | h
      · exact absurd h1 e
      · rw [setRow_other w b p.b _ e]
        exact H.loc p h
  · intro r hr
    exact (H.row r hr).kept hg (.inr (by rw [show (some b : Option Nat) = some (Lc.mk b cs t).b from rfl]; exact H.rl r hr _ hm))
  · intro p hp
    refine isV.kept (Fr.grow hg (fun c hc _ => ⟨hc.1, mem_blocks (P := fun b => b ≠ c) hu.map hc.2.1, hc.2.2⟩) (fun c e hc => ?_)) _ _ (H.tr p hp)
    cases e
    exact hc.2.1 _ hm rfl
end
end Go.Proofs.Ytmoekalagollhaa.Tr
