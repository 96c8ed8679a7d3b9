/-
  A call's own memory with blocks beside it of which a fact is known (maps): each fact speaks of its block alone.
-/
import Derived.Test.YtmoekalagollhaaCx9
namespace Go.Proofs.Ytmoekalagollhaa.Tr
open Go.RowKit Go.Proofs.Ytmoekalagollhaa.Tx
set_option linter.unusedVariables false
set_option linter.unusedSimpArgs false

structure Fk where
  b : Nat
  P : World → Prop
def Stab (b : Nat) (P : World → Prop) : Prop := ∀ (w w' : World) (row : Option Nat), w.grownBy w' row → some b ≠ row → P w → P w'
structure Cf (w0 : World) (A : Nat → Prop) (X : Option Nat) (L : List Lc) (Rs : List Rw) (Fs : List Fk) (W : World) : Prop where
  cx : Cx w0 A X L Rs [] W
  fs : ∀ q ∈ Fs, q.P W
  st : ∀ q ∈ Fs, Stab q.b q.P
  lt : ∀ q ∈ Fs, q.b < W.heap.size
  ne : ∀ q ∈ Fs, ∀ p ∈ L, p.b ≠ q.b
  nr : ∀ q ∈ Fs, ∀ r ∈ Rs, r.v.ownBlock ≠ some q.b
  old : ∀ q ∈ Fs, w0.heap.size ≤ q.b ∨ X = some q.b
  dis : Fs.Pairwise (fun p q => p.b ≠ q.b)
section
variable {P : Program} {ops : Array Oper} {rest : List Oper} {o : Oper} {a : Act} {w w0 : World} {Q : Exit → Act → World → Prop}
  {A : Nat → Prop} {X : Option Nat} {L L' : List Lc} {Rs Rs' : List Rw} {Fs : List Fk}
theorem Cf.of (H : Cx w0 A X L Rs [] w) : Cf w0 A X L Rs [] w := ⟨H, by simp, by simp, by simp, by simp, by simp, by simp, List.Pairwise.nil⟩
/- The world turns outside the facts' blocks. -/
theorem Cf.step {w' : World} {row : Option Nat} (H : Cf w0 A X L Rs Fs w) (hc : Cx w0 A X L' Rs' [] w') (hg : w.grownBy w' row) (hr : ∀ q ∈ Fs, some q.b ≠ row) (hl : ∀ q ∈ Fs, ∀ p ∈ L', p.b ≠ q.b) (hn : ∀ q ∈ Fs, ∀ r ∈ Rs', r.v.ownBlock ≠ some q.b) : Cf w0 A X L' Rs' Fs w' :=
  ⟨hc, fun q hq => H.st q hq _ _ _ hg (hr q hq) (H.fs q hq), H.st, fun q hq => Nat.lt_of_lt_of_le (H.lt q hq) hg.size, hl, hn, H.old, H.dis⟩
theorem Cf.g {w' : World} (H : Cf w0 A X L Rs Fs w) (hg : w.grownBy w' none) : Cf w0 A X L Rs Fs w' := H.step (H.cx.g hg) hg (by simp) H.ne H.nr
theorem Cf.drop {q : Lc} (H : Cf w0 A X (q :: L) Rs Fs w) : Cf w0 A X L Rs Fs w := ⟨H.cx.drop, H.fs, H.st, H.lt, fun f hf p hp => H.ne f hf p (.tail _ hp), H.nr, H.old, H.dis⟩
theorem cf_alloc (hgd : o.guard = none) (T : TypeId) (ho : o.op = .alloc T) (zs : List Value) (hz : (P.info? T).bind (fun i => i.zero.map (·.cells)) = some zs.toArray) (H : Cf w0 A X L Rs Fs w)
    (h : ∀ b w', NX X b → Cf w0 A X (⟨b, zs, T⟩ :: L) Rs Fs w' → wpList P ops Q rest (a.put o.dst (.pointer (some ⟨b, 0, none⟩))) w') : wpList P ops Q (o :: rest) a w := by
  cases hi : P.info? T with
  | none => simp [hi] at hz
  | some i =>
    cases hzz : i.zero with
    | none => simp [hi, hzz] at hz
    | some z =>
      simp [hi, hzz] at hz
      refine wl_val (w' := w.alloc (.cells zs.toArray T)) hgd ?_ (h w.heap.size _ H.cx.nx (H.step (H.cx.loc_new zs T) (World.grownBy_alloc w _ none) (by simp) (fun q hq p hp => ?_) H.nr))
      · unfold execOp
        simp [ho, Instr.alloc, zeroValue, typeInfo, hi, hzz, newVar, newRow, hz]
      · rcases List.mem_cons.1 hp with rfl | hp
        · have := H.lt q hq; simp only; omega
        · exact H.ne q hq p hp
theorem cf_box (hgd : o.guard = none) (T : TypeId) (x : Operand) (ho : o.op = .box T x) (cs : List Value) (hx : (a.eval x).cells = cs.toArray) (H : Cf w0 A X L Rs Fs w)
    (h : ∀ b w', NX X b → Cf w0 A X (⟨b, cs, T⟩ :: L) Rs Fs w' → wpList P ops Q rest (a.put o.dst (.pointer (some ⟨b, 0, none⟩))) w') : wpList P ops Q (o :: rest) a w := by
  refine wl_val (w' := w.alloc (.cells cs.toArray T)) hgd ?_ (h w.heap.size _ H.cx.nx (H.step (H.cx.loc_new cs T) (World.grownBy_alloc w _ none) (by simp) (fun q hq p hp => ?_) H.nr))
  · unfold execOp
    simp [ho, Instr.box, newVar, newRow, hx]
  · rcases List.mem_cons.1 hp with rfl | hp
    · have := H.lt q hq; simp only; omega
    · exact H.ne q hq p hp
theorem Cf.set {b : Nat} {cs cs' : List Value} {t : TypeId} (H : Cf w0 A X L Rs Fs w) (hm : ⟨b, cs, t⟩ ∈ L) (hu : Upd b cs' L L') : Cf w0 A X L' Rs Fs (w.setRow b cs'.toArray) :=
  H.step (H.cx.loc_set hm hu) (row := some b) ⟨rfl, rfl, rfl, by simp, fun k _ hk => setRow_other w b k _ (fun e => hk (by rw [e]))⟩ (fun q hq e => H.ne q hq _ hm (by simpa using e.symm)) (fun q hq => mem_blocks (P := fun c => c ≠ q.b) hu.map (H.ne q hq)) H.nr
theorem cf_store (hgd : o.guard = none) (T : TypeId) (x y : Operand) (ho : o.op = .store T x y) {b off : Nat} (hx : a.eval x = .pointer (some ⟨b, off, none⟩)) {us : List Value} (hv : (a.eval y).cells = us.toArray) (hs : (P.info? T).map (·.size) = some us.length) (h1 : us.all (·.oneCell') = true) (H : Cf w0 A X L Rs Fs w) {cs cs' : List Value} {t : TypeId} (hm : ⟨b, cs, t⟩ ∈ L) (hp : PutS off us cs cs') (hu : Upd b cs' L L')
    (h : ∀ w', Cf w0 A X L' Rs Fs w' → wpList P ops Q rest (a.put o.dst undef) w') : wpList P ops Q (o :: rest) a w := by
  refine wl_skip (w' := w.setRow b cs'.toArray) hgd ?_ (h _ (H.set hm hu))
  unfold execOp
  simp [ho, hx, Instr.storeAt, Instr.sureAddr, run_store_at H.cx hm hv hs hp h1]
/- One block's fact turns. -/
theorem Cf.turn {w' : World} {b : Nat} {p p' : World → Prop} {Fs' : List Fk} (H : Cf w0 A X L Rs (⟨b, p⟩ :: Fs) w) (hg : w.grownBy w' (some b)) (hp : p' w') (hs : Stab b p') : Cf w0 A X L Rs (⟨b, p'⟩ :: Fs) w' := by
  have hne := fun q (hq : q ∈ Fs) => (List.pairwise_cons.1 H.dis).1 q hq
  have hc : Cx w0 A X L Rs [] w' := {
    grown := grown_then H.cx.grown hg (fun y e => by cases e; exact (H.old _ (.head _)).symm)
    loc := fun q hq => by rw [hg.block q.b (H.cx.lt hq) (fun e => H.ne _ (.head _) q hq (by simpa using e))]; exact H.cx.loc q hq
    old := H.cx.old
    dis := H.cx.dis
    row := fun r hr => (H.cx.row r hr).kept hg (by
      cases hv : r.v.ownBlock with
      | none => exact .inl rfl
      | some g => exact .inr (fun e => H.nr _ (.head _) r hr (by rw [hv]; exact e)))
    rl := H.cx.rl
    rr := H.cx.rr
    tr := by simp
    xx := H.cx.xx }
  refine ⟨hc, fun q hq => ?_, fun q hq => ?_, fun q hq => ?_, fun q hq => ?_, fun q hq => ?_, fun q hq => ?_, List.pairwise_cons.2 ⟨hne, (List.pairwise_cons.1 H.dis).2⟩⟩
  · rcases List.mem_cons.1 hq with rfl | hq
    · exact hp
    · exact H.st q (.tail _ hq) _ _ _ hg (fun e => hne q hq (by simpa using e.symm)) (H.fs q (.tail _ hq))
  · rcases List.mem_cons.1 hq with rfl | hq
    · exact hs
    · exact H.st q (.tail _ hq)
  · rcases List.mem_cons.1 hq with rfl | hq
    · exact Nat.lt_of_lt_of_le (H.lt ⟨b, p⟩ (.head _)) hg.size
    · exact Nat.lt_of_lt_of_le (H.lt q (.tail _ hq)) hg.size
  · rcases List.mem_cons.1 hq with rfl | hq
    · exact H.ne ⟨b, p⟩ (.head _)
    · exact H.ne q (.tail _ hq)
  · rcases List.mem_cons.1 hq with rfl | hq
    · exact H.nr ⟨b, p⟩ (.head _)
    · exact H.nr q (.tail _ hq)
  · rcases List.mem_cons.1 hq with rfl | hq
    · exact H.old ⟨b, p⟩ (.head _)
    · exact H.old q (.tail _ hq)
/- Two facts change places. -/
theorem Cf.swap {p q : Fk} (H : Cf w0 A X L Rs (p :: q :: Fs) w) : Cf w0 A X L Rs (q :: p :: Fs) w := by
  have hm : ∀ f, f ∈ q :: p :: Fs → f ∈ p :: q :: Fs := fun f hf => by
    rcases List.mem_cons.1 hf with rfl | hf
    · exact .tail _ (.head _)
    · rcases List.mem_cons.1 hf with rfl | hf
      · exact .head _
      · exact .tail _ (.tail _ hf)
  obtain ⟨h1, h2⟩ := List.pairwise_cons.1 H.dis
  obtain ⟨h3, h4⟩ := List.pairwise_cons.1 h2
  exact ⟨H.cx, fun f hf => H.fs f (hm f hf), fun f hf => H.st f (hm f hf), fun f hf => H.lt f (hm f hf), fun f hf => H.ne f (hm f hf), fun f hf => H.nr f (hm f hf), fun f hf => H.old f (hm f hf),
    List.pairwise_cons.2 ⟨fun f hf => by
      rcases List.mem_cons.1 hf with rfl | hf
      · exact (h1 q (.head _)).symm
      · exact h3 f hf, List.pairwise_cons.2 ⟨fun f hf => h1 f (.tail _ hf), h4⟩⟩⟩
/- A new block with its fact. -/
theorem Cf.new {ob : Obj} {p : World → Prop} (H : Cf w0 A X L Rs Fs w) (hp : p (w.alloc ob)) (hs : Stab w.heap.size p) : Cf w0 A X L Rs (⟨w.heap.size, p⟩ :: Fs) (w.alloc ob) := by
  have H' := H.g (World.grownBy_alloc w ob none)
  have hsz : w.heap.size < (w.alloc ob).heap.size := (Array.getElem?_eq_some_iff.1 (heap_alloc_new w ob)).1
  refine ⟨H'.cx, fun q hq => ?_, fun q hq => ?_, fun q hq => ?_, fun q hq => ?_, fun q hq => ?_, fun q hq => ?_, List.pairwise_cons.2 ⟨fun q hq e => ?_, H.dis⟩⟩
  · rcases List.mem_cons.1 hq with rfl | hq
    · exact hp
    · exact H'.fs q hq
  · rcases List.mem_cons.1 hq with rfl | hq
    · exact hs
    · exact H.st q hq
  · rcases List.mem_cons.1 hq with rfl | hq
    · exact hsz
    · exact H'.lt q hq
  · rcases List.mem_cons.1 hq with rfl | hq
    · intro l hl e
      have := H.cx.lt hl
      simp only at e
      omega
    · exact H.ne q hq
  · rcases List.mem_cons.1 hq with rfl | hq
    · intro r hr e
      have := ((H.cx.row r hr).lt _ e).2
      simp only at this
      omega
    · exact H.nr q hq
  · rcases List.mem_cons.1 hq with rfl | hq
    · exact .inl H.cx.grown.size
    · exact H.old q hq
  · have := H.lt q hq
    simp only at e
    omega
/- A fact of a block that was there. -/
theorem Cf.take {b : Nat} {p : World → Prop} (H : Cf w0 A (some b) [] [] [] w) (hp : p w) (hs : Stab b p) (hb : b < w.heap.size) : Cf w0 A (some b) [] [] [⟨b, p⟩] w :=
  ⟨H.cx, fun q hq => by rw [List.mem_singleton] at hq; subst hq; exact hp, fun q hq => by rw [List.mem_singleton] at hq; subst hq; exact hs, fun q hq => by rw [List.mem_singleton] at hq; subst hq; exact hb, by simp, by simp, fun q hq => by rw [List.mem_singleton] at hq; subst hq; exact .inr rfl, List.pairwise_singleton _ _⟩
theorem cx_x (w : World) (A : Nat → Prop) {b : Nat} (hb : b < w.heap.size) : Cx w A (some b) [] [] [] w :=
  ⟨grown_refl w _, by simp, by simp, List.Pairwise.nil, by simp, by simp, List.Pairwise.nil, by simp, fun x e => by cases e; exact hb⟩
theorem at_mkmap {ops : Array Oper} {rest : List Oper} (T : TypeId) {x : Option Operand} (_ : o.op = .makeMap T x) (h : wpList P ops Q (o :: rest) a w) : wpList P ops Q (o :: rest) a w := h
end
end Go.Proofs.Ytmoekalagollhaa.Tr
