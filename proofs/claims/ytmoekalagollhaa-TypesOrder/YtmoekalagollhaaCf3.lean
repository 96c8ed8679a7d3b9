/-
  A call's own memory with facts beside it: rows that turn, rows and variables in another order, a row more, a row less; a map from which something is taken; one cell cleared.
-/
import Derived.Test.YtmoekalagollhaaCf2
import Derived.Test.YtmoekalagollhaaCx11
import Derived.Lib.SliceRun
import Derived.Laws.MakeOwn
namespace Go.Proofs.Ytmoekalagollhaa.Tr
open Go.RowKit Go.Proofs.Ytmoekalagollhaa.Tx
set_option linter.unusedVariables false
set_option linter.unusedSimpArgs false

section
variable {P : Program} {o : Oper} {a : Act} {w w0 : World} {Q : Exit → Act → World → Prop} {K : Act → World → Prop}
  {A : Nat → Prop} {X : Option Nat} {L L' : List Lc} {Rs Rs' : List Rw} {Fs Fs' : List Fk}
theorem Cf.rowstep {r r' : Rw} {w' : World} (H : Cf w0 A X L (r :: Rs) Fs w) (hc : Cx w0 A X L (r' :: Rs) [] w') (hg : w.grownBy w' r.v.ownBlock) (hl : r'.v.ownBlock = r.v.ownBlock ∨ r'.v.ownBlock = some w.heap.size) : Cf w0 A X L (r' :: Rs) Fs w' := by
  refine H.step hc hg (fun q hq e => H.nr q hq _ (.head _) e.symm) H.ne (fun q hq r hr => ?_)
  rcases List.mem_cons.1 hr with rfl | hr
  · rcases hl with e5 | e5
    · rw [e5]
      exact H.nr q hq _ (.head _)
    · rw [e5]
      intro e6
      have := H.lt q hq
      injection e6 with e6
      omega
  · exact H.nr q hq r (.tail _ hr)
theorem Cf.permR (H : Cf w0 A X L Rs Fs w) (hp : Rs.Perm Rs') : Cf w0 A X L Rs' Fs w := by
  have mm : ∀ t, t ∈ Rs' → t ∈ Rs := fun t ht => hp.mem_iff.2 ht
  refine ⟨⟨H.cx.grown, H.cx.loc, H.cx.old, H.cx.dis, fun r hr => H.cx.row r (mm r hr), fun r hr => H.cx.rl r (mm r hr), ?_, by simp, H.cx.xx⟩, H.fs, H.st, H.lt, H.ne, fun q hq r hr => H.nr q hq r (mm r hr), H.old, H.dis⟩
  refine (hp.pairwise_iff (fun {r s} h => ?_)).1 H.cx.rr
  rcases h with h | h
  · cases hs : s.v.ownBlock with
    | none => exact .inl rfl
    | some y => exact .inr (by rw [h]; simp)
  · exact .inr (Ne.symm h)
theorem Cf.permL (H : Cf w0 A X L Rs Fs w) (hp : L.Perm L') : Cf w0 A X L' Rs Fs w := by
  have mm : ∀ t, t ∈ L' → t ∈ L := fun t ht => hp.mem_iff.2 ht
  exact ⟨⟨H.cx.grown, fun p h => H.cx.loc p (mm p h), fun p h => H.cx.old p (mm p h), (hp.pairwise_iff (fun {r s} h => Ne.symm h)).1 H.cx.dis, H.cx.row, fun r hr p h => H.cx.rl r hr p (mm p h), H.cx.rr, by simp, H.cx.xx⟩, H.fs, H.st, H.lt, fun q hq p h => H.ne q hq p (mm p h), H.nr, H.old, H.dis⟩
theorem Cf.permF (H : Cf w0 A X L Rs Fs w) (hp : Fs.Perm Fs') : Cf w0 A X L Rs Fs' w := by
  have mm : ∀ t, t ∈ Fs' → t ∈ Fs := fun t ht => hp.mem_iff.2 ht
  exact ⟨H.cx, fun q h => H.fs q (mm q h), fun q h => H.st q (mm q h), fun q h => H.lt q (mm q h), fun q h => H.ne q (mm q h), fun q h => H.nr q (mm q h), fun q h => H.old q (mm q h), (hp.pairwise_iff (fun {r s} h => Ne.symm h)).1 H.dis⟩
theorem Cf.swapR {r s : Rw} (H : Cf w0 A X L (r :: s :: Rs) Fs w) : Cf w0 A X L (s :: r :: Rs) Fs w := H.permR (List.Perm.swap _ _ _)
theorem Cf.swapL {r s : Lc} (H : Cf w0 A X (r :: s :: L) Rs Fs w) : Cf w0 A X (s :: r :: L) Rs Fs w := H.permL (List.Perm.swap _ _ _)
theorem Cf.up2 {r0 r1 r2 : Rw} (H : Cf w0 A X L (r0 :: r1 :: r2 :: Rs) Fs w) : Cf w0 A X L (r2 :: r0 :: r1 :: Rs) Fs w := H.permR ((List.perm_middle (l₁ := [r0, r1]) (a := r2) (l₂ := Rs)))
theorem Cf.down2 {r0 r1 r2 : Rw} (H : Cf w0 A X L (r2 :: r0 :: r1 :: Rs) Fs w) : Cf w0 A X L (r0 :: r1 :: r2 :: Rs) Fs w := H.permR ((List.perm_middle (l₁ := [r0, r1]) (a := r2) (l₂ := Rs))).symm
theorem Cf.up3 {r0 r1 r2 r3 : Rw} (H : Cf w0 A X L (r0 :: r1 :: r2 :: r3 :: Rs) Fs w) : Cf w0 A X L (r3 :: r0 :: r1 :: r2 :: Rs) Fs w := H.permR ((List.perm_middle (l₁ := [r0, r1, r2]) (a := r3) (l₂ := Rs)))
theorem Cf.down3 {r0 r1 r2 r3 : Rw} (H : Cf w0 A X L (r3 :: r0 :: r1 :: r2 :: Rs) Fs w) : Cf w0 A X L (r0 :: r1 :: r2 :: r3 :: Rs) Fs w := H.permR ((List.perm_middle (l₁ := [r0, r1, r2]) (a := r3) (l₂ := Rs))).symm
theorem Cf.dropR {r : Rw} (H : Cf w0 A X L (r :: Rs) Fs w) : Cf w0 A X L Rs Fs w :=
  ⟨⟨H.cx.grown, H.cx.loc, H.cx.old, H.cx.dis, fun t h => H.cx.row t (.tail _ h), fun t h => H.cx.rl t (.tail _ h), (List.pairwise_cons.1 H.cx.rr).2, by simp, H.cx.xx⟩, H.fs, H.st, H.lt, H.ne, fun q hq t h => H.nr q hq t (.tail _ h), H.old, H.dis⟩
theorem Cf.dropF {q : Fk} (H : Cf w0 A X L Rs (q :: Fs) w) : Cf w0 A X L Rs Fs w :=
  ⟨H.cx, fun q h => H.fs q (.tail _ h), fun q h => H.st q (.tail _ h), fun q h => H.lt q (.tail _ h), fun q h => H.ne q (.tail _ h), fun q h => H.nr q (.tail _ h), fun q h => H.old q (.tail _ h), (List.pairwise_cons.1 H.dis).2⟩
theorem Cf.nilR (H : Cf w0 A X L Rs Fs w) (e : TypeId) (k : Nat) : Cf w0 A X L (⟨.slice none 0 0, e, k, 0, []⟩ :: Rs) Fs w := by
  refine ⟨⟨H.cx.grown, H.cx.loc, H.cx.old, H.cx.dis, fun r hr => ?_, fun r hr => ?_, List.pairwise_cons.2 ⟨fun r hr => .inl rfl, H.cx.rr⟩, by simp, H.cx.xx⟩, H.fs, H.st, H.lt, H.ne, fun q hq r hr => ?_, H.old, H.dis⟩
  · rcases List.mem_cons.1 hr with rfl | hr
    · exact World.ownsRow_nil w _ e k
    · exact H.cx.row r hr
  · rcases List.mem_cons.1 hr with rfl | hr
    · intro p _ e; cases e
    · exact H.cx.rl r hr
  · rcases List.mem_cons.1 hr with rfl | hr
    · intro e; cases e
    · exact H.nr q hq r hr
theorem own_cut {w : World} {B : Nat} {e : TypeId} {k n m c : Nat} {d : Option Addr} {xs : List Value} (h : w.ownsRow B e k (.slice d n c) n xs) (hm : m ≤ n) (h0 : d = none → m = 0) : w.ownsRow B e k (.slice d m c) m (xs.take (m * k)) := by
  obtain ⟨h1, h2⟩ := h
  have hmk : m * k ≤ n * k := Nat.mul_le_mul_right k hm
  refine ⟨by rw [List.length_take, h1]; omega, ?_⟩
  rcases h2 with ⟨e1, e2⟩ | ⟨g, cap, cur, e1, e2, e3, e4, e5, e6, e7⟩
  · injection e1 with e1 e1' e1''
    have := h0 e1
    exact .inl ⟨by rw [e1, this, e1''], this⟩
  · injection e1 with e1 e1' e1''
    subst e1''
    exact .inr ⟨g, c, cur, by rw [e1], e2, e3, by omega, e5, e6, by rw [← e7, List.take_take, Nat.min_eq_left hmk]⟩
theorem Cf.cutR {d : Option Addr} {n m c : Nat} {e : TypeId} {k : Nat} {xs : List Value} (H : Cf w0 A X L (⟨.slice d n c, e, k, n, xs⟩ :: Rs) Fs w) (hm : m ≤ n) (h0 : d = none → m = 0) : Cf w0 A X L (⟨.slice d m c, e, k, m, xs.take (m * k)⟩ :: Rs) Fs w := by
  have hob : (Value.slice d m c).ownBlock = (Value.slice d n c).ownBlock := by cases d <;> rfl
  refine ⟨⟨H.cx.grown, H.cx.loc, H.cx.old, H.cx.dis, fun r hr => ?_, fun r hr => ?_, List.pairwise_cons.2 ⟨fun r hr => ?_, (List.pairwise_cons.1 H.cx.rr).2⟩, by simp, H.cx.xx⟩, H.fs, H.st, H.lt, H.ne, fun q hq r hr => ?_, H.old, H.dis⟩
  · rcases List.mem_cons.1 hr with rfl | hr
    · exact own_cut (H.cx.row _ (.head _)) hm h0
    · exact H.cx.row r (.tail _ hr)
  · rcases List.mem_cons.1 hr with rfl | hr
    · intro p hp
      simp only [hob]
      exact H.cx.rl _ (.head _) p hp
    · exact H.cx.rl r (.tail _ hr)
  · have := (List.pairwise_cons.1 H.cx.rr).1 r hr
    simp only at this ⊢
    rw [hob]
    exact this
  · rcases List.mem_cons.1 hr with rfl | hr
    · simp only [hob]
      exact H.nr q hq _ (.head _)
    · exact H.nr q hq r (.tail _ hr)
/- A cell of a row. -/
theorem own_cell {w : World} {B : Nat} {e : TypeId} {n c : Nat} {ad : Addr} {xs : List Value} (h : w.ownsRow B e 1 (.slice (some ad) n c) n xs) {i : Nat} {v : Value} (hx : xs[i]? = some v) : w.cell? ⟨ad.block, i, none⟩ = some v := by
  obtain ⟨h1, ⟨e1, _⟩ | ⟨g, cap, cur, e1, e2, e3, e4, e5, e6, e7⟩⟩ := h
  · cases e1
  · injection e1 with e1 _ _
    injection e1 with e1
    subst e1
    have hi : i < xs.length := (List.getElem?_eq_some_iff.1 hx).1
    simp only
    rw [cell_of_row _ _ _ _ _ _ e3, ← Array.getElem?_toList]
    rw [← e7, List.getElem?_take] at hx
    split at hx
    · exact hx
    · cases hx
theorem Cf.cell {ad : Addr} {n c : Nat} {e : TypeId} {xs : List Value} (H : Cf w0 A X L Rs Fs w) (hm : ⟨.slice (some ad) n c, e, 1, n, xs⟩ ∈ Rs) {i : Nat} {v : Value} (hx : xs[i]? = some v) : w.cell? ⟨ad.block, i, none⟩ = some v := own_cell (H.cx.row _ hm) hx
theorem own_at {w : World} {B : Nat} {e : TypeId} {k n c m : Nat} {d : Option Addr} {xs : List Value} (h : w.ownsRow B e k (.slice d n c) m xs) (hn : 0 < n) : ∃ g, d = some ⟨g, 0, none⟩ ∧ n ≤ c ∧ c ≤ maxLen := by
  obtain ⟨h1, ⟨e1, h0⟩ | ⟨g, cap, cur, e1, e2, e3, e4, e5, e6, e7⟩⟩ := h
  · injection e1 with _ e2 _
    omega
  · injection e1 with e1 e1' e1''
    exact ⟨g, e1, by omega, by omega⟩
theorem cfo_rowset (T : TypeId) (x y : Operand) (ho : o.op = .store T x y) {g n cap off : Nat} {e : TypeId} {k : Nat} {xs us : List Value} (hx : a.eval x = .pointer (some ⟨g, off, none⟩)) (hv : (a.eval y).cells = us.toArray) (hs : (P.info? T).map (·.size) = some us.length) (h1 : us.all (·.oneCell') = true) (H : Cf w0 A X L (⟨.slice (some ⟨g, 0, none⟩) n cap, e, k, n, xs⟩ :: Rs) Fs w) (hf : off + us.length ≤ xs.length)
    (h : ∀ w', w.grownBy w' (some g) → Cf w0 A X L (⟨.slice (some ⟨g, 0, none⟩) n cap, e, k, n, xs.take off ++ us ++ xs.drop (off + us.length)⟩ :: Rs) Fs w' → K (a.put o.dst undef) w') : o.wp P a w K Q := by
  obtain ⟨w', hr, hg, hc⟩ := run_rowset (P := P) (T := T) H.cx hv hs h1 hf
  refine op_skip (w' := w') ?_ (h _ hg (H.rowstep hc hg (.inl rfl)))
  unfold execOp
  simp [ho, hx, Instr.storeAt, Instr.sureAddr, hr]
theorem cfo_del {m : Nat} {p p' : World → Prop} {T KT : TypeId} {x y : Operand} {k : Value} (ho : o.op = .call { callee := .builtin .delete, args := #[x, y], argTypes := #[T, KT] }) (hx : a.eval x = .map (some m)) (hy : a.eval y = k) (H : Cf w0 A X L Rs (⟨m, p⟩ :: Fs) w)
    (hr : ∃ w', (Builtin.delete_ #[T, KT] o.type #[.map (some m), k]).run P w = .ok (.tuple #[]) w' ∧ p' w' ∧ w.grownBy w' (some m)) (hs : Stab m p') (h : ∀ w', w.grownBy w' (some m) → Cf w0 A X L Rs (⟨m, p'⟩ :: Fs) w' → K (a.put o.dst (.tuple #[])) w') : o.wp P a w K Q := by
  obtain ⟨w', hr, hp, hg⟩ := hr
  refine op_val (w' := w') ?_ (h w' hg (H.turn (Fs' := Fs) hg hp hs))
  unfold execOp
  simp only [ho, resolve, invoke, builtin, Sem.run_bind, Sem.run_pure, Result.andThen_ok, List.map_toArray, List.map_cons, List.map_nil, hx, hy, hr]
/- One cell of the first row is cleared. -/
theorem cfo_clear1 (x : Operand) {T : TypeId} (ho : o.op = .call { callee := .builtin .clear, args := #[x], argTypes := #[T] }) {e : TypeId} {z : Value} (hT : P.underlying T = some (.slice e)) (hz : ∀ w, (zeroValue e).run P w = .ok z w) (hzc : z.cells = #[z]) (h1 : z.oneCell' = true)
    {g n cap off c : Nat} {xs : List Value} (hx : a.eval x = .slice (some ⟨g, off, none⟩) 1 c) (H : Cf w0 A X L (⟨.slice (some ⟨g, 0, none⟩) n cap, e, 1, n, xs⟩ :: Rs) Fs w) (hf : off + 1 ≤ xs.length)
    (h : ∀ w', w.grownBy w' (some g) → Cf w0 A X L (⟨.slice (some ⟨g, 0, none⟩) n cap, e, 1, n, xs.take off ++ [z] ++ xs.drop (off + 1)⟩ :: Rs) Fs w' → K (a.put o.dst (.tuple #[])) w') : o.wp P a w K Q := by
  have H0 := H.cx
  have hr0 := H0.row _ (.head _)
  obtain ⟨hn, ⟨hx', _⟩ | ⟨g', cap', cur, hv', hb, hh, hc1, hc2, hc3, hc4⟩⟩ := id hr0
  · cases hx'
  injection hv' with h1' h2' h3'
  injection h1' with h1'
  injection h1' with h1'
  subst h1'
  subst h3'
  have hlen : n * 1 ≤ cur.size := by rw [hc3]; exact Nat.mul_le_mul_right 1 hc1
  simp only at hn hc4
  have hst := run_storeCells_at P g off e [z] 0 cur w hh (by simp; omega) (fun v hv => by simp at hv; subst hv; exact h1)
  simp only [Nat.add_zero] at hst
  have hg : w.grownBy (w.setRow g (cur.toList.take off ++ [z] ++ cur.toList.drop (off + [z].length)).toArray) (some g) := ⟨rfl, rfl, rfl, by simp, fun k _ hk => setRow_other w g k _ (fun e => hk (by rw [e]))⟩
  have hc : Cx w0 A X L (⟨.slice (some ⟨g, 0, none⟩) n cap, e, 1, n, xs.take off ++ [z] ++ xs.drop (off + 1)⟩ :: Rs) [] (w.setRow g (cur.toList.take off ++ [z] ++ cur.toList.drop (off + [z].length)).toArray) := by
    refine H0.row_turn ⟨?_, .inr ⟨g, cap, _, rfl, hb, setRow_heap w _ _ _ _ _ hh, hc1, hc2, ?_, ?_⟩⟩ hg (.inl rfl)
    · simp; omega
    · simp only at hc3
      simp
      omega
    · rw [← hc4]
      exact take_put _ [z] _ _ (by simp; omega) (by simpa using hlen)
  have hrun : (Builtin.clear_ #[T] o.type #[.slice (some ⟨g, off, none⟩) 1 c]).run P w = .ok (.tuple #[]) (w.setRow g (cur.toList.take off ++ [z] ++ cur.toList.drop (off + [z].length)).toArray) := by
    have hzl : (Builtin.zeroCells z.cells 1).toList = [z] := by rw [hzc]; simp [Builtin.zeroCells]
    simp [Builtin.clear_, run_underlying hT, hz w, hzl, Result.andThen]
    simp at hst
    simp [hst]
  refine op_val (w' := _) ?_ (h _ hg (H.rowstep hc hg (.inl rfl)))
  unfold execOp
  simp only [ho, resolve, invoke, builtin, Sem.run_bind, Sem.run_pure, Result.andThen_ok, List.map_toArray, List.map_cons, List.map_nil, hx, hrun]
/- A slice that is made, one element long, as a row. -/
theorem at_mks1 {ops : Array Oper} {rest : List Oper} (T : TypeId) {x y : Operand} (_ : o.op = .makeSlice T x y) (h : wpList P ops Q (o :: rest) a w) : wpList P ops Q (o :: rest) a w := h
theorem Cf.rownew (H : Cf w0 A X L Rs Fs w) (e : TypeId) (k n : Nat) (vs : List Value) (hn : vs.length = n * k) (hx : n ≤ maxLen) : Cf w0 A X L (⟨.slice (some ⟨w.heap.size, 0, none⟩) n n, e, k, n, vs⟩ :: Rs) Fs (w.alloc (.cells vs.toArray e)) :=
  H.step (H.cx.row_new e k n vs hn hx) (World.grownBy_alloc w _ none) (by simp) H.ne (fun q hq r hr => by
    rcases List.mem_cons.1 hr with rfl | hr
    · intro e6
      have := H.lt q hq
      simp [Value.ownBlock] at e6
      omega
    · exact H.nr q hq r hr)
theorem cf_mks1 {ops : Array Oper} {rest : List Oper} (hgd : o.guard = none) (T : TypeId) (x y : Operand) (ho : o.op = .makeSlice T x y) {e : TypeId} {z : Value} {by_ : Nat} (hT : P.underlying T = some (.slice e)) (hz : (P.info? e).bind (fun i => i.zero.map (·.cells)) = some ([z] : List Value).toArray) (hi : (P.info? e).map (fun i => (i.zero.map (·.cells.size), i.size, i.bytes)) = some (some 1, 1, by_)) (hb : by_ ≤ 100000) (hx : a.eval x = .int .i64 1) (hy : a.eval y = .int .i64 1) (H : Cf w0 A X L Rs Fs w)
    (h : ∀ b w', Cf w0 A X L (⟨.slice (some ⟨b, 0, none⟩) 1 1, e, 1, 1, [z]⟩ :: Rs) Fs w' → wpList P ops Q rest (a.put o.dst (.slice (some ⟨b, 0, none⟩) 1 1)) w') : wpList P ops Q (o :: rest) a w := by
  cases hie : P.info? e with
  | none => simp [hie] at hi
  | some ie =>
    cases hzz : ie.zero with
    | none => simp [hie, hzz] at hz
    | some z' =>
      simp [hie, hzz] at hz
      simp [hie, hzz] at hi
      obtain ⟨_, hsz, hby⟩ := hi
      have hr := run_makeSlice (P := P) (w := w) T e ie z' hT hie hzz .i64 .i64 1 1 (by omega) (Int.le_refl _) (by rw [hsz]; decide) (by rw [hby]; omega) (by omega)
      have hcs : madeCells z'.cells ((1 : Int).toNat * ie.size) = ([z] : List Value).toArray := by rw [hz, hsz]; simp [madeCells]; exact ⟨0, rfl, by simp⟩
      rw [hcs] at hr
      refine wl_val (w' := w.alloc (.cells ([z] : List Value).toArray e)) hgd ?_ (h w.heap.size _ (H.rownew e 1 1 [z] rfl (by decide)))
      unfold execOp
      simp [ho, hx, hy, hr]
/- A slice literal as a row. -/
theorem cfo_br (T : TypeId) (n : Nat) (parts : Array (Nat × Operand)) (ho : o.op = .buildSlice T n parts) (e : TypeId) (k : Nat) (vs : List Value) (H : Cf w0 A X L Rs Fs w) (hn : vs.length = n * k) (hx : n ≤ 64) (hf : bsCells P T n (parts.map fun (i, x) => (i, a.eval x)).toList = some (e, vs.toArray))
    (h : ∀ b w', w.grownBy w' none → Cf w0 A X L (⟨.slice (some ⟨b, 0, none⟩) n n, e, k, n, vs⟩ :: Rs) Fs w' → K (a.put o.dst (.slice (some ⟨b, 0, none⟩) n n)) w') : o.wp P a w K Q := by
  refine op_val (w' := w.alloc (.cells vs.toArray e)) ?_ (h w.heap.size _ (World.grownBy_alloc w _ none) (H.rownew e k n vs hn (by unfold maxLen; omega)))
  unfold execOp
  simp [ho, run_bs hf]
/- A slice literal without elements, as a row. -/
theorem cfo_bs0 (T : TypeId) (ho : o.op = .buildSlice T 0 #[]) {e : TypeId} {k : Nat} (hT : P.underlying T = some (.slice e)) (hi : (P.info? e).map (·.size) = some k) (H : Cf w0 A X L Rs Fs w)
    (h : ∀ b w', w.grownBy w' none → Cf w0 A X L (⟨.slice (some ⟨b, 0, none⟩) 0 0, e, k, 0, []⟩ :: Rs) Fs w' → K (a.put o.dst (.slice (some ⟨b, 0, none⟩) 0 0)) w') : o.wp P a w K Q := by
  cases hie : P.info? e with
  | none => simp [hie] at hi
  | some ie =>
    refine op_val (w' := w.alloc (.cells ([] : List Value).toArray e)) ?_ (h w.heap.size _ (World.grownBy_alloc w _ none) (H.rownew e k 0 [] (by simp) (by decide)))
    unfold execOp
    simp [ho, Instr.buildSlice, run_underlying hT, sizeOf, typeInfo, hie, Instr.fill, newRow]
    rw [show Array.range 0 = #[] by simp [Array.range], Array.map_empty]
/- A row grows by another one's cells. -/
theorem cfo_apr (s x : Operand) {T : TypeId} (ho : o.op = .call { callee := .builtin .append, args := #[s, x], argTypes := #[T, T] }) {e : TypeId} {by_ : Nat} (hT : P.underlying T = some (.slice e)) (hi : (P.info? e).map (fun i => (i.zero.map (·.cells.size), i.size, i.bytes)) = some (some 1, 1, by_)) (hb : by_ ≤ 100000)
    {v : Value} {n m c : Nat} {d : Option Addr} {xs us : List Value} (hs : a.eval s = v) (hx : a.eval x = .slice d m c) (H : Cf w0 A X L (⟨v, e, 1, n, xs⟩ :: Rs) Fs w) (hm : ⟨.slice d m c, e, 1, m, us⟩ ∈ Rs) (h1 : us.all (·.oneCell') = true) (hn : n + m ≤ 900000)
    (h : ∀ d cp w', w.grownBy w' v.ownBlock → Cf w0 A X L (⟨.slice d (n + m) cp, e, 1, n + m, xs ++ us⟩ :: Rs) Fs w' → K (a.put o.dst (.slice d (n + m) cp)) w') : o.wp P a w K Q := by
  cases hie : P.info? e with
  | none => simp [hie] at hi
  | some ie =>
    simp [hie] at hi
    obtain ⟨⟨z, hz, hzk⟩, hsz, hby⟩ := hi
    have hr0 := H.cx.row _ (.head _)
    have hrm := H.cx.row _ (.tail _ hm)
    have hsh : ∀ {w' : World} {v' : Value} {ys : List Value}, w'.ownsRow w0.heap.size e 1 v' (n + m) ys → ∃ d cp, v' = .slice d (n + m) cp := fun h2 => by
      rcases h2.2 with ⟨rfl, h0⟩ | ⟨g, cap, cur, rfl, _⟩
      · exact ⟨none, 0, by rw [h0]⟩
      · exact ⟨_, cap, rfl⟩
    have key : ∃ v' w', (Builtin.append_ #[T, T] o.type #[v, .slice d m c]).run P w = .ok v' w' ∧ w'.ownsRow w0.heap.size e 1 v' (n + m) (xs ++ us) ∧ w.grownBy w' v.ownBlock ∧ (v'.ownBlock = v.ownBlock ∨ v'.ownBlock = some w.heap.size) := by
      cases d with
      | none =>
        have hm0 : m = 0 ∧ us = [] ∧ c = 0 := by
          obtain ⟨q1, ⟨q2, q3⟩ | ⟨g, cap, cur, q2, _⟩⟩ := hrm
          · injection q2 with _ q4 q5
            simp only at q1 q3
            refine ⟨q3, ?_, q5⟩
            rw [q3] at q1
            exact List.length_eq_zero_iff.1 (by simpa using q1)
          · cases q2
        obtain ⟨rfl, rfl, rfl⟩ := hm0
        have hrun := run_append_owned_none (P := P) (w := w) w0.heap.size T o.type e ie 1 hT hie v n xs hr0
        exact ⟨v, w, hrun, by rw [List.append_nil]; exact hr0, grown_refl w _, .inl rfl⟩
      | some ad =>
        have hlen : us.length = m * 1 := hrm.1
        have had : ∃ g, ad = ⟨g, 0, none⟩ := by
          obtain ⟨q1, ⟨q2, _⟩ | ⟨g, cap, cur, q2, _⟩⟩ := hrm
          · cases q2
          · injection q2 with q2
            injection q2 with q2
            exact ⟨g, q2⟩
        obtain ⟨g, rfl⟩ := had
        obtain ⟨v', w', hr, h2, h3, h4, h5⟩ := run_append_own_at (P := P) w w0.heap.size T o.type e ie z 1 by_ hT hie hz hsz hby hzk (by decide) v n xs hr0 ⟨g, 0, none⟩ m c us hlen (fun j u hu => by
          have := own_cell hrm hu
          have e1 : (⟨g, 0, none⟩ : Addr).add j = ⟨g, j, none⟩ := by unfold Addr.add; split <;> simp_all
          rw [e1]
          exact this) (fun u hu => List.all_eq_true.1 h1 u hu) (by unfold maxLen; omega) (Nat.le_trans (Nat.mul_le_mul (show n + m ≤ 1000000 by omega) hb) (by decide)) H.cx.grown.size
        exact ⟨v', w', hr, h2, h3, h5⟩
    obtain ⟨v', w', hr, h2, h3, h5⟩ := key
    obtain ⟨d', cp, rfl⟩ := hsh h2
    refine op_val (w' := w') ?_ (h d' cp w' h3 (H.rowstep (H.cx.row_turn h2 h3 h5) h3 h5))
    unfold execOp
    simp only [ho, resolve, invoke, builtin, Sem.run_bind, Sem.run_pure, Result.andThen_ok, List.map_toArray, List.map_cons, List.map_nil, hs, hx, hr]
theorem wl_op {ops : Array Oper} {rest : List Oper} (hgd : o.guard = none) (h : ∀ K' : Act → World → Prop, (∀ a w, wpList P ops Q rest a w → K' a w) → o.wp P a w K' Q) : wpList P ops Q (o :: rest) a w := wpList_plain hgd h
theorem at_call1 {ops : Array Oper} {rest : List Oper} {b : Builtin} {x : Operand} {T : TypeId} (_ : o.op = .call { callee := .builtin b, args := #[x], argTypes := #[T] }) (h : wpList P ops Q (o :: rest) a w) : wpList P ops Q (o :: rest) a w := h
theorem at_call2 {ops : Array Oper} {rest : List Oper} {b : Builtin} {x y : Operand} {T U : TypeId} (_ : o.op = .call { callee := .builtin b, args := #[x, y], argTypes := #[T, U] }) (h : wpList P ops Q (o :: rest) a w) : wpList P ops Q (o :: rest) a w := h
end
end Go.Proofs.Ytmoekalagollhaa.Tr
