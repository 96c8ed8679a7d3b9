/-
  A call's own memory with facts beside it: operations one by one (for regions that draw their order), append, a map's fact that turns.
-/
import Derived.Test.YtmoekalagollhaaY1
namespace Go.Proofs.Ytmoekalagollhaa.Tr
open Go.RowKit Go.Proofs.Ytmoekalagollhaa.Tx
set_option linter.unusedVariables false
set_option linter.unusedSimpArgs false

section
variable {P : Program} {o : Oper} {a : Act} {w w0 : World} {Q : Exit → Act → World → Prop} {K : Act → World → Prop}
  {A : Nat → Prop} {X : Option Nat} {L L' : List Lc} {Rs Rs' : List Rw} {Fs : List Fk}
theorem Cf.new_loc {cs : List Value} {t : TypeId} (H : Cf w0 A X L Rs Fs w) : Cf w0 A X (⟨w.heap.size, cs, t⟩ :: L) Rs Fs (w.alloc (.cells cs.toArray t)) :=
  H.step (H.cx.loc_new cs t) (World.grownBy_alloc w _ none) (by simp) (fun q hq p hp => by
    rcases List.mem_cons.1 hp with rfl | hp
    · have := H.lt q hq; simp only; omega
    · exact H.ne q hq p hp) H.nr
theorem cfo_alloc (T : TypeId) (ho : o.op = .alloc T) {zs : List Value} (hz : (P.info? T).bind (fun i => i.zero.map (·.cells)) = some zs.toArray) (H : Cf w0 A X L Rs Fs w)
    (h : ∀ b w', w.heap.size ≤ b → w.grownBy w' none → Cf w0 A X (⟨b, zs, T⟩ :: L) Rs Fs w' → K (a.put o.dst (.pointer (some ⟨b, 0, none⟩))) w') : o.wp P a w K Q := by
  cases hi : P.info? T with
  | none => simp [hi] at hz
  | some i =>
    cases hzz : i.zero with
    | none => simp [hi, hzz] at hz
    | some z =>
      simp [hi, hzz] at hz
      refine op_val (w' := w.alloc (.cells zs.toArray T)) ?_ (h w.heap.size _ (Nat.le_refl _) (World.grownBy_alloc w _ none) H.new_loc)
      unfold execOp
      simp [ho, Instr.alloc, zeroValue, typeInfo, hi, hzz, newVar, newRow, hz]
theorem cfo_store (T : TypeId) (x y : Operand) (ho : o.op = .store T x y) {b off : Nat} (hx : a.eval x = .pointer (some ⟨b, off, none⟩)) {us : List Value} (hv : (a.eval y).cells = us.toArray) (hs : (P.info? T).map (·.size) = some us.length) (h1 : us.all (·.oneCell') = true) (H : Cf w0 A X L Rs Fs w) {cs cs' : List Value} {t : TypeId} (hm : ⟨b, cs, t⟩ ∈ L) (hp : PutS off us cs cs') (hu : Upd b cs' L L')
    (h : ∀ w', w.grownBy w' (some b) → Cf w0 A X L' Rs Fs w' → K (a.put o.dst undef) w') : o.wp P a w K Q := by
  refine op_skip (w' := w.setRow b cs'.toArray) ?_ (h _ ⟨rfl, rfl, rfl, by simp, fun k _ hk => setRow_other w b k _ (fun e => hk (by rw [e]))⟩ (H.set hm hu))
  unfold execOp
  simp [ho, hx, Instr.storeAt, Instr.sureAddr, run_store_at H.cx hm hv hs hp h1]
theorem cfo_bl (T : TypeId) (n : Nat) (parts : Array (Nat × Operand)) (ho : o.op = .buildSlice T n parts) (e : TypeId) (vs : List Value) (H : Cf w0 A X L Rs Fs w) (hf : bsCells P T n (parts.map fun (i, x) => (i, a.eval x)).toList = some (e, vs.toArray))
    (h : ∀ b w', NX X b → w.grownBy w' none → Cf w0 A X (⟨b, vs, e⟩ :: L) Rs Fs w' → K (a.put o.dst (.slice (some ⟨b, 0, none⟩) n n)) w') : o.wp P a w K Q := by
  refine op_val (w' := w.alloc (.cells vs.toArray e)) ?_ (h w.heap.size _ H.cx.nx (World.grownBy_alloc w _ none) H.new_loc)
  unfold execOp
  simp [ho, run_bs hf]
/- A row grows by what lies in a block of one's own. -/
theorem cfo_ap (s x : Operand) {T : TypeId} (ho : o.op = .call { callee := .builtin .append, args := #[s, x], argTypes := #[T, T] }) {e : TypeId} {k by_ : Nat} (hT : P.underlying T = some (.slice e)) (hi : (P.info? e).map (fun i => (i.zero.map (·.cells.size), i.size, i.bytes)) = some (some k, k, by_)) (hk : 0 < k) (hb : by_ ≤ 100000)
    {v : Value} {n b : Nat} {xs us : List Value} {t : TypeId} (hs : a.eval s = v) (hx : a.eval x = .slice (some ⟨b, 0, none⟩) 1 1) (H : Cf w0 A X (⟨b, us, t⟩ :: L) (⟨v, e, k, n, xs⟩ :: Rs) Fs w) (hl : us.length = 1 * k) (h1 : us.all (·.oneCell') = true) (hn : n ≤ 900000)
    (h : ∀ d cp w', w.grownBy w' v.ownBlock → Cf w0 A X L (⟨.slice d (n + 1) cp, e, k, n + 1, xs ++ us⟩ :: Rs) Fs w' → K (a.put o.dst (.slice d (n + 1) cp)) w') : o.wp P a w K Q := by
  cases hie : P.info? e with
  | none => simp [hie] at hi
  | some ie =>
    simp [hie] at hi
    obtain ⟨⟨z, hz, hzk⟩, hsz, hby⟩ := hi
    have hr0 := H.cx.row _ (.head _)
    obtain ⟨v', w', hr, h2, h3, h4, h5⟩ := run_append_own_at (P := P) w w0.heap.size T o.type e ie z k by_ hT hie hz hsz hby hzk hk v n xs hr0 ⟨b, 0, none⟩ 1 1 us hl (cells_at H.cx (.head _) (GetS.all us)) (fun u hu => List.all_eq_true.1 h1 u hu) (by unfold maxLen; omega) (Nat.le_trans (Nat.mul_le_mul (show n + 1 ≤ 1000000 by omega) hb) (by decide)) H.cx.grown.size
    have hsh : ∃ d cp, v' = .slice d (n + 1) cp := by
      rcases h2.2 with ⟨rfl, h0⟩ | ⟨g, cap, cur, rfl, _⟩
      · exact ⟨none, 0, by rw [h0]⟩
      · exact ⟨_, cap, rfl⟩
    obtain ⟨d, cp, rfl⟩ := hsh
    have hc := (H.cx.row_app h2 h3 h5).drop
    refine op_val (w' := w') ?_ (h d cp w' h3 (H.drop.step hc h3 (fun q hq e => H.nr q hq _ (.head _) e.symm) (fun q hq p hp => H.ne q hq p (.tail _ hp)) (fun q hq r hr => ?_)))
    · unfold execOp
      simp only [ho, resolve, invoke, builtin, Sem.run_bind, Sem.run_pure, Result.andThen_ok, List.map_toArray, List.map_cons, List.map_nil, hs, hx, hr]
    · rcases List.mem_cons.1 hr with rfl | hr
      · show (Value.slice d (n + 1) cp).ownBlock ≠ some q.b
        rcases h5 with e5 | e5
        · rw [e5]
          exact H.nr q hq _ (.head _)
        · rw [e5]
          intro e6
          have := H.lt q hq
          injection e6 with e6
          omega
      · exact H.nr q hq r (.tail _ hr)
/- A map is written: its fact turns. -/
theorem cfo_put {m : Nat} {p p' : World → Prop} {T : TypeId} {x y z : Operand} {k v : Value} (ho : o.op = .mapUpdate T x y z) (hx : a.eval x = .map (some m)) (hy : a.eval y = k) (hz : a.eval z = v) (H : Cf w0 A X L Rs (⟨m, p⟩ :: Fs) w)
    (hr : ∃ w', (Instr.mapUpdate T (.map (some m)) k v).run P w = .ok () w' ∧ p' w' ∧ w.grownBy w' (some m)) (hs : Stab m p') (h : ∀ w', w.grownBy w' (some m) → Cf w0 A X L Rs (⟨m, p'⟩ :: Fs) w' → K (a.put o.dst undef) w') : o.wp P a w K Q := by
  obtain ⟨w', hr, hp, hg⟩ := hr
  refine op_skip (w' := w') ?_ (h w' hg (H.turn (Fs' := Fs) hg hp hs))
  unfold execOp
  simp [ho, hx, hy, hz, hr]
end
end Go.Proofs.Ytmoekalagollhaa.Tr
