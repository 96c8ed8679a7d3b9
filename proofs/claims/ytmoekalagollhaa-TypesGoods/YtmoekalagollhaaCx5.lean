/-
  A call's own memory: rows within a region that draws; a row that grows by a slice of things; one thing of a slice.
-/
import Derived.Test.YtmoekalagollhaaCx4
import Derived.Laws.OwnMore
namespace Go.Proofs.Ytmoekalagollhaa.Tr
open Go.RowKit Go.Proofs.Ytmoekalagollhaa.Tx
set_option linter.unusedVariables false
set_option linter.unusedSimpArgs false
section
variable {P : Program} {o : Oper} {a : Act} {w w0 : World} {K : Act → World → Prop} {Q : Exit → Act → World → Prop}
  {A : Nat → Prop} {X : Option Nat} {L L' : List Lc} {Rs : List Rw} {Ts : List (List Dt × List Value)}
theorem op_br (T : TypeId) (n : Nat) (parts : Array (Nat × Operand)) (ho : o.op = .buildSlice T n parts) (e : TypeId) (k : Nat) (vs : List Value) (H : Cx w0 A X L Rs Ts w) (hn : vs.length = n * k) (hx : n ≤ 64) (hf : bsCells P T n (parts.map fun (i, x) => (i, a.eval x)).toList = some (e, vs.toArray))
    (h : ∀ b w', w.heap.size ≤ b → w.grownBy w' none → Cx w0 A X L (⟨.slice (some ⟨b, 0, none⟩) n n, e, k, n, vs⟩ :: Rs) Ts w' → K (a.put o.dst (.slice (some ⟨b, 0, none⟩) n n)) w') : o.wp P a w K Q := by
  refine op_val (w' := w.alloc (.cells vs.toArray e)) ?_ (h w.heap.size _ (Nat.le_refl _) (World.grownBy_alloc w _ none) (H.row_new e k n vs hn (by unfold maxLen; omega)))
  unfold execOp
  simp [ho, run_bs hf]
/- 'append(v, things...)'. -/
theorem run_aps {T : TypeId} {ty : TypeId} {e : TypeId} {k by_ : Nat} (hT : P.underlying T = some (.slice e)) (hi : (P.info? e).map (fun i => (i.zero.map (·.cells.size), i.size, i.bytes)) = some (some k, k, by_)) (hk : 0 < k) (hb : by_ ≤ 100000)
    {v : Value} {n m : Nat} {xs : List Value} {oo : Option Addr} {c : Nat} {ds : List Dt} (H : Cx w0 A X L (⟨v, e, k, n, xs⟩ :: Rs) Ts w) (hv : isC w (okL w0 A L (⟨v, e, k, n, xs⟩ :: Rs)) (.s m ds) (.slice oo m c)) (hd : ds.length = m * k) (hg : ∀ us, isV w (okL w0 A L (⟨v, e, k, n, xs⟩ :: Rs)) ds us → us.all (·.oneCell') = true) (hn : n + m ≤ 900000) :
    ∃ v' w' us, (Builtin.append_ #[T, T] ty #[v, .slice oo m c]).run P w = .ok v' w' ∧ w.grownBy w' v.ownBlock ∧ (∃ d cp, v' = .slice d (n + m) cp) ∧ Cx w0 A X L (⟨v', e, k, n + m, xs ++ us⟩ :: Rs) ((ds, us) :: Ts) w' := by
  cases hie : P.info? e with
  | none => simp [hie] at hi
  | some ie =>
    simp [hie] at hi
    obtain ⟨⟨z, hz, hzk⟩, hsz, hby⟩ := hi
    have hr0 := H.row _ (.head _)
    have shape : ∀ {w' : World} {v' : Value} {ys : List Value}, w'.ownsRow w0.heap.size e k v' (n + m) ys → ∃ d cp, v' = .slice d (n + m) cp := fun h2 => by
      rcases h2.2 with ⟨rfl, h0⟩ | ⟨g, cap, cur, rfl, _⟩
      · exact ⟨none, 0, by rw [h0]⟩
      · exact ⟨_, cap, rfl⟩
    have hv' := hv
    rw [isC.eq_2] at hv
    obtain ⟨o', c', he, hnone, hl⟩ := hv
    obtain ⟨e1, e2⟩ : o' = oo ∧ c' = c := by simp at he; exact ⟨he.1.symm, he.2.symm⟩
    subst o'
    subst c'
    clear he
    have key : ∀ ad us, oo = some ad → us.length = m * k → (∀ j u, us[j]? = some u → w.cell? (ad.add j) = some u) → isV w (okL w0 A L (⟨v, e, k, n, xs⟩ :: Rs)) ds us → ∃ v' w' us, (Builtin.append_ #[T, T] ty #[v, .slice oo m c]).run P w = .ok v' w' ∧ w.grownBy w' v.ownBlock ∧ (∃ d cp, v' = .slice d (n + m) cp) ∧ Cx w0 A X L (⟨v', e, k, n + m, xs ++ us⟩ :: Rs) ((ds, us) :: Ts) w' := by
      intro ad us e1 hlen hc hus
      subst e1
      obtain ⟨v', w', hr, h2, h3, h4, h5⟩ := run_append_own_at (P := P) w w0.heap.size T ty e ie z k by_ hT hie hz hsz hby hzk hk v n xs hr0 ad m c us hlen hc (fun u hu => List.all_eq_true.1 (hg us hus) u hu) (by unfold maxLen; omega) (Nat.le_trans (Nat.mul_le_mul (show n + m ≤ 1000000 by omega) hb) (by decide)) H.grown.size
      exact ⟨v', w', us, hr, h3, shape h2, (H.add hus).row_app h2 h3 h5⟩
    rcases hl with hl | ⟨ad, us, h1, hok, hc, hus⟩
    · subst hl
      have hm0 : m = 0 := by
        have h0 : m * k = 0 := by simpa using hd.symm
        rcases Nat.mul_eq_zero.1 h0 with h | h
        · exact h
        · omega
      subst hm0
      cases oo with
      | none =>
        obtain ⟨_, rfl⟩ := hnone rfl
        have hrun := run_append_owned_none (P := P) (w := w) w0.heap.size T ty e ie k hT hie v n xs hr0
        refine ⟨v, w, [], hrun, grown_refl w _, shape (w' := w) (ys := xs) hr0, ?_⟩
        rw [List.append_nil]
        exact H.add isV_none
      | some ad => exact key ad [] rfl (by simp) (by simp) isV_none
    · exact key ad us h1 (by rw [isV_len _ _ hus, hd]) hc hus
theorem op_aps (s x : Operand) {T : TypeId} (ho : o.op = .call { callee := .builtin .append, args := #[s, x], argTypes := #[T, T] }) {e : TypeId} {k by_ : Nat} (hT : P.underlying T = some (.slice e)) (hi : (P.info? e).map (fun i => (i.zero.map (·.cells.size), i.size, i.bytes)) = some (some k, k, by_)) (hk : 0 < k) (hb : by_ ≤ 100000)
    {v : Value} {n m : Nat} {xs : List Value} {oo : Option Addr} {c : Nat} (hs : a.eval s = v) (hx : a.eval x = .slice oo m c) (H : Cx w0 A X L (⟨v, e, k, n, xs⟩ :: Rs) Ts w) {ds : List Dt} (hv : isV w (okL w0 A L (⟨v, e, k, n, xs⟩ :: Rs)) [.s m ds] [.slice oo m c]) (hd : ds.length = m * k) (hg : ∀ us, isV w (okL w0 A L (⟨v, e, k, n, xs⟩ :: Rs)) ds us → us.all (·.oneCell') = true) (hn : n + m ≤ 900000)
    (h : ∀ d cp us w', w.grownBy w' v.ownBlock → Cx w0 A X L (⟨.slice d (n + m) cp, e, k, n + m, xs ++ us⟩ :: Rs) ((ds, us) :: Ts) w' → K (a.put o.dst (.slice d (n + m) cp)) w') : o.wp P a w K Q := by
  obtain ⟨v', w', us, hr, hgr, ⟨d, cp, rfl⟩, hc⟩ := run_aps (ty := o.type) hT hi hk hb H (isV_one hv) hd hg hn
  refine op_val (w' := w') ?_ (h d cp us w' hgr hc)
  unfold execOp
  simp only [ho, resolve, invoke, builtin, Sem.run_bind, Sem.run_pure, Result.andThen_ok, List.map_toArray, List.map_cons, List.map_nil, hs, hx, hr]
theorem gr_own {s w w' : World} {p b : Nat} (h : s.grownBy w (some p)) (hg : w.grownBy w' (some b)) (hb : s.heap.size ≤ b) : s.grownBy w' (some p) := grown_then h hg (fun y e => by cases e; exact .inr hb)
/- One thing of a slice, read. -/
theorem wl_elem {ops : Array Oper} {rest : List Oper} {α : Type} {enc : α → List Dt} {k : Nat} (hk : ∀ x, (enc x).length = k) (h0 : 0 < k) (hgd : o.guard = none) (T : TypeId) (x : Operand) (ho : o.op = .load T x) (hT : TyS P T k) {l : List α} {m : Nat} {oo : Option Addr} {n c i : Nat} {y : α} (H : Cx w0 A X L Rs Ts w) (hv : isV w (okL w0 A L Rs) [.s m (l.flatMap enc)] [.slice oo n c]) (hy : l[i]? = some y) {B : Addr} (hx : a.eval x = .pointer (some B)) (hB : ∀ ad, oo = some ad → ad.add (i * k) = B)
    (h : ∀ us, isV w (okL w0 A L Rs) (enc y) us → wpList P ops Q rest (a.put o.dst (.agg us.toArray)) w) : wpList P ops Q (o :: rest) a w := by
  obtain ⟨ad, us, h1, h2, h3, h4⟩ := row_at hk h0 (isV_one hv) hy
  have e := hB ad h1
  rw [e] at h4
  refine wl_val hgd ?_ (h us h3)
  unfold execOp
  simp [ho, hx, Instr.loadAt, Instr.sureAddr, run_load_s hT B us (by rw [isV_len _ _ h3, hk]) h4]
end
/- Cells that are single ones. -/
mutual
def oneD : Dt → Bool
  | .c v => v.oneCell'
  | .s _ _ => true
end
theorem one_all {w : World} {ok : Nat → Prop} : ∀ (ds : List Dt) (us : List Value), ds.all oneD = true → isV w ok ds us → us.all (·.oneCell') = true
  | [], us, _, h => by simp only [isV] at h; subst h; rfl
  | d :: ds, us, hd, h => by
    simp only [isV] at h
    obtain ⟨v, vs, rfl, h1, h2⟩ := h
    simp only [List.all_cons, Bool.and_eq_true] at hd ⊢
    refine ⟨?_, one_all ds vs hd.2 h2⟩
    cases d with
    | c u => simp only [isC] at h1; subst h1; simpa [oneD] using hd.1
    | s n l => simp only [isC] at h1; obtain ⟨o, cp, rfl, _⟩ := h1; rfl
theorem exD_one (x : Ex) : (exD x).all oneD = true := by cases x; rfl
theorem txD_one (x : Tx) : (txD x).all oneD = true := by cases x; rfl
theorem fdD_one (x : Fd) : (fdD x).all oneD = true := by
  cases x with
  | mk nm b ty a => simp [fdD, txD_one, oneD, ct, cb, ci, Value.oneCell']
theorem flat_one {α : Type} {enc : α → List Dt} (h : ∀ x, (enc x).all oneD = true) (l : List α) : (l.flatMap enc).all oneD = true := by
  induction l with
  | nil => rfl
  | cons x l ih => rw [List.flatMap_cons, List.all_append, h, ih]; rfl
theorem flat_len {α : Type} {enc : α → List Dt} {k : Nat} (h : ∀ x, (enc x).length = k) (l : List α) : (l.flatMap enc).length = l.length * k := by
  induction l with
  | nil => simp
  | cons x l ih => rw [List.flatMap_cons, List.length_append, h, ih, List.length_cons, Nat.succ_mul]; omega
end Go.Proofs.Ytmoekalagollhaa.Tr
