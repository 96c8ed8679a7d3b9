/-
  A call's own memory: a row that a callee made, nothing else turned; one cell of a slice; a row that grows by a slice.
-/
import Derived.Test.YtmoekalagollhaaCx6
namespace Go.Proofs.Ytmoekalagollhaa.Tr
open Go.RowKit Go.Proofs.Ytmoekalagollhaa.Tx
set_option linter.unusedVariables false
set_option linter.unusedSimpArgs false
section
variable {P : Program} {o : Oper} {a : Act} {w w0 : World} {K : Act → World → Prop} {Q : Exit → Act → World → Prop}
  {A : Nat → Prop} {X : Option Nat} {L L' : List Lc} {Rs : List Rw} {Ts : List (List Dt × List Value)}
theorem Cx.row0 {w' : World} {G : Prop} {e : TypeId} {k n : Nat} {v : Value} {xs : List Value} (H : Cx w0 A X L Rs Ts w) (hg : w.grownBy w' none) (hr : w'.ownsRow w.heap.size e k v n xs) (h : Cx w0 A X L (⟨v, e, k, n, xs⟩ :: Rs) Ts w' → G) : G := by
  have H' := H.g hg
  have lt1 : ∀ p ∈ L, p.b < w.heap.size := fun p hp => H.lt hp
  have own : ∀ b, v.ownBlock = some b → w.heap.size ≤ b := fun b hb => (hr.lt b hb).1
  refine h ⟨H'.grown, H'.loc, H'.old, H'.dis, fun r hr' => ?_, fun r hr' => ?_, List.pairwise_cons.2 ⟨fun r hr' => ?_, H'.rr⟩, fun p hp => ?_, H'.xx⟩
  · rcases List.mem_cons.1 hr' with rfl | hr'
    · exact own_base hr H.grown.size
    · exact H'.row r hr'
  · rcases List.mem_cons.1 hr' with rfl | hr'
    · intro p hp e
      have := own _ e
      have := lt1 p hp
      omega
    · exact H'.rl r hr'
  · by_cases h0 : v.ownBlock = none
    · exact .inl h0
    · refine .inr (fun e => ?_)
      cases hb : v.ownBlock with
      | none => exact h0 hb
      | some b =>
        simp only at e
        rw [hb] at e
        have h1 := ((H.row r hr').lt b e.symm).2
        have := own b hb
        omega
  · refine isV.kept (Fr.grow hg (fun b hb hl => ⟨hb.1, hb.2.1, fun r hr' => ?_⟩) (fun c e => by cases e)) _ _ (H.tr p hp)
    rcases List.mem_cons.1 hr' with rfl | hr'
    · intro e
      have := own b e
      omega
    · exact hb.2.2 r hr'
theorem wl_elemC {ops : Array Oper} {rest : List Oper} {α : Type} {enc : α → List Dt} (hk : ∀ x, (enc x).length = 1) (hgd : o.guard = none) (T : TypeId) (x : Operand) (ho : o.op = .load T x) (hT : TyC P T) {l : List α} {m : Nat} {oo : Option Addr} {n c i : Nat} {y : α} (H : Cx w0 A X L Rs Ts w) (hv : isV w (okL w0 A L Rs) [.s m (l.flatMap enc)] [.slice oo n c]) (hy : l[i]? = some y) {B : Addr} (hx : a.eval x = .pointer (some B)) (hB : ∀ ad, oo = some ad → ad.add (i * 1) = B)
    (h : ∀ u, isV w (okL w0 A L Rs) (enc y) [u] → wpList P ops Q rest (a.put o.dst u) w) : wpList P ops Q (o :: rest) a w := by
  obtain ⟨ad, us, h1, h2, h3, h4⟩ := row_at hk (by decide) (isV_one hv) hy
  have e := hB ad h1
  rw [e] at h4
  have hl := isV_len _ _ h3
  rw [hk] at hl
  match us, hl with
  | [u], _ =>
    refine wl_val hgd ?_ (h u h3)
    have := h4 0 u rfl
    rw [Addr.add_zero'] at this
    unfold execOp
    simp [ho, hx, Instr.loadAt, Instr.sureAddr, run_load_c hT B u this]
theorem wl_aps {ops : Array Oper} {rest : List Oper} (hgd : o.guard = none) (s x : Operand) {T : TypeId} (ho : o.op = .call { callee := .builtin .append, args := #[s, x], argTypes := #[T, T] }) {e : TypeId} {k by_ : Nat} (hT : P.underlying T = some (.slice e)) (hi : (P.info? e).map (fun i => (i.zero.map (·.cells.size), i.size, i.bytes)) = some (some k, k, by_)) (hk : 0 < k) (hb : by_ ≤ 100000)
    {v : Value} {n m : Nat} {xs : List Value} {oo : Option Addr} {c : Nat} (hs : a.eval s = v) (hx : a.eval x = .slice oo m c) (H : Cx w0 A X L (⟨v, e, k, n, xs⟩ :: Rs) Ts w) {ds : List Dt} (hv : isV w (okL w0 A L (⟨v, e, k, n, xs⟩ :: Rs)) [.s m ds] [.slice oo m c]) (hd : ds.length = m * k) (hg : ds.all oneD = true) (hn : n + m ≤ 900000)
    (h : ∀ d cp us w', Cx w0 A X L (⟨.slice d (n + m) cp, e, k, n + m, xs ++ us⟩ :: Rs) ((ds, us) :: Ts) w' → wpList P ops Q rest (a.put o.dst (.slice d (n + m) cp)) w') : wpList P ops Q (o :: rest) a w := by
  obtain ⟨v', w', us, hr, hgr, ⟨d, cp, rfl⟩, hc⟩ := run_aps (ty := o.type) hT hi hk hb H (isV_one hv) hd (fun us hus => one_all _ _ hg hus) hn
  refine wl_val (w' := w') hgd ?_ (h d cp us w' hc)
  unfold execOp
  simp only [ho, resolve, invoke, builtin, Sem.run_bind, Sem.run_pure, Result.andThen_ok, List.map_toArray, List.map_cons, List.map_nil, hs, hx, hr]
/- What operation stands there, looked at first. -/
theorem at_store {ops : Array Oper} {rest : List Oper} (T : TypeId) {x y : Operand} (_ : o.op = .store T x y) (h : wpList P ops Q (o :: rest) a w) : wpList P ops Q (o :: rest) a w := h
theorem at_load {ops : Array Oper} {rest : List Oper} (T : TypeId) {x : Operand} (_ : o.op = .load T x) (h : wpList P ops Q (o :: rest) a w) : wpList P ops Q (o :: rest) a w := h
theorem at_alloc {ops : Array Oper} {rest : List Oper} (T : TypeId) (_ : o.op = .alloc T) (h : wpList P ops Q (o :: rest) a w) : wpList P ops Q (o :: rest) a w := h
theorem at_box {ops : Array Oper} {rest : List Oper} (T : TypeId) {x : Operand} (_ : o.op = .box T x) (h : wpList P ops Q (o :: rest) a w) : wpList P ops Q (o :: rest) a w := h
theorem at_bs {ops : Array Oper} {rest : List Oper} (T : TypeId) {n : Nat} {parts : Array (Nat × Operand)} (_ : o.op = .buildSlice T n parts) (h : wpList P ops Q (o :: rest) a w) : wpList P ops Q (o :: rest) a w := h
end
end Go.Proofs.Ytmoekalagollhaa.Tr
