/-
  A call's own memory: two rows; a row and a tree that a callee handed on; an append within a region that draws.
-/
import Derived.Test.YtmoekalagollhaaCx7
namespace Go.Proofs.Ytmoekalagollhaa.Tr
open Go.RowKit Go.Proofs.Ytmoekalagollhaa.Tx
set_option linter.unusedVariables false
set_option linter.unusedSimpArgs false
section
variable {P : Program} {o : Oper} {a : Act} {w w0 : World} {K : Act → World → Prop} {Q : Exit → Act → World → Prop}
  {A : Nat → Prop} {X : Option Nat} {L L' : List Lc} {Rs : List Rw} {Ts : List (List Dt × List Value)}
theorem Cx.swap {r s : Rw} (H : Cx w0 A X L (r :: s :: Rs) Ts w) : Cx w0 A X L (s :: r :: Rs) Ts w := by
  have mm : ∀ t, t ∈ s :: r :: Rs → t ∈ r :: s :: Rs := fun t ht => by
    simp only [List.mem_cons] at ht ⊢
    rcases ht with h | h | h
    · exact .inr (.inl h)
    · exact .inl h
    · exact .inr (.inr h)
  have mm' : ∀ t, t ∈ r :: s :: Rs → t ∈ s :: r :: Rs := fun t ht => by
    simp only [List.mem_cons] at ht ⊢
    rcases ht with h | h | h
    · exact .inr (.inl h)
    · exact .inl h
    · exact .inr (.inr h)
  have h1 := List.pairwise_cons.1 H.rr
  have h2 := List.pairwise_cons.1 h1.2
  refine ⟨H.grown, H.loc, H.old, H.dis, fun t ht => H.row t (mm t ht), fun t ht => H.rl t (mm t ht), List.pairwise_cons.2 ⟨fun t ht => ?_, List.pairwise_cons.2 ⟨fun t ht => h1.1 t (.tail _ ht), h2.2⟩⟩, fun p hp => isV.kept (Fr.here (fun b hb _ => ⟨hb.1, hb.2.1, fun t ht => hb.2.2 t (mm t ht)⟩)) _ _ (H.tr p hp), H.xx⟩
  rcases List.mem_cons.1 ht with rfl | ht
  · rcases h1.1 s (.head _) with h | h
    · cases hs : s.v.ownBlock with
      | none => exact .inl rfl
      | some y => exact .inr (by rw [h]; simp)
    · exact .inr (Ne.symm h)
  · exact h2.1 t ht
theorem Cx.rowY {x : Nat} {cs cs' : List Value} {t : TypeId} {w' : World} {G : Prop} {ds : List Dt} {vs : List Value} {e : TypeId} {k n : Nat} {v : Value} {xs : List Value} (H : Cx w0 A (some x) L Rs Ts w) (hg : w.grownBy w' (some x)) (hm : ⟨x, cs, t⟩ ∈ L) (hh : w'.heap[x]? = some (.cells cs'.toArray t (0, 0))) (hu : Upd x cs' L L') (hr : w'.ownsRow w.heap.size e k v n xs) (hv : isV w' (fun b => w.heap.size ≤ b ∧ v.ownBlock ≠ some b) ds vs) (h : Cx w0 A (some x) L' (⟨v, e, k, n, xs⟩ :: Rs) ((ds, vs) :: Ts) w' → G) : G := by
  have H' := H.callX hg hm hh hu
  have lt1 : ∀ p ∈ L', p.b < w.heap.size := mem_blocks (P := fun b => b < w.heap.size) hu.map (fun p hp => H.lt hp)
  have own : ∀ b, v.ownBlock = some b → w.heap.size ≤ b := fun b hb => (hr.lt b hb).1
  refine h ⟨H'.grown, H'.loc, H'.old, H'.dis, fun r hr' => ?_, fun r hr' => ?_, List.pairwise_cons.2 ⟨fun r hr' => ?_, H'.rr⟩, fun p hp => ?_, H'.xx⟩
  · rcases List.mem_cons.1 hr' with rfl | hr'
    · exact own_base hr H.grown.size
    · exact H'.row r hr'
  · rcases List.mem_cons.1 hr' with rfl | hr'
    · intro p hp e
      have := own _ e
      have := lt1 p hp
      omega
    · exact H'.rl r hr'
  · by_cases h0 : v.ownBlock = none
    · exact .inl h0
    · refine .inr (fun e => ?_)
      cases hb : v.ownBlock with
      | none => exact h0 hb
      | some b =>
        simp only at e
        rw [hb] at e
        have h1 := ((H.row r hr').lt b e.symm).2
        have := own b hb
        omega
  · rcases List.mem_cons.1 hp with rfl | hp
    · refine isV.kept (Fr.here (fun b hb _ => ⟨.inr (Nat.le_trans H.grown.size hb.1), fun p hp e => ?_, fun r hr' => ?_⟩)) _ _ hv
      · have := lt1 p hp
        have := hb.1
        omega
      · rcases List.mem_cons.1 hr' with rfl | hr'
        · exact hb.2
        · intro e
          have := ((H.row r hr').lt b e).2
          have := hb.1
          omega
    · refine isV.kept (Fr.grow hg (fun b hb hl => ⟨hb.1, mem_blocks (P := fun c => c ≠ b) hu.map hb.2.1, fun r hr' => ?_⟩) (fun c e hc => by cases e; exact hc.2.1 _ hm rfl)) _ _ (H.tr p hp)
      rcases List.mem_cons.1 hr' with rfl | hr'
      · intro e
        have := own b e
        omega
      · exact hb.2.2 r hr'
theorem op_bl (T : TypeId) (n : Nat) (parts : Array (Nat × Operand)) (ho : o.op = .buildSlice T n parts) (e : TypeId) (vs : List Value) (H : Cx w0 A X L Rs Ts w) (hf : bsCells P T n (parts.map fun (i, x) => (i, a.eval x)).toList = some (e, vs.toArray))
    (h : ∀ b w', NX X b → w.grownBy w' none → Cx w0 A X (⟨b, vs, e⟩ :: L) Rs Ts w' → K (a.put o.dst (.slice (some ⟨b, 0, none⟩) n n)) w') : o.wp P a w K Q := by
  refine op_val (w' := w.alloc (.cells vs.toArray e)) ?_ (h w.heap.size _ H.nx (World.grownBy_alloc w _ none) (H.loc_new vs e))
  unfold execOp
  simp [ho, run_bs hf]
theorem op_ap (s x : Operand) {T : TypeId} (ho : o.op = .call { callee := .builtin .append, args := #[s, x], argTypes := #[T, T] }) {e : TypeId} {k by_ : Nat} (hT : P.underlying T = some (.slice e)) (hi : (P.info? e).map (fun i => (i.zero.map (·.cells.size), i.size, i.bytes)) = some (some k, k, by_)) (hk : 0 < k) (hb : by_ ≤ 100000)
    {v : Value} {n b : Nat} {xs us : List Value} {t : TypeId} (hs : a.eval s = v) (hx : a.eval x = .slice (some ⟨b, 0, none⟩) 1 1) (H : Cx w0 A X (⟨b, us, t⟩ :: L) (⟨v, e, k, n, xs⟩ :: Rs) Ts w) (hl : us.length = 1 * k) (h1 : us.all (·.oneCell') = true) (hn : n ≤ 900000)
    (h : ∀ d cp w', w.grownBy w' v.ownBlock → Cx w0 A X L (⟨.slice d (n + 1) cp, e, k, n + 1, xs ++ us⟩ :: Rs) Ts w' → K (a.put o.dst (.slice d (n + 1) cp)) w') : o.wp P a w K Q := by
  cases hie : P.info? e with
  | none => simp [hie] at hi
  | some ie =>
    simp [hie] at hi
    obtain ⟨⟨z, hz, hzk⟩, hsz, hby⟩ := hi
    have hr0 := H.row _ (.head _)
    obtain ⟨v', w', hr, h2, h3, h4, h5⟩ := run_append_own_at (P := P) w w0.heap.size T o.type e ie z k by_ hT hie hz hsz hby hzk hk v n xs hr0 ⟨b, 0, none⟩ 1 1 us hl (cells_at H (.head _) (GetS.all us)) (fun u hu => List.all_eq_true.1 h1 u hu) (by unfold maxLen; omega) (Nat.le_trans (Nat.mul_le_mul (show n + 1 ≤ 1000000 by omega) hb) (by decide)) H.grown.size
    have hsh : ∃ d cp, v' = .slice d (n + 1) cp := by
      rcases h2.2 with ⟨rfl, h0⟩ | ⟨g, cap, cur, rfl, _⟩
      · exact ⟨none, 0, by rw [h0]⟩
      · exact ⟨_, cap, rfl⟩
    obtain ⟨d, cp, rfl⟩ := hsh
    refine op_val (w' := w') ?_ (h d cp w' h3 (H.row_app h2 h3 h5).drop)
    unfold execOp
    simp only [ho, resolve, invoke, builtin, Sem.run_bind, Sem.run_pure, Result.andThen_ok, List.map_toArray, List.map_cons, List.map_nil, hs, hx, hr]
theorem isV_cons {w : World} {ok : Nat → Prop} {d : Dt} {ds : List Dt} {v : Value} {vs : List Value} (h : isV w ok (d :: ds) (v :: vs)) : isV w ok [d] [v] ∧ isV w ok ds vs := by
  simp only [isV] at h
  obtain ⟨_, _, e, h1, h2⟩ := h
  cases e
  exact ⟨isV_of h1, h2⟩
end
end Go.Proofs.Ytmoekalagollhaa.Tr
