/-
  A call's own memory: a row that a callee handed on; a row that is written in place.
-/
import Derived.Test.YtmoekalagollhaaCx5
namespace Go.Proofs.Ytmoekalagollhaa.Tr
open Go.RowKit Go.Proofs.Ytmoekalagollhaa.Tx
set_option linter.unusedVariables false
set_option linter.unusedSimpArgs false
section
variable {P : Program} {o : Oper} {a : Act} {w w0 : World} {K : Act → World → Prop} {Q : Exit → Act → World → Prop}
  {A : Nat → Prop} {X : Option Nat} {L L' : List Lc} {Rs : List Rw} {Ts : List (List Dt × List Value)}
theorem Cx.row_turn {v v' : Value} {e : TypeId} {k n n' : Nat} {xs xs' : List Value} {w' : World} (H : Cx w0 A X L (⟨v, e, k, n, xs⟩ :: Rs) Ts w) (h2 : w'.ownsRow w0.heap.size e k v' n' xs') (hg : w.grownBy w' v.ownBlock) (hl : v'.ownBlock = v.ownBlock ∨ v'.ownBlock = some w.heap.size) : Cx w0 A X L (⟨v', e, k, n', xs'⟩ :: Rs) Ts w' := by
  have hr0 := H.row _ (.head _)
  have hrr := List.pairwise_cons.1 H.rr
  refine ⟨grown_then H.grown hg (fun y e => .inr (hr0.lt y e).1), fun p hp => ?_, H.old, H.dis, fun r hr => ?_, fun r hr => ?_, ?_, fun p hp => isV.kept (Fr.grow hg (fun b hb hbl => ⟨hb.1, hb.2.1, fun r hr => ?_⟩) (fun b e hb => hb.2.2 _ (.head _) e)) _ _ (H.tr p hp), H.xx⟩
  · rw [hg.block p.b (H.lt hp) (fun e => H.rl _ (.head _) p hp e.symm)]
    exact H.loc p hp
  · rcases List.mem_cons.1 hr with rfl | hr
    · exact h2
    · refine (H.row r (.tail _ hr)).kept hg ?_
      rcases hrr.1 r hr with h | h
      · simp only at h
        cases hv : r.v.ownBlock with
        | none => exact .inl rfl
        | some y => exact .inr (by rw [h]; simp)
      · exact .inr (fun e => h e.symm)
  · rcases List.mem_cons.1 hr with rfl | hr
    · intro p hp e
      rcases hl with h | h
      · rw [h] at e; exact H.rl _ (.head _) p hp e
      · rw [h] at e
        have := H.lt hp
        simp at e
        omega
    · exact H.rl r (.tail _ hr)
  · refine List.pairwise_cons.2 ⟨fun r hr => ?_, hrr.2⟩
    rcases hl with h | h
    · simp only [h]
      exact hrr.1 r hr
    · right
      simp only [h]
      intro e
      have := ((H.row r (.tail _ hr)).lt _ e.symm).2
      omega
  · rcases List.mem_cons.1 hr with rfl | hr
    · intro e
      rcases hl with h | h
      · rw [h] at e; exact hb.2.2 _ (.head _) e
      · rw [h] at e
        simp at e
        omega
    · exact hb.2.2 r (.tail _ hr)
theorem take_put (l us : List Value) (off N : Nat) (h : off + us.length ≤ N) (hN : N ≤ l.length) : (l.take off ++ us ++ l.drop (off + us.length)).take N = (l.take N).take off ++ us ++ (l.take N).drop (off + us.length) := by
  have e1 : (l.take off ++ us).length = off + us.length := by simp; omega
  rw [List.take_append, e1, List.take_of_length_le (by omega), List.take_take, Nat.min_eq_left (by omega), List.drop_take]
/- Cells of the first row are written. -/
theorem run_rowset {g n cap : Nat} {e : TypeId} {k : Nat} {xs us : List Value} {off : Nat} {T : TypeId} {v : Value} (H : Cx w0 A X L (⟨.slice (some ⟨g, 0, none⟩) n cap, e, k, n, xs⟩ :: Rs) Ts w) (hv : v.cells = us.toArray) (hs : (P.info? T).map (·.size) = some us.length) (h1 : us.all (·.oneCell') = true) (hf : off + us.length ≤ xs.length) :
    ∃ w', (storeVar T ⟨g, off, none⟩ v).run P w = .ok () w' ∧ w.grownBy w' (some g) ∧ Cx w0 A X L (⟨.slice (some ⟨g, 0, none⟩) n cap, e, k, n, xs.take off ++ us ++ xs.drop (off + us.length)⟩ :: Rs) Ts w' := by
  have hr0 := H.row _ (.head _)
  obtain ⟨hn, ⟨hx, _⟩ | ⟨g', cap', cur, hv', hb, hh, hc1, hc2, hc3, hc4⟩⟩ := id hr0
  · cases hx
  injection hv' with h1' h2' h3'
  injection h1' with h1'
  injection h1' with h1'
  subst h1'
  subst h3'
  have hlen : n * k ≤ cur.size := by rw [hc3]; exact Nat.mul_le_mul_right k hc1
  simp only at hn hc4
  have hst := run_storeCells_at P g off e us 0 cur w hh (by omega) (fun v hv => List.all_eq_true.1 h1 v hv)
  simp only [Nat.add_zero] at hst
  have hg : w.grownBy (w.setRow g (cur.toList.take off ++ us ++ cur.toList.drop (off + us.length)).toArray) (some g) := ⟨rfl, rfl, rfl, by simp, fun k _ hk => setRow_other w g k _ (fun e => hk (by rw [e]))⟩
  refine ⟨_, by simp [storeVar, hv, run_size hs, hst], hg, ?_⟩
  refine H.row_turn ⟨?_, .inr ⟨g, cap, _, rfl, hb, setRow_heap w _ _ _ _ _ hh, hc1, hc2, ?_, ?_⟩⟩ hg (.inl rfl)
  · simp; omega
  · simp only at hc3
    simp
    omega
  · rw [← hc4]
    exact take_put _ _ _ _ (by omega) (by simpa using hlen)
theorem wl_rowset {ops : Array Oper} {rest : List Oper} (hgd : o.guard = none) (T : TypeId) (x y : Operand) (ho : o.op = .store T x y) {g n cap off : Nat} {e : TypeId} {k : Nat} {xs us : List Value} (hx : a.eval x = .pointer (some ⟨g, off, none⟩)) (hv : (a.eval y).cells = us.toArray) (hs : (P.info? T).map (·.size) = some us.length) (h1 : us.all (·.oneCell') = true) (H : Cx w0 A X L (⟨.slice (some ⟨g, 0, none⟩) n cap, e, k, n, xs⟩ :: Rs) Ts w) (hf : off + us.length ≤ xs.length)
    (h : ∀ w', Cx w0 A X L (⟨.slice (some ⟨g, 0, none⟩) n cap, e, k, n, xs.take off ++ us ++ xs.drop (off + us.length)⟩ :: Rs) Ts w' → wpList P ops Q rest (a.put o.dst undef) w') : wpList P ops Q (o :: rest) a w := by
  obtain ⟨w', hr, hg, hc⟩ := run_rowset (P := P) (T := T) H hv hs h1 hf
  refine wl_skip (w' := w') hgd ?_ (h _ hc)
  unfold execOp
  simp [ho, hx, Instr.storeAt, Instr.sureAddr, hr]
theorem op_rowset (T : TypeId) (x y : Operand) (ho : o.op = .store T x y) {g n cap off : Nat} {e : TypeId} {k : Nat} {xs us : List Value} (hx : a.eval x = .pointer (some ⟨g, off, none⟩)) (hv : (a.eval y).cells = us.toArray) (hs : (P.info? T).map (·.size) = some us.length) (h1 : us.all (·.oneCell') = true) (H : Cx w0 A X L (⟨.slice (some ⟨g, 0, none⟩) n cap, e, k, n, xs⟩ :: Rs) Ts w) (hf : off + us.length ≤ xs.length)
    (h : ∀ w', w.grownBy w' (some g) → Cx w0 A X L (⟨.slice (some ⟨g, 0, none⟩) n cap, e, k, n, xs.take off ++ us ++ xs.drop (off + us.length)⟩ :: Rs) Ts w' → K (a.put o.dst undef) w') : o.wp P a w K Q := by
  obtain ⟨w', hr, hg, hc⟩ := run_rowset (P := P) (T := T) H hv hs h1 hf
  unfold Oper.wp
  have : (execOp a.eval o).run P w = .ok .skip w' := by
    unfold execOp
    simp [ho, hx, Instr.storeAt, Instr.sureAddr, hr]
  rw [this]
  exact h _ hg hc
/- A row that a callee made and handed on. -/
def roV {α : Type} (enc : α → List Dt) (e : TypeId) (k : Nat) (w : World) (w' : World) (l : List α) (v : Value) : Prop := ∃ o cp xs, v = .slice o l.length cp ∧ w'.ownsRow w.heap.size e k (.slice o l.length cp) l.length xs ∧ isV w' (fun b => w.heap.size ≤ b ∧ (Value.slice o l.length cp).ownBlock ≠ some b) (l.flatMap enc) xs ∧ l.length ≤ 7000
theorem own_base {w : World} {B B' : Nat} {e : TypeId} {k : Nat} {v : Value} {n : Nat} {xs : List Value} (h : w.ownsRow B e k v n xs) (hb : B' ≤ B) : w.ownsRow B' e k v n xs := by
  obtain ⟨h1, h2⟩ := h
  refine ⟨h1, h2.imp id ?_⟩
  rintro ⟨g, cap, cur, e1, e2, e3⟩
  exact ⟨g, cap, cur, e1, Nat.le_trans hb e2, e3⟩
theorem Cx.rowX {x : Nat} {cs cs' : List Value} {t : TypeId} {w' : World} {G : Prop} {ds : List Dt} {e : TypeId} {k n : Nat} {v : Value} {xs : List Value} (H : Cx w0 A (some x) L Rs Ts w) (hg : w.grownBy w' (some x)) (hm : ⟨x, cs, t⟩ ∈ L) (hh : w'.heap[x]? = some (.cells cs'.toArray t (0, 0))) (hu : Upd x cs' L L') (hr : w'.ownsRow w.heap.size e k v n xs) (hv : isV w' (fun b => w.heap.size ≤ b ∧ v.ownBlock ≠ some b) ds xs) (h : Cx w0 A (some x) L' (⟨v, e, k, n, xs⟩ :: Rs) ((ds, xs) :: Ts) w' → G) : G := by
  have H' := H.callX hg hm hh hu
  have lt1 : ∀ p ∈ L', p.b < w.heap.size := mem_blocks (P := fun b => b < w.heap.size) hu.map (fun p hp => H.lt hp)
  have own : ∀ b, v.ownBlock = some b → w.heap.size ≤ b := fun b hb => (hr.lt b hb).1
  refine h ⟨H'.grown, H'.loc, H'.old, H'.dis, fun r hr' => ?_, fun r hr' => ?_, List.pairwise_cons.2 ⟨fun r hr' => ?_, H'.rr⟩, fun p hp => ?_, H'.xx⟩
  · rcases List.mem_cons.1 hr' with rfl | hr'
    · exact own_base hr H.grown.size
    · exact H'.row r hr'
  · rcases List.mem_cons.1 hr' with rfl | hr'
    · intro p hp e
      have := own _ e
      have := lt1 p hp
      omega
    · exact H'.rl r hr'
  · by_cases h0 : v.ownBlock = none
    · exact .inl h0
    · refine .inr (fun e => ?_)
      cases hb : v.ownBlock with
      | none => exact h0 hb
      | some b =>
        simp only at e
        rw [hb] at e
        have h1 := ((H.row r hr').lt b e.symm).2
        have := own b hb
        omega
  · rcases List.mem_cons.1 hp with rfl | hp
    · refine isV.kept (Fr.here (fun b hb _ => ⟨.inr (Nat.le_trans H.grown.size hb.1), fun p hp e => ?_, fun r hr' => ?_⟩)) _ _ hv
      · have := lt1 p hp
        have := hb.1
        omega
      · rcases List.mem_cons.1 hr' with rfl | hr'
        · exact hb.2
        · intro e
          have := ((H.row r hr').lt b e).2
          have := hb.1
          omega
    · refine isV.kept (Fr.grow hg (fun b hb hl => ⟨hb.1, mem_blocks (P := fun c => c ≠ b) hu.map hb.2.1, fun r hr' => ?_⟩) (fun c e hc => by cases e; exact hc.2.1 _ hm rfl)) _ _ (H.tr p hp)
      rcases List.mem_cons.1 hr' with rfl | hr'
      · intro e
        have := own b e
        omega
      · exact hb.2.2 r hr'
end
end Go.Proofs.Ytmoekalagollhaa.Tr
