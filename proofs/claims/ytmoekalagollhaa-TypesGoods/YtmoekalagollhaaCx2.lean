/-
  Operations on a call's own memory: variables made, boxed, read, written; slices made; rows that grow; calls.
-/
import Derived.Test.YtmoekalagollhaaCx1
import Derived.Great.BuildSlice
import Derived.OrdersHeld
namespace Go.Proofs.Ytmoekalagollhaa.Tr
open Go.RowKit Go.Proofs.Ytmoekalagollhaa.Tx
set_option linter.unusedVariables false
set_option linter.unusedSimpArgs false

/- Cells at a place of a list. -/
inductive GetS : Nat → List Value → List Value → Prop where
  | nil (cs : List Value) : GetS 0 [] cs
  | cons (u : Value) {us cs : List Value} : GetS 0 us cs → GetS 0 (u :: us) (u :: cs)
  | skip (v : Value) {n : Nat} {us cs : List Value} : GetS n us cs → GetS (n + 1) us (v :: cs)
inductive PutS : Nat → List Value → List Value → List Value → Prop where
  | nil (cs : List Value) : PutS 0 [] cs cs
  | cons (u v : Value) {us cs cs' : List Value} : PutS 0 us cs cs' → PutS 0 (u :: us) (v :: cs) (u :: cs')
  | skip (v : Value) {n : Nat} {us cs cs' : List Value} : PutS n us cs cs' → PutS (n + 1) us (v :: cs) (v :: cs')
theorem GetS.get {n : Nat} {us cs : List Value} (h : GetS n us cs) : ∀ j u, us[j]? = some u → cs[n + j]? = some u := by
  induction h with
  | nil cs => intro j u hu; simp at hu
  | cons v _ ih =>
    intro j u hu
    cases j with
    | zero => simpa using hu
    | succ j => have := ih j u (by simpa using hu); simpa using this
  | skip v _ ih =>
    intro j u hu
    have := ih j u hu
    rw [Nat.add_right_comm]
    simpa using this
theorem PutS.put {n : Nat} {us cs cs' : List Value} (h : PutS n us cs cs') : cs' = cs.take n ++ us ++ cs.drop (n + us.length) ∧ n + us.length ≤ cs.length := by
  induction h with
  | nil cs => simp
  | cons u v _ ih =>
    obtain ⟨h1, h2⟩ := ih
    constructor
    · simp at h1
      simp [← h1]
    · simp at h2 ⊢; omega
  | skip v _ ih =>
    obtain ⟨h1, h2⟩ := ih
    constructor
    · rw [h1, Nat.add_right_comm]; simp
    · simp; omega
structure TyS (P : Program) (T : TypeId) (k : Nat) : Prop where
  ag : ∀ w, (isAgg T).run P w = .ok true w
  sz : (P.info? T).map (·.size) = some k
structure TyC (P : Program) (T : TypeId) : Prop where
  ag : ∀ w, (isAgg T).run P w = .ok false w
  sz : (P.info? T).map (·.size) = some 1
section
variable {P : Program} {ops : Array Oper} {rest : List Oper} {o : Oper} {a : Act} {w w0 : World} {Q : Exit → Act → World → Prop}
  {A : Nat → Prop} {X : Option Nat} {L L' : List Lc} {Rs : List Rw} {Ts : List (List Dt × List Value)}
theorem wl_val {v : Value} {w' : World} (hgd : o.guard = none) (hr : (execOp a.eval o).run P w = .ok (.value v) w') (h : wpList P ops Q rest (a.put o.dst v) w') : wpList P ops Q (o :: rest) a w :=
  wpList_plain hgd fun K hK => by unfold Oper.wp; rw [hr]; exact hK _ _ h
theorem wl_skip {w' : World} (hgd : o.guard = none) (hr : (execOp a.eval o).run P w = .ok .skip w') (h : wpList P ops Q rest (a.put o.dst undef) w') : wpList P ops Q (o :: rest) a w :=
  wpList_plain hgd fun K hK => by unfold Oper.wp; rw [hr]; exact hK _ _ h
theorem run_size {T k : Nat} (h : (P.info? T).map (·.size) = some k) (w : World) : (sizeOf T).run P w = .ok k w := by
  cases hi : P.info? T with
  | none => simp [hi] at h
  | some i =>
    simp [hi] at h
    simp [sizeOf, typeInfo, hi, h]
structure NX (X : Option Nat) (b : Nat) : Prop where
  ne : some b ≠ X
theorem Cx.nx (H : Cx w0 A X L Rs Ts w) : NX X w.heap.size := ⟨fun e => by have := H.xx _ e.symm; have := H.grown.size; omega⟩
/- A variable of its own, at zero. -/
theorem wl_alloc (hgd : o.guard = none) (T : TypeId) (ho : o.op = .alloc T) (zs : List Value) (hz : (P.info? T).bind (fun i => i.zero.map (·.cells)) = some zs.toArray) (H : Cx w0 A X L Rs Ts w)
    (h : ∀ b w', NX X b → Cx w0 A X (⟨b, zs, T⟩ :: L) Rs Ts w' → wpList P ops Q rest (a.put o.dst (.pointer (some ⟨b, 0, none⟩))) w') : wpList P ops Q (o :: rest) a w := by
  cases hi : P.info? T with
  | none => simp [hi] at hz
  | some i =>
    cases hzz : i.zero with
    | none => simp [hi, hzz] at hz
    | some z =>
      simp [hi, hzz] at hz
      refine wl_val (w' := w.alloc (.cells zs.toArray T)) hgd ?_ (h w.heap.size _ H.nx (H.loc_new zs T))
      unfold execOp
      simp [ho, Instr.alloc, zeroValue, typeInfo, hi, hzz, newVar, newRow, hz]
theorem wl_box (hgd : o.guard = none) (T : TypeId) (x : Operand) (ho : o.op = .box T x) (cs : List Value) (hx : (a.eval x).cells = cs.toArray) (H : Cx w0 A X L Rs Ts w)
    (h : ∀ b w', NX X b → Cx w0 A X (⟨b, cs, T⟩ :: L) Rs Ts w' → wpList P ops Q rest (a.put o.dst (.pointer (some ⟨b, 0, none⟩))) w') : wpList P ops Q (o :: rest) a w := by
  refine wl_val (w' := w.alloc (.cells cs.toArray T)) hgd ?_ (h w.heap.size _ H.nx (H.loc_new cs T))
  unfold execOp
  simp [ho, Instr.box, newVar, newRow, hx]
theorem cells_at (H : Cx w0 A X L Rs Ts w) {b : Nat} {cs : List Value} {t : TypeId} (hm : ⟨b, cs, t⟩ ∈ L) {off : Nat} {us : List Value} (hg : GetS off us cs) : ∀ j u, us[j]? = some u → w.cell? ((⟨b, off, none⟩ : Addr).add j) = some u := fun j u hu => by
  have hadd : (⟨b, off, none⟩ : Addr).add j = ⟨b, off + j, none⟩ := by unfold Addr.add; split <;> simp_all
  rw [hadd, cell_of_row _ _ _ _ _ _ (H.loc _ hm)]
  simpa using hg.get j u hu
theorem run_load_s {T k : Nat} (hT : TyS P T k) (ad : Addr) (us : List Value) (hk : us.length = k) (hc : ∀ j u, us[j]? = some u → w.cell? (ad.add j) = some u) : (loadVar T ad).run P w = .ok (.agg us.toArray) w := by
  have := run_loadCells_list (P := P) w ad us hc
  rw [hk] at this
  simp [loadVar, hT.ag, run_size hT.sz, this]
theorem run_load_c {T : Nat} (hT : TyC P T) (ad : Addr) (u : Value) (hc : w.cell? ad = some u) : (loadVar T ad).run P w = .ok u w := by
  simp [loadVar, hT.ag, hc, go_sem]
theorem wl_load_s (hgd : o.guard = none) (T : TypeId) (x : Operand) (ho : o.op = .load T x) {k : Nat} (hT : TyS P T k) {b off : Nat} (hx : a.eval x = .pointer (some ⟨b, off, none⟩)) (H : Cx w0 A X L Rs Ts w) {cs : List Value} {t : TypeId} (hm : ⟨b, cs, t⟩ ∈ L) {us : List Value} (hg : GetS off us cs) (hk : us.length = k)
    (h : wpList P ops Q rest (a.put o.dst (.agg us.toArray)) w) : wpList P ops Q (o :: rest) a w := by
  refine wl_val hgd ?_ h
  unfold execOp
  simp [ho, hx, Instr.loadAt, Instr.sureAddr, run_load_s hT _ us hk (cells_at H hm hg)]
theorem wl_load_c (hgd : o.guard = none) (T : TypeId) (x : Operand) (ho : o.op = .load T x) (hT : TyC P T) {b off : Nat} (hx : a.eval x = .pointer (some ⟨b, off, none⟩)) (H : Cx w0 A X L Rs Ts w) {cs : List Value} {t : TypeId} (hm : ⟨b, cs, t⟩ ∈ L) {u : Value} (hg : GetS off [u] cs)
    (h : wpList P ops Q rest (a.put o.dst u) w) : wpList P ops Q (o :: rest) a w := by
  refine wl_val hgd ?_ h
  unfold execOp
  have := cells_at H hm hg 0 u rfl
  rw [Addr.add_zero'] at this
  simp [ho, hx, Instr.loadAt, Instr.sureAddr, run_load_c hT _ u this]
theorem run_store_at (H : Cx w0 A X L Rs Ts w) {b : Nat} {cs cs' : List Value} {t : TypeId} (hm : ⟨b, cs, t⟩ ∈ L) {T : TypeId} {off : Nat} {v : Value} {us : List Value} (hv : v.cells = us.toArray) (hs : (P.info? T).map (·.size) = some us.length) (hp : PutS off us cs cs') (h1 : us.all (·.oneCell') = true) :
    (storeVar T ⟨b, off, none⟩ v).run P w = .ok () (w.setRow b cs'.toArray) := by
  obtain ⟨h2, h3⟩ := hp.put
  have := run_storeCells_at P b off t us 0 cs.toArray w (H.loc _ hm) (by simpa using h3) (fun v hv => List.all_eq_true.1 h1 v hv)
  simp only [Nat.add_zero] at this
  rw [← h2] at this
  simp [storeVar, hv, run_size hs, this]
theorem wl_store (hgd : o.guard = none) (T : TypeId) (x y : Operand) (ho : o.op = .store T x y) {b off : Nat} (hx : a.eval x = .pointer (some ⟨b, off, none⟩)) {us : List Value} (hv : (a.eval y).cells = us.toArray) (hs : (P.info? T).map (·.size) = some us.length) (h1 : us.all (·.oneCell') = true) (H : Cx w0 A X L Rs Ts w) {cs cs' : List Value} {t : TypeId} (hm : ⟨b, cs, t⟩ ∈ L) (hp : PutS off us cs cs') (hu : Upd b cs' L L')
    (h : ∀ w', Cx w0 A X L' Rs Ts w' → wpList P ops Q rest (a.put o.dst undef) w') : wpList P ops Q (o :: rest) a w := by
  refine wl_skip (w' := w.setRow b cs'.toArray) hgd ?_ (h _ (H.loc_set hm hu))
  unfold execOp
  simp [ho, hx, Instr.storeAt, Instr.sureAddr, run_store_at H hm hv hs hp h1]
/- A slice literal becomes a tree. -/
def bsCells (P : Program) (T : TypeId) (n : Nat) (parts : List (Nat × Value)) : Option (TypeId × Array Value) := match P.underlying T with
  | some (.slice e) => match P.info? e with
    | some ie => match ie.zero with
      | some z => if n * ie.size > 2 ^ 24 then none else if n * ie.size = 0 then none else (Instr.fill (fun i => some (i * ie.size, ie.size)) ((Array.range (n * ie.size)).map (z.cells[· % z.cells.size]!)) parts).map fun c => (e, c)
      | none => none
    | none => none
  | _ => none
theorem run_bs {T n e : Nat} {parts : Array (Nat × Value)} {vs : List Value} (h : bsCells P T n parts.toList = some (e, vs.toArray)) (w : World) : (Instr.buildSlice T n parts).run P w = .ok (.slice (some ⟨w.heap.size, 0, none⟩) n n) (w.alloc (.cells vs.toArray e)) := by
  unfold bsCells at h
  split at h
  · rename_i e' hu
    split at h
    · rename_i ie hie
      split at h
      · rename_i z hz
        split at h
        · cases h
        · rename_i h1
          split at h
          · cases h
          · rename_i h2
            cases hf : Instr.fill (fun i => some (i * ie.size, ie.size)) ((Array.range (n * ie.size)).map (z.cells[· % z.cells.size]!)) parts.toList with
            | none => simp [hf] at h
            | some c =>
              simp [hf] at h
              obtain ⟨rfl, rfl⟩ := h
              exact run_buildSlice w T _ n parts _ ie z hu hie hz h1 h2 hf
      · cases h
    · cases h
  · cases h
theorem wl_bsT (hgd : o.guard = none) (T : TypeId) (n : Nat) (parts : Array (Nat × Operand)) (ho : o.op = .buildSlice T n parts) {e : TypeId} {vs : List Value} (hf : bsCells P T n (parts.map fun (i, x) => (i, a.eval x)).toList = some (e, vs.toArray)) (H : Cx w0 A X L Rs Ts w) {ds : List Dt} (hv : isV w (okL w0 A L Rs) ds vs)
    (h : ∀ b w', Cx w0 A X L Rs (([.s n ds], [.slice (some ⟨b, 0, none⟩) n n]) :: Ts) w' → wpList P ops Q rest (a.put o.dst (.slice (some ⟨b, 0, none⟩) n n)) w') : wpList P ops Q (o :: rest) a w := by
  refine wl_val (w' := w.alloc (.cells vs.toArray e)) hgd ?_ (h w.heap.size _ (H.tree_new e n hv))
  unfold execOp
  simp [ho, run_bs hf]
/- A call that turns nothing that was there; one that turns X alone. -/
theorem Cx.add (H : Cx w0 A X L Rs Ts w) {ds : List Dt} {vs : List Value} (hv : isV w (okL w0 A L Rs) ds vs) : Cx w0 A X L Rs ((ds, vs) :: Ts) w :=
  ⟨H.grown, H.loc, H.old, H.dis, H.row, H.rl, H.rr, fun p hp => by
    rcases List.mem_cons.1 hp with rfl | hp
    · exact hv
    · exact H.tr p hp, H.xx⟩
theorem Cx.okNew (H : Cx w0 A X L Rs Ts w) {b : Nat} (h : w.heap.size ≤ b) : okL w0 A L Rs b :=
  ⟨.inr (Nat.le_trans H.grown.size h), fun p hp e => by have := H.lt hp; omega, fun r hr e => by have := ((H.row r hr).lt _ e).2; omega⟩
theorem Cx.callX {x : Nat} {cs cs' : List Value} {t : TypeId} {w' : World} (H : Cx w0 A (some x) L Rs Ts w) (hg : w.grownBy w' (some x)) (hm : ⟨x, cs, t⟩ ∈ L) (hh : w'.heap[x]? = some (.cells cs'.toArray t (0, 0))) (hu : Upd x cs' L L') : Cx w0 A (some x) L' Rs Ts w' := by
  refine ⟨grown_then H.grown hg (fun y e => by cases e; exact .inl rfl), ?_, mem_blocks (P := fun b => w0.heap.size ≤ b ∨ some x = some b) hu.map H.old, dis_of hu.map H.dis, ?_, fun r hr => mem_blocks (P := fun b => r.v.ownBlock ≠ some b) hu.map (H.rl r hr), H.rr, ?_, H.xx⟩
  · intro p hp
    by_cases e : p.b = x
    · obtain ⟨cs1, t1, k1, k2⟩ := hu.new
      have e1 := uniq_of H.dis k1 hm rfl
      have e2 := uniq_of (dis_of hu.map H.dis) hp k2 e
      cases e1
      subst e2
      exact hh
    · rcases hu.mem p hp with ⟨h1, _⟩ | h
      · exact absurd h1 e
      · rw [hg.block p.b (H.lt h) (fun e2 => e (by simpa using e2))]
        exact H.loc p h
  · intro r hr
    exact (H.row r hr).kept hg (.inr (H.rl r hr _ hm))
  · intro p hp
    refine isV.kept (Fr.grow hg (fun c hc _ => ⟨hc.1, mem_blocks (P := fun b => b ≠ c) hu.map hc.2.1, hc.2.2⟩) (fun c e hc => ?_)) _ _ (H.tr p hp)
    cases e
    exact hc.2.1 _ hm rfl
theorem Cx.callX_k {x : Nat} {cs cs' : List Value} {t : TypeId} {w' : World} {G : Prop} (H : Cx w0 A (some x) L Rs Ts w) (hg : w.grownBy w' (some x)) (hm : ⟨x, cs, t⟩ ∈ L) (hh : w'.heap[x]? = some (.cells cs'.toArray t (0, 0))) (hu : Upd x cs' L L') (h : Cx w0 A (some x) L' Rs Ts w' → G) : G := h (H.callX hg hm hh hu)
/- Rows. -/
theorem Cx.row_nil (H : Cx w0 A X L Rs Ts w) (e : TypeId) (k : Nat) : Cx w0 A X L (⟨.slice none 0 0, e, k, 0, []⟩ :: Rs) Ts w :=
  ⟨H.grown, H.loc, H.old, H.dis, fun r hr => by
    rcases List.mem_cons.1 hr with rfl | hr
    · exact World.ownsRow_nil w _ e k
    · exact H.row r hr, fun r hr => by
    rcases List.mem_cons.1 hr with rfl | hr
    · intro p hp e; cases e
    · exact H.rl r hr, List.pairwise_cons.2 ⟨fun _ _ => .inl rfl, H.rr⟩, fun p hp => isV.kept (Fr.here (fun b hb _ => ⟨hb.1, hb.2.1, fun r hr => by
    rcases List.mem_cons.1 hr with rfl | hr
    · intro e; cases e
    · exact hb.2.2 r hr⟩)) _ _ (H.tr p hp), H.xx⟩
theorem Cx.row_new (H : Cx w0 A X L Rs Ts w) (e : TypeId) (k n : Nat) (vs : List Value) (hn : vs.length = n * k) (hx : n ≤ maxLen) : Cx w0 A X L (⟨.slice (some ⟨w.heap.size, 0, none⟩) n n, e, k, n, vs⟩ :: Rs) Ts (w.alloc (.cells vs.toArray e)) := by
  have hg : w.grownBy (w.alloc (.cells vs.toArray e)) none := World.grownBy_alloc w _ none
  have H' := H.g hg
  have hrl : ∀ r ∈ Rs, r.v.ownBlock ≠ some w.heap.size := fun r hr e => by have := ((H.row r hr).lt _ e).2; omega
  refine ⟨H'.grown, H'.loc, H'.old, H'.dis, fun r hr => ?_, fun r hr => ?_, List.pairwise_cons.2 ⟨fun r hr => .inr (hrl r hr).symm, H.rr⟩, fun p hp => isV.kept (Fr.grow hg (fun b hb hl => ⟨hb.1, hb.2.1, fun r hr => ?_⟩) (fun b h => by cases h)) _ _ (H.tr p hp), H.xx⟩
  · rcases List.mem_cons.1 hr with rfl | hr
    · exact ⟨hn, .inr ⟨w.heap.size, n, vs.toArray, rfl, H.grown.size, heap_alloc_new _ _, Nat.le_refl _, hx, by simpa using hn, by simp [← hn]⟩⟩
    · exact H'.row r hr
  · rcases List.mem_cons.1 hr with rfl | hr
    · intro p hp e
      have := H.lt hp
      simp [Value.ownBlock] at e
      omega
    · exact H.rl r hr
  · rcases List.mem_cons.1 hr with rfl | hr
    · intro e
      simp [Value.ownBlock] at e
      omega
    · exact hb.2.2 r hr
theorem wl_bsR (hgd : o.guard = none) (T : TypeId) (n : Nat) (parts : Array (Nat × Operand)) (ho : o.op = .buildSlice T n parts) {e : TypeId} {vs : List Value} (hf : bsCells P T n (parts.map fun (i, x) => (i, a.eval x)).toList = some (e, vs.toArray)) (H : Cx w0 A X L Rs Ts w) (k : Nat) (hn : vs.length = n * k) (hx : n ≤ 64)
    (h : ∀ b w', Cx w0 A X L (⟨.slice (some ⟨b, 0, none⟩) n n, e, k, n, vs⟩ :: Rs) Ts w' → wpList P ops Q rest (a.put o.dst (.slice (some ⟨b, 0, none⟩) n n)) w') : wpList P ops Q (o :: rest) a w := by
  refine wl_val (w' := w.alloc (.cells vs.toArray e)) hgd ?_ (h w.heap.size _ (H.row_new e k n vs hn (by unfold maxLen; omega)))
  unfold execOp
  simp [ho, run_bs hf]
/- The first row grows; it is told as a tree. -/
theorem Cx.row_app {v v' : Value} {e : TypeId} {k n m : Nat} {xs us : List Value} {w' : World} (H : Cx w0 A X L (⟨v, e, k, n, xs⟩ :: Rs) Ts w) (h2 : w'.ownsRow w0.heap.size e k v' (n + m) (xs ++ us)) (hg : w.grownBy w' v.ownBlock) (hl : v'.ownBlock = v.ownBlock ∨ v'.ownBlock = some w.heap.size) : Cx w0 A X L (⟨v', e, k, n + m, xs ++ us⟩ :: Rs) Ts w' := by
  have hr0 := H.row _ (.head _)
  have hrr := List.pairwise_cons.1 H.rr
  refine ⟨grown_then H.grown hg (fun y e => .inr (hr0.lt y e).1), fun p hp => ?_, H.old, H.dis, fun r hr => ?_, fun r hr => ?_, ?_, fun p hp => isV.kept (Fr.grow hg (fun b hb hbl => ⟨hb.1, hb.2.1, fun r hr => ?_⟩) (fun b e hb => hb.2.2 _ (.head _) e)) _ _ (H.tr p hp), H.xx⟩
  · rw [hg.block p.b (H.lt hp) (fun e => H.rl _ (.head _) p hp e.symm)]
    exact H.loc p hp
  · rcases List.mem_cons.1 hr with rfl | hr
    · exact h2
    · refine (H.row r (.tail _ hr)).kept hg ?_
      rcases hrr.1 r hr with h | h
      · simp only at h
        cases hv : r.v.ownBlock with
        | none => exact .inl rfl
        | some y => exact .inr (by rw [h]; simp)
      · exact .inr (fun e => h e.symm)
  · rcases List.mem_cons.1 hr with rfl | hr
    · intro p hp e
      rcases hl with h | h
      · rw [h] at e; exact H.rl _ (.head _) p hp e
      · rw [h] at e
        have := H.lt hp
        simp at e
        omega
    · exact H.rl r (.tail _ hr)
  · refine List.pairwise_cons.2 ⟨fun r hr => ?_, hrr.2⟩
    rcases hl with h | h
    · simp only [h]
      exact hrr.1 r hr
    · right
      simp only [h]
      intro e
      have := ((H.row r (.tail _ hr)).lt _ e.symm).2
      omega
  · rcases List.mem_cons.1 hr with rfl | hr
    · intro e
      rcases hl with h | h
      · rw [h] at e; exact hb.2.2 _ (.head _) e
      · rw [h] at e
        simp at e
        omega
    · exact hb.2.2 r (.tail _ hr)
theorem Cx.row_tree {v : Value} {e : TypeId} {k n : Nat} {xs : List Value} (H : Cx w0 A X L (⟨v, e, k, n, xs⟩ :: Rs) Ts w) {ds : List Dt} (hv : isV w (okL w0 A L (⟨v, e, k, n, xs⟩ :: Rs)) ds xs) : Cx w0 A X L Rs (([.s n ds], [v]) :: Ts) w := by
  have hr0 := H.row _ (.head _)
  have hrr := List.pairwise_cons.1 H.rr
  have hok : ∀ b, okL w0 A L (⟨v, e, k, n, xs⟩ :: Rs) b → okL w0 A L Rs b := fun b hb => ⟨hb.1, hb.2.1, fun r hr => hb.2.2 r (.tail _ hr)⟩
  refine ⟨H.grown, H.loc, H.old, H.dis, fun r hr => H.row r (.tail _ hr), fun r hr => H.rl r (.tail _ hr), hrr.2, fun p hp => ?_, H.xx⟩
  rcases List.mem_cons.1 hp with rfl | hp
  · simp only [isV]
    refine ⟨v, [], rfl, own_isC hr0 (fun g hg => ⟨.inr (hr0.lt g hg).1, fun p hp e => H.rl _ (.head _) p hp (by rw [hg, e]), fun r hr e => ?_⟩) (isV.kept (Fr.here (fun b hb _ => hok b hb)) _ _ hv), rfl⟩
    rcases hrr.1 r hr with h | h
    · simp only at h; rw [hg] at h; cases h
    · exact h (by simp only; rw [hg, e])
  · exact isV.kept (Fr.here (fun b hb _ => hok b hb)) _ _ (H.tr p hp)
/- 'append(v, one)' where one is a row of its own, made just now. -/
theorem wl_app (hgd : o.guard = none) (s x : Operand) {T : TypeId} (ho : o.op = .call { callee := .builtin .append, args := #[s, x], argTypes := #[T, T] }) {e : TypeId} {k by_ : Nat} (hT : P.underlying T = some (.slice e)) (hi : (P.info? e).map (fun i => (i.zero.map (·.cells.size), i.size, i.bytes)) = some (some k, k, by_)) (hk : 0 < k)
    {v : Value} {n m c : Nat} {xs us : List Value} {ad : Addr} (hs : a.eval s = v) (hx : a.eval x = .slice (some ad) m c) (H : Cx w0 A X L (⟨v, e, k, n, xs⟩ :: Rs) Ts w) (hl : us.length = m * k) (hc : ∀ j u, us[j]? = some u → w.cell? (ad.add j) = some u) (h1 : us.all (·.oneCell') = true) (hn : n + m ≤ 1000000) (hb : by_ ≤ 100000)
    (h : ∀ v' w', (∃ d cp, v' = .slice d (n + m) cp) → w.grownBy w' v.ownBlock → Cx w0 A X L (⟨v', e, k, n + m, xs ++ us⟩ :: Rs) Ts w' → wpList P ops Q rest (a.put o.dst v') w') : wpList P ops Q (o :: rest) a w := by
  cases hie : P.info? e with
  | none => simp [hie] at hi
  | some ie =>
    simp [hie] at hi
    obtain ⟨⟨z, hz, hzk⟩, hsz, hby⟩ := hi
    have hr0 := H.row _ (.head _)
    obtain ⟨v', w', hr, h2, h3, h4, h5⟩ := run_append_own_at (P := P) w w0.heap.size T o.type e ie z k by_ hT hie hz hsz hby hzk hk v n xs hr0 ad m c us hl hc (fun u hu => List.all_eq_true.1 h1 u hu) (by unfold maxLen; omega) (Nat.le_trans (Nat.mul_le_mul hn hb) (by decide)) H.grown.size
    refine wl_val (v := v') (w' := w') hgd ?_ (h v' w' ?_ h3 (H.row_app h2 h3 h5))
    · unfold execOp
      simp only [ho, resolve, invoke, builtin, Sem.run_bind, Sem.run_pure, Result.andThen_ok, List.map_toArray, List.map_cons, List.map_nil, hs, hx, hr]
    · rcases h2.2 with ⟨rfl, h0⟩ | ⟨g, cap, cur, rfl, _⟩
      · exact ⟨none, 0, by rw [h0]⟩
      · exact ⟨_, cap, rfl⟩
end
theorem GetS.all : ∀ (cs : List Value), GetS 0 cs cs
  | [] => .nil _
  | u :: cs => .cons u (GetS.all cs)
theorem PutS.all : ∀ (us cs : List Value), us.length = cs.length → PutS 0 us cs us
  | [], [], _ => .nil _
  | u :: us, v :: cs, h => .cons u v (PutS.all us cs (by simpa using h))
/- A struct that is told by its own cell. -/
theorem ret_cell {P : Program} {fn : Func} {R : Ending → World → Prop} {a : Act} {w w0 : World} {A : Nat → Prop} {X : Option Nat} {L : List Lc} {Rs : List Rw} {Ts : List (List Dt × List Value)} {p : Tmp} {ty : TypeId} (h : fn.results = #[.cell p ty]) {b : Nat} (hp : a.tmps.getD p undef = .pointer (some ⟨b, 0, none⟩)) (hd : a.defers = []) (H : Cx w0 A X L Rs Ts w) {cs : List Value} {t : TypeId} (hm : ⟨b, cs, t⟩ ∈ L) {k : Nat} (hT : TyS P ty k) (hk : cs.length = k) (hR : R (.returned (.agg cs.toArray)) w) : bodyPost P fn R .ret a w := by
  refine bodyPost_ret (v := .agg cs.toArray) ?_ hd hR
  have hl := run_load_s (P := P) (w := w) hT ⟨b, 0, none⟩ cs hk (cells_at H hm (GetS.all cs))
  have hp' : a.tmps[p]?.getD undef = .pointer (some ⟨b, 0, none⟩) := by simpa using hp
  simp [results, h, hp', asAddr, hl]
/- A region that draws its order, taken in the text's order: what only reads the call's own variables may be taken whenever. -/
section
variable {P : Program} {ops : Array Oper} {Q : Exit → Act → World → Prop} {md : Region.Mode} {S : World → Prop} {last : Nat}
def wpAnyL (P : Program) (md : Region.Mode) (ops : Array Oper) (Q : Exit → Act → World → Prop) (S : World → Prop) (last : Nat) : Nat → Array Bool → Act → World → Prop
  | 0, listed, a, w => Region.ready md ops listed = [] ∧ Q .normal a w
  | fuel + 1, listed, a, w =>
    (Region.ready md ops listed = [] → Q .normal a w) ∧
    ∀ i ∈ Region.ready md ops listed, wpOp P ops Q i (fun a' w' => (i = last ∨ S w') ∧ wpAnyL P md ops Q S last fuel (listed.setIfInBounds i true) a' w') a w
theorem wpAny_of_last : ∀ (fuel : Nat) (listed : Array Bool) (a : Act) (w : World), wpAnyL P md ops Q S last fuel listed a w → wpAny P md ops Q fuel listed a w
  | 0, _, _, _, h => h
  | fuel + 1, _, _, _, h => ⟨h.1, fun i hi => wpOp_mono (fun a' w' h' => wpAny_of_last fuel _ a' w' h'.2) (h.2 i hi)⟩
def waits (md : Region.Mode) (ops : Array Oper) (last i : Nat) : Bool := match ops[last]? with
  | some o => o.after.any fun e => Region.binds md e && (e.on == i)
  | none => true
theorem wpAnyL_first {i : Nat} {oi : Oper} {v : Value} (hi : ops[i]? = some oi) (hsel : ∀ (j : Nat) (o : Oper) cs b, ops[j]? = some o → o.op ≠ .select cs b)
    (hQ : ∀ c a w, Q (.panic c) (a.put oi.dst v) w → Q (.panic c) a w) (hwt : waits md ops last i = true) :
    ∀ (fuel : Nat) (listed : Array Bool) (a : Act) (w : World),
      (∀ j oj, ops[j]? = some oj → j ≠ i → listed.getD j true = false → (∀ e ∈ oj.after, Region.binds md e = true → e.on ≠ i) → oi.apart ops oj = true) →
      i ∈ Region.ready md ops listed → YieldsIf P ops S oi v a → S w →
      wpAnyL P md ops Q S last fuel (listed.setIfInBounds i true) (a.put oi.dst v) w → wpAnyL P md ops Q S last (fuel + 1) listed a w := by
  intro fuel
  induction fuel with
  | zero =>
    intro listed a w _ hr hy hS H
    refine ⟨fun h => (by rw [h] at hr; cases hr), fun j hj => ?_⟩
    by_cases hji : j = i
    · subst hji; exact hy.wpOp hi hS ⟨.inr hS, H⟩
    · have := ready_mono hj hji
      rw [H.1] at this
      cases this
  | succ fuel ih =>
    intro listed a w hfree hr hy hS H
    refine ⟨fun h => (by rw [h] at hr; cases hr), fun j hj => ?_⟩
    by_cases hji : j = i
    · subst hji; exact hy.wpOp hi hS ⟨.inr hS, H⟩
    · have h1 := H.2 j (ready_mono hj hji)
      obtain ⟨hjun, oj, hoj, hall⟩ := mem_ready.1 hj
      have hnot : ∀ e ∈ oj.after, Region.binds md e = true → e.on ≠ i := fun e he hb heq => by
        have h1 := hall e he hb
        have h0 := (mem_ready.1 hr).1
        rw [heq] at h1
        rcases Nat.lt_or_ge i listed.size with h' | h'
        · simp [h'] at h0 h1; rw [h0] at h1; cases h1
        · simp [Array.getElem?_eq_none h'] at h1
      have hjl : j ≠ last := fun e => by
        subst e
        unfold waits at hwt
        rw [hoj] at hwt
        obtain ⟨e, he, hb⟩ := Array.any_eq_true'.1 hwt
        simp only [Bool.and_eq_true, beq_iff_eq] at hb
        exact hnot e he hb.1 hb.2
      have h2 := wpOp_putIf hoj (hfree j oj hoj hji hjun hnot) (fun cs b => hsel i oi cs b hi) (fun cs b => hsel j oj cs b hoj) hQ hy h1
      have hfree' : ∀ k ok, ops[k]? = some ok → k ≠ i → (listed.setIfInBounds j true).getD k true = false →
          (∀ e ∈ ok.after, Region.binds md e = true → e.on ≠ i) → oi.apart ops ok = true := fun k ok hk hki hun hno => by
        refine hfree k ok hk hki ?_ hno
        by_cases hjk : j = k
        · subst hjk; exact hjun
        · rw [getD_set_ne true hjk] at hun; exact hun
      refine wpOp_mono (fun a' w' h3 => ?_) h2
      have hS' : S w' := h3.2.1.resolve_left hjl
      refine ⟨.inr hS', ih (listed.setIfInBounds j true) a' w' hfree' (ready_mono hr (Ne.symm hji)) h3.1 hS' ?_⟩
      rw [Array.setIfInBounds_comm _ _ hji]
      exact h3.2.2
theorem wpAnyL_done {listed : Array Bool} {a : Act} {w : World} (hr : Region.ready md ops listed = []) (h : Q .normal a w) :
    ∀ fuel, wpAnyL P md ops Q S last fuel listed a w
  | 0 => ⟨hr, h⟩
  | _ + 1 => ⟨fun _ => h, by rw [hr]; simp⟩
/- The plan: an order in which each operation is taken first (it only reads), or is the only one that may come up; checked by reckoning. -/
def plan (md : Region.Mode) (ops : Array Oper) (last : Nat) (rd : List Nat) : List Nat → Array Bool → Bool
  | [], listed => (Region.ready md ops listed).isEmpty
  | i :: l, listed => (if rd.contains i then Region.free md ops listed i && (Region.ready md ops listed).contains i && waits md ops last i else Region.ready md ops listed == [i] && (i != last || l.isEmpty)) && plan md ops last rd l (listed.setIfInBounds i true)
/- In that order: what reads tells its value in every world that is good; behind what acts the world is good again, but for the last. -/
def inO (P : Program) (ops : Array Oper) (Q : Exit → Act → World → Prop) (S : World → Prop) (last : Nat) (rd : List Nat) : List Nat → Act → World → Prop
  | [], a, w => Q .normal a w
  | i :: l, a, w => match ops[i]? with
    | none => False
    | some o => if rd.contains i then ∃ v, YieldsIf P ops S o v a ∧ inO P ops Q S last rd l (a.put o.dst v) w
      else ∀ K' : Act → World → Prop, (∀ a w, (i = last ∨ S w) → inO P ops Q S last rd l a w → K' a w) → if Region.wanted o (yielded ops a.tmps) = true then Oper.wp P o a w K' Q else K' (a.put o.dst undef) w
theorem inO_any (hs : Region.noSelect ops = true) {rd : List Nat} (hQ : ∀ c a d v w, Q (.panic c) (Act.put a d v) w → Q (.panic c) a w) : ∀ (l : List Nat) (listed : Array Bool) (a : Act) (w : World), plan md ops last rd l listed = true →
    (S w ∨ l = []) → inO P ops Q S last rd l a w → wpAnyL P md ops Q S last l.length listed a w
  | [], listed, a, w, hp, _, h => by
    simp only [inO] at h
    simp only [plan, List.isEmpty_iff] at hp
    exact wpAnyL_done hp h 0
  | i :: l, listed, a, w, hp, hS, h => by
    simp only [inO] at h
    simp only [plan, Bool.and_eq_true] at hp
    obtain ⟨hp1, hp2⟩ := hp
    have hSw : S w := hS.resolve_right (by simp)
    cases ho : ops[i]? with
    | none => rw [ho] at h; exact h.elim
    | some o =>
      rw [ho] at h
      simp only at h
      by_cases hc : rd.contains i = true
      · simp only [hc, if_true, Bool.and_eq_true] at h hp1
        obtain ⟨v, hy, h⟩ := h
        exact wpAnyL_first ho (Region.noSelect_spec hs) (fun c a w hq => hQ c a _ _ w hq) hp1.2 l.length listed a w (Region.free_spec ho hp1.1.1) (by simpa using hp1.1.2) hy hSw (inO_any hs hQ l _ _ w hp2 (.inl hSw) h)
      · simp only [hc, Bool.false_eq_true, if_false, Bool.and_eq_true, beq_iff_eq, Bool.or_eq_true, bne_iff_ne, List.isEmpty_iff] at h hp1
        obtain ⟨hp1, hp3⟩ := hp1
        refine ⟨fun h0 => (by rw [hp1] at h0; cases h0), fun j hj => ?_⟩
        rw [hp1] at hj
        simp at hj
        subst hj
        refine wpOp_step ho (fun K' hK => h K' (fun a' w' hS' hW => hK a' w' ⟨hS', ?_⟩))
        refine inO_any hs hQ l _ a' w' hp2 ?_ hW
        rcases hS' with e | e
        · exact .inr (hp3.resolve_left (fun h => h e))
        · exact .inl e
theorem wp_region_inO {id : Nat} {a : Act} {w : World} (S : World → Prop) (last : Nat) (rd ord : List Nat) (hm : P.follows .mixedOrders = true) (hs : Region.noSelect ops = true) (hl : ord.length = ops.size) (hp : plan .any ops last rd ord (Array.replicate ops.size false) = true)
    (hQ : ∀ c a d v w, Q (.panic c) (Act.put a d v) w → Q (.panic c) a w) (hS : S w.drew)
    (h : inO P ops Q S last rd ord a w.drew) : (Code.region id ops true).wp P Q a w := by
  have := inO_any (md := .any) hs hQ ord _ a w.drew hp (.inl hS) h
  rw [hl] at this
  exact wp_region_any hm (wpAny_of_last (S := S) (last := last) _ _ _ _ this)
end
end Go.Proofs.Ytmoekalagollhaa.Tr
