/-
  A region that draws its order, step by step in the text's order.
-/
import Derived.Test.YtmoekalagollhaaCx2
namespace Go.Proofs.Ytmoekalagollhaa.Tr
open Go.RowKit Go.Proofs.Ytmoekalagollhaa.Tx
set_option linter.unusedVariables false
set_option linter.unusedSimpArgs false

theorem d1_g (w : World) : w.grownBy w.drew none := ⟨rfl, rfl, rfl, Nat.le_refl _, fun _ _ _ => rfl⟩
theorem gr_then {a b c : World} {X : Option Nat} (h : a.grownBy b X) (k : b.grownBy c X) : a.grownBy c X := grown_then h k (fun _ e => .inl e)
theorem gr_then0 {a b c : World} {X : Option Nat} (h : a.grownBy b X) (k : b.grownBy c none) : a.grownBy c X := grown_then h k (fun _ e => by cases e)
theorem gr_ref (w : World) (X : Option Nat) : w.grownBy w X := grown_refl w X
theorem gr_of {w0 w : World} {A : Nat → Prop} {X : Option Nat} {L : List Lc} {Rs : List Rw} {Ts : List (List Dt × List Value)} (H : Cx w0 A X L Rs Ts w) (Y : Option Nat) : w.grownBy w Y := grown_refl w Y
section
variable {P : Program} {ops : Array Oper} {Q : Exit → Act → World → Prop} {S : World → Prop} {last : Nat} {rd l : List Nat} {i : Nat} {a : Act} {w : World} {o : Oper} {v : Value}
theorem inO_read (ho : ops[i]? = some o) (hc : rd.contains i = true) (hy : YieldsIf P ops S o v a) (h : inO P ops Q S last rd l (a.put o.dst v) w) : inO P ops Q S last rd (i :: l) a w := by
  simp only [inO, ho, hc, if_true]
  exact ⟨v, hy, h⟩
theorem inO_act (ho : ops[i]? = some o) (hc : rd.contains i = false) (hw : Region.wanted o (yielded ops a.tmps) = true) (h : ∀ K' : Act → World → Prop, (∀ a w, (i = last ∨ S w) → inO P ops Q S last rd l a w → K' a w) → Oper.wp P o a w K' Q) : inO P ops Q S last rd (i :: l) a w := by
  simp only [inO, ho, hc, Bool.false_eq_true, if_false, hw, if_true]
  exact h
theorem inO_skip (ho : ops[i]? = some o) (hc : rd.contains i = false) (hw : Region.wanted o (yielded ops a.tmps) = false) (hS : i = last ∨ S w) (h : inO P ops Q S last rd l (a.put o.dst undef) w) : inO P ops Q S last rd (i :: l) a w := by
  simp only [inO, ho, hc, Bool.false_eq_true, if_false, hw]
  exact fun K' hK => hK _ _ hS h
theorem inO_end (h : Q .normal a w) : inO P ops Q S last rd [] a w := h
theorem gr_cells {w0 w W : World} {A : Nat → Prop} {X Y : Option Nat} {L : List Lc} {Rs : List Rw} {Ts : List (List Dt × List Value)} (H : Cx w0 A X L Rs Ts w) (hS : w.grownBy W Y) {b : Nat} (hn : NX Y b) {cs : List Value} {t : TypeId} (hm : ⟨b, cs, t⟩ ∈ L) {off : Nat} {us : List Value} (hg : GetS off us cs) : ∀ j u, us[j]? = some u → W.cell? ((⟨b, off, none⟩ : Addr).add j) = some u := fun j u hu => by
  have := cells_at H hm hg j u hu
  refine hS.cell this ?_
  have e : ((⟨b, off, none⟩ : Addr).add j).block = b := by unfold Addr.add; split <;> rfl
  rw [e]
  exact hn.ne
theorem yl_s {w0 w : World} {A : Nat → Prop} {X Y : Option Nat} {L : List Lc} {Rs : List Rw} {Ts : List (List Dt × List Value)} {T k : Nat} (hT : TyS P T k) {x : Operand} (ho : o.op = .load T x) {b off : Nat} (hx : a.eval x = .pointer (some ⟨b, off, none⟩)) (hw : Region.wanted o (yielded ops a.tmps) = true) (H : Cx w0 A X L Rs Ts w) (hn : NX Y b) {cs : List Value} {t : TypeId} (hm : ⟨b, cs, t⟩ ∈ L) {us : List Value} (hg : GetS off us cs) (hk : us.length = k) : YieldsIf P ops (fun W => w.grownBy W Y) o (.agg us.toArray) a := by
  refine .inl ⟨hw, fun W hS => ?_⟩
  unfold execOp
  simp [ho, hx, Instr.loadAt, Instr.sureAddr, run_load_s hT _ us hk (gr_cells H hS hn hm hg)]
theorem yl_c {w0 w : World} {A : Nat → Prop} {X Y : Option Nat} {L : List Lc} {Rs : List Rw} {Ts : List (List Dt × List Value)} {T : Nat} (hT : TyC P T) {x : Operand} (ho : o.op = .load T x) {b off : Nat} (hx : a.eval x = .pointer (some ⟨b, off, none⟩)) (hw : Region.wanted o (yielded ops a.tmps) = true) (H : Cx w0 A X L Rs Ts w) (hn : NX Y b) {cs : List Value} {t : TypeId} (hm : ⟨b, cs, t⟩ ∈ L) {u : Value} (hg : GetS off [u] cs) : YieldsIf P ops (fun W => w.grownBy W Y) o u a := by
  refine .inl ⟨hw, fun W hS => ?_⟩
  unfold execOp
  have := gr_cells H hS hn hm hg 0 u rfl
  rw [Addr.add_zero'] at this
  simp [ho, hx, Instr.loadAt, Instr.sureAddr, run_load_c hT _ u this]
theorem yl_if (hw : Region.wanted o (yielded ops a.tmps) = true) (h : ∀ W, S W → (execOp a.eval o).run P W = .ok (.value v) W) : YieldsIf P ops S o v a := .inl ⟨hw, h⟩
theorem nx0 (b : Nat) : NX none b := ⟨by simp⟩
theorem yl_run (hw : Region.wanted o (yielded ops a.tmps) = true) (h : ∀ W, (execOp a.eval o).run P W = .ok (.value v) W) : YieldsIf P ops S o v a := .inl ⟨hw, fun W _ => h W⟩
end
/- Actions at Oper.wp: what a list of operations has laws for, once more. -/
section
variable {P : Program} {o : Oper} {a : Act} {w w0 : World} {K : Act → World → Prop} {Q : Exit → Act → World → Prop}
  {A : Nat → Prop} {X : Option Nat} {L L' : List Lc} {Rs : List Rw} {Ts : List (List Dt × List Value)}
theorem op_val {v : Value} {w' : World} (hr : (execOp a.eval o).run P w = .ok (.value v) w') (h : K (a.put o.dst v) w') : o.wp P a w K Q := by unfold Oper.wp; rw [hr]; exact h
theorem op_skip {w' : World} (hr : (execOp a.eval o).run P w = .ok .skip w') (h : K (a.put o.dst undef) w') : o.wp P a w K Q := by unfold Oper.wp; rw [hr]; exact h
theorem op_enter {f : FuncId} {args : Array Value} (hr : (execOp a.eval o).run P w = .ok (.enter f args) w) (h : Calls P f args w fun
      | .returned v, w'' => K (a.put o.dst v) w''
      | .panicked chain, w'' => Q (.panic chain) a w''
      | .outgrown, _ => LetsOut Q) : o.wp P a w K Q := by unfold Oper.wp; rw [hr]; exact h
theorem op_alloc (T : TypeId) (ho : o.op = .alloc T) {zs : List Value} (hz : (P.info? T).bind (fun i => i.zero.map (·.cells)) = some zs.toArray) (H : Cx w0 A X L Rs Ts w)
    (h : ∀ b w', NX X b → w.grownBy w' none → Cx w0 A X (⟨b, zs, T⟩ :: L) Rs Ts w' → K (a.put o.dst (.pointer (some ⟨b, 0, none⟩))) w') : o.wp P a w K Q := by
  cases hi : P.info? T with
  | none => simp [hi] at hz
  | some i =>
    cases hzz : i.zero with
    | none => simp [hi, hzz] at hz
    | some z =>
      simp [hi, hzz] at hz
      refine op_val (w' := w.alloc (.cells zs.toArray T)) ?_ (h w.heap.size _ H.nx (World.grownBy_alloc w _ none) (H.loc_new zs T))
      unfold execOp
      simp [ho, Instr.alloc, zeroValue, typeInfo, hi, hzz, newVar, newRow, hz]
theorem op_store (T : TypeId) (x y : Operand) (ho : o.op = .store T x y) {b off : Nat} (hx : a.eval x = .pointer (some ⟨b, off, none⟩)) {us : List Value} (hv : (a.eval y).cells = us.toArray) (hs : (P.info? T).map (·.size) = some us.length) (h1 : us.all (·.oneCell') = true) (H : Cx w0 A X L Rs Ts w) {cs cs' : List Value} {t : TypeId} (hm : ⟨b, cs, t⟩ ∈ L) (hp : PutS off us cs cs') (hu : Upd b cs' L L')
    (h : ∀ w', Cx w0 A X L' Rs Ts w' → K (a.put o.dst undef) w') : o.wp P a w K Q := by
  refine op_skip (w' := w.setRow b cs'.toArray) ?_ (h _ (H.loc_set hm hu))
  unfold execOp
  simp [ho, hx, Instr.storeAt, Instr.sureAddr, run_store_at H hm hv hs hp h1]
theorem op_bsT (T : TypeId) (n : Nat) (parts : Array (Nat × Operand)) (ho : o.op = .buildSlice T n parts) {e : TypeId} {vs : List Value} (hf : bsCells P T n (parts.map fun (i, x) => (i, a.eval x)).toList = some (e, vs.toArray)) (H : Cx w0 A X L Rs Ts w) {ds : List Dt} (hv : isV w (okL w0 A L Rs) ds vs)
    (h : ∀ b w', w.grownBy w' none → Cx w0 A X L Rs (([.s n ds], [.slice (some ⟨b, 0, none⟩) n n]) :: Ts) w' → K (a.put o.dst (.slice (some ⟨b, 0, none⟩) n n)) w') : o.wp P a w K Q := by
  refine op_val (w' := w.alloc (.cells vs.toArray e)) ?_ (h w.heap.size _ (World.grownBy_alloc w _ none) (H.tree_new e n hv))
  unfold execOp
  simp [ho, run_bs hf]
theorem wl_cell {ops : Array Oper} {rest : List Oper} (hgd : o.guard = none) (T : TypeId) (x : Operand) (ho : o.op = .load T x) (hT : TyC P T) {ad : Addr} (hx : a.eval x = .pointer (some ad)) {u : Value} (hc : w.cell? ad = some u)
    (h : wpList P ops Q rest (a.put o.dst u) w) : wpList P ops Q (o :: rest) a w := by
  refine wl_val hgd ?_ h
  unfold execOp
  simp [ho, hx, Instr.loadAt, Instr.sureAddr, run_load_c hT _ u hc]
theorem yl_cell {ops : Array Oper} {S : World → Prop} {T : Nat} (hT : TyC P T) {x : Operand} (ho : o.op = .load T x) {ad : Addr} (hx : a.eval x = .pointer (some ad)) (hw : Region.wanted o (yielded ops a.tmps) = true) {u : Value} (hc : ∀ W, S W → W.cell? ad = some u) : YieldsIf P ops S o u a := by
  refine .inl ⟨hw, fun W hS => ?_⟩
  unfold execOp
  simp [ho, hx, Instr.loadAt, Instr.sureAddr, run_load_c hT _ u (hc W hS)]
theorem wl_bt {ops : Array Oper} {rest : List Oper} (hgd : o.guard = none) (T : TypeId) (n : Nat) (parts : Array (Nat × Operand)) (ho : o.op = .buildSlice T n parts) (e : TypeId) (H : Cx w0 A X L Rs Ts w) {ds : List Dt} {vs : List Value} (hv : isV w (okL w0 A L Rs) ds vs) (hf : bsCells P T n (parts.map fun (i, x) => (i, a.eval x)).toList = some (e, vs.toArray))
    (h : ∀ b w', Cx w0 A X L Rs (([.s n ds], [.slice (some ⟨b, 0, none⟩) n n]) :: Ts) w' → wpList P ops Q rest (a.put o.dst (.slice (some ⟨b, 0, none⟩) n n)) w') : wpList P ops Q (o :: rest) a w := wl_bsT hgd T n parts ho hf H hv h
theorem op_bt (T : TypeId) (n : Nat) (parts : Array (Nat × Operand)) (ho : o.op = .buildSlice T n parts) (e : TypeId) (H : Cx w0 A X L Rs Ts w) {ds : List Dt} {vs : List Value} (hv : isV w (okL w0 A L Rs) ds vs) (hf : bsCells P T n (parts.map fun (i, x) => (i, a.eval x)).toList = some (e, vs.toArray))
    (h : ∀ b w', w.grownBy w' none → Cx w0 A X L Rs (([.s n ds], [.slice (some ⟨b, 0, none⟩) n n]) :: Ts) w' → K (a.put o.dst (.slice (some ⟨b, 0, none⟩) n n)) w') : o.wp P a w K Q := op_bsT T n parts ho hf H hv h
theorem isV_one {w : World} {ok : Nat → Prop} {d : Dt} {v : Value} (h : isV w ok [d] [v]) : isC w ok d v := by
  simp only [isV] at h
  obtain ⟨v', vs', e, h1, _⟩ := h
  cases e
  exact h1
theorem isV_of {w : World} {ok : Nat → Prop} {d : Dt} {v : Value} (h : isC w ok d v) : isV w ok [d] [v] := by
  simp only [isV]
  exact ⟨v, [], rfl, h, rfl⟩
theorem isV_none {w : World} {ok : Nat → Prop} : isV w ok [] [] := by simp only [isV]
theorem Cx.tell (H : Cx w0 A X L Rs Ts w) {ds : List Dt} {vs : List Value} (h : (ds, vs) ∈ Ts) : isV w (fun b => A b ∨ w0.heap.size ≤ b) ds vs := isV.kept (Fr.here (fun b hb _ => hb.1)) _ _ (H.tr _ h)
theorem Cx.has (H : Cx w0 A X L Rs Ts w) {ds : List Dt} {vs : List Value} (h : (ds, vs) ∈ Ts) : isV w (okL w0 A L Rs) ds vs := H.tr _ h
theorem Cx.begin (w : World) (A : Nat → Prop) {ds : List Dt} {vs : List Value} (h : isV w A ds vs) : Cx w A none [] [] [(ds, vs)] w := (Cx.start w A).add (isV.kept (Fr.here (fun b hb _ => ⟨.inl hb, by simp, by simp⟩)) _ _ h)
theorem Cx.into (H : Cx w0 A X L Rs Ts w) (hL : ∀ p ∈ L, ¬ A p.b) (hR : Rs = []) {ds : List Dt} {vs : List Value} (h : isV w A ds vs) : Cx w0 A X L Rs ((ds, vs) :: Ts) w := H.add (isV.kept (Fr.here (fun b hb _ => ⟨.inl hb, fun p hp e => hL p hp (by rw [e]; exact hb), by simp [hR]⟩)) _ _ h)
/- What a callee told, in new memory or in what it was handed. -/
theorem Cx.told {w' : World} (H : Cx w0 A X L Rs Ts w') {B : Nat → Prop} (hB : ∀ b, B b → okL w0 A L Rs b) {ds : List Dt} {vs : List Value} (h : isV w' B ds vs) : Cx w0 A X L Rs ((ds, vs) :: Ts) w' := H.add (isV.kept (Fr.here (fun b hb _ => hB b hb)) _ _ h)
/- New memory is nobody's. -/
theorem Cx.newX {x : Nat} {cs cs' : List Value} {t : TypeId} {w' : World} {G : Prop} {ds : List Dt} {vs : List Value} (H : Cx w0 A (some x) L Rs Ts w) (hg : w.grownBy w' (some x)) (hm : ⟨x, cs, t⟩ ∈ L) (hh : w'.heap[x]? = some (.cells cs'.toArray t (0, 0))) (hu : Upd x cs' L L') (hv : isV w' (fun b => w.heap.size ≤ b) ds vs) (h : Cx w0 A (some x) L' Rs ((ds, vs) :: Ts) w' → G) : G :=
  h ((H.callX hg hm hh hu).add (isV.kept (Fr.here (fun b hb _ => ⟨.inr (Nat.le_trans H.grown.size hb), mem_blocks (P := fun c => c ≠ b) hu.map (fun p hp e => by have := H.lt hp; omega), fun r hr e => by have := ((H.row r hr).lt _ e).2; omega⟩)) _ _ hv))
theorem Cx.new0 {w' : World} {G : Prop} {ds : List Dt} {vs : List Value} (H : Cx w0 A X L Rs Ts w) (hg : w.grownBy w' none) (hv : isV w' (fun b => w.heap.size ≤ b) ds vs) (h : Cx w0 A X L Rs ((ds, vs) :: Ts) w' → G) : G :=
  h ((H.g hg).add (isV.kept (Fr.here (fun b hb _ => H.okNew hb)) _ _ hv))
theorem Cx.only (H : Cx w0 A X L Rs Ts w) {Ts' : List (List Dt × List Value)} (h : ∀ p ∈ Ts', p ∈ Ts) : Cx w0 A X L Rs Ts' w := ⟨H.grown, H.loc, H.old, H.dis, H.row, H.rl, H.rr, fun p hp => H.tr p (h p hp), H.xx⟩
theorem Cx.only1 (H : Cx w0 A X L Rs Ts w) {ds : List Dt} {vs : List Value} (h : (ds, vs) ∈ Ts) : Cx w0 A X L Rs [(ds, vs)] w := H.only (fun p hp => by rw [List.mem_singleton] at hp; subst hp; exact h)
/- What a callee made out of what it was handed. -/
theorem Cx.fromX {x : Nat} {cs cs' : List Value} {t : TypeId} {w' : World} {G : Prop} {ds : List Dt} {vs : List Value} (H : Cx w0 A (some x) L Rs Ts w) (hg : w.grownBy w' (some x)) (hm : ⟨x, cs, t⟩ ∈ L) (hh : w'.heap[x]? = some (.cells cs'.toArray t (0, 0))) (hu : Upd x cs' L L') (hv : isV w' (fun b => okL w0 A L Rs b ∨ w.heap.size ≤ b) ds vs) (h : Cx w0 A (some x) L' Rs ((ds, vs) :: Ts) w' → G) : G :=
  h ((H.callX hg hm hh hu).add (isV.kept (Fr.here (fun b hb _ => by
    rcases hb with hb | hb
    · exact ⟨hb.1, mem_blocks (P := fun c => c ≠ b) hu.map hb.2.1, hb.2.2⟩
    · exact ⟨.inr (Nat.le_trans H.grown.size hb), mem_blocks (P := fun c => c ≠ b) hu.map (fun p hp e => by have := H.lt hp; omega), fun r hr e => by have := ((H.row r hr).lt _ e).2; omega⟩)) _ _ hv))
theorem Cx.from0 {w' : World} {G : Prop} {ds : List Dt} {vs : List Value} (H : Cx w0 A X L Rs Ts w) (hg : w.grownBy w' none) (hv : isV w' (fun b => okL w0 A L Rs b ∨ w.heap.size ≤ b) ds vs) (h : Cx w0 A X L Rs ((ds, vs) :: Ts) w' → G) : G :=
  h ((H.g hg).add (isV.kept (Fr.here (fun b hb _ => hb.elim id H.okNew)) _ _ hv))
/- A variable that nobody asks for any more. -/
theorem Cx.drop {q : Lc} (H : Cx w0 A X (q :: L) Rs Ts w) : Cx w0 A X L Rs Ts w :=
  ⟨H.grown, fun p hp => H.loc p (.tail _ hp), fun p hp => H.old p (.tail _ hp), (List.pairwise_cons.1 H.dis).2, H.row, fun r hr p hp => H.rl r hr p (.tail _ hp), H.rr, fun p hp => isV.kept (Fr.here (fun b hb _ => ⟨hb.1, fun q' hq => hb.2.1 q' (.tail _ hq), hb.2.2⟩)) _ _ (H.tr p hp), H.xx⟩
/- A slice literal whose block is the call's own. -/
theorem wl_bl {ops : Array Oper} {rest : List Oper} (hgd : o.guard = none) (T : TypeId) (n : Nat) (parts : Array (Nat × Operand)) (ho : o.op = .buildSlice T n parts) (e : TypeId) (vs : List Value) (H : Cx w0 A X L Rs Ts w) (hf : bsCells P T n (parts.map fun (i, x) => (i, a.eval x)).toList = some (e, vs.toArray))
    (h : ∀ b w', NX X b → Cx w0 A X (⟨b, vs, e⟩ :: L) Rs Ts w' → wpList P ops Q rest (a.put o.dst (.slice (some ⟨b, 0, none⟩) n n)) w') : wpList P ops Q (o :: rest) a w := by
  refine wl_val (w' := w.alloc (.cells vs.toArray e)) hgd ?_ (h w.heap.size _ H.nx (H.loc_new vs e))
  unfold execOp
  simp [ho, run_bs hf]
theorem wl_br {ops : Array Oper} {rest : List Oper} (hgd : o.guard = none) (T : TypeId) (n : Nat) (parts : Array (Nat × Operand)) (ho : o.op = .buildSlice T n parts) (e : TypeId) (k : Nat) (vs : List Value) (H : Cx w0 A X L Rs Ts w) (hn : vs.length = n * k) (hx : n ≤ 64) (hf : bsCells P T n (parts.map fun (i, x) => (i, a.eval x)).toList = some (e, vs.toArray))
    (h : ∀ b w', Cx w0 A X L (⟨.slice (some ⟨b, 0, none⟩) n n, e, k, n, vs⟩ :: Rs) Ts w' → wpList P ops Q rest (a.put o.dst (.slice (some ⟨b, 0, none⟩) n n)) w') : wpList P ops Q (o :: rest) a w := wl_bsR hgd T n parts ho hf H k hn hx h
/- 'append' of what lies in such a block. -/
theorem wl_ap {ops : Array Oper} {rest : List Oper} (hgd : o.guard = none) (s x : Operand) {T : TypeId} (ho : o.op = .call { callee := .builtin .append, args := #[s, x], argTypes := #[T, T] }) {e : TypeId} {k by_ : Nat} (hT : P.underlying T = some (.slice e)) (hi : (P.info? e).map (fun i => (i.zero.map (·.cells.size), i.size, i.bytes)) = some (some k, k, by_)) (hk : 0 < k) (hb : by_ ≤ 100000)
    {v : Value} {n b : Nat} {xs us : List Value} {t : TypeId} (hs : a.eval s = v) (hx : a.eval x = .slice (some ⟨b, 0, none⟩) 1 1) (H : Cx w0 A X (⟨b, us, t⟩ :: L) (⟨v, e, k, n, xs⟩ :: Rs) Ts w) (hl : us.length = 1 * k) (h1 : us.all (·.oneCell') = true) (hn : n ≤ 900000)
    (h : ∀ d cp w', Cx w0 A X L (⟨.slice d (n + 1) cp, e, k, n + 1, xs ++ us⟩ :: Rs) Ts w' → wpList P ops Q rest (a.put o.dst (.slice d (n + 1) cp)) w') : wpList P ops Q (o :: rest) a w := by
  refine wl_app hgd s x ho hT hi hk hs hx H hl (cells_at H (.head _) (GetS.all us)) h1 (by omega) hb (fun v' w' hv _ hc => ?_)
  obtain ⟨d, cp, rfl⟩ := hv
  exact h d cp w' hc.drop
theorem wl_run {ops : Array Oper} {rest : List Oper} (hgd : o.guard = none) (T : TypeId) (x : Operand) (ho : o.op = .load T x) {ad : Addr} (hx : a.eval x = .pointer (some ad)) {v : Value} (hr : (loadVar T ad).run P w = .ok v w)
    (h : wpList P ops Q rest (a.put o.dst v) w) : wpList P ops Q (o :: rest) a w := by
  refine wl_val hgd ?_ h
  unfold execOp
  simp [ho, hx, Instr.loadAt, Instr.sureAddr, hr]
theorem yl_load {ops : Array Oper} {S : World → Prop} {T : Nat} {x : Operand} (ho : o.op = .load T x) {ad : Addr} (hx : a.eval x = .pointer (some ad)) (hw : Region.wanted o (yielded ops a.tmps) = true) {v : Value} (hr : ∀ W, S W → (loadVar T ad).run P W = .ok v W) : YieldsIf P ops S o v a := by
  refine .inl ⟨hw, fun W hS => ?_⟩
  unfold execOp
  simp [ho, hx, Instr.loadAt, Instr.sureAddr, hr W hS]
end
end Go.Proofs.Ytmoekalagollhaa.Tr
