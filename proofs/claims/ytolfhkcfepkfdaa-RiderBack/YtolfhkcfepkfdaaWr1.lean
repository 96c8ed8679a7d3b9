/-
  A writer in memory; the document's own (package spinetref08): Byte.
-/
import Derived.Test.YtolfhkcfepkfdaaRi1
import Derived.Maps.AppendAt
import Derived.Laws.AppendOwnNone
import Derived.Lib.AppendStr
namespace Go.Proofs.Ytolfhkcfepkfdaa.Ri
open Go.RowKit Go.Proofs.Ytolfhkcfepkfdaa.Tx
set_option linter.unusedVariables false
set_option linter.unusedSimpArgs false
set_option maxRecDepth 100000

def b8 (c : UInt8) : Value := .int .u8 (c.toNat : Int)
/- What a writer's call changes of what was there: its head, and its row; the row stays, or is new. -/
structure Wst (W W' : World) (q : Nat) (v v' : Value) : Prop where
  os : W'.os = W.os
  tape : W'.tape = W.tape
  output : W'.output = W.output
  size : W.heap.size ≤ W'.heap.size
  block : ∀ i, i < W.heap.size → i ≠ q → v.ownBlock ≠ some i → W'.heap[i]? = W.heap[i]?
  new : ∀ k, v'.ownBlock = some k → v.ownBlock = some k ∨ W.heap.size ≤ k
theorem Wst.refl (W : World) (q : Nat) (v : Value) : Wst W W q v v := ⟨rfl, rfl, rfl, Nat.le_refl _, fun _ _ _ _ => rfl, fun _ h => .inl h⟩
theorem Wst.then {W W1 W2 : World} {q : Nat} {v v1 v2 : Value} (a : Wst W W1 q v v1) (b : Wst W1 W2 q v1 v2) : Wst W W2 q v v2 :=
  ⟨b.os.trans a.os, b.tape.trans a.tape, b.output.trans a.output, Nat.le_trans a.size b.size,
   fun i hi hq hv => (b.block i (Nat.lt_of_lt_of_le hi a.size) hq (fun e => by rcases a.new i e with h | h; exact hv h; omega)).trans (a.block i hi hq hv),
   fun k hk => by
    rcases b.new k hk with h | h
    · exact a.new k h
    · exact .inr (Nat.le_trans a.size h)⟩
theorem Wst.grown {W W1 : World} {q : Nat} {v : Value} (h : W.grownBy W1 (some q)) : Wst W W1 q v v :=
  ⟨h.os, h.tape, h.output, h.size, fun i hi hq _ => h.block i hi (fun e => hq (Option.some.inj e)), fun _ h => .inl h⟩
/- Block q of W is the document's writer, with the bytes xs; its row is new since there were B blocks. -/
structure Wb (W : World) (B q : Nat) (v : Value) (xs : List UInt8) (sp : Bool) : Prop where
  head : W.heap[q]? = some (.cells #[v, .bool sp] 28 (0, 0))
  row : W.ownsRow B 5 1 v xs.length (xs.map b8)
theorem Wb.c0 {W : World} {B q : Nat} {v : Value} {xs : List UInt8} {sp : Bool} (r : Wb W B q v xs sp) : W.cell? ⟨q, 0, none⟩ = some v := by rw [cell_of_row _ _ _ _ _ _ r.head]; rfl
theorem Wb.c1 {W : World} {B q : Nat} {v : Value} {xs : List UInt8} {sp : Bool} (r : Wb W B q v xs sp) : W.cell? ⟨q, 1, none⟩ = some (.bool sp) := by rw [cell_of_row _ _ _ _ _ _ r.head]; rfl
theorem Wb.lt {W : World} {B q : Nat} {v : Value} {xs : List UInt8} {sp : Bool} (r : Wb W B q v xs sp) : q < W.heap.size := (Array.getElem?_eq_some_iff.1 r.head).1
theorem two_set {W : World} {q : Nat} {a b : Value} {t : TypeId} (h : W.heap[q]? = some (.cells #[a, b] t (0, 0))) (k : Nat) (v : Value) : (W.setCell ⟨q, k, none⟩ v).heap[q]? = some (.cells (#[a, b].setIfInBounds k v) t (0, 0)) := by
  have hlt := (Array.getElem?_eq_some_iff.1 h).1
  have h' : W.heap[q] = .cells #[a, b] t (0, 0) := by simpa [Array.getElem?_eq_getElem hlt] using h
  show (W.heap.modify q _)[q]? = _
  rw [Array.getElem?_eq_getElem (by simpa using hlt), Array.getElem_modify_self, h']
  rfl
theorem row_type8 {W : World} {B n : Nat} {v : Value} {xs : List Value} (h : W.ownsRow B 5 1 v n xs) {k : Nat} (hk : v.ownBlock = some k) : ∃ c, W.heap[k]? = some (.cells c 5 (0, 0)) := by
  rcases h.2 with ⟨rfl, _⟩ | ⟨g, cap, cur, rfl, _, hb, _⟩
  · simp [Value.ownBlock] at hk
  · simp [Value.ownBlock] at hk
    subst hk
    exact ⟨cur, hb⟩
theorem Wb.off {W : World} {B q : Nat} {v : Value} {xs : List UInt8} {sp : Bool} (r : Wb W B q v xs sp) : v.ownBlock ≠ some q := fun e => by
  obtain ⟨c, h⟩ := row_type8 r.row e
  rw [r.head] at h
  cases h
theorem none_or (v : Value) : v.ownBlock = none ∨ v.ownBlock ≠ none := by cases v.ownBlock <;> simp
theorem Wb.spoil {W : World} {B q : Nat} {v : Value} {xs : List UInt8} {sp : Bool} (r : Wb W B q v xs sp) : Wb (W.setCell ⟨q, 1, none⟩ (.bool true)) B q v xs true :=
  ⟨two_set r.head 1 _, r.row.kept (set_g _ _ _ _) (.inr r.off)⟩
theorem info_u8 : (Try.prog.info? 5).map (fun i => (i.zero, i.size, i.bytes)) = some (some (.int .u8 0), 1, 1) := by kernel_rfl
theorem cell_one (w : World) (v : Value) (e : TypeId) : ∀ (j : Nat) (u : Value), [v][j]? = some u → (w.alloc (.cells #[v] e)).cell? ((⟨w.heap.size, 0, none⟩ : Addr).add j) = some u := by
  intro j u hj
  match j, hj with
  | 0, hj => simp at hj; subst hj; simp [Addr.add]
/- 'append(v, c)' onto the row, told whether it moved. -/
theorem wp_app8 {ops : Array Oper} {rest : List Oper} {o : Oper} {a : Act} {w : World} {Q : Exit → Act → World → Prop} (hgd : o.guard = none) (s x : Operand) (ho : o.op = .call { callee := .builtin .append, args := #[s, x], argTypes := #[26, 26] })
    (M : Nat) (v : Value) (xs : List UInt8) (hs : a.eval s = v) (hown : w.ownsRow M 5 1 v xs.length (xs.map b8)) (ad : Nat) (c : UInt8) (hx : a.eval x = .slice (some ⟨ad, 0, none⟩) 1 1) (hc : ∀ (j : Nat) (u : Value), [b8 c][j]? = some u → w.cell? ((⟨ad, 0, none⟩ : Addr).add j) = some u)
    (hle : xs.length ≤ 10000000) (hM : M ≤ w.heap.size)
    (h : ∀ g n cp w', w'.ownsRow M 5 1 (.slice (some ⟨g, 0, none⟩) n cp) (xs ++ [c]).length ((xs ++ [c]).map b8) → w.grownBy w' v.ownBlock → ((Value.slice (some ⟨g, 0, none⟩) n cp).ownBlock = v.ownBlock ∨ (Value.slice (some ⟨g, 0, none⟩) n cp).ownBlock = some w.heap.size) → wpList Try.prog ops Q rest (a.put o.dst (.slice (some ⟨g, 0, none⟩) n cp)) w') : wpList Try.prog ops Q (o :: rest) a w := by
  obtain ⟨i0, hi, hz0, hz1, hz2⟩ := info_parts info_u8
  refine wpList_plain hgd fun K hK => ?_
  obtain ⟨v', w', hr, h2, h3, h4, h5⟩ := run_append_own_at (P := Try.prog) w M 26 o.type 5 i0 (.int .u8 0) 1 1 Try.underlying26 hi hz0 hz1 hz2 rfl (by decide) v xs.length (xs.map b8) hown ⟨ad, 0, none⟩ 1 1 [b8 c] rfl hc (by intro u hu; simp at hu; subst hu; rfl) (by unfold maxLen; omega) (by omega) hM
  unfold Oper.wp execOp
  simp only [ho, resolve, invoke, builtin, Sem.run_bind, Sem.run_pure, Result.andThen_ok, List.map_toArray, List.map_cons, List.map_nil, hs, hx, hr]
  rcases h2.2 with ⟨_, h0⟩ | ⟨g, cp, cur, hv, _⟩
  · omega
  · subst hv
    exact hK _ _ (h g _ cp w' (by simpa using h2) h3 h5)
end Go.Proofs.Ytolfhkcfepkfdaa.Ri
