/-
  Package rider's writer in memory: put, spoil, Byte, Bytes; of nil, too.
-/
import Derived.Test.YtolfhkcfepkfdaaWr5
import Derived.Test.YtolfhkcfepkfdaaCp1
import Derived.Lib.ConvBytes
namespace Go.Proofs.Ytolfhkcfepkfdaa.Ri
open Go.RowKit Go.Proofs.Ytolfhkcfepkfdaa.Tx Go.Proofs.Ytolfhkcfepkfdaa.Bits
set_option linter.unusedVariables false
set_option linter.unusedSimpArgs false
set_option maxRecDepth 100000

/- Block q of W is a writer with the bytes xs; its row is new since there were B blocks. -/
structure Ww (W : World) (B q : Nat) (v : Value) (xs : List UInt8) (sp : Bool) : Prop where
  head : W.heap[q]? = some (.cells #[v, .bool sp] 58 (0, 0))
  row : W.ownsRow B 5 1 v xs.length (xs.map b8)
section
variable {W W1 : World} {B q : Nat} {v v1 : Value} {xs ys : List UInt8} {sp : Bool}
theorem Ww.c0 (r : Ww W B q v xs sp) : W.cell? ⟨q, 0, none⟩ = some v := by rw [cell_of_row _ _ _ _ _ _ r.head]; rfl
theorem Ww.c1 (r : Ww W B q v xs sp) : W.cell? ⟨q, 1, none⟩ = some (.bool sp) := by rw [cell_of_row _ _ _ _ _ _ r.head]; rfl
theorem Ww.lt (r : Ww W B q v xs sp) : q < W.heap.size := (Array.getElem?_eq_some_iff.1 r.head).1
theorem Ww.off (r : Ww W B q v xs sp) : v.ownBlock ≠ some q := fun e => by
  obtain ⟨c, h⟩ := row_type8 r.row e
  rw [r.head] at h
  cases h
theorem Ww.spoil (r : Ww W B q v xs sp) : Ww ((W.setCell ⟨q, 0, none⟩ (.slice none 0 0)).setCell ⟨q, 1, none⟩ (.bool true)) B q (.slice none 0 0) [] true :=
  ⟨two_set (two_set r.head 0 _) 1 _, ⟨rfl, .inl ⟨rfl, rfl⟩⟩⟩
theorem Ww.kept (r : Ww W B q v xs sp) (h : W.grownBy W1 none) : Ww W1 B q v xs sp := ⟨(h.block q r.lt (by simp)).trans r.head, r.row.kept h (none_or _)⟩
/- What another writer's call leaves. -/
theorem Wst.new_nil {q : Nat} : Wst W W q v v := Wst.refl _ _ _
theorem Ww.put (r : Ww W B q v xs sp) (ho : W1.ownsRow B 5 1 v1 ys.length (ys.map b8)) (hg : W.grownBy W1 v.ownBlock) (hv : ∀ k, v1.ownBlock = some k → v.ownBlock = some k ∨ W.heap.size ≤ k) :
    W1.heap[q]? = some (.cells #[v, .bool sp] 58 (0, 0)) ∧ Ww (W1.setCell ⟨q, 0, none⟩ v1) B q v1 ys sp ∧ Wst W (W1.setCell ⟨q, 0, none⟩ v1) q v v1 := by
  have hq := r.lt
  have st : Wst W W1 q v v1 := Wst.row hg hv
  have hh : W1.heap[q]? = some (.cells #[v, .bool sp] 58 (0, 0)) := (hg.block q hq (fun e => r.off e.symm)).trans r.head
  have hoff : v1.ownBlock ≠ some q := fun e => by
    rcases hv q e with h | h
    · exact r.off h
    · omega
  exact ⟨hh, ⟨two_set hh 0 _, ho.kept (set_g _ _ _ _) (.inr hoff)⟩, st.then (Wst.grown (set_g _ _ _ _))⟩
/- Bytes that lie at an address. -/
def At8 (w : World) (ad : Nat) (ys : List UInt8) : Prop := ∀ (j : Nat) (u : Value), (ys.map b8)[j]? = some u → w.cell? ((⟨ad, 0, none⟩ : Addr).add j) = some u
theorem at8_one (w : World) (c : UInt8) (e : TypeId) : At8 (w.alloc (.cells #[b8 c] e)) w.heap.size [c] := cell_one w (b8 c) e
end
/- 'append(v, ys...)' onto the row, told whether it moved. -/
theorem wp_appn8 {ops : Array Oper} {rest : List Oper} {o : Oper} {a : Act} {w : World} {Q : Exit → Act → World → Prop} (hgd : o.guard = none) (s x : Operand) (ho : o.op = .call { callee := .builtin .append, args := #[s, x], argTypes := #[26, 26] })
    (M : Nat) (v : Value) (xs ys : List UInt8) (hs : a.eval s = v) (hown : w.ownsRow M 5 1 v xs.length (xs.map b8)) (ad cp0 : Nat) (hx : a.eval x = .slice (some ⟨ad, 0, none⟩) ys.length cp0) (hc : At8 w ad ys)
    (hle : xs.length + ys.length ≤ 10000000) (hM : M ≤ w.heap.size)
    (h : ∀ d n cp w', w'.ownsRow M 5 1 (.slice d n cp) (xs ++ ys).length ((xs ++ ys).map b8) → w.grownBy w' v.ownBlock → (∀ k, (Value.slice d n cp).ownBlock = some k → v.ownBlock = some k ∨ w.heap.size ≤ k) → wpList Try.prog ops Q rest (a.put o.dst (.slice d n cp)) w') : wpList Try.prog ops Q (o :: rest) a w := by
  obtain ⟨i0, hi, hz0, hz1, hz2⟩ := info_parts info_u8
  refine wpList_plain hgd fun K hK => ?_
  obtain ⟨v', w', hr, h2, h3, h4, h5⟩ := run_append_own_at (P := Try.prog) w M 26 o.type 5 i0 (.int .u8 0) 1 1 Try.underlying26 hi hz0 hz1 hz2 rfl (by decide) v xs.length (xs.map b8) hown ⟨ad, 0, none⟩ ys.length cp0 (ys.map b8) (by simp) hc (by intro u hu; simp at hu; obtain ⟨c, _, rfl⟩ := hu; rfl) (by unfold maxLen; omega) (by omega) hM
  unfold Oper.wp execOp
  simp only [ho, resolve, invoke, builtin, Sem.run_bind, Sem.run_pure, Result.andThen_ok, List.map_toArray, List.map_cons, List.map_nil, hs, hx, hr]
  obtain ⟨d, cp, hv⟩ := own_shape h2
  subst hv
  exact hK _ _ (h d _ cp w' (by simpa using h2) h3 (new_of h5))
section
variable {W W1 : World} {B q : Nat} {v v1 : Value} {xs ys : List UInt8} {sp : Bool}
set_option maxHeartbeats 1000000 in
theorem put_at (r : Ww W B q v xs false) (hl : xs.length ≤ 131072) (hB : B ≤ W.heap.size) (ad cp0 : Nat) (ys : List UInt8) (hy : ys.length ≤ 1000) (hc : At8 W ad ys) :
    Calls Try.prog 39 #[.pointer (some ⟨q, 0, none⟩), .slice (some ⟨ad, 0, none⟩) ys.length cp0] W fun e W' => e = .returned (.tuple #[]) ∧ ∃ v', Ww W' B q v' (xs ++ ys) false ∧ Wst W W' q v v' := by
  have c0 := r.c0
  have c1 := r.c1
  have HR := hide r
  have HC := hide hc
  obtain ⟨d, c, hv⟩ := own_shape r.row
  have HV := hide hv
  rw [hv] at c0
  have j1 : ¬ (131072 : Int) < xs.length := by omega
  have HL := hide (show xs.length + ys.length ≤ 10000000 by omega)
  have hyl : (ys.length : Int) ≤ 1000 := by omega
  clear r hc hv hl hy
  go_enter Try.func39, Try.ntmps39
  go_wp2_with (at_builtin; refine wp_appn8 rfl _ _ rfl B (.slice d xs.length c) xs ys rfl (by rw [← HV.out]; exact HR.out.row) ad cp0 rfl HC.out HL.out hB ?_; intro d1 n1 p1 w1 h1 h2 h3; rw [← HV.out] at h2 h3; have HP := hide (HR.out.put h1 h2 h3); have hf1 := free_at (k := 0) HP.out.1; have hc1 := cell_head HP.out.1; clear h1 h2 h3)
  go_end0
  exact ⟨rfl, _, HP.out.2.1, HP.out.2.2⟩
theorem put_sp (r : Ww W B q v xs true) (s : Value) : Calls Try.prog 39 #[.pointer (some ⟨q, 0, none⟩), s] W fun e W' => e = .returned (.tuple #[]) ∧ W' = W := by
  have c0 := r.c0
  have c1 := r.c1
  clear r
  go_enter Try.func39, Try.ntmps39
  go_wp2
  ((try simp only [Exit.inBlock, Exit.then]); refine bodyPost_ret (results_none rfl _ _ _) rfl ?_)
  exact ⟨rfl, rfl⟩
theorem put_nil (W : World) (s : Value) : Calls Try.prog 39 #[.pointer none, s] W fun e W' => e = .returned (.tuple #[]) ∧ W' = W := by
  go_enter Try.func39, Try.ntmps39
  go_wp2
  ((try simp only [Exit.inBlock, Exit.then]); refine bodyPost_ret (results_none rfl _ _ _) rfl ?_)
  exact ⟨rfl, rfl⟩
theorem spoil_at (r : Ww W B q v xs sp) : Calls Try.prog 41 #[.pointer (some ⟨q, 0, none⟩)] W fun e W' => e = .returned (.tuple #[]) ∧ Ww W' B q (.slice none 0 0) [] true ∧ Wst W W' q v (.slice none 0 0) := by
  have c0 := r.c0
  have c1 := r.c1
  have HR := hide r
  have hf := fun k => free_at (k := k) r.head
  clear r
  go_enter Try.func41, Try.ntmps41
  go_wp2
  go_end0
  refine ⟨rfl, HR.out.spoil, ?_⟩
  have h := then_g (set_g W q 0 (.slice none 0 0)) (set_g _ q 1 (.bool true))
  exact ⟨h.os, h.tape, h.output, h.size, fun i hi hq _ => h.block i hi (fun e => hq (Option.some.inj e)), fun k hk => by simp [Value.ownBlock] at hk⟩
theorem spoil_nil (W : World) : Calls Try.prog 41 #[.pointer none] W fun e W' => e = .returned (.tuple #[]) ∧ W' = W := by
  go_enter Try.func41, Try.ntmps41
  go_wp2
  go_end0
  exact ⟨rfl, rfl⟩
theorem write_new (W : World) : Calls Try.prog 9 #[] W fun e W' => e = .returned (.pointer (some ⟨W.heap.size, 0, none⟩)) ∧ Ww W' W.heap.size W.heap.size (.slice none 0 0) [] false ∧ W.grownBy W' none := by
  go_enter Try.func9, Try.ntmps9
  go_wp2
  go_ret
  exact ⟨rfl, ⟨heap_alloc_new _ _, ⟨rfl, .inl ⟨rfl, rfl⟩⟩⟩, alloc_g _ _⟩
theorem pbytes_bad (r : Ww W B q v xs true) : Calls Try.prog 12 #[.pointer (some ⟨q, 0, none⟩)] W fun e W' => e = .returned (.tuple #[.string (bs []), .int .i64 1]) ∧ W' = W := by
  have c1 := r.c1
  have b0' : (⟨#[]⟩ : ByteArray) = bs [] := rfl
  clear r
  go_enter Try.func12, Try.ntmps12
  go_wp2
  go_ret2
  exact ⟨rfl, rfl⟩
theorem pbytes_nil (W : World) : Calls Try.prog 12 #[.pointer none] W fun e W' => e = .returned (.tuple #[.string (bs []), .int .i64 1]) ∧ W' = W := by
  have b0' : (⟨#[]⟩ : ByteArray) = bs [] := rfl
  go_enter Try.func12, Try.ntmps12
  go_wp2
  go_ret2
  exact ⟨rfl, rfl⟩
theorem pbytes_ok (r : Ww W B q v xs false) (h : xs.length ≤ 131072) : Calls Try.prog 12 #[.pointer (some ⟨q, 0, none⟩)] W fun e W' => e = .returned (.tuple #[.string (bs xs), .int .i64 0]) ∧ W' = W := by
  have c0 := r.c0
  have c1 := r.c1
  have hcv := conv_own r.row
  obtain ⟨a, c, hv⟩ := own_shape r.row
  rw [hv] at c0 hcv
  have j1 : ¬ (131072 : Int) < xs.length := by omega
  clear r
  go_enter Try.func12, Try.ntmps12
  go_wp2
  go_ret2
  exact ⟨rfl, rfl⟩
end
end Go.Proofs.Ytolfhkcfepkfdaa.Ri
