/-
  The document's own writer (package spinetref08): Text of a text that is one.
-/
import Derived.Test.YtolfhkcfepkfdaaWr4
import Derived.Lib.AppendStr
namespace Go.Proofs.Ytolfhkcfepkfdaa.Ri
open Go.RowKit Go.Proofs.Ytolfhkcfepkfdaa.Tx Go.Proofs.Ytolfhkcfepkfdaa.Bits
set_option linter.unusedVariables false
set_option linter.unusedSimpArgs false
set_option maxRecDepth 100000

theorem ok_inj {a b : Value} {w w' : World} (h : Result.ok a w = Result.ok b w') : a = b ∧ w = w' := by
  injection h with h1 h2
  exact ⟨h1, h2⟩
/- 'append(v, t...)', t a text, told whether the row moved. -/
theorem run_apps (w : World) (M : Nat) (ty : TypeId) (v : Value) (xs t : List UInt8) (hown : w.ownsRow M 5 1 v xs.length (xs.map b8)) (hle : xs.length + t.length ≤ 100000000) (hM : M ≤ w.heap.size) :
    ∃ v' w', (Builtin.append_ #[26, 9] ty #[v, .string (bs t)]).run Try.prog w = .ok v' w' ∧ w'.ownsRow M 5 1 v' (xs ++ t).length ((xs ++ t).map b8) ∧ w.grownBy w' v.ownBlock ∧ ∀ k, v'.ownBlock = some k → v.ownBlock = some k ∨ w.heap.size ≤ k := by
  obtain ⟨i0, hi, hz0, hz1, hz2⟩ := info_parts info_u8
  have hsz := bs_size t
  have hcells : Lib.strCells (bs t) = t.map b8 := rfl
  have law := fun (base : Nat) (ho : w.ownsRow base 5 1 v xs.length (xs.map b8)) (hb : base ≤ w.heap.size) => Lib.run_append_own_string (P := Try.prog) w base 26 9 ty 5 i0 Try.underlying26 Try.underlying9 hi hz0 hz1 hz2 v xs.length (xs.map b8) ho (bs t) (by unfold maxLen; omega) (by omega) hb
  obtain ⟨v', w', hr, h2, h3, _⟩ := law M hown hM
  refine ⟨v', w', hr, by rw [hcells, hsz] at h2; simpa using h2, h3, fun k hk => ?_⟩
  rcases hown.2 with ⟨rfl, h0⟩ | ⟨g, cap, cur, rfl, hbg, hg, hnc, hcm, hcs, htake⟩
  · obtain ⟨v2, w2, hr2, h4, _⟩ := law w.heap.size ⟨hown.1, .inl ⟨rfl, h0⟩⟩ (Nat.le_refl _)
    obtain ⟨rfl, rfl⟩ := ok_inj (hr.symm.trans hr2)
    exact .inr (h4.lt k hk).1
  · by_cases hroom : xs.length + (bs t).size ≤ cap
    · have hr2 := Lib.run_append_room_string (P := Try.prog) w 26 9 ty 5 i0 Try.underlying26 Try.underlying9 hi hz1 g xs.length cap cur hg (bs t) hroom (by rw [hcs]; omega)
      obtain ⟨rfl, rfl⟩ := ok_inj (hr.symm.trans hr2)
      exact .inl hk
    · have hr2 := Lib.run_append_grow_string (P := Try.prog) w 26 9 ty 5 i0 (.int .u8 0) Try.underlying26 Try.underlying9 hi hz0 ⟨g, 0, none⟩ xs.length cap (xs.map b8) (by rw [hz1]; simp) (hown.cells (g := g) rfl) (bs t) (by omega) (by omega) (by rw [hz2]; exact growslice_fits (by omega) (by omega))
      obtain ⟨rfl, rfl⟩ := ok_inj (hr.symm.trans hr2)
      simp [Value.ownBlock] at hk
      exact .inr (by omega)
theorem wp_apps8 {ops : Array Oper} {rest : List Oper} {o : Oper} {a : Act} {w : World} {Q : Exit → Act → World → Prop} (hgd : o.guard = none) (s x : Operand) (ho : o.op = .call { callee := .builtin .append, args := #[s, x], argTypes := #[26, 9] })
    (M : Nat) (v : Value) (xs t : List UInt8) (hs : a.eval s = v) (hown : w.ownsRow M 5 1 v xs.length (xs.map b8)) (hx : a.eval x = .string (bs t)) (hle : xs.length + t.length ≤ 100000000) (hM : M ≤ w.heap.size)
    (h : ∀ d n cp w', w'.ownsRow M 5 1 (.slice d n cp) (xs ++ t).length ((xs ++ t).map b8) → w.grownBy w' v.ownBlock → (∀ k, (Value.slice d n cp).ownBlock = some k → v.ownBlock = some k ∨ w.heap.size ≤ k) → wpList Try.prog ops Q rest (a.put o.dst (.slice d n cp)) w') : wpList Try.prog ops Q (o :: rest) a w := by
  refine wpList_plain hgd fun K hK => ?_
  obtain ⟨v', w', hr, h2, h3, h4⟩ := run_apps w M o.type v xs t hown hle hM
  obtain ⟨d, cp, hv⟩ := own_shape h2
  unfold Oper.wp execOp
  simp only [ho, resolve, invoke, builtin, Sem.run_bind, Sem.run_pure, Result.andThen_ok, List.map_toArray, List.map_cons, List.map_nil, hs, hx, hr]
  rw [hv] at h2 h4 ⊢
  exact hK _ _ (h d _ cp w' h2 h3 h4)
theorem Wst.row {W W1 : World} {q : Nat} {v v1 : Value} (hg : W.grownBy W1 v.ownBlock) (hn : ∀ k, v1.ownBlock = some k → v.ownBlock = some k ∨ W.heap.size ≤ k) : Wst W W1 q v v1 :=
  ⟨hg.os, hg.tape, hg.output, hg.size, fun i hi _ hv => hg.block i hi (fun e => hv e.symm), hn⟩
theorem Wst.alloc (W : World) (o : Obj) (q : Nat) (v : Value) : Wst W (W.alloc o) q v v :=
  ⟨rfl, rfl, rfl, by simp, fun i hi _ _ => heap_alloc_old _ _ hi, fun _ h => .inl h⟩
theorem new_of {W : World} {v v' : Value} (h : v'.ownBlock = v.ownBlock ∨ v'.ownBlock = some W.heap.size) : ∀ k, v'.ownBlock = some k → v.ownBlock = some k ∨ W.heap.size ≤ k := fun k hk => by
  rcases h with h | h
  · exact .inl (h ▸ hk)
  · rw [h] at hk
    exact .inr (by have := Option.some.inj hk; omega)
/- The head stays while only rows are written. -/
theorem Wst.head {W W1 : World} {B q : Nat} {v v1 : Value} {xs : List UInt8} {sp : Bool} (r : Wb W B q v xs sp) {i : Nat} (hi : W.heap[q]? = W1.heap[q]?) : W1.heap[q]? = some (.cells #[v, .bool sp] 28 (0, 0)) := hi.symm.trans r.head
theorem Wb.put3 {W W1 W3 : World} {B q : Nat} {v v1 v3 : Value} {xs ys : List UInt8} {sp : Bool} {o : Obj} (r : Wb W B q v xs sp) (g1 : W.grownBy W1 v.ownBlock) (n1 : ∀ k, v1.ownBlock = some k → v.ownBlock = some k ∨ W.heap.size ≤ k)
    (g3 : (W1.alloc o).grownBy W3 v1.ownBlock) (n3 : v3.ownBlock = v1.ownBlock ∨ v3.ownBlock = some (W1.alloc o).heap.size) (ho : W3.ownsRow B 5 1 v3 ys.length (ys.map b8)) :
    W3.heap[q]? = some (.cells #[v, .bool sp] 28 (0, 0)) ∧ Wb (W3.setCell ⟨q, 0, none⟩ v3) B q v3 ys sp ∧ Wst W (W3.setCell ⟨q, 0, none⟩ v3) q v v3 := by
  have hq := r.lt
  have hs1 := g1.size
  have hq1 : v1.ownBlock ≠ some q := fun e => by
    rcases n1 q e with h | h
    · exact r.off h
    · omega
  have st : Wst W W3 q v v3 := ((Wst.row (q := q) g1 n1).then (Wst.alloc W1 o q v1)).then (Wst.row g3 (new_of n3))
  have hh : W3.heap[q]? = some (.cells #[v, .bool sp] 28 (0, 0)) := by
    rw [g3.block q (by simp; omega) (fun e => hq1 e.symm), heap_alloc_old _ _ (by omega), g1.block q hq (fun e => r.off e.symm)]
    exact r.head
  have hoff : v3.ownBlock ≠ some q := fun e => by
    rcases st.new q e with h | h
    · exact r.off h
    · omega
  exact ⟨hh, ⟨two_set hh 0 _, ho.kept (set_g _ _ _ _) (.inr hoff)⟩, st.then (Wst.grown (set_g _ _ _ _))⟩
theorem cell_head {W : World} {q : Nat} {a b : Value} {t : TypeId} (h : W.heap[q]? = some (.cells #[a, b] t (0, 0))) : W.cell? ⟨q, 0, none⟩ = some a := by rw [cell_of_row _ _ _ _ _ _ h]; rfl
set_option maxHeartbeats 4000000 in
theorem wtext_ok {W : World} {B q : Nat} {v : Value} {xs : List UInt8} {sp : Bool} (r : Wb W B q v xs sp) (hl : xs.length ≤ 9000000) (hB : B ≤ W.heap.size) (t : List UInt8) (h : t.length ≤ 64) (hz : ∀ c ∈ t, c ≠ 0) :
    Calls Try.prog 31 #[.pointer (some ⟨q, 0, none⟩), .string (bs t)] W fun e W' => e = .returned (.tuple #[]) ∧ ∃ v', Wb W' B q v' (xs ++ (t ++ [0])) sp ∧ Wst W W' q v v' := by
  have HR := hide r
  have c0 := r.c0
  have hsz := bs_size t
  have j1 : ¬ (64 : Int) < t.length := by omega
  have HZ := hide hz
  have HL := hide hl
  have HH := hide h
  have hBx := hB
  have HLt := hide (show (xs ++ t).length ≤ 10000000 by rw [List.length_append]; omega)
  clear r hz hl
  go_enter Try.func31, Try.ntmps31
  go_wp2
  go_loop [4] (fun iv => ∃ i : Nat, i ≤ t.length ∧ iv = .int .i64 i) (fun iv => t.length - (intOf iv).toNat)
  case atStart => exact ⟨0, by omega, rfl⟩
  case round =>
    obtain ⟨i, hi, rfl⟩ := hrel
    by_cases hlt : i < t.length
    · have j2 : (i : Int) < t.length := by omega
      have hb : ∀ h, (bs t)[i]'h = t[i] := fun h => rfl
      have hne : ((t[i].toNat : Int) == 0) = false := by
        have := HZ.out _ (List.getElem_mem hlt)
        have h2 : t[i].toNat ≠ 0 := fun e => this (UInt8.toNat_inj.1 e)
        simpa using h2
      go_wp2
      exact ⟨⟨i + 1, by omega, by go_num⟩, by simp [intOf]; omega⟩
    · have j2 : ¬ (i : Int) < t.length := by omega
      go_wp2_with (first
        | (at_builtin; refine wp_apps8 rfl _ _ rfl B v xs t rfl HR.out.row rfl (by have := HL.out; have := HH.out; omega) hBx ?_; intro d1 n1 p1 w1 h1 h2 h3; have O1 := hide h1; have G1 := hide h2; have N1 := hide h3; have hB1 : B ≤ w1.heap.size := Nat.le_trans hBx h2.size; clear h1 h2 h3)
        | (at_builtin; go_loud (refine wp_app8 rfl _ _ rfl B (.slice d1 n1 p1) (xs ++ t) rfl (O1.out.alloc _) w1.heap.size 0 rfl (cell_one _ _ _) HLt.out (Nat.le_trans hB1 (Wst.alloc w1 _ 0 v).size) ?_; intro g2 n2 p2 w2 h1 h2 h3; have HP := hide (HR.out.put3 G1.out N1.out h2 h3 h1); have hf2 := free_at (k := 0) HP.out.1; have hc2 := cell_head HP.out.1; clear h1 h2 h3)))
      go_end0
      exact ⟨rfl, _, by have := HP.out.2.1; rwa [List.append_assoc] at this, HP.out.2.2⟩
end Go.Proofs.Ytolfhkcfepkfdaa.Ri
