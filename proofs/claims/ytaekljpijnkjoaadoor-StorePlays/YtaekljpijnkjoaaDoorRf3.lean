/-
  Rows of strings put together by append: the laws for the document's own Put and Delete.
-/
import Derived.Test.YtaekljpijnkjoaaDoorRf2
namespace Go.Proofs.YtaekljpijnkjoaaDoor.St
open Go.RowKit Go.Maps Go.Proofs.YtaekljpijnkjoaaDoor.Tx
set_option linter.unusedVariables false
set_option linter.unusedSimpArgs false
set_option maxRecDepth 100000

/- A slice of strings that is read, nil or not. -/
def Srs (w : World) (u : Value) (ys : List Value) : Prop :=
  (u = .slice none 0 0 ∧ ys = []) ∨ ∃ (g o c : Nat), u = .slice (some ⟨g, o, none⟩) ys.length c ∧ ∀ j y, ys[j]? = some y → w.cell? ⟨g, o + j, none⟩ = some y
theorem add_at (g o j : Nat) : (⟨g, o, none⟩ : Addr).add j = ⟨g, o + j, none⟩ := by unfold Addr.add; split <;> simp_all
theorem Srs.grown {w w' : World} {u : Value} {ys : List Value} (h : Srs w u ys) (hg : w.grownBy w' none) : Srs w' u ys := by
  rcases h with h | ⟨g, o, c, h1, h2⟩
  · exact .inl h
  · refine .inr ⟨g, o, c, h1, fun j y hy => ?_⟩
    have h3 := h2 j y hy
    have hlt := World.block_lt_of_cell? w _ h3
    rw [← h3]
    simp only [World.cell?, hg.block g hlt (by simp)]
/- 'append(v, u...)' where v is a row of one's own. -/
theorem wp_app {o : Oper} {a : Act} {w : World} {K : Act → World → Prop} {Q : Exit → Act → World → Prop} (s x : Operand) (ho : o.op = .call { callee := .builtin .append, args := #[s, x], argTypes := #[26, 26] })
    (M : Nat) (v : Value) (n : Nat) (xs : List Value) (hs : a.eval s = v) (hown : w.ownsRow M 9 1 v n xs) (u : Value) (ys : List Value) (hx : a.eval x = u) (hsrc : Srs w u ys) (h1 : ∀ y ∈ ys, y.oneCell' = true)
    (hle : n + ys.length ≤ 1000) (hM : M ≤ w.heap.size)
    (h0 : ∀ d c w', w'.ownsRow M 9 1 (.slice d (n + ys.length) c) (n + ys.length) (xs ++ ys) → w.grownBy w' v.ownBlock → K (a.put o.dst (.slice d (n + ys.length) c)) w') : o.wp Tryd.prog a w K Q := by
  have h : ∀ v' w', w'.ownsRow M 9 1 v' (n + ys.length) (xs ++ ys) → w.grownBy w' v.ownBlock → K (a.put o.dst v') w' := fun v' w' h2 h3 => by
    rcases h2.2 with ⟨hv, hz⟩ | ⟨g, cap, cur, hv, _⟩
    · have e : v' = .slice none (n + ys.length) 0 := by rw [hv, hz]
      rw [e] at h2 ⊢
      exact h0 _ _ _ h2 h3
    · rw [hv] at h2 ⊢
      exact h0 _ _ _ h2 h3
  obtain ⟨i0, hi, hz0, hz1, hz2⟩ := info_parts info_str
  rcases hsrc with ⟨rfl, rfl⟩ | ⟨g, off, c, rfl, hc⟩
  · have hrun := run_append_owned_none (P := Tryd.prog) (w := w) M 26 o.type 9 i0 1 Tryd.underlying26 hi v n xs hown
    unfold Oper.wp
    simp [execOp, ho, resolve, invoke, builtin, hs, hx, hrun, Result.andThen]
    have := h v w (by simpa using hown) ⟨rfl, rfl, rfl, Nat.le_refl _, fun _ _ _ => rfl⟩
    exact this
  · refine wp_append_own w s x 26 ho M 9 i0 (.string ⟨#[]⟩) 1 16 Tryd.underlying26 hi hz0 hz1 hz2 rfl (by decide) v n xs hs hown ⟨g, off, none⟩ ys.length c ys hx (by omega) (fun j y hy => by rw [add_at]; exact hc j y hy) h1 (by unfold maxLen; omega) (by omega) hM (fun v' w' h2 h3 _ => h v' w' h2 h3)
theorem nmV_one (l : List Pr) : ∀ y ∈ l.map nmV, y.oneCell' = true := by
  intro y hy
  obtain ⟨p, _, rfl⟩ := List.mem_map.1 hy
  rfl
theorem txV_one (l : List Pr) : ∀ y ∈ l.map txV, y.oneCell' = true := by
  intro y hy
  obtain ⟨p, _, rfl⟩ := List.mem_map.1 hy
  rfl
/- An empty row, just made; a row of one. -/
theorem empty_row (w : World) : (w.alloc (.cells #[] 9)).ownsRow w.heap.size 9 1 (.slice (some ⟨w.heap.size, 0, none⟩) 0 0) 0 [] :=
  ⟨rfl, .inr ⟨w.heap.size, 0, #[], rfl, Nat.le_refl _, heap_alloc_last _ _, Nat.le_refl _, by unfold maxLen; omega, rfl, rfl⟩⟩
theorem row_down {w : World} {M B n : Nat} {e : TypeId} {v : Value} {xs : List Value} (h : w.ownsRow M e 1 v n xs) (hB : B ≤ M) : w.ownsRow B e 1 v n xs := by
  refine ⟨h.1, ?_⟩
  rcases h.2 with h | ⟨g, cap, cur, hv, hb, r⟩
  · exact .inl h
  · exact .inr ⟨g, cap, cur, hv, Nat.le_trans hB hb, r⟩
theorem one_src {w : World} {k : Nat} {x : Value} {t : TypeId} (h : w.heap[k]? = some (.cells #[x] t (0, 0))) : Srs w (.slice (some ⟨k, 0, none⟩) 1 1) [x] := by
  refine .inr ⟨k, 0, 1, rfl, fun j y hy => ?_⟩
  rw [cell_of_row _ _ _ _ _ _ h]
  simpa using hy
/- Parts of a row. -/
theorem part_src {w : World} {B n g cap o m c : Nat} {e : TypeId} {xs ys : List Value} (h : w.ownsRow B e 1 (.slice (some ⟨g, 0, none⟩) n cap) n xs) (hm : ys.length = m) (hy : ∀ j y, ys[j]? = some y → xs[o + j]? = some y) : Srs w (.slice (some ⟨g, o, none⟩) m c) ys := by
  subst hm
  exact .inr ⟨g, o, c, rfl, fun j y hj => row_at h (hy j y hj)⟩
theorem void_src (w : World) (a : Addr) (c : Nat) : Srs w (.slice (some ⟨a.block, a.off, none⟩) 0 c) [] := .inr ⟨a.block, a.off, c, rfl, fun j y hj => by cases hj⟩
theorem slice_t : Tryd.prog.underlying 26 = some (.slice (Tryd.prog.elem 26)) := by kernel_rfl
theorem size_e (W : World) : (sizeOf (Tryd.prog.elem 26)).run Tryd.prog W = .ok 1 W := by
  rw [show Tryd.prog.elem 26 = 9 by kernel_rfl]
  exact Tryd.sizeOf9 W
theorem cut_h (W : World) (a : Option Addr) (n cap k : Nat) (h : k ≤ cap) : (Instr.slice 26 (.slice a n cap) none (some (.int .i64 k)) none).run Tryd.prog W = .ok (.slice a k cap) W := by
  rw [run_slice_h W 26 a n cap slice_t .i64 k (by omega) (by omega), size_e]
  simp only [Result.andThen, sliced, Int.toNat_natCast, Nat.sub_zero, Nat.zero_mul]
  congr 2
  cases a <;> simp [Addr.add_zero']
theorem cut_l (W : World) (g n cap k : Nat) (h : k ≤ n) (hn : n ≤ cap) : (Instr.slice 26 (.slice (some ⟨g, 0, none⟩) n cap) (some (.int .i64 k)) none none).run Tryd.prog W = .ok (.slice (some ⟨g, if cap = k then 0 else k, none⟩) (n - k) (cap - k)) W := by
  rw [run_slice_l W 26 (some ⟨g, 0, none⟩) n cap slice_t .i64 k (by omega) (by omega), size_e]
  simp only [Result.andThen, sliced, Int.toNat_natCast, Nat.mul_one]
  congr 2
  by_cases e : cap = k
  · simp [e]
  · simp [e, add_at]
theorem cut_nil (W : World) : (Instr.slice 26 (.slice none 0 0) (some (.int .i64 (0 : Nat))) none none).run Tryd.prog W = .ok (.slice none 0 0) W := by
  rw [run_slice_l W 26 none 0 0 slice_t .i64 (0 : Nat) (by omega) (by omega), size_e]
  simp [Result.andThen, sliced]
/- A row of strings cut ahead of a place, and behind one. -/
theorem cut_ahead {w : World} {B : Nat} {v : Value} {xs ys : List Value} (h : w.ownsRow B 9 1 v (xs.length + ys.length) (xs ++ ys)) :
    ∃ a, (∀ W : World, (Instr.slice 26 v none (some (.int .i64 xs.length)) none).run Tryd.prog W = .ok a W) ∧ Srs w a xs := by
  rcases h.2 with ⟨hv, h0⟩ | ⟨g, cap, cur, hv, hb, hg, h1, h2, h3, h4⟩
  · have hx : xs = [] := List.eq_nil_of_length_eq_zero (by omega)
    subst hx hv
    exact ⟨.slice none 0 0, fun W => cut_h W none 0 0 0 (Nat.le_refl _), .inl ⟨rfl, rfl⟩⟩
  · subst hv
    exact ⟨_, fun W => cut_h W _ _ _ _ (by omega), part_src (o := 0) h rfl (fun j y hj => by
      have := (List.getElem?_eq_some_iff.1 hj).1
      rw [Nat.zero_add, List.getElem?_append_left this]; exact hj)⟩
theorem cut_behind {w : World} {B : Nat} {v : Value} {xs ys : List Value} (h : w.ownsRow B 9 1 v (xs.length + ys.length) (xs ++ ys)) :
    ∃ c, (∀ W : World, (Instr.slice 26 v (some (.int .i64 xs.length)) none none).run Tryd.prog W = .ok c W) ∧ Srs w c ys := by
  rcases h.2 with ⟨hv, h0⟩ | ⟨g, cap, cur, hv, hb, hg, h1, h2, h3, h4⟩
  · have hx : xs = [] := List.eq_nil_of_length_eq_zero (by omega)
    have hy : ys = [] := List.eq_nil_of_length_eq_zero (by omega)
    subst hx hy hv
    exact ⟨.slice none 0 0, fun W => cut_nil W, .inl ⟨rfl, rfl⟩⟩
  · subst hv
    refine ⟨_, fun W => cut_l W g _ _ _ (by omega) h1, ?_⟩
    by_cases e : cap = xs.length
    · rw [if_pos e]
      have hy : ys = [] := List.eq_nil_of_length_eq_zero (by omega)
      subst hy
      exact part_src (o := 0) h (by simp) (fun j y hj => by cases hj)
    · rw [if_neg e]
      exact part_src (o := xs.length) h (by simp) (fun j y hj => by
        rw [List.getElem?_append_right (by omega), Nat.add_sub_cancel_left]; exact hj)
end Go.Proofs.YtaekljpijnkjoaaDoor.St
