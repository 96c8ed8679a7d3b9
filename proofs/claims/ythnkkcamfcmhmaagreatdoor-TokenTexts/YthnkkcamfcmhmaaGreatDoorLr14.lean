/-
  Rows of bytes; tokens as a text, purely.
-/
import Derived.Test.YthnkkcamfcmhmaaGreatDoorLr13
import Derived.Lib.AppendStr
namespace Go.Proofs.YthnkkcamfcmhmaaGreatDoor.Lx
open Go.RowKit Go.Proofs.YthnkkcamfcmhmaaGreatDoor.Tx
set_option linter.unusedVariables false
set_option linter.unusedSimpArgs false
set_option maxRecDepth 100000

def b8 (c : UInt8) : Value := .int .u8 (c.toNat : Int)
theorem info_u8 : (Tryz.prog.info? 5).map (fun i => (i.zero, i.size, i.bytes)) = some (some (.int .u8 0), 1, 1) := by kernel_rfl
theorem own_shape1 {w : World} {B n : Nat} {e : TypeId} {v : Value} {xs : List Value} (h : w.ownsRow B e 1 v n xs) : ∃ a c, v = .slice a n c := by
  rcases h.2 with ⟨rfl, h0⟩ | ⟨g, cap, cur, rfl, _⟩
  · exact ⟨none, 0, by rw [h0]⟩
  · exact ⟨_, cap, rfl⟩
theorem cell_one (w : World) (v : Value) (e : TypeId) : ∀ (j : Nat) (u : Value), [v][j]? = some u → (w.alloc (.cells #[v] e)).cell? ((⟨w.heap.size, 0, none⟩ : Addr).add j) = some u := by
  intro j u hj
  match j, hj with
  | 0, hj => simp at hj; subst hj; simp [Addr.add]
/- 'append(v, c)'. -/
theorem wp_app8 {ops : Array Oper} {rest : List Oper} {o : Oper} {a : Act} {w : World} {Q : Exit → Act → World → Prop} (hgd : o.guard = none) (s x : Operand) (ho : o.op = .call { callee := .builtin .append, args := #[s, x], argTypes := #[38, 38] })
    (M : Nat) (v : Value) (xs : List UInt8) (hs : a.eval s = v) (hown : w.ownsRow M 5 1 v xs.length (xs.map b8)) (ad : Nat) (c : UInt8) (hx : a.eval x = .slice (some ⟨ad, 0, none⟩) 1 1) (hc : ∀ (j : Nat) (u : Value), [b8 c][j]? = some u → w.cell? ((⟨ad, 0, none⟩ : Addr).add j) = some u)
    (hle : xs.length ≤ 10000000) (hM : M ≤ w.heap.size)
    (h : ∀ d n cp w', w'.ownsRow M 5 1 (.slice d n cp) (xs ++ [c]).length ((xs ++ [c]).map b8) → w.grownBy w' v.ownBlock → wpList Tryz.prog ops Q rest (a.put o.dst (.slice d n cp)) w') : wpList Tryz.prog ops Q (o :: rest) a w := by
  obtain ⟨i0, hi, hz0, hz1, hz2⟩ := info_parts info_u8
  refine wpList_plain hgd fun K hK => ?_
  obtain ⟨v', w', hr, h2, h3, h4, h5⟩ := run_append_own_at (P := Tryz.prog) w M 38 o.type 5 i0 (.int .u8 0) 1 1 Tryz.underlying38 hi hz0 hz1 hz2 rfl (by decide) v xs.length (xs.map b8) hown ⟨ad, 0, none⟩ 1 1 [b8 c] rfl hc (by intro u hu; simp at hu; subst hu; rfl) (by unfold maxLen; omega) (by omega) hM
  unfold Oper.wp execOp
  simp only [ho, resolve, invoke, builtin, Sem.run_bind, Sem.run_pure, Result.andThen_ok, List.map_toArray, List.map_cons, List.map_nil, hs, hx, hr]
  obtain ⟨d, cp, hv⟩ := own_shape1 h2
  subst hv
  exact hK _ _ (h d _ cp w' (by simpa using h2) h3)
/- 'append(v, t...)', t a text. -/
theorem wp_apps8 {ops : Array Oper} {rest : List Oper} {o : Oper} {a : Act} {w : World} {Q : Exit → Act → World → Prop} (hgd : o.guard = none) (s x : Operand) (ho : o.op = .call { callee := .builtin .append, args := #[s, x], argTypes := #[38, 9] })
    (M : Nat) (v : Value) (xs t : List UInt8) (hs : a.eval s = v) (hown : w.ownsRow M 5 1 v xs.length (xs.map b8)) (hx : a.eval x = .string (bs t)) (hle : xs.length + t.length ≤ 100000000) (hM : M ≤ w.heap.size)
    (h : ∀ d n cp w', w'.ownsRow M 5 1 (.slice d n cp) (xs ++ t).length ((xs ++ t).map b8) → w.grownBy w' v.ownBlock → wpList Tryz.prog ops Q rest (a.put o.dst (.slice d n cp)) w') : wpList Tryz.prog ops Q (o :: rest) a w := by
  obtain ⟨i0, hi, hz0, hz1, hz2⟩ := info_parts info_u8
  have hsz := bs_size t
  have hcells : Lib.strCells (bs t) = t.map b8 := rfl
  refine wpList_plain hgd fun K hK => ?_
  obtain ⟨v', w', hr, h2, h3, _⟩ := Lib.run_append_own_string (P := Tryz.prog) w M 38 9 o.type 5 i0 Tryz.underlying38 Tryz.underlying9 hi hz0 hz1 hz2 v xs.length (xs.map b8) hown (bs t) (by unfold maxLen; omega) (by omega) hM
  rw [hcells, hsz] at h2
  have h2' : w'.ownsRow M 5 1 v' (xs ++ t).length ((xs ++ t).map b8) := by simpa using h2
  obtain ⟨d, cp, hv⟩ := own_shape1 h2'
  unfold Oper.wp execOp
  simp only [ho, resolve, invoke, builtin, Sem.run_bind, Sem.run_pure, Result.andThen_ok, List.map_toArray, List.map_cons, List.map_nil, hs, hx, hr]
  rw [hv] at h2' ⊢
  exact hK _ _ (h d _ cp w' h2' h3)
theorem conv_own {w : World} {B n : Nat} {v : Value} {l : List UInt8} (h : w.ownsRow B 5 1 v n (l.map b8)) : (convert 38 9 v).run Tryz.prog w = .ok (.string (bs l)) w := by
  have hl : l.length = n := by simpa using h.1
  subst hl
  rcases h.2 with ⟨rfl, h0⟩ | ⟨g, cap, cur, rfl, hb, hg, hc, hm, hs, ht⟩
  · have : l = [] := List.length_eq_zero_iff.1 h0
    subst this
    exact run_convert_bytes_nil (w := w) 38 5 Tryz.underlying38 Tryz.underlying5 _ _ 9 Tryz.underlying9
  · refine run_convert_bytes_back w 38 9 5 ⟨g, 0, none⟩ cap l Tryz.underlying38 Tryz.underlying5 Tryz.underlying9 fun j hj => ?_
    have e := congrArg (fun l => l[j]?) ht
    simp only [Nat.mul_one, List.getElem?_map, List.getElem?_eq_getElem hj, Option.map_some] at e
    rw [List.getElem?_take, if_pos hj, Array.getElem?_toList] at e
    have k : (⟨g, 0, none⟩ : Addr).add j = ⟨g, j, none⟩ := by unfold Addr.add; split <;> simp_all
    rw [k, cell_of_row _ _ _ _ _ _ hg]
    exact e
/- Tokens as they stand, a blank between two. -/
def joinT : List Tk → List UInt8
  | [] => []
  | t :: ts => oneS t ++ ts.flatMap (fun u => 32 :: oneS u)
theorem joinT_one (t : Tk) : joinT [t] = oneS t := by simp [joinT]
theorem joinT_snoc {ts : List Tk} (t : Tk) (h : ts ≠ []) : joinT (ts ++ [t]) = (joinT ts ++ [32]) ++ oneS t := by
  cases ts with
  | nil => exact absurd rfl h
  | cons u us => simp [joinT]
theorem keys_len : ∀ k ∈ keys, k.length ≤ 9 := by decide
theorem signs_len : ∀ k ∈ signs, k.length ≤ 2 := by decide
theorem has_mem {l : List (List UInt8)} {t : List UInt8} (h : hasT l t = true) : t ∈ l := by unfold hasT at h; simpa using h
theorem wordB_len {s : List UInt8} (h : wordB s = true) : s.length ≤ 24 := by
  rcases Nat.lt_or_ge 24 s.length with h' | h'
  · rw [wordB_long h'] at h; cases h
  · exact h'
theorem oneS_len {t : Tk} (h : goodT t = true) : (oneS t).length ≤ 66 := by
  obtain ⟨k, t, n, a⟩ := t
  unfold goodT at h
  unfold oneS
  dsimp only at h ⊢
  split at h
  · rename_i e; subst e
    rw [if_neg (by decide), if_neg (by decide), if_neg (by decide)]
    simp only [nameB, Bool.and_eq_true] at h
    have := wordB_len h.2.1; omega
  split at h
  · rename_i e; subst e
    rw [if_neg (by decide), if_neg (by decide), if_neg (by decide)]
    simp only [Bool.and_eq_true] at h
    have := keys_len _ (has_mem h.2); omega
  split at h
  · rename_i e; subst e
    rw [if_pos rfl]
    split
    · have := hexT_len (n + 4294967296).toNat true
      simp; omega
    · have := decN_len n.toNat
      omega
  split at h
  · rename_i e; subst e
    rw [if_neg (by decide), if_pos rfl]
    have := hexT_len n.toNat false
    simp; omega
  split at h
  · rename_i e; subst e
    rw [if_neg (by decide), if_neg (by decide), if_pos rfl]
    simp only [strB, Bool.and_eq_true, decide_eq_true_eq] at h
    have := h.2.1
    simp; omega
  split at h
  · rename_i e; subst e
    rw [if_neg (by decide), if_neg (by decide), if_neg (by decide)]
    simp only [Bool.and_eq_true] at h
    have := signs_len _ (has_mem h.2); omega
  · cases h
theorem flat_len : ∀ (ts : List Tk), (∀ t ∈ ts, goodT t = true) → (ts.flatMap (fun u => 32 :: oneS u)).length ≤ 67 * ts.length
  | [], _ => by simp
  | t :: ts, h => by
    have h1 := oneS_len (h t (by simp))
    have h2 := flat_len ts (fun u hu => h u (by simp [hu]))
    simp only [List.flatMap_cons, List.length_append, List.length_cons]
    omega
theorem joinT_len (ts : List Tk) (h : ∀ t ∈ ts, goodT t = true) : (joinT ts).length ≤ 67 * ts.length := by
  cases ts with
  | nil => simp [joinT]
  | cons t ts =>
    have h1 := oneS_len (h t (by simp))
    have h2 := flat_len ts (fun u hu => h u (by simp [hu]))
    simp only [joinT, List.length_append, List.length_cons]
    omega
/- What Text answers. -/
def textT (ts : List Tk) : List UInt8 × Int :=
  if 6000 < ts.length then ([], 3)
  else if ts.all goodT = true then (if 16384 < (joinT ts).length then ([], 2) else (joinT ts, 0))
  else ([], 1)
end Go.Proofs.YthnkkcamfcmhmaaGreatDoor.Lx
