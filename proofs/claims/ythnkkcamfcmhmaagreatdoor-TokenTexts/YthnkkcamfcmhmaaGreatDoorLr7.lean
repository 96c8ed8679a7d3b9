/-
  The document's own tokens (package spinetref09): Lex.
-/
import Derived.Test.YthnkkcamfcmhmaaGreatDoorLr6
import Derived.Test.YthnkkcamfcmhmaaGreatDoorLx2
import Derived.Maps.AppendAt
import Derived.Laws.AppendOwnNone
import Derived.OwnWalk
namespace Go.Proofs.YthnkkcamfcmhmaaGreatDoor.Lx
open Go.RowKit Go.Proofs.YthnkkcamfcmhmaaGreatDoor.Tx
set_option linter.unusedVariables false
set_option linter.unusedSimpArgs false
set_option maxRecDepth 100000

/- A token's four cells. -/
def tkC (t : Tk) : List Value := [.int .i64 t.k, .string (bs t.t), .int .i64 t.n, .int .i64 t.a]
def tkL (ts : List Tk) : List Value := ts.flatMap tkC
theorem tkL_len (ts : List Tk) : (tkL ts).length = ts.length * 4 := by
  induction ts with
  | nil => rfl
  | cons t ts ih => simp only [tkL, List.flatMap_cons, List.length_append, List.length_cons] at ih ⊢; rw [ih]; simp [tkC]; omega
theorem tkL_snoc (ts : List Tk) (t : Tk) : tkL (ts ++ [t]) = tkL ts ++ tkC t := by simp [tkL]
theorem info_tok : (Tryz.prog.info? 32).map (fun i => (i.zero, i.size, i.bytes)) = some (some (.agg #[.int .i64 0, .string ⟨#[]⟩, .int .i64 0, .int .i64 0]), 4, 40) := by kernel_rfl
theorem own_shape4 {w : World} {B n : Nat} {e : TypeId} {v : Value} {xs : List Value} (h : w.ownsRow B e 4 v n xs) : ∃ a c, v = .slice a n c := by
  rcases h.2 with ⟨rfl, h0⟩ | ⟨g, cap, cur, rfl, _⟩
  · exact ⟨none, 0, by rw [h0]⟩
  · exact ⟨_, cap, rfl⟩
theorem cell_four (w : World) (t : Tk) : ∀ (j : Nat) (u : Value), (tkC t)[j]? = some u → (w.alloc (.cells #[.int .i64 t.k, .string (bs t.t), .int .i64 t.n, .int .i64 t.a] 32)).cell? ((⟨w.heap.size, 0, none⟩ : Addr).add j) = some u := by
  intro j u hj
  have k : (⟨w.heap.size, 0, none⟩ : Addr).add j = ⟨w.heap.size, j, none⟩ := by unfold Addr.add; split <;> simp_all
  rw [k, cell_of_row _ _ _ _ _ _ (heap_alloc_new _ _)]
  match j, hj with
  | 0, hj => simpa [tkC] using hj
  | 1, hj => simpa [tkC] using hj
  | 2, hj => simpa [tkC] using hj
  | 3, hj => simpa [tkC] using hj
  | j + 4, hj => simp [tkC] at hj
/- 'append(l, t)'. -/
theorem wp_appT {ops : Array Oper} {rest : List Oper} {o : Oper} {a : Act} {w : World} {Q : Exit → Act → World → Prop} (hgd : o.guard = none) (s x : Operand) (ho : o.op = .call { callee := .builtin .append, args := #[s, x], argTypes := #[22, 22] })
    (M : Nat) (v : Value) (ts : List Tk) (hs : a.eval s = v) (hown : w.ownsRow M 32 4 v ts.length (tkL ts)) (ad : Nat) (t : Tk) (hx : a.eval x = .slice (some ⟨ad, 0, none⟩) 1 1) (hc : ∀ (j : Nat) (u : Value), (tkC t)[j]? = some u → w.cell? ((⟨ad, 0, none⟩ : Addr).add j) = some u)
    (hle : ts.length ≤ 100000) (hM : M ≤ w.heap.size)
    (h : ∀ d n cp w', w'.ownsRow M 32 4 (.slice d n cp) (ts ++ [t]).length (tkL (ts ++ [t])) → n = (ts ++ [t]).length → w.grownBy w' v.ownBlock → wpList Tryz.prog ops Q rest (a.put o.dst (.slice d n cp)) w') : wpList Tryz.prog ops Q (o :: rest) a w := by
  obtain ⟨i0, hi, hz0, hz1, hz2⟩ := info_parts info_tok
  refine wpList_plain hgd fun K hK => ?_
  obtain ⟨v', w', hr, h2, h3, h4, h5⟩ := run_append_own_at (P := Tryz.prog) w M 22 o.type 32 i0 _ 4 40 Tryz.underlying22 hi hz0 hz1 hz2 rfl (by decide) v ts.length (tkL ts) hown ⟨ad, 0, none⟩ 1 1 (tkC t) rfl hc (by intro u hu; simp [tkC] at hu; rcases hu with rfl | rfl | rfl | rfl <;> rfl) (by unfold maxLen; omega) (by omega) hM
  unfold Oper.wp execOp
  simp only [ho, resolve, invoke, builtin, Sem.run_bind, Sem.run_pure, Result.andThen_ok, List.map_toArray, List.map_cons, List.map_nil, hs, hx, hr]
  obtain ⟨d, cp, hv⟩ := own_shape4 h2
  subst hv
  exact hK _ _ (h d _ cp w' (by rw [tkL_snoc, List.length_append]; exact h2) (by simp) h3)
theorem none_or (v : Value) : v.ownBlock = none ∨ v.ownBlock ≠ none := by cases v.ownBlock <;> simp
/- The token's own block, and the one of the slice behind it. -/
theorem cell_fourS (w : World) (t : Tk) : ∀ (j : Nat) (u : Value), (tkC t)[j]? = some u → ((w.alloc (.cells #[.int .i64 t.k, .string (bs t.t), .int .i64 t.n, .int .i64 t.a] 32)).alloc (.cells #[.int .i64 t.k, .string (bs t.t), .int .i64 t.n, .int .i64 t.a] 32)).cell? ((⟨w.heap.size + 1, 0, none⟩ : Addr).add j) = some u := by
  have := cell_four (w.alloc (.cells #[.int .i64 t.k, .string (bs t.t), .int .i64 t.n, .int .i64 t.a] 32)) t
  rwa [show (w.alloc (.cells #[.int .i64 t.k, .string (bs t.t), .int .i64 t.n, .int .i64 t.a] 32)).heap.size = w.heap.size + 1 by simp] at this
theorem grown_row {w W W1 : World} {v : Value} {n : Nat} {xs : List Value} {a b : Obj} (h : w.grownBy W none) (ho : W.ownsRow w.heap.size 32 4 v n xs) (hg : ((W.alloc a).alloc b).grownBy W1 v.ownBlock) : w.grownBy W1 none :=
  (grown_trans h (two_g _ _ _)).andThen hg (fun j hj => .inl (ho.lt j hj).1)
/- What Lex leaves. -/
def LexR (w W : World) (o : Except (Int × Int) (List Tk)) (e : Ending) : Prop := match o with
  | .ok ts => ∃ v, e = .returned (.tuple #[v, .int .i64 0, .int .i64 0]) ∧ W.ownsRow w.heap.size 32 4 v ts.length (tkL ts)
  | .error (at_, c) => e = .returned (.tuple #[.slice none 0 0, .int .i64 at_, .int .i64 c])
end Go.Proofs.YthnkkcamfcmhmaaGreatDoor.Lx
