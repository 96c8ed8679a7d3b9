/-
  A writer and the document's own: the law's put.
-/
import Derived.Test.YtolfhkcfepkfdaaPt1
import Derived.Test.YtolfhkcfepkfdaaRiarg
namespace Go.Proofs.Ytolfhkcfepkfdaa.Ri
open Go.RowKit Go.Proofs.Ytolfhkcfepkfdaa.Tx Go.Proofs.Ytolfhkcfepkfdaa.Bits
set_option linter.unusedVariables false
set_option linter.unusedSimpArgs false
set_option maxRecDepth 100000

theorem held_w {W W' : World} {B q X : Nat} {v v' : Value} {xs : List UInt8} {a b : Array Value} {ta tb : TypeId} (h : W.heap[q]? = some (.cells a ta (0, 0))) (hr : W.ownsRow B 5 1 v xs.length (xs.map b8)) (hx : W.heap[X]? = some (.cells b tb (0, 0))) (st : Wst W W' q v v') (hne : ta ≠ tb) (h8 : 5 ≠ tb) : W'.heap[X]? = some (.cells b tb (0, 0)) :=
  (st.block X (Array.getElem?_eq_some_iff.1 hx).1 (fun e => by
    subst e
    rw [h] at hx
    exact hne (Obj.cells.inj (Option.some.inj hx)).2.1) (fun e => by
    obtain ⟨c, hc⟩ := row_type8 hr e
    rw [hc] at hx
    exact h8 (Obj.cells.inj (Option.some.inj hx)).2.1)).trans hx
/- Behind an item. -/
def Next (w W' : World) (q g : Nat) (xs ys : List UInt8) (sp : Bool) : Prop :=
  ∃ (o : Option (List UInt8)) (vp vg : Value), few o ∧ Tp w W' q g vp vg (pxs xs sp o) (psp sp o) (rys ys o) (psp sp o)
theorem it0 {W : World} {X : Nat} {a b c : Value} {t : TypeId} (h : W.heap[X]? = some (.cells #[a, b, c] t (0, 0))) : W.cell? ⟨X, 0, none⟩ = some a := by rw [cell_of_row _ _ _ _ _ _ h]; rfl
theorem it1 {W : World} {X : Nat} {a b c : Value} {t : TypeId} (h : W.heap[X]? = some (.cells #[a, b, c] t (0, 0))) : W.cell? ⟨X, 1, none⟩ = some b := by rw [cell_of_row _ _ _ _ _ _ h]; rfl
theorem it2 {W : World} {X : Nat} {a b c : Value} {t : TypeId} (h : W.heap[X]? = some (.cells #[a, b, c] t (0, 0))) : W.cell? ⟨X, 2, none⟩ = some c := by rw [cell_of_row _ _ _ _ _ _ h]; rfl
section
variable {w W : World} {q g : Nat} {vp vg : Value} {xs ys : List UInt8} {sp : Bool}
set_option maxHeartbeats 1000000 in
theorem put_b (t : Tp w W q g vp vg xs sp ys sp) (hx : xs.length ≤ 100000) (hy : ys.length ≤ 100000) (n : Int) (x : List UInt8) (n0 : -9223372036854775808 ≤ n) (n1 : n ≤ 9223372036854775807) :
    Calls Try.prog 11 #[.pointer (some ⟨q, 0, none⟩), .pointer (some ⟨g, 0, none⟩), .agg #[.int .i64 0, .int .i64 n, .string (bs x)]] W fun e W' => e = .returned (.tuple #[]) ∧ Next w W' q g xs ys sp := by
  obtain ⟨V, hV⟩ : ∃ V, W.alloc (.cells #[.int .i64 0, .int .i64 n, .string (bs x)] 30) = V := ⟨_, rfl⟩; have gv : W.grownBy V none := (by rw [← hV]; exact alloc_g _ _); have HT := hide (t.kept gv); have BX := hide (show V.heap[W.heap.size]? = some (.cells #[.int .i64 0, .int .i64 n, .string (bs x)] 30 (0, 0)) by rw [← hV]; exact heap_alloc_new _ _); have x0 := it0 BX.out; have x1 := it1 BX.out; have x2 := it2 BX.out; have HLx := hide hx; have HLy := hide hy; clear t gv hx hy
  have HP := hide (pput_byte n)
  have HQ := hide (rput_byte n n0 n1)
  go_enter Try.func11, Try.ntmps11
  go_wp2_with (first | (go_at_call 16; refine (HP.out _ _ _ _ _ _ HT.out.pw HLx.out HT.out.gr.size).mono ?_; rintro e w1 ⟨rfl, v1, h1, h2⟩; have HT1 := hide (HT.out.one h1 h2); have B1 := hide (held_w HT.out.pw.head HT.out.pw.row BX.out h2 (by decide) (by decide)); clear h1 h2 x0 x1 x2; have x1 := it1 B1.out; have x2 := it2 B1.out) | (go_at_call 28; refine (HQ.out _ _ _ _ _ _ HT1.out.rw HLy.out HT1.out.gr.size).mono ?_; rintro e w2 ⟨rfl, v2, h1, h2⟩; have HT2 := hide (HT1.out.two h1 h2); clear h1 h2))
  go_end0
  exact ⟨rfl, some [lo8 n], _, _, fun e he => by rw [← Option.some.inj he]; simp, HT2.out⟩
set_option maxHeartbeats 1000000 in
theorem put_n (t : Tp w W q g vp vg xs sp ys sp) (hx : xs.length ≤ 100000) (hy : ys.length ≤ 100000) (n : Int) (x : List UInt8) :
    Calls Try.prog 11 #[.pointer (some ⟨q, 0, none⟩), .pointer (some ⟨g, 0, none⟩), .agg #[.int .i64 1, .int .i64 n, .string (bs x)]] W fun e W' => e = .returned (.tuple #[]) ∧ Next w W' q g xs ys sp := by
  obtain ⟨V, hV⟩ : ∃ V, W.alloc (.cells #[.int .i64 1, .int .i64 n, .string (bs x)] 30) = V := ⟨_, rfl⟩; have gv : W.grownBy V none := (by rw [← hV]; exact alloc_g _ _); have HT := hide (t.kept gv); have BX := hide (show V.heap[W.heap.size]? = some (.cells #[.int .i64 1, .int .i64 n, .string (bs x)] 30 (0, 0)) by rw [← hV]; exact heap_alloc_new _ _); have x0 := it0 BX.out; have x1 := it1 BX.out; have x2 := it2 BX.out; have HLx := hide hx; have HLy := hide hy; clear t gv hx hy
  have HP := hide (pput_num n)
  have HQ := hide (rput_num n)
  go_enter Try.func11, Try.ntmps11
  go_wp2_with (first | (go_at_call 17; refine (HP.out _ _ _ _ _ _ HT.out.pw HLx.out HT.out.gr.size).mono ?_; rintro e w1 ⟨rfl, v1, h1, h2⟩; have HT1 := hide (HT.out.one h1 h2); have B1 := hide (held_w HT.out.pw.head HT.out.pw.row BX.out h2 (by decide) (by decide)); clear h1 h2 x0 x1 x2; have x1 := it1 B1.out; have x2 := it2 B1.out) | (go_at_call 29; refine (HQ.out _ _ _ _ _ _ HT1.out.rw HLy.out HT1.out.gr.size).mono ?_; rintro e w2 ⟨rfl, v2, h1, h2⟩; have HT2 := hide (HT1.out.two h1 h2); clear h1 h2))
  go_end0
  exact ⟨rfl, numO n, _, _, few_num n, HT2.out⟩
set_option maxHeartbeats 1000000 in
theorem put_w (t : Tp w W q g vp vg xs sp ys sp) (hx : xs.length ≤ 100000) (hy : ys.length ≤ 100000) (n : Int) (x : List UInt8) :
    Calls Try.prog 11 #[.pointer (some ⟨q, 0, none⟩), .pointer (some ⟨g, 0, none⟩), .agg #[.int .i64 2, .int .i64 n, .string (bs x)]] W fun e W' => e = .returned (.tuple #[]) ∧ Next w W' q g xs ys sp := by
  obtain ⟨V, hV⟩ : ∃ V, W.alloc (.cells #[.int .i64 2, .int .i64 n, .string (bs x)] 30) = V := ⟨_, rfl⟩; have gv : W.grownBy V none := (by rw [← hV]; exact alloc_g _ _); have HT := hide (t.kept gv); have BX := hide (show V.heap[W.heap.size]? = some (.cells #[.int .i64 2, .int .i64 n, .string (bs x)] 30 (0, 0)) by rw [← hV]; exact heap_alloc_new _ _); have x0 := it0 BX.out; have x1 := it1 BX.out; have x2 := it2 BX.out; have HLx := hide hx; have HLy := hide hy; clear t gv hx hy
  have y0 : 0 ≤ n % 4294967296 ∧ n % 4294967296 < 4294967296 := by omega
  obtain ⟨X, hX⟩ : ∃ X, n % 4294967296 = X := ⟨_, rfl⟩
  rw [hX] at y0
  have HP := hide (pput_word X y0.1 y0.2)
  have HQ := hide (rput_word X y0.1 y0.2)
  go_enter Try.func11, Try.ntmps11
  go_wp2_with (first | (go_at_call 18; refine (HP.out _ _ _ _ _ _ HT.out.pw HLx.out HT.out.gr.size).mono ?_; rintro e w1 ⟨rfl, v1, h1, h2⟩; have HT1 := hide (HT.out.one h1 h2); have B1 := hide (held_w HT.out.pw.head HT.out.pw.row BX.out h2 (by decide) (by decide)); clear h1 h2 x0 x1 x2; have x1 := it1 B1.out; have x2 := it2 B1.out) | (go_at_call 30; refine (HQ.out _ _ _ _ _ _ HT1.out.rw HLy.out HT1.out.gr.size).mono ?_; rintro e w2 ⟨rfl, v2, h1, h2⟩; have HT2 := hide (HT1.out.two h1 h2); clear h1 h2))
  go_end0
  exact ⟨rfl, some (wordL X), _, _, fun e he => by rw [← Option.some.inj he]; simp [wordL], HT2.out⟩
set_option maxHeartbeats 1000000 in
theorem put_t (t : Tp w W q g vp vg xs sp ys sp) (hx : xs.length ≤ 100000) (hy : ys.length ≤ 100000) (n : Int) (x : List UInt8) (ht : x.length ≤ 1000000) :
    Calls Try.prog 11 #[.pointer (some ⟨q, 0, none⟩), .pointer (some ⟨g, 0, none⟩), .agg #[.int .i64 3, .int .i64 n, .string (bs x)]] W fun e W' => e = .returned (.tuple #[]) ∧ Next w W' q g xs ys sp := by
  obtain ⟨V, hV⟩ : ∃ V, W.alloc (.cells #[.int .i64 3, .int .i64 n, .string (bs x)] 30) = V := ⟨_, rfl⟩; have gv : W.grownBy V none := (by rw [← hV]; exact alloc_g _ _); have HT := hide (t.kept gv); have BX := hide (show V.heap[W.heap.size]? = some (.cells #[.int .i64 3, .int .i64 n, .string (bs x)] 30 (0, 0)) by rw [← hV]; exact heap_alloc_new _ _); have x0 := it0 BX.out; have x1 := it1 BX.out; have x2 := it2 BX.out; have HLx := hide hx; have HLy := hide hy; clear t gv hx hy
  have HP := hide (pput_text x ht)
  have HQ := hide (rput_text x ht)
  go_enter Try.func11, Try.ntmps11
  go_wp2_with (first | (go_at_call 19; refine (HP.out _ _ _ _ _ _ HT.out.pw HLx.out HT.out.gr.size).mono ?_; rintro e w1 ⟨rfl, v1, h1, h2⟩; have HT1 := hide (HT.out.one h1 h2); have B1 := hide (held_w HT.out.pw.head HT.out.pw.row BX.out h2 (by decide) (by decide)); clear h1 h2 x0 x1 x2; have x1 := it1 B1.out; have x2 := it2 B1.out) | (go_at_call 31; refine (HQ.out _ _ _ _ _ _ HT1.out.rw HLy.out HT1.out.gr.size).mono ?_; rintro e w2 ⟨rfl, v2, h1, h2⟩; have HT2 := hide (HT1.out.two h1 h2); clear h1 h2))
  go_end0
  exact ⟨rfl, textO x, _, _, few_text x, HT2.out⟩
set_option maxHeartbeats 1000000 in
theorem put_other (t : Tp w W q g vp vg xs sp ys sp) (k n : Int) (x : List UInt8) (k0 : (k == 0) = false) (k1 : (k == 1) = false) (k2 : (k == 2) = false) (k3 : (k == 3) = false) :
    Calls Try.prog 11 #[.pointer (some ⟨q, 0, none⟩), .pointer (some ⟨g, 0, none⟩), .agg #[.int .i64 k, .int .i64 n, .string (bs x)]] W fun e W' => e = .returned (.tuple #[]) ∧ Next w W' q g xs ys sp := by
  obtain ⟨V, hV⟩ : ∃ V, W.alloc (.cells #[.int .i64 k, .int .i64 n, .string (bs x)] 30) = V := ⟨_, rfl⟩
  have gv : W.grownBy V none := by rw [← hV]; exact alloc_g _ _
  have HT := hide (t.kept gv)
  have x0 : V.cell? ⟨W.heap.size, 0, none⟩ = some (.int .i64 k) := by rw [← hV]; simp
  clear t gv
  go_enter Try.func11, Try.ntmps11
  go_wp2
  go_end0
  refine ⟨rfl, some [], vp, vg, fun e he => by rw [← Option.some.inj he]; simp, ?_⟩
  show Tp w V q g _ _ (nxA xs sp []) sp (ys ++ []) sp
  rw [nxA_nil, List.append_nil]
  exact HT.out
theorem put_item (t : Tp w W q g vp vg xs sp ys sp) (hx : xs.length ≤ 100000) (hy : ys.length ≤ 100000) (k n : Int) (x : List UInt8) (n0 : -9223372036854775808 ≤ n) (n1 : n ≤ 9223372036854775807) (ht : x.length ≤ 1000000) :
    Calls Try.prog 11 #[.pointer (some ⟨q, 0, none⟩), .pointer (some ⟨g, 0, none⟩), .agg #[.int .i64 k, .int .i64 n, .string (bs x)]] W fun e W' => e = .returned (.tuple #[]) ∧ Next w W' q g xs ys sp := by
  by_cases h0 : k = 0
  · subst h0; exact put_b t hx hy n x n0 n1
  by_cases h1 : k = 1
  · subst h1; exact put_n t hx hy n x
  by_cases h2 : k = 2
  · subst h2; exact put_w t hx hy n x
  by_cases h3 : k = 3
  · subst h3; exact put_t t hx hy n x ht
  exact put_other t k n x (by simpa using h0) (by simpa using h1) (by simpa using h2) (by simpa using h3)
end
end Go.Proofs.Ytolfhkcfepkfdaa.Ri
