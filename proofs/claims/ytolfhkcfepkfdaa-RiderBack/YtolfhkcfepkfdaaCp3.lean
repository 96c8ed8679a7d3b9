/-
  Package rider's compact numbers: number.
-/
import Derived.Test.YtolfhkcfepkfdaaCp2
namespace Go.Proofs.Ytolfhkcfepkfdaa.Ri
open Go.RowKit Go.Proofs.Ytolfhkcfepkfdaa.Tx Go.Proofs.Ytolfhkcfepkfdaa.Bits
set_option linter.unusedVariables false
set_option linter.unusedSimpArgs false
set_option maxRecDepth 100000

theorem i32_join7 (a x : Int) (h : a % 128 = 0) (x0 : 0 ≤ x) (x1 : x < 128) : Go.bits .or .i32 a x = wrap32 (a + x) := by
  show IntKind.i32.wrap ((BitVec.ofInt 32 a ||| BitVec.ofInt 32 x).toNat : Int) = _
  obtain ⟨X, rfl⟩ := Int.eq_ofNat_of_zero_le x0
  have hA : (BitVec.ofInt 32 a).toNat = (a % 4294967296).toNat := by rw [BitVec.toNat_ofInt]; rfl
  have hX : (BitVec.ofInt 32 (X : Int)).toNat = X := by rw [BitVec.toNat_ofInt]; show ((X : Int) % 4294967296).toNat = X; omega
  rw [BitVec.toNat_or, hA, hX]
  obtain ⟨A, hAe⟩ : ∃ A : Nat, (a % 4294967296).toNat = A := ⟨_, rfl⟩
  rw [hAe]
  have h1 : A % 128 = 0 := by omega
  have h2 : A ||| X = A + X := by
    have := Nat.two_pow_add_eq_or_of_lt (i := 7) (b := X) (by omega) (A / 128)
    rw [show 2 ^ 7 * (A / 128) = A by omega] at this
    exact this.symm
  rw [h2, IntKind.wrap_i32]
  unfold wrap32
  omega
theorem andNot8 (g : Int) (g0 : 0 ≤ g) (g1 : g < 256) : Go.bits .andNot .u8 g 128 = g % 128 := by
  have := andNot128 g
  rw [lo8_val, show g % 256 = g by omega] at this
  rw [this]
  omega
/- What is put together from place k on. -/
def frm (l : List UInt8) (k : Nat) : Int := wrap32 (valN (l.drop k))
theorem Shp.tail {c d : UInt8} {r : List UInt8} (h : Shp (c :: d :: r)) : Shp (d :: r) := h.2
theorem shp_drop : ∀ (k : Nat) (l : List UInt8), Shp l → k < l.length → Shp (l.drop k)
  | 0, _, h, _ => h
  | k + 1, [], h, _ => h.elim
  | k + 1, [c], h, hk => by simp at hk
  | k + 1, c :: d :: r, h, hk => by
    rw [List.drop_succ_cons]
    exact shp_drop k (d :: r) h.2 (by simpa using hk)
theorem frm_last {l : List UInt8} {J : Nat} (h : Shp l) (hJ : l.length = J + 1) : wrap32 (IntKind.i8.wrap (gI l J * 2 % 256)) / 2 = frm l J := by
  have hlt : J < l.length := by omega
  have hd : l.drop J = [l[J]] := by rw [List.drop_eq_getElem_cons hlt, List.drop_of_length_le (by omega)]
  have h1 := shp_drop J l h hlt
  have hg : gI l J = (l[J].toNat : Int) := by unfold gI; simp [List.getD, List.getElem?_eq_getElem hlt]
  unfold frm
  rw [hd] at h1 ⊢
  rw [hg]
  simp only [Shp] at h1
  simp only [valN]
  generalize l[J].toNat = x at h1 ⊢
  have key : ∀ x : Fin 128, wrap32 (IntKind.i8.wrap (((x.val : Nat) : Int) * 2 % 256)) / 2 = wrap32 (if x.val < 64 then ((x.val : Nat) : Int) else ((x.val : Nat) : Int) - 128) := by decide +kernel
  exact key ⟨x, h1⟩
theorem frm_step {l : List UInt8} {k : Nat} (h : Shp l) (hk : k + 1 < l.length) : wrap32 (wrap32 (frm l (k + 1) * 128) + gI l k % 128) = frm l k := by
  have hd : l.drop k = l[k] :: l.drop (k + 1) := List.drop_eq_getElem_cons (by omega)
  have hg : gI l k = (l[k].toNat : Int) := by unfold gI; simp [List.getD, List.getElem?_eq_getElem (show k < l.length by omega)]
  have hv : valN (l.drop k) = (l[k].toNat : Int) % 128 + 128 * valN (l.drop (k + 1)) := by
    rw [hd]
    cases hr : l.drop (k + 1) with
    | nil => have := congrArg List.length hr; simp at this; omega
    | cons d r => rfl
  unfold frm
  rw [hv, hg]
  generalize valN (l.drop (k + 1)) = v
  generalize (l[k].toNat : Int) % 128 = y
  unfold wrap32
  omega
theorem frm_bd (l : List UInt8) (k : Nat) : -2147483648 ≤ frm l k ∧ frm l k < 2147483648 := wrap32_lt _
set_option maxHeartbeats 400000 in
theorem number_at (W : World) (l : List UInt8) (hs : Shp l) (hl : l.length ≤ 5) :
    Calls Try.prog 47 #[.agg (cpC l)] W fun e W' => e = .returned (.int .i64 (wrap32 (valN l))) ∧ W.grownBy W' none := by
  show Calls Try.prog 47 #[.agg #[.int .u8 (gI l 0), .int .u8 (gI l 1), .int .u8 (gI l 2), .int .u8 (gI l 3), .int .u8 (gI l 4), .int .i64 l.length]] W _
  obtain ⟨V, hV⟩ : ∃ V, W.alloc (.cells #[.int .u8 (gI l 0), .int .u8 (gI l 1), .int .u8 (gI l 2), .int .u8 (gI l 3), .int .u8 (gI l 4), .int .i64 l.length] 65) = V := ⟨_, rfl⟩
  have HB := hide (show V.heap[W.heap.size]? = some (.cells (cpC l) 65 (0, 0)) by rw [← hV]; exact heap_alloc_new _ _)
  have HG := hide (show W.grownBy V none by rw [← hV]; exact alloc_g _ _)
  obtain ⟨J, hJ⟩ : ∃ J, l.length = J + 1 := by
    cases l with
    | nil => exact hs.elim
    | cons c r => exact ⟨r.length, rfl⟩
  have HC : ∀ j : Nat, j < 5 → V.cell? ⟨W.heap.size, j, none⟩ = some (.int .u8 (gI l j)) := fun j hj => by
    rw [cp_at HB.out]
    rcases (by omega : j = 0 ∨ j = 1 ∨ j = 2 ∨ j = 3 ∨ j = 4) with rfl | rfl | rfl | rfl | rfl <;> rfl
  have c5 : V.cell? ⟨W.heap.size, 5, none⟩ = some (.int .i64 ((J : Int) + 1)) := by rw [cp_at HB.out]; show some (Value.int .i64 (l.length : Int)) = _; rw [hJ]; rfl
  have cJ := HC J (by omega)
  have HCH := hide HC
  have HSh := hide hs
  have HLn := hide hJ
  have jj : (J : Int) < 5 := by omega
  have gJ := gI_bd l J
  clear HC hs hJ
  go_enter Try.func47, Try.ntmps47
  have hfl := frm_last HSh.out HLn.out
  go_wp2
  clear hfl cJ gJ
  go_loop [4, 5] (fun nv iv => ∃ k : Nat, k ≤ J ∧ nv = .int .i32 (frm l k) ∧ iv = .int .i64 ((k : Int) - 1)) (fun _ iv => (intOf iv + 1).toNat)
  case atStart => exact ⟨J, Nat.le_refl _, rfl, rfl⟩
  case round =>
    obtain ⟨k, hk, rfl, rfl⟩ := hrel
    obtain ⟨f0, f1⟩ := frm_bd l k
    cases k with
    | zero =>
      have z0 : ((0 : Nat) : Int) - 1 = -1 := rfl
      obtain ⟨N, hN⟩ : ∃ N, frm l 0 = N := ⟨_, rfl⟩
      have HN := hide hN
      rw [hN] at f0 f1 ⊢
      clear hN
      go_wp2
      go_ret
      refine ⟨?_, HG.out⟩
      show Ending.returned (Value.int .i64 N) = _
      rw [← HN.out]
      rfl
    | succ k =>
      have z0 : ((k + 1 : Nat) : Int) - 1 = k := by omega
      have ck := HCH.out k (by omega)
      have gk := gI_bd l k
      have kk : (k : Int) < 5 := by omega
      have ha := andNot8 (gI l k) gk.1 gk.2
      have hst := frm_step (k := k) HSh.out (by rw [HLn.out]; omega)
      obtain ⟨Y, hY⟩ : ∃ Y, gI l k % 128 = Y := ⟨_, rfl⟩
      have y0 : 0 ≤ Y ∧ Y < 128 := by omega
      obtain ⟨N, hN⟩ : ∃ N, frm l (k + 1) = N := ⟨_, rfl⟩
      rw [hN] at f0 f1 hst ⊢
      rw [hY] at ha hst
      have ho := i32_join7 (wrap32 (N * 128)) Y (by unfold wrap32; omega) y0.1 y0.2
      rw [hst] at ho
      clear hY hN hst
      go_wp2
      exact ⟨⟨k, by omega, rfl, by go_num⟩, by simp [intOf]⟩
end Go.Proofs.Ytolfhkcfepkfdaa.Ri
