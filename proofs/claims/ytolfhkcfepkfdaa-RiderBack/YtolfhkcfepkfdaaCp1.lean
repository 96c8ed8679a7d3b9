/-
  Package rider's compact numbers: add, compactOf.
-/
import Derived.Test.YtolfhkcfepkfdaaNu1
import Derived.RegionTactic
namespace Go.Proofs.Ytolfhkcfepkfdaa.Ri
open Go.RowKit Go.Proofs.Ytolfhkcfepkfdaa.Tx Go.Proofs.Ytolfhkcfepkfdaa.Bits
set_option linter.unusedVariables false
set_option linter.unusedSimpArgs false
set_option maxRecDepth 100000

/- The cells of a compact number of these bytes. -/
def gI (l : List UInt8) (i : Nat) : Int := ((l.getD i 0).toNat : Int)
def cpC (l : List UInt8) : Array Value := #[.int .u8 (gI l 0), .int .u8 (gI l 1), .int .u8 (gI l 2), .int .u8 (gI l 3), .int .u8 (gI l 4), .int .i64 l.length]
theorem cells_set {W : World} {q : Nat} {cs : Array Value} {t : TypeId} (h : W.heap[q]? = some (.cells cs t (0, 0))) (k : Nat) (v : Value) : (W.setCell ⟨q, k, none⟩ v).heap[q]? = some (.cells (cs.setIfInBounds k v) t (0, 0)) := by
  have hlt := (Array.getElem?_eq_some_iff.1 h).1
  have h' : W.heap[q] = .cells cs t (0, 0) := by simpa [Array.getElem?_eq_getElem hlt] using h
  show (W.heap.modify q _)[q]? = _
  rw [Array.getElem?_eq_getElem (by simpa using hlt), Array.getElem_modify_self, h']
  rfl
theorem cp_set (l : List UInt8) (c : UInt8) (h : l.length ≤ 4) : ((cpC l).setIfInBounds l.length (b8 c)).setIfInBounds 5 (.int .i64 ((l.length : Int) + 1)) = cpC (l ++ [c]) := by
  match l, h with
  | [], _ => rfl
  | [_], _ => rfl
  | [_, _], _ => rfl
  | [_, _, _], _ => rfl
  | [_, _, _, _], _ => rfl
  | _ :: _ :: _ :: _ :: _ :: _, h => simp at h
theorem cp_at {W : World} {X : Nat} {l : List UInt8} {t : TypeId} (h : W.heap[X]? = some (.cells (cpC l) t (0, 0))) (k : Nat) : W.cell? ⟨X, k, none⟩ = (cpC l)[k]? := cell_of_row _ _ _ _ _ _ h
theorem add_at {W : World} {X : Nat} {l : List UInt8} (h : W.heap[X]? = some (.cells (cpC l) 65 (0, 0))) (hl : l.length ≤ 4) (c : UInt8) :
    Calls Try.prog 53 #[.pointer (some ⟨X, 0, none⟩), .int .u8 (c.toNat : Int)] W fun e W' => e = .returned (.tuple #[]) ∧ W'.heap[X]? = some (.cells (cpC (l ++ [c])) 65 (0, 0)) ∧ W.grownBy W' (some X) := by
  have c5 : W.cell? ⟨X, 5, none⟩ = some (.int .i64 l.length) := cp_at h 5
  have hf := fun k => free_at (k := k) h
  have hcl : ∃ v, W.cell? ⟨X, l.length, none⟩ = some v := by
    rw [cp_at h]
    refine ⟨(cpC l)[l.length]'(by simp [cpC]; omega), Array.getElem?_eq_getElem _⟩
  obtain ⟨v0, hc0⟩ := hcl
  have HC := hide (cells_set (cells_set (show W.drew.heap[X]? = _ from h) l.length (b8 c)) 5 (.int .i64 ((l.length : Int) + 1)))
  rw [cp_set l c hl] at HC
  have i0 : (0 : Int) ≤ (l.length : Int) := by omega
  have i1 : (l.length : Int) < 5 := by omega
  have i2 : l.length ≠ 5 := by omega
  obtain ⟨J, hJ⟩ : ∃ J, l.length = J := ⟨_, rfl⟩
  rw [hJ] at c5 hc0 HC i0 i1 i2
  clear h hl hJ
  go_enter Try.func53, Try.ntmps53
  go_wp2
  go_region
  all_goals go_wp2
  all_goals go_end0
  all_goals exact ⟨rfl, HC.out, then_g (dset_g _ 1 _ _ _) (set_g _ _ _ _)⟩
theorem cp_cells {W : World} {X : Nat} {l : List UInt8} {t : TypeId} (h : W.heap[X]? = some (.cells (cpC l) t (0, 0))) :
    W.cell? ⟨X, 0, none⟩ = some (.int .u8 (gI l 0)) ∧ W.cell? ⟨X, 1, none⟩ = some (.int .u8 (gI l 1)) ∧ W.cell? ⟨X, 2, none⟩ = some (.int .u8 (gI l 2)) ∧ W.cell? ⟨X, 3, none⟩ = some (.int .u8 (gI l 3)) ∧ W.cell? ⟨X, 4, none⟩ = some (.int .u8 (gI l 4)) ∧ W.cell? ⟨X, 5, none⟩ = some (.int .i64 l.length) :=
  ⟨cp_at h 0, cp_at h 1, cp_at h 2, cp_at h 3, cp_at h 4, cp_at h 5⟩
theorem or128 (m : Int) : Go.bits .or .u8 (m % 256) 128 = ((lo8 (m % 128 + 128)).toNat : Int) := by
  rw [lo8_val]
  obtain ⟨x, hx⟩ : ∃ x : Nat, m % 256 = x := ⟨(m % 256).toNat, by omega⟩
  have h1 : x < 256 := by omega
  have h2 : m % 128 = (x : Int) % 128 := by omega
  rw [hx, h2]
  have : ∀ x : Fin 256, Go.bits .or .u8 ((x.val : Nat) : Int) 128 = ((x.val : Nat) : Int) % 128 + 128 := by decide +kernel
  have t : Go.bits .or .u8 (x : Int) 128 = (x : Int) % 128 + 128 := this ⟨x, h1⟩
  rw [t]
  omega
theorem andNot128 (m : Int) : Go.bits .andNot .u8 (m % 256) 128 = ((lo8 (m % 128)).toNat : Int) := by
  rw [lo8_val]
  obtain ⟨x, hx⟩ : ∃ x : Nat, m % 256 = x := ⟨(m % 256).toNat, by omega⟩
  have h1 : x < 256 := by omega
  have h2 : m % 128 = (x : Int) % 128 := by omega
  rw [hx, h2]
  have : ∀ x : Fin 256, Go.bits .andNot .u8 ((x.val : Nat) : Int) 128 = ((x.val : Nat) : Int) % 128 := by decide +kernel
  have t : Go.bits .andNot .u8 (x : Int) 128 = (x : Int) % 128 := this ⟨x, h1⟩
  rw [t]
  omega
theorem fits7 (m : Int) : fitsB m 7 = decide (-64 ≤ m ∧ m ≤ 63) := by
  unfold fitsB
  apply decide_eq_decide.2
  simp
  omega
theorem alloc_g (w : World) (o : Obj) : w.grownBy (w.alloc o) none := ⟨rfl, rfl, rfl, by simp, fun i hi _ => heap_alloc_old _ _ hi⟩
theorem grown_trans {a b c : World} (h : a.grownBy b none) (hg : b.grownBy c none) : a.grownBy c none := h.andThen hg (fun j hj => by simp at hj)
theorem grown_own {a b c : World} {k : Nat} (h : a.grownBy b none) (hk : a.heap.size ≤ k) (hg : b.grownBy c (some k)) : a.grownBy c none :=
  h.andThen hg (fun j hj => .inl (by have := Option.some.inj hj; omega))
/- Six cells written, one behind the other. -/
theorem six_g (w : World) (b : Nat) (u0 u1 u2 u3 u4 u5 : Value) : w.grownBy ((((((w.setCell ⟨b, 0, none⟩ u0).setCell ⟨b, 1, none⟩ u1).setCell ⟨b, 2, none⟩ u2).setCell ⟨b, 3, none⟩ u3).setCell ⟨b, 4, none⟩ u4).setCell ⟨b, 5, none⟩ u5) (some b) :=
  then_g (then_g (then_g (then_g (then_g (set_g _ _ _ _) (set_g _ _ _ _)) (set_g _ _ _ _)) (set_g _ _ _ _)) (set_g _ _ _ _)) (set_g _ _ _ _)
theorem keep_r {W W' : World} {k : Nat} {cs : Array Value} {t : TypeId} (h : W.heap[k]? = some (.cells cs t (0, 0))) (hg : W.grownBy W' (some (k + 1))) : W'.heap[k]? = some (.cells cs t (0, 0)) :=
  (hg.block k (Array.getElem?_eq_some_iff.1 h).1 (fun e => by have := Option.some.inj e; omega)).trans h
set_option maxHeartbeats 2000000 in
theorem compact_of (W : World) (n : Int) (hn : fitsB n 32 = true) :
    Calls Try.prog 42 #[.int .i64 n] W fun e W' => e = .returned (.agg (cpC (numL n))) ∧ W.grownBy W' none := by
  obtain ⟨n0, n1⟩ := fits_in.1 hn
  have HS := hide (show ((W.alloc (.cells (cpC []) 65)).alloc (.cells (cpC []) 65)).heap[W.heap.size + 1]? = some (.cells (cpC []) 65 (0, 0)) by
    have := heap_alloc_new (W.alloc (.cells (cpC []) 65)) (.cells (cpC []) 65)
    rwa [show (W.alloc (.cells (cpC []) 65)).heap.size = W.heap.size + 1 by simp] at this)
  have HS0 := hide (show ((W.alloc (.cells (cpC []) 65)).alloc (.cells (cpC []) 65)).heap[W.heap.size]? = some (.cells (cpC []) 65 (0, 0)) by
    rw [heap_alloc_old _ _ (by simp)]
    exact heap_alloc_new _ _)
  have HSg := hide (grown_trans (alloc_g W (.cells (cpC []) 65)) (alloc_g _ (.cells (cpC []) 65)))
  have hi4 := hide (in4 hn)
  clear hn
  go_enter Try.func42, Try.ntmps42
  go_wp2
  go_loopw [0] (fun nv wr => ∃ (k : Nat) (m : Int) (ys : List UInt8), k ≤ 4 ∧ nv = .int .i64 m ∧ -2147483648 ≤ m ∧ m < 2147483648 ∧ Hid (inK k m) ∧ Hid (ys.length + k ≤ 4) ∧ Hid (ys ++ numF k m = numL n) ∧ Hid (wr.heap[W.heap.size + 1]? = some (.cells (cpC ys) 65 (0, 0))) ∧ Hid (wr.heap[W.heap.size]? = some (.cells (cpC []) 65 (0, 0))) ∧ Hid (W.grownBy wr none)) (fun nv _ => (intOf nv).natAbs)
  case atStart => exact ⟨4, n, [], by omega, rfl, n0, n1, hi4, hide (by simp), hide rfl, HS, HS0, HSg⟩
  case round =>
    clear HS HS0 HSg hi4
    obtain ⟨k, m, ys, hk, rfl, m0, m1, hin, hle, hys, HC, HR, HG⟩ := hrel
    have HL := hide (show ys.length ≤ 4 by have := hle.out; omega)
    have hor := or128 m
    have han := andNot128 m
    by_cases hd : -64 ≤ m ∧ m ≤ 63
    · have HF := hide (show fitsB m 7 = true by rw [fits7]; exact decide_eq_true hd)
      have HE := hide (numF_last (k := k) hd)
      obtain ⟨Z, hZ⟩ : ∃ Z, ys ++ [lo8 (m % 128)] = Z := ⟨_, rfl⟩
      have HZ := hide hZ
      clear hZ
      go_wp2_with (first | (go_at_call 40; refine (fits_any m 7 _).mono ?_; rw [HF.out]; rintro e w' ⟨rfl, hw⟩; replace hw := hw.symm; subst hw) | ((go_at_call 53; refine (add_at HC.out HL.out (lo8 (m % 128))).mono ?_; rintro e w1 ⟨rfl, h1, h2⟩; have HC1 := hide h1; have HG1 := hide (grown_own HG.out (Nat.le_succ _) h2); have HR1 := hide (keep_r HR.out h2); clear h1 h2); rw [HZ.out] at HC1; obtain ⟨x0, x1, x2, x3, x4, x5⟩ := cp_cells HC1.out; obtain ⟨y0, y1, y2, y3, y4, y5⟩ := cp_cells HR1.out; have hf := fun k => free_at (k := k) HR1.out))
      refine bodyPost_ret (v := .agg #[.int .u8 (gI Z 0), .int .u8 (gI Z 1), .int .u8 (gI Z 2), .int .u8 (gI Z 3), .int .u8 (gI Z 4), .int .i64 Z.length]) (by simp [results, Try.results42, go_sem, y0, y1, y2, y3, y4, y5]) rfl ⟨?_, ?_⟩
      · rw [← hys.out, HE.out, HZ.out]
        rfl
      · exact grown_own HG1.out (Nat.le_refl _) (six_g _ _ _ _ _ _ _ _)
    · have HF := hide (show fitsB m 7 = false by rw [fits7]; exact decide_eq_false hd)
      cases k with
      | zero =>
        have := hin.out
        unfold inK at this
        omega
      | succ k =>
        have HE := hide (show numF (k + 1) m = lo8 (m % 128 + 128) :: numF k (m / 128) by rw [numF, if_neg hd])
        have HI := hide (inK_div hin.out)
        go_wp2_with (first | (go_at_call 40; refine (fits_any m 7 _).mono ?_; rw [HF.out]; rintro e w' ⟨rfl, hw⟩; replace hw := hw.symm; subst hw) | (go_at_call 53; refine (add_at HC.out HL.out (lo8 (m % 128 + 128))).mono ?_; rintro e w1 ⟨rfl, h1, h2⟩; have HC1 := hide h1; have HG1 := hide (grown_own HG.out (Nat.le_succ _) h2); have HR1 := hide (keep_r HR.out h2); clear h1 h2))
        go_roundw
        case rel => exact ⟨k, m / 128, ys ++ [lo8 (m % 128 + 128)], by omega, by go_num, by omega, by omega, HI, hide (by have := hle.out; simp; omega), hide (by rw [List.append_assoc, ← hys.out, HE.out]; rfl), HC1, HR1, HG1⟩
        case measure => simp [intOf]; omega
end Go.Proofs.Ytolfhkcfepkfdaa.Ri
