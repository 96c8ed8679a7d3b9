/-
  Package token: the classes of bytes; newTables.
-/
import Derived.Test.YthnkkcamfcmhmaaDoorPk5
import Derived.BigRegion
namespace Go.Proofs.YthnkkcamfcmhmaaDoor.Lx
open Go.RowKit Go.Maps Go.Proofs.YthnkkcamfcmhmaaDoor.Tx Go.Proofs.YthnkkcamfcmhmaaDoor.Mp
set_option linter.unusedVariables false
set_option linter.unusedSimpArgs false
set_option maxRecDepth 100000

def clA (i b : Nat) : Array Value := ((List.range 256).map fun j => Value.int .u8 (clP i b j : Nat)).toArray
theorem clA_size (i b : Nat) : (clA i b).size = 256 := by simp [clA]
theorem clA_at (i b j : Nat) (h : j < 256) : (clA i b)[j]? = some (.int .u8 (clP i b j : Nat)) := by simp [clA, h]
theorem clA_one (i b : Nat) : (clA i b).all (·.oneCell') = true := by
  rw [Array.all_eq_true_iff_forall_mem]
  intro v hv
  simp [clA] at hv
  obtain ⟨j, _, rfl⟩ := hv
  rfl
def rFr (i : Nat) : Nat := ((rngs[i]?).map (·.1)).getD 0
def rTo (i : Nat) : Nat := ((rngs[i]?).map (·.2.1)).getD 0
def rIs (i : Nat) : Nat := ((rngs[i]?).map (·.2.2)).getD 0
theorem clP_self (i b : Nat) : clP i b b = clN i b := by
  unfold clP
  rw [if_neg (by simp)]
theorem clP_zero (i j : Nat) : clP i 0 j = clN i j := by
  unfold clP
  rw [if_neg (by simp)]
theorem clP_from (i j : Nat) : clP i (rFr i) j = clN i j := by
  unfold clP
  rw [if_neg (by simp; intro h; exact h)]
theorem rng_facts : ∀ i : Fin 9, rFr i.1 ≤ rTo i.1 ∧ rTo i.1 ≤ 255 ∧ rIs i.1 ≤ 16 := by decide
theorem cl_done : ∀ i : Fin 9, ∀ j : Fin 256, clP i.1 (rTo i.1 + 1) j.1 = clN (i.1 + 1) j.1 := by decide +kernel
theorem cl_or : ∀ i : Fin 9, ∀ j : Fin 256, rFr i.1 ≤ j.1 → j.1 ≤ rTo i.1 → bits .or .u8 (clN i.1 j.1 : Int) (rIs i.1 : Int) = (clN (i.1 + 1) j.1 : Int) := by decide +kernel
theorem clA_start (i : Nat) : clA i (rFr i) = clA i 0 := by
  unfold clA
  congr 2
  funext j
  rw [clP_from, clP_zero]
theorem clA_end {i : Nat} (h : i < 9) : clA i (rTo i + 1) = clA (i + 1) 0 := by
  unfold clA
  congr 1
  apply List.map_congr_left
  intro j hj
  rw [cl_done ⟨i, h⟩ ⟨j, List.mem_range.1 hj⟩, clP_zero]
theorem clA_set {i b : Nat} (h1 : rFr i ≤ b) (hb : b < 256) : (clA i b).setIfInBounds b (.int .u8 (clN (i + 1) b : Nat)) = clA i (b + 1) := by
  apply Array.ext_getElem?
  intro j
  rw [Array.getElem?_setIfInBounds]
  by_cases e : b = j
  · subst e
    rw [if_pos rfl, if_pos (by rw [clA_size]; exact hb), clA_at _ _ _ hb]
    have : clP i (b + 1) b = clN (i + 1) b := by
      unfold clP
      rw [if_pos (by simp; exact h1)]
    rw [this]
  · rw [if_neg e]
    by_cases hj : j < 256
    · rw [clA_at _ _ _ hj, clA_at _ _ _ hj]
      have : clP i b j = clP i (b + 1) j := by
        unfold clP
        have e2 : decide (j < b) = decide (j < b + 1) := by rw [decide_eq_decide]; omega
        rw [e2]
      rw [this]
    · rw [Array.getElem?_eq_none (by rw [clA_size]; omega), Array.getElem?_eq_none (by rw [clA_size]; omega)]
theorem info_cls : (Tryd.prog.info? 63).map (·.size) = some 256 := by kernel_rfl
theorem stores_cls {V : World} {b : Nat} {Z K : Array Value} (hb : V.heap[b]? = some (.cells Z 63 (0, 0))) (hZ : Z.size = 256) (hK : K.size = 256) (h1 : K.all (·.oneCell') = true) :
    (storeCells ⟨b, 0, none⟩ K.toList 0).run Tryd.prog V = .ok () (V.setRow b K) := by
  have := run_storeVar_row (P := Tryd.prog) V b 63 63 Z K hb (by rw [hK]; exact info_cls) (by rw [hZ, hK]) h1
  cases hq : Tryd.prog.info? 63 with
  | none => have := info_cls; simp [hq] at this
  | some i =>
    have hs : i.size = 256 := by have := info_cls; simpa [hq] using this
    simpa [storeVar, sizeOf, typeInfo, hq, Value.cells, hs, hK] using this
theorem setRow_g (w : World) (b : Nat) (K : Array Value) : w.grownBy (w.setRow b K) (some b) :=
  ⟨rfl, rfl, rfl, by simp [World.setRow], fun i _ hi => setRow_other w b i K (fun e => hi (by rw [e]))⟩
theorem loadv_cls {V : World} {b : Nat} {K : Array Value} {t : TypeId} {fr : Nat × Nat} (hb : V.heap[b]? = some (.cells K t fr)) (hK : K.size = 256) : (loadVar 63 ⟨b, 0, none⟩).run Tryd.prog V = .ok (.agg K) V :=
  run_loadVar_row V b t 63 K fr _ hb Tryd.underlying63 rfl (by rw [hK]; exact info_cls)
theorem res1 {P : Program} {fn : Func} {p : Tmp} {ty : TypeId} (h : fn.results = #[.cell p ty]) {tmps : Array Value} {w : World} {a : Addr} {v : Value} (h1 : tmps.getD p undef = .pointer (some a)) (h2 : (loadVar ty a).run P w = .ok v w) :
    (results fn tmps).run P w = .ok v w := by
  have h1' : tmps[p]?.getD undef = .pointer (some a) := by simpa using h1
  simp only [results, h]
  simp [Sem.run_bind, Result.andThen, h1', asAddr, h2]
def rgA : Array Value := #[.int .i64 9, .int .i64 10, .int .u8 1, .int .i64 13, .int .i64 13, .int .u8 1, .int .i64 32, .int .i64 32, .int .u8 1, .int .i64 97, .int .i64 122, .int .u8 2, .int .i64 65, .int .i64 90, .int .u8 2, .int .i64 48, .int .i64 57, .int .u8 12, .int .i64 65, .int .i64 70, .int .u8 8, .int .i64 32, .int .i64 33, .int .u8 16, .int .i64 35, .int .i64 255, .int .u8 16]
theorem idx_rg (k : Nat) (h : k < 9) (w : World) : (Instr.index 78 (.agg rgA) (.int .i64 k)).run Tryd.prog w = .ok (.agg #[.int .i64 (rFr k : Nat), .int .i64 (rTo k : Nat), .int .u8 (rIs k : Nat)]) w := by
  have : k = 0 ∨ k = 1 ∨ k = 2 ∨ k = 3 ∨ k = 4 ∨ k = 5 ∨ k = 6 ∨ k = 7 ∨ k = 8 := by omega
  rcases this with h | h | h | h | h | h | h | h | h <;> subst h <;> rfl
theorem zero_lit : clA 0 0 = Tryd.zeroCells63 := by kernel_rfl
/- The worlds of the loops: the result's block, the array's, what was there. -/
structure Cl (w W : World) (i b : Nat) : Prop where
  res : W.heap[w.heap.size]? = some (.cells (clA 0 0) 63 (0, 0))
  arr : W.heap[w.heap.size + 1]? = some (.cells (clA i b) 63 (0, 0))
  g : w.grownBy W none
theorem Cl.kept {w W W' : World} {i b : Nat} (h : Cl w W i b) (hg : W.grownBy W' none) : Cl w W' i b := ⟨keep_n h.res hg, keep_n h.arr hg, grown_trans h.g hg⟩
theorem Cl.cell {w W : World} {i b : Nat} (h : Cl w W i b) (hb : b < 256) : W.cell? ⟨w.heap.size + 1, b, none⟩ = some (.int .u8 (clN i b : Nat)) := by
  rw [cell_of_row _ _ _ _ _ _ h.arr, clA_at _ _ _ hb, clP_self]
theorem Cl.set {w W : World} {i b : Nat} (h : Cl w W i b) (h1 : rFr i ≤ b) (hb : b < 256) : Cl w (W.setCell ⟨w.heap.size + 1, b, none⟩ (.int .u8 (clN (i + 1) b : Nat))) i (b + 1) := by
  have e := heap_setCell_same _ _ b _ _ (.int .u8 (clN (i + 1) b : Nat)) h.arr
  rw [clA_set h1 hb] at e
  exact ⟨((set_g _ _ _ _).block _ (Array.getElem?_eq_some_iff.1 h.res).1 (by simp)).trans h.res, e, grown_own h.g (Nat.le_succ _) (set_g _ _ _ _)⟩
theorem Cl.drew {w W : World} {i b : Nat} (h : Cl w W i b) : Cl w W.drew i b := ⟨h.res, h.arr, ⟨h.g.os, h.g.tape, h.g.output, h.g.size, h.g.block⟩⟩
theorem Cl.start {w W : World} {i F : Nat} (h : Cl w W i 0) (o : Obj) (e : clA i F = clA i 0) : Cl w (W.alloc o) i F := by
  have h1 := h.kept (alloc_g W o)
  exact ⟨h1.res, by rw [e]; exact h1.arr, h1.g⟩
theorem Cl.made (w : World) : Cl w ((w.alloc (.cells (clA 0 0) 63)).alloc (.cells (clA 0 0) 63)) 0 0 := by
  refine ⟨by rw [heap_alloc_old _ _ (by simp)]; exact heap_alloc_new _ _, ?_, two_g _ _ _⟩
  have := heap_alloc_new (w.alloc (.cells (clA 0 0) 63)) (.cells (clA 0 0) 63)
  rwa [show (w.alloc (.cells (clA 0 0) 63)).heap.size = w.heap.size + 1 by simp] at this
set_option maxHeartbeats 8000000 in
theorem classes_at (w : World) : Calls Tryd.prog 26 #[] w fun e w' => e = .returned (.agg (clA 9 0)) ∧ w.grownBy w' none := by
  have HC0 := hide (Cl.made w)
  rw [zero_lit] at HC0
  obtain ⟨RG, hRG⟩ : ∃ Z, rgA = Z := ⟨_, rfl⟩
  have hix0 := idx_rg
  rw [hRG] at hix0
  have HIx := hide hix0
  unfold rgA at hRG
  obtain ⟨V, hV⟩ : ∃ V, (w.alloc (.cells Tryd.zeroCells63 63)).alloc (.cells Tryd.zeroCells63 63) = V := ⟨_, rfl⟩
  rw [hV] at HC0
  clear hix0
  go_enter Tryd.func26, Tryd.ntmps26
  go_wp2
  go_loopw [3, 4, 15] (fun pv bv iv W => ∃ (i : Nat) (x y : Value), i ≤ 9 ∧ iv = .int .i64 i ∧ pv = x ∧ bv = y ∧ Hid (Cl w W i 0)) (fun _ _ iv _ => 9 - (intOf iv).toNat)
  case atStart => exact ⟨0, _, _, Nat.zero_le _, rfl, rfl, rfl, HC0⟩
  case round =>
    obtain ⟨i, px, py, hi, rfl, rfl, rfl, HC⟩ := hrel
    by_cases hlt : i < 9
    · have j1 : (i : Int) < 9 := by omega
      have hix := fun W => HIx.out i hlt W
      obtain ⟨rf1, rf2, rf3⟩ := rng_facts ⟨i, hlt⟩
      have HOr := hide (cl_or ⟨i, hlt⟩)
      have HSt := hide (clA_start i)
      have HEn := hide (clA_end hlt)
      simp only [] at rf1 rf2 rf3 HOr
      obtain ⟨F, hF⟩ : ∃ F, rFr i = F := ⟨_, rfl⟩
      obtain ⟨T, hT⟩ : ∃ T, rTo i = T := ⟨_, rfl⟩
      obtain ⟨M, hM⟩ : ∃ M, rIs i = M := ⟨_, rfl⟩
      have HF := hide hF
      rw [hF, hT, hM] at hix
      rw [hF, hT] at rf1
      rw [hT] at rf2 HEn
      rw [hM] at rf3
      rw [hF] at HSt
      rw [hF, hT, hM] at HOr
      have k1 : (T : Int) ≤ 255 := by omega
      clear hF hT hM hi
      obtain ⟨w0, hw0⟩ : ∃ w0, w0 = wr := ⟨wr, rfl⟩
      subst hw0
      have HQ := hide (show w.heap.size + 1 < w0.heap.size from (Array.getElem?_eq_some_iff.1 HC.out.arr).1)
      go_wp2
      go_loopw [4] (fun bv W => ∃ b : Nat, F ≤ b ∧ b ≤ T + 1 ∧ bv = .int .i64 b ∧ Hid (Cl w W i b) ∧ Hid (∃ t, W.heap[w0.heap.size]? = some (.cells #[.int .i64 F, .int .i64 T, .int .u8 M] t (0, 0)))) (fun bv _ => T + 1 - (intOf bv).toNat)
      case atStart =>
        exact ⟨F, Nat.le_refl _, by omega, rfl, hide (HC.out.start _ HSt.out), hide ⟨_, heap_alloc_new _ _⟩⟩
      case round =>
        obtain ⟨b, hb1, hb2, rfl, HCb, HRb⟩ := hrel
        obtain ⟨rt, hrow⟩ := HRb.out
        have c1 : wr.cell? ⟨w0.heap.size, 1, none⟩ = some (.int .i64 T) := by rw [cell_of_row _ _ _ _ _ _ hrow]; rfl
        have c2 : wr.cell? ⟨w0.heap.size, 2, none⟩ = some (.int .u8 M) := by rw [cell_of_row _ _ _ _ _ _ hrow]; rfl
        clear hrow
        by_cases hbt : b ≤ T
        · have k2 : (b : Int) ≤ T := by omega
          have hb256 : b < 256 := by omega
          have k3 : (b : Int) < 256 := by omega
          have hcell := HCb.out.cell hb256
          have hor := HOr.out ⟨b, hb256⟩ hb1 hbt
          simp only [] at hor
          have hfz := free_at (k := b) HCb.out.arr
          obtain ⟨C, hC⟩ : ∃ C : Int, (clN i b : Int) = C := ⟨_, rfl⟩
          rw [hC] at hcell hor
          have HS := hide (fun W (h : Cl w W i b) => h.set (by rw [HF.out]; exact hb1) hb256)
          obtain ⟨D, hD⟩ : ∃ D : Int, (clN (i + 1) b : Int) = D := ⟨_, rfl⟩
          rw [hD] at hor HS
          clear hC hD
          go_wp2
          go_region
          all_goals go_wp2
          all_goals exact ⟨⟨b + 1, by omega, by omega, by go_num, hide (HS.out _ HCb.out).drew, hide (by
            obtain ⟨t, h⟩ := HRb.out
            exact ⟨t, ((set_g _ _ _ _).block _ (Array.getElem?_eq_some_iff.1 h).1 (by have := HQ.out; simp; omega)).trans h⟩)⟩, by simp [intOf]; omega⟩
        · have k2 : ¬ (b : Int) ≤ T := by omega
          obtain rfl : b = T + 1 := by omega
          have HN := hide (show Cl w wr (i + 1) 0 from ⟨HCb.out.res, by rw [← HEn.out]; exact HCb.out.arr, HCb.out.g⟩)
          go_wp2
          go_roundw
          case rel => exact ⟨i + 1, _, _, by omega, by go_num, rfl, rfl, HN⟩
          case measure => simp [intOf]; omega
    · obtain rfl : i = 9 := by omega
      have hsz9 := clA_size 9 0
      have HRes := hide HC.out.res
      have HArr := hide HC.out.arr
      have hsc := stores_cls HC.out.res (clA_size 0 0) hsz9 (clA_one 9 0)
      obtain ⟨K, hK⟩ : ∃ K, clA 9 0 = K := ⟨_, rfl⟩
      rw [hK] at hsc hsz9 HArr
      have HK := hide hK
      clear hK
      go_wp2_with (refine wpList_load_row rfl 63 (.tmp 1) rfl (w.heap.size + 1) rfl 63 K (0, 0) _ HArr.out Tryd.underlying63 rfl (by rw [hsz9]; exact info_cls) ?_)
      refine bodyPost_ret (v := .agg K) (res1 Tryd.results26 rfl (loadv_cls (setRow_heap _ _ _ _ _ _ HRes.out) hsz9)) rfl ⟨by rw [HK.out], grown_own HC.out.g (Nat.le_refl _) (setRow_g _ _ _)⟩
end Go.Proofs.YthnkkcamfcmhmaaDoor.Lx
