/-
  What package cpu's reckon does, of what alu reckons.
-/
import Derived.Test.YtfdofleohichiaaDoorCpu6
namespace Go.Proofs.YtfdofleohichiaaDoor.Cpu
open Go.RowKit Go.Proofs.YtfdofleohichiaaDoor.Bits Go.Proofs.YtfdofleohichiaaDoor.Gw Go.Proofs.YtfdofleohichiaaDoor.Risc Go.Proofs.YtfdofleohichiaaDoor.Alu Go.Proofs.YtfdofleohichiaaDoor.Mem
set_option linter.unusedVariables false

section
variable {w : World} {a hb b : Nat} {o : Value} {inp : ByteArray} {s : Ms}
theorem grown_set6 (w : World) (b i1 i2 i3 i4 i5 i6 : Nat) (v1 v2 v3 v4 v5 v6 : Value) :
    w.grownBy ((((((w.setCell ⟨b, i1, none⟩ v1).setCell ⟨b, i2, none⟩ v2).setCell ⟨b, i3, none⟩ v3).setCell ⟨b, i4, none⟩ v4).setCell ⟨b, i5, none⟩ v5).setCell ⟨b, i6, none⟩ v6) (some b) :=
  grown_trans (grown_set3 _ _ _ _ _ _ _ _) (grown_set3 _ _ _ _ _ _ _ _)
theorem Mach.did6 (h : Mach w a hb b o inp s) (op : Int) (u : Bool) {ka : Nat} (kb : Nat) (hk : ka < 16) {n : Int} (hn : W32 n) {r h' : Int} {n' z' c' v' : Bool}
    (e1 : rI op u (at0 s.R kb) n s.h s.c = r) (e2 : hI op u (at0 s.R kb) n s.h = h') (e3 : sgB r = n') (e4 : (r == 0) = z') (e5 : cB op u (at0 s.R kb) n s.c = c') (e6 : vB op u (at0 s.R kb) n s.c s.v = v') :
    Mach ((((((w.setCell ⟨a, ka, none⟩ (wd r)).setCell ⟨a, 16, none⟩ (wd h')).setCell ⟨a, 17, none⟩ (.bool n')).setCell ⟨a, 18, none⟩ (.bool z')).setCell ⟨a, 19, none⟩ (.bool c')).setCell ⟨a, 20, none⟩ (.bool v')) a hb b o inp (s.did op u ka kb n) := by
  subst e1 e2 e3 e4 e5 e6
  refine h.wrote (grown_set6 _ _ _ _ _ _ _ _ _ _ _ _ _ _) ?_ rfl rfl (h.ok.did op u ka kb hn)
  have l := h.ok.r16
  rw [blk_set (blk_set (blk_set (blk_set (blk_set (blk_set h.blk ka _) 16 _) 17 _) 18 _) 19 _) 20 _, ms_reg _ _ _ _ l hk, ms_h _ _ _ _ (by simp [l]), ms_n _ _ _ _ (by simp [l]), ms_z _ _ _ _ (by simp [l]), ms_c _ _ _ _ (by simp [l]), ms_v _ _ _ _ (by simp [l])]
  rfl
theorem zf_cell {V V' : World} (g : G (V.alloc (.cells #[Value.bool false, Value.bool false, Value.bool false, Value.bool false] 48)) V') (i : Nat) {x : Value} (h : (#[Value.bool false, Value.bool false, Value.bool false, Value.bool false] : Array Value)[i]? = some x) : V'.cell? ⟨V.heap.size, i, none⟩ = some x := by
  rw [g.cell (by simp)]
  exact (cell_of_row (V.alloc (.cells #[Value.bool false, Value.bool false, Value.bool false, Value.bool false] 48)) V.heap.size i _ _ (0, 0) (heap_alloc_new V _)).trans h
theorem zf_free {V V' : World} (g : G (V.alloc (.cells #[Value.bool false, Value.bool false, Value.bool false, Value.bool false] 48)) V') (i : Nat) : V'.frozen? ⟨V.heap.size, i, none⟩ = false := by
  rw [g.frozen]
  unfold World.frozen?
  rw [heap_alloc_new V (.cells #[Value.bool false, Value.bool false, Value.bool false, Value.bool false] 48)]
  simp
theorem zf_blk {V V' : World} (g : G (V.alloc (.cells #[Value.bool false, Value.bool false, Value.bool false, Value.bool false] 48)) V') : V'.heap[V.heap.size]? = some (.cells [Value.bool false, Value.bool false, Value.bool false, Value.bool false].toArray 48 (0, 0)) := by
  obtain ⟨p, rfl⟩ := g
  rw [gr_old _ p (by simp)]
  exact heap_alloc_new V _
theorem zf_set {V' : World} {q : Nat} {l0 l1 l2 l3 : Value} {t : TypeId} (h : V'.heap[q]? = some (.cells [l0, l1, l2, l3].toArray t (0, 0))) (x0 x1 x2 x3 : Value) :
    ((((V'.setCell ⟨q, 0, none⟩ x0).setCell ⟨q, 1, none⟩ x1).setCell ⟨q, 2, none⟩ x2).setCell ⟨q, 3, none⟩ x3).cell? ⟨q, 0, none⟩ = some x0 ∧
    ((((V'.setCell ⟨q, 0, none⟩ x0).setCell ⟨q, 1, none⟩ x1).setCell ⟨q, 2, none⟩ x2).setCell ⟨q, 3, none⟩ x3).cell? ⟨q, 1, none⟩ = some x1 ∧
    ((((V'.setCell ⟨q, 0, none⟩ x0).setCell ⟨q, 1, none⟩ x1).setCell ⟨q, 2, none⟩ x2).setCell ⟨q, 3, none⟩ x3).cell? ⟨q, 2, none⟩ = some x2 ∧
    ((((V'.setCell ⟨q, 0, none⟩ x0).setCell ⟨q, 1, none⟩ x1).setCell ⟨q, 2, none⟩ x2).setCell ⟨q, 3, none⟩ x3).cell? ⟨q, 3, none⟩ = some x3 := by
  have := blk_set (blk_set (blk_set (blk_set h 0 x0) 1 x1) 2 x2) 3 x3
  exact ⟨(cell_blk this 0).trans (by simp), (cell_blk this 1).trans (by simp), (cell_blk this 2).trans (by simp), (cell_blk this 3).trans (by simp)⟩
theorem cell_off (V : World) (a i : Nat) (v : Value) {b : Nat} (j : Nat) (h : ¬ b = a) : (V.setCell ⟨a, i, none⟩ v).cell? ⟨b, j, none⟩ = V.cell? ⟨b, j, none⟩ :=
  World.cell?_of_block (w := V) (Below.heap_setCell V ⟨a, i, none⟩ v b h)
theorem cell_dr (V : World) (x : Addr) : V.drew.cell? x = V.cell? x := rfl
theorem did_val {op : Int} {u : Bool} {x n h : Int} {C V : Bool} (hk : Alu.okB op u = true) : doV op u x n h C V =
    .tuple #[.int .u32 (rI op u x n h C), .int .u32 (hI op u x n h), .agg #[.bool (sgB (rI op u x n h C)), .bool (rI op u x n h C == 0), .bool (cB op u x n C), .bool (vB op u x n C V)], .bool true] := by
  unfold doV; rw [if_pos hk]; rfl
set_option maxHeartbeats 4000000 in
set_option maxRecDepth 100000 in
theorem reckon_c (h : Mach w a hb b o inp s) (f : Int) (u v : Bool) (ka kb kc : Nat) (op im : Int) (hka : ka < 16) (hkb : kb < 16) (hkc : kc < 16) (hf : f = 0 ∨ f = 1) (hi : f = 1 → 0 ≤ im ∧ im ≤ 65535) (hk : Alu.okB op u = true)
    (n1 : ¬ (op = 0 ∧ u = true ∧ f = 1)) (n2 : ¬ (op = 0 ∧ u = true ∧ v = true)) :
    Calls Tryd.prog 22 #[ptr a, ins f u v ka kb kc op im] w fun e w' => e = .returned unit ∧ Mach w' a hb b o inp (s.did op u ka kb (s.opd f v kc im)) ∧ w.grownBy w' (some a) := by
  have HM := hd h
  have ia0 : (0 : Int) ≤ (ka : Int) := by omega
  have ia1 : (ka : Int) < 16 := by omega
  have ib0 : (0 : Int) ≤ (kb : Int) := by omega
  have ib1 : (kb : Int) < 16 := by omega
  obtain ⟨N, hN⟩ : ∃ N, s.opd f v kc im = N := ⟨_, rfl⟩
  have HN := hd hN
  have HNW : Hid (W32 N) := hd (by rw [← hN]; exact h.ok.opd hf hi)
  obtain ⟨A, hA⟩ : ∃ A, at0 s.R kb = A := ⟨_, rfl⟩
  have HA := hd hA
  have HAW : Hid (W32 A) := hd (by rw [← hA]; exact h.ok.reg kb)
  obtain ⟨r, hr⟩ : ∃ r, rI op u A N s.h s.c = r := ⟨_, rfl⟩
  obtain ⟨h', hh'⟩ : ∃ h', hI op u A N s.h = h' := ⟨_, rfl⟩
  obtain ⟨n', hn'⟩ : ∃ n', sgB r = n' := ⟨_, rfl⟩
  obtain ⟨z', hz'⟩ : ∃ z', (r == 0) = z' := ⟨_, rfl⟩
  obtain ⟨c', hc'⟩ : ∃ c', cB op u A N s.c = c' := ⟨_, rfl⟩
  obtain ⟨v', hv'⟩ : ∃ v', vB op u A N s.c s.v = v' := ⟨_, rfl⟩
  have HV : Hid (doV op u A N s.h s.c s.v = .tuple #[.int .u32 r, .int .u32 h', .agg #[.bool n', .bool z', .bool c', .bool v'], .bool true]) := hd (by rw [did_val hk, hr, hn', hz', hh', hc', hv'])
  have HE := hd (And.intro hr (And.intro hh' (And.intro hn' (And.intro hz' (And.intro hc' hv')))))
  rw [hN]
  have HF := hd (And.intro hf hi)
  have H1 := hd n1
  have H2 := hd n2
  clear h hN hA hr hh' hn' hz' hc' hv' hf hi n1 n2
  (go_enter Tryd.func22, Tryd.ntmps22; go_upto_region 1 with fail; have HBx := hd (bx_new w f u v ka kb kc op im); have HG := hd ((G.refl w).alloc #[Value.int IntKind.i64 f, Value.bool u, Value.bool v, Value.int IntKind.i64 ↑ka, Value.int IntKind.i64 ↑kb, Value.int IntKind.i64 ↑kc, Value.int IntKind.i64 op, Value.int IntKind.i64 im] 39); have nx : ¬ w.heap.size = a := (by have := HM.out.lt; omega); generalize w.alloc (Obj.cells #[Value.int IntKind.i64 f, Value.bool u, Value.bool v, Value.int IntKind.i64 ↑ka, Value.int IntKind.i64 ↑kb, Value.int IntKind.i64 ↑kc, Value.int IntKind.i64 op, Value.int IntKind.i64 im] 39) = W at HBx HG ⊢; generalize w.heap.size = X at HBx nx ⊢; have HMW := hd (HM.out.g HG.out); obtain ⟨b0, b1, b2, b3, b4, b5, b6, b7, _⟩ := HBx.out)
  go_cut [19] from 8 (fun s19 wc => W = wc ∧ s19 = .bool false)
  case first =>
    cases e1 : (op == 0)
    · go_wp2
      go_meet
      case rel => exact ⟨rfl, rfl⟩
    · cases u
      · go_wp2
        go_meet
        case rel => exact ⟨rfl, rfl⟩
      · have e2 : (f == 1) = false := by simpa using fun e => H1.out ⟨by simpa using e1, rfl, e⟩
        go_wp2
        go_meet
        case rel => exact ⟨rfl, rfl⟩
  case rest =>
  obtain ⟨rfl, rfl⟩ := hcut
  go_upto_region 3 with fail
  go_cut [38] from 8 (fun s38 wc => W = wc ∧ s38 = .bool false)
  case first =>
    cases e1 : (op == 0)
    · go_wp2
      go_meet
      case rel => exact ⟨rfl, rfl⟩
    · cases u
      · go_wp2
        go_meet
        case rel => exact ⟨rfl, rfl⟩
      · have e2 : v = false := by simpa using fun e => H2.out ⟨by simpa using e1, rfl, e⟩
        subst e2
        go_wp2
        go_meet
        case rel => exact ⟨rfl, rfl⟩
  case rest =>
  obtain ⟨rfl, rfl⟩ := hcut
  go_upto_region 5 with fail
  have K0 : ∀ V, G W V → V.cell? ⟨X, 0, none⟩ = some (.int .i64 f) := fun V g => (HBx.out.g g).b0
  have K1 : ∀ V, G W V → V.cell? ⟨X, 1, none⟩ = some (.bool u) := fun V g => (HBx.out.g g).b1
  have K2 : ∀ V, G W V → V.cell? ⟨X, 2, none⟩ = some (.bool v) := fun V g => (HBx.out.g g).b2
  have K3 : ∀ V, G W V → V.cell? ⟨X, 3, none⟩ = some (.int .i64 ka) := fun V g => (HBx.out.g g).b3
  have K4 : ∀ V, G W V → V.cell? ⟨X, 4, none⟩ = some (.int .i64 kb) := fun V g => (HBx.out.g g).b4
  have K5 : ∀ V, G W V → V.cell? ⟨X, 5, none⟩ = some (.int .i64 kc) := fun V g => (HBx.out.g g).b5
  have K6 : ∀ V, G W V → V.cell? ⟨X, 6, none⟩ = some (.int .i64 op) := fun V g => (HBx.out.g g).b6
  have K7 : ∀ V, G W V → V.cell? ⟨X, 7, none⟩ = some (.int .i64 im) := fun V g => (HBx.out.g g).b7
  have K8 : ∀ V, G W V → V.cell? ⟨a, kb, none⟩ = some (wd A) := fun V g => by rw [← HA.out]; exact (HMW.out.g g).reg hkb
  have K16 : ∀ V, G W V → V.cell? ⟨a, 16, none⟩ = some (wd s.h) := fun V g => (HMW.out.g g).ch
  have K17 : ∀ V, G W V → V.cell? ⟨a, 17, none⟩ = some (.bool s.n) := fun V g => (HMW.out.g g).cn
  have K18 : ∀ V, G W V → V.cell? ⟨a, 18, none⟩ = some (.bool s.z) := fun V g => (HMW.out.g g).cz
  have K19 : ∀ V, G W V → V.cell? ⟨a, 19, none⟩ = some (.bool s.c) := fun V g => (HMW.out.g g).cc
  have K20 : ∀ V, G W V → V.cell? ⟨a, 20, none⟩ = some (.bool s.v) := fun V g => (HMW.out.g g).cv
  have y0 : G W W := G.refl W
  have Z0 : ∀ (V : World) (p : By), (gr (V.alloc (.cells #[Value.bool false, Value.bool false, Value.bool false, Value.bool false] 48)) p).cell? ⟨V.heap.size, 0, none⟩ = some (.bool false) := fun V p => zf_cell (G.of _ p) 0 rfl
  have X0 : ∀ p : By, (gr (W.alloc (.cells #[Value.bool false, Value.bool false, Value.bool false, Value.bool false] 48)).drew p).cell? ⟨W.heap.size, 0, none⟩ = some (.bool false) := fun p => zf_cell (G.gr (G.drew (G.refl _)) p) 0 rfl
  have Z1 : ∀ (V : World) (p : By), (gr (V.alloc (.cells #[Value.bool false, Value.bool false, Value.bool false, Value.bool false] 48)) p).cell? ⟨V.heap.size, 1, none⟩ = some (.bool false) := fun V p => zf_cell (G.of _ p) 1 rfl
  have X1 : ∀ p : By, (gr (W.alloc (.cells #[Value.bool false, Value.bool false, Value.bool false, Value.bool false] 48)).drew p).cell? ⟨W.heap.size, 1, none⟩ = some (.bool false) := fun p => zf_cell (G.gr (G.drew (G.refl _)) p) 1 rfl
  have Z2 : ∀ (V : World) (p : By), (gr (V.alloc (.cells #[Value.bool false, Value.bool false, Value.bool false, Value.bool false] 48)) p).cell? ⟨V.heap.size, 2, none⟩ = some (.bool false) := fun V p => zf_cell (G.of _ p) 2 rfl
  have X2 : ∀ p : By, (gr (W.alloc (.cells #[Value.bool false, Value.bool false, Value.bool false, Value.bool false] 48)).drew p).cell? ⟨W.heap.size, 2, none⟩ = some (.bool false) := fun p => zf_cell (G.gr (G.drew (G.refl _)) p) 2 rfl
  have Z3 : ∀ (V : World) (p : By), (gr (V.alloc (.cells #[Value.bool false, Value.bool false, Value.bool false, Value.bool false] 48)) p).cell? ⟨V.heap.size, 3, none⟩ = some (.bool false) := fun V p => zf_cell (G.of _ p) 3 rfl
  have X3 : ∀ p : By, (gr (W.alloc (.cells #[Value.bool false, Value.bool false, Value.bool false, Value.bool false] 48)).drew p).cell? ⟨W.heap.size, 3, none⟩ = some (.bool false) := fun p => zf_cell (G.gr (G.drew (G.refl _)) p) 3 rfl
  have hgg := gr_gr
  have hfz := gr_frozen
  have F0 : ∀ (V : World) (i : Nat), (V.alloc (.cells #[Value.bool false, Value.bool false, Value.bool false, Value.bool false] 48)).frozen? ⟨V.heap.size, i, none⟩ = false := fun V i => zf_free (G.refl _) i
  have F1 : ∀ i : Nat, (W.alloc (.cells #[Value.bool false, Value.bool false, Value.bool false, Value.bool false] 48)).drew.frozen? ⟨W.heap.size, i, none⟩ = false := fun i => zf_free (V := W) (G.drew (G.refl _)) i
  have la : a < W.heap.size := HMW.out.lt
  have s0 : W.heap.size ≤ W.drew.heap.size := Nat.le_refl _
  have s1 : ∀ p : By, W.heap.size ≤ (gr W.drew p).heap.size := fun p => by rw [gr_size]; exact Nat.le_add_right _ _
  go_cut [4, 5, 6, 7] from 8 (fun s4 s5 s6 s7 wc => ∃ q, s4 = wd r ∧ s5 = wd h' ∧ s6 = ptr q ∧ G W wc ∧ a < q ∧ wc.cell? ⟨q, 0, none⟩ = some (.bool n') ∧ wc.cell? ⟨q, 1, none⟩ = some (.bool z') ∧ wc.cell? ⟨q, 2, none⟩ = some (.bool c') ∧ wc.cell? ⟨q, 3, none⟩ = some (.bool v'))
  case first =>
    go_region_held3 (fun V => G W V) ((with_reducible repeat' (first | exact y0 | exact s0 | exact s1 _ | exact Nat.le_refl _ | apply G.gr | apply G.drew | apply G.alloc | refine G.set ?_ ?_ _)))
      (first
      | (go_at_call 39; refine (opd_any (HMW.out.g (by (with_reducible repeat' (first | exact y0 | exact s0 | exact s1 _ | exact Nat.le_refl _ | apply G.gr | apply G.drew | apply G.alloc | refine G.set ?_ ?_ _)))) _ _ _ _ _ _ _ _ hkc HF.out.1 HF.out.2).mono ?_; rw [HN.out]; rintro e w1 ⟨rfl, p, rfl⟩)
      | (go_at_call 38; refine (do_any _ _ _ _ _ _ _ _ _ _ HAW.out.1 HAW.out.2 HNW.out.1 HNW.out.2).mono ?_; rw [HV.out]; rintro e w2 ⟨rfl, q, rfl⟩))
    all_goals (go_wp2_with fail; go_meet)
    all_goals (case rel =>
      clear K0 K1 K2 K3 K4 K5 K6 K7 K8 K16 K17 K18 K19 K20 F0 F1 hgg hfz
      refine ⟨_, rfl, rfl, rfl, ?_, ?_, ?_⟩
      · (with_reducible repeat' (first | exact y0 | exact s0 | exact s1 _ | exact Nat.le_refl _ | apply G.gr | apply G.drew | apply G.alloc | refine G.set ?_ ?_ _))
      · (first | with_reducible exact la | with_reducible exact Nat.lt_of_lt_of_le la (s1 _))
      · (first | with_reducible exact zf_set (zf_blk (G.of _ _)) _ _ _ _ | with_reducible exact zf_set (zf_blk (G.gr (G.drew (G.refl _)) _)) _ _ _ _ | exact ⟨by simp, by simp, by simp, by simp⟩))
  case rest =>
    obtain ⟨q, rfl, rfl, rfl, gc, hq, q0, q1, q2, q3⟩ := hcut
    have nq : ¬ q = a := by omega
    clear K0 K1 K2 K3 K4 K5 K6 K7 K8 K16 K17 K18 K19 K20 Z0 Z1 Z2 Z3 X0 X1 X2 X3 F0 F1 hgg hfz b0 b1 b2 b3 b4 b5 b6 b7 y0 s0 s1
    have HG2 := hd (G.trans HG.out gc)
    have HMC := hd (HM.out.g HG2.out)
    have b3 := (HBx.out.g gc).b3
    have c0 := HMC.out.reg hka
    have f0 := HMC.out.free ka
    have c16 := HMC.out.ch
    have f16 := HMC.out.free 16
    have c17 := HMC.out.cn
    have f17 := HMC.out.free 17
    have c18 := HMC.out.cz
    have f18 := HMC.out.free 18
    have c19 := HMC.out.cc
    have f19 := HMC.out.free 19
    have c20 := HMC.out.cv
    have f20 := HMC.out.free 20
    have d16 : ¬ ka = 16 := by omega
    have d17 : ¬ ka = 17 := by omega
    have d18 : ¬ ka = 18 := by omega
    have d19 : ¬ ka = 19 := by omega
    have d20 : ¬ ka = 20 := by omega
    clear gc
    go_wp2
    go_region_held3 (fun V => V.cell? ⟨X, 3, none⟩ = some (.int .i64 ka) ∧ V.cell? ⟨q, 0, none⟩ = some (.bool n') ∧ V.cell? ⟨q, 1, none⟩ = some (.bool z') ∧ V.cell? ⟨q, 2, none⟩ = some (.bool c') ∧ V.cell? ⟨q, 3, none⟩ = some (.bool v'))
      (((try simp only [cell_dr, cell_off _ _ _ _ _ nx, cell_off _ _ _ _ _ nq]); exact ⟨b3, q0, q1, q2, q3⟩)) (fail)
    go_wp2
    go_end0
    obtain ⟨hr, hh', hn', hz', hc', hv'⟩ := HE.out
    rw [← HA.out] at hr hh' hc' hv'
    exact ⟨rfl, (HMC.out.did6 op u kb hka HNW.out hr hh' hn' hz' hc' hv').g (G.drew (G.refl _)), grown_drew (grown_trans (grown_g HG2.out _) (grown_set6 _ _ _ _ _ _ _ _ _ _ _ _ _ _))⟩
end
end Go.Proofs.YtfdofleohichiaaDoor.Cpu
