/-
  For every list of words and every list of calls, the law MemoryPlays answers true: calls one behind the other answer as the document says, and what becomes of a fork changes nothing of the one it came of; no conditions.
-/
import Derived.Test.YthdmlcendkmnbaaRows
import Derived.Test.YthdmlcendkmnbaaMargs
import Derived.WalkKit
import Derived.ProofKit
import Derived.Below
import Derived.Test.YthdmlcendkmnbaaMem9
import Derived.Deep.Cut
import Derived.Deep.RegionHeld3
namespace Go.Proofs.Ythdmlcendkmnbaa.memoryPlays
open Go.ChangeShapes Go.WideShapes Go.ChangeAt Go.RowKit Go.Proofs.Ythdmlcendkmnbaa.Mem Go.Proofs.Ythdmlcendkmnbaa.Bits
set_option linter.unusedVariables false

theorem x_kept {w w' : World} {b X : Nat} {y : Value} (hg : w.grownBy w' (some b)) (hb : b ≠ X) (h2 : w.cell? ⟨X, 2, none⟩ = some y) : w'.cell? ⟨X, 2, none⟩ = some y := hg.cell h2 (by simp; omega)
theorem rel46 {n : Nat} (t : Bool) (h : t = false → n ≤ 70000) : Value.bool t = .bool true ∨ (Value.bool t = .bool false ∧ n ≤ 70000) := by
  cases t
  · exact .inr ⟨rfl, h rfl⟩
  · exact .inl rfl
theorem xs_kept {w w' : World} {b X : Nat} {x y : Value} (hg : w.grownBy w' (some b)) (hb : b < X) (h1 : w.cell? ⟨X, 1, none⟩ = some x) (h2 : w.cell? ⟨X, 2, none⟩ = some y) : w'.cell? ⟨X, 1, none⟩ = some x ∧ w'.cell? ⟨X, 2, none⟩ = some y :=
  ⟨hg.cell h1 (by simp; omega), hg.cell h2 (by simp; omega)⟩
theorem pl_new {B : Nat} {w w2 w3 : World} {m q : Value} {b b' n : Nat} {xs : List Int} (HB2 : Hid (Below B w w2)) (HBB : Hid (B = w.heap.size)) (hg : w2.grownBy w3 none) (hl : xs.length = n)
    (om : Ob 50 w2 m b (capL n xs)) (lb : B ≤ b) (ub : b < w2.heap.size) (e1 : 65536 < n → nl m) (e2 : ¬ 65536 < n → ¬ nl m)
    (oq : Ob 52 w3 q b' (capL n xs)) (lb' : B ≤ b') (ub' : b' < w3.heap.size) (e1' : 65536 < n → nl q) (e2' : ¬ 65536 < n → ¬ nl q ∧ w2.heap.size ≤ b') : PL B w w3 m q b b' (capL n xs) := by
  refine ⟨om.kept hg, oq, ?_, lb, lb', Nat.lt_of_lt_of_le ub hg.size, ub', len_cap n xs hl, (bn HB2 HBB hg).out, HBB.out⟩
  by_cases h : 65536 < n
  · exact .inl ⟨e1 h, e1' h⟩
  · have := e2' h
    exact .inr ⟨e2 h, this.1, by omega⟩
set_option maxHeartbeats 8000000 in
set_option maxRecDepth 100000 in

theorem walk (w : World) (o0 : Option Addr) (n0 c0 : Nat) (x0 : List Int) (W0 : Wl w o0 n0 c0 x0) (o1 : Option Addr) (n1 c1 : Nat) (f1 : Nat → St) (S1 : Sl w o1 n1 f1) :
    Calls Try.prog 3 #[.slice o0 n0 c0, .slice o1 n1 c1] w fun e w' => e = .returned (.bool true) ∧ Below w.heap.size w w' := by
  obtain ⟨B, hBB⟩ : ∃ B, B = w.heap.size := ⟨_, rfl⟩
  have HBB : Hid (B = w.heap.size) := hBB
  have HB : Hid (Below B w w) := Below.refl _ _
  have HW : Hid (Wl w o0 n0 c0 x0) := W0
  have HT : Hid (Sl w o1 n1 f1) := S1
  have hmax := W0.max
  have hmax1 := S1.max
  unfold maxLen at hmax hmax1
  rw [← hBB]
  clear hBB W0 S1
  go_enter Try.func3, Try.ntmps3
  go_upto_region 1 with fail
  go_cut [46] from 34 (fun s46 wc => w = wc ∧ (s46 = .bool true ∨ (s46 = .bool false ∧ n0 ≤ 70000)))
  case first =>
   as_aux_lemma =>
    go_wp2
    all_goals go_meet
    all_goals (case rel => first | exact ⟨rfl, .inl rfl⟩ | exact ⟨rfl, rel46 _ (fun h => by simp at h; omega)⟩)
  case rest =>
    obtain ⟨rfl, rfl | ⟨rfl, hn3⟩⟩ := hcut
    · go_wp2_with (go_at_call 7; refine (wakes_any _).mono ?_; rintro e w8 ⟨rfl, hg⟩; have HB8 := bn HB HBB hg; clear hg)
      go_ret
      exact ⟨rfl, HB8.out⟩
    · go_upto_region 5 with (first | (at_builtin; refine wpList_append_src (w0 := w) rfl (.tmp 48) (.tmp 49) rfl w.heap.size rfl (heap_alloc_new _ _) _ _ _ rfl x0 (HW.out.src.kept (World.grownBy_alloc _ _ _)) HW.out.rng HW.out.len HW.out.none (by omega) w.heap.size (Nat.le_refl _) ((Below.refl _ _).alloc (Nat.le_refl _) _) ?_; intro bb cc w1 hbb ha hw; have HA := hid ha; rw [← HBB.out] at hw hbb; have HB1 := hid hw; have HS1 := hid (HW.out.src.kept (grown_below (HBB.out ▸ hw))); clear ha hw) | (go_at_call 8; refine (new_u HA.out.src HA.out.rng HW.out.len (by omega) hbb HA.out.lt).mono ?_; rintro e w2 ⟨m, b, rfl, hg, om, lb, ub, e1, e2⟩; have HA2 := hid (HA.out.kept hg (by simp)); have HS2 := hid (HS1.out.kept hg); have HM := hid (And.intro om (And.intro lb (And.intro ub (And.intro e1 e2)))); have HB2 := bn HB1 HBB hg; clear hg om lb ub e1 e2))
      go_upto_region 8 with (first | (go_at_call 9; refine (rnew_u HS2.out HW.out.rng HW.out.none HW.out.len (by omega) hbb HA2.out.lt).mono ?_; rintro e w3 ⟨q, b', rfl, hg, oq, lb', ub', e1', e2'⟩; obtain ⟨om, lb, ub, e1, e2⟩ := HM.out; have HP := hid (pl_new HB2 HBB hg HW.out.len om lb ub e1 (fun h => (e2 h).1) oq lb' ub' e1' e2'); have HA3 := hid (HA2.out.kept hg (by simp)); have HS3 := hid (HS2.out.kept hg); clear hg oq lb' ub' e1' e2' om lb ub e1 e2) | (go_at_call 10; refine (size_ob HP.out.om).mono ?_; rintro e w' ⟨rfl, rfl⟩) | (go_at_call 11; refine (rsize_ob HP.out.oq).mono ?_; rintro e w' ⟨rfl, rfl⟩) | (go_at_call 12; refine (keep_v (HA3.out.rd HW.out.len) (⟨_, _, by rw [HW.out.len], HS3.out⟩) (by rw [HW.out.len]; omega)).mono ?_; rintro e w4 ⟨rfl, hg⟩; have HP4 := hid (HP.out.kept hg); clear hg))
      go_wp2
      go_loopw [6, 8, 10] (fun m q j wr => ∃ (k b b' : Nat) (xs : List Int), k ≤ n1 ∧ j = .int .i64 k ∧ PL B w wr m q b b' xs)
        (fun _ _ j _ => n1 - (intOf j).toNat)
      case atStart => exact ⟨0, _, _, _, Nat.zero_le _, rfl, HP4.out⟩
      case round =>
        clear HP4 HP HA HA2 HA3 HS1 HS2 HS3 HB1 HB2 HM hbb
        obtain ⟨k, b, b', xs, hk, rfl, hp⟩ := hrel
        have HP := hid hp
        have hsz := hp.sz
        clear hp
        by_cases hlt : k < n1 ∧ k < 60
        · obtain ⟨hlt1, hlt2⟩ := hlt
          have i1 : (k : Int) < (n1 : Int) := by omega
          have i2 : (k : Int) < 60 := by omega
          obtain ⟨ad, rfl⟩ : ∃ ad, o1 = some ad := by
            cases o1 with
            | none => have := HT.out.none rfl; omega
            | some ad => exact ⟨ad, rfl⟩
          obtain ⟨A, hA⟩ : ∃ A, ad.add (k * 5) = A := ⟨_, rfl⟩
          obtain ⟨s0, s1, s2, s3, s4⟩ := HT.out.at' ad rfl k hlt1
          rw [hA] at s0 s1 s2 s3 s4
          rw [Addr.add_zero'] at s0
          rw [Addr.add_succ'] at s1 s2 s3 s4
          simp only [Nat.zero_add, Nat.reduceAdd] at s1 s2 s3 s4
          obtain ⟨o0, o1, o2, o3, o4⟩ := HT.out.ok k hlt1
          have kp : ∀ {a : Addr} {x : Value}, w.cell? a = some x → wr.cell? a = some x := fun {a x} h => (HP.out.bel.cell (by rw [HBB.out]; exact World.block_lt_of_cell? w _ h)).trans h
          replace s0 := kp s0
          replace s1 := kp s1
          replace s2 := kp s2
          replace s3 := kp s3
          replace s4 := kp s4
          obtain ⟨sk, hsk⟩ : ∃ x, (f1 k).k = x := ⟨_, rfl⟩
          obtain ⟨sp, hsp⟩ : ∃ x, (f1 k).p = x := ⟨_, rfl⟩
          obtain ⟨sv, hsv⟩ : ∃ x, (f1 k).v = x := ⟨_, rfl⟩
          obtain ⟨si, hsi⟩ : ∃ x, (f1 k).i = x := ⟨_, rfl⟩
          obtain ⟨sn, hsn⟩ : ∃ x, (f1 k).n = x := ⟨_, rfl⟩
          rw [hsk] at s0 o0
          rw [hsp] at s1 o1
          rw [hsv] at s2 o2
          rw [hsi] at s3 o3
          rw [hsn] at s4 o4
          obtain ⟨p0, p1⟩ := bounds_u32 o1
          obtain ⟨v0, v1⟩ := bounds_u32 o2
          obtain ⟨q0, q1⟩ := bounds_i64 o3
          clear kp hsk hsp hsv hsi hsn o0 o1 o2 o3 o4
          go_upto_region 13 with fail
          have HPx : Hid (PL B w (wr.alloc (Obj.cells #[Value.int IntKind.i64 sk, Value.int IntKind.u32 sp, Value.int IntKind.u32 sv, Value.int IntKind.i64 si, Value.int IntKind.i64 sn] 36)) u6 u8 b b' xs) := HP.out.kept (World.grownBy_alloc _ _ _)
          have x1 : (wr.alloc (Obj.cells #[Value.int IntKind.i64 sk, Value.int IntKind.u32 sp, Value.int IntKind.u32 sv, Value.int IntKind.i64 si, Value.int IntKind.i64 sn] 36)).cell? ⟨wr.heap.size, 1, none⟩ = some (.int .u32 sp) := by simp
          have x2 : (wr.alloc (Obj.cells #[Value.int IntKind.i64 sk, Value.int IntKind.u32 sp, Value.int IntKind.u32 sv, Value.int IntKind.i64 si, Value.int IntKind.i64 sn] 36)).cell? ⟨wr.heap.size, 2, none⟩ = some (.int .u32 sv) := by simp
          have x3 : (wr.alloc (Obj.cells #[Value.int IntKind.i64 sk, Value.int IntKind.u32 sp, Value.int IntKind.u32 sv, Value.int IntKind.i64 si, Value.int IntKind.i64 sn] 36)).cell? ⟨wr.heap.size, 3, none⟩ = some (.int .i64 si) := by simp
          have x4 : (wr.alloc (Obj.cells #[Value.int IntKind.i64 sk, Value.int IntKind.u32 sp, Value.int IntKind.u32 sv, Value.int IntKind.i64 si, Value.int IntKind.i64 sn] 36)).cell? ⟨wr.heap.size, 4, none⟩ = some (.int .i64 sn) := by simp
          have ub := HP.out.ub
          have ub' := HP.out.ub'
          have xl : wr.heap.size < (wr.alloc (Obj.cells #[Value.int IntKind.i64 sk, Value.int IntKind.u32 sp, Value.int IntKind.u32 sv, Value.int IntKind.i64 si, Value.int IntKind.i64 sn] 36)).heap.size := by simp
          clear s0 s1 s2 s3 s4 hA HP hsz
          generalize (wr.alloc (Obj.cells #[Value.int IntKind.i64 sk, Value.int IntKind.u32 sp, Value.int IntKind.u32 sv, Value.int IntKind.i64 si, Value.int IntKind.i64 sn] 36)) = wx at HPx x1 x2 x3 x4 xl ⊢
          generalize wr.heap.size = X at x1 x2 x3 x4 xl ub ub' ⊢
          have p1' : sp < 4294967296 := by omega
          have v1' : sv < 4294967296 := by omega
          have hlen := HPx.out.len
          by_cases k0 : sk = 0
          · as_aux_lemma =>
              subst k0
              go_wp2_with (first | (go_at_call 13; refine (load_ob HPx.out.om _ p0 p1').mono ?_; rintro e w' ⟨rfl, rfl⟩) | (go_at_call 14; refine (rload_ob HPx.out.oq _ p0 p1').mono ?_; rintro e w' ⟨rfl, rfl⟩))
              exact ⟨⟨k + 1, b, b', xs, by omega, by go_num, HPx.out⟩, by simp [intOf]; omega⟩
          by_cases k1 : sk = 1
          · as_aux_lemma =>
              subst k1
              go_upto_region 19 with fail
              have HPd := hid (HPx.out.kept (grown_drew (World.grownBy.refl _ _)))
              go_region_held3 (fun W => W.cell? ⟨X, 1, none⟩ = some (.int .u32 sp) ∧ W.cell? ⟨X, 2, none⟩ = some (.int .u32 sv)) (first | exact ⟨x1, x2⟩ | exact y1 | exact y2) (first | (go_at_call 15; refine (store_ob HPd.out.om _ _ p0 p1' v0 v1').mono ?_; rintro e w5 ⟨rfl, hg1, ho1⟩; have y1 := xs_kept hg1 ub x1 x2; have HQ1 := hid (HPd.out.oq.else (by decide) HPd.out.om HPd.out.ap.qm hg1); have HG1 := hid hg1; have HO1 := hid ho1; clear hg1 ho1) | (go_at_call 16; refine (rstore_ob HQ1.out _ _ p0 p1' v0 v1').mono ?_; rintro e w6 ⟨rfl, hg2, ho2⟩; have y2 := xs_kept hg2 ub' y1.1 y1.2; have HPs := hid (HPd.out.stored HG1.out HO1.out HQ1.out hg2 ho2 (by rw [len_st]; exact hlen)); clear hg2 ho2))
              all_goals go_wp2
              all_goals exact ⟨⟨k + 1, b, b', _, by omega, by go_num, HPs.out⟩, by simp [intOf]; omega⟩
          by_cases k2 : sk = 2
          · as_aux_lemma =>
              subst k2
              go_wp2_with (first | (go_at_call 17; refine (byte_v HPx.out.om _ p0 p1').mono ?_; rintro e wa ⟨rfl, hg⟩; have HPa := hid (HPx.out.kept hg); replace x1 := hg.cell x1 (by simp); clear hg) | (go_at_call 18; refine (rbyte_v HPa.out.oq _ p0 p1').mono ?_; rintro e wb ⟨rfl, hg⟩; have HPb := hid (HPa.out.kept hg); clear hg))
              exact ⟨⟨k + 1, b, b', xs, by omega, by go_num, HPb.out⟩, by simp [intOf]; omega⟩
          by_cases k3 : sk = 3
          · as_aux_lemma =>
              subst k3
              go_upto_region 27 with fail
              have HPd := hid (HPx.out.kept (grown_drew (World.grownBy.refl _ _)))
              go_region_held3 (fun W => W.cell? ⟨X, 1, none⟩ = some (.int .u32 sp) ∧ W.cell? ⟨X, 2, none⟩ = some (.int .u32 sv)) (first | exact ⟨x1, x2⟩ | exact y1 | exact y2) (first | (go_at_call 19; refine (putb_ob HPd.out.om _ _ p0 p1' v0 v1').mono ?_; rintro e w5 ⟨rfl, hg1, ho1⟩; have y1 := xs_kept hg1 ub x1 x2; have HQ1 := hid (HPd.out.oq.else (by decide) HPd.out.om HPd.out.ap.qm hg1); have HG1 := hid hg1; have HO1 := hid ho1; clear hg1 ho1) | (go_at_call 20; refine (rputb_ob HQ1.out _ _ p0 p1' v0 v1').mono ?_; rintro e w6 ⟨rfl, hg2, ho2⟩; have y2 := xs_kept hg2 ub' y1.1 y1.2; have HPs := hid (HPd.out.stored HG1.out HO1.out HQ1.out hg2 ho2 (by rw [len_pb]; exact hlen)); clear hg2 ho2))
              all_goals go_wp2
              all_goals exact ⟨⟨k + 1, b, b', _, by omega, by go_num, HPs.out⟩, by simp [intOf]; omega⟩
          by_cases k4 : sk = 4
          · as_aux_lemma =>
              subst k4
              go_wp2_with (first | (go_at_call 21; refine (words_u HPx.out.om hlen _ _ q1).mono ?_; rintro e wa ⟨r1, rfl, hg, hr⟩; have HPa := hid (HPx.out.kept hg); have HRa := hid hr; replace x3 := hg.cell x3 (by simp); replace x4 := hg.cell x4 (by simp); clear hg hr) | (go_at_call 22; refine (rwords_u HPa.out.oq hlen _ _ q1).mono ?_; rintro e wb ⟨r2, rfl, hg, hr⟩; have HPb := hid (HPa.out.kept hg); have HRb := hid hr; have HRc := hid (HRa.out.kept hg); clear hg hr) | (go_at_call 12; refine (keep_v HRc.out HRb.out (Nat.le_trans (len_cut _ _ _) (by omega))).mono ?_; rintro e wk ⟨rfl, hg⟩; have HPk := hid (HPb.out.kept hg); clear hg))
              exact ⟨⟨k + 1, b, b', xs, by omega, by go_num, HPk.out⟩, by simp [intOf]; omega⟩
          by_cases k5 : sk = 5
          · as_aux_lemma =>
              subst k5
              go_upto_region 37 with (first | (go_at_call 23; refine (fork_u HPx.out.om hlen HPx.out.lb HPx.out.ub).mono ?_; rintro e wa ⟨m2, b2, rfl, g1, o1, l1, u1, n1⟩; have HQa := hid (HPx.out.kept g1); have HFa := hid (And.intro g1 (And.intro o1 (And.intro l1 (And.intro u1 n1)))); replace x2 := g1.cell x2 (by simp); clear g1 o1 l1 u1 n1) | (go_at_call 24; refine (rfork_u HQa.out.oq hlen HQa.out.lb' HQa.out.ub').mono ?_; rintro e wb ⟨q2, b2', rfl, g2, o2, l2, u2, n2⟩; obtain ⟨g1, o1, l1, u1, n1⟩ := HFa.out; have HF := hid (pf_mk HPx.out ub ub' xl g1 o1 l1 u1 n1 g2 o2 l2 u2 n2); replace x2 := g2.cell x2 (by simp); clear g1 o1 l1 u1 n1 g2 o2 l2 u2 n2))
              have HFd := hid (HF.out.kept (grown_drew (World.grownBy.refl _ _)))
              go_region_held3 (fun W => W.cell? ⟨X, 2, none⟩ = some (.int .u32 sv)) (first | exact x2 | exact y1 | exact y2) (first | (go_at_call 15; refine (store_ob HFd.out.new.om _ _ (by decide) (by decide) v0 v1').mono ?_; rintro e w5 ⟨rfl, hg1, ho1⟩; have y1 := x_kept hg1 HFd.out.x1 x2; have HQ1 := hid (HFd.out.new.oq.else (by decide) HFd.out.new.om HFd.out.new.ap.qm hg1); have HU1 := hid (HFd.out.om.else (by decide) HFd.out.new.om HFd.out.a1 hg1); have HV1 := hid (HFd.out.oq.else (by decide) HFd.out.new.om HFd.out.a3 hg1); have HG1 := hid hg1; have HO1 := hid ho1; clear hg1 ho1) | (go_at_call 16; refine (rstore_ob HQ1.out _ _ (by decide) (by decide) v0 v1').mono ?_; rintro e w6 ⟨rfl, hg2, ho2⟩; have y2 := x_kept hg2 HFd.out.x2 y1; have HU2 := hid (HU1.out.else (by decide) HQ1.out HFd.out.a2 hg2); have HV2 := hid (HV1.out.else (by decide) HQ1.out HFd.out.a4 hg2); have HPs := hid (HFd.out.new.stored HG1.out HO1.out HQ1.out hg2 ho2 (by rw [len_st]; exact hlen)); clear hg2 ho2))
              all_goals go_wp2_with (first | (go_at_call 13; refine (load_ob HU2.out _ (by decide) (by decide)).mono ?_; rintro e w' ⟨rfl, rfl⟩) | (go_at_call 14; refine (rload_ob HV2.out _ (by decide) (by decide)).mono ?_; rintro e w' ⟨rfl, rfl⟩))
              all_goals exact ⟨⟨k + 1, _, _, _, by omega, by go_num, HPs.out⟩, by simp [intOf]; omega⟩
          · as_aux_lemma =>
              have e0 : (sk == 0) = false := by simpa using k0
              have e1 : (sk == 1) = false := by simpa using k1
              have e2 : (sk == 2) = false := by simpa using k2
              have e3 : (sk == 3) = false := by simpa using k3
              have e4 : (sk == 4) = false := by simpa using k4
              have e5 : (sk == 5) = false := by simpa using k5
              go_wp2
              exact ⟨⟨k + 1, b, b', xs, by omega, by go_num, HPx.out⟩, by simp [intOf]; omega⟩
        · have hx : k < n1 ∨ ¬ k < n1 := by omega
          have hlen := HP.out.len
          rcases hx with hx | hx
          · as_aux_lemma =>
              have i1 : (k : Int) < (n1 : Int) := by omega
              have i2 : ¬ (k : Int) < 60 := by omega
              go_wp2_with (first | (go_at_call 10; refine (size_ob HP.out.om).mono ?_; rintro e w' ⟨rfl, rfl⟩) | (go_at_call 11; refine (rsize_ob HPa.out.oq).mono ?_; rintro e w' ⟨rfl, rfl⟩) | (go_at_call 21; refine (words_u HP.out.om hlen _ _ (by decide)).mono ?_; rintro e wa ⟨r1, rfl, hg, hr⟩; have HPa := hid (HP.out.kept hg); have HRa := hid hr; clear hg hr) | (go_at_call 22; refine (rwords_u HPa.out.oq hlen _ _ (by decide)).mono ?_; rintro e wb ⟨r2, rfl, hg, hr⟩; have HPb := hid (HPa.out.kept hg); have HRb := hid hr; have HRc := hid (HRa.out.kept hg); clear hg hr) | (go_at_call 12; refine (keep_v HRc.out HRb.out (Nat.le_trans (len_cut _ _ _) (by omega))).mono ?_; rintro e wk ⟨rfl, hg⟩; have HPk := hid (HPb.out.kept hg); clear hg) | (go_at_call 7; refine (wakes_any _).mono ?_; rintro e w8 ⟨rfl, hg⟩; have HB8 := hid (HPk.out.kept hg).bel; clear hg))
              all_goals go_ret
              all_goals exact ⟨rfl, HB8.out⟩
          · as_aux_lemma =>
              have i1 : ¬ (k : Int) < (n1 : Int) := by omega
              go_wp2_with (first | (go_at_call 10; refine (size_ob HP.out.om).mono ?_; rintro e w' ⟨rfl, rfl⟩) | (go_at_call 11; refine (rsize_ob HPa.out.oq).mono ?_; rintro e w' ⟨rfl, rfl⟩) | (go_at_call 21; refine (words_u HP.out.om hlen _ _ (by decide)).mono ?_; rintro e wa ⟨r1, rfl, hg, hr⟩; have HPa := hid (HP.out.kept hg); have HRa := hid hr; clear hg hr) | (go_at_call 22; refine (rwords_u HPa.out.oq hlen _ _ (by decide)).mono ?_; rintro e wb ⟨r2, rfl, hg, hr⟩; have HPb := hid (HPa.out.kept hg); have HRb := hid hr; have HRc := hid (HRa.out.kept hg); clear hg hr) | (go_at_call 12; refine (keep_v HRc.out HRb.out (Nat.le_trans (len_cut _ _ _) (by omega))).mono ?_; rintro e wk ⟨rfl, hg⟩; have HPk := hid (HPb.out.kept hg); clear hg) | (go_at_call 7; refine (wakes_any _).mono ?_; rintro e w8 ⟨rfl, hg⟩; have HB8 := hid (HPk.out.kept hg).bel; clear hg))
              all_goals go_ret
              all_goals exact ⟨rfl, HB8.out⟩

set_option maxRecDepth 100000 in
theorem lifted (os : Os) (started : os.Started) (H : Type) (enc : TypeId × Value → H) :
    ReturnsInHanded {} Try.checked os 3 .any (Rows.memoryPlaysSpec.pre6 enc Try.prog Try.f3 Rows.memoryPlaysRow.domain false) (Rows.memoryPlaysSpec.post enc Try.prog Try.f3 false true false false) := by
  refine returnsInHanded_of_change (C := Try.checked) own started (by kernel_rfl) Try.func3
    (ChangeSpec.witness6 (enc := enc) (C := Try.checked) false ⟨#[], #[.slice none 0 0, .slice none 0 0], []⟩ 8 (by kernel_rfl) (by kernel_rfl) (by kernel_rfl) (by kernel_rfl)) ?_
  intro W base args ds gs before hval0 hW hcnd _
  have hval : ∀ (j : Nat) t v, Try.f3.params[j]? = some t → args[j]? = some v → Value.okWide Try.prog W .any base t v := hval0
  have hW' := hW
  obtain ⟨p, q, hA0, hV, rfl, hfz, hnd⟩ := hW
  have hA : DataW.TrodAll enc Try.prog W 0 (fun _ => true) true Try.f3.params.toList args.toList ds p := hA0
  rw [Try.params3] at hA hval
  obtain ⟨v0, vs0, d0, ds0, p0, q0, hargs, rfl, rfl, h0, r0⟩ := trodAll_cons hA
  obtain ⟨v1, vs1, d1, ds1, p1, q1, rfl, rfl, rfl, h1, r1⟩ := trodAll_cons r0
  obtain ⟨rfl, rfl, rfl⟩ := trodAll_nil r1
  obtain rfl : args = #[v0, v1] := by cases args; simp_all
  obtain ⟨rfl, rfl⟩ := trodVars_none hV
  obtain ⟨o0, n0, c0, rfl⟩ := okWide_slice Try.underlying22 (hval 0 22 v0 rfl rfl)
  have k0 := h0
  have lt0 : ∀ x ∈ p0, x.block < W.heap.size := by obtain ⟨m, hm⟩ := k0; exact DataW.trod_lt m _ _ _ hm
  obtain ⟨x0, W0⟩ := open_words h0
  obtain ⟨o1, n1, c1, rfl⟩ := okWide_slice Try.underlying23 (hval 1 23 v1 rfl rfl)
  have k1 := h1
  have lt1 : ∀ x ∈ p1, x.block < W.heap.size := by obtain ⟨m, hm⟩ := k1; exact DataW.trod_lt m _ _ _ hm
  obtain ⟨f1, S1⟩ := open_steps h1
  clear hA0 hval0
  refine (walk W o0 n0 c0 x0 W0 o1 n1 c1 f1 S1).mono fun e W' ⟨he, bel⟩ => ?_
  subst he
  exact ⟨_, rfl, _, _, _, [], _, [], hW', trodAll_mk1 (shut_bool Try.underlying4 _), (trodAll_cons_mk (Below.trod laidOut (by kernel_rfl) (of_decide_eq_true (by kernel_rfl)) k0 bel lt0) (trodAll_cons_mk (Below.trod laidOut (by kernel_rfl) (of_decide_eq_true (by kernel_rfl)) k1 bel lt1) trodAll_mk0)), rfl, bel.frame _, fun h => by cases h⟩

theorem proved : Rows.MemoryPlaysSaid :=
  OpenClaim.holds_of_wide 3 Try.f3 rfl rfl rfl rfl rfl rfl rfl ⟨rfl, rfl, rfl, rfl, rfl⟩ rfl rfl rfl rfl rfl (by kernel_rfl) Try.func3 (by kernel_rfl)
    (of_decide_eq_true (by kernel_rfl)) (by unfold Func.isWrapper; first | (rw [if_pos (by decide +kernel)]; kernel_rfl) | (rw [if_neg (by decide +kernel)]; exact ⟨rfl, rfl⟩))
    (fun os started H enc _ => lifted os started H enc)
end Go.Proofs.Ythdmlcendkmnbaa.memoryPlays

namespace Go.Proofs.Ythdmlcendkmnbaa
theorem memoryPlays_holds : Rows.MemoryPlaysSaid := memoryPlays.proved
#print axioms memoryPlays_holds
end Go.Proofs.Ythdmlcendkmnbaa
