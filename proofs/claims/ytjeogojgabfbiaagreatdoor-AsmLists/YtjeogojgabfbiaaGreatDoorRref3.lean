/-
  The document's own layer 2 (package spinetref02): a word's instruction; are two instructions alike?
-/
import Derived.Test.YtjeogojgabfbiaaGreatDoorRref2
import Derived.Test.YtjeogojgabfbiaaGreatDoorRisc7
namespace Go.Proofs.YtjeogojgabfbiaaGreatDoor.Risc
open Go.RowKit Go.Proofs.YtjeogojgabfbiaaGreatDoor.Bits Go.Proofs.YtjeogojgabfbiaaGreatDoor.Gw

theorem part_any (x lo n : Int) (w : World) (x0 : 0 ≤ x) (x1 : x < 4294967296) (l1 : lo ≤ 9223372036854775807) :
    Calls Tryz.prog 46 #[.int .u32 x, .int .i64 lo, .int .i64 n] w fun e w' => e = .returned (.int .i64 (fgetI lo n false x)) ∧ ∃ p : By, w' = gr w p := by
  have hg := get_range x lo n
  go_enter Tryz.func46, Tryz.ntmps46
  go_wp2_with (go_at_call 48; refine (calls_drew0 (rget_any _ _ _ _ x0 x1 l1)).mono ?_; rintro e w' ⟨rfl, p, rfl⟩)
  go_ret
  exact ⟨rfl, p, rfl⟩

theorem rencode_at {x : Int} {g : Bool} {Y b c op im : Int} (hg : goodR (uF x) (uU x) (uV x) (uA x) (uB x) (uC x) (uOp x) (uIm x) = g) (hY : againI x = Y)
    (hb : uB x = b) (hc : uC x = c) (ho : uOp x = op) (hi : uIm x = im) (W : World) :
    Calls Tryz.prog 30 #[ins (fgetI 30 2 false x) (fgetI 29 1 false x == 1) (fgetI 28 1 false x == 1) (fgetI 24 4 false x) b c op im] W
      fun e w' => e = .returned (if g = true then .tuple #[.int .u32 Y, .int .i64 0] else .tuple #[.int .u32 0, .int .i64 20]) ∧ ∃ p : By, w' = gr W p := by
  subst hg hY hb hc ho hi
  exact rencode_any (uF x) (uU x) (uV x) (uA x) (uB x) (uC x) (uOp x) (uIm x) W
theorem gr_setCell (w : World) (p : By) (a : Addr) (v : Value) (h : a.block < w.heap.size) : gr (w.setCell a v) p = (gr w p).setCell a v := by
  simp only [gr, World.setCell]
  congr 1
  apply Array.ext_getElem?
  intro k
  simp only [Array.getElem?_modify, Array.getElem?_append, Array.size_modify]
  by_cases hk : k < w.heap.size
  · simp [hk]
  · have : a.block ≠ k := by omega
    simp [hk, this]
theorem size_set (w : World) (a : Addr) (v : Value) : (w.setCell a v).heap.size = w.heap.size := by simp [World.setCell]
theorem set_in (V : World) (o : Obj) (q : By) : V.heap.size < (gr (V.alloc o) q).heap.size := lt_gr V o q
theorem set1 (V : World) (o : Obj) (q p : By) (i : Nat) (x : Value) : gr ((gr (V.alloc o) q).setCell ⟨V.heap.size, i, none⟩ x) p = (gr (V.alloc o) (q ++ p)).setCell ⟨V.heap.size, i, none⟩ x := by
  rw [gr_setCell _ _ _ _ (set_in V o q), gr_gr]
theorem set2 (V : World) (o : Obj) (q p : By) (i j : Nat) (x y : Value) :
    gr (((gr (V.alloc o) q).setCell ⟨V.heap.size, i, none⟩ x).setCell ⟨V.heap.size, j, none⟩ y) p = ((gr (V.alloc o) (q ++ p)).setCell ⟨V.heap.size, i, none⟩ x).setCell ⟨V.heap.size, j, none⟩ y := by
  rw [gr_setCell _ _ _ _ (by rw [size_set]; exact set_in V o q), set1]
theorem set3 (V : World) (o : Obj) (q p : By) (i j k : Nat) (x y z : Value) :
    gr ((((gr (V.alloc o) q).setCell ⟨V.heap.size, i, none⟩ x).setCell ⟨V.heap.size, j, none⟩ y).setCell ⟨V.heap.size, k, none⟩ z) p =
      (((gr (V.alloc o) (q ++ p)).setCell ⟨V.heap.size, i, none⟩ x).setCell ⟨V.heap.size, j, none⟩ y).setCell ⟨V.heap.size, k, none⟩ z := by
  rw [gr_setCell _ _ _ _ (by rw [size_set, size_set]; exact set_in V o q), set2]
theorem ne_new (w : World) (o : Obj) (p : By) : ¬ w.heap.size = (gr (w.alloc o) p).heap.size := by have := lt_gr w o p; omega
theorem ne_new' (w : World) (o : Obj) (p : By) : ¬ (gr (w.alloc o) p).heap.size = w.heap.size := by have := lt_gr w o p; omega

set_option maxHeartbeats 2000000 in
theorem rdecode_0 (x : Int) (w : World) (x0 : 0 ≤ x) (x1 : x < 4294967296) (e0 : (fgetI 30 2 false x == 0) = true) :
    Calls Tryz.prog 19 #[.int .u32 x] w fun e w' => e = .returned (if decR x = true then .tuple #[uIns x, .int .i64 0] else .tuple #[zIns, .int .i64 20]) ∧ ∃ p : By, w' = gr w p := by
  obtain ⟨z0, z1, z2, z3, z4, z5, z6, z7⟩ := new_facts (fgetI 30 2 false x) (fgetI 29 1 false x == 1) (fgetI 28 1 false x == 1) (fgetI 24 4 false x) 0 0 0 0
  obtain ⟨r0, r1, r2, r3, r4, r5, r6, r7, rf⟩ := res_facts w #[.int .i64 (fgetI 30 2 false x), .bool (fgetI 29 1 false x == 1), .bool (fgetI 28 1 false x == 1), .int .i64 (fgetI 24 4 false x), .int .i64 0, .int .i64 0, .int .i64 0, .int .i64 0] 47
  have hgg := gr_gr
  have s1 := set1
  have s2 := set2
  have s3 := set3
  have hfz := gr_frozen
  have n1 := ne_new w
  have n2 := ne_new' w
  obtain ⟨g, hg⟩ : ∃ g, goodR (uF x) (uU x) (uV x) (uA x) (uB x) (uC x) (uOp x) (uIm x) = g := ⟨_, rfl⟩
  obtain ⟨Y, hY⟩ : ∃ Y, againI x = Y := ⟨_, rfl⟩
  have D : Hid (decR x = (g && decide (Y = x))) := by show decR x = _; rw [decR, hg, hY]
  have hf : uF x = 0 := eq_of_beq e0
  have hb : uB x = (fgetI 20 4 false x) := by simp [uB, hf]
  have hc : uC x = (fgetI 0 4 false x) := by simp [uC, hf]
  have ho : uOp x = (fgetI 16 4 false x) := by simp [uOp, hf]
  have hi : uIm x = 0 := by simp [uIm, hf]
  have EN := rencode_at hg hY hb hc ho hi
  have RI : Hid (uIns x = ins (fgetI 30 2 false x) (fgetI 29 1 false x == 1) (fgetI 28 1 false x == 1) (fgetI 24 4 false x) (fgetI 20 4 false x) (fgetI 0 4 false x) (fgetI 16 4 false x) 0) := ins_eq rfl rfl rfl rfl hb hc ho hi
  clear hg hY hf hb hc ho hi
  cases g
  · rw [show decR x = false from by rw [D.out]; rfl]
    clear D RI
    (go_enter Tryz.func19, Tryz.ntmps19; go_wp2_with (first | (go_at_call 46; refine (part_any _ _ _ _ x0 x1 (by decide)).mono ?_; rintro e w' ⟨rfl, p, rfl⟩) | (go_at_call 48; refine (calls_drew0 (rget_any _ _ _ _ x0 x1 (by decide))).mono ?_; rintro e w' ⟨rfl, p, rfl⟩) | (go_at_call 47; refine (calls_same0 (rextend_any _ _ _ (get_range _ _ _).1 (get_range _ _ _).2)).mono ?_; rintro e w' ⟨rfl, p, rfl⟩) | (go_at_call 30; refine (EN _).mono ?_; rintro e w' ⟨rfl, p, rfl⟩)))
    refine bodyPost_ret (v := .tuple #[zIns, .int .i64 20]) (by simp [results, Tryz.results19, go_sem, r0, r1, r2, r3, r4, r5, r6, r7, n2]) rfl ⟨rfl, ?_⟩
    clear EN
    show G w _
    (with_reducible repeat' (first | exact G.refl _ | apply G.gr | apply G.alloc | refine G.set ?_ (a := ⟨w.heap.size, _, none⟩) (Nat.le_refl _) _ | refine G.set ?_ ?_ _))
    all_goals exact Nat.le_of_lt (lt_gr _ _ _)
  by_cases hy : Y = x
  · rw [show decR x = true from by rw [D.out, hy]; simp, RI.out]
    have hn : (Y != x) = false := by simp [hy]
    clear D RI hy
    (go_enter Tryz.func19, Tryz.ntmps19; go_wp2_with (first | (go_at_call 46; refine (part_any _ _ _ _ x0 x1 (by decide)).mono ?_; rintro e w' ⟨rfl, p, rfl⟩) | (go_at_call 48; refine (calls_drew0 (rget_any _ _ _ _ x0 x1 (by decide))).mono ?_; rintro e w' ⟨rfl, p, rfl⟩) | (go_at_call 47; refine (calls_same0 (rextend_any _ _ _ (get_range _ _ _).1 (get_range _ _ _).2)).mono ?_; rintro e w' ⟨rfl, p, rfl⟩) | (go_at_call 30; refine (EN _).mono ?_; rintro e w' ⟨rfl, p, rfl⟩)))
    refine bodyPost_ret (v := .tuple #[ins (fgetI 30 2 false x) (fgetI 29 1 false x == 1) (fgetI 28 1 false x == 1) (fgetI 24 4 false x) (fgetI 20 4 false x) (fgetI 0 4 false x) (fgetI 16 4 false x) 0, .int .i64 0]) (by simp [results, Tryz.results19, go_sem, r0, r1, r2, r3, r4, r5, r6, r7, n2]) rfl ⟨rfl, ?_⟩
    clear EN
    show G w _
    (with_reducible repeat' (first | exact G.refl _ | apply G.gr | apply G.alloc | refine G.set ?_ (a := ⟨w.heap.size, _, none⟩) (Nat.le_refl _) _ | refine G.set ?_ ?_ _))
    all_goals exact Nat.le_of_lt (lt_gr _ _ _)
  · rw [show decR x = false from by rw [D.out, decide_eq_false hy]; rfl]
    have hn : (Y != x) = true := by simp [hy]
    clear D RI hy
    (go_enter Tryz.func19, Tryz.ntmps19; go_wp2_with (first | (go_at_call 46; refine (part_any _ _ _ _ x0 x1 (by decide)).mono ?_; rintro e w' ⟨rfl, p, rfl⟩) | (go_at_call 48; refine (calls_drew0 (rget_any _ _ _ _ x0 x1 (by decide))).mono ?_; rintro e w' ⟨rfl, p, rfl⟩) | (go_at_call 47; refine (calls_same0 (rextend_any _ _ _ (get_range _ _ _).1 (get_range _ _ _).2)).mono ?_; rintro e w' ⟨rfl, p, rfl⟩) | (go_at_call 30; refine (EN _).mono ?_; rintro e w' ⟨rfl, p, rfl⟩)))
    refine bodyPost_ret (v := .tuple #[zIns, .int .i64 20]) (by simp [results, Tryz.results19, go_sem, r0, r1, r2, r3, r4, r5, r6, r7, n2]) rfl ⟨rfl, ?_⟩
    clear EN
    show G w _
    (with_reducible repeat' (first | exact G.refl _ | apply G.gr | apply G.alloc | refine G.set ?_ (a := ⟨w.heap.size, _, none⟩) (Nat.le_refl _) _ | refine G.set ?_ ?_ _))
    all_goals exact Nat.le_of_lt (lt_gr _ _ _)
set_option maxHeartbeats 2000000 in
theorem rdecode_1 (x : Int) (w : World) (x0 : 0 ≤ x) (x1 : x < 4294967296) (e0 : (fgetI 30 2 false x == 0) = false) (e1 : (fgetI 30 2 false x == 1) = true) :
    Calls Tryz.prog 19 #[.int .u32 x] w fun e w' => e = .returned (if decR x = true then .tuple #[uIns x, .int .i64 0] else .tuple #[zIns, .int .i64 20]) ∧ ∃ p : By, w' = gr w p := by
  obtain ⟨z0, z1, z2, z3, z4, z5, z6, z7⟩ := new_facts (fgetI 30 2 false x) (fgetI 29 1 false x == 1) (fgetI 28 1 false x == 1) (fgetI 24 4 false x) 0 0 0 0
  obtain ⟨r0, r1, r2, r3, r4, r5, r6, r7, rf⟩ := res_facts w #[.int .i64 (fgetI 30 2 false x), .bool (fgetI 29 1 false x == 1), .bool (fgetI 28 1 false x == 1), .int .i64 (fgetI 24 4 false x), .int .i64 0, .int .i64 0, .int .i64 0, .int .i64 0] 47
  have hgg := gr_gr
  have s1 := set1
  have s2 := set2
  have s3 := set3
  have hfz := gr_frozen
  have n1 := ne_new w
  have n2 := ne_new' w
  obtain ⟨g, hg⟩ : ∃ g, goodR (uF x) (uU x) (uV x) (uA x) (uB x) (uC x) (uOp x) (uIm x) = g := ⟨_, rfl⟩
  obtain ⟨Y, hY⟩ : ∃ Y, againI x = Y := ⟨_, rfl⟩
  have D : Hid (decR x = (g && decide (Y = x))) := by show decR x = _; rw [decR, hg, hY]
  have hf : uF x = 1 := eq_of_beq e1
  have hb : uB x = (fgetI 20 4 false x) := by simp [uB, hf]
  have hc : uC x = 0 := by simp [uC, hf]
  have ho : uOp x = (fgetI 16 4 false x) := by simp [uOp, hf]
  have hi : uIm x = (fgetI 0 16 false x) := by simp [uIm, hf]
  have EN := rencode_at hg hY hb hc ho hi
  have RI : Hid (uIns x = ins (fgetI 30 2 false x) (fgetI 29 1 false x == 1) (fgetI 28 1 false x == 1) (fgetI 24 4 false x) (fgetI 20 4 false x) 0 (fgetI 16 4 false x) (fgetI 0 16 false x)) := ins_eq rfl rfl rfl rfl hb hc ho hi
  clear hg hY hf hb hc ho hi
  cases g
  · rw [show decR x = false from by rw [D.out]; rfl]
    clear D RI
    (go_enter Tryz.func19, Tryz.ntmps19; go_wp2_with (first | (go_at_call 46; refine (part_any _ _ _ _ x0 x1 (by decide)).mono ?_; rintro e w' ⟨rfl, p, rfl⟩) | (go_at_call 48; refine (calls_drew0 (rget_any _ _ _ _ x0 x1 (by decide))).mono ?_; rintro e w' ⟨rfl, p, rfl⟩) | (go_at_call 47; refine (calls_same0 (rextend_any _ _ _ (get_range _ _ _).1 (get_range _ _ _).2)).mono ?_; rintro e w' ⟨rfl, p, rfl⟩) | (go_at_call 30; refine (EN _).mono ?_; rintro e w' ⟨rfl, p, rfl⟩)))
    refine bodyPost_ret (v := .tuple #[zIns, .int .i64 20]) (by simp [results, Tryz.results19, go_sem, r0, r1, r2, r3, r4, r5, r6, r7, n2]) rfl ⟨rfl, ?_⟩
    clear EN
    show G w _
    (with_reducible repeat' (first | exact G.refl _ | apply G.gr | apply G.alloc | refine G.set ?_ (a := ⟨w.heap.size, _, none⟩) (Nat.le_refl _) _ | refine G.set ?_ ?_ _))
    all_goals exact Nat.le_of_lt (lt_gr _ _ _)
  by_cases hy : Y = x
  · rw [show decR x = true from by rw [D.out, hy]; simp, RI.out]
    have hn : (Y != x) = false := by simp [hy]
    clear D RI hy
    (go_enter Tryz.func19, Tryz.ntmps19; go_wp2_with (first | (go_at_call 46; refine (part_any _ _ _ _ x0 x1 (by decide)).mono ?_; rintro e w' ⟨rfl, p, rfl⟩) | (go_at_call 48; refine (calls_drew0 (rget_any _ _ _ _ x0 x1 (by decide))).mono ?_; rintro e w' ⟨rfl, p, rfl⟩) | (go_at_call 47; refine (calls_same0 (rextend_any _ _ _ (get_range _ _ _).1 (get_range _ _ _).2)).mono ?_; rintro e w' ⟨rfl, p, rfl⟩) | (go_at_call 30; refine (EN _).mono ?_; rintro e w' ⟨rfl, p, rfl⟩)))
    refine bodyPost_ret (v := .tuple #[ins (fgetI 30 2 false x) (fgetI 29 1 false x == 1) (fgetI 28 1 false x == 1) (fgetI 24 4 false x) (fgetI 20 4 false x) 0 (fgetI 16 4 false x) (fgetI 0 16 false x), .int .i64 0]) (by simp [results, Tryz.results19, go_sem, r0, r1, r2, r3, r4, r5, r6, r7, n2]) rfl ⟨rfl, ?_⟩
    clear EN
    show G w _
    (with_reducible repeat' (first | exact G.refl _ | apply G.gr | apply G.alloc | refine G.set ?_ (a := ⟨w.heap.size, _, none⟩) (Nat.le_refl _) _ | refine G.set ?_ ?_ _))
    all_goals exact Nat.le_of_lt (lt_gr _ _ _)
  · rw [show decR x = false from by rw [D.out, decide_eq_false hy]; rfl]
    have hn : (Y != x) = true := by simp [hy]
    clear D RI hy
    (go_enter Tryz.func19, Tryz.ntmps19; go_wp2_with (first | (go_at_call 46; refine (part_any _ _ _ _ x0 x1 (by decide)).mono ?_; rintro e w' ⟨rfl, p, rfl⟩) | (go_at_call 48; refine (calls_drew0 (rget_any _ _ _ _ x0 x1 (by decide))).mono ?_; rintro e w' ⟨rfl, p, rfl⟩) | (go_at_call 47; refine (calls_same0 (rextend_any _ _ _ (get_range _ _ _).1 (get_range _ _ _).2)).mono ?_; rintro e w' ⟨rfl, p, rfl⟩) | (go_at_call 30; refine (EN _).mono ?_; rintro e w' ⟨rfl, p, rfl⟩)))
    refine bodyPost_ret (v := .tuple #[zIns, .int .i64 20]) (by simp [results, Tryz.results19, go_sem, r0, r1, r2, r3, r4, r5, r6, r7, n2]) rfl ⟨rfl, ?_⟩
    clear EN
    show G w _
    (with_reducible repeat' (first | exact G.refl _ | apply G.gr | apply G.alloc | refine G.set ?_ (a := ⟨w.heap.size, _, none⟩) (Nat.le_refl _) _ | refine G.set ?_ ?_ _))
    all_goals exact Nat.le_of_lt (lt_gr _ _ _)
set_option maxHeartbeats 2000000 in
theorem rdecode_2 (x : Int) (w : World) (x0 : 0 ≤ x) (x1 : x < 4294967296) (e0 : (fgetI 30 2 false x == 0) = false) (e1 : (fgetI 30 2 false x == 1) = false) (e2 : (fgetI 30 2 false x == 2) = true) :
    Calls Tryz.prog 19 #[.int .u32 x] w fun e w' => e = .returned (if decR x = true then .tuple #[uIns x, .int .i64 0] else .tuple #[zIns, .int .i64 20]) ∧ ∃ p : By, w' = gr w p := by
  obtain ⟨z0, z1, z2, z3, z4, z5, z6, z7⟩ := new_facts (fgetI 30 2 false x) (fgetI 29 1 false x == 1) (fgetI 28 1 false x == 1) (fgetI 24 4 false x) 0 0 0 0
  obtain ⟨r0, r1, r2, r3, r4, r5, r6, r7, rf⟩ := res_facts w #[.int .i64 (fgetI 30 2 false x), .bool (fgetI 29 1 false x == 1), .bool (fgetI 28 1 false x == 1), .int .i64 (fgetI 24 4 false x), .int .i64 0, .int .i64 0, .int .i64 0, .int .i64 0] 47
  have hgg := gr_gr
  have s1 := set1
  have s2 := set2
  have s3 := set3
  have hfz := gr_frozen
  have n1 := ne_new w
  have n2 := ne_new' w
  obtain ⟨g, hg⟩ : ∃ g, goodR (uF x) (uU x) (uV x) (uA x) (uB x) (uC x) (uOp x) (uIm x) = g := ⟨_, rfl⟩
  obtain ⟨Y, hY⟩ : ∃ Y, againI x = Y := ⟨_, rfl⟩
  have D : Hid (decR x = (g && decide (Y = x))) := by show decR x = _; rw [decR, hg, hY]
  have hf : uF x = 2 := eq_of_beq e2
  have hb : uB x = (fgetI 20 4 false x) := by simp [uB, hf]
  have hc : uC x = 0 := by simp [uC, hf]
  have ho : uOp x = 0 := by simp [uOp, hf]
  have hi : uIm x = (fgetI 0 20 true x) := by simp [uIm, hf]
  have EN := rencode_at hg hY hb hc ho hi
  have RI : Hid (uIns x = ins (fgetI 30 2 false x) (fgetI 29 1 false x == 1) (fgetI 28 1 false x == 1) (fgetI 24 4 false x) (fgetI 20 4 false x) 0 0 (fgetI 0 20 true x)) := ins_eq rfl rfl rfl rfl hb hc ho hi
  clear hg hY hf hb hc ho hi
  cases g
  · rw [show decR x = false from by rw [D.out]; rfl]
    clear D RI
    (go_enter Tryz.func19, Tryz.ntmps19; go_wp2_with (first | (go_at_call 46; refine (part_any _ _ _ _ x0 x1 (by decide)).mono ?_; rintro e w' ⟨rfl, p, rfl⟩) | (go_at_call 48; refine (calls_drew0 (rget_any _ _ _ _ x0 x1 (by decide))).mono ?_; rintro e w' ⟨rfl, p, rfl⟩) | (go_at_call 47; refine (calls_same0 (rextend_any _ _ _ (get_range _ _ _).1 (get_range _ _ _).2)).mono ?_; rintro e w' ⟨rfl, p, rfl⟩) | (go_at_call 30; refine (EN _).mono ?_; rintro e w' ⟨rfl, p, rfl⟩)))
    refine bodyPost_ret (v := .tuple #[zIns, .int .i64 20]) (by simp [results, Tryz.results19, go_sem, r0, r1, r2, r3, r4, r5, r6, r7, n2]) rfl ⟨rfl, ?_⟩
    clear EN
    show G w _
    (with_reducible repeat' (first | exact G.refl _ | apply G.gr | apply G.alloc | refine G.set ?_ (a := ⟨w.heap.size, _, none⟩) (Nat.le_refl _) _ | refine G.set ?_ ?_ _))
    all_goals exact Nat.le_of_lt (lt_gr _ _ _)
  by_cases hy : Y = x
  · rw [show decR x = true from by rw [D.out, hy]; simp, RI.out]
    have hn : (Y != x) = false := by simp [hy]
    clear D RI hy
    (go_enter Tryz.func19, Tryz.ntmps19; go_wp2_with (first | (go_at_call 46; refine (part_any _ _ _ _ x0 x1 (by decide)).mono ?_; rintro e w' ⟨rfl, p, rfl⟩) | (go_at_call 48; refine (calls_drew0 (rget_any _ _ _ _ x0 x1 (by decide))).mono ?_; rintro e w' ⟨rfl, p, rfl⟩) | (go_at_call 47; refine (calls_same0 (rextend_any _ _ _ (get_range _ _ _).1 (get_range _ _ _).2)).mono ?_; rintro e w' ⟨rfl, p, rfl⟩) | (go_at_call 30; refine (EN _).mono ?_; rintro e w' ⟨rfl, p, rfl⟩)))
    refine bodyPost_ret (v := .tuple #[ins (fgetI 30 2 false x) (fgetI 29 1 false x == 1) (fgetI 28 1 false x == 1) (fgetI 24 4 false x) (fgetI 20 4 false x) 0 0 (fgetI 0 20 true x), .int .i64 0]) (by simp [results, Tryz.results19, go_sem, r0, r1, r2, r3, r4, r5, r6, r7, n2, fgetI_t]) rfl ⟨rfl, ?_⟩
    clear EN
    show G w _
    (with_reducible repeat' (first | exact G.refl _ | apply G.gr | apply G.alloc | refine G.set ?_ (a := ⟨w.heap.size, _, none⟩) (Nat.le_refl _) _ | refine G.set ?_ ?_ _))
    all_goals exact Nat.le_of_lt (lt_gr _ _ _)
  · rw [show decR x = false from by rw [D.out, decide_eq_false hy]; rfl]
    have hn : (Y != x) = true := by simp [hy]
    clear D RI hy
    (go_enter Tryz.func19, Tryz.ntmps19; go_wp2_with (first | (go_at_call 46; refine (part_any _ _ _ _ x0 x1 (by decide)).mono ?_; rintro e w' ⟨rfl, p, rfl⟩) | (go_at_call 48; refine (calls_drew0 (rget_any _ _ _ _ x0 x1 (by decide))).mono ?_; rintro e w' ⟨rfl, p, rfl⟩) | (go_at_call 47; refine (calls_same0 (rextend_any _ _ _ (get_range _ _ _).1 (get_range _ _ _).2)).mono ?_; rintro e w' ⟨rfl, p, rfl⟩) | (go_at_call 30; refine (EN _).mono ?_; rintro e w' ⟨rfl, p, rfl⟩)))
    refine bodyPost_ret (v := .tuple #[zIns, .int .i64 20]) (by simp [results, Tryz.results19, go_sem, r0, r1, r2, r3, r4, r5, r6, r7, n2]) rfl ⟨rfl, ?_⟩
    clear EN
    show G w _
    (with_reducible repeat' (first | exact G.refl _ | apply G.gr | apply G.alloc | refine G.set ?_ (a := ⟨w.heap.size, _, none⟩) (Nat.le_refl _) _ | refine G.set ?_ ?_ _))
    all_goals exact Nat.le_of_lt (lt_gr _ _ _)
set_option maxHeartbeats 2000000 in
theorem rdecode_j (x : Int) (w : World) (x0 : 0 ≤ x) (x1 : x < 4294967296) (e0 : (fgetI 30 2 false x == 0) = false) (e1 : (fgetI 30 2 false x == 1) = false) (e2 : (fgetI 30 2 false x == 2) = false) (eu : (fgetI 29 1 false x == 1) = true) :
    Calls Tryz.prog 19 #[.int .u32 x] w fun e w' => e = .returned (if decR x = true then .tuple #[uIns x, .int .i64 0] else .tuple #[zIns, .int .i64 20]) ∧ ∃ p : By, w' = gr w p := by
  obtain ⟨z0, z1, z2, z3, z4, z5, z6, z7⟩ := new_facts (fgetI 30 2 false x) true (fgetI 28 1 false x == 1) (fgetI 24 4 false x) 0 0 0 0
  obtain ⟨r0, r1, r2, r3, r4, r5, r6, r7, rf⟩ := res_facts w #[.int .i64 (fgetI 30 2 false x), .bool true, .bool (fgetI 28 1 false x == 1), .int .i64 (fgetI 24 4 false x), .int .i64 0, .int .i64 0, .int .i64 0, .int .i64 0] 47
  have hgg := gr_gr
  have s1 := set1
  have s2 := set2
  have s3 := set3
  have hfz := gr_frozen
  have n1 := ne_new w
  have n2 := ne_new' w
  obtain ⟨g, hg⟩ : ∃ g, goodR (uF x) (uU x) (uV x) (uA x) (uB x) (uC x) (uOp x) (uIm x) = g := ⟨_, rfl⟩
  obtain ⟨Y, hY⟩ : ∃ Y, againI x = Y := ⟨_, rfl⟩
  have D : Hid (decR x = (g && decide (Y = x))) := by show decR x = _; rw [decR, hg, hY]
  have h0 : ¬ uF x = 0 := ne_of_beq_false e0
  have h1 : ¬ uF x = 1 := ne_of_beq_false e1
  have h2 : ¬ uF x = 2 := ne_of_beq_false e2
  have hu : uU x = true := eu
  have hb : uB x = 0 := by simp [uB, h0, h1, h2]
  have hc : uC x = 0 := by simp [uC, h0, h1, h2, hu]
  have ho : uOp x = 0 := by simp [uOp, h0, h1]
  have hi : uIm x = (fgetI 0 24 true x) := by simp [uIm, h0, h1, h2, hu]
  have EN := rencode_at hg hY hb hc ho hi
  rw [eu] at EN
  have RI : Hid (uIns x = ins (fgetI 30 2 false x) true (fgetI 28 1 false x == 1) (fgetI 24 4 false x) 0 0 0 (fgetI 0 24 true x)) := ins_eq rfl eu rfl rfl hb hc ho hi
  clear hg hY h0 h1 h2 hu hb hc ho hi
  cases g
  · rw [show decR x = false from by rw [D.out]; rfl]
    clear D RI
    (go_enter Tryz.func19, Tryz.ntmps19; go_wp2_with (first | (go_at_call 46; refine (part_any _ _ _ _ x0 x1 (by decide)).mono ?_; rintro e w' ⟨rfl, p, rfl⟩) | (go_at_call 48; refine (calls_drew0 (rget_any _ _ _ _ x0 x1 (by decide))).mono ?_; rintro e w' ⟨rfl, p, rfl⟩) | (go_at_call 47; refine (calls_same0 (rextend_any _ _ _ (get_range _ _ _).1 (get_range _ _ _).2)).mono ?_; rintro e w' ⟨rfl, p, rfl⟩) | (go_at_call 30; refine (EN _).mono ?_; rintro e w' ⟨rfl, p, rfl⟩)))
    refine bodyPost_ret (v := .tuple #[zIns, .int .i64 20]) (by simp [results, Tryz.results19, go_sem, r0, r1, r2, r3, r4, r5, r6, r7, n2]) rfl ⟨rfl, ?_⟩
    clear EN
    show G w _
    (with_reducible repeat' (first | exact G.refl _ | apply G.gr | apply G.alloc | refine G.set ?_ (a := ⟨w.heap.size, _, none⟩) (Nat.le_refl _) _ | refine G.set ?_ ?_ _))
    all_goals exact Nat.le_of_lt (lt_gr _ _ _)
  by_cases hy : Y = x
  · rw [show decR x = true from by rw [D.out, hy]; simp, RI.out]
    have hn : (Y != x) = false := by simp [hy]
    clear D RI hy
    (go_enter Tryz.func19, Tryz.ntmps19; go_wp2_with (first | (go_at_call 46; refine (part_any _ _ _ _ x0 x1 (by decide)).mono ?_; rintro e w' ⟨rfl, p, rfl⟩) | (go_at_call 48; refine (calls_drew0 (rget_any _ _ _ _ x0 x1 (by decide))).mono ?_; rintro e w' ⟨rfl, p, rfl⟩) | (go_at_call 47; refine (calls_same0 (rextend_any _ _ _ (get_range _ _ _).1 (get_range _ _ _).2)).mono ?_; rintro e w' ⟨rfl, p, rfl⟩) | (go_at_call 30; refine (EN _).mono ?_; rintro e w' ⟨rfl, p, rfl⟩)))
    refine bodyPost_ret (v := .tuple #[ins (fgetI 30 2 false x) true (fgetI 28 1 false x == 1) (fgetI 24 4 false x) 0 0 0 (fgetI 0 24 true x), .int .i64 0]) (by simp [results, Tryz.results19, go_sem, r0, r1, r2, r3, r4, r5, r6, r7, n2, fgetI_t]) rfl ⟨rfl, ?_⟩
    clear EN
    show G w _
    (with_reducible repeat' (first | exact G.refl _ | apply G.gr | apply G.alloc | refine G.set ?_ (a := ⟨w.heap.size, _, none⟩) (Nat.le_refl _) _ | refine G.set ?_ ?_ _))
    all_goals exact Nat.le_of_lt (lt_gr _ _ _)
  · rw [show decR x = false from by rw [D.out, decide_eq_false hy]; rfl]
    have hn : (Y != x) = true := by simp [hy]
    clear D RI hy
    (go_enter Tryz.func19, Tryz.ntmps19; go_wp2_with (first | (go_at_call 46; refine (part_any _ _ _ _ x0 x1 (by decide)).mono ?_; rintro e w' ⟨rfl, p, rfl⟩) | (go_at_call 48; refine (calls_drew0 (rget_any _ _ _ _ x0 x1 (by decide))).mono ?_; rintro e w' ⟨rfl, p, rfl⟩) | (go_at_call 47; refine (calls_same0 (rextend_any _ _ _ (get_range _ _ _).1 (get_range _ _ _).2)).mono ?_; rintro e w' ⟨rfl, p, rfl⟩) | (go_at_call 30; refine (EN _).mono ?_; rintro e w' ⟨rfl, p, rfl⟩)))
    refine bodyPost_ret (v := .tuple #[zIns, .int .i64 20]) (by simp [results, Tryz.results19, go_sem, r0, r1, r2, r3, r4, r5, r6, r7, n2]) rfl ⟨rfl, ?_⟩
    clear EN
    show G w _
    (with_reducible repeat' (first | exact G.refl _ | apply G.gr | apply G.alloc | refine G.set ?_ (a := ⟨w.heap.size, _, none⟩) (Nat.le_refl _) _ | refine G.set ?_ ?_ _))
    all_goals exact Nat.le_of_lt (lt_gr _ _ _)
set_option maxHeartbeats 2000000 in
theorem rdecode_r (x : Int) (w : World) (x0 : 0 ≤ x) (x1 : x < 4294967296) (e0 : (fgetI 30 2 false x == 0) = false) (e1 : (fgetI 30 2 false x == 1) = false) (e2 : (fgetI 30 2 false x == 2) = false) (eu : (fgetI 29 1 false x == 1) = false) :
    Calls Tryz.prog 19 #[.int .u32 x] w fun e w' => e = .returned (if decR x = true then .tuple #[uIns x, .int .i64 0] else .tuple #[zIns, .int .i64 20]) ∧ ∃ p : By, w' = gr w p := by
  obtain ⟨z0, z1, z2, z3, z4, z5, z6, z7⟩ := new_facts (fgetI 30 2 false x) false (fgetI 28 1 false x == 1) (fgetI 24 4 false x) 0 0 0 0
  obtain ⟨r0, r1, r2, r3, r4, r5, r6, r7, rf⟩ := res_facts w #[.int .i64 (fgetI 30 2 false x), .bool false, .bool (fgetI 28 1 false x == 1), .int .i64 (fgetI 24 4 false x), .int .i64 0, .int .i64 0, .int .i64 0, .int .i64 0] 47
  have hgg := gr_gr
  have s1 := set1
  have s2 := set2
  have s3 := set3
  have hfz := gr_frozen
  have n1 := ne_new w
  have n2 := ne_new' w
  obtain ⟨g, hg⟩ : ∃ g, goodR (uF x) (uU x) (uV x) (uA x) (uB x) (uC x) (uOp x) (uIm x) = g := ⟨_, rfl⟩
  obtain ⟨Y, hY⟩ : ∃ Y, againI x = Y := ⟨_, rfl⟩
  have D : Hid (decR x = (g && decide (Y = x))) := by show decR x = _; rw [decR, hg, hY]
  have h0 : ¬ uF x = 0 := ne_of_beq_false e0
  have h1 : ¬ uF x = 1 := ne_of_beq_false e1
  have h2 : ¬ uF x = 2 := ne_of_beq_false e2
  have hu : uU x = false := eu
  have hb : uB x = 0 := by simp [uB, h0, h1, h2]
  have hc : uC x = (fgetI 0 4 false x) := by simp [uC, h0, h1, h2, hu]
  have ho : uOp x = 0 := by simp [uOp, h0, h1]
  have hi : uIm x = 0 := by simp [uIm, h0, h1, h2, hu]
  have EN := rencode_at hg hY hb hc ho hi
  rw [eu] at EN
  have RI : Hid (uIns x = ins (fgetI 30 2 false x) false (fgetI 28 1 false x == 1) (fgetI 24 4 false x) 0 (fgetI 0 4 false x) 0 0) := ins_eq rfl eu rfl rfl hb hc ho hi
  clear hg hY h0 h1 h2 hu hb hc ho hi
  cases g
  · rw [show decR x = false from by rw [D.out]; rfl]
    clear D RI
    (go_enter Tryz.func19, Tryz.ntmps19; go_wp2_with (first | (go_at_call 46; refine (part_any _ _ _ _ x0 x1 (by decide)).mono ?_; rintro e w' ⟨rfl, p, rfl⟩) | (go_at_call 48; refine (calls_drew0 (rget_any _ _ _ _ x0 x1 (by decide))).mono ?_; rintro e w' ⟨rfl, p, rfl⟩) | (go_at_call 47; refine (calls_same0 (rextend_any _ _ _ (get_range _ _ _).1 (get_range _ _ _).2)).mono ?_; rintro e w' ⟨rfl, p, rfl⟩) | (go_at_call 30; refine (EN _).mono ?_; rintro e w' ⟨rfl, p, rfl⟩)))
    refine bodyPost_ret (v := .tuple #[zIns, .int .i64 20]) (by simp [results, Tryz.results19, go_sem, r0, r1, r2, r3, r4, r5, r6, r7, n2]) rfl ⟨rfl, ?_⟩
    clear EN
    show G w _
    (with_reducible repeat' (first | exact G.refl _ | apply G.gr | apply G.alloc | refine G.set ?_ (a := ⟨w.heap.size, _, none⟩) (Nat.le_refl _) _ | refine G.set ?_ ?_ _))
    all_goals exact Nat.le_of_lt (lt_gr _ _ _)
  by_cases hy : Y = x
  · rw [show decR x = true from by rw [D.out, hy]; simp, RI.out]
    have hn : (Y != x) = false := by simp [hy]
    clear D RI hy
    (go_enter Tryz.func19, Tryz.ntmps19; go_wp2_with (first | (go_at_call 46; refine (part_any _ _ _ _ x0 x1 (by decide)).mono ?_; rintro e w' ⟨rfl, p, rfl⟩) | (go_at_call 48; refine (calls_drew0 (rget_any _ _ _ _ x0 x1 (by decide))).mono ?_; rintro e w' ⟨rfl, p, rfl⟩) | (go_at_call 47; refine (calls_same0 (rextend_any _ _ _ (get_range _ _ _).1 (get_range _ _ _).2)).mono ?_; rintro e w' ⟨rfl, p, rfl⟩) | (go_at_call 30; refine (EN _).mono ?_; rintro e w' ⟨rfl, p, rfl⟩)))
    refine bodyPost_ret (v := .tuple #[ins (fgetI 30 2 false x) false (fgetI 28 1 false x == 1) (fgetI 24 4 false x) 0 (fgetI 0 4 false x) 0 0, .int .i64 0]) (by simp [results, Tryz.results19, go_sem, r0, r1, r2, r3, r4, r5, r6, r7, n2]) rfl ⟨rfl, ?_⟩
    clear EN
    show G w _
    (with_reducible repeat' (first | exact G.refl _ | apply G.gr | apply G.alloc | refine G.set ?_ (a := ⟨w.heap.size, _, none⟩) (Nat.le_refl _) _ | refine G.set ?_ ?_ _))
    all_goals exact Nat.le_of_lt (lt_gr _ _ _)
  · rw [show decR x = false from by rw [D.out, decide_eq_false hy]; rfl]
    have hn : (Y != x) = true := by simp [hy]
    clear D RI hy
    (go_enter Tryz.func19, Tryz.ntmps19; go_wp2_with (first | (go_at_call 46; refine (part_any _ _ _ _ x0 x1 (by decide)).mono ?_; rintro e w' ⟨rfl, p, rfl⟩) | (go_at_call 48; refine (calls_drew0 (rget_any _ _ _ _ x0 x1 (by decide))).mono ?_; rintro e w' ⟨rfl, p, rfl⟩) | (go_at_call 47; refine (calls_same0 (rextend_any _ _ _ (get_range _ _ _).1 (get_range _ _ _).2)).mono ?_; rintro e w' ⟨rfl, p, rfl⟩) | (go_at_call 30; refine (EN _).mono ?_; rintro e w' ⟨rfl, p, rfl⟩)))
    refine bodyPost_ret (v := .tuple #[zIns, .int .i64 20]) (by simp [results, Tryz.results19, go_sem, r0, r1, r2, r3, r4, r5, r6, r7, n2]) rfl ⟨rfl, ?_⟩
    clear EN
    show G w _
    (with_reducible repeat' (first | exact G.refl _ | apply G.gr | apply G.alloc | refine G.set ?_ (a := ⟨w.heap.size, _, none⟩) (Nat.le_refl _) _ | refine G.set ?_ ?_ _))
    all_goals exact Nat.le_of_lt (lt_gr _ _ _)
theorem rdecode_any (x : Int) (w : World) (x0 : 0 ≤ x) (x1 : x < 4294967296) :
    Calls Tryz.prog 19 #[.int .u32 x] w fun e w' => e = .returned (if decR x = true then .tuple #[uIns x, .int .i64 0] else .tuple #[zIns, .int .i64 20]) ∧ ∃ p : By, w' = gr w p := by
  cases e0 : (fgetI 30 2 false x == 0)
  · cases e1 : (fgetI 30 2 false x == 1)
    · cases e2 : (fgetI 30 2 false x == 2)
      · cases eu : (fgetI 29 1 false x == 1)
        · exact rdecode_r x w x0 x1 e0 e1 e2 eu
        · exact rdecode_j x w x0 x1 e0 e1 e2 eu
      · exact rdecode_2 x w x0 x1 e0 e1 e2
    · exact rdecode_1 x w x0 x1 e0 e1
  · exact rdecode_0 x w x0 x1 e0
end Go.Proofs.YtjeogojgabfbiaaGreatDoor.Risc
