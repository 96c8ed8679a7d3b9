/-
  Package risc: what Decode answers.
-/
import Derived.Test.YtfdofleohichiaaGreatDoorRisc6
namespace Go.Proofs.YtfdofleohichiaaGreatDoor.Risc
open Go.RowKit Go.Proofs.YtfdofleohichiaaGreatDoor.Bits Go.Proofs.YtfdofleohichiaaGreatDoor.Gw

/- The word that the instruction of a word's bits makes; is the word an instruction? -/
def againI (x : Int) : Int := packI (uF x) (uU x) (uV x) (uA x) (uB x) (uC x) (uOp x) (uIm x)
def decB (x : Int) : Bool := decide (againI x = x) && operB (uF x) (uU x) (uV x) (uOp x)
abbrev zIns : Value := ins 0 false false 0 0 0 0 0

theorem new_facts (f : Int) (u v : Bool) (a b c op im : Int) :
    (∀ (V : World) (p : By), (gr (V.alloc (.cells #[.int .i64 f, .bool u, .bool v, .int .i64 a, .int .i64 b, .int .i64 c, .int .i64 op, .int .i64 im] 72)) p).cell? ⟨V.heap.size, 0, none⟩ = some (.int .i64 f)) ∧
    (∀ (V : World) (p : By), (gr (V.alloc (.cells #[.int .i64 f, .bool u, .bool v, .int .i64 a, .int .i64 b, .int .i64 c, .int .i64 op, .int .i64 im] 72)) p).cell? ⟨V.heap.size, 1, none⟩ = some (.bool u)) ∧
    (∀ (V : World) (p : By), (gr (V.alloc (.cells #[.int .i64 f, .bool u, .bool v, .int .i64 a, .int .i64 b, .int .i64 c, .int .i64 op, .int .i64 im] 72)) p).cell? ⟨V.heap.size, 2, none⟩ = some (.bool v)) ∧
    (∀ (V : World) (p : By), (gr (V.alloc (.cells #[.int .i64 f, .bool u, .bool v, .int .i64 a, .int .i64 b, .int .i64 c, .int .i64 op, .int .i64 im] 72)) p).cell? ⟨V.heap.size, 3, none⟩ = some (.int .i64 a)) ∧
    (∀ (V : World) (p : By), (gr (V.alloc (.cells #[.int .i64 f, .bool u, .bool v, .int .i64 a, .int .i64 b, .int .i64 c, .int .i64 op, .int .i64 im] 72)) p).cell? ⟨V.heap.size, 4, none⟩ = some (.int .i64 b)) ∧
    (∀ (V : World) (p : By), (gr (V.alloc (.cells #[.int .i64 f, .bool u, .bool v, .int .i64 a, .int .i64 b, .int .i64 c, .int .i64 op, .int .i64 im] 72)) p).cell? ⟨V.heap.size, 5, none⟩ = some (.int .i64 c)) ∧
    (∀ (V : World) (p : By), (gr (V.alloc (.cells #[.int .i64 f, .bool u, .bool v, .int .i64 a, .int .i64 b, .int .i64 c, .int .i64 op, .int .i64 im] 72)) p).cell? ⟨V.heap.size, 6, none⟩ = some (.int .i64 op)) ∧
    (∀ (V : World) (p : By), (gr (V.alloc (.cells #[.int .i64 f, .bool u, .bool v, .int .i64 a, .int .i64 b, .int .i64 c, .int .i64 op, .int .i64 im] 72)) p).cell? ⟨V.heap.size, 7, none⟩ = some (.int .i64 im)) :=
  ⟨fun V p => (Own.new V _).cell 0 rfl p, fun V p => (Own.new V _).cell 1 rfl p, fun V p => (Own.new V _).cell 2 rfl p, fun V p => (Own.new V _).cell 3 rfl p,
   fun V p => (Own.new V _).cell 4 rfl p, fun V p => (Own.new V _).cell 5 rfl p, fun V p => (Own.new V _).cell 6 rfl p, fun V p => (Own.new V _).cell 7 rfl p⟩
/- The result's own block, behind one more. -/
theorem res_own (w : World) (p q : By) (cs : Array Value) (t : TypeId) : Own (gr ((gr (w.alloc (.cells #[.int .i64 0, .bool false, .bool false, .int .i64 0, .int .i64 0, .int .i64 0, .int .i64 0, .int .i64 0] 72)) p).alloc (.cells cs t)) q) w.heap.size #[.int .i64 0, .bool false, .bool false, .int .i64 0, .int .i64 0, .int .i64 0, .int .i64 0, .int .i64 0] :=
  ((Own.new w _).gr p).g (((G.refl _).alloc _ _).gr q)
theorem res_facts (w : World) (cs : Array Value) (t : TypeId) :
    (∀ p q : By, (gr ((gr (w.alloc (.cells #[.int .i64 0, .bool false, .bool false, .int .i64 0, .int .i64 0, .int .i64 0, .int .i64 0, .int .i64 0] 72)) p).alloc (.cells cs t)) q).cell? ⟨w.heap.size, 0, none⟩ = some (.int .i64 0)) ∧
    (∀ p q : By, (gr ((gr (w.alloc (.cells #[.int .i64 0, .bool false, .bool false, .int .i64 0, .int .i64 0, .int .i64 0, .int .i64 0, .int .i64 0] 72)) p).alloc (.cells cs t)) q).cell? ⟨w.heap.size, 1, none⟩ = some (.bool false)) ∧
    (∀ p q : By, (gr ((gr (w.alloc (.cells #[.int .i64 0, .bool false, .bool false, .int .i64 0, .int .i64 0, .int .i64 0, .int .i64 0, .int .i64 0] 72)) p).alloc (.cells cs t)) q).cell? ⟨w.heap.size, 2, none⟩ = some (.bool false)) ∧
    (∀ p q : By, (gr ((gr (w.alloc (.cells #[.int .i64 0, .bool false, .bool false, .int .i64 0, .int .i64 0, .int .i64 0, .int .i64 0, .int .i64 0] 72)) p).alloc (.cells cs t)) q).cell? ⟨w.heap.size, 3, none⟩ = some (.int .i64 0)) ∧
    (∀ p q : By, (gr ((gr (w.alloc (.cells #[.int .i64 0, .bool false, .bool false, .int .i64 0, .int .i64 0, .int .i64 0, .int .i64 0, .int .i64 0] 72)) p).alloc (.cells cs t)) q).cell? ⟨w.heap.size, 4, none⟩ = some (.int .i64 0)) ∧
    (∀ p q : By, (gr ((gr (w.alloc (.cells #[.int .i64 0, .bool false, .bool false, .int .i64 0, .int .i64 0, .int .i64 0, .int .i64 0, .int .i64 0] 72)) p).alloc (.cells cs t)) q).cell? ⟨w.heap.size, 5, none⟩ = some (.int .i64 0)) ∧
    (∀ p q : By, (gr ((gr (w.alloc (.cells #[.int .i64 0, .bool false, .bool false, .int .i64 0, .int .i64 0, .int .i64 0, .int .i64 0, .int .i64 0] 72)) p).alloc (.cells cs t)) q).cell? ⟨w.heap.size, 6, none⟩ = some (.int .i64 0)) ∧
    (∀ p q : By, (gr ((gr (w.alloc (.cells #[.int .i64 0, .bool false, .bool false, .int .i64 0, .int .i64 0, .int .i64 0, .int .i64 0, .int .i64 0] 72)) p).alloc (.cells cs t)) q).cell? ⟨w.heap.size, 7, none⟩ = some (.int .i64 0)) ∧
    (∀ (p q : By) (i : Nat), (gr ((gr (w.alloc (.cells #[.int .i64 0, .bool false, .bool false, .int .i64 0, .int .i64 0, .int .i64 0, .int .i64 0, .int .i64 0] 72)) p).alloc (.cells cs t)) q).frozen? ⟨w.heap.size, i, none⟩ = false) :=
  ⟨fun p q => (res_own w p q cs t).cell0 0 rfl, fun p q => (res_own w p q cs t).cell0 1 rfl, fun p q => (res_own w p q cs t).cell0 2 rfl, fun p q => (res_own w p q cs t).cell0 3 rfl,
   fun p q => (res_own w p q cs t).cell0 4 rfl, fun p q => (res_own w p q cs t).cell0 5 rfl, fun p q => (res_own w p q cs t).cell0 6 rfl, fun p q => (res_own w p q cs t).cell0 7 rfl,
   fun p q i => (res_own w p q cs t).frozen i⟩

set_option maxHeartbeats 2000000 in
theorem decode_any (x : Int) (w : World) (L : Laid w) (x0 : 0 ≤ x) (x1 : x < 4294967296) :
    Calls Tryz.prog 36 #[.int .u32 x] w fun e w' => e = .returned (if decB x = true then .tuple #[uIns x, .int .i64 0] else .tuple #[zIns, .int .i64 20]) ∧ ∃ p : By, w' = gr w p := by
  have L0 : Laid (w.alloc (.cells #[.int .i64 0, .bool false, .bool false, .int .i64 0, .int .i64 0, .int .i64 0, .int .i64 0, .int .i64 0] 72)) := L.g ((G.refl w).alloc _ _)
  have UN := unpack_any x
  have D : Hid (decB x = (decide (againI x = x) && operB (uF x) (uU x) (uV x) (uOp x))) := rfl
  have PK := pack_any (uF x) (uU x) (uV x) (uA x) (uB x) (uC x) (uOp x) (uIm x)
  have OP := oper_any (uF x) (uU x) (uV x) (uA x) (uB x) (uC x) (uOp x) (uIm x)
  have hA : packI (uF x) (uU x) (uV x) (uA x) (uB x) (uC x) (uOp x) (uIm x) = againI x := rfl
  rw [hA] at PK
  clear hA
  revert D PK OP UN
  rw [uIns]
  generalize uF x = f
  generalize uU x = u
  generalize uV x = v
  generalize uA x = a
  generalize uB x = b
  generalize uC x = c
  generalize uOp x = op
  generalize uIm x = im
  generalize againI x = Y
  generalize operB f u v op = B
  intro UN D PK OP
  obtain ⟨z0, z1, z2, z3, z4, z5, z6, z7⟩ := new_facts f u v a b c op im
  obtain ⟨r0, r1, r2, r3, r4, r5, r6, r7, rf⟩ := res_facts w #[.int .i64 f, .bool u, .bool v, .int .i64 a, .int .i64 b, .int .i64 c, .int .i64 op, .int .i64 im] 72
  have hgg := gr_gr
  by_cases hY : Y = x
  · subst hY
    cases B
    · have E : Hid (decB Y = false) := by show decB Y = false; rw [D.out]; simp
      rw [E.out]
      clear D E
      go_enter Tryz.func36, Tryz.ntmps36
      go_wp2_with (first
      | (go_at_call 65; refine (UN _ L0 x0 x1).mono ?_; rintro e w' ⟨rfl, p, rfl⟩)
      | (go_at_call 66; refine (PK _ (by with_reducible repeat' (first | exact L0 | apply Laid.gr | apply Laid.alloc))).mono ?_; rintro e w' ⟨rfl, q, rfl⟩)
      | (go_at_call 67; refine (OP _ (by with_reducible repeat' (first | exact L0 | apply Laid.gr | apply Laid.alloc))).mono ?_; rintro e w' ⟨rfl, q2, rfl⟩))
      refine bodyPost_ret (v := .tuple #[zIns, .int .i64 20]) (by simp [results, Tryz.results36, go_sem, r0, r1, r2, r3, r4, r5, r6, r7]) rfl ⟨rfl, ?_⟩
      clear UN PK OP L0
      show G w _
      with_reducible repeat' (first | exact G.refl _ | apply G.gr | apply G.alloc | refine G.set ?_ (a := ⟨w.heap.size, _, none⟩) (Nat.le_refl _) _)
    · have E : Hid (decB Y = true) := by show decB Y = true; rw [D.out]; simp
      rw [E.out]
      clear D E
      go_enter Tryz.func36, Tryz.ntmps36
      go_wp2_with (first
      | (go_at_call 65; refine (UN _ L0 x0 x1).mono ?_; rintro e w' ⟨rfl, p, rfl⟩)
      | (go_at_call 66; refine (PK _ (by with_reducible repeat' (first | exact L0 | apply Laid.gr | apply Laid.alloc))).mono ?_; rintro e w' ⟨rfl, q, rfl⟩)
      | (go_at_call 67; refine (OP _ (by with_reducible repeat' (first | exact L0 | apply Laid.gr | apply Laid.alloc))).mono ?_; rintro e w' ⟨rfl, q2, rfl⟩))
      refine bodyPost_ret (v := .tuple #[ins f u v a b c op im, .int .i64 0]) (by simp [results, Tryz.results36, go_sem, r0, r1, r2, r3, r4, r5, r6, r7]) rfl ⟨rfl, ?_⟩
      clear UN PK OP L0
      show G w _
      with_reducible repeat' (first | exact G.refl _ | apply G.gr | apply G.alloc | refine G.set ?_ (a := ⟨w.heap.size, _, none⟩) (Nat.le_refl _) _)
  · have E : Hid (decB x = false) := by show decB x = false; rw [D.out, decide_eq_false hY]; rfl
    have hn : (Y != x) = true := by simp [hY]
    rw [E.out]
    clear D E OP
    go_enter Tryz.func36, Tryz.ntmps36
    go_wp2_with (first
      | (go_at_call 65; refine (UN _ L0 x0 x1).mono ?_; rintro e w' ⟨rfl, p, rfl⟩)
      | (go_at_call 66; refine (PK _ (by with_reducible repeat' (first | exact L0 | apply Laid.gr | apply Laid.alloc))).mono ?_; rintro e w' ⟨rfl, q, rfl⟩))
    refine bodyPost_ret (v := .tuple #[zIns, .int .i64 20]) (by simp [results, Tryz.results36, go_sem, r0, r1, r2, r3, r4, r5, r6, r7]) rfl ⟨rfl, ?_⟩
    clear UN PK L0
    show G w _
    with_reducible repeat' (first | exact G.refl _ | apply G.gr | apply G.alloc | refine G.set ?_ (a := ⟨w.heap.size, _, none⟩) (Nat.le_refl _) _)
end Go.Proofs.YtfdofleohichiaaGreatDoor.Risc
