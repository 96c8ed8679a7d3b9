/-
  Two instructions that are one are alike; and what the laws of layer 2 ask of fixed instructions.
-/
import Derived.Test.YtnogmacfnlhnlaaDoorRisc7
import Derived.KernelRfl
namespace Go.Proofs.YtnogmacfnlhnlaaDoor.Risc
open Go.RowKit Go.Proofs.YtnogmacfnlhnlaaDoor.Bits Go.Proofs.YtnogmacfnlhnlaaDoor.Gw

set_option maxHeartbeats 1000000 in
theorem same_any (f : Int) (u v : Bool) (a b c op im : Int) (w : World) :
    Calls Tryd.prog 16 #[ins f u v a b c op im, ins f u v a b c op im] w fun e w' => e = .returned (.bool true) ∧ ∃ p : By, w' = gr w p := by
  go_enter Tryd.func16, Tryd.ntmps16
  go_wp2
  go_ret
  exact ⟨rfl, ((G.refl w).alloc _ _).alloc _ _⟩

/- A block behind which one more lies. -/
theorem old_facts (f : Int) (u v : Bool) (a b c op im : Int) :
    (∀ (V : World) (p : By) (cs : Array Value) (t : TypeId), ((gr (V.alloc (.cells #[.int .i64 f, .bool u, .bool v, .int .i64 a, .int .i64 b, .int .i64 c, .int .i64 op, .int .i64 im] 23)) p).alloc (.cells cs t)).cell? ⟨V.heap.size, 0, none⟩ = some (.int .i64 f)) ∧
    (∀ (V : World) (p : By) (cs : Array Value) (t : TypeId), ((gr (V.alloc (.cells #[.int .i64 f, .bool u, .bool v, .int .i64 a, .int .i64 b, .int .i64 c, .int .i64 op, .int .i64 im] 23)) p).alloc (.cells cs t)).cell? ⟨V.heap.size, 1, none⟩ = some (.bool u)) ∧
    (∀ (V : World) (p : By) (cs : Array Value) (t : TypeId), ((gr (V.alloc (.cells #[.int .i64 f, .bool u, .bool v, .int .i64 a, .int .i64 b, .int .i64 c, .int .i64 op, .int .i64 im] 23)) p).alloc (.cells cs t)).cell? ⟨V.heap.size, 2, none⟩ = some (.bool v)) ∧
    (∀ (V : World) (p : By) (cs : Array Value) (t : TypeId), ((gr (V.alloc (.cells #[.int .i64 f, .bool u, .bool v, .int .i64 a, .int .i64 b, .int .i64 c, .int .i64 op, .int .i64 im] 23)) p).alloc (.cells cs t)).cell? ⟨V.heap.size, 3, none⟩ = some (.int .i64 a)) ∧
    (∀ (V : World) (p : By) (cs : Array Value) (t : TypeId), ((gr (V.alloc (.cells #[.int .i64 f, .bool u, .bool v, .int .i64 a, .int .i64 b, .int .i64 c, .int .i64 op, .int .i64 im] 23)) p).alloc (.cells cs t)).cell? ⟨V.heap.size, 4, none⟩ = some (.int .i64 b)) ∧
    (∀ (V : World) (p : By) (cs : Array Value) (t : TypeId), ((gr (V.alloc (.cells #[.int .i64 f, .bool u, .bool v, .int .i64 a, .int .i64 b, .int .i64 c, .int .i64 op, .int .i64 im] 23)) p).alloc (.cells cs t)).cell? ⟨V.heap.size, 5, none⟩ = some (.int .i64 c)) ∧
    (∀ (V : World) (p : By) (cs : Array Value) (t : TypeId), ((gr (V.alloc (.cells #[.int .i64 f, .bool u, .bool v, .int .i64 a, .int .i64 b, .int .i64 c, .int .i64 op, .int .i64 im] 23)) p).alloc (.cells cs t)).cell? ⟨V.heap.size, 6, none⟩ = some (.int .i64 op)) ∧
    (∀ (V : World) (p : By) (cs : Array Value) (t : TypeId), ((gr (V.alloc (.cells #[.int .i64 f, .bool u, .bool v, .int .i64 a, .int .i64 b, .int .i64 c, .int .i64 op, .int .i64 im] 23)) p).alloc (.cells cs t)).cell? ⟨V.heap.size, 7, none⟩ = some (.int .i64 im)) :=
  ⟨fun V p _ _ => (((Own.new V _).gr p).g ((G.refl _).alloc _ _)).cell0 0 rfl, fun V p _ _ => (((Own.new V _).gr p).g ((G.refl _).alloc _ _)).cell0 1 rfl, fun V p _ _ => (((Own.new V _).gr p).g ((G.refl _).alloc _ _)).cell0 2 rfl, fun V p _ _ => (((Own.new V _).gr p).g ((G.refl _).alloc _ _)).cell0 3 rfl, fun V p _ _ => (((Own.new V _).gr p).g ((G.refl _).alloc _ _)).cell0 4 rfl, fun V p _ _ => (((Own.new V _).gr p).g ((G.refl _).alloc _ _)).cell0 5 rfl, fun V p _ _ => (((Own.new V _).gr p).g ((G.refl _).alloc _ _)).cell0 6 rfl, fun V p _ _ => (((Own.new V _).gr p).g ((G.refl _).alloc _ _)).cell0 7 rfl⟩
theorem older_facts (f : Int) (u v : Bool) (a b c op im : Int) :
    (∀ (V : World) (p : By) (cs : Array Value) (t : TypeId) (q : By), (gr ((gr (V.alloc (.cells #[.int .i64 f, .bool u, .bool v, .int .i64 a, .int .i64 b, .int .i64 c, .int .i64 op, .int .i64 im] 23)) p).alloc (.cells cs t)) q).cell? ⟨V.heap.size, 0, none⟩ = some (.int .i64 f)) ∧
    (∀ (V : World) (p : By) (cs : Array Value) (t : TypeId) (q : By), (gr ((gr (V.alloc (.cells #[.int .i64 f, .bool u, .bool v, .int .i64 a, .int .i64 b, .int .i64 c, .int .i64 op, .int .i64 im] 23)) p).alloc (.cells cs t)) q).cell? ⟨V.heap.size, 1, none⟩ = some (.bool u)) ∧
    (∀ (V : World) (p : By) (cs : Array Value) (t : TypeId) (q : By), (gr ((gr (V.alloc (.cells #[.int .i64 f, .bool u, .bool v, .int .i64 a, .int .i64 b, .int .i64 c, .int .i64 op, .int .i64 im] 23)) p).alloc (.cells cs t)) q).cell? ⟨V.heap.size, 2, none⟩ = some (.bool v)) ∧
    (∀ (V : World) (p : By) (cs : Array Value) (t : TypeId) (q : By), (gr ((gr (V.alloc (.cells #[.int .i64 f, .bool u, .bool v, .int .i64 a, .int .i64 b, .int .i64 c, .int .i64 op, .int .i64 im] 23)) p).alloc (.cells cs t)) q).cell? ⟨V.heap.size, 3, none⟩ = some (.int .i64 a)) ∧
    (∀ (V : World) (p : By) (cs : Array Value) (t : TypeId) (q : By), (gr ((gr (V.alloc (.cells #[.int .i64 f, .bool u, .bool v, .int .i64 a, .int .i64 b, .int .i64 c, .int .i64 op, .int .i64 im] 23)) p).alloc (.cells cs t)) q).cell? ⟨V.heap.size, 4, none⟩ = some (.int .i64 b)) ∧
    (∀ (V : World) (p : By) (cs : Array Value) (t : TypeId) (q : By), (gr ((gr (V.alloc (.cells #[.int .i64 f, .bool u, .bool v, .int .i64 a, .int .i64 b, .int .i64 c, .int .i64 op, .int .i64 im] 23)) p).alloc (.cells cs t)) q).cell? ⟨V.heap.size, 5, none⟩ = some (.int .i64 c)) ∧
    (∀ (V : World) (p : By) (cs : Array Value) (t : TypeId) (q : By), (gr ((gr (V.alloc (.cells #[.int .i64 f, .bool u, .bool v, .int .i64 a, .int .i64 b, .int .i64 c, .int .i64 op, .int .i64 im] 23)) p).alloc (.cells cs t)) q).cell? ⟨V.heap.size, 6, none⟩ = some (.int .i64 op)) ∧
    (∀ (V : World) (p : By) (cs : Array Value) (t : TypeId) (q : By), (gr ((gr (V.alloc (.cells #[.int .i64 f, .bool u, .bool v, .int .i64 a, .int .i64 b, .int .i64 c, .int .i64 op, .int .i64 im] 23)) p).alloc (.cells cs t)) q).cell? ⟨V.heap.size, 7, none⟩ = some (.int .i64 im)) :=
  ⟨fun V p _ _ q => (((Own.new V _).gr p).g (((G.refl _).alloc _ _).gr q)).cell0 0 rfl, fun V p _ _ q => (((Own.new V _).gr p).g (((G.refl _).alloc _ _).gr q)).cell0 1 rfl, fun V p _ _ q => (((Own.new V _).gr p).g (((G.refl _).alloc _ _).gr q)).cell0 2 rfl, fun V p _ _ q => (((Own.new V _).gr p).g (((G.refl _).alloc _ _).gr q)).cell0 3 rfl, fun V p _ _ q => (((Own.new V _).gr p).g (((G.refl _).alloc _ _).gr q)).cell0 4 rfl, fun V p _ _ q => (((Own.new V _).gr p).g (((G.refl _).alloc _ _).gr q)).cell0 5 rfl, fun V p _ _ q => (((Own.new V _).gr p).g (((G.refl _).alloc _ _).gr q)).cell0 6 rfl, fun V p _ _ q => (((Own.new V _).gr p).g (((G.refl _).alloc _ _).gr q)).cell0 7 rfl⟩

theorem wake1 : goodB 0 false false 1 2 3 8 0 = true := by kernel_rfl
theorem wake2 : packI 0 false false 1 2 3 8 0 = 19398659 := by kernel_rfl
theorem wake3 : goodB 3 true true 7 0 0 0 (-1) = true := by kernel_rfl
theorem wake4 : packI 3 true true 7 0 0 0 (-1) = 4160749567 := by kernel_rfl
theorem wake5 : decB 786432 = false := by kernel_rfl
theorem enc1 (w : World) (L : Laid w) : Calls Tryd.prog 9 #[ins 0 false false 1 2 3 8 0] w fun e w' => e = .returned (.tuple #[.int .u32 19398659, .int .i64 0]) ∧ ∃ p : By, w' = gr w p := by
  have := encode_any 0 false false 1 2 3 8 0 w L
  rw [wake1, wake2, if_pos rfl] at this
  exact this
theorem enc2 (w : World) (L : Laid w) : Calls Tryd.prog 9 #[ins 3 true true 7 0 0 0 (-1)] w fun e w' => e = .returned (.tuple #[.int .u32 4160749567, .int .i64 0]) ∧ ∃ p : By, w' = gr w p := by
  have := encode_any 3 true true 7 0 0 0 (-1) w L
  rw [wake3, wake4, if_pos rfl] at this
  exact this
theorem dec1 (w : World) (L : Laid w) : Calls Tryd.prog 14 #[.int .u32 786432] w fun e w' => e = .returned (.tuple #[zIns, .int .i64 20]) ∧ ∃ p : By, w' = gr w p := by
  have := decode_any 786432 w L (by decide) (by decide)
  rw [wake5, if_neg (by decide)] at this
  exact this
set_option maxHeartbeats 1000000 in
theorem wakes_any (w : World) (L : Laid w) : Calls Tryd.prog 13 #[] w fun e w' => e = .returned (.bool true) ∧ ∃ p : By, w' = gr w p := by
  have LW : ∀ p : By, Laid (gr w p) := fun p => L.gr p
  go_enter Tryd.func13, Tryd.ntmps13
  go_wp2_with (first
    | (go_at_call 9; refine (enc1 _ L).mono ?_; rintro e w' ⟨rfl, p, rfl⟩)
    | (go_at_call 9; refine (calls_gr (enc2 _ (LW _))).mono ?_; rintro e w' ⟨rfl, p, rfl⟩)
    | (go_at_call 14; refine (calls_gr (dec1 _ (LW _))).mono ?_; rintro e w' ⟨rfl, p, rfl⟩))
  go_ret
  exact ⟨rfl, ((G.refl w).gr _).alloc _ _⟩
end Go.Proofs.YtnogmacfnlhnlaaDoor.Risc
