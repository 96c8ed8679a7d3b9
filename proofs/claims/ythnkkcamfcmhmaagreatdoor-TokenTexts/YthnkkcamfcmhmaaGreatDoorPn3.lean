/-
  What Go's own strconv.ParseUint and ParseInt answer of digits; what Go's own tables must hold.
-/
import Derived.Test.YthnkkcamfcmhmaaGreatDoorPn1
import Derived.Test.YthnkkcamfcmhmaaGreatDoorPn2
namespace Go.Proofs.YthnkkcamfcmhmaaGreatDoor.Lx
open Go.RowKit Go.Proofs.YthnkkcamfcmhmaaGreatDoor.Tx
set_option linter.unusedVariables false
set_option linter.unusedSimpArgs false
set_option maxRecDepth 100000

def IfaceV (v : Value) : Prop := v = .nilIface ∨ ∃ te pe, v = .iface te pe
def sgC : Array Value := (signs.map fun l => Value.string (bs l)).toArray
structure Gt (w : World) : Prop where
  size : 11 < w.heap.size
  signs : ∃ t fr, w.heap[0]? = some (.cells sgC t fr)
  space : Lib.TabIs Tryz.prog w "strings.asciiSpace" .u8 Lib.asciiSpaceTab
  pow : Lib.TabIs Tryz.prog w Tryz.name2 .u64 Lib.pow10Tab
  errR : ∃ ev, w.cell? ⟨4, 0, none⟩ = some ev ∧ IfaceV ev
  deb : DebAt w
theorem tab_gb {w w' : World} {n : String} {g : Nat} {k : IntKind} {l : List Int} (hn : Tryz.prog.globalNamed n = some g) (h : w.grownBy w' none) (hs : g < w.heap.size) (t : Lib.TabIs Tryz.prog w n k l) : Lib.TabIs Tryz.prog w' n k l := by
  unfold Lib.TabIs World.var? at t ⊢
  rw [hn] at t ⊢
  simp only [Option.bind_some] at t ⊢
  rw [h.block _ hs (by simp)]
  exact t
theorem powG : Tryz.prog.globalNamed Tryz.name2 = some 6 := by kernel_rfl
theorem spaG : Tryz.prog.globalNamed "strings.asciiSpace" = some 1 := by kernel_rfl
theorem Gt.g {w w' : World} (A : Gt w) (h : w.grownBy w' none) : Gt w' := by
  have s := A.size
  obtain ⟨t, fr, hb⟩ := A.signs
  obtain ⟨e2, h2, i2⟩ := A.errR
  have s' := h.size
  exact ⟨by omega, ⟨t, fr, (h.block _ (by omega) (by simp)).trans hb⟩, tab_gb spaG h (by omega) A.space, tab_gb powG h (by omega) A.pow, ⟨e2, (gcell h _ _ (by omega)).trans h2, i2⟩, (gcell h _ _ (by omega)).trans A.deb⟩
theorem below_g {w w' : World} (h : Below w.heap.size w w') : w.grownBy w' none := ⟨h.os, h.tape, h.output, h.size, fun k hk _ => h.block k hk⟩
theorem bytesW_g (w : World) (e : TypeId) (t : ByteArray) : w.grownBy (Lib.bytesWorld w e t) none := by
  refine ⟨rfl, rfl, rfl, ?_, fun k hk _ => ?_⟩
  · simp [Lib.bytesWorld, World.freeze]
  · have hne : ¬ w.heap.size = k := by omega
    simp [Lib.bytesWorld, World.freeze, Array.getElem?_modify, hne]
    have := Below.heap_alloc w.drew (.cells (Lib.bytesCells w e t) e) k hk
    exact this
theorem toe_any (t : List UInt8) (ht : t.length ≤ 1000000) (w : World) (A : Gt w) (b : Int) :
    Calls Tryz.prog 57 #[.string ⟨#[80, 97, 114, 115, 101, 85, 105, 110, 116]⟩, .string (bs t), .int .i64 16, .int .i64 b, .iface 100 (.int .i64 1)] w fun e w' => ∃ te pe, e = .returned (.iface te pe) ∧ w.grownBy w' none := by
  have hsz : (bs t).size ≤ 281474976710656 := by rw [bs_size]; omega
  obtain ⟨ev, h1, h2⟩ := A.errR
  exact (Tryz.strconv_toError_range _ (bs t) 16 b ev w hsz h1 h2).mono fun e w' ⟨N, he, _, _, hb⟩ => ⟨_, _, he, below_g hb⟩
set_option maxHeartbeats 2000000 in
theorem pu32_ok (t : List UInt8) (hne : t ≠ []) (hmax : t.length ≤ 1000000) (ha : t.all hexN = true) (h : valB 16 t ≤ 4294967295) (w : World) :
    Calls Tryz.prog 47 #[.string (bs t), .int .i64 16, .int .i64 32] w fun e w' => e = .returned (.tuple #[.int .u64 (valB 16 t : Nat), .nilIface]) ∧ w.grownBy w' none := by
  have PI := hide (pui32 t hne hmax ha w)
  clear ha hne hmax
  go_enter Tryz.func47, Tryz.ntmps47; go_wp2_with (go_at_call 56; refine PI.out.mono ?_; rintro e w1 ⟨v, ev, rfl, rfl, v0, v1, hev⟩; obtain ⟨rfl, rfl⟩ := hev.1 h; clear hev); go_ret2; exact ⟨rfl, bytesW_g _ _ _⟩
set_option maxHeartbeats 2000000 in
theorem pu8_ok (t : List UInt8) (hne : t ≠ []) (hmax : t.length ≤ 1000000) (ha : t.all hexN = true) (h : valB 16 t ≤ 255) (w : World) :
    Calls Tryz.prog 47 #[.string (bs t), .int .i64 16, .int .i64 8] w fun e w' => e = .returned (.tuple #[.int .u64 (valB 16 t : Nat), .nilIface]) ∧ w.grownBy w' none := by
  have PI := hide (pui8 t hne hmax ha w)
  clear ha hne hmax
  go_enter Tryz.func47, Tryz.ntmps47; go_wp2_with (go_at_call 56; refine PI.out.mono ?_; rintro e w1 ⟨v, ev, rfl, rfl, v0, v1, hev⟩; obtain ⟨rfl, rfl⟩ := hev.1 h; clear hev); go_ret2; exact ⟨rfl, bytesW_g _ _ _⟩
set_option maxHeartbeats 2000000 in
theorem pu32_no (t : List UInt8) (hne : t ≠ []) (hmax : t.length ≤ 1000000) (ha : t.all hexN = true) (h : 4294967295 < valB 16 t) (w : World) (A : Gt w) :
    Calls Tryz.prog 47 #[.string (bs t), .int .i64 16, .int .i64 32] w fun e w' => ∃ v te pe, e = .returned (.tuple #[.int .u64 v, .iface te pe]) ∧ 0 ≤ v ∧ v ≤ 4294967295 ∧ w.grownBy w' none := by
  have PI := hide (pui32 t hne hmax ha w)
  have TR := hide (fun W (h : w.grownBy W none) => toe_any t hmax W (A.g h) 32)
  clear ha hne hmax A
  go_enter Tryz.func47, Tryz.ntmps47; go_wp2_with (first | (go_at_call 56; refine PI.out.mono ?_; rintro e w1 ⟨v, ev, rfl, hw1, v0, v1, hev⟩; obtain rfl := hev.2 h; have G1 := hide (show w.grownBy w1 none from hw1 ▸ bytesW_g _ _ _); clear hev hw1) | (go_at_call 57; refine (TR.out _ G1.out).mono ?_; rintro e w2 ⟨te, pe, rfl, hg2⟩; have G2 := hide (grown_trans G1.out hg2); clear hg2)); go_ret2; exact ⟨v, te, pe, rfl, v0, v1, G2.out⟩
set_option maxHeartbeats 2000000 in
theorem pu8_no (t : List UInt8) (hne : t ≠ []) (hmax : t.length ≤ 1000000) (ha : t.all hexN = true) (h : 255 < valB 16 t) (w : World) (A : Gt w) :
    Calls Tryz.prog 47 #[.string (bs t), .int .i64 16, .int .i64 8] w fun e w' => ∃ v te pe, e = .returned (.tuple #[.int .u64 v, .iface te pe]) ∧ 0 ≤ v ∧ v ≤ 255 ∧ w.grownBy w' none := by
  have PI := hide (pui8 t hne hmax ha w)
  have TR := hide (fun W (h : w.grownBy W none) => toe_any t hmax W (A.g h) 8)
  clear ha hne hmax A
  go_enter Tryz.func47, Tryz.ntmps47; go_wp2_with (first | (go_at_call 56; refine PI.out.mono ?_; rintro e w1 ⟨v, ev, rfl, hw1, v0, v1, hev⟩; obtain rfl := hev.2 h; have G1 := hide (show w.grownBy w1 none from hw1 ▸ bytesW_g _ _ _); clear hev hw1) | (go_at_call 57; refine (TR.out _ G1.out).mono ?_; rintro e w2 ⟨te, pe, rfl, hg2⟩; have G2 := hide (grown_trans G1.out hg2); clear hg2)); go_ret2; exact ⟨v, te, pe, rfl, v0, v1, G2.out⟩
theorem pi_ok (t : List UInt8) (hne : t ≠ []) (hmax : t.length ≤ 1000000) (ha : t.all digN = true) (h : valB 10 t < 2147483648) (w : World) :
    Calls Tryz.prog 50 #[.string (bs t), .int .i64 10, .int .i64 32] w fun e w' => e = .returned (.tuple #[.int .i64 (valB 10 t : Nat), .nilIface]) ∧ w.grownBy w' none := by
  have hp := pi_is hne ha
  rw [if_pos h] at hp
  refine (Tryz.strconv_ParseInt_10_at32_ok (bs t) (by rw [bs_size]; omega) _ hp w).mono ?_
  rintro e w' ⟨rfl, hw⟩
  refine ⟨rfl, ?_⟩
  rcases hw with rfl | ⟨x, rfl⟩
  · exact ⟨rfl, rfl, rfl, Nat.le_refl _, fun _ _ _ => rfl⟩
  · exact bytesW_g _ _ _
theorem pi_no (t : List UInt8) (hne : t ≠ []) (hmax : t.length ≤ 1000000) (ha : t.all digN = true) (h : ¬ valB 10 t < 2147483648) (w : World) (A : Gt w) :
    Calls Tryz.prog 50 #[.string (bs t), .int .i64 10, .int .i64 32] w fun e w' => ∃ v te pe, e = .returned (.tuple #[.int .i64 v, .iface te pe]) ∧ w.grownBy w' none := by
  have hp := pi_is hne ha
  rw [if_neg h] at hp
  obtain ⟨ev, h1, h2⟩ := A.errR
  refine (Tryz.strconv_ParseInt_10_at32_range (bs t) (by rw [bs_size]; omega) hp ev w h1 h2).mono ?_
  rintro e w' ⟨N, rfl, _, _, hb⟩
  exact ⟨_, _, _, rfl, below_g hb⟩
end Go.Proofs.YthnkkcamfcmhmaaGreatDoor.Lx
