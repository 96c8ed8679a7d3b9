/-
  Package risc: what unpack answers, for every word.
-/
import Derived.Test.YtfdofleohichiaaGreatDoorRisc2
import Derived.Deep.RegionHeld3
import Derived.Deep.Cut
namespace Go.Proofs.YtfdofleohichiaaGreatDoor.Risc
open Go.RowKit Go.Proofs.YtfdofleohichiaaGreatDoor.Bits Go.Proofs.YtfdofleohichiaaGreatDoor.Gw

/- A block of the call's own: an instruction. -/
def Own (w : World) (b : Nat) (cs : Array Value) : Prop := w.heap[b]? = some (.cells cs 72)
theorem Own.lt {w : World} {b : Nat} {cs : Array Value} (h : Own w b cs) : b < w.heap.size := by
  unfold Own at h
  exact (Array.getElem?_eq_some_iff.1 h).1
theorem Own.new (w : World) (cs : Array Value) : Own (w.alloc (.cells cs 72)) w.heap.size cs := by
  show (w.heap.push _)[w.heap.size]? = _
  simp
theorem Own.gr {w : World} {b : Nat} {cs : Array Value} (h : Own w b cs) (p : By) : Own (gr w p) b cs := by
  unfold Own
  rw [gr_old w p h.lt]; exact h
theorem Own.drew {w : World} {b : Nat} {cs : Array Value} (h : Own w b cs) : Own w.drew b cs := h
theorem Own.set {w : World} {b : Nat} {cs : Array Value} (h : Own w b cs) (i : Nat) (v : Value) : Own (w.setCell ⟨b, i, none⟩ v) b (cs.setIfInBounds i v) := by
  unfold Own at *
  simp [World.setCell, Array.getElem?_modify, h]
theorem Own.cell {w : World} {b : Nat} {cs : Array Value} (h : Own w b cs) (i : Nat) {v : Value} (hv : cs[i]? = some v) : ∀ p : By, (Gw.gr w p).cell? ⟨b, i, none⟩ = some v := by
  intro p
  have := h.gr p
  unfold Own at this
  simp [World.cell?, this, hv]
theorem Own.cell0 {w : World} {b : Nat} {cs : Array Value} (h : Own w b cs) (i : Nat) {v : Value} (hv : cs[i]? = some v) : w.cell? ⟨b, i, none⟩ = some v := by
  have := h.cell i hv []
  rwa [gr_nil] at this
theorem Own.g {w w' : World} (hg : G w w') {b : Nat} {cs : Array Value} (h : Own w b cs) : Own w' b cs := by
  obtain ⟨p, rfl⟩ := hg
  exact h.gr p
theorem Own.frozen {w : World} {b : Nat} {cs : Array Value} (h : Own w b cs) (i : Nat) : w.frozen? ⟨b, i, none⟩ = false := by
  unfold Own at h
  simp [World.frozen?, h]
theorem Laid.set {w : World} (L : Laid w) {a : Addr} (ha : 21 ≤ a.block) (v : Value) : Laid (w.setCell a v) := by
  have hc : ∀ g i, g < 21 → (w.setCell a v).cell? ⟨g, i, none⟩ = w.cell? ⟨g, i, none⟩ := fun g i hg =>
    World.cell?_of_block (w := w) (Below.heap_setCell w a v g (by omega))
  have F : ∀ {g : Nat} {lo n : Int} {s : Bool}, g < 21 → FieldAt w g lo n s → FieldAt (w.setCell a v) g lo n s := fun hg f =>
    ⟨(hc _ _ hg).trans f.1, (hc _ _ hg).trans f.2.1, (hc _ _ hg).trans f.2.2⟩
  have M : ∀ {i : Nat} {op : Int} {u v' : Bool}, MarkAt w i op u v' → MarkAt (w.setCell a v) i op u v' := fun f =>
    ⟨(hc _ _ (by decide)).trans f.1, (hc _ _ (by decide)).trans f.2.1, (hc _ _ (by decide)).trans f.2.2⟩
  exact ⟨by simpa [World.setCell] using L.size, F (by decide) L.form, F (by decide) L.u, F (by decide) L.v, F (by decide) L.a, F (by decide) L.b, F (by decide) L.op, F (by decide) L.c, F (by decide) L.im,
    F (by decide) L.mem, F (by decide) L.jump, M L.m0, M L.m1, M L.m2, M L.m3, M L.m4⟩

theorem Laid.gr {w : World} (L : Laid w) (p : By) : Laid (Gw.gr w p) := L.g (G.of _ _)
theorem Laid.alloc {w : World} (L : Laid w) (c : Array Value) (t : TypeId) : Laid (w.alloc (.cells c t)) := L.g ((G.refl _).alloc _ _)
theorem Laid.drew {w : World} (L : Laid w) : Laid w.drew := L.g (G.refl _).drew
theorem Laid.setAt {w V : World} (L : Laid w) (LV : Laid V) (i : Nat) (v : Value) : Laid (w.setCell ⟨V.heap.size, i, none⟩ v) := L.set LV.size v

theorem set8 (c0 c1 c2 c3 c4 c5 c6 c7 x0 x1 x2 x3 x4 x5 x6 x7 : Value) :
    ((((((((#[c0, c1, c2, c3, c4, c5, c6, c7].setIfInBounds 0 x0).setIfInBounds 1 x1).setIfInBounds 2 x2).setIfInBounds 3 x3).setIfInBounds 4 x4).setIfInBounds 5 x5).setIfInBounds 6 x6).setIfInBounds 7 x7) = #[x0, x1, x2, x3, x4, x5, x6, x7] := by
  simp
theorem Own.set8 {w : World} {b : Nat} {c0 c1 c2 c3 c4 c5 c6 c7 : Value} (h : Own w b #[c0, c1, c2, c3, c4, c5, c6, c7]) (x0 x1 x2 x3 x4 x5 x6 x7 : Value) :
    Own ((((((((w.setCell ⟨b, 0, none⟩ x0).setCell ⟨b, 1, none⟩ x1).setCell ⟨b, 2, none⟩ x2).setCell ⟨b, 3, none⟩ x3).setCell ⟨b, 4, none⟩ x4).setCell ⟨b, 5, none⟩ x5).setCell ⟨b, 6, none⟩ x6).setCell ⟨b, 7, none⟩ x7) b #[x0, x1, x2, x3, x4, x5, x6, x7] := by
  have := (((((((h.set 0 x0).set 1 x1).set 2 x2).set 3 x3).set 4 x4).set 5 x5).set 6 x6).set 7 x7
  rw [Risc.set8] at this
  exact this
theorem size_alloc (w : World) (o : Obj) : (w.alloc o).heap.size = w.heap.size + 1 := by show (w.heap.push _).size = _; simp
theorem lt_gr (w : World) (o : Obj) (p : By) : w.heap.size < (gr (w.alloc o) p).heap.size := by
  rw [gr_size, size_alloc]; omega

/- The instruction that a word's bits say. -/
def uF (x : Int) : Int := fgetI 30 2 false x
def uU (x : Int) : Bool := fgetI 29 1 false x == 1
def uV (x : Int) : Bool := fgetI 28 1 false x == 1
def uA (x : Int) : Int := fgetI 24 4 false x
def uB (x : Int) : Int := if uF x = 0 ∨ uF x = 1 ∨ uF x = 2 then fgetI 20 4 false x else 0
def uOp (x : Int) : Int := if uF x = 0 ∨ uF x = 1 then fgetI 16 4 false x else 0
def uC (x : Int) : Int := if uF x = 0 then fgetI 0 4 false x else if uF x = 1 ∨ uF x = 2 then 0 else if uU x = true then 0 else fgetI 0 4 false x
def uIm (x : Int) : Int := if uF x = 0 then 0 else if uF x = 1 then fgetI 0 16 false x else if uF x = 2 then fgetI 0 20 true x else if uU x = true then fgetI 0 24 true x else 0
abbrev uIns (x : Int) : Value := ins (uF x) (uU x) (uV x) (uA x) (uB x) (uC x) (uOp x) (uIm x)
theorem ret_ins {f f' : Int} {u u' v v' : Bool} {a a' b b' c c' o o' i i' : Int} (h1 : f = f') (h2 : u = u') (h3 : v = v') (h4 : a = a') (h5 : b = b') (h6 : c = c') (h7 : o = o') (h8 : i = i') :
    Ending.returned (ins f u v a b c o i) = .returned (ins f' u' v' a' b' c' o' i') := by subst h1 h2 h3 h4 h5 h6 h7 h8; rfl

set_option maxHeartbeats 2000000 in
theorem unpack_any (x : Int) (w : World) (L : Laid w) (x0 : 0 ≤ x) (x1 : x < 4294967296) :
    Calls Tryz.prog 65 #[.int .u32 x] w fun e w' => e = .returned (uIns x) ∧ ∃ p : By, w' = gr w p := by
  have G1 : ∀ W, Laid W → W.cell? ⟨3, 0, none⟩ = some (.int .i64 30) := fun W h => h.form.1
  have G2 : ∀ W, Laid W → W.cell? ⟨3, 1, none⟩ = some (.int .i64 2) := fun W h => h.form.2.1
  have G3 : ∀ W, Laid W → W.cell? ⟨3, 2, none⟩ = some (.bool false) := fun W h => h.form.2.2
  have G4 : ∀ W, Laid W → W.cell? ⟨4, 0, none⟩ = some (.int .i64 29) := fun W h => h.u.1
  have G5 : ∀ W, Laid W → W.cell? ⟨4, 1, none⟩ = some (.int .i64 1) := fun W h => h.u.2.1
  have G6 : ∀ W, Laid W → W.cell? ⟨4, 2, none⟩ = some (.bool false) := fun W h => h.u.2.2
  have G7 : ∀ W, Laid W → W.cell? ⟨5, 0, none⟩ = some (.int .i64 28) := fun W h => h.v.1
  have G8 : ∀ W, Laid W → W.cell? ⟨5, 1, none⟩ = some (.int .i64 1) := fun W h => h.v.2.1
  have G9 : ∀ W, Laid W → W.cell? ⟨5, 2, none⟩ = some (.bool false) := fun W h => h.v.2.2
  have Ga : ∀ W, Laid W → W.cell? ⟨6, 0, none⟩ = some (.int .i64 24) := fun W h => h.a.1
  have Gb : ∀ W, Laid W → W.cell? ⟨6, 1, none⟩ = some (.int .i64 4) := fun W h => h.a.2.1
  have Gc : ∀ W, Laid W → W.cell? ⟨6, 2, none⟩ = some (.bool false) := fun W h => h.a.2.2
  have LW := L.g ((G.refl w).alloc #[.int .i64 0, .bool false, .bool false, .int .i64 0, .int .i64 0, .int .i64 0, .int .i64 0, .int .i64 0] 72)
  have hgg := gr_gr
  have hfz := gr_frozen
  have hdr : ∀ (V : World) (p : By), gr V.drew p = gr V (none :: p) := fun V p => by rw [gr_drew, gr_gr]; rfl
  have s11 : 21 ≤ w.heap.size + 1 := by have := L.size; omega
  have OZ : Own ((w.alloc (.cells #[.int .i64 0, .bool false, .bool false, .int .i64 0, .int .i64 0, .int .i64 0, .int .i64 0, .int .i64 0] 72)).alloc (.cells #[.int .i64 0, .bool false, .bool false, .int .i64 0, .int .i64 0, .int .i64 0, .int .i64 0, .int .i64 0] 72)) (w.heap.size + 1) #[.int .i64 0, .bool false, .bool false, .int .i64 0, .int .i64 0, .int .i64 0, .int .i64 0, .int .i64 0] := by
    have := Own.new (w.alloc (.cells #[.int .i64 0, .bool false, .bool false, .int .i64 0, .int .i64 0, .int .i64 0, .int .i64 0, .int .i64 0] 72)) #[.int .i64 0, .bool false, .bool false, .int .i64 0, .int .i64 0, .int .i64 0, .int .i64 0, .int .i64 0]
    have e : (w.alloc (.cells #[.int .i64 0, .bool false, .bool false, .int .i64 0, .int .i64 0, .int .i64 0, .int .i64 0, .int .i64 0] 72)).heap.size = w.heap.size + 1 := by show (w.heap.push _).size = _; simp
    rwa [e] at this
  have y0 := OZ.cell 0 rfl
  have y1 := OZ.cell 1 rfl
  have y2 := OZ.cell 2 rfl
  have y3 := OZ.cell 3 rfl
  have y4 := OZ.cell 4 rfl
  have y5 := OZ.cell 5 rfl
  have y6 := OZ.cell 6 rfl
  have y7 := OZ.cell 7 rfl
  have z0 : ∀ (V : World) (p : By), (gr (V.alloc (.cells #[.int .i64 0, .bool false, .bool false, .int .i64 0, .int .i64 0, .int .i64 0, .int .i64 0, .int .i64 0] 72)) p).cell? ⟨V.heap.size, 0, none⟩ = some (.int .i64 0) := fun V p => (Own.new V _).cell 0 rfl p
  have z1 : ∀ (V : World) (p : By), (gr (V.alloc (.cells #[.int .i64 0, .bool false, .bool false, .int .i64 0, .int .i64 0, .int .i64 0, .int .i64 0, .int .i64 0] 72)) p).cell? ⟨V.heap.size, 1, none⟩ = some (.bool false) := fun V p => (Own.new V _).cell 1 rfl p
  have z2 : ∀ (V : World) (p : By), (gr (V.alloc (.cells #[.int .i64 0, .bool false, .bool false, .int .i64 0, .int .i64 0, .int .i64 0, .int .i64 0, .int .i64 0] 72)) p).cell? ⟨V.heap.size, 2, none⟩ = some (.bool false) := fun V p => (Own.new V _).cell 2 rfl p
  have z3 : ∀ (V : World) (p : By), (gr (V.alloc (.cells #[.int .i64 0, .bool false, .bool false, .int .i64 0, .int .i64 0, .int .i64 0, .int .i64 0, .int .i64 0] 72)) p).cell? ⟨V.heap.size, 3, none⟩ = some (.int .i64 0) := fun V p => (Own.new V _).cell 3 rfl p
  have z4 : ∀ (V : World) (p : By), (gr (V.alloc (.cells #[.int .i64 0, .bool false, .bool false, .int .i64 0, .int .i64 0, .int .i64 0, .int .i64 0, .int .i64 0] 72)) p).cell? ⟨V.heap.size, 4, none⟩ = some (.int .i64 0) := fun V p => (Own.new V _).cell 4 rfl p
  have z5 : ∀ (V : World) (p : By), (gr (V.alloc (.cells #[.int .i64 0, .bool false, .bool false, .int .i64 0, .int .i64 0, .int .i64 0, .int .i64 0, .int .i64 0] 72)) p).cell? ⟨V.heap.size, 5, none⟩ = some (.int .i64 0) := fun V p => (Own.new V _).cell 5 rfl p
  have z6 : ∀ (V : World) (p : By), (gr (V.alloc (.cells #[.int .i64 0, .bool false, .bool false, .int .i64 0, .int .i64 0, .int .i64 0, .int .i64 0, .int .i64 0] 72)) p).cell? ⟨V.heap.size, 6, none⟩ = some (.int .i64 0) := fun V p => (Own.new V _).cell 6 rfl p
  have z7 : ∀ (V : World) (p : By), (gr (V.alloc (.cells #[.int .i64 0, .bool false, .bool false, .int .i64 0, .int .i64 0, .int .i64 0, .int .i64 0, .int .i64 0] 72)) p).cell? ⟨V.heap.size, 7, none⟩ = some (.int .i64 0) := fun V p => (Own.new V _).cell 7 rfl p
  go_enter Tryz.func65, Tryz.ntmps65
  go_upto_region 1 with fail
  go_cut [3] from 4 (fun s3 wc => ∃ b, s3 = .pointer (some ⟨b, 0, none⟩) ∧ w.heap.size < b ∧ G (w.alloc (.cells #[.int .i64 0, .bool false, .bool false, .int .i64 0, .int .i64 0, .int .i64 0, .int .i64 0, .int .i64 0] 72)) wc ∧ Own wc b #[.int .i64 (fgetI 30 2 false x), .bool (fgetI 29 1 false x == 1), .bool (fgetI 28 1 false x == 1), .int .i64 (fgetI 24 4 false x), .int .i64 0, .int .i64 0, .int .i64 0, .int .i64 0])
  case first =>
    go_region_held3 (fun W => Laid W) ((with_reducible repeat' (first | exact LW | apply Laid.gr | apply Laid.alloc | apply Laid.drew | refine Laid.setAt ?_ ?_ _ _ | refine Laid.set ?_ (a := ⟨w.heap.size + 1, _, none⟩) s11 _)))
      ((go_at_call 105; refine (fget _ _ _ _ _ x0 x1 (by decide)).mono ?_; rintro e w' ⟨rfl, p, rfl⟩))
    all_goals (go_wp2_with fail; go_meet)
    all_goals
      clear G1 G2 G3 G4 G5 G6 G7 G8 G9 Ga Gb Gc y0 y1 y2 y3 y4 y5 y6 y7 z0 z1 z2 z3 z4 z5 z6 z7 hgg hfz hdr
      refine ⟨_, rfl, ?_, ?_, ?_⟩
      · with_reducible first | exact lt_gr _ _ _ | exact Nat.lt_succ_self _
      · with_reducible repeat' (first | exact G.refl _ | apply G.gr | apply G.alloc | apply G.drew | refine G.set ?_ ?_ _)
        all_goals with_reducible first | exact (G.of _ _).size | (rw [size_alloc]; exact Nat.le_refl _)
      · with_reducible first
          | exact Own.new _ _
          | exact Own.set8 ((Own.new _ _).gr _) _ _ _ _ _ _ _ _
          | exact Own.set8 (OZ.gr _) _ _ _ _ _ _ _ _
  case rest =>
    obtain ⟨b, rfl, hb, hG, hO⟩ := hcut
    clear z0 z1 z2 z3 z4 z5 z6 z7 y0 y1 y2 y3 y4 y5 y6 y7 G1 G2 G3 G4 G5 G6 G7 G8 G9 Ga Gb Gc OZ
    have LC : Laid wc := LW.g hG
    have hR : Own wc w.heap.size #[.int .i64 0, .bool false, .bool false, .int .i64 0, .int .i64 0, .int .i64 0, .int .i64 0, .int .i64 0] := (Own.new w _).g hG
    have GW : G w wc := ((G.refl w).alloc _ _).trans hG
    have hne : ¬ b = w.heap.size := by omega
    have hne' : ¬ w.heap.size = b := by omega
    have b11 : 21 ≤ b := by have := L.size; omega
    have w11 : 21 ≤ w.heap.size := L.size
    have hbw : w.heap.size ≤ b := by omega
    have fb := hO.frozen
    have fr := hR.frozen
    have o0 := hO.cell 0 rfl
    have q0 := hO.cell0 0 rfl
    have r0 := hR.cell 0 rfl
    have t0 := hR.cell0 0 rfl
    have o1 := hO.cell 1 rfl
    have q1 := hO.cell0 1 rfl
    have r1 := hR.cell 1 rfl
    have t1 := hR.cell0 1 rfl
    have o2 := hO.cell 2 rfl
    have q2 := hO.cell0 2 rfl
    have r2 := hR.cell 2 rfl
    have t2 := hR.cell0 2 rfl
    have o3 := hO.cell 3 rfl
    have q3 := hO.cell0 3 rfl
    have r3 := hR.cell 3 rfl
    have t3 := hR.cell0 3 rfl
    have o4 := hO.cell 4 rfl
    have q4 := hO.cell0 4 rfl
    have r4 := hR.cell 4 rfl
    have t4 := hR.cell0 4 rfl
    have o5 := hO.cell 5 rfl
    have q5 := hO.cell0 5 rfl
    have r5 := hR.cell 5 rfl
    have t5 := hR.cell0 5 rfl
    have o6 := hO.cell 6 rfl
    have q6 := hO.cell0 6 rfl
    have r6 := hR.cell 6 rfl
    have t6 := hR.cell0 6 rfl
    have o7 := hO.cell 7 rfl
    have q7 := hO.cell0 7 rfl
    have r7 := hR.cell 7 rfl
    have t7 := hR.cell0 7 rfl
    have G_b1 : ∀ W, Laid W → W.cell? ⟨7, 0, none⟩ = some (.int .i64 20) := fun W h => h.b.1
    have G_b2 : ∀ W, Laid W → W.cell? ⟨7, 1, none⟩ = some (.int .i64 4) := fun W h => h.b.2.1
    have G_b3 : ∀ W, Laid W → W.cell? ⟨7, 2, none⟩ = some (.bool false) := fun W h => h.b.2.2
    have G_op1 : ∀ W, Laid W → W.cell? ⟨8, 0, none⟩ = some (.int .i64 16) := fun W h => h.op.1
    have G_op2 : ∀ W, Laid W → W.cell? ⟨8, 1, none⟩ = some (.int .i64 4) := fun W h => h.op.2.1
    have G_op3 : ∀ W, Laid W → W.cell? ⟨8, 2, none⟩ = some (.bool false) := fun W h => h.op.2.2
    have G_c1 : ∀ W, Laid W → W.cell? ⟨9, 0, none⟩ = some (.int .i64 0) := fun W h => h.c.1
    have G_c2 : ∀ W, Laid W → W.cell? ⟨9, 1, none⟩ = some (.int .i64 4) := fun W h => h.c.2.1
    have G_c3 : ∀ W, Laid W → W.cell? ⟨9, 2, none⟩ = some (.bool false) := fun W h => h.c.2.2
    have G_im1 : ∀ W, Laid W → W.cell? ⟨10, 0, none⟩ = some (.int .i64 0) := fun W h => h.im.1
    have G_im2 : ∀ W, Laid W → W.cell? ⟨10, 1, none⟩ = some (.int .i64 16) := fun W h => h.im.2.1
    have G_im3 : ∀ W, Laid W → W.cell? ⟨10, 2, none⟩ = some (.bool false) := fun W h => h.im.2.2
    have G_mem1 : ∀ W, Laid W → W.cell? ⟨11, 0, none⟩ = some (.int .i64 0) := fun W h => h.mem.1
    have G_mem2 : ∀ W, Laid W → W.cell? ⟨11, 1, none⟩ = some (.int .i64 20) := fun W h => h.mem.2.1
    have G_mem3 : ∀ W, Laid W → W.cell? ⟨11, 2, none⟩ = some (.bool true) := fun W h => h.mem.2.2
    have G_jump1 : ∀ W, Laid W → W.cell? ⟨12, 0, none⟩ = some (.int .i64 0) := fun W h => h.jump.1
    have G_jump2 : ∀ W, Laid W → W.cell? ⟨12, 1, none⟩ = some (.int .i64 24) := fun W h => h.jump.2.1
    have G_jump3 : ∀ W, Laid W → W.cell? ⟨12, 2, none⟩ = some (.bool true) := fun W h => h.jump.2.2
    obtain ⟨f, hf⟩ : ∃ f, fgetI 30 2 false x = f := ⟨_, rfl⟩
    obtain ⟨u, hu⟩ : ∃ u, (fgetI 29 1 false x == 1) = u := ⟨_, rfl⟩
    rw [hf] at o0 q0
    rw [hu] at o1 q1
    have HF : Hid (uF x = f) := hf
    have HU : Hid (uU x = u) := hu
    have HO : Hid (Own wc b _) := hO
    have HR : Hid (Own wc w.heap.size _) := hR
    have HG : Hid (G w wc) := GW
    clear hf hu hO hR hG GW LW s11
    by_cases h0 : f = 0
    · subst h0
      go_wp2_with fail
      go_region_held3 (fun W => Laid W) ((with_reducible repeat' (first | exact LC | apply Laid.gr | apply Laid.alloc | apply Laid.drew | refine Laid.set ?_ b11 _ | refine Laid.set ?_ w11 _)))
        ((go_at_call 105; refine (fget _ _ _ _ _ x0 x1 (by decide)).mono ?_; rintro e w' ⟨rfl, p, rfl⟩))
      go_wp2_with fail
      refine bodyPost_ret (v := ins 0 u (fgetI 28 1 false x == 1) (fgetI 24 4 false x) (fgetI 20 4 false x) (fgetI 0 4 false x) (fgetI 16 4 false x) 0) (by simp [results, Tryz.results65, go_sem, r0, r1, r2, r3, r4, r5, r6, r7]) rfl
        ⟨ret_ins HF.out.symm HU.out.symm rfl rfl (by simp [uB, HF.out]) (by simp [uC, HF.out]) (by simp [uOp, HF.out]) (by simp [uIm, HF.out]), ?_⟩
      have HG' := HG.out
      clear LC HF HU HO HR HG
      show G w _
      with_reducible repeat' (first | exact HG' | apply G.gr | refine G.set ?_ (a := ⟨b, _, none⟩) hbw _ | refine G.set ?_ (a := ⟨w.heap.size, _, none⟩) (Nat.le_refl _) _)
    by_cases h1 : f = 1
    · subst h1
      go_wp2_with fail
      go_region_held3 (fun W => Laid W) ((with_reducible repeat' (first | exact LC | apply Laid.gr | apply Laid.alloc | apply Laid.drew | refine Laid.set ?_ b11 _ | refine Laid.set ?_ w11 _)))
        ((go_at_call 105; refine (fget _ _ _ _ _ x0 x1 (by decide)).mono ?_; rintro e w' ⟨rfl, p, rfl⟩))
      go_wp2_with fail
      refine bodyPost_ret (v := ins 1 u (fgetI 28 1 false x == 1) (fgetI 24 4 false x) (fgetI 20 4 false x) 0 (fgetI 16 4 false x) (fgetI 0 16 false x)) (by simp [results, Tryz.results65, go_sem, r0, r1, r2, r3, r4, r5, r6, r7]) rfl
        ⟨ret_ins HF.out.symm HU.out.symm rfl rfl (by simp [uB, HF.out]) (by simp [uC, HF.out]) (by simp [uOp, HF.out]) (by simp [uIm, HF.out]), ?_⟩
      have HG' := HG.out
      clear LC HF HU HO HR HG
      show G w _
      with_reducible repeat' (first | exact HG' | apply G.gr | refine G.set ?_ (a := ⟨b, _, none⟩) hbw _ | refine G.set ?_ (a := ⟨w.heap.size, _, none⟩) (Nat.le_refl _) _)
    by_cases h2 : f = 2
    · subst h2
      go_wp2_with fail
      go_region_held3 (fun W => Laid W) ((with_reducible repeat' (first | exact LC | apply Laid.gr | apply Laid.alloc | apply Laid.drew | refine Laid.set ?_ b11 _ | refine Laid.set ?_ w11 _)))
        ((go_at_call 105; refine (fget _ _ _ _ _ x0 x1 (by decide)).mono ?_; rintro e w' ⟨rfl, p, rfl⟩))
      go_wp2_with fail
      refine bodyPost_ret (v := ins 2 u (fgetI 28 1 false x == 1) (fgetI 24 4 false x) (fgetI 20 4 false x) 0 0 (fgetI 0 20 true x)) (by simp [results, Tryz.results65, go_sem, r0, r1, r2, r3, r4, r5, r6, r7]) rfl
        ⟨ret_ins HF.out.symm HU.out.symm rfl rfl (by simp [uB, HF.out]) (by simp [uC, HF.out]) (by simp [uOp, HF.out]) (by simp [uIm, HF.out]), ?_⟩
      have HG' := HG.out
      clear LC HF HU HO HR HG
      show G w _
      with_reducible repeat' (first | exact HG' | apply G.gr | refine G.set ?_ (a := ⟨b, _, none⟩) hbw _ | refine G.set ?_ (a := ⟨w.heap.size, _, none⟩) (Nat.le_refl _) _)
    have e0 : (f == 0) = false := by simp [h0]
    have e1 : (f == 1) = false := by simp [h1]
    have e2 : (f == 2) = false := by simp [h2]
    cases u
    · skip
      go_wp2_with (go_at_call 105; refine (fget _ _ _ _ _ x0 x1 (by decide)).mono ?_; rintro e w' ⟨rfl, p, rfl⟩)
      refine bodyPost_ret (v := ins f false (fgetI 28 1 false x == 1) (fgetI 24 4 false x) 0 (fgetI 0 4 false x) 0 0) (by simp [results, Tryz.results65, go_sem, r0, r1, r2, r3, r4, r5, r6, r7]) rfl
        ⟨ret_ins HF.out.symm HU.out.symm rfl rfl (by simp [uB, HF.out, h0, h1, h2]) (by simp [uC, HF.out, HU.out, h0, h1, h2]) (by simp [uOp, HF.out, h0, h1]) (by simp [uIm, HF.out, HU.out, h0, h1, h2]), ?_⟩
      have HG' := HG.out
      clear LC HF HU HO HR HG
      show G w _
      with_reducible repeat' (first | exact HG' | apply G.gr | refine G.set ?_ (a := ⟨b, _, none⟩) hbw _ | refine G.set ?_ (a := ⟨w.heap.size, _, none⟩) (Nat.le_refl _) _)
    · skip
      go_wp2_with (go_at_call 105; refine (fget _ _ _ _ _ x0 x1 (by decide)).mono ?_; rintro e w' ⟨rfl, p, rfl⟩)
      refine bodyPost_ret (v := ins f true (fgetI 28 1 false x == 1) (fgetI 24 4 false x) 0 0 0 (fgetI 0 24 true x)) (by simp [results, Tryz.results65, go_sem, r0, r1, r2, r3, r4, r5, r6, r7]) rfl
        ⟨ret_ins HF.out.symm HU.out.symm rfl rfl (by simp [uB, HF.out, h0, h1, h2]) (by simp [uC, HF.out, HU.out, h0, h1, h2]) (by simp [uOp, HF.out, h0, h1]) (by simp [uIm, HF.out, HU.out, h0, h1, h2]), ?_⟩
      have HG' := HG.out
      clear LC HF HU HO HR HG
      show G w _
      with_reducible repeat' (first | exact HG' | apply G.gr | refine G.set ?_ (a := ⟨b, _, none⟩) hbw _ | refine G.set ?_ (a := ⟨w.heap.size, _, none⟩) (Nat.le_refl _) _)
end Go.Proofs.YtfdofleohichiaaGreatDoor.Risc
