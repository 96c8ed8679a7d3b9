/-
  The laws' own program that halts: its words; what the laws' first look (wakes) answers.
-/
import Derived.Test.YtfdofleohichiaaGreatDoorCnew
import Derived.Test.YtfdofleohichiaaGreatDoorRref2
namespace Go.Proofs.YtfdofleohichiaaGreatDoor.Cpu
open Go.RowKit Go.Proofs.YtfdofleohichiaaGreatDoor.Bits Go.Proofs.YtfdofleohichiaaGreatDoor.Gw Go.Proofs.YtfdofleohichiaaGreatDoor.Risc Go.Proofs.YtfdofleohichiaaGreatDoor.Alu Go.Proofs.YtfdofleohichiaaGreatDoor.Mem
set_option linter.unusedVariables false

structure Ins where
  f : Int
  u : Bool
  v : Bool
  a : Int
  b : Int
  c : Int
  op : Int
  im : Int
def Ins.word (i : Ins) : Int := packI i.f i.u i.v i.a i.b i.c i.op i.im
def Ins.good (i : Ins) : Bool := goodR i.f i.u i.v i.a i.b i.c i.op i.im
def Ins.cells (i : Ins) : List Value := [.int .i64 i.f, .bool i.u, .bool i.v, .int .i64 i.a, .int .i64 i.b, .int .i64 i.c, .int .i64 i.op, .int .i64 i.im]
/- Instructions lie one behind the other in block X. -/
structure At (w : World) (X o : Nat) (i : Ins) : Prop where
  c0 : w.cell? ⟨X, o, none⟩ = some (.int .i64 i.f)
  c1 : w.cell? ⟨X, o + 1, none⟩ = some (.bool i.u)
  c2 : w.cell? ⟨X, o + 2, none⟩ = some (.bool i.v)
  c3 : w.cell? ⟨X, o + 3, none⟩ = some (.int .i64 i.a)
  c4 : w.cell? ⟨X, o + 4, none⟩ = some (.int .i64 i.b)
  c5 : w.cell? ⟨X, o + 5, none⟩ = some (.int .i64 i.c)
  c6 : w.cell? ⟨X, o + 6, none⟩ = some (.int .i64 i.op)
  c7 : w.cell? ⟨X, o + 7, none⟩ = some (.int .i64 i.im)
def flat8 (is : List Ins) : List Value := is.flatMap Ins.cells
theorem flat8_len (is : List Ins) : (flat8 is).length = is.length * 8 := by
  induction is with
  | nil => rfl
  | cons i is ih => simp [flat8, Ins.cells] at ih ⊢; omega
theorem flat8_at (is : List Ins) (j t : Nat) (ht : t < 8) : (flat8 is)[j * 8 + t]? = (is[j]?).bind fun i => i.cells[t]? := by
  induction is generalizing j with
  | nil => simp [flat8]
  | cons i is ih =>
    show (i.cells ++ flat8 is)[j * 8 + t]? = _
    have hl : i.cells.length = 8 := rfl
    cases j with
    | zero =>
      rw [List.getElem?_append_left (by omega)]
      simp
    | succ j =>
      rw [List.getElem?_append_right (by omega), hl, show (j + 1) * 8 + t - 8 = j * 8 + t by omega, ih]
      rfl
theorem at_of {w : World} {X : Nat} {cur : Array Value} {T : TypeId} {fr : Nat × Nat} {is : List Ins} (h : w.heap[X]? = some (.cells cur T fr)) (hc : cur.toList.take (is.length * 8) = flat8 is) {j : Nat} {i : Ins} (hi : is[j]? = some i) : At w X (j * 8) i := by
  have hj : j < is.length := (List.getElem?_eq_some_iff.1 hi).1
  have H : ∀ t, t < 8 → w.cell? ⟨X, j * 8 + t, none⟩ = i.cells[t]? := fun t ht => by
    have e := flat8_at is j t ht
    rw [hi] at e
    rw [← hc, List.getElem?_take, if_pos (by omega)] at e
    rw [cell_of_row w X (j * 8 + t) cur T fr h]
    simpa using e
  exact ⟨H 0 (by decide), H 1 (by decide), H 2 (by decide), H 3 (by decide), H 4 (by decide), H 5 (by decide), H 6 (by decide), H 7 (by decide)⟩
theorem At.by {w w' : World} {X o : Nat} {i : Ins} (h : At w X o i) {r : Option Nat} (g : w.grownBy w' r) (hr : r ≠ some X) : At w' X o i :=
  ⟨g.cell h.c0 (fun e => hr e.symm), g.cell h.c1 (fun e => hr e.symm), g.cell h.c2 (fun e => hr e.symm), g.cell h.c3 (fun e => hr e.symm), g.cell h.c4 (fun e => hr e.symm), g.cell h.c5 (fun e => hr e.symm), g.cell h.c6 (fun e => hr e.symm), g.cell h.c7 (fun e => hr e.symm)⟩
theorem enc_good {i : Ins} (h : i.good = true) (w : World) : Calls Tryz.prog 25 #[ins i.f i.u i.v i.a i.b i.c i.op i.im] w fun e w' => e = .returned (.tuple #[wd i.word, .int .i64 0]) ∧ ∃ p : By, w' = gr w p := by
  have := rencode_any i.f i.u i.v i.a i.b i.c i.op i.im w
  rw [if_pos (show goodR i.f i.u i.v i.a i.b i.c i.op i.im = true from h)] at this
  exact this
theorem words_snoc {is : List Ins} {k : Nat} {i : Ins} (h : is[k]? = some i) : ((is.take (k + 1)).map Ins.word).map wd = ((is.take k).map Ins.word).map wd ++ [wd i.word] := by
  rw [List.take_add_one, h]
  simp
def haltIs : List Ins := [⟨1, true, false, 1, 0, 0, 0, 65535⟩, ⟨1, false, false, 1, 1, 0, 8, 65472⟩, ⟨1, false, false, 0, 0, 0, 0, 67⟩, ⟨2, true, false, 0, 1, 0, 0, 8⟩, ⟨2, true, false, 0, 1, 0, 0, 0⟩]
theorem halt_good : ∀ i ∈ haltIs, i.good = true := by decide
theorem own_still {w w' : World} {base : Nat} {e : TypeId} {size : Nat} {v : Value} {n : Nat} {xs : List Value} (h : w.ownsRow base e size v n xs) (hg : w.grownBy w' none) : w'.ownsRow base e size v n xs := own_chg h (F := []) (Chg.still hg) (fun _ _ => by simp)
theorem At.bel {w w' : World} {X o B : Nat} {i : Ins} (h : At w X o i) (g : Below B w w') (hX : X < B) : At w' X o i :=
  ⟨(g.cell hX).trans h.c0, (g.cell hX).trans h.c1, (g.cell hX).trans h.c2, (g.cell hX).trans h.c3, (g.cell hX).trans h.c4, (g.cell hX).trans h.c5, (g.cell hX).trans h.c6, (g.cell hX).trans h.c7⟩
set_option maxHeartbeats 4000000 in
set_option maxRecDepth 100000 in
theorem halt_any (w : World) : Calls Tryz.prog 11 #[.int .i64 67] w fun e w' => ∃ v, e = .returned v ∧ w.grownBy w' none ∧ w'.ownsRow 0 44 1 v 5 ((haltIs.map Ins.word).map wd) := by
  obtain ⟨i0, hi, hz0, hz1, hz2⟩ := info_parts Tryz.info34
  obtain ⟨B, hB⟩ : ∃ B, B = w.heap.size := ⟨_, rfl⟩
  have HB := hd hB
  go_enter Tryz.func11, Tryz.ntmps11
  go_wp2
  have HX : Hid ((w.alloc (Obj.cells #[Value.int IntKind.i64 1, Value.bool true, Value.bool false, Value.int IntKind.i64 1, Value.int IntKind.i64 0, Value.int IntKind.i64 0, Value.int IntKind.i64 0, Value.int IntKind.i64 65535, Value.int IntKind.i64 1, Value.bool false, Value.bool false, Value.int IntKind.i64 1, Value.int IntKind.i64 1, Value.int IntKind.i64 0, Value.int IntKind.i64 8, Value.int IntKind.i64 65472, Value.int IntKind.i64 1, Value.bool false, Value.bool false, Value.int IntKind.i64 0, Value.int IntKind.i64 0, Value.int IntKind.i64 0, Value.int IntKind.i64 0, Value.int IntKind.i64 67, Value.int IntKind.i64 2, Value.bool true, Value.bool false, Value.int IntKind.i64 0, Value.int IntKind.i64 1, Value.int IntKind.i64 0, Value.int IntKind.i64 0, Value.int IntKind.i64 8, Value.int IntKind.i64 2, Value.bool true, Value.bool false, Value.int IntKind.i64 0, Value.int IntKind.i64 1, Value.int IntKind.i64 0, Value.int IntKind.i64 0, Value.int IntKind.i64 0] 72)).heap[w.heap.size]? = some (.cells (flat8 haltIs).toArray 72 (0, 0))) := hd (heap_alloc_new w _)
  have HG := hd (World.grownBy_alloc w (Obj.cells #[Value.int IntKind.i64 1, Value.bool true, Value.bool false, Value.int IntKind.i64 1, Value.int IntKind.i64 0, Value.int IntKind.i64 0, Value.int IntKind.i64 0, Value.int IntKind.i64 65535, Value.int IntKind.i64 1, Value.bool false, Value.bool false, Value.int IntKind.i64 1, Value.int IntKind.i64 1, Value.int IntKind.i64 0, Value.int IntKind.i64 8, Value.int IntKind.i64 65472, Value.int IntKind.i64 1, Value.bool false, Value.bool false, Value.int IntKind.i64 0, Value.int IntKind.i64 0, Value.int IntKind.i64 0, Value.int IntKind.i64 0, Value.int IntKind.i64 67, Value.int IntKind.i64 2, Value.bool true, Value.bool false, Value.int IntKind.i64 0, Value.int IntKind.i64 1, Value.int IntKind.i64 0, Value.int IntKind.i64 0, Value.int IntKind.i64 8, Value.int IntKind.i64 2, Value.bool true, Value.bool false, Value.int IntKind.i64 0, Value.int IntKind.i64 1, Value.int IntKind.i64 0, Value.int IntKind.i64 0, Value.int IntKind.i64 0] 72) none)
  have hz : (w.alloc (Obj.cells #[Value.int IntKind.i64 1, Value.bool true, Value.bool false, Value.int IntKind.i64 1, Value.int IntKind.i64 0, Value.int IntKind.i64 0, Value.int IntKind.i64 0, Value.int IntKind.i64 65535, Value.int IntKind.i64 1, Value.bool false, Value.bool false, Value.int IntKind.i64 1, Value.int IntKind.i64 1, Value.int IntKind.i64 0, Value.int IntKind.i64 8, Value.int IntKind.i64 65472, Value.int IntKind.i64 1, Value.bool false, Value.bool false, Value.int IntKind.i64 0, Value.int IntKind.i64 0, Value.int IntKind.i64 0, Value.int IntKind.i64 0, Value.int IntKind.i64 67, Value.int IntKind.i64 2, Value.bool true, Value.bool false, Value.int IntKind.i64 0, Value.int IntKind.i64 1, Value.int IntKind.i64 0, Value.int IntKind.i64 0, Value.int IntKind.i64 8, Value.int IntKind.i64 2, Value.bool true, Value.bool false, Value.int IntKind.i64 0, Value.int IntKind.i64 1, Value.int IntKind.i64 0, Value.int IntKind.i64 0, Value.int IntKind.i64 0] 72)).heap.size = B + 1 := by rw [hB]; simp
  generalize w.alloc (Obj.cells #[Value.int IntKind.i64 1, Value.bool true, Value.bool false, Value.int IntKind.i64 1, Value.int IntKind.i64 0, Value.int IntKind.i64 0, Value.int IntKind.i64 0, Value.int IntKind.i64 65535, Value.int IntKind.i64 1, Value.bool false, Value.bool false, Value.int IntKind.i64 1, Value.int IntKind.i64 1, Value.int IntKind.i64 0, Value.int IntKind.i64 8, Value.int IntKind.i64 65472, Value.int IntKind.i64 1, Value.bool false, Value.bool false, Value.int IntKind.i64 0, Value.int IntKind.i64 0, Value.int IntKind.i64 0, Value.int IntKind.i64 0, Value.int IntKind.i64 67, Value.int IntKind.i64 2, Value.bool true, Value.bool false, Value.int IntKind.i64 0, Value.int IntKind.i64 1, Value.int IntKind.i64 0, Value.int IntKind.i64 0, Value.int IntKind.i64 8, Value.int IntKind.i64 2, Value.bool true, Value.bool false, Value.int IntKind.i64 0, Value.int IntKind.i64 1, Value.int IntKind.i64 0, Value.int IntKind.i64 0, Value.int IntKind.i64 0] 72) = W at HX HG hz ⊢
  rw [← hB] at HX ⊢
  have HZ := hd hz
  clear hB hz
  go_loopw [4, 5] (fun v j wr => ∃ k : Nat, k ≤ 5 ∧ j = .int .i64 k ∧ wr.ownsRow (B + 1) 44 1 v k (((haltIs.take k).map Ins.word).map wd) ∧ Below (B + 1) W wr)
    (fun _ j _ => 5 - (intOf j).toNat)
  case atStart => exact ⟨0, Nat.zero_le _, rfl, World.ownsRow_nil _ _ _ _, Below.refl _ _⟩
  case round =>
    obtain ⟨k, hk, rfl, hown, hbel⟩ := hrel
    have hbs : B + 1 ≤ wr.heap.size := by rw [← HZ.out]; exact hbel.size
    by_cases hlt : k < 5
    · obtain ⟨i, hi⟩ : ∃ i, haltIs[k]? = some i := ⟨haltIs[k], List.getElem?_eq_getElem hlt⟩
      have HI := hd hi
      have HGd := hd (halt_good i (List.mem_of_getElem? hi))
      obtain ⟨c0, c1, c2, c3, c4, c5, c6, c7⟩ := (at_of (is := haltIs) HX.out (by rw [List.take_of_length_le]; simp [flat8_len]) hi).bel hbel (by omega)
      have i2 : (k : Int) < 5 := by omega
      have HO := hd hown
      have HBL := hd hbel
      clear hi hown hbel
      go_wp2_with (first
        | (go_at_call 25; refine (enc_good HGd.out _).mono ?_; rintro e w1 ⟨rfl, hg⟩; have HG1 := hd (grown_g hg none); have HO1 := hd ((own_still HO.out HG1.out).alloc (.cells #[wd i.word] 44)); clear hg)
        | (at_builtin; refine wpList_append_own _ rfl _ _ 22 rfl (B + 1) 44 i0 (.int .u32 0) 1 4 Tryz.underlying22 hi hz0 hz1 hz2 rfl (by decide) _ _ _ rfl HO1.out ⟨w1.heap.size, 0, none⟩ 1 1 [wd i.word] rfl rfl (cell_one_new _ _ _) ?c2 ?c3 ?c4 ?c5 ?_))
      case c2 => intro u hu; simp at hu; subst hu; rfl
      case c3 => unfold maxLen; omega
      case c4 => omega
      case c5 => have := HG1.out.size; simp; omega
      intro v' w2 hown' hgrow _
      have hnew : w2.ownsRow (B + 1) 44 1 v' (k + 1) (((haltIs.take (k + 1)).map Ins.word).map wd) := by rw [words_snoc HI.out]; simpa using hown'
      have hlt' := HO1.out.lt
      have hb1 : Below (B + 1) W w2 := ((HBL.out.grown HG1.out hbs (fun g hg => by cases hg)).alloc (by have := HG1.out.size; omega) _).grown hgrow (by have := HG1.out.size; simp; omega) (fun g hg => (hlt' g hg).1)
      clear hown' hgrow hlt' HBL HO HO1 HG1 c0 c1 c2 c3 c4 c5 c6 c7
      go_wp2
      exact ⟨⟨k + 1, by omega, by go_num, hnew, hb1⟩, by simp [intOf]; omega⟩
    · obtain rfl : k = 5 := by omega
      go_wp2
      go_ret
      refine ⟨_, rfl, grown_trans HG.out (grown_below (by rw [HZ.out]; exact hbel)), ?_⟩
      have h2 : ((haltIs.take 5).map Ins.word).map wd = (haltIs.map Ins.word).map wd := rfl
      rw [h2] at hown
      exact ⟨hown.1, by
        rcases hown.2 with e | ⟨g, cap, cur, e, hg, rest⟩
        · exact .inl e
        · exact .inr ⟨g, cap, cur, e, by omega, rest⟩⟩

theorem own_src {w : World} {base n : Nat} {v : Value} {xs : List Int} (h : w.ownsRow base 44 1 v n (xs.map wd)) : ∃ ao cp, v = .slice ao n cp ∧ Src w ao xs ∧ (ao = none → cp = 0) := by
  rcases h.2 with ⟨rfl, rfl⟩ | ⟨g, cap, cur, rfl, hb, hg, hc, hm, hs, ht⟩
  · have : xs = [] := by have := h.1; simpa using this
    subst this
    exact ⟨none, 0, rfl, Src.nil w, fun _ => rfl⟩
  · exact ⟨_, _, rfl, Src.mk' (h.cells (g := g) rfl), fun e => by cases e⟩
def haltL : List Int := haltIs.map Ins.word
theorem halt_rng : inR haltL := fun x hx => by
  obtain ⟨i, _, rfl⟩ := List.mem_map.1 hx
  exact pack_range _ _ _ _ _ _ _ _
theorem halt_len : haltL.length = 5 := rfl
set_option maxRecDepth 100000 in
theorem halt_ran : (it ⟨#[]⟩ 100 (Ms.init haltL 0)).en = 1 ∧ strO (it ⟨#[]⟩ 100 (Ms.init haltL 0)).out = ⟨#[67]⟩ ∧ ct ⟨#[]⟩ 100 (Ms.init haltL 0) = 5 := ⟨by kernel_rfl, by kernel_rfl, by kernel_rfl⟩
theorem halt_again : it ⟨#[]⟩ 100 (it ⟨#[]⟩ 100 (Ms.init haltL 0)) = it ⟨#[]⟩ 100 (Ms.init haltL 0) ∧ ct ⟨#[]⟩ 100 (it ⟨#[]⟩ 100 (Ms.init haltL 0)) = 0 :=
  it_end _ _ _ (by rw [halt_ran.1]; decide)
theorem chg_none {F : List Nat} {w w' : World} (h : Chg F w w') (hF : ∀ k ∈ F, w.heap.size ≤ k) : w.grownBy w' none := ⟨h.os, h.tape, h.output, h.size, fun k hk _ => h.block k hk (fun e => by have := hF k e; omega)⟩
end Go.Proofs.YtfdofleohichiaaGreatDoor.Cpu
