/-
  What package cpu's Run does.
-/
import Derived.Test.YtfdofleohichiaaDoorCpu8
import Derived.Laws.IdiomStrings
namespace Go.Proofs.YtfdofleohichiaaDoor.Cpu
open Go.RowKit Go.Proofs.YtfdofleohichiaaDoor.Bits Go.Proofs.YtfdofleohichiaaDoor.Gw Go.Proofs.YtfdofleohichiaaDoor.Risc Go.Proofs.YtfdofleohichiaaDoor.Alu Go.Proofs.YtfdofleohichiaaDoor.Mem
set_option linter.unusedVariables false

def strO (l : List Int) : ByteArray := ⟨(l.map fun n => UInt8.ofNat n.toNat).toArray⟩
theorem foldl_strO : ∀ (l : List Int) (r : ByteArray), l.foldl (fun r n => r.push (UInt8.ofNat n.toNat)) r = ⟨r.data ++ (l.map fun n => UInt8.ofNat n.toNat).toArray⟩
  | [], r => by simp
  | n :: l, r => by
    rw [List.foldl_cons, foldl_strO l]
    simp [ByteArray.push]
set_option maxRecDepth 100000 in
theorem conv_out {V : World} {o : Value} {l : List Int} (h : V.ownsRow 11 5 1 o l.length (l.map b8)) : (convert 49 9 o).run Tryd.prog V = .ok (.string (strO l)) V := by
  have hlen := h.1
  rcases h.2 with ⟨rfl, h0⟩ | ⟨g, cap, cur, ho, _, hg, hc, hm, hs, ht⟩
  · have : l = [] := List.eq_nil_of_length_eq_zero h0
    subst this
    rw [run_convert_bytes_string V 49 9 5 none 0 0 Tryd.underlying49 Tryd.underlying5 Tryd.underlying9]
    unfold Conv.bytesToString
    simp [Sem.run_pure, strO]
    rfl
  · subst ho
    rw [run_convert_bytes_string V 49 9 5 _ _ _ Tryd.underlying49 Tryd.underlying5 Tryd.underlying9]
    have hl := run_loadCells_list (P := Tryd.prog) V ⟨g, 0, none⟩ (l.map b8) (h.cells (g := g) rfl)
    simp only [List.length_map] at hl
    rw [run_bytesToString V ⟨g, 0, none⟩ l.length cap l hl, foldl_strO, show ByteArray.empty.data = #[] from rfl]
    simp [strO]
section
variable {w : World} {a hb b : Nat} {o : Value} {inp : ByteArray} {s : Ms}
def outcome (s : Ms) (n : Nat) : Value := .agg #[.int .i64 s.en, .int .i64 s.tr, .string (strO s.out), .int .i64 n, .int .i64 s.rd]
set_option maxHeartbeats 2000000 in
set_option maxRecDepth 100000 in
theorem run_no (v : Value) (k : Int) (w : World) (hk : v = .pointer none ∨ (∃ a, v = ptr a) ∧ (k < 0 ∨ 4194304 < k)) :
    Calls Tryd.prog 6 #[v, .int .i64 k] w fun e w' => e = .returned (.tuple #[.agg #[.int .i64 0, .int .i64 0, .string ⟨#[]⟩, .int .i64 0, .int .i64 0], .int .i64 1]) ∧ G w w' := by
  rcases hk with rfl | ⟨⟨a, rfl⟩, hk | hk⟩
  · go_enter Tryd.func6, Tryd.ntmps6
    go_wp2
    exact bodyPost_ret (v := .tuple #[.agg #[.int .i64 0, .int .i64 0, .string ⟨#[]⟩, .int .i64 0, .int .i64 0], .int .i64 1]) (by simp [results, Tryd.results6, go_sem]) rfl ⟨rfl, (G.refl _).alloc _ _⟩
  · go_enter Tryd.func6, Tryd.ntmps6
    go_wp2
    exact bodyPost_ret (v := .tuple #[.agg #[.int .i64 0, .int .i64 0, .string ⟨#[]⟩, .int .i64 0, .int .i64 0], .int .i64 1]) (by simp [results, Tryd.results6, go_sem]) rfl ⟨rfl, (G.refl _).alloc _ _⟩
  · have h0 : ¬ k < 0 := by omega
    go_enter Tryd.func6, Tryd.ntmps6
    go_wp2
    exact bodyPost_ret (v := .tuple #[.agg #[.int .i64 0, .int .i64 0, .string ⟨#[]⟩, .int .i64 0, .int .i64 0], .int .i64 1]) (by simp [results, Tryd.results6, go_sem]) rfl ⟨rfl, (G.refl _).alloc _ _⟩
/- The result's own block stays through the run. -/
theorem zo_kept {w wr : World} {F : List Nat} {C : Obj} (h : Chg F (w.alloc C) wr) (hF : ∀ k ∈ F, k < w.heap.size) : wr.heap[w.heap.size]? = some C := by
  rw [h.block w.heap.size (by simp) (fun e => by have := hF _ e; omega)]
  exact heap_alloc_new w C
theorem fp_lt (h : Mach w a hb b o inp s) : ∀ k ∈ fp a b o, k < w.heap.size := by
  intro k hk
  simp only [fp, List.mem_cons, obl_mem] at hk
  rcases hk with rfl | rfl | hk
  · exact h.lt
  · exact h.ltb
  · exact (h.lto hk).2
/- One call more: what was put out may have moved. -/
theorem chg_step {W wr w' : World} {o1 o2 : Value} (h : Chg (fp a b o) W wr) (n : Nw W o o1) (k : Chg (fp a b o1) wr w') (n' : Nw wr o1 o2) : Chg (fp a b o) W w' ∧ Nw W o o2 := by
  refine ⟨h.trans k (fun j hj => ?_), fun j hj => ?_⟩
  · simp only [fp, List.mem_cons, obl_mem] at hj ⊢
    rcases hj with e | e | e
    · exact .inl (.inl e)
    · exact .inl (.inr (.inl e))
    · rcases n j e with e | e
      · exact .inl (.inr (.inr e))
      · exact .inr e
  · rcases n' j hj with e | e
    · exact n j e
    · exact .inr (Nat.le_trans h.size e)
theorem ret_oc {e1 t1 n1 d1 e2 t2 n2 d2 : Int} {z1 z2 : ByteArray} (h1 : e1 = e2) (h2 : t1 = t2) (h3 : z1 = z2) (h4 : n1 = n2) (h5 : d1 = d2) :
    Ending.returned (.tuple #[.agg #[.int .i64 e1, .int .i64 t1, .string z1, .int .i64 n1, .int .i64 d1], .int .i64 0]) = .returned (.tuple #[.agg #[.int .i64 e2, .int .i64 t2, .string z2, .int .i64 n2, .int .i64 d2], .int .i64 0]) := by
  rw [h1, h2, h3, h4, h5]
theorem run_fin {wr WF : World} {o1 : Value} {s1 : Ms} {C : Obj} (hM : Mach w a hb b o inp s) (hm : Mach wr a hb b o1 inp s1) (hc : Chg (fp a b o) (w.alloc C) wr) (hn : Nw (w.alloc C) o o1) (hg : wr.grownBy WF (some w.heap.size)) :
    Mach WF a hb b o1 inp s1 ∧ Chg (fp a b o) w WF ∧ Nw w o o1 := by
  have hz : w.heap.size ≤ (w.alloc C).heap.size := by simp
  have hz1 : (w.alloc C).heap.size = w.heap.size + 1 := by simp
  refine ⟨hm.kept (F := [w.heap.size]) (Chg.one hg (by simp)) ?_ ?_ ?_ ?_ ?_, ?_, hn.back hz⟩
  · have := hM.lt; have := hM.lo.1; intro k hk; simp at hk; omega
  · have := hM.lt; simp; omega
  · have := hM.lth; simp; omega
  · have := hM.ltb; simp; omega
  · intro k hk
    rcases hn k hk with e | e
    · have := (hM.lto e).2; simp; omega
    · simp; omega
  · exact Chg.trans (Chg.trans0 (Chg.still (World.grownBy_alloc _ _ _)) hc) (Chg.one hg (by simp) : Chg [w.heap.size] wr WF) (fun j hj => by simp at hj; exact .inr (by omega))
theorem heap_drew (V : World) : V.drew.heap = V.heap := rfl
theorem set5 {V : World} {q : Nat} {l0 l1 l2 l3 l4 : Value} {t : TypeId} (h : V.heap[q]? = some (.cells #[l0, l1, l2, l3, l4] t (0, 0))) (x0 x1 x2 x3 x4 : Value) :
    ((((((V.setCell ⟨q, 0, none⟩ x0).setCell ⟨q, 1, none⟩ x1).setCell ⟨q, 2, none⟩ x2).setCell ⟨q, 3, none⟩ x3).setCell ⟨q, 4, none⟩ x4).drew).heap[q]? = some (.cells [x0, x1, x2, x3, x4].toArray t (0, 0)) := by
  have h' : V.heap[q]? = some (.cells [l0, l1, l2, l3, l4].toArray t (0, 0)) := h
  have := blk_set (blk_set (blk_set (blk_set (blk_set h' 0 x0) 1 x1) 2 x2) 3 x3) 4 x4
  simp only [List.set_cons_zero, List.set_cons_succ] at this
  rw [heap_drew]
  with_reducible exact this
theorem grown_set5 (w : World) (b i1 i2 i3 i4 i5 : Nat) (v1 v2 v3 v4 v5 : Value) :
    w.grownBy ((((((w.setCell ⟨b, i1, none⟩ v1).setCell ⟨b, i2, none⟩ v2).setCell ⟨b, i3, none⟩ v3).setCell ⟨b, i4, none⟩ v4).setCell ⟨b, i5, none⟩ v5).drew) (some b) :=
  grown_drew (grown_trans (grown_set3 _ _ _ _ _ _ _ _) (grown_set2 _ _ _ _ _ _))
set_option maxHeartbeats 4000000 in
set_option maxRecDepth 100000 in
theorem run_any (h : Mach w a hb b o inp s) (k : Nat) (hk : k ≤ 4194304) :
    Calls Tryd.prog 6 #[ptr a, .int .i64 k] w fun e w' => ∃ o', e = .returned (.tuple #[outcome (it inp k s) (ct inp k s), .int .i64 0]) ∧ Mach w' a hb b o' inp (it inp k s) ∧ Chg (fp a b o) w w' ∧ Nw w o o' := by
  have HM := hd h
  have HF := hd (fp_lt h)
  have i0 : ¬ (k : Int) < 0 := by omega
  have i1 : ¬ (4194304 : Int) < (k : Int) := by omega
  have HK := hd hk
  clear h hk
  go_enter Tryd.func6, Tryd.ntmps6
  go_wp2
  have HM0 := hd (HM.out.g ((G.refl w).alloc #[Value.int IntKind.i64 0, Value.int IntKind.i64 0, Value.string ⟨#[]⟩, Value.int IntKind.i64 0, Value.int IntKind.i64 0] 29))
  go_loopw [6] (fun st wr => ∃ (j : Nat) (o' : Value) (s' : Ms), j ≤ k ∧ st = .int .i64 j ∧ Mach wr a hb b o' inp s' ∧ Chg (fp a b o) (w.alloc (Obj.cells #[Value.int IntKind.i64 0, Value.int IntKind.i64 0, Value.string ⟨#[]⟩, Value.int IntKind.i64 0, Value.int IntKind.i64 0] 29)) wr ∧ Nw (w.alloc (Obj.cells #[Value.int IntKind.i64 0, Value.int IntKind.i64 0, Value.string ⟨#[]⟩, Value.int IntKind.i64 0, Value.int IntKind.i64 0] 29)) o o' ∧ it inp k s = it inp (k - j) s' ∧ ct inp k s = j + ct inp (k - j) s')
    (fun st _ => k - (intOf st).toNat)
  case atStart => exact ⟨0, o, s, Nat.zero_le _, rfl, HM0.out, Chg.refl _ _, Nw.refl _ _, rfl, by simp⟩
  case round =>
    obtain ⟨j, o1, s1, hj, rfl, hm, hc, hn, hi, ht⟩ := hrel
    have HM1 := hd hm
    have HC := hd (And.intro hc hn)
    have HI := hd (And.intro hi ht)
    have hX := zo_kept hc HF.out
    have c26 := hm.cen
    clear hc hn hi ht
    by_cases hlt : j < k ∧ s1.en = 3
    · obtain ⟨h1, h2⟩ := hlt
      have i2 : (j : Int) < (k : Int) := by omega
      have H2 := hd h2
      rw [h2] at c26
      clear hm h2 hX
      go_wp2_with (go_at_call 14; refine (step_any HM1.out).mono ?_; rintro e w2 ⟨rfl, o2, hm2, hc2, hn2⟩; have HS := hd (And.intro hm2 (And.intro hc2 hn2)); clear hm2 hc2 hn2)
      obtain ⟨hm2, hc2, hn2⟩ := HS.out
      obtain ⟨hc3, hn3⟩ := chg_step HC.out.1 HC.out.2 hc2 hn2
      have e1 : k - j = (k - (j + 1)) + 1 := by omega
      have hi := HI.out
      rw [e1, (it_succ inp _ s1 H2.out).1, (it_succ inp _ s1 H2.out).2] at hi
      exact ⟨⟨j + 1, o2, _, by omega, by go_num, hm2, hc3, hn3, hi.1, by rw [hi.2]; omega⟩, by simp [intOf]; omega⟩
    · have he : it inp (k - j) s1 = s1 ∧ ct inp (k - j) s1 = 0 := by
        by_cases h1 : j < k
        · exact it_end inp _ s1 (fun e => hlt ⟨h1, e⟩)
        · rw [show k - j = 0 by omega]; exact ⟨rfl, rfl⟩
      have HE := hd he
      have CV : (convert 49 9 o1).run Tryd.prog wr.drew = .ok (.string (strO s1.out)) wr.drew := conv_out (hm.g (G.drew (G.refl _))).out
      have d24 := hm.crd
      have d25 := hm.cout
      have d27 := hm.ctr
      have x0 : wr.cell? ⟨w.heap.size, 0, none⟩ = some (.int .i64 0) := by simp [World.cell?, hX]
      have x1 : wr.cell? ⟨w.heap.size, 1, none⟩ = some (.int .i64 0) := by simp [World.cell?, hX]
      have x2 : wr.cell? ⟨w.heap.size, 2, none⟩ = some (.string ⟨#[]⟩) := by simp [World.cell?, hX]
      have x3 : wr.cell? ⟨w.heap.size, 3, none⟩ = some (.int .i64 0) := by simp [World.cell?, hX]
      have x4 : wr.cell? ⟨w.heap.size, 4, none⟩ = some (.int .i64 0) := by simp [World.cell?, hX]
      have y : ∀ i, wr.frozen? ⟨w.heap.size, i, none⟩ = false := fun i => by simp [World.frozen?, hX]
      have HX := hd hX
      obtain ⟨en, hen⟩ : ∃ en, s1.en = en := ⟨_, rfl⟩
      rw [hen] at c26
      have HEN := hd hen
      clear hm he hX
      by_cases h1 : j < k
      · have i2 : (j : Int) < (k : Int) := by omega
        have e3 : (en == 3) = false := by rw [← hen]; simpa using fun e => hlt ⟨h1, e⟩
        clear hlt hen
        go_wp2
        refine region_tail 19 (by kernel_rfl) (by kernel_rfl) ?_
        simp only [List.take_succ_cons, List.take_zero, List.drop_succ_cons, List.drop_zero]
        repeat (first | still_step)
        refine wpStill_nil ?_
        go_wp2
        (have HB5 := set5 HX.out (.int .i64 en) (.int .i64 s1.tr) (.string (strO s1.out)) (.int .i64 j) (.int .i64 s1.rd); have hfin := run_fin HM.out HM1.out HC.out.1 HC.out.2 (grown_set5 wr w.heap.size 0 1 2 3 4 (.int .i64 en) (.int .i64 s1.tr) (.string (strO s1.out)) (.int .i64 j) (.int .i64 s1.rd)); have hi := HI.out; rw [HE.out.1, HE.out.2] at hi; generalize (((((wr.setCell ⟨w.heap.size, 0, none⟩ (.int .i64 en)).setCell ⟨w.heap.size, 1, none⟩ (.int .i64 s1.tr)).setCell ⟨w.heap.size, 2, none⟩ (.string (strO s1.out))).setCell ⟨w.heap.size, 3, none⟩ (.int .i64 j)).setCell ⟨w.heap.size, 4, none⟩ (.int .i64 s1.rd)).drew = WF at HB5 hfin ⊢; have z0 := cell_blk HB5 0; have z1 := cell_blk HB5 1; have z2 := cell_blk HB5 2; have z3 := cell_blk HB5 3; have z4 := cell_blk HB5 4; simp only [List.getElem?_cons_zero, List.getElem?_cons_succ] at z0 z1 z2 z3 z4; refine bodyPost_ret (v := .tuple #[.agg #[.int .i64 en, .int .i64 s1.tr, .string (strO s1.out), .int .i64 j, .int .i64 s1.rd], .int .i64 0]) (by simp [results, Tryd.results6, go_sem, z0, z1, z2, z3, z4]) rfl ?_; rw [hi.1, hi.2, ← HEN.out]; exact ⟨o1, rfl, hfin⟩)
      · have i2 : ¬ (j : Int) < (k : Int) := by omega
        clear hlt hen
        go_wp2
        refine region_tail 19 (by kernel_rfl) (by kernel_rfl) ?_
        simp only [List.take_succ_cons, List.take_zero, List.drop_succ_cons, List.drop_zero]
        repeat (first | still_step)
        refine wpStill_nil ?_
        go_wp2
        (have HB5 := set5 HX.out (.int .i64 en) (.int .i64 s1.tr) (.string (strO s1.out)) (.int .i64 j) (.int .i64 s1.rd); have hfin := run_fin HM.out HM1.out HC.out.1 HC.out.2 (grown_set5 wr w.heap.size 0 1 2 3 4 (.int .i64 en) (.int .i64 s1.tr) (.string (strO s1.out)) (.int .i64 j) (.int .i64 s1.rd)); have hi := HI.out; rw [HE.out.1, HE.out.2] at hi; generalize (((((wr.setCell ⟨w.heap.size, 0, none⟩ (.int .i64 en)).setCell ⟨w.heap.size, 1, none⟩ (.int .i64 s1.tr)).setCell ⟨w.heap.size, 2, none⟩ (.string (strO s1.out))).setCell ⟨w.heap.size, 3, none⟩ (.int .i64 j)).setCell ⟨w.heap.size, 4, none⟩ (.int .i64 s1.rd)).drew = WF at HB5 hfin ⊢; have z0 := cell_blk HB5 0; have z1 := cell_blk HB5 1; have z2 := cell_blk HB5 2; have z3 := cell_blk HB5 3; have z4 := cell_blk HB5 4; simp only [List.getElem?_cons_zero, List.getElem?_cons_succ] at z0 z1 z2 z3 z4; refine bodyPost_ret (v := .tuple #[.agg #[.int .i64 en, .int .i64 s1.tr, .string (strO s1.out), .int .i64 j, .int .i64 s1.rd], .int .i64 0]) (by simp [results, Tryd.results6, go_sem, z0, z1, z2, z3, z4]) rfl ?_; rw [hi.1, hi.2, ← HEN.out]; exact ⟨o1, rfl, hfin⟩)
end
end Go.Proofs.YtfdofleohichiaaDoor.Cpu
