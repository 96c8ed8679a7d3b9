/-
  What the laws' own 'played' answers of instructions.
-/
import Derived.Test.YtjneaphlghfbhabDoorCplay
namespace Go.Proofs.YtjneaphlghfbhabDoor.Cpu
open Go.RowKit Go.Proofs.YtjneaphlghfbhabDoor.Bits Go.Proofs.YtjneaphlghfbhabDoor.Gw Go.Proofs.YtjneaphlghfbhabDoor.Risc Go.Proofs.YtjneaphlghfbhabDoor.Alu Go.Proofs.YtjneaphlghfbhabDoor.Mem
set_option linter.unusedVariables false

def codeL (is : List Ins) : List Int := is.map Ins.word ++ List.replicate 8 0
theorem code_rng (is : List Ins) : inR (codeL is) := fun x hx => by
  rcases List.mem_append.1 hx with hx | hx
  · obtain ⟨i, _, rfl⟩ := List.mem_map.1 hx
    exact pack_range _ _ _ _ _ _ _ _
  · have := List.eq_of_mem_replicate hx; omega
theorem code_len (is : List Ins) : (codeL is).length = is.length + 8 := by simp [codeL]
theorem code_wd (is : List Ins) : (codeL is).map wd = (is.map Ins.word).map wd ++ zs8 := by simp [codeL, zs8, List.replicate]
/- A list of instructions in a block. -/
def Lies (w : World) (X : Nat) (is : List Ins) : Prop := ∃ cur T fr, w.heap[X]? = some (.cells cur T fr) ∧ cur.toList.take (is.length * 8) = flat8 is
theorem Lies.at {w : World} {X : Nat} {is : List Ins} (h : Lies w X is) {j : Nat} {i : Ins} (hi : is[j]? = some i) : At w X (j * 8) i := by
  obtain ⟨cur, T, fr, h1, h2⟩ := h
  exact at_of h1 h2 hi
theorem Lies.lt {w : World} {X : Nat} {is : List Ins} (h : Lies w X is) : X < w.heap.size := by
  obtain ⟨cur, T, fr, h1, h2⟩ := h
  exact (Array.getElem?_eq_some_iff.1 h1).1
theorem Lies.by {w w' : World} {X : Nat} {is : List Ins} (h : Lies w X is) (g : w.grownBy w' none) : Lies w' X is := by
  have hl := h.lt
  obtain ⟨cur, T, fr, h1, h2⟩ := h
  exact ⟨cur, T, fr, by rw [g.block X hl (by simp)]; exact h1, h2⟩
theorem wpList_append_zeros {w w' : World} {ops : Array Oper} {rest : List Oper} {o : Oper} {a : Act} {Q : Exit → Act → World → Prop} (hgd : o.guard = none) (s x : Operand)
    (ho : o.op = .call { callee := .builtin .append, args := #[s, x], argTypes := #[35, 3] }) (v v' : Value) (hs : a.eval s = v) (hx : a.eval x = .int .i64 8)
    (hr : (Builtin.append_ #[35, 3] o.type #[v, .int .i64 8]).run Tryd.prog w = .ok v' w') (h : wpList Tryd.prog ops Q rest (a.put o.dst v') w') : wpList Tryd.prog ops Q (o :: rest) a w := by
  refine wpList_plain hgd fun K hK => ?_
  unfold Oper.wp execOp
  simp only [ho, resolve, invoke, builtin, Sem.run_bind, Sem.run_pure, Result.andThen_ok, List.map_toArray, List.map_cons, List.map_nil, hs, hx, hr]
  exact hK _ _ h
set_option maxHeartbeats 4000000 in
set_option maxRecDepth 100000 in
theorem played_any {w : World} (L : Laid w) {X cap n : Nat} {is : List Ins} (hX : Lies w X is) (hn : is.length = n) (h1 : 1 ≤ n) (h2 : n ≤ 1000) (hgd : ∀ i ∈ is, i.good = true) (inp : ByteArray) (hin : inp.size ≤ 4096) (k : Nat) (K : Int) (hK : (k : Int) = K) (hk : k ≤ 4194304)
    {S : Ms} {N : Nat} (hS : it inp k (Ms.init (codeL is) 0) = S) (hN : ct inp k (Ms.init (codeL is) 0) = N) :
    Calls Tryd.prog 5 #[.slice (some ⟨X, 0, none⟩) n cap, .string inp, .int .i64 K] w fun e w' => ∃ a hb b o, e = .returned (.tuple #[ptr a, .agg #[.int .i64 S.en, .int .i64 S.tr, .string (strO S.out), .int .i64 N, .int .i64 S.rd], .bool true]) ∧ Mach w' a hb b o inp S ∧ w.grownBy w' none := by
  obtain ⟨i0, hi, hz0, hz1, hz2⟩ := info_parts Tryd.info34
  have HL := hd L
  have HX := hd (hX.by (World.grownBy_alloc w (Obj.cells #[Value.int IntKind.i64 0, Value.int IntKind.i64 0, Value.string ⟨#[]⟩, Value.int IntKind.i64 0, Value.int IntKind.i64 0] 28) none))
  have hXl := hX.lt
  have HGd := hd hgd
  have HNN := hd hn
  have HIN := hd hin
  have HSN := hd (And.intro hS hN)
  have hz : (w.alloc (Obj.cells #[Value.int IntKind.i64 0, Value.int IntKind.i64 0, Value.string ⟨#[]⟩, Value.int IntKind.i64 0, Value.int IntKind.i64 0] 28)).heap.size = w.heap.size + 1 := by simp
  clear L hX hgd hin hS hN
  go_enter Tryd.func5, Tryd.ntmps5
  go_wp2
  have HR := hd (heap_alloc_new w (Obj.cells #[Value.int IntKind.i64 0, Value.int IntKind.i64 0, Value.string ⟨#[]⟩, Value.int IntKind.i64 0, Value.int IntKind.i64 0] 28))
  have HG := hd (World.grownBy_alloc w (Obj.cells #[Value.int IntKind.i64 0, Value.int IntKind.i64 0, Value.string ⟨#[]⟩, Value.int IntKind.i64 0, Value.int IntKind.i64 0] 28) none)
  generalize w.alloc (Obj.cells #[Value.int IntKind.i64 0, Value.int IntKind.i64 0, Value.string ⟨#[]⟩, Value.int IntKind.i64 0, Value.int IntKind.i64 0] 28) = W at HX hz HR HG ⊢
  obtain ⟨R, hR⟩ : ∃ R, R = w.heap.size := ⟨_, rfl⟩
  rw [← hR] at HR hz hXl ⊢
  have HZ := hd hz
  have HRR := hd hR
  have HKK := hd hK
  clear hz hR hK hn
  go_loopw [9, 10] (fun v j wr => ∃ q : Nat, q ≤ n ∧ j = .int .i64 q ∧ wr.ownsRow (R + 1) 39 1 v q (((is.take q).map Ins.word).map wd) ∧ Below (R + 1) W wr)
    (fun _ j _ => n - (intOf j).toNat)
  case atStart => exact ⟨0, Nat.zero_le _, rfl, World.ownsRow_nil _ _ _ _, Below.refl _ _⟩
  case round =>
    obtain ⟨q, hq, rfl, hown, hbel⟩ := hrel
    have hbs : R + 1 ≤ wr.heap.size := by rw [← HZ.out]; exact hbel.size
    by_cases hlt : q < n
    · obtain ⟨i, hi'⟩ : ∃ i, is[q]? = some i := ⟨is[q]'(by rw [HNN.out]; exact hlt), List.getElem?_eq_getElem (by rw [HNN.out]; exact hlt)⟩
      have HI := hd hi'
      have HGi := hd (HGd.out i (List.mem_of_getElem? hi'))
      obtain ⟨c0, c1, c2, c3, c4, c5, c6, c7⟩ := (HX.out.at hi').bel hbel (by omega)
      have i2 : (q : Int) < (n : Int) := by omega
      have HO := hd hown
      have HBL := hd hbel
      clear hi' hown hbel
      go_wp2_with (first
        | (go_at_call 9; refine (enc_good HGi.out _).mono ?_; rintro e w1 ⟨rfl, hg⟩; have HG1 := hd (grown_g hg none); have HO1 := hd ((own_still HO.out HG1.out).alloc (.cells #[wd i.word] 39)); clear hg)
        | (at_builtin; refine wpList_append_own _ rfl _ _ 35 rfl (R + 1) 39 i0 (.int .u32 0) 1 4 Tryd.underlying35 hi hz0 hz1 hz2 rfl (by decide) _ _ _ rfl HO1.out ⟨w1.heap.size, 0, none⟩ 1 1 [wd i.word] rfl rfl (cell_one_new _ _ _) ?c2 ?c3 ?c4 ?c5 ?_))
      case c2 => intro u hu; simp at hu; subst hu; rfl
      case c3 => unfold maxLen; omega
      case c4 => omega
      case c5 => have := HG1.out.size; simp; omega
      intro v' w2 hown' hgrow _
      have hnew : w2.ownsRow (R + 1) 39 1 v' (q + 1) (((is.take (q + 1)).map Ins.word).map wd) := by rw [words_snoc HI.out]; simpa using hown'
      have hlt' := HO1.out.lt
      have hb1 : Below (R + 1) W w2 := ((HBL.out.grown HG1.out hbs (fun g hg => by cases hg)).alloc (by have := HG1.out.size; omega) _).grown hgrow (by have := HG1.out.size; simp; omega) (fun g hg => (hlt' g hg).1)
      clear hown' hgrow hlt' HBL HO HO1 HG1 c0 c1 c2 c3 c4 c5 c6 c7
      go_wp2
      exact ⟨⟨q + 1, by omega, by go_num, hnew, hb1⟩, by simp [intOf]; omega⟩
    · obtain rfl : q = n := by omega
      have i2 : ¬ (q : Int) < (q : Int) := by omega
      have hne : u9 ≠ .slice none 0 0 := by
        rintro rfl
        rcases hown.2 with ⟨_, h0⟩ | ⟨g, cap, cur, e, _⟩
        · omega
        · cases e
      rw [List.take_of_length_le (by rw [HNN.out]; exact Nat.le_refl _)] at hown
      obtain ⟨v', w2, hrun, hown2, hgrow2⟩ := run_append_zeros hown hne (by omega) (by omega) 35
      rw [← code_wd] at hown2
      obtain ⟨ao, cp, rfl, hs, _⟩ := own_src hown2
      have hw2 : Below (R + 1) W w2 := hbel.grown hgrow2 hbs (fun g hg => (hown.lt g hg).1)
      have HG2 := hd (grown_trans HG.out (grown_below (by rw [HZ.out]; exact hw2)))
      have HR2 : Hid (w2.heap[R]? = some (Obj.cells #[Value.int IntKind.i64 0, Value.int IntKind.i64 0, Value.string ⟨#[]⟩, Value.int IntKind.i64 0, Value.int IntKind.i64 0] 28)) := hd (by rw [hw2.block R (by omega)]; exact HR.out)
      have HNw := hd (cnew_ok (cp := cp) (inp := inp) (start := 0) (laid_chg HL.out (F := []) (Chg.still HG2.out) (by simp)) hs (code_rng is) (by rw [code_len, HNN.out]) (by omega) HIN.out (by decide) (by omega))
      have HK4 := hd hk
      have HRUN := hd hrun
      clear hown hbel hown2 hgrow2 hs hw2 hne h1 h2 hq hlt hbs hXl hk hrun
      go_upto_region 11 with (first
        | (at_builtin; refine wpList_append_zeros rfl _ _ rfl _ _ rfl rfl HRUN.out ?_)
        | (go_at_call 6; refine HNw.out.mono ?_; rintro e w3 ⟨a, hb, b, rfl, hm, hg, ha, hh, hb'⟩; have HM := hd hm; have HG3 := hd (And.intro hg (And.intro ha (And.intro hh hb'))); clear hm hg ha hh hb')
        | (go_at_call 8; refine (run_at HM.out k K HKK.out HK4.out HSN.out.1 HSN.out.2).mono ?_; rintro e w4 ⟨o1, rfl, hm, hc, hn'⟩; have HM4 := hd hm; have HC4 := hd (And.intro hc hn'); clear hm hc hn'))
      obtain ⟨hg3, ha, hh, hb'⟩ := HG3.out
      obtain ⟨hc4, hn4⟩ := HC4.out
      have hR2 : R < w2.heap.size := lt_of_block HR2.out
      have z2 := hg3.size
      have z4 := hc4.size
      have nR : R ∉ fp a b (.slice none 0 0) := fun e => by have := fp_ge ha hb' (fun k hk => (nil_own hk).elim) R e; omega
      have hRV : (w4.alloc (Obj.cells #[Value.int IntKind.i64 S.en, Value.int IntKind.i64 S.tr, Value.string (strO S.out), Value.int IntKind.i64 ↑N, Value.int IntKind.i64 ↑S.rd] 28)).heap[R]? = some (Obj.cells #[Value.int IntKind.i64 0, Value.int IntKind.i64 0, Value.string ⟨#[]⟩, Value.int IntKind.i64 0, Value.int IntKind.i64 0] 28) := by
        rw [(World.grownBy_alloc w4 (Obj.cells #[Value.int IntKind.i64 S.en, Value.int IntKind.i64 S.tr, Value.string (strO S.out), Value.int IntKind.i64 ↑N, Value.int IntKind.i64 ↑S.rd] 28) none).block R (by omega) (by simp), hc4.block R (by omega) nR, hg3.block R hR2 (by simp)]; exact HR2.out
      have HMV := hd (HM4.out.g ((G.refl w4).alloc #[Value.int IntKind.i64 S.en, Value.int IntKind.i64 S.tr, Value.string (strO S.out), Value.int IntKind.i64 ↑N, Value.int IntKind.i64 ↑S.rd] 28))
      have hO : Hid ((w4.alloc (Obj.cells #[Value.int IntKind.i64 S.en, Value.int IntKind.i64 S.tr, Value.string (strO S.out), Value.int IntKind.i64 ↑N, Value.int IntKind.i64 ↑S.rd] 28)).heap[w4.heap.size]? = some (.cells [.int .i64 S.en, .int .i64 S.tr, .string (strO S.out), .int .i64 N, .int .i64 S.rd].toArray 28 (0, 0))) := hd (heap_alloc_new w4 _)
      have sR := HG2.out.size
      have rR := HRR.out
      have gV := grown_trans (far (grown_trans HG2.out hg3) hc4 (fp_ge (by omega) (by omega) (fun k hk => (nil_own hk).elim))) (World.grownBy_alloc w4 (Obj.cells #[Value.int IntKind.i64 S.en, Value.int IntKind.i64 S.tr, Value.string (strO S.out), Value.int IntKind.i64 ↑N, Value.int IntKind.i64 ↑S.rd] 28) none)
      have kR : ∀ WF : World, (w4.alloc (Obj.cells #[Value.int IntKind.i64 S.en, Value.int IntKind.i64 S.tr, Value.string (strO S.out), Value.int IntKind.i64 ↑N, Value.int IntKind.i64 ↑S.rd] 28)).grownBy WF (some R) → Mach WF a hb b o1 inp S ∧ w.grownBy WF none := fun WF g => by
        refine ⟨HMV.out.kept (F := [R]) (Chg.one g (by simp)) ?_ ?_ ?_ ?_ ?_, far gV (Chg.one g (by simp) : Chg [R] _ _) (by simp; omega)⟩
        · have := HL.out.size; simp; omega
        · simp; omega
        · simp; omega
        · simp; omega
        · intro j hj
          rcases hn4 j hj with e | e
          · exact (nil_own e).elim
          · simp; omega
      generalize w4.alloc (Obj.cells #[Value.int IntKind.i64 S.en, Value.int IntKind.i64 S.tr, Value.string (strO S.out), Value.int IntKind.i64 ↑N, Value.int IntKind.i64 ↑S.rd] 28) = V at hRV HMV hO gV kR ⊢
      generalize w4.heap.size = Y at hO ⊢
      have y0 := cell_blk hO.out 0
      have y1 := cell_blk hO.out 1
      have y2 := cell_blk hO.out 2
      have y3 := cell_blk hO.out 3
      have y4 := cell_blk hO.out 4
      simp only [List.getElem?_cons_zero, List.getElem?_cons_succ] at y0 y1 y2 y3 y4
      have x0 : V.cell? ⟨R, 0, none⟩ = some (.int .i64 0) := by simp [World.cell?, hRV]
      have x1 : V.cell? ⟨R, 1, none⟩ = some (.int .i64 0) := by simp [World.cell?, hRV]
      have x2 : V.cell? ⟨R, 2, none⟩ = some (.string ⟨#[]⟩) := by simp [World.cell?, hRV]
      have x3 : V.cell? ⟨R, 3, none⟩ = some (.int .i64 0) := by simp [World.cell?, hRV]
      have x4 : V.cell? ⟨R, 4, none⟩ = some (.int .i64 0) := by simp [World.cell?, hRV]
      have yf : ∀ i, V.frozen? ⟨R, i, none⟩ = false := fun i => by simp [World.frozen?, hRV]
      have HRV := hd hRV
      have HKR := hd kR
      clear hRV kR gV sR rR nR z2 z4 hR2 ha hh hb' hg3 hc4 hn4 i2
      go_region
      all_goals go_wp2
      all_goals
        have HB5 := set5 HRV.out (.int .i64 S.en) (.int .i64 S.tr) (.string (strO S.out)) (.int .i64 N) (.int .i64 S.rd)
        have hfin := HKR.out _ (grown_set5 V R 0 1 2 3 4 (.int .i64 S.en) (.int .i64 S.tr) (.string (strO S.out)) (.int .i64 N) (.int .i64 S.rd))
        generalize (((((V.setCell ⟨R, 0, none⟩ (.int .i64 S.en)).setCell ⟨R, 1, none⟩ (.int .i64 S.tr)).setCell ⟨R, 2, none⟩ (.string (strO S.out))).setCell ⟨R, 3, none⟩ (.int .i64 N)).setCell ⟨R, 4, none⟩ (.int .i64 S.rd)).drew = WF at HB5 hfin ⊢
        have z0 := cell_blk HB5 0
        have z1 := cell_blk HB5 1
        have z2 := cell_blk HB5 2
        have z3 := cell_blk HB5 3
        have z4 := cell_blk HB5 4
        simp only [List.getElem?_cons_zero, List.getElem?_cons_succ] at z0 z1 z2 z3 z4
        refine bodyPost_ret (v := .tuple #[ptr a, .agg #[.int .i64 S.en, .int .i64 S.tr, .string (strO S.out), .int .i64 N, .int .i64 S.rd], .bool true]) (by simp [results, Tryd.results5, go_sem, z0, z1, z2, z3, z4]) rfl ?_
        exact ⟨a, hb, b, o1, rfl, hfin⟩
end Go.Proofs.YtjneaphlghfbhabDoor.Cpu
