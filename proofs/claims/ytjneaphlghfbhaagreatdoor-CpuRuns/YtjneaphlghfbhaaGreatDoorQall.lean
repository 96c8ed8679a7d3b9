/-
  A machine of the document's own as it lies in memory; what stays of it, and what is written.
  What the document's own set, load and store do.
  What the document's own store and memory do.
  What the document's own memory and jump do.
  What the document's own jump does.
  What the document's own register does.
  What the document's own register does with the flags.
  What the document's own register does with what is reckoned.
  What the document's own register does with what is reckoned, of a word in the instruction.
  What a step of the document's own machine does.
  What a step of the document's own machine does, where a word is.
  What the document's own Run and New do.
  Two outcomes that are one are the same; two machines that are one stand alike.
  A machine of package cpu and the document's own side by side.
  The walk of CpuRuns.
  A Play among the arguments, opened; the walk of CpuRuns as one.
-/
import Derived.Test.YtjneaphlghfbhaaGreatDoorCpu7
import Derived.Test.YtjneaphlghfbhaaGreatDoorMem5
import Derived.Test.YtjneaphlghfbhaaGreatDoorAlu7
import Derived.Test.YtjneaphlghfbhaaGreatDoorRref3
import Derived.Maps.AppendAt
import Derived.Deep.Cut
import Derived.Test.YtjneaphlghfbhaaGreatDoorCpu8
import Derived.Test.YtjneaphlghfbhaaGreatDoorCsep
import Derived.Test.YtjneaphlghfbhaaGreatDoorMem6
import Derived.Test.YtjneaphlghfbhaaGreatDoorCnew
import Derived.Test.YtjneaphlghfbhaaGreatDoorMem7
import Derived.Test.YtjneaphlghfbhaaGreatDoorCgrow
import Derived.Test.YtjneaphlghfbhaaGreatDoorCargs
namespace Go.Proofs.YtjneaphlghfbhaaGreatDoor.Qpu
open Go.RowKit Go.Proofs.YtjneaphlghfbhaaGreatDoor.Bits Go.Proofs.YtjneaphlghfbhaaGreatDoor.Gw Go.Proofs.YtjneaphlghfbhaaGreatDoor.Risc Go.Proofs.YtjneaphlghfbhaaGreatDoor.Alu Go.Proofs.YtjneaphlghfbhaaGreatDoor.Mem Go.Proofs.YtjneaphlghfbhaaGreatDoor.Cpu
set_option linter.unusedVariables false

def enI (e : Int) : Int := if e = 3 then 0 else e
def qtail (hb : Nat) (o : Value) (inp : ByteArray) (s : Ms) (st : Nat) : List Value :=
  [wd s.h, .bool s.n, .bool s.z, .bool s.c, .bool s.v, .int .i64 s.pc, ptr hb, .string inp, o, .int .i64 s.rd, .int .i64 st, .int .i64 (enI s.en), .int .i64 s.tr]
def qcells (hb : Nat) (o : Value) (inp : ByteArray) (s : Ms) (st : Nat) : List Value := s.R.map wd ++ qtail hb o inp s st
structure QMach (w : World) (a hb b : Nat) (o : Value) (inp : ByteArray) (s : Ms) (st : Nat) : Prop where
  blk : w.heap[a]? = some (.cells (qcells hb o inp s st).toArray 67 (0, 0))
  mem : ∃ c, Mm 81 w hb b c s.xs
  out : w.ownsRow 11 5 1 o s.out.length (s.out.map b8)
  ok : s.ok inp
  lo : 11 ≤ a ∧ 11 ≤ hb ∧ 11 ≤ b
section
variable {w w' : World} {a hb b : Nat} {o : Value} {inp : ByteArray} {s s' : Ms} {st st' : Nat}
theorem QMach.lt (h : QMach w a hb b o inp s st) : a < w.heap.size := lt_of_block h.blk
theorem QMach.ltb (h : QMach w a hb b o inp s st) : b < w.heap.size := by obtain ⟨c, hm⟩ := h.mem; exact hm.row.lt
theorem QMach.lth (h : QMach w a hb b o inp s st) : hb < w.heap.size := by obtain ⟨c, hm⟩ := h.mem; exact lt_of_block hm.head
theorem QMach.lto (h : QMach w a hb b o inp s st) {k : Nat} (hk : o.ownBlock = some k) : 11 ≤ k ∧ k < w.heap.size := h.out.lt k hk
theorem QMach.ne_ah (h : QMach w a hb b o inp s st) : a ≠ hb := by obtain ⟨c, hm⟩ := h.mem; exact blk_ne h.blk hm.head (by decide)
theorem QMach.ne_ab (h : QMach w a hb b o inp s st) : a ≠ b := by obtain ⟨c, hm⟩ := h.mem; obtain ⟨cur, h1, _, _⟩ := hm.row.has; exact blk_ne h.blk h1 (by decide)
theorem QMach.ne_hb (h : QMach w a hb b o inp s st) : hb ≠ b := by obtain ⟨c, hm⟩ := h.mem; exact hm.ne (by decide)
theorem QMach.ne_ao (h : QMach w a hb b o inp s st) {k : Nat} (hk : o.ownBlock = some k) : a ≠ k := by obtain ⟨cur, h1⟩ := row_blk h.out hk; exact blk_ne h.blk h1 (by decide)
theorem QMach.ne_ho (h : QMach w a hb b o inp s st) {k : Nat} (hk : o.ownBlock = some k) : hb ≠ k := by obtain ⟨c, hm⟩ := h.mem; obtain ⟨cur, h1⟩ := row_blk h.out hk; exact blk_ne hm.head h1 (by decide)
theorem QMach.ne_bo (h : QMach w a hb b o inp s st) {k : Nat} (hk : o.ownBlock = some k) : b ≠ k := by
  obtain ⟨c, hm⟩ := h.mem; obtain ⟨cur, h2, _, _⟩ := hm.row.has; obtain ⟨cur, h1⟩ := row_blk h.out hk; exact blk_ne h2 h1 (by decide)
theorem QMach.fp_lo (h : QMach w a hb b o inp s st) : ∀ k ∈ fp a b o, 11 ≤ k := by
  intro k hk
  simp only [fp, List.mem_cons, obl_mem] at hk
  rcases hk with rfl | rfl | hk
  · exact h.lo.1
  · exact h.lo.2.2
  · exact (h.lto hk).1
theorem QMach.kept {F : List Nat} (h : QMach w a hb b o inp s st) (hg : Chg F w w') (ha : a ∉ F) (hh : hb ∉ F) (hb' : b ∉ F) (ho : ∀ k, o.ownBlock = some k → k ∉ F) : QMach w' a hb b o inp s st := by
  obtain ⟨c, hm⟩ := h.mem
  exact ⟨by rw [hg.block a h.lt ha]; exact h.blk, ⟨c, Mm.chg hm hg hh hb'⟩, own_chg h.out hg ho, h.ok, h.lo⟩
theorem QMach.grown (h : QMach w a hb b o inp s st) (hg : w.grownBy w' none) : QMach w' a hb b o inp s st :=
  h.kept (F := []) (Chg.still hg) (by simp) (by simp) (by simp) (by simp)
theorem QMach.g (h : QMach w a hb b o inp s st) (hg : G w w') : QMach w' a hb b o inp s st := h.grown (grown_g hg none)
theorem QMach.wrote (h : QMach w a hb b o inp s st) (hg : w.grownBy w' (some a)) (hblk : w'.heap[a]? = some (.cells (qcells hb o inp s' st').toArray 67 (0, 0))) (hx : s'.xs = s.xs) (ho : s'.out = s.out) (ok : s'.ok inp) : QMach w' a hb b o inp s' st' := by
  obtain ⟨c, hm⟩ := h.mem
  have hc : Chg [a] w w' := Chg.one hg (by simp)
  refine ⟨hblk, ⟨c, ?_⟩, ?_, ok, h.lo⟩
  · rw [hx]; exact Mm.chg hm hc (by simp [h.ne_ah.symm]) (by simp [h.ne_ab.symm])
  · rw [ho]; exact own_chg h.out hc (fun k hk => by simp [(h.ne_ao hk).symm])
theorem QMach.free (h : QMach w a hb b o inp s st) (i : Nat) : w.frozen? ⟨a, i, none⟩ = false := by simp [World.frozen?, h.blk]
theorem QMach.reg (h : QMach w a hb b o inp s st) {k : Nat} (hk : k < 16) : w.cell? ⟨a, k, none⟩ = some (wd (at0 s.R k)) := by
  rw [cell_blk h.blk]
  have hl := h.ok.r16
  simp [qcells, List.getElem?_append, hl, hk, at0]
theorem QMach.tail (h : QMach w a hb b o inp s st) (j : Nat) : w.cell? ⟨a, 16 + j, none⟩ = (qtail hb o inp s st)[j]? := by
  rw [cell_blk h.blk, qcells, List.getElem?_append_right (by simp [h.ok.r16])]
  simp [h.ok.r16]
theorem QMach.ch (h : QMach w a hb b o inp s st) : w.cell? ⟨a, 16, none⟩ = some (wd s.h) := h.tail 0
theorem QMach.cn (h : QMach w a hb b o inp s st) : w.cell? ⟨a, 17, none⟩ = some (.bool s.n) := h.tail 1
theorem QMach.cz (h : QMach w a hb b o inp s st) : w.cell? ⟨a, 18, none⟩ = some (.bool s.z) := h.tail 2
theorem QMach.cc (h : QMach w a hb b o inp s st) : w.cell? ⟨a, 19, none⟩ = some (.bool s.c) := h.tail 3
theorem QMach.cv (h : QMach w a hb b o inp s st) : w.cell? ⟨a, 20, none⟩ = some (.bool s.v) := h.tail 4
theorem QMach.cpc (h : QMach w a hb b o inp s st) : w.cell? ⟨a, 21, none⟩ = some (.int .i64 s.pc) := h.tail 5
theorem QMach.cmem (h : QMach w a hb b o inp s st) : w.cell? ⟨a, 22, none⟩ = some (ptr hb) := h.tail 6
theorem QMach.cin (h : QMach w a hb b o inp s st) : w.cell? ⟨a, 23, none⟩ = some (.string inp) := h.tail 7
theorem QMach.cout (h : QMach w a hb b o inp s st) : w.cell? ⟨a, 24, none⟩ = some o := h.tail 8
theorem QMach.crd (h : QMach w a hb b o inp s st) : w.cell? ⟨a, 25, none⟩ = some (.int .i64 s.rd) := h.tail 9
theorem QMach.cst (h : QMach w a hb b o inp s st) : w.cell? ⟨a, 26, none⟩ = some (.int .i64 st) := h.tail 10
theorem QMach.cen (h : QMach w a hb b o inp s st) : w.cell? ⟨a, 27, none⟩ = some (.int .i64 (enI s.en)) := h.tail 11
theorem QMach.ctr (h : QMach w a hb b o inp s st) : w.cell? ⟨a, 28, none⟩ = some (.int .i64 s.tr) := h.tail 12
theorem QMach.ob (h : QMach w a hb b o inp s st) : Ob 81 w (ptr hb) b s.xs := by obtain ⟨c, hm⟩ := h.mem; exact .inr ⟨hb, c, rfl, hm⟩
theorem QMach.same (h : QMach w a hb b o inp s st) {s' : Ms} (e : s' = s) : QMach w a hb b o inp s' st := by rw [e]; exact h
end
theorem qs_reg (hb : Nat) (o : Value) (inp : ByteArray) (s : Ms) (st : Nat) (hl : s.R.length = 16) {k : Nat} (hk : k < 16) (r : Int) : (qcells hb o inp s st).set k (wd r) = qcells hb o inp { s with R := s.R.set k r } st := by
  unfold qcells
  rw [List.set_append_left _ _ (by simp [hl, hk]), List.map_set]
  rfl
theorem qs_tail (hb : Nat) (o : Value) (inp : ByteArray) (s : Ms) (st : Nat) (hl : s.R.length = 16) (j : Nat) (x : Value) : (qcells hb o inp s st).set (16 + j) x = s.R.map wd ++ (qtail hb o inp s st).set j x := by
  unfold qcells
  rw [List.set_append_right _ _ (by simp [hl])]
  simp [hl]
theorem qs_h (hb : Nat) (o : Value) (inp : ByteArray) (s : Ms) (st : Nat) (hl : s.R.length = 16) (x : Int) : (qcells hb o inp s st).set 16 (wd x) = qcells hb o inp { s with h := x } st := qs_tail hb o inp s st hl 0 _
theorem qs_n (hb : Nat) (o : Value) (inp : ByteArray) (s : Ms) (st : Nat) (hl : s.R.length = 16) (x : Bool) : (qcells hb o inp s st).set 17 (.bool x) = qcells hb o inp { s with n := x } st := qs_tail hb o inp s st hl 1 _
theorem qs_z (hb : Nat) (o : Value) (inp : ByteArray) (s : Ms) (st : Nat) (hl : s.R.length = 16) (x : Bool) : (qcells hb o inp s st).set 18 (.bool x) = qcells hb o inp { s with z := x } st := qs_tail hb o inp s st hl 2 _
theorem qs_c (hb : Nat) (o : Value) (inp : ByteArray) (s : Ms) (st : Nat) (hl : s.R.length = 16) (x : Bool) : (qcells hb o inp s st).set 19 (.bool x) = qcells hb o inp { s with c := x } st := qs_tail hb o inp s st hl 3 _
theorem qs_v (hb : Nat) (o : Value) (inp : ByteArray) (s : Ms) (st : Nat) (hl : s.R.length = 16) (x : Bool) : (qcells hb o inp s st).set 20 (.bool x) = qcells hb o inp { s with v := x } st := qs_tail hb o inp s st hl 4 _
theorem qs_pc (hb : Nat) (o : Value) (inp : ByteArray) (s : Ms) (st : Nat) (hl : s.R.length = 16) (x : Int) : (qcells hb o inp s st).set 21 (.int .i64 x) = qcells hb o inp { s with pc := x } st := qs_tail hb o inp s st hl 5 _
theorem qs_out (hb : Nat) (o : Value) (inp : ByteArray) (s : Ms) (st : Nat) (hl : s.R.length = 16) (x : Value) : (qcells hb o inp s st).set 24 x = qcells hb x inp s st := qs_tail hb o inp s st hl 8 _
theorem qs_rd (hb : Nat) (o : Value) (inp : ByteArray) (s : Ms) (st : Nat) (hl : s.R.length = 16) (x : Nat) : (qcells hb o inp s st).set 25 (.int .i64 x) = qcells hb o inp { s with rd := x } st := qs_tail hb o inp s st hl 9 _
theorem qs_st (hb : Nat) (o : Value) (inp : ByteArray) (s : Ms) (st : Nat) (hl : s.R.length = 16) (x : Nat) : (qcells hb o inp s st).set 26 (.int .i64 x) = qcells hb o inp s x := qs_tail hb o inp s st hl 10 _
theorem qs_en (hb : Nat) (o : Value) (inp : ByteArray) (s : Ms) (st : Nat) (hl : s.R.length = 16) (x : Int) (hx : x ≠ 3) : (qcells hb o inp s st).set 27 (.int .i64 x) = qcells hb o inp { s with en := x } st := by
  have := qs_tail hb o inp s st hl 11 (.int .i64 x)
  rw [this]
  simp [qcells, qtail, enI, hx]
theorem qs_tr (hb : Nat) (o : Value) (inp : ByteArray) (s : Ms) (st : Nat) (hl : s.R.length = 16) (x : Int) : (qcells hb o inp s st).set 28 (.int .i64 x) = qcells hb o inp { s with tr := x } st := qs_tail hb o inp s st hl 12 _
section
variable {w : World} {a hb b : Nat} {o : Value} {inp : ByteArray} {s : Ms} {st : Nat}
theorem QMach.setBy3 (h : QMach w a hb b o inp s st) {k : Nat} (hk : k < 16) {r : Int} (hr : W32 r) :
    QMach (((w.setCell ⟨a, k, none⟩ (wd r)).setCell ⟨a, 17, none⟩ (.bool (sgB r))).setCell ⟨a, 18, none⟩ (.bool (r == 0))) a hb b o inp (s.setBy k r) st := by
  refine h.wrote (grown_set3 _ _ _ _ _ _ _ _) ?_ rfl rfl (h.ok.setBy k hr)
  rw [blk_set (blk_set (blk_set h.blk k (wd r)) 17 (.bool (sgB r))) 18 (.bool (r == 0)), qs_reg _ _ _ _ _ h.ok.r16 hk, qs_n _ _ _ _ _ (by simp [h.ok.r16]), qs_z _ _ _ _ _ (by simp [h.ok.r16])]
  rfl
theorem QMach.en1 (h : QMach w a hb b o inp s st) {e : Int} (he : 1 ≤ e ∧ e ≤ 6) (h3 : e ≠ 3) : QMach (w.setCell ⟨a, 27, none⟩ (.int .i64 e)) a hb b o inp { s with en := e } st := by
  refine h.wrote (grown_set _ _ _ _) ?_ rfl rfl (h.ok.en he)
  rw [blk_set h.blk 27 (.int .i64 e), qs_en _ _ _ _ _ h.ok.r16 _ h3]
theorem QMach.pc1 (h : QMach w a hb b o inp s st) {p : Int} (h0 : 0 ≤ p) (h1 : p < 1073741824) : QMach (w.setCell ⟨a, 21, none⟩ (.int .i64 p)) a hb b o inp { s with pc := p } st := by
  refine h.wrote (grown_set _ _ _ _) ?_ rfl rfl ⟨h.ok.r16, h.ok.rr, h.ok.h0, h0, h1, h.ok.xs1, h.ok.xr, h.ok.rd1, h.ok.in1, h.ok.out1, h.ok.outr, h.ok.en0, h.ok.tr0⟩
  rw [blk_set h.blk 21 (.int .i64 p), qs_pc _ _ _ _ _ h.ok.r16]
theorem QMach.st1 (h : QMach w a hb b o inp s st) (n : Nat) : QMach (w.setCell ⟨a, 26, none⟩ (.int .i64 n)) a hb b o inp s n := by
  refine h.wrote (grown_set _ _ _ _) ?_ rfl rfl h.ok
  rw [blk_set h.blk 26 (.int .i64 n), qs_st _ _ _ _ _ h.ok.r16]
theorem QMach.rd1 (h : QMach w a hb b o inp s st) {n : Nat} (h1 : n ≤ inp.size) : QMach (w.setCell ⟨a, 25, none⟩ (.int .i64 n)) a hb b o inp { s with rd := n } st := by
  refine h.wrote (grown_set _ _ _ _) ?_ rfl rfl ⟨h.ok.r16, h.ok.rr, h.ok.h0, h.ok.pc0, h.ok.pc1, h.ok.xs1, h.ok.xr, h1, h.ok.in1, h.ok.out1, h.ok.outr, h.ok.en0, h.ok.tr0⟩
  rw [blk_set h.blk 25 (.int .i64 n), qs_rd _ _ _ _ _ h.ok.r16]
theorem QMach.entr (h : QMach w a hb b o inp s st) {e t : Int} (he : 1 ≤ e ∧ e ≤ 6) (h3 : e ≠ 3) (ht : -2147483648 ≤ t ∧ t < 2147483648) : QMach ((w.setCell ⟨a, 27, none⟩ (.int .i64 e)).setCell ⟨a, 28, none⟩ (.int .i64 t)) a hb b o inp { s with en := e, tr := t } st := by
  refine h.wrote (grown_set2 _ _ _ _ _ _) ?_ rfl rfl ⟨h.ok.r16, h.ok.rr, h.ok.h0, h.ok.pc0, h.ok.pc1, h.ok.xs1, h.ok.xr, h.ok.rd1, h.ok.in1, h.ok.out1, h.ok.outr, he, ht⟩
  rw [blk_set (blk_set h.blk 27 (.int .i64 e)) 28 (.int .i64 t), qs_en _ _ _ _ _ h.ok.r16 _ h3, qs_tr _ _ _ { s with en := e } _ h.ok.r16]
theorem QMach.regset (h : QMach w a hb b o inp s st) {k : Nat} (hk : k < 16) {r : Int} (hr : W32 r) : QMach (w.setCell ⟨a, k, none⟩ (wd r)) a hb b o inp { s with R := s.R.set k r } st := by
  refine h.wrote (grown_set _ _ _ _) ?_ rfl rfl ⟨by simp [h.ok.r16], inR_set h.ok.rr _ hr.1 hr.2, h.ok.h0, h.ok.pc0, h.ok.pc1, h.ok.xs1, h.ok.xr, h.ok.rd1, h.ok.in1, h.ok.out1, h.ok.outr, h.ok.en0, h.ok.tr0⟩
  rw [blk_set h.blk k (wd r), qs_reg _ _ _ _ _ h.ok.r16 hk]
theorem QMach.did6 (h : QMach w a hb b o inp s st) (op : Int) (u : Bool) {ka : Nat} (kb : Nat) (hk : ka < 16) {n : Int} (hn : W32 n) {r h' : Int} {n' z' c' v' : Bool}
    (e1 : rI op u (at0 s.R kb) n s.h s.c = r) (e2 : hI op u (at0 s.R kb) n s.h = h') (e3 : sgB r = n') (e4 : (r == 0) = z') (e5 : cB op u (at0 s.R kb) n s.c = c') (e6 : vB op u (at0 s.R kb) n s.c s.v = v') :
    QMach ((((((w.setCell ⟨a, ka, none⟩ (wd r)).setCell ⟨a, 16, none⟩ (wd h')).setCell ⟨a, 17, none⟩ (.bool n')).setCell ⟨a, 18, none⟩ (.bool z')).setCell ⟨a, 19, none⟩ (.bool c')).setCell ⟨a, 20, none⟩ (.bool v')) a hb b o inp (s.did op u ka kb n) st := by
  subst e1 e2 e3 e4 e5 e6
  refine h.wrote (grown_set6 _ _ _ _ _ _ _ _ _ _ _ _ _ _) ?_ rfl rfl (h.ok.did op u ka kb hn)
  have l := h.ok.r16
  rw [blk_set (blk_set (blk_set (blk_set (blk_set (blk_set h.blk ka _) 16 _) 17 _) 18 _) 19 _) 20 _, qs_reg _ _ _ _ _ l hk, qs_h _ _ _ _ _ (by simp [l]), qs_n _ _ _ _ _ (by simp [l]), qs_z _ _ _ _ _ (by simp [l]), qs_c _ _ _ _ _ (by simp [l]), qs_v _ _ _ _ _ (by simp [l])]
  rfl
theorem QMach.memset (h : QMach w a hb b o inp s st) {w' : World} {ys : List Int} (hg : w.grownBy w' (some b)) (ho : Ob 81 w' (ptr hb) b ys) (hl : ys.length ≤ 65536) (hr : inR ys) : QMach w' a hb b o inp { s with xs := ys } st := by
  have hc : Chg [b] w w' := Chg.one hg (by simp)
  refine ⟨?_, ?_, ?_, h.ok.mem hl hr, h.lo⟩
  · rw [hc.block a h.lt (by simp [h.ne_ab])]; exact h.blk
  · rcases ho with ⟨e, _⟩ | ⟨a', c, e, hm⟩
    · cases e
    · cases e; exact ⟨c, hm⟩
  · exact own_chg h.out hc (fun k hk => by simp [(h.ne_bo hk).symm])
theorem QMach.appended (h : QMach w a hb b o inp s st) {y : Int} (hy : 0 ≤ y ∧ y < 256) (hl : s.out.length < 4096) {w1 : World} {v' : Value} {T : TypeId} (hgrow : (w.alloc (.cells #[b8 y] T)).grownBy w1 o.ownBlock)
    (hown : w1.ownsRow 11 5 1 v' (s.out.length + 1) (s.out.map b8 ++ [b8 y])) (hat : v'.ownBlock = o.ownBlock ∨ v'.ownBlock = some (w.heap.size + 1)) :
    QMach (w1.setCell ⟨a, 24, none⟩ v') a hb b v' inp { s with out := s.out ++ [y] } st ∧ Chg (fp a b o) w (w1.setCell ⟨a, 24, none⟩ v') ∧ Nw w o v' := by
  have h1 : Chg (obl o) w w1 := Chg.trans0 (Chg.still (World.grownBy_alloc _ _ _)) (Chg.by hgrow (fun k hk => obl_mem.2 hk))
  have h2 : Chg [a] w1 (w1.setCell ⟨a, 24, none⟩ v') := Chg.one (grown_set _ _ _ _) (by simp)
  have na : a ∉ obl o := fun e => h.ne_ao (obl_mem.1 e) rfl
  have nh : hb ∉ obl o := fun e => h.ne_ho (obl_mem.1 e) rfl
  have nb : b ∉ obl o := fun e => h.ne_bo (obl_mem.1 e) rfl
  have hblk : w1.heap[a]? = some (.cells (qcells hb o inp s st).toArray 67 (0, 0)) := by rw [h1.block a h.lt na]; exact h.blk
  obtain ⟨c, hm⟩ := h.mem
  refine ⟨⟨?_, ⟨c, ?_⟩, ?_, ?_, h.lo⟩, ?_, ?_⟩
  · rw [blk_set hblk 24 v', qs_out _ _ _ _ _ h.ok.r16]; rfl
  · exact Mm.chg (Mm.chg hm h1 nh nb) h2 (by simp [h.ne_ah.symm]) (by simp [h.ne_ab.symm])
  · have := own_chg hown h2 (fun k hk => by
      obtain ⟨cur, hc⟩ := row_blk hown hk
      have := blk_ne hblk hc (by decide)
      simp [this.symm])
    simpa using this
  · have := h.ok.put hy
    unfold Ms.put at this
    rwa [if_neg (by omega)] at this
  · refine (h1.mono (F' := fp a b o) (fun j hj => by simp [fp, hj])).trans h2 (fun j hj => ?_)
    simp at hj; subst hj; exact .inl (by simp [fp])
  · intro k hk
    rcases hat with e | e
    · rw [e] at hk; exact .inl hk
    · rw [e] at hk; cases hk; exact .inr (by omega)
end
end Go.Proofs.YtjneaphlghfbhaaGreatDoor.Qpu
namespace Go.Proofs.YtjneaphlghfbhaaGreatDoor.Qpu
open Go.RowKit Go.Proofs.YtjneaphlghfbhaaGreatDoor.Bits Go.Proofs.YtjneaphlghfbhaaGreatDoor.Gw Go.Proofs.YtjneaphlghfbhaaGreatDoor.Risc Go.Proofs.YtjneaphlghfbhaaGreatDoor.Alu Go.Proofs.YtjneaphlghfbhaaGreatDoor.Mem Go.Proofs.YtjneaphlghfbhaaGreatDoor.Cpu
set_option linter.unusedVariables false
set_option maxRecDepth 100000

section
variable {w : World} {a hb b : Nat} {o : Value} {inp : ByteArray} {s : Ms} {st : Nat}
theorem sg_is {r : Int} (h : W32 r) : decide (2147483648 ≤ r) = sgB r := by
  have := told_is r 0 false false h.1 h.2
  simp only [toldR, told, Value.agg.injEq, Array.mk.injEq, List.cons.injEq, Value.bool.injEq, and_true, true_and] at this
  exact this
theorem qset_any (h : QMach w a hb b o inp s st) (k : Nat) (hk : k < 16) (r : Int) (hr : W32 r) :
    Calls Tryz.prog 63 #[ptr a, .int .i64 k, wd r] w fun e w' => e = .returned unit ∧ QMach w' a hb b o inp (s.setBy k r) st ∧ w.grownBy w' (some a) := by
  have HM := hd (h.setBy3 hk hr)
  have c0 := h.reg hk
  have c1 := h.cn
  have c2 := h.cz
  have f0 := h.free k
  have f1 := h.free 17
  have f2 := h.free 18
  have n1 : ¬ k = 17 := by omega
  have n2 : ¬ k = 18 := by omega
  have E := hd (sg_is hr)
  have i0 : (0 : Int) ≤ (k : Int) := by omega
  have i1 : (k : Int) < 16 := by omega
  clear h
  go_enter Tryz.func63, Tryz.ntmps63
  go_wp2
  go_end0
  refine ⟨rfl, ?_, grown_set3 _ _ _ _ _ _ _ _⟩
  have := HM.out
  rw [← E.out] at this
  exact this
theorem qload_in (h : QMach w a hb b o inp s st) (v : Bool) :
    Calls Tryz.prog 66 #[ptr a, wd 4294967240, .bool v] w fun e w' => e = .returned (.tuple #[wd (if s.rd < inp.size then inAt inp s.rd else 0), .bool true]) ∧ QMach w' a hb b o inp { s with rd := if s.rd < inp.size then s.rd + 1 else s.rd } st ∧ w.grownBy w' (some a) := by
  have c1 := h.crd
  have c2 := h.cin
  have f1 := h.free 25
  have hi := h.ok.in1
  by_cases hlt : s.rd < inp.size
  · have i1 : (s.rd : Int) < (inp.size : Int) := by omega
    have hm := h.rd1 (n := s.rd + 1) (by omega)
    have HM := hd hm
    have HE := hd (in_at inp s.rd hlt)
    rw [if_pos hlt, if_pos hlt]
    clear h hm
    go_enter Tryz.func66, Tryz.ntmps66
    go_wp2
    go_quiet (fail)
    go_wp2
    go_quiet (fail)
    go_wp2
    go_ret2
    exact ⟨ret_wb (by rw [HE.out]; have := in_size inp s.rd; omega) rfl, (HM.out.g ⟨_, gr_drewN _ _⟩).g ⟨_, gr_drewN _ _⟩, grown_drewN (grown_drewN (grown_set _ _ _ _) _) _⟩
  · have i1 : ¬ (s.rd : Int) < (inp.size : Int) := by omega
    have HM := hd h
    rw [if_neg hlt, if_neg hlt]
    clear h
    go_enter Tryz.func66, Tryz.ntmps66
    go_wp2
    go_quiet (fail)
    go_wp2
    go_ret2
    exact ⟨rfl, HM.out.g ⟨_, gr_drewN _ _⟩, grown_drewN (World.grownBy.refl _ _) _⟩
theorem qload_wait (h : QMach w a hb b o inp s st) (v : Bool) :
    Calls Tryz.prog 66 #[ptr a, wd 4294967244, .bool v] w fun e w' => e = .returned (.tuple #[wd (if s.rd < inp.size then 1 else 0), .bool true]) ∧ G w w' := by
  have c1 := h.crd
  have c2 := h.cin
  clear h
  by_cases hlt : s.rd < inp.size
  · have i1 : (s.rd : Int) < (inp.size : Int) := by omega
    rw [if_pos hlt]
    go_enter Tryz.func66, Tryz.ntmps66
    go_wp2
    go_quiet (fail)
    go_wp2
    go_ret2
    exact ⟨rfl, (G.refl _).drewN _⟩
  · have i1 : ¬ (s.rd : Int) < (inp.size : Int) := by omega
    rw [if_neg hlt]
    go_enter Tryz.func66, Tryz.ntmps66
    go_wp2
    go_quiet (fail)
    go_wp2
    go_ret2
    exact ⟨rfl, (G.refl _).drewN _⟩
set_option maxHeartbeats 1000000 in
theorem qload_any (h : QMach w a hb b o inp s st) (p : Int) (hp : W32 p) (v : Bool) :
    Calls Tryz.prog 66 #[ptr a, wd p, .bool v] w fun e w' => e = .returned (.tuple #[wd (ldV inp s p v), .bool (ldB s p v)]) ∧ QMach w' a hb b o inp { s with rd := ldR inp s p } st ∧ w.grownBy w' (some a) := by
  by_cases h0 : p = 4294967240
  · subst h0
    refine (qload_in h v).mono fun e w' ⟨he, hm, hg⟩ => ⟨by rw [he]; simp [ldV, ldB], hm.same (by simp [ldR]), hg⟩
  by_cases h1 : p = 4294967244
  · subst h1
    exact (qload_wait h v).mono fun e w' ⟨he, hg⟩ => ⟨by rw [he]; simp [ldV, ldB], (h.g hg).same (ldR_no h0), grown_g hg _⟩
  have HM := hd h
  have c1 := h.cmem
  have HO := hd h.ob
  clear h
  have e0 : (p == 4294967240) = false := by simpa using h0
  have e1 : (p == 4294967244) = false := by simpa using h1
  have HR : Hid (({ s with rd := ldR inp s p } : Ms) = s) := hd (ldR_no h0)
  have HV : Hid (ldV inp s p v = if v = true then byI s.xs p else ldI s.xs p) := hd (by simp [ldV, h0, h1])
  have HB : Hid (ldB s p v = if v = true then thB s.xs p else beB s.xs p) := hd (by simp [ldB, h0, h1])
  obtain ⟨p0, p1⟩ := hp
  clear h0 h1
  cases v
  · go_enter Tryz.func66, Tryz.ntmps66
    go_wp2_with (go_at_call 102; refine (rload_ob HO.out _ p0 p1).mono ?_; rintro e w' ⟨rfl, rfl⟩)
    go_ret2
    exact ⟨ret_wb HV.out.symm HB.out.symm, HM.out.same HR.out, World.grownBy.refl _ _⟩
  · go_enter Tryz.func66, Tryz.ntmps66
    go_wp2_with (go_at_call 101; refine (rbyte_ob HO.out _ p0 p1).mono ?_; rintro e w' ⟨rfl, d, rfl⟩)
    go_ret2
    exact ⟨ret_wb HV.out.symm HB.out.symm, (HM.out.g ⟨_, gr_drewN _ _⟩).same HR.out, grown_drewN (World.grownBy.refl _ _) _⟩
end
end Go.Proofs.YtjneaphlghfbhaaGreatDoor.Qpu
namespace Go.Proofs.YtjneaphlghfbhaaGreatDoor.Qpu
open Go.RowKit Go.Proofs.YtjneaphlghfbhaaGreatDoor.Bits Go.Proofs.YtjneaphlghfbhaaGreatDoor.Gw Go.Proofs.YtjneaphlghfbhaaGreatDoor.Risc Go.Proofs.YtjneaphlghfbhaaGreatDoor.Alu Go.Proofs.YtjneaphlghfbhaaGreatDoor.Mem Go.Proofs.YtjneaphlghfbhaaGreatDoor.Cpu
set_option linter.unusedVariables false
set_option maxRecDepth 100000

section
variable {w : World} {a hb b : Nat} {o : Value} {inp : ByteArray} {s : Ms} {st : Nat}
theorem qput_full (h : QMach w a hb b o inp s st) (y : Int) (v : Bool) (hf : 4096 ≤ s.out.length) : Calls Tryz.prog 65 #[ptr a, wd 4294967240, wd y, .bool v] w fun e w' => e = .returned (.bool true) ∧ QMach w' a hb b o inp { s with en := 6 } st ∧ w.grownBy w' (some a) := by
  have HM := hd (h.en1 (e := 6) (by decide) (by decide))
  have c1 := h.cout
  have c2 := h.cen
  have f2 := h.free 27
  have hmx := h.ok.out1
  have ho := h.out.2
  obtain ⟨n, hn⟩ : ∃ n, s.out.length = n := ⟨_, rfl⟩
  rw [hn] at ho hf hmx
  clear h hn
  rcases ho with ⟨rfl, h0⟩ | ⟨g, cap, cur, rfl, _⟩
  · omega
  · have i1 : ((n : Int) == 4096) = true := by simp; omega
    clear hf hmx
    go_enter Tryz.func65, Tryz.ntmps65
    go_wp2
    go_ret
    exact ⟨rfl, HM.out, grown_set _ _ _ _⟩
set_option maxHeartbeats 1000000 in
theorem qput_room (h : QMach w a hb b o inp s st) (y : Int) (hy : W32 y) (v : Bool) (hf : s.out.length < 4096) :
    Calls Tryz.prog 65 #[ptr a, wd 4294967240, wd y, .bool v] w fun e w' => e = .returned (.bool true) ∧ ∃ o', QMach w' a hb b o' inp { s with out := s.out ++ [y % 256] } st ∧ Chg (fp a b o) w w' ∧ Nw w o o' := by
  obtain ⟨i0, hi, hz0, hz1, hz2⟩ := info_parts Tryz.info8
  have HM := hd h
  have c1 := h.cout
  have f1 := h.free 24
  have hlt := h.lt
  have hown := h.out
  have hao : ∀ k, o.ownBlock = some k → a ≠ k := fun k hk => h.ne_ao hk
  have h11 : 11 ≤ w.heap.size := by have := h.lo.1; omega
  obtain ⟨n, hn⟩ : ∃ n, s.out.length = n := ⟨_, rfl⟩
  have HN := hd hn
  rw [hn] at hf hown
  obtain ⟨m, cp, ho⟩ : ∃ (ao : Option Addr) (cp : Nat), o = .slice ao n cp := by
    rcases hown.2 with ⟨ho, h0⟩ | ⟨g, cap, cur, ho, _⟩
    · exact ⟨none, 0, by rw [ho, h0]⟩
    · exact ⟨_, _, ho⟩
  clear h hn
  subst ho
  have HO := hd (hown.alloc (.cells #[b8 (y % 256)] 5))
  have i1 : ((n : Int) == 4096) = false := by simp; omega
  have HF := hd hf
  have H11 := hd h11
  obtain ⟨y0, y1⟩ := hy
  have q0 : 0 ≤ y % 256 ∧ y % 256 < 256 := by omega
  have HQ := hd q0
  clear hown hf h11 q0
  go_enter Tryz.func65, Tryz.ntmps65
  go_wp2_with (at_builtin; refine wpList_append_own_at _ rfl _ _ 60 rfl 11 5 i0 (.int .u8 0) 1 1 Tryz.underlying60 hi hz0 hz1 hz2 rfl (by decide) _ _ _ rfl HO.out ⟨w.heap.size, 0, none⟩ 1 1 [b8 (y % 256)] rfl rfl (cell_one_new _ _ _) ?c2 ?c3 ?c4 ?c5 ?_)
  case c2 => first | rfl | (intro u hu; simp at hu; subst hu; rfl)
  case c3 => have := HF.out; unfold maxLen; omega
  case c4 => have := HF.out; omega
  case c5 => have := H11.out; simp; omega
  intro v' w1 hown' hgrow _ hat
  have HA := hd (HM.out.appended HQ.out (by rw [HN.out]; exact HF.out) hgrow (by rw [HN.out]; exact hown') (by simpa using hat))
  have hne : some a ≠ Value.ownBlock (.slice m n cp) := fun e => hao a e.symm rfl
  have c2 : w1.cell? ⟨a, 24, none⟩ = some (.slice m n cp) := hgrow.cell (a := ⟨a, 24, none⟩) ((World.grownBy_alloc w (.cells #[b8 (y % 256)] 5) none).cell (a := ⟨a, 24, none⟩) c1 (by simp)) hne
  have f2 : w1.frozen? ⟨a, 24, none⟩ = false := by
    rw [World.frozen?_of_block (w := w.alloc (.cells #[b8 (y % 256)] 5)) (hgrow.block a (by simp; omega) hne), World.frozen?_of_block (w := w) ((World.grownBy_alloc w (.cells #[b8 (y % 256)] 5) none).block a hlt (by simp))]; exact f1
  obtain ⟨g', cap', rfl⟩ : ∃ g' cap', v' = .slice (some ⟨g', 0, none⟩) (n + 1) cap' := by
    rcases hown'.2 with ⟨_, h0⟩ | ⟨g', cap', cur', e, _⟩
    · omega
    · exact ⟨g', cap', e⟩
  clear hown' hgrow hat HO hne hao c1 f1 i1 hlt HM
  go_wp2
  go_ret
  exact ⟨rfl, _, HA.out⟩
/- Is there a place to store to? What is stored, if so. -/
def stB (s : Ms) (p : Int) (v : Bool) : Bool := if p = 4294967240 ∨ p = 4294967236 ∨ p = 4294967232 then true else if v = true then thB s.xs p else beB s.xs p
def put2 (s : Ms) (p y : Int) (v : Bool) : Ms := if stB s p v = true then s.store p y v else s
theorem put2_end {p y : Int} {v : Bool} (h : stB s p v = false) : s.store p y v = { s with en := 5 } ∧ put2 s p y v = s := by
  refine ⟨?_, by simp [put2, h]⟩
  unfold stB at h
  split at h
  · cases h
  · rename_i n
    simp only [not_or] at n
    unfold Ms.store
    rw [if_neg n.1, if_neg n.2.1, if_neg n.2.2]
    cases v
    · simp only [Bool.false_eq_true, if_false] at h ⊢; simp [h]
    · simp only [if_true] at h ⊢; simp [h]
set_option maxHeartbeats 1000000 in
theorem qstore_any (h : QMach w a hb b o inp s st) (p y : Int) (hp : W32 p) (hy : W32 y) (v : Bool) :
    Calls Tryz.prog 65 #[ptr a, wd p, wd y, .bool v] w fun e w' => e = .returned (.bool (stB s p v)) ∧ ∃ o', QMach w' a hb b o' inp (put2 s p y v) st ∧ Chg (fp a b o) w w' ∧ Nw w o o' := by
  by_cases h0 : p = 4294967240
  · subst h0
    have e1 : stB s 4294967240 v = true := by simp [stB]
    have e2 : put2 s 4294967240 y v = s.put (y % 256) := by simp [put2, e1, Ms.store]
    rw [e1, e2]
    unfold Ms.put
    by_cases hf : 4096 ≤ s.out.length
    · rw [if_pos hf]
      exact (qput_full h y v hf).mono fun e w' ⟨he, hm, hg⟩ => ⟨he, o, hm, Chg.one hg (by simp [fp]), Nw.refl _ _⟩
    · rw [if_neg hf]
      exact qput_room h y hy v (by omega)
  have HM := hd h
  have c1 := h.cmem
  have c2 := h.cen
  have c3 := h.ctr
  have f2 := h.free 27
  have f3 := h.free 28
  have HO := hd h.ob
  clear h
  obtain ⟨p0, p1⟩ := hp
  have HY := hd hy
  obtain ⟨y0, y1⟩ := hy
  have e0 : (p == 4294967240) = false := by simpa using h0
  by_cases h1 : p = 4294967236
  · subst h1
    have hs1 : stB s 4294967236 v = true := by simp [stB]
    have hs : put2 s 4294967236 y v = { s with en := 2, tr := wrap32 y } := by simp [put2, hs1, Ms.store]
    rw [hs1, hs]
    clear hs hs1
    have HT := hd (HM.out.entr (e := 2) (by decide) (by decide) (wrap32_lt y))
    go_enter Tryz.func65, Tryz.ntmps65
    go_wp2_with (go_at_call 93; refine (rsigned_any _ _ y0 y1).mono ?_; rintro e w' ⟨rfl, rfl⟩)
    go_ret
    exact ⟨rfl, o, HT.out, Chg.one (grown_set2 _ _ _ _ _ _) (by simp [fp]), Nw.refl _ _⟩
  have e1 : (p == 4294967236) = false := by simpa using h1
  by_cases h2 : p = 4294967232
  · subst h2
    have hs1 : stB s 4294967232 v = true := by simp [stB]
    have hs : put2 s 4294967232 y v = { s with en := 1 } := by simp [put2, hs1, Ms.store]
    rw [hs1, hs]
    clear hs hs1
    have HT := hd (HM.out.en1 (e := 1) (by decide) (by decide))
    go_enter Tryz.func65, Tryz.ntmps65
    go_wp2
    go_ret
    exact ⟨rfl, o, HT.out, Chg.one (grown_set _ _ _ _) (by simp [fp]), Nw.refl _ _⟩
  have e2 : (p == 4294967232) = false := by simpa using h2
  cases v
  · have HB : Hid (beB s.xs p = stB s p false) := hd (by simp [stB, h0, h1, h2])
    have HS : Hid (put2 s p y false = { s with xs := stL s.xs p y }) := hd (by
      cases hbb : beB s.xs p
      · rw [(put2_end (y := y) (by rw [← HB.out]; exact hbb)).2, stL_no hbb]
      · simp [put2, ← HB.out, hbb, Ms.store, h0, h1, h2])
    clear h0 h1 h2
    rw [HS.out, ← HB.out]
    go_enter Tryz.func65, Tryz.ntmps65
    go_wp2_with (go_at_call 100; refine (rstore_ob HO.out _ _ p0 p1 y0 y1).mono ?_; rintro e w' ⟨rfl, hg, ho⟩; have HX := hd (HM.out.memset hg ho (by rw [c_len_st]; exact HM.out.ok.xs1) (stL_r HM.out.ok.xr p HY.out)); have HG := hd hg; clear hg ho)
    go_ret
    exact ⟨rfl, o, HX.out, Chg.one HG.out (by simp [fp]), Nw.refl _ _⟩
  · have HB : Hid (thB s.xs p = stB s p true) := hd (by simp [stB, h0, h1, h2])
    have HS : Hid (put2 s p y true = { s with xs := pbL s.xs p y }) := hd (by
      cases hbb : thB s.xs p
      · rw [(put2_end (y := y) (by rw [← HB.out]; exact hbb)).2, pbL_no hbb]
      · simp [put2, ← HB.out, hbb, Ms.store, h0, h1, h2])
    clear h0 h1 h2
    rw [HS.out, ← HB.out]
    go_enter Tryz.func65, Tryz.ntmps65
    go_wp2_with (go_at_call 99; refine (rputb_ob HO.out _ _ p0 p1 y0 y1).mono ?_; rintro e w' ⟨rfl, hg, ho⟩; have HX := hd (HM.out.memset hg ho (by rw [c_len_pb]; exact HM.out.ok.xs1) (pbL_r HM.out.ok.xr p y)); have HG := hd hg; clear hg ho)
    go_ret
    exact ⟨rfl, o, HX.out, Chg.one HG.out (by simp [fp]), Nw.refl _ _⟩
end
end Go.Proofs.YtjneaphlghfbhaaGreatDoor.Qpu
namespace Go.Proofs.YtjneaphlghfbhaaGreatDoor.Qpu
open Go.RowKit Go.Proofs.YtjneaphlghfbhaaGreatDoor.Bits Go.Proofs.YtjneaphlghfbhaaGreatDoor.Gw Go.Proofs.YtjneaphlghfbhaaGreatDoor.Risc Go.Proofs.YtjneaphlghfbhaaGreatDoor.Alu Go.Proofs.YtjneaphlghfbhaaGreatDoor.Mem Go.Proofs.YtjneaphlghfbhaaGreatDoor.Cpu
set_option linter.unusedVariables false
set_option maxRecDepth 100000

section
variable {w : World} {a hb b : Nat} {o : Value} {inp : ByteArray} {s : Ms} {st : Nat}
theorem from_gq {W w' : World} {o' : Value} {s' : Ms} (g : G w W) (h : QMach w' a hb b o' inp s' st ∧ Chg (fp a b o) W w' ∧ Nw W o o') : QMach w' a hb b o' inp s' st ∧ Chg (fp a b o) w w' ∧ Nw w o o' :=
  ⟨h.1, Chg.trans0 (Chg.g g) h.2.1, h.2.2.back g.size⟩
set_option maxHeartbeats 1000000 in
theorem qmem_store (h : QMach w a hb b o inp s st) (v : Bool) (ka kb : Nat) (x op im : Int) (hka : ka < 16) (hkb : kb < 16) :
    Calls Tryz.prog 40 #[ptr a, ins 2 true v ka kb x op im] w fun e w' => e = .returned unit ∧ ∃ o', QMach w' a hb b o' inp (s.access inp true v ka kb im) st ∧ Chg (fp a b o) w w' ∧ Nw w o o' := by
  have HM := hd h
  have hlt := h.lt
  have c1 := h.reg hkb
  have c2 := h.reg hka
  obtain ⟨X, hX⟩ : ∃ X, at0 s.R kb = X := ⟨_, rfl⟩
  obtain ⟨Y, hY⟩ : ∃ Y, at0 s.R ka = Y := ⟨_, rfl⟩
  obtain ⟨P, hP⟩ : ∃ P, (X + im) % 4294967296 = P := ⟨_, rfl⟩
  have HS : Hid (s.access inp true v ka kb im = s.store P Y v) := hd (by simp [Ms.access, plI, hX, hY, hP])
  have HP : Hid (W32 P) := hd (by rw [← hP]; exact W32.mod _)
  have HY : Hid (W32 Y) := hd (by rw [← hY]; exact h.ok.reg ka)
  have hP' := pl_eq hP
  rw [hX] at c1
  rw [hY] at c2
  rw [HS.out]
  have ia0 : (0 : Int) ≤ (ka : Int) := by omega
  have ia1 : (ka : Int) < 16 := by omega
  have ib0 : (0 : Int) ≤ (kb : Int) := by omega
  have ib1 : (kb : Int) < 16 := by omega
  clear h hX hY hP
  cases hB : stB s P v
  all_goals
    have HB := hd hB
    clear hB
    go_enter Tryz.func40, Tryz.ntmps40
    go_wp2
    go_quiet ((go_at_call 30; exact Calls.quiet_of_same (rword_any _ _)))
    go_wp2
    have g1 : G w ((w.alloc (Obj.cells #[Value.int IntKind.i64 2, Value.bool true, Value.bool v, Value.int IntKind.i64 ↑ka, Value.int IntKind.i64 ↑kb, Value.int IntKind.i64 x, Value.int IntKind.i64 op, Value.int IntKind.i64 im] 46)).drewN nq) := ((G.refl w).alloc _ _).drewN _
    have b2 : ((w.alloc (Obj.cells #[Value.int IntKind.i64 2, Value.bool true, Value.bool v, Value.int IntKind.i64 ↑ka, Value.int IntKind.i64 ↑kb, Value.int IntKind.i64 x, Value.int IntKind.i64 op, Value.int IntKind.i64 im] 46)).drewN nq).cell? ⟨w.heap.size, 2, none⟩ = some (.bool v) := by simp
    have b3 : ((w.alloc (Obj.cells #[Value.int IntKind.i64 2, Value.bool true, Value.bool v, Value.int IntKind.i64 ↑ka, Value.int IntKind.i64 ↑kb, Value.int IntKind.i64 x, Value.int IntKind.i64 op, Value.int IntKind.i64 im] 46)).drewN nq).cell? ⟨w.heap.size, 3, none⟩ = some (.int .i64 ka) := by simp
    replace c2 := (g1.cell (a := ⟨a, ka, none⟩) hlt).trans c2
    generalize (w.alloc (Obj.cells #[Value.int IntKind.i64 2, Value.bool true, Value.bool v, Value.int IntKind.i64 ↑ka, Value.int IntKind.i64 ↑kb, Value.int IntKind.i64 x, Value.int IntKind.i64 op, Value.int IntKind.i64 im] 46)).drewN nq = W at g1 b2 b3 c2 ⊢
    have HG := hd g1
    clear g1
    refine region_tail 11 (by kernel_rfl) (by kernel_rfl) ?_
    simp only [List.take_succ_cons, List.take_zero, List.drop_succ_cons, List.drop_zero]
    repeat (first | still_step)
    refine wpStill_nil ?_
  · go_wp2_with (go_at_call 65; refine (qstore_any (HM.out.g HG.out.drew) _ _ HP.out HY.out v).mono ?_; rw [HB.out]; rintro e w' ⟨rfl, o', hm⟩; have HN := hd (from_gq HG.out.drew hm); have c4 := hm.1.cen; have f4 := hm.1.free 27; clear hm)
    refine bodyPost_ret (results_none rfl _ _ _) rfl ?_
    obtain ⟨n1, n2, n3⟩ := HN.out
    refine ⟨rfl, _, ?_, Chg.trans0 n2 (Chg.one (grown_set _ _ _ _) (by simp [fp])), n3⟩
    have := n1.en1 (e := 5) (by decide) (by decide)
    rw [(put2_end (y := Y) HB.out).2] at this
    rw [(put2_end (y := Y) HB.out).1]
    exact this
  · go_wp2_with (go_at_call 65; refine (qstore_any (HM.out.g HG.out.drew) _ _ HP.out HY.out v).mono ?_; rw [HB.out]; rintro e w' ⟨rfl, o', hm⟩; have HN := hd (from_gq HG.out.drew hm); clear hm)
    refine bodyPost_ret (results_none rfl _ _ _) rfl ?_
    have := HN.out
    unfold put2 at this
    rw [if_pos HB.out] at this
    exact ⟨rfl, _, this⟩
set_option maxHeartbeats 1000000 in
theorem qmem_load (h : QMach w a hb b o inp s st) (v : Bool) (ka kb : Nat) (x op im : Int) (hka : ka < 16) (hkb : kb < 16) :
    Calls Tryz.prog 40 #[ptr a, ins 2 false v ka kb x op im] w fun e w' => e = .returned unit ∧ QMach w' a hb b o inp (s.access inp false v ka kb im) st ∧ w.grownBy w' (some a) := by
  have HM := hd h
  have hlt := h.lt
  have c1 := h.reg hkb
  obtain ⟨X, hX⟩ : ∃ X, at0 s.R kb = X := ⟨_, rfl⟩
  obtain ⟨P, hP⟩ : ∃ P, (X + im) % 4294967296 = P := ⟨_, rfl⟩
  have HS : Hid (s.access inp false v ka kb im = s.load inp ka P v) := hd (by simp [Ms.access, plI, hX, hP])
  have HP : Hid (W32 P) := hd (by rw [← hP]; exact W32.mod _)
  have hP' := pl_eq hP
  obtain ⟨V, hV⟩ : ∃ V, ldV inp s P v = V := ⟨_, rfl⟩
  have HV := hd hV
  have HW : Hid (W32 V) := hd (by rw [← hV]; exact ldV_bd h.ok P v)
  rw [hX] at c1
  rw [HS.out]
  have ib0 : (0 : Int) ≤ (kb : Int) := by omega
  have ib1 : (kb : Int) < 16 := by omega
  clear h hX hP hV
  cases hB : ldB s P v
  all_goals
    have HB := hd hB
    have HL : Hid (s.load inp ka P v = _) := hd (by unfold Ms.load; rw [hB, HV.out])
    rw [HL.out]
    clear hB
    go_enter Tryz.func40, Tryz.ntmps40
    go_wp2
    go_quiet ((go_at_call 30; exact Calls.quiet_of_same (rword_any _ _)))
    go_upto_region 5 with fail
    have g1 : G w ((w.alloc (Obj.cells #[Value.int IntKind.i64 2, Value.bool false, Value.bool v, Value.int IntKind.i64 ↑ka, Value.int IntKind.i64 ↑kb, Value.int IntKind.i64 x, Value.int IntKind.i64 op, Value.int IntKind.i64 im] 46)).drewN nq) := ((G.refl w).alloc _ _).drewN _
    have b2 : ((w.alloc (Obj.cells #[Value.int IntKind.i64 2, Value.bool false, Value.bool v, Value.int IntKind.i64 ↑ka, Value.int IntKind.i64 ↑kb, Value.int IntKind.i64 x, Value.int IntKind.i64 op, Value.int IntKind.i64 im] 46)).drewN nq).cell? ⟨w.heap.size, 2, none⟩ = some (.bool v) := by simp
    have b3 : ((w.alloc (Obj.cells #[Value.int IntKind.i64 2, Value.bool false, Value.bool v, Value.int IntKind.i64 ↑ka, Value.int IntKind.i64 ↑kb, Value.int IntKind.i64 x, Value.int IntKind.i64 op, Value.int IntKind.i64 im] 46)).drewN nq).cell? ⟨w.heap.size, 3, none⟩ = some (.int .i64 ka) := by simp
    generalize (w.alloc (Obj.cells #[Value.int IntKind.i64 2, Value.bool false, Value.bool v, Value.int IntKind.i64 ↑ka, Value.int IntKind.i64 ↑kb, Value.int IntKind.i64 x, Value.int IntKind.i64 op, Value.int IntKind.i64 im] 46)).drewN nq = W at g1 b2 b3 ⊢
    have HG := hd g1
    have nx : some w.heap.size ≠ some a := by simp; omega
    clear g1
  · go_wp2_with (go_at_call 66; refine (qload_any (HM.out.g HG.out) _ HP.out v).mono ?_; rw [HV.out, HB.out]; rintro e w' ⟨rfl, hm, hg⟩; have c4 := hm.cen; have f4 := hm.free 27; have HX := hd (hm.en1 (e := 5) (by decide) (by decide)); have HH := hd hg; clear hm hg)
    refine bodyPost_ret (results_none rfl _ _ _) rfl ?_
    exact ⟨rfl, HX.out.same (by rw [ldR_of_no HB.out]), grown_trans (grown_trans (grown_g HG.out _) HH.out) (grown_set _ _ _ _)⟩
  · go_wp2_with (first
      | (go_at_call 66; refine (qload_any (HM.out.g HG.out) _ HP.out v).mono ?_; rw [HV.out, HB.out]; rintro e w' ⟨rfl, hm, hg⟩; replace b3 := hg.cell b3 nx; have HX := hd hm; have HH := hd hg; clear hm hg)
      | (go_at_call 63; refine (qset_any HX.out _ hka _ HW.out).mono ?_; rintro e w2 ⟨rfl, hm, hg⟩; have HX2 := hd hm; have HH2 := hd hg; clear hm hg))
    go_end0
    exact ⟨rfl, HX2.out, grown_trans (grown_trans (grown_g HG.out _) HH.out) HH2.out⟩
theorem qmem_any (h : QMach w a hb b o inp s st) (u v : Bool) (ka kb : Nat) (x op im : Int) (hka : ka < 16) (hkb : kb < 16) :
    Calls Tryz.prog 40 #[ptr a, ins 2 u v ka kb x op im] w fun e w' => e = .returned unit ∧ ∃ o', QMach w' a hb b o' inp (s.access inp u v ka kb im) st ∧ Chg (fp a b o) w w' ∧ Nw w o o' := by
  cases u
  · exact (qmem_load h v ka kb x op im hka hkb).mono fun e w' ⟨he, hm, hg⟩ => ⟨he, o, hm, Chg.one hg (by simp [fp]), Nw.refl _ _⟩
  · exact qmem_store h v ka kb x op im hka hkb
end
end Go.Proofs.YtjneaphlghfbhaaGreatDoor.Qpu
namespace Go.Proofs.YtjneaphlghfbhaaGreatDoor.Qpu
open Go.RowKit Go.Proofs.YtjneaphlghfbhaaGreatDoor.Bits Go.Proofs.YtjneaphlghfbhaaGreatDoor.Gw Go.Proofs.YtjneaphlghfbhaaGreatDoor.Risc Go.Proofs.YtjneaphlghfbhaaGreatDoor.Alu Go.Proofs.YtjneaphlghfbhaaGreatDoor.Mem Go.Proofs.YtjneaphlghfbhaaGreatDoor.Cpu
set_option linter.unusedVariables false
set_option maxRecDepth 100000

section
variable {w : World} {a hb b : Nat} {o : Value} {inp : ByteArray} {s : Ms} {st : Nat}
set_option maxHeartbeats 1000000 in
theorem qjump_no (h : QMach w a hb b o inp s st) (u v : Bool) (ka : Nat) (hka : ka < 16) (y : Int) (kc : Nat) (hkc : kc < 16) (op im : Int) (hh : holdsB ka s.n s.z s.c s.v = false) :
    Calls Tryz.prog 41 #[ptr a, ins 3 u v ka y kc op im] w fun e w' => e = .returned unit ∧ QMach w' a hb b o inp s st ∧ G w w' := by
  have HM := hd h
  have HH := hd hh
  clear h hh
  (go_enter Tryz.func41, Tryz.ntmps41; go_upto_region 1 with fail; have HBx := hd (bx_new w 3 u v ka y kc op im); have HG := hd ((G.refl w).alloc #[Value.int IntKind.i64 3, Value.bool u, Value.bool v, Value.int IntKind.i64 ↑ka, Value.int IntKind.i64 y, Value.int IntKind.i64 ↑kc, Value.int IntKind.i64 op, Value.int IntKind.i64 im] 46); have nx : ¬ w.heap.size = a := (by have := HM.out.lt; omega); generalize w.alloc (Obj.cells #[Value.int IntKind.i64 3, Value.bool u, Value.bool v, Value.int IntKind.i64 ↑ka, Value.int IntKind.i64 y, Value.int IntKind.i64 ↑kc, Value.int IntKind.i64 op, Value.int IntKind.i64 im] 46) = W at HBx HG ⊢; generalize w.heap.size = X at HBx nx ⊢; have HMW := hd (HM.out.g HG.out); have b3 := HBx.out.b3; have c17 := HMW.out.cn; have c18 := HMW.out.cz; have c19 := HMW.out.cc; have c20 := HMW.out.cv; refine region_tail 6 (by kernel_rfl) (by kernel_rfl) ?_; simp only [List.take_succ_cons, List.take_zero, List.drop_succ_cons, List.drop_zero]; (repeat (first | still_step)); refine wpStill_nil ?_)
  go_wp2_with (go_at_call 67; refine (rholds_any _ _ _ _ _ _ (by omega) (by omega)).mono ?_; rw [HH.out]; rintro e w2 ⟨rfl, hg⟩; have HG2 := hd (G.trans (G.drew HG.out) hg); have HM2 := hd (HM.out.g HG2.out); have HB2 := hd (HBx.out.g (G.trans (G.drew (G.refl _)) hg)); have d21 := HM2.out.cpc; have d5 := HB2.out.b5; have d1 := HB2.out.b1; have d2 := HB2.out.b2; have d7 := HB2.out.b7; have f21 := HM2.out.free 21; have dk := HM2.out.reg hkc; clear hg)
  refine bodyPost_ret (results_none rfl _ _ _) rfl ?_
  exact ⟨rfl, HM2.out, HG2.out⟩
theorem wrap64_id {x : Int} (h0 : -9223372036854775808 ≤ x) (h1 : x ≤ 9223372036854775807) : wrap64 x = x := by unfold wrap64; omega
theorem tgE {p im : Int} (p0 : 0 ≤ p) (p1 : p < 1073741824) (i0 : -8388608 ≤ im) (i1 : im ≤ 8388607) : (wrap64 ((p + im).tmod 1073741824 + 1073741824)).tmod 1073741824 = (p + im) % 1073741824 := by
  rw [tmod_is (p + im)]
  split
  · rw [wrap64_id (by omega) (by omega), tmod_is, if_pos (by omega)]; omega
  · rw [wrap64_id (by omega) (by omega), tmod_is, if_pos (by omega)]; omega
theorem from_setq {W w' : World} {o : Value} {s' : Ms} (g : G w W) (k : W.grownBy w' (some a)) (h : QMach w' a hb b o inp s' st) : ∃ o', QMach w' a hb b o' inp s' st ∧ Chg (fp a b o) w w' ∧ Nw w o o' :=
  ⟨o, h, Chg.trans0 (Chg.g g) (Chg.one k (by simp [fp])), Nw.refl _ _⟩
set_option maxHeartbeats 1000000 in
theorem qjump_yes (h : QMach w a hb b o inp s st) (u v : Bool) (ka : Nat) (hka : ka < 16) (y : Int) (kc : Nat) (op im : Int) (hkc : kc < 16) (i0 : -8388608 ≤ im) (i1 : im ≤ 8388607) (hh : holdsB ka s.n s.z s.c s.v = true) :
    Calls Tryz.prog 41 #[ptr a, ins 3 u v ka y kc op im] w fun e w' => e = .returned unit ∧ ∃ o', QMach w' a hb b o' inp { s with pc := s.target u kc im, R := if v = true then s.R.set 15 (s.pc * 4 % 4294967296) else s.R } st ∧ Chg (fp a b o) w w' ∧ Nw w o o' := by
  have HM := hd h
  have HH := hd hh
  have HTB := hd (target_bd h.ok u kc im)
  have p0 := h.ok.pc0
  have p1 := h.ok.pc1
  have ic0 : (0 : Int) ≤ (kc : Int) := by omega
  have ic1 : (kc : Int) < 16 := by omega
  have HTg : Hid True := hd trivial
  have HCm : Hid (s.pc * 4 = 4 * s.pc) := hd (Int.mul_comm _ _)
  clear h hh
  cases u
  · have HT : Hid (s.target false kc im = at0 s.R kc / 4) := hd rfl
    have HK := hd (HM.out.ok.reg kc)
    obtain ⟨K, hK⟩ : ∃ K, at0 s.R kc = K := ⟨_, rfl⟩
    have HKe := hd hK
    rw [hK] at HK HT
    obtain ⟨k0, k1⟩ := HK.out
    rw [HT.out] at HTB ⊢
    clear hK
    (cases v with | false => ((go_enter Tryz.func41, Tryz.ntmps41; go_upto_region 1 with fail; have HBx := hd (bx_new w 3 false false ka y kc op im); have HG := hd ((G.refl w).alloc #[Value.int IntKind.i64 3, Value.bool false, Value.bool false, Value.int IntKind.i64 ↑ka, Value.int IntKind.i64 y, Value.int IntKind.i64 ↑kc, Value.int IntKind.i64 op, Value.int IntKind.i64 im] 46); have nx : ¬ w.heap.size = a := (by have := HM.out.lt; omega); generalize w.alloc (Obj.cells #[Value.int IntKind.i64 3, Value.bool false, Value.bool false, Value.int IntKind.i64 ↑ka, Value.int IntKind.i64 y, Value.int IntKind.i64 ↑kc, Value.int IntKind.i64 op, Value.int IntKind.i64 im] 46) = W at HBx HG ⊢; generalize w.heap.size = X at HBx nx ⊢; have HMW := hd (HM.out.g HG.out); have b3 := HBx.out.b3; have c17 := HMW.out.cn; have c18 := HMW.out.cz; have c19 := HMW.out.cc; have c20 := HMW.out.cv; refine region_tail 6 (by kernel_rfl) (by kernel_rfl) ?_; simp only [List.take_succ_cons, List.take_zero, List.drop_succ_cons, List.drop_zero]; (repeat (first | still_step)); refine wpStill_nil ?_); go_upto_region 5 with (go_at_call 67; refine (rholds_any _ _ _ _ _ _ (by omega) (by omega)).mono ?_; rw [HH.out]; rintro e w2 ⟨rfl, hg⟩; have HG2 := hd (G.trans (G.drew HG.out) hg); have HM2 := hd (HM.out.g HG2.out); have HB2 := hd (HBx.out.g (G.trans (G.drew (G.refl _)) hg)); have d21 := HM2.out.cpc; have d5 := HB2.out.b5; have d1 := HB2.out.b1; have d2 := HB2.out.b2; have d7 := HB2.out.b7; have f21 := HM2.out.free 21; have dk := HM2.out.reg hkc; clear hg); rw [HKe.out] at dk; (refine region_tail 12 (by kernel_rfl) (by kernel_rfl) ?_; simp only [List.take_succ_cons, List.take_zero, List.drop_succ_cons, List.drop_zero]; (repeat (first | still_step | still_call (rword_any _ _))); refine wpStill_nil ?_); go_wp2; go_end0; refine ⟨rfl, from_setq HG2.out (grown_drew (grown_set _ _ _ _)) ?_⟩; (try rw [HTg.out]); exact (HM2.out.pc1 HTB.out.1 HTB.out.2).g ((G.refl _).drew)) | true => ((go_enter Tryz.func41, Tryz.ntmps41; go_upto_region 1 with fail; have HBx := hd (bx_new w 3 false true ka y kc op im); have HG := hd ((G.refl w).alloc #[Value.int IntKind.i64 3, Value.bool false, Value.bool true, Value.int IntKind.i64 ↑ka, Value.int IntKind.i64 y, Value.int IntKind.i64 ↑kc, Value.int IntKind.i64 op, Value.int IntKind.i64 im] 46); have nx : ¬ w.heap.size = a := (by have := HM.out.lt; omega); generalize w.alloc (Obj.cells #[Value.int IntKind.i64 3, Value.bool false, Value.bool true, Value.int IntKind.i64 ↑ka, Value.int IntKind.i64 y, Value.int IntKind.i64 ↑kc, Value.int IntKind.i64 op, Value.int IntKind.i64 im] 46) = W at HBx HG ⊢; generalize w.heap.size = X at HBx nx ⊢; have HMW := hd (HM.out.g HG.out); have b3 := HBx.out.b3; have c17 := HMW.out.cn; have c18 := HMW.out.cz; have c19 := HMW.out.cc; have c20 := HMW.out.cv; refine region_tail 6 (by kernel_rfl) (by kernel_rfl) ?_; simp only [List.take_succ_cons, List.take_zero, List.drop_succ_cons, List.drop_zero]; (repeat (first | still_step)); refine wpStill_nil ?_); go_upto_region 5 with (go_at_call 67; refine (rholds_any _ _ _ _ _ _ (by omega) (by omega)).mono ?_; rw [HH.out]; rintro e w2 ⟨rfl, hg⟩; have HG2 := hd (G.trans (G.drew HG.out) hg); have HM2 := hd (HM.out.g HG2.out); have HB2 := hd (HBx.out.g (G.trans (G.drew (G.refl _)) hg)); have d21 := HM2.out.cpc; have d5 := HB2.out.b5; have d1 := HB2.out.b1; have d2 := HB2.out.b2; have d7 := HB2.out.b7; have f21 := HM2.out.free 21; have dk := HM2.out.reg hkc; clear hg); rw [HKe.out] at dk; (refine region_tail 12 (by kernel_rfl) (by kernel_rfl) ?_; simp only [List.take_succ_cons, List.take_zero, List.drop_succ_cons, List.drop_zero]; (repeat (first | still_step | still_call (rword_any _ _))); refine wpStill_nil ?_); go_wp2; (try rw [HTg.out]); have HM3 := hd ((HM2.out.pc1 HTB.out.1 HTB.out.2).g ((G.refl _).drew)); have HG3 := hd (grown_drew (grown_set w2 a 21 (.int .i64 (K / 4)))); generalize (w2.setCell ⟨a, 21, none⟩ (.int .i64 (K / 4))).drew = WS at HM3 HG3 ⊢; have c15 := HM3.out.reg (show 15 < 16 by decide); have f15 := HM3.out.free 15; (refine region_tail 7 (by kernel_rfl) (by kernel_rfl) ?_; simp only [List.take_succ_cons, List.take_zero, List.drop_succ_cons, List.drop_zero]; (repeat (first | still_step | still_call (rword_any _ _))); refine wpStill_nil ?_); go_wp2; go_end0; refine ⟨rfl, from_setq HG2.out (grown_trans HG3.out (by first | exact grown_set _ _ _ _ | exact grown_drew (grown_set _ _ _ _))) ?_⟩; rw [HCm.out]; first | exact HM3.out.regset (by decide) (W32.mod _) | exact (HM3.out.regset (by decide) (W32.mod _)).g ((G.refl _).drew) | exact (HM3.out.g ((G.refl _).drew)).regset (by decide) (W32.mod _)))
  · have HT : Hid (s.target true kc im = (s.pc + im) % 1073741824) := hd rfl
    obtain ⟨K, hK⟩ : ∃ K, at0 s.R kc = K := ⟨_, rfl⟩
    have HKe := hd hK
    obtain ⟨T, hT⟩ : ∃ T, (s.pc + im) % 1073741824 = T := ⟨_, rfl⟩
    have HTg : Hid ((wrap64 ((s.pc + im).tmod 1073741824 + 1073741824)).tmod 1073741824 = T) := hd (by rw [← hT]; exact tgE p0 p1 i0 i1)
    rw [HT.out, hT] at HTB ⊢
    clear hK hT
    (cases v with | false => ((go_enter Tryz.func41, Tryz.ntmps41; go_upto_region 1 with fail; have HBx := hd (bx_new w 3 true false ka y kc op im); have HG := hd ((G.refl w).alloc #[Value.int IntKind.i64 3, Value.bool true, Value.bool false, Value.int IntKind.i64 ↑ka, Value.int IntKind.i64 y, Value.int IntKind.i64 ↑kc, Value.int IntKind.i64 op, Value.int IntKind.i64 im] 46); have nx : ¬ w.heap.size = a := (by have := HM.out.lt; omega); generalize w.alloc (Obj.cells #[Value.int IntKind.i64 3, Value.bool true, Value.bool false, Value.int IntKind.i64 ↑ka, Value.int IntKind.i64 y, Value.int IntKind.i64 ↑kc, Value.int IntKind.i64 op, Value.int IntKind.i64 im] 46) = W at HBx HG ⊢; generalize w.heap.size = X at HBx nx ⊢; have HMW := hd (HM.out.g HG.out); have b3 := HBx.out.b3; have c17 := HMW.out.cn; have c18 := HMW.out.cz; have c19 := HMW.out.cc; have c20 := HMW.out.cv; refine region_tail 6 (by kernel_rfl) (by kernel_rfl) ?_; simp only [List.take_succ_cons, List.take_zero, List.drop_succ_cons, List.drop_zero]; (repeat (first | still_step)); refine wpStill_nil ?_); go_upto_region 4 with (go_at_call 67; refine (rholds_any _ _ _ _ _ _ (by omega) (by omega)).mono ?_; rw [HH.out]; rintro e w2 ⟨rfl, hg⟩; have HG2 := hd (G.trans (G.drew HG.out) hg); have HM2 := hd (HM.out.g HG2.out); have HB2 := hd (HBx.out.g (G.trans (G.drew (G.refl _)) hg)); have d21 := HM2.out.cpc; have d5 := HB2.out.b5; have d1 := HB2.out.b1; have d2 := HB2.out.b2; have d7 := HB2.out.b7; have f21 := HM2.out.free 21; have dk := HM2.out.reg hkc; clear hg); rw [HKe.out] at dk; (refine region_tail 13 (by kernel_rfl) (by kernel_rfl) ?_; simp only [List.take_succ_cons, List.take_zero, List.drop_succ_cons, List.drop_zero]; (repeat (first | still_step | still_call (rword_any _ _))); refine wpStill_nil ?_); go_wp2; go_end0; refine ⟨rfl, from_setq HG2.out (grown_drew (grown_set _ _ _ _)) ?_⟩; (try rw [HTg.out]); exact (HM2.out.pc1 HTB.out.1 HTB.out.2).g ((G.refl _).drew)) | true => ((go_enter Tryz.func41, Tryz.ntmps41; go_upto_region 1 with fail; have HBx := hd (bx_new w 3 true true ka y kc op im); have HG := hd ((G.refl w).alloc #[Value.int IntKind.i64 3, Value.bool true, Value.bool true, Value.int IntKind.i64 ↑ka, Value.int IntKind.i64 y, Value.int IntKind.i64 ↑kc, Value.int IntKind.i64 op, Value.int IntKind.i64 im] 46); have nx : ¬ w.heap.size = a := (by have := HM.out.lt; omega); generalize w.alloc (Obj.cells #[Value.int IntKind.i64 3, Value.bool true, Value.bool true, Value.int IntKind.i64 ↑ka, Value.int IntKind.i64 y, Value.int IntKind.i64 ↑kc, Value.int IntKind.i64 op, Value.int IntKind.i64 im] 46) = W at HBx HG ⊢; generalize w.heap.size = X at HBx nx ⊢; have HMW := hd (HM.out.g HG.out); have b3 := HBx.out.b3; have c17 := HMW.out.cn; have c18 := HMW.out.cz; have c19 := HMW.out.cc; have c20 := HMW.out.cv; refine region_tail 6 (by kernel_rfl) (by kernel_rfl) ?_; simp only [List.take_succ_cons, List.take_zero, List.drop_succ_cons, List.drop_zero]; (repeat (first | still_step)); refine wpStill_nil ?_); go_upto_region 4 with (go_at_call 67; refine (rholds_any _ _ _ _ _ _ (by omega) (by omega)).mono ?_; rw [HH.out]; rintro e w2 ⟨rfl, hg⟩; have HG2 := hd (G.trans (G.drew HG.out) hg); have HM2 := hd (HM.out.g HG2.out); have HB2 := hd (HBx.out.g (G.trans (G.drew (G.refl _)) hg)); have d21 := HM2.out.cpc; have d5 := HB2.out.b5; have d1 := HB2.out.b1; have d2 := HB2.out.b2; have d7 := HB2.out.b7; have f21 := HM2.out.free 21; have dk := HM2.out.reg hkc; clear hg); rw [HKe.out] at dk; (refine region_tail 13 (by kernel_rfl) (by kernel_rfl) ?_; simp only [List.take_succ_cons, List.take_zero, List.drop_succ_cons, List.drop_zero]; (repeat (first | still_step | still_call (rword_any _ _))); refine wpStill_nil ?_); go_wp2; (try rw [HTg.out]); have HM3 := hd ((HM2.out.pc1 HTB.out.1 HTB.out.2).g ((G.refl _).drew)); have HG3 := hd (grown_drew (grown_set w2 a 21 (.int .i64 (T)))); generalize (w2.setCell ⟨a, 21, none⟩ (.int .i64 (T))).drew = WS at HM3 HG3 ⊢; have c15 := HM3.out.reg (show 15 < 16 by decide); have f15 := HM3.out.free 15; (refine region_tail 7 (by kernel_rfl) (by kernel_rfl) ?_; simp only [List.take_succ_cons, List.take_zero, List.drop_succ_cons, List.drop_zero]; (repeat (first | still_step | still_call (rword_any _ _))); refine wpStill_nil ?_); go_wp2; go_end0; refine ⟨rfl, from_setq HG2.out (grown_trans HG3.out (by first | exact grown_set _ _ _ _ | exact grown_drew (grown_set _ _ _ _))) ?_⟩; rw [HCm.out]; first | exact HM3.out.regset (by decide) (W32.mod _) | exact (HM3.out.regset (by decide) (W32.mod _)).g ((G.refl _).drew) | exact (HM3.out.g ((G.refl _).drew)).regset (by decide) (W32.mod _)))
end
end Go.Proofs.YtjneaphlghfbhaaGreatDoor.Qpu
namespace Go.Proofs.YtjneaphlghfbhaaGreatDoor.Qpu
open Go.RowKit Go.Proofs.YtjneaphlghfbhaaGreatDoor.Bits Go.Proofs.YtjneaphlghfbhaaGreatDoor.Gw Go.Proofs.YtjneaphlghfbhaaGreatDoor.Risc Go.Proofs.YtjneaphlghfbhaaGreatDoor.Alu Go.Proofs.YtjneaphlghfbhaaGreatDoor.Mem Go.Proofs.YtjneaphlghfbhaaGreatDoor.Cpu
set_option linter.unusedVariables false
set_option maxRecDepth 100000

section
variable {w : World} {a hb b : Nat} {o : Value} {inp : ByteArray} {s : Ms} {st : Nat}
theorem qset_is (h : QMach w a hb b o inp s st) (k : Nat) (hk : k < 16) (r : Int) (hr : W32 r) (x : Int) (hx : x = r) :
    Calls Tryz.prog 63 #[ptr a, .int .i64 k, wd x] w fun e w' => e = .returned unit ∧ QMach w' a hb b o inp (s.setBy k r) st ∧ w.grownBy w' (some a) := by
  subst hx; exact qset_any h k hk x hr
set_option maxHeartbeats 1000000 in
theorem qreg_a (h : QMach w a hb b o inp s st) (u v : Bool) (ka kb kc : Nat) (op im : Int) (hka : ka < 16) (hkc : kc < 16) (h0 : 0 ≤ im) (h1 : im ≤ 65535) (ho : op = 0) (hu : u = true) :
    Calls Tryz.prog 39 #[ptr a, ins 1 u v ka kb kc op im] w fun e w' => e = .returned unit ∧ QMach w' a hb b o inp (s.setBy ka (im * 65536)) st ∧ w.grownBy w' (some a) := by
  have HM := hd h
  have HW : Hid (W32 (im * 65536)) := hd ⟨by omega, by omega⟩
  have ia0 : (0 : Int) ≤ (kc : Int) := by omega
  have ia1 : (kc : Int) < 16 := by omega
  have HO := hd (And.intro ho hu)
  clear h ho hu
  cases v with
  | false =>
    (go_enter Tryz.func39, Tryz.ntmps39; go_upto_region 1 with fail; have HBx := hd (bx_new w 1 u false ka kb kc op im); have HG := hd ((G.refl w).alloc #[Value.int IntKind.i64 1, Value.bool u, Value.bool false, Value.int IntKind.i64 ↑ka, Value.int IntKind.i64 ↑kb, Value.int IntKind.i64 ↑kc, Value.int IntKind.i64 op, Value.int IntKind.i64 im] 46); have nx : ¬ w.heap.size = a := (by have := HM.out.lt; omega); generalize w.alloc (Obj.cells #[Value.int IntKind.i64 1, Value.bool u, Value.bool false, Value.int IntKind.i64 ↑ka, Value.int IntKind.i64 ↑kb, Value.int IntKind.i64 ↑kc, Value.int IntKind.i64 op, Value.int IntKind.i64 im] 46) = W0 at HBx HG ⊢; generalize w.heap.size = X at HBx nx ⊢; have HMW := hd (HM.out.g HG.out); have b5 := HBx.out.b5; have ck := HMW.out.reg hkc; go_quiet (fail); replace HG := hd (G.drewN HG.out nq); replace HBx := hd (HBx.out.g (G.drewN (G.refl _) nq)); generalize W0.drewN nq = W at HBx HG ⊢; replace HMW := hd (HM.out.g HG.out); clear b5; obtain ⟨b0, b1, b2, b3, b4, b5, b6, b7, _⟩ := HBx.out)
    obtain ⟨rfl, rfl⟩ := HO.out
    go_wp2_with (go_at_call 63; refine (qset_is HMW.out _ hka _ HW.out _ (by omega)).mono ?_; rintro e w2 ⟨rfl, hm, hg⟩; have HX2 := hd hm; have HH2 := hd hg; clear hm hg)
    refine bodyPost_ret (results_none rfl _ _ _) rfl ?_
    exact ⟨rfl, HX2.out, grown_trans (grown_g HG.out _) HH2.out⟩
  | true =>
    (go_enter Tryz.func39, Tryz.ntmps39; go_upto_region 1 with fail; have HBx := hd (bx_new w 1 u true ka kb kc op im); have HG := hd ((G.refl w).alloc #[Value.int IntKind.i64 1, Value.bool u, Value.bool true, Value.int IntKind.i64 ↑ka, Value.int IntKind.i64 ↑kb, Value.int IntKind.i64 ↑kc, Value.int IntKind.i64 op, Value.int IntKind.i64 im] 46); have nx : ¬ w.heap.size = a := (by have := HM.out.lt; omega); generalize w.alloc (Obj.cells #[Value.int IntKind.i64 1, Value.bool u, Value.bool true, Value.int IntKind.i64 ↑ka, Value.int IntKind.i64 ↑kb, Value.int IntKind.i64 ↑kc, Value.int IntKind.i64 op, Value.int IntKind.i64 im] 46) = W0 at HBx HG ⊢; generalize w.heap.size = X at HBx nx ⊢; have HMW := hd (HM.out.g HG.out); have b5 := HBx.out.b5; have ck := HMW.out.reg hkc; go_quiet (fail); replace HG := hd (G.drewN HG.out nq); replace HBx := hd (HBx.out.g (G.drewN (G.refl _) nq)); generalize W0.drewN nq = W at HBx HG ⊢; replace HMW := hd (HM.out.g HG.out); clear b5; obtain ⟨b0, b1, b2, b3, b4, b5, b6, b7, _⟩ := HBx.out)
    obtain ⟨rfl, rfl⟩ := HO.out
    go_wp2_with (go_at_call 63; refine (qset_is HMW.out _ hka _ HW.out _ (by omega)).mono ?_; rintro e w2 ⟨rfl, hm, hg⟩; have HX2 := hd hm; have HH2 := hd hg; clear hm hg)
    refine bodyPost_ret (results_none rfl _ _ _) rfl ?_
    exact ⟨rfl, HX2.out, grown_trans (grown_g HG.out _) HH2.out⟩
end
end Go.Proofs.YtjneaphlghfbhaaGreatDoor.Qpu
namespace Go.Proofs.YtjneaphlghfbhaaGreatDoor.Qpu
open Go.RowKit Go.Proofs.YtjneaphlghfbhaaGreatDoor.Bits Go.Proofs.YtjneaphlghfbhaaGreatDoor.Gw Go.Proofs.YtjneaphlghfbhaaGreatDoor.Risc Go.Proofs.YtjneaphlghfbhaaGreatDoor.Alu Go.Proofs.YtjneaphlghfbhaaGreatDoor.Mem Go.Proofs.YtjneaphlghfbhaaGreatDoor.Cpu
set_option linter.unusedVariables false
set_option maxRecDepth 100000

def qbs (n z c v : Bool) : Nat → Bool
  | 0 => n
  | 1 => z
  | 2 => c
  | _ => v
def qf (n z c v : Bool) : Nat → Int
  | 0 => 0
  | i + 1 => if qbs n z c v i = true then putI (qf n z c v i) (31 - (i : Int)) 1 1 else qf n z c v i
theorem qf_4 (n z c v : Bool) : qf n z c v 4 = flW n z c v := by
  cases n <;> cases z <;> cases c <;> cases v <;> kernel_rfl
theorem qf_bd (n z c v : Bool) (i : Nat) : W32 (qf n z c v i) := by
  induction i with
  | zero => exact ⟨by simp [qf], by simp [qf]⟩
  | succ i ih =>
    unfold qf
    split
    · exact put_range _ _ _ _ ih.1 ih.2
    · exact ih
section
variable {w : World} {a hb b : Nat} {o : Value} {inp : ByteArray} {s : Ms} {st : Nat}
set_option maxHeartbeats 2000000 in
theorem qreg_b (h : QMach w a hb b o inp s st) (u v : Bool) (ka kb kc : Nat) (op im : Int) (hka : ka < 16) (hkc : kc < 16) (ho : op = 0) (hu : u = true) (hv : v = true) :
    Calls Tryz.prog 39 #[ptr a, ins 0 u v ka kb kc op im] w fun e w' => e = .returned unit ∧ QMach w' a hb b o inp (s.setBy ka (flW s.n s.z s.c s.v)) st ∧ w.grownBy w' (some a) := by
  have HM := hd h
  have ia0 : (0 : Int) ≤ (kc : Int) := by omega
  have ia1 : (kc : Int) < 16 := by omega
  subst hv
  have HO := hd (And.intro ho hu)
  clear h ho hu
  (go_enter Tryz.func39, Tryz.ntmps39; go_upto_region 1 with fail; have HBx := hd (bx_new w 0 u true ka kb kc op im); have HG := hd ((G.refl w).alloc #[Value.int IntKind.i64 0, Value.bool u, Value.bool true, Value.int IntKind.i64 ↑ka, Value.int IntKind.i64 ↑kb, Value.int IntKind.i64 ↑kc, Value.int IntKind.i64 op, Value.int IntKind.i64 im] 46); have nx : ¬ w.heap.size = a := (by have := HM.out.lt; omega); generalize w.alloc (Obj.cells #[Value.int IntKind.i64 0, Value.bool u, Value.bool true, Value.int IntKind.i64 ↑ka, Value.int IntKind.i64 ↑kb, Value.int IntKind.i64 ↑kc, Value.int IntKind.i64 op, Value.int IntKind.i64 im] 46) = W0 at HBx HG ⊢; generalize w.heap.size = X at HBx nx ⊢; have HMW := hd (HM.out.g HG.out); have b5 := HBx.out.b5; have ck := HMW.out.reg hkc; go_quiet (fail); replace HG := hd (G.drewN HG.out nq); replace HBx := hd (HBx.out.g (G.drewN (G.refl _) nq)); generalize W0.drewN nq = W at HBx HG ⊢; replace HMW := hd (HM.out.g HG.out); clear b5; obtain ⟨b0, b1, b2, b3, b4, b5, b6, b7, _⟩ := HBx.out)
  have c17 := HMW.out.cn
  have c18 := HMW.out.cz
  have c19 := HMW.out.cc
  have c20 := HMW.out.cv
  obtain ⟨rfl, rfl⟩ := HO.out
  go_upto_region 10 with fail
  (refine region_tail 20 (by kernel_rfl) (by kernel_rfl) ?_; simp only [List.take_succ_cons, List.take_zero, List.drop_succ_cons, List.drop_zero]; (repeat (first | still_step | still_call (rword_any _ _))); refine wpStill_nil ?_)
  go_upto_region 11 with fail
  have HGV := hd (((G.refl W).alloc #[Value.bool s.n, Value.bool s.z, Value.bool s.c, Value.bool s.v] 4).drew)
  have HC : Hid (∀ i, i < 4 → ∀ d, ((W.alloc (Obj.cells #[Value.bool s.n, Value.bool s.z, Value.bool s.c, Value.bool s.v] 4)).drew.drewN d).cell? ⟨W.heap.size, i, none⟩ = some (.bool (qbs s.n s.z s.c s.v i))) := hd (fun i hi d => by
    match i, hi with
    | 0, _ => simp [qbs]
    | 1, _ => simp [qbs]
    | 2, _ => simp [qbs]
    | 3, _ => simp [qbs])
  generalize (W.alloc (Obj.cells #[Value.bool s.n, Value.bool s.z, Value.bool s.c, Value.bool s.v] 4)).drew = V at HGV HC ⊢
  generalize W.heap.size = q at HC ⊢
  have HBV := hd (HBx.out.g HGV.out)
  have HMV := hd (HMW.out.g HGV.out)
  clear b0 b1 b2 b3 b4 b5 b6 b7 c17 c18 c19 c20 ck
  go_wp2
  go_loopw [5, 7] (fun s5 s7 wr => ∃ (i d : Nat), i ≤ 4 ∧ s7 = .int .i64 i ∧ s5 = wd (qf s.n s.z s.c s.v i) ∧ wr = V.drewN d) (fun _ s7 _ => 4 - (intOf s7).toNat)
  case atStart => exact ⟨0, 0, by decide, rfl, rfl, rfl⟩
  case round =>
    obtain ⟨i, d, hi, rfl, rfl, rfl⟩ := hrel
    by_cases hlt : i < 4
    · have hc := HC.out i hlt d
      have i0 : (0 : Int) ≤ (i : Int) := by omega
      have i1 : (i : Int) < 4 := by omega
      have HB := hd (qf_bd s.n s.z s.c s.v i)
      have HE : Hid (qf s.n s.z s.c s.v (i + 1) = if qbs s.n s.z s.c s.v i = true then putI (qf s.n s.z s.c s.v i) (31 - (i : Int)) 1 1 else qf s.n s.z s.c s.v i) := hd rfl
      generalize qf s.n s.z s.c s.v i = x at HB HE ⊢
      cases hb : qbs s.n s.z s.c s.v i
      · rw [hb] at hc HE
        clear hb
        go_wp2
        exact ⟨⟨i + 1, d, by omega, by go_num, by rw [HE.out]; rfl, rfl⟩, by simp [intOf]; omega⟩
      · rw [hb] at hc HE
        clear hb
        go_wp2_with (go_at_call 28; refine (rput_any _ _ _ _ _ HB.out.1 HB.out.2 (by decide) (by decide) (by omega)).mono ?_; rintro e w' ⟨rfl, d2, rfl⟩)
        exact ⟨⟨i + 1, d + d2, by omega, by go_num, by rw [HE.out]; rfl, by simp⟩, by simp [intOf]; omega⟩
    · have i4 : i = 4 := by omega
      subst i4
      have HMD := hd (HMV.out.g ((G.refl V).drewN d))
      have b3 := (HBV.out.g ((G.refl V).drewN d)).b3
      clear hlt
      go_wp2_with (go_at_call 63; refine (qset_is HMD.out _ hka _ (flW_bd _ _ _ _) _ (qf_4 _ _ _ _)).mono ?_; rintro e w2 ⟨rfl, hm, hg⟩; have HX2 := hd hm; have HH2 := hd hg; clear hm hg)
      refine bodyPost_ret (results_none rfl _ _ _) rfl ?_
      exact ⟨rfl, HX2.out, grown_trans (grown_g (G.trans HG.out (G.drewN HGV.out d)) _) HH2.out⟩
end
end Go.Proofs.YtjneaphlghfbhaaGreatDoor.Qpu
namespace Go.Proofs.YtjneaphlghfbhaaGreatDoor.Qpu
open Go.RowKit Go.Proofs.YtjneaphlghfbhaaGreatDoor.Bits Go.Proofs.YtjneaphlghfbhaaGreatDoor.Gw Go.Proofs.YtjneaphlghfbhaaGreatDoor.Risc Go.Proofs.YtjneaphlghfbhaaGreatDoor.Alu Go.Proofs.YtjneaphlghfbhaaGreatDoor.Mem Go.Proofs.YtjneaphlghfbhaaGreatDoor.Cpu
set_option linter.unusedVariables false
set_option maxRecDepth 100000

section
variable {w : World} {a hb b : Nat} {o : Value} {inp : ByteArray} {s : Ms} {st : Nat}
theorem qdid_val {op : Int} {u : Bool} {x n h : Int} {C V : Bool} (hk : Alu.okB op u = true) : rdoV op u x n h C V =
    .agg #[.int .u32 (rI op u x n h C), .int .u32 (hI op u x n h), .bool (sgB (rI op u x n h C)), .bool (rI op u x n h C == 0), .bool (cB op u x n C), .bool (vB op u x n C V), .bool true] := by
  unfold rdoV; rw [if_pos hk]; rfl
structure Qn (s : Ms) (f : Int) (u v : Bool) (kb kc : Nat) (op im N A r h' : Int) (n' z' c' v' : Bool) : Prop where
  N0 : s.opd f v kc im = N
  NW : W32 N
  A0 : at0 s.R kb = A
  AW : W32 A
  r0 : rI op u (at0 s.R kb) N s.h s.c = r
  h0 : hI op u (at0 s.R kb) N s.h = h'
  n0 : sgB r = n'
  z0 : (r == 0) = z'
  c0 : cB op u (at0 s.R kb) N s.c = c'
  v0 : vB op u (at0 s.R kb) N s.c s.v = v'
  V : rdoV op u A N s.h s.c s.v = .agg #[.int .u32 r, .int .u32 h', .bool n', .bool z', .bool c', .bool v', .bool true]
theorem qdo {x A r h' N : Int} {n' z' c' v' : Bool} {f op im : Int} {u v : Bool} {kb kc : Nat} (ok : s.ok inp) (q : Qn s f u v kb kc op im N A r h' n' z' c' v') (W : World) (hx : x = N) :
    Calls Tryz.prog 64 #[.int .i64 op, .bool u, .int .u32 A, .int .u32 x, .int .u32 s.h, fl s.n s.z s.c s.v] W fun e w' => e = .returned (.agg #[.int .u32 r, .int .u32 h', .bool n', .bool z', .bool c', .bool v', .bool true]) ∧ ∃ p : By, w' = gr W p := by
  subst hx
  have := rdo_any op u A x s.h s.n s.z s.c s.v W q.AW.1 q.AW.2 q.NW.1 q.NW.2 ok.h0.1 ok.h0.2
  rwa [q.V] at this
theorem zt_cell {V V' : World} (g : G (V.alloc (.cells #[Value.int IntKind.u32 0, Value.int IntKind.u32 0, Value.bool false, Value.bool false, Value.bool false, Value.bool false, Value.bool false] 111)) V') (i : Nat) : V'.cell? ⟨V.heap.size, i, none⟩ = (#[Value.int IntKind.u32 0, Value.int IntKind.u32 0, Value.bool false, Value.bool false, Value.bool false, Value.bool false, Value.bool false] : Array Value)[i]? := by
  rw [g.cell (by simp)]
  exact cell_of_row (V.alloc (.cells #[Value.int IntKind.u32 0, Value.int IntKind.u32 0, Value.bool false, Value.bool false, Value.bool false, Value.bool false, Value.bool false] 111)) V.heap.size i _ _ (0, 0) (heap_alloc_new V _)
theorem zt_free {V V' : World} (g : G (V.alloc (.cells #[Value.int IntKind.u32 0, Value.int IntKind.u32 0, Value.bool false, Value.bool false, Value.bool false, Value.bool false, Value.bool false] 111)) V') (i : Nat) : V'.frozen? ⟨V.heap.size, i, none⟩ = false := by
  rw [g.frozen]
  unfold World.frozen?
  rw [heap_alloc_new V (.cells #[Value.int IntKind.u32 0, Value.int IntKind.u32 0, Value.bool false, Value.bool false, Value.bool false, Value.bool false, Value.bool false] 111)]
  simp
theorem zt_blk {V V' : World} (g : G (V.alloc (.cells #[Value.int IntKind.u32 0, Value.int IntKind.u32 0, Value.bool false, Value.bool false, Value.bool false, Value.bool false, Value.bool false] 111)) V') : V'.heap[V.heap.size]? = some (.cells [Value.int IntKind.u32 0, Value.int IntKind.u32 0, Value.bool false, Value.bool false, Value.bool false, Value.bool false, Value.bool false].toArray 111 (0, 0)) := by
  obtain ⟨p, rfl⟩ := g
  rw [gr_old _ p (by simp)]
  exact heap_alloc_new V _
theorem zt_set {V' : World} {q : Nat} {l0 l1 l2 l3 l4 l5 l6 : Value} {t : TypeId} (h : V'.heap[q]? = some (.cells [l0, l1, l2, l3, l4, l5, l6].toArray t (0, 0))) (x0 x1 x2 x3 x4 x5 x6 : Value) :
    (((((((V'.setCell ⟨q, 0, none⟩ x0).setCell ⟨q, 1, none⟩ x1).setCell ⟨q, 2, none⟩ x2).setCell ⟨q, 3, none⟩ x3).setCell ⟨q, 4, none⟩ x4).setCell ⟨q, 5, none⟩ x5).setCell ⟨q, 6, none⟩ x6).cell? ⟨q, 0, none⟩ = some x0 ∧ (((((((V'.setCell ⟨q, 0, none⟩ x0).setCell ⟨q, 1, none⟩ x1).setCell ⟨q, 2, none⟩ x2).setCell ⟨q, 3, none⟩ x3).setCell ⟨q, 4, none⟩ x4).setCell ⟨q, 5, none⟩ x5).setCell ⟨q, 6, none⟩ x6).cell? ⟨q, 1, none⟩ = some x1 ∧ (((((((V'.setCell ⟨q, 0, none⟩ x0).setCell ⟨q, 1, none⟩ x1).setCell ⟨q, 2, none⟩ x2).setCell ⟨q, 3, none⟩ x3).setCell ⟨q, 4, none⟩ x4).setCell ⟨q, 5, none⟩ x5).setCell ⟨q, 6, none⟩ x6).cell? ⟨q, 2, none⟩ = some x2 ∧ (((((((V'.setCell ⟨q, 0, none⟩ x0).setCell ⟨q, 1, none⟩ x1).setCell ⟨q, 2, none⟩ x2).setCell ⟨q, 3, none⟩ x3).setCell ⟨q, 4, none⟩ x4).setCell ⟨q, 5, none⟩ x5).setCell ⟨q, 6, none⟩ x6).cell? ⟨q, 3, none⟩ = some x3 ∧ (((((((V'.setCell ⟨q, 0, none⟩ x0).setCell ⟨q, 1, none⟩ x1).setCell ⟨q, 2, none⟩ x2).setCell ⟨q, 3, none⟩ x3).setCell ⟨q, 4, none⟩ x4).setCell ⟨q, 5, none⟩ x5).setCell ⟨q, 6, none⟩ x6).cell? ⟨q, 4, none⟩ = some x4 ∧ (((((((V'.setCell ⟨q, 0, none⟩ x0).setCell ⟨q, 1, none⟩ x1).setCell ⟨q, 2, none⟩ x2).setCell ⟨q, 3, none⟩ x3).setCell ⟨q, 4, none⟩ x4).setCell ⟨q, 5, none⟩ x5).setCell ⟨q, 6, none⟩ x6).cell? ⟨q, 5, none⟩ = some x5 := by
  have := blk_set (blk_set (blk_set (blk_set (blk_set (blk_set (blk_set h 0 x0) 1 x1) 2 x2) 3 x3) 4 x4) 5 x5) 6 x6
  exact ⟨(cell_blk this 0).trans (by simp), (cell_blk this 1).trans (by simp), (cell_blk this 2).trans (by simp), (cell_blk this 3).trans (by simp), (cell_blk this 4).trans (by simp), (cell_blk this 5).trans (by simp)⟩
set_option maxHeartbeats 4000000 in
theorem qreg_c0 (h : QMach w a hb b o inp s st) (u v : Bool) (ka kb kc : Nat) (op im : Int) (hka : ka < 16) (hkb : kb < 16) (hkc : kc < 16) {N A r h' : Int} {n' z' c' v' : Bool} (q : Qn s 0 u v kb kc op im N A r h' n' z' c' v')
    (n2 : ¬ (op = 0 ∧ u = true ∧ v = true)) :
    Calls Tryz.prog 39 #[ptr a, ins 0 u v ka kb kc op im] w fun e w' => e = .returned unit ∧ QMach w' a hb b o inp (s.did op u ka kb (s.opd 0 v kc im)) st ∧ w.grownBy w' (some a) := by
  have HM := hd h
  have HQ := hd q
  have H2 := hd n2
  have HNe : Hid (N = at0 s.R kc) := hd q.N0.symm
  have ia0 : (0 : Int) ≤ (kc : Int) := by omega
  have ia1 : (kc : Int) < 16 := by omega
  have ib0 : (0 : Int) ≤ (kb : Int) := by omega
  have ib1 : (kb : Int) < 16 := by omega
  have ic0 : (0 : Int) ≤ (ka : Int) := by omega
  have ic1 : (ka : Int) < 16 := by omega
  rw [q.N0]
  clear h q n2
  (go_enter Tryz.func39, Tryz.ntmps39; go_upto_region 1 with fail; have HBx := hd (bx_new w 0 u v ka kb kc op im); have HG := hd ((G.refl w).alloc #[Value.int IntKind.i64 0, Value.bool u, Value.bool v, Value.int IntKind.i64 ↑ka, Value.int IntKind.i64 ↑kb, Value.int IntKind.i64 ↑kc, Value.int IntKind.i64 op, Value.int IntKind.i64 im] 46); have nx : ¬ w.heap.size = a := (by have := HM.out.lt; omega); generalize w.alloc (Obj.cells #[Value.int IntKind.i64 0, Value.bool u, Value.bool v, Value.int IntKind.i64 ↑ka, Value.int IntKind.i64 ↑kb, Value.int IntKind.i64 ↑kc, Value.int IntKind.i64 op, Value.int IntKind.i64 im] 46) = W0 at HBx HG ⊢; generalize w.heap.size = X at HBx nx ⊢; have HMW := hd (HM.out.g HG.out); have b5 := HBx.out.b5; have ck := HMW.out.reg hkc; go_quiet (fail); replace HG := hd (G.drewN HG.out nq); replace HBx := hd (HBx.out.g (G.drewN (G.refl _) nq)); generalize W0.drewN nq = W at HBx HG ⊢; replace HMW := hd (HM.out.g HG.out); clear b5; obtain ⟨b0, b1, b2, b3, b4, b5, b6, b7, _⟩ := HBx.out)
  go_upto_region 6 with fail
  go_cut [41] from 26 (fun s41 wc => W = wc ∧ s41 = .bool false)
  case first =>
    cases e1 : (op == 0)
    · go_wp2
      go_meet
      case rel => exact ⟨rfl, rfl⟩
    · cases u
      · go_wp2
        go_meet
        case rel => exact ⟨rfl, rfl⟩
      · have e2 : v = false := by simpa using fun e => H2.out ⟨by simpa using e1, rfl, e⟩
        subst e2
        go_wp2
        go_meet
        case rel => exact ⟨rfl, rfl⟩
  case rest =>
  obtain ⟨rfl, rfl⟩ := hcut
  go_upto_region 17 with fail
  have k1 := HMW.out.reg hkb
  rw [HQ.out.A0] at k1
  have k2 := HMW.out.ch
  have c17 := HMW.out.cn
  have c18 := HMW.out.cz
  have c19 := HMW.out.cc
  have c20 := HMW.out.cv
  have K1 : ∀ V, G W V → V.cell? ⟨X, 1, none⟩ = some (.bool u) := fun V g => (HBx.out.g g).b1
  have K4 : ∀ V, G W V → V.cell? ⟨X, 4, none⟩ = some (.int .i64 kb) := fun V g => (HBx.out.g g).b4
  have K6 : ∀ V, G W V → V.cell? ⟨X, 6, none⟩ = some (.int .i64 op) := fun V g => (HBx.out.g g).b6
  have K8 : ∀ V, G W V → V.cell? ⟨a, kb, none⟩ = some (wd A) := fun V g => by rw [← HQ.out.A0]; exact (HMW.out.g g).reg hkb
  have K16 : ∀ V, G W V → V.cell? ⟨a, 16, none⟩ = some (wd s.h) := fun V g => (HMW.out.g g).ch
  have K17 : ∀ V, G W V → V.cell? ⟨a, 17, none⟩ = some (.bool s.n) := fun V g => (HMW.out.g g).cn
  have K18 : ∀ V, G W V → V.cell? ⟨a, 18, none⟩ = some (.bool s.z) := fun V g => (HMW.out.g g).cz
  have K19 : ∀ V, G W V → V.cell? ⟨a, 19, none⟩ = some (.bool s.c) := fun V g => (HMW.out.g g).cc
  have K20 : ∀ V, G W V → V.cell? ⟨a, 20, none⟩ = some (.bool s.v) := fun V g => (HMW.out.g g).cv
  have y0 : G W W := G.refl W
  have Z0 : ∀ (V : World) (p : By), (gr (V.alloc (.cells #[Value.int IntKind.u32 0, Value.int IntKind.u32 0, Value.bool false, Value.bool false, Value.bool false, Value.bool false, Value.bool false] 111)) p).cell? ⟨V.heap.size, 0, none⟩ = some (wd 0) := fun V p => (zt_cell (G.of _ p) 0).trans rfl
  have X0 : ∀ p : By, (gr (W.alloc (.cells #[Value.int IntKind.u32 0, Value.int IntKind.u32 0, Value.bool false, Value.bool false, Value.bool false, Value.bool false, Value.bool false] 111)).drew p).cell? ⟨W.heap.size, 0, none⟩ = some (wd 0) := fun p => (zt_cell (G.gr (G.drew (G.refl _)) p) 0).trans rfl
  have Z1 : ∀ (V : World) (p : By), (gr (V.alloc (.cells #[Value.int IntKind.u32 0, Value.int IntKind.u32 0, Value.bool false, Value.bool false, Value.bool false, Value.bool false, Value.bool false] 111)) p).cell? ⟨V.heap.size, 1, none⟩ = some (wd 0) := fun V p => (zt_cell (G.of _ p) 1).trans rfl
  have X1 : ∀ p : By, (gr (W.alloc (.cells #[Value.int IntKind.u32 0, Value.int IntKind.u32 0, Value.bool false, Value.bool false, Value.bool false, Value.bool false, Value.bool false] 111)).drew p).cell? ⟨W.heap.size, 1, none⟩ = some (wd 0) := fun p => (zt_cell (G.gr (G.drew (G.refl _)) p) 1).trans rfl
  have Z2 : ∀ (V : World) (p : By), (gr (V.alloc (.cells #[Value.int IntKind.u32 0, Value.int IntKind.u32 0, Value.bool false, Value.bool false, Value.bool false, Value.bool false, Value.bool false] 111)) p).cell? ⟨V.heap.size, 2, none⟩ = some (.bool false) := fun V p => (zt_cell (G.of _ p) 2).trans rfl
  have X2 : ∀ p : By, (gr (W.alloc (.cells #[Value.int IntKind.u32 0, Value.int IntKind.u32 0, Value.bool false, Value.bool false, Value.bool false, Value.bool false, Value.bool false] 111)).drew p).cell? ⟨W.heap.size, 2, none⟩ = some (.bool false) := fun p => (zt_cell (G.gr (G.drew (G.refl _)) p) 2).trans rfl
  have Z3 : ∀ (V : World) (p : By), (gr (V.alloc (.cells #[Value.int IntKind.u32 0, Value.int IntKind.u32 0, Value.bool false, Value.bool false, Value.bool false, Value.bool false, Value.bool false] 111)) p).cell? ⟨V.heap.size, 3, none⟩ = some (.bool false) := fun V p => (zt_cell (G.of _ p) 3).trans rfl
  have X3 : ∀ p : By, (gr (W.alloc (.cells #[Value.int IntKind.u32 0, Value.int IntKind.u32 0, Value.bool false, Value.bool false, Value.bool false, Value.bool false, Value.bool false] 111)).drew p).cell? ⟨W.heap.size, 3, none⟩ = some (.bool false) := fun p => (zt_cell (G.gr (G.drew (G.refl _)) p) 3).trans rfl
  have Z4 : ∀ (V : World) (p : By), (gr (V.alloc (.cells #[Value.int IntKind.u32 0, Value.int IntKind.u32 0, Value.bool false, Value.bool false, Value.bool false, Value.bool false, Value.bool false] 111)) p).cell? ⟨V.heap.size, 4, none⟩ = some (.bool false) := fun V p => (zt_cell (G.of _ p) 4).trans rfl
  have X4 : ∀ p : By, (gr (W.alloc (.cells #[Value.int IntKind.u32 0, Value.int IntKind.u32 0, Value.bool false, Value.bool false, Value.bool false, Value.bool false, Value.bool false] 111)).drew p).cell? ⟨W.heap.size, 4, none⟩ = some (.bool false) := fun p => (zt_cell (G.gr (G.drew (G.refl _)) p) 4).trans rfl
  have Z5 : ∀ (V : World) (p : By), (gr (V.alloc (.cells #[Value.int IntKind.u32 0, Value.int IntKind.u32 0, Value.bool false, Value.bool false, Value.bool false, Value.bool false, Value.bool false] 111)) p).cell? ⟨V.heap.size, 5, none⟩ = some (.bool false) := fun V p => (zt_cell (G.of _ p) 5).trans rfl
  have X5 : ∀ p : By, (gr (W.alloc (.cells #[Value.int IntKind.u32 0, Value.int IntKind.u32 0, Value.bool false, Value.bool false, Value.bool false, Value.bool false, Value.bool false] 111)).drew p).cell? ⟨W.heap.size, 5, none⟩ = some (.bool false) := fun p => (zt_cell (G.gr (G.drew (G.refl _)) p) 5).trans rfl
  have Z6 : ∀ (V : World) (p : By), (gr (V.alloc (.cells #[Value.int IntKind.u32 0, Value.int IntKind.u32 0, Value.bool false, Value.bool false, Value.bool false, Value.bool false, Value.bool false] 111)) p).cell? ⟨V.heap.size, 6, none⟩ = some (.bool false) := fun V p => (zt_cell (G.of _ p) 6).trans rfl
  have X6 : ∀ p : By, (gr (W.alloc (.cells #[Value.int IntKind.u32 0, Value.int IntKind.u32 0, Value.bool false, Value.bool false, Value.bool false, Value.bool false, Value.bool false] 111)).drew p).cell? ⟨W.heap.size, 6, none⟩ = some (.bool false) := fun p => (zt_cell (G.gr (G.drew (G.refl _)) p) 6).trans rfl
  have F0 : ∀ (V : World) (i : Nat), (V.alloc (.cells #[Value.int IntKind.u32 0, Value.int IntKind.u32 0, Value.bool false, Value.bool false, Value.bool false, Value.bool false, Value.bool false] 111)).frozen? ⟨V.heap.size, i, none⟩ = false := fun V i => zt_free (G.refl _) i
  have F1 : ∀ i : Nat, (W.alloc (.cells #[Value.int IntKind.u32 0, Value.int IntKind.u32 0, Value.bool false, Value.bool false, Value.bool false, Value.bool false, Value.bool false] 111)).drew.frozen? ⟨W.heap.size, i, none⟩ = false := fun i => zt_free (V := W) (G.drew (G.refl _)) i
  have hgg := gr_gr
  have hfz := gr_frozen
  have la : a < W.heap.size := HMW.out.lt
  have s0 : W.heap.size ≤ W.drew.heap.size := Nat.le_refl _
  have s1 : ∀ p : By, W.heap.size ≤ (gr W.drew p).heap.size := fun p => by rw [gr_size]; exact Nat.le_add_right _ _
  clear b0 b1 b2 b3 b4 b5 b6 b7 ck
  go_cut [8] from 87 (fun s8 wc => ∃ q, s8 = ptr q ∧ G W wc ∧ a < q ∧ wc.cell? ⟨q, 0, none⟩ = some (wd r) ∧ wc.cell? ⟨q, 1, none⟩ = some (wd h') ∧ wc.cell? ⟨q, 2, none⟩ = some (.bool n') ∧ wc.cell? ⟨q, 3, none⟩ = some (.bool z') ∧ wc.cell? ⟨q, 4, none⟩ = some (.bool c') ∧ wc.cell? ⟨q, 5, none⟩ = some (.bool v'))
  case first =>
    go_region_held3 (fun V => G W V) ((with_reducible repeat' (first | exact y0 | exact s0 | exact s1 _ | exact Nat.le_refl _ | apply G.gr | apply G.drew | apply G.alloc | refine G.set ?_ ?_ _)))
      (first
      | (go_at_call 64; refine (qdo HM.out.ok HQ.out _ (by have := HNe.out; omega)).mono ?_; rintro e w2 ⟨rfl, p, rfl⟩))
    all_goals (go_wp2_with fail; go_meet)
    all_goals (case rel =>
      clear K1 K4 K6 K8 K16 K17 K18 K19 K20 F0 F1 hgg hfz Z0 Z1 Z2 Z3 Z4 Z5 Z6 X0 X1 X2 X3 X4 X5 X6
      refine ⟨_, rfl, ?_, ?_, ?_⟩
      · (with_reducible repeat' (first | exact y0 | exact s0 | exact s1 _ | exact Nat.le_refl _ | apply G.gr | apply G.drew | apply G.alloc | refine G.set ?_ ?_ _))
      · (first | with_reducible exact la | with_reducible exact Nat.lt_of_lt_of_le la (s1 _))
      · (first | with_reducible exact zt_set (zt_blk (G.of _ _)) _ _ _ _ _ _ _ | with_reducible exact zt_set (zt_blk (G.gr (G.drew (G.refl _)) _)) _ _ _ _ _ _ _ | exact ⟨by simp, by simp, by simp, by simp, by simp, by simp⟩))
  case rest =>
    obtain ⟨q, rfl, gc, hq, q0, q1, q2, q3, q4, q5⟩ := hcut
    have nq : ¬ q = a := by omega
    clear K1 K4 K6 K8 K16 K17 K18 K19 K20 Z0 Z1 Z2 Z3 Z4 Z5 Z6 X0 X1 X2 X3 X4 X5 X6 F0 F1 hgg hfz y0 s0 s1
    have HG2 := hd (G.trans HG.out gc)
    have HMC := hd (HM.out.g HG2.out)
    have b3 := (HBx.out.g gc).b3
    have c0 := HMC.out.reg hka
    have f0 := HMC.out.free ka
    have c16 := HMC.out.ch
    have f16 := HMC.out.free 16
    have c17 := HMC.out.cn
    have f17 := HMC.out.free 17
    have c18 := HMC.out.cz
    have f18 := HMC.out.free 18
    have c19 := HMC.out.cc
    have f19 := HMC.out.free 19
    have c20 := HMC.out.cv
    have f20 := HMC.out.free 20
    have d16 : ¬ ka = 16 := by omega
    have d17 : ¬ ka = 17 := by omega
    have d18 : ¬ ka = 18 := by omega
    have d19 : ¬ ka = 19 := by omega
    have d20 : ¬ ka = 20 := by omega
    clear gc
    go_wp2
    go_region_held3 (fun V => V.cell? ⟨X, 3, none⟩ = some (.int .i64 ka) ∧ V.cell? ⟨q, 0, none⟩ = some (wd r) ∧ V.cell? ⟨q, 1, none⟩ = some (wd h') ∧ V.cell? ⟨q, 2, none⟩ = some (.bool n') ∧ V.cell? ⟨q, 3, none⟩ = some (.bool z') ∧ V.cell? ⟨q, 4, none⟩ = some (.bool c') ∧ V.cell? ⟨q, 5, none⟩ = some (.bool v'))
      (((try simp only [cell_dr, cell_off _ _ _ _ _ nx, cell_off _ _ _ _ _ nq]); exact ⟨b3, q0, q1, q2, q3, q4, q5⟩)) (fail)
    go_wp2
    go_end0
    exact ⟨rfl, (HMC.out.did6 op u kb hka HQ.out.NW HQ.out.r0 HQ.out.h0 HQ.out.n0 HQ.out.z0 HQ.out.c0 HQ.out.v0).g (G.drew (G.refl _)), grown_drew (grown_trans (grown_g HG2.out _) (grown_set6 _ _ _ _ _ _ _ _ _ _ _ _ _ _))⟩
end
end Go.Proofs.YtjneaphlghfbhaaGreatDoor.Qpu
namespace Go.Proofs.YtjneaphlghfbhaaGreatDoor.Qpu
open Go.RowKit Go.Proofs.YtjneaphlghfbhaaGreatDoor.Bits Go.Proofs.YtjneaphlghfbhaaGreatDoor.Gw Go.Proofs.YtjneaphlghfbhaaGreatDoor.Risc Go.Proofs.YtjneaphlghfbhaaGreatDoor.Alu Go.Proofs.YtjneaphlghfbhaaGreatDoor.Mem Go.Proofs.YtjneaphlghfbhaaGreatDoor.Cpu
set_option linter.unusedVariables false
set_option maxRecDepth 100000

section
variable {w : World} {a hb b : Nat} {o : Value} {inp : ByteArray} {s : Ms} {st : Nat}
set_option maxHeartbeats 4000000 in
theorem qreg_c1 (h : QMach w a hb b o inp s st) (u : Bool) (ka kb kc : Nat) (op im : Int) (hka : ka < 16) (hkb : kb < 16) (hkc : kc < 16) {N A r h' : Int} {n' z' c' v' : Bool} (q : Qn s 1 u false kb kc op im N A r h' n' z' c' v')
    (n2 : ¬ (op = 0 ∧ u = true)) (h0 : 0 ≤ im) (h1 : im ≤ 65535) :
    Calls Tryz.prog 39 #[ptr a, ins 1 u false ka kb kc op im] w fun e w' => e = .returned unit ∧ QMach w' a hb b o inp (s.did op u ka kb (s.opd 1 false kc im)) st ∧ w.grownBy w' (some a) := by
  have HM := hd h
  have HQ := hd q
  have H2 := hd n2
  have HNe : Hid (N = im) := hd q.N0.symm
  have ia0 : (0 : Int) ≤ (kc : Int) := by omega
  have ia1 : (kc : Int) < 16 := by omega
  have ib0 : (0 : Int) ≤ (kb : Int) := by omega
  have ib1 : (kb : Int) < 16 := by omega
  have ic0 : (0 : Int) ≤ (ka : Int) := by omega
  have ic1 : (ka : Int) < 16 := by omega
  rw [q.N0]
  clear h q n2
  (go_enter Tryz.func39, Tryz.ntmps39; go_upto_region 1 with fail; have HBx := hd (bx_new w 1 u false ka kb kc op im); have HG := hd ((G.refl w).alloc #[Value.int IntKind.i64 1, Value.bool u, Value.bool false, Value.int IntKind.i64 ↑ka, Value.int IntKind.i64 ↑kb, Value.int IntKind.i64 ↑kc, Value.int IntKind.i64 op, Value.int IntKind.i64 im] 46); have nx : ¬ w.heap.size = a := (by have := HM.out.lt; omega); generalize w.alloc (Obj.cells #[Value.int IntKind.i64 1, Value.bool u, Value.bool false, Value.int IntKind.i64 ↑ka, Value.int IntKind.i64 ↑kb, Value.int IntKind.i64 ↑kc, Value.int IntKind.i64 op, Value.int IntKind.i64 im] 46) = W0 at HBx HG ⊢; generalize w.heap.size = X at HBx nx ⊢; have HMW := hd (HM.out.g HG.out); have b5 := HBx.out.b5; have ck := HMW.out.reg hkc; go_quiet (fail); replace HG := hd (G.drewN HG.out nq); replace HBx := hd (HBx.out.g (G.drewN (G.refl _) nq)); generalize W0.drewN nq = W at HBx HG ⊢; replace HMW := hd (HM.out.g HG.out); clear b5; obtain ⟨b0, b1, b2, b3, b4, b5, b6, b7, _⟩ := HBx.out)
  go_upto_region 6 with fail
  go_cut [41] from 26 (fun s41 wc => W = wc ∧ s41 = .bool false)
  case first =>
    cases e1 : (op == 0)
    · go_wp2
      go_meet
      case rel => exact ⟨rfl, rfl⟩
    · cases u
      · go_wp2
        go_meet
        case rel => exact ⟨rfl, rfl⟩
      · exact absurd ⟨by simpa using e1, rfl⟩ H2.out
  case rest =>
  obtain ⟨rfl, rfl⟩ := hcut
  go_upto_region 17 with fail
  have k1 := HMW.out.reg hkb
  rw [HQ.out.A0] at k1
  have k2 := HMW.out.ch
  have c17 := HMW.out.cn
  have c18 := HMW.out.cz
  have c19 := HMW.out.cc
  have c20 := HMW.out.cv
  have K1 : ∀ V, G W V → V.cell? ⟨X, 1, none⟩ = some (.bool u) := fun V g => (HBx.out.g g).b1
  have K4 : ∀ V, G W V → V.cell? ⟨X, 4, none⟩ = some (.int .i64 kb) := fun V g => (HBx.out.g g).b4
  have K6 : ∀ V, G W V → V.cell? ⟨X, 6, none⟩ = some (.int .i64 op) := fun V g => (HBx.out.g g).b6
  have K8 : ∀ V, G W V → V.cell? ⟨a, kb, none⟩ = some (wd A) := fun V g => by rw [← HQ.out.A0]; exact (HMW.out.g g).reg hkb
  have K16 : ∀ V, G W V → V.cell? ⟨a, 16, none⟩ = some (wd s.h) := fun V g => (HMW.out.g g).ch
  have K17 : ∀ V, G W V → V.cell? ⟨a, 17, none⟩ = some (.bool s.n) := fun V g => (HMW.out.g g).cn
  have K18 : ∀ V, G W V → V.cell? ⟨a, 18, none⟩ = some (.bool s.z) := fun V g => (HMW.out.g g).cz
  have K19 : ∀ V, G W V → V.cell? ⟨a, 19, none⟩ = some (.bool s.c) := fun V g => (HMW.out.g g).cc
  have K20 : ∀ V, G W V → V.cell? ⟨a, 20, none⟩ = some (.bool s.v) := fun V g => (HMW.out.g g).cv
  have y0 : G W W := G.refl W
  have Z0 : ∀ (V : World) (p : By), (gr (V.alloc (.cells #[Value.int IntKind.u32 0, Value.int IntKind.u32 0, Value.bool false, Value.bool false, Value.bool false, Value.bool false, Value.bool false] 111)) p).cell? ⟨V.heap.size, 0, none⟩ = some (wd 0) := fun V p => (zt_cell (G.of _ p) 0).trans rfl
  have X0 : ∀ p : By, (gr (W.alloc (.cells #[Value.int IntKind.u32 0, Value.int IntKind.u32 0, Value.bool false, Value.bool false, Value.bool false, Value.bool false, Value.bool false] 111)).drew p).cell? ⟨W.heap.size, 0, none⟩ = some (wd 0) := fun p => (zt_cell (G.gr (G.drew (G.refl _)) p) 0).trans rfl
  have Z1 : ∀ (V : World) (p : By), (gr (V.alloc (.cells #[Value.int IntKind.u32 0, Value.int IntKind.u32 0, Value.bool false, Value.bool false, Value.bool false, Value.bool false, Value.bool false] 111)) p).cell? ⟨V.heap.size, 1, none⟩ = some (wd 0) := fun V p => (zt_cell (G.of _ p) 1).trans rfl
  have X1 : ∀ p : By, (gr (W.alloc (.cells #[Value.int IntKind.u32 0, Value.int IntKind.u32 0, Value.bool false, Value.bool false, Value.bool false, Value.bool false, Value.bool false] 111)).drew p).cell? ⟨W.heap.size, 1, none⟩ = some (wd 0) := fun p => (zt_cell (G.gr (G.drew (G.refl _)) p) 1).trans rfl
  have Z2 : ∀ (V : World) (p : By), (gr (V.alloc (.cells #[Value.int IntKind.u32 0, Value.int IntKind.u32 0, Value.bool false, Value.bool false, Value.bool false, Value.bool false, Value.bool false] 111)) p).cell? ⟨V.heap.size, 2, none⟩ = some (.bool false) := fun V p => (zt_cell (G.of _ p) 2).trans rfl
  have X2 : ∀ p : By, (gr (W.alloc (.cells #[Value.int IntKind.u32 0, Value.int IntKind.u32 0, Value.bool false, Value.bool false, Value.bool false, Value.bool false, Value.bool false] 111)).drew p).cell? ⟨W.heap.size, 2, none⟩ = some (.bool false) := fun p => (zt_cell (G.gr (G.drew (G.refl _)) p) 2).trans rfl
  have Z3 : ∀ (V : World) (p : By), (gr (V.alloc (.cells #[Value.int IntKind.u32 0, Value.int IntKind.u32 0, Value.bool false, Value.bool false, Value.bool false, Value.bool false, Value.bool false] 111)) p).cell? ⟨V.heap.size, 3, none⟩ = some (.bool false) := fun V p => (zt_cell (G.of _ p) 3).trans rfl
  have X3 : ∀ p : By, (gr (W.alloc (.cells #[Value.int IntKind.u32 0, Value.int IntKind.u32 0, Value.bool false, Value.bool false, Value.bool false, Value.bool false, Value.bool false] 111)).drew p).cell? ⟨W.heap.size, 3, none⟩ = some (.bool false) := fun p => (zt_cell (G.gr (G.drew (G.refl _)) p) 3).trans rfl
  have Z4 : ∀ (V : World) (p : By), (gr (V.alloc (.cells #[Value.int IntKind.u32 0, Value.int IntKind.u32 0, Value.bool false, Value.bool false, Value.bool false, Value.bool false, Value.bool false] 111)) p).cell? ⟨V.heap.size, 4, none⟩ = some (.bool false) := fun V p => (zt_cell (G.of _ p) 4).trans rfl
  have X4 : ∀ p : By, (gr (W.alloc (.cells #[Value.int IntKind.u32 0, Value.int IntKind.u32 0, Value.bool false, Value.bool false, Value.bool false, Value.bool false, Value.bool false] 111)).drew p).cell? ⟨W.heap.size, 4, none⟩ = some (.bool false) := fun p => (zt_cell (G.gr (G.drew (G.refl _)) p) 4).trans rfl
  have Z5 : ∀ (V : World) (p : By), (gr (V.alloc (.cells #[Value.int IntKind.u32 0, Value.int IntKind.u32 0, Value.bool false, Value.bool false, Value.bool false, Value.bool false, Value.bool false] 111)) p).cell? ⟨V.heap.size, 5, none⟩ = some (.bool false) := fun V p => (zt_cell (G.of _ p) 5).trans rfl
  have X5 : ∀ p : By, (gr (W.alloc (.cells #[Value.int IntKind.u32 0, Value.int IntKind.u32 0, Value.bool false, Value.bool false, Value.bool false, Value.bool false, Value.bool false] 111)).drew p).cell? ⟨W.heap.size, 5, none⟩ = some (.bool false) := fun p => (zt_cell (G.gr (G.drew (G.refl _)) p) 5).trans rfl
  have Z6 : ∀ (V : World) (p : By), (gr (V.alloc (.cells #[Value.int IntKind.u32 0, Value.int IntKind.u32 0, Value.bool false, Value.bool false, Value.bool false, Value.bool false, Value.bool false] 111)) p).cell? ⟨V.heap.size, 6, none⟩ = some (.bool false) := fun V p => (zt_cell (G.of _ p) 6).trans rfl
  have X6 : ∀ p : By, (gr (W.alloc (.cells #[Value.int IntKind.u32 0, Value.int IntKind.u32 0, Value.bool false, Value.bool false, Value.bool false, Value.bool false, Value.bool false] 111)).drew p).cell? ⟨W.heap.size, 6, none⟩ = some (.bool false) := fun p => (zt_cell (G.gr (G.drew (G.refl _)) p) 6).trans rfl
  have F0 : ∀ (V : World) (i : Nat), (V.alloc (.cells #[Value.int IntKind.u32 0, Value.int IntKind.u32 0, Value.bool false, Value.bool false, Value.bool false, Value.bool false, Value.bool false] 111)).frozen? ⟨V.heap.size, i, none⟩ = false := fun V i => zt_free (G.refl _) i
  have F1 : ∀ i : Nat, (W.alloc (.cells #[Value.int IntKind.u32 0, Value.int IntKind.u32 0, Value.bool false, Value.bool false, Value.bool false, Value.bool false, Value.bool false] 111)).drew.frozen? ⟨W.heap.size, i, none⟩ = false := fun i => zt_free (V := W) (G.drew (G.refl _)) i
  have hgg := gr_gr
  have hfz := gr_frozen
  have la : a < W.heap.size := HMW.out.lt
  have s0 : W.heap.size ≤ W.drew.heap.size := Nat.le_refl _
  have s1 : ∀ p : By, W.heap.size ≤ (gr W.drew p).heap.size := fun p => by rw [gr_size]; exact Nat.le_add_right _ _
  clear b0 b1 b2 b3 b4 b5 b6 b7 ck
  go_cut [8] from 87 (fun s8 wc => ∃ q, s8 = ptr q ∧ G W wc ∧ a < q ∧ wc.cell? ⟨q, 0, none⟩ = some (wd r) ∧ wc.cell? ⟨q, 1, none⟩ = some (wd h') ∧ wc.cell? ⟨q, 2, none⟩ = some (.bool n') ∧ wc.cell? ⟨q, 3, none⟩ = some (.bool z') ∧ wc.cell? ⟨q, 4, none⟩ = some (.bool c') ∧ wc.cell? ⟨q, 5, none⟩ = some (.bool v'))
  case first =>
    go_region_held3 (fun V => G W V) ((with_reducible repeat' (first | exact y0 | exact s0 | exact s1 _ | exact Nat.le_refl _ | apply G.gr | apply G.drew | apply G.alloc | refine G.set ?_ ?_ _)))
      (first
      | (go_at_call 64; refine (qdo HM.out.ok HQ.out _ (by have := HNe.out; omega)).mono ?_; rintro e w2 ⟨rfl, p, rfl⟩))
    all_goals (go_wp2_with fail; go_meet)
    all_goals (case rel =>
      clear K1 K4 K6 K8 K16 K17 K18 K19 K20 F0 F1 hgg hfz Z0 Z1 Z2 Z3 Z4 Z5 Z6 X0 X1 X2 X3 X4 X5 X6
      refine ⟨_, rfl, ?_, ?_, ?_⟩
      · (with_reducible repeat' (first | exact y0 | exact s0 | exact s1 _ | exact Nat.le_refl _ | apply G.gr | apply G.drew | apply G.alloc | refine G.set ?_ ?_ _))
      · (first | with_reducible exact la | with_reducible exact Nat.lt_of_lt_of_le la (s1 _))
      · (first | with_reducible exact zt_set (zt_blk (G.of _ _)) _ _ _ _ _ _ _ | with_reducible exact zt_set (zt_blk (G.gr (G.drew (G.refl _)) _)) _ _ _ _ _ _ _ | exact ⟨by simp, by simp, by simp, by simp, by simp, by simp⟩))
  case rest =>
    obtain ⟨q, rfl, gc, hq, q0, q1, q2, q3, q4, q5⟩ := hcut
    have nq : ¬ q = a := by omega
    clear K1 K4 K6 K8 K16 K17 K18 K19 K20 Z0 Z1 Z2 Z3 Z4 Z5 Z6 X0 X1 X2 X3 X4 X5 X6 F0 F1 hgg hfz y0 s0 s1
    have HG2 := hd (G.trans HG.out gc)
    have HMC := hd (HM.out.g HG2.out)
    have b3 := (HBx.out.g gc).b3
    have c0 := HMC.out.reg hka
    have f0 := HMC.out.free ka
    have c16 := HMC.out.ch
    have f16 := HMC.out.free 16
    have c17 := HMC.out.cn
    have f17 := HMC.out.free 17
    have c18 := HMC.out.cz
    have f18 := HMC.out.free 18
    have c19 := HMC.out.cc
    have f19 := HMC.out.free 19
    have c20 := HMC.out.cv
    have f20 := HMC.out.free 20
    have d16 : ¬ ka = 16 := by omega
    have d17 : ¬ ka = 17 := by omega
    have d18 : ¬ ka = 18 := by omega
    have d19 : ¬ ka = 19 := by omega
    have d20 : ¬ ka = 20 := by omega
    clear gc
    go_wp2
    go_region_held3 (fun V => V.cell? ⟨X, 3, none⟩ = some (.int .i64 ka) ∧ V.cell? ⟨q, 0, none⟩ = some (wd r) ∧ V.cell? ⟨q, 1, none⟩ = some (wd h') ∧ V.cell? ⟨q, 2, none⟩ = some (.bool n') ∧ V.cell? ⟨q, 3, none⟩ = some (.bool z') ∧ V.cell? ⟨q, 4, none⟩ = some (.bool c') ∧ V.cell? ⟨q, 5, none⟩ = some (.bool v'))
      (((try simp only [cell_dr, cell_off _ _ _ _ _ nx, cell_off _ _ _ _ _ nq]); exact ⟨b3, q0, q1, q2, q3, q4, q5⟩)) (fail)
    go_wp2
    go_end0
    exact ⟨rfl, (HMC.out.did6 op u kb hka HQ.out.NW HQ.out.r0 HQ.out.h0 HQ.out.n0 HQ.out.z0 HQ.out.c0 HQ.out.v0).g (G.drew (G.refl _)), grown_drew (grown_trans (grown_g HG2.out _) (grown_set6 _ _ _ _ _ _ _ _ _ _ _ _ _ _))⟩
set_option maxHeartbeats 4000000 in
theorem qreg_c2 (h : QMach w a hb b o inp s st) (u : Bool) (ka kb kc : Nat) (op im : Int) (hka : ka < 16) (hkb : kb < 16) (hkc : kc < 16) {N A r h' : Int} {n' z' c' v' : Bool} (q : Qn s 1 u true kb kc op im N A r h' n' z' c' v')
    (n2 : ¬ (op = 0 ∧ u = true)) (h0 : 0 ≤ im) (h1 : im ≤ 65535) :
    Calls Tryz.prog 39 #[ptr a, ins 1 u true ka kb kc op im] w fun e w' => e = .returned unit ∧ QMach w' a hb b o inp (s.did op u ka kb (s.opd 1 true kc im)) st ∧ w.grownBy w' (some a) := by
  have HM := hd h
  have HQ := hd q
  have H2 := hd n2
  have HNe : Hid (N = im + 4294901760) := hd q.N0.symm
  have ia0 : (0 : Int) ≤ (kc : Int) := by omega
  have ia1 : (kc : Int) < 16 := by omega
  have ib0 : (0 : Int) ≤ (kb : Int) := by omega
  have ib1 : (kb : Int) < 16 := by omega
  have ic0 : (0 : Int) ≤ (ka : Int) := by omega
  have ic1 : (ka : Int) < 16 := by omega
  rw [q.N0]
  clear h q n2
  (go_enter Tryz.func39, Tryz.ntmps39; go_upto_region 1 with fail; have HBx := hd (bx_new w 1 u true ka kb kc op im); have HG := hd ((G.refl w).alloc #[Value.int IntKind.i64 1, Value.bool u, Value.bool true, Value.int IntKind.i64 ↑ka, Value.int IntKind.i64 ↑kb, Value.int IntKind.i64 ↑kc, Value.int IntKind.i64 op, Value.int IntKind.i64 im] 46); have nx : ¬ w.heap.size = a := (by have := HM.out.lt; omega); generalize w.alloc (Obj.cells #[Value.int IntKind.i64 1, Value.bool u, Value.bool true, Value.int IntKind.i64 ↑ka, Value.int IntKind.i64 ↑kb, Value.int IntKind.i64 ↑kc, Value.int IntKind.i64 op, Value.int IntKind.i64 im] 46) = W0 at HBx HG ⊢; generalize w.heap.size = X at HBx nx ⊢; have HMW := hd (HM.out.g HG.out); have b5 := HBx.out.b5; have ck := HMW.out.reg hkc; go_quiet (fail); replace HG := hd (G.drewN HG.out nq); replace HBx := hd (HBx.out.g (G.drewN (G.refl _) nq)); generalize W0.drewN nq = W at HBx HG ⊢; replace HMW := hd (HM.out.g HG.out); clear b5; obtain ⟨b0, b1, b2, b3, b4, b5, b6, b7, _⟩ := HBx.out)
  go_upto_region 6 with fail
  go_cut [41] from 26 (fun s41 wc => W = wc ∧ s41 = .bool false)
  case first =>
    cases e1 : (op == 0)
    · go_wp2
      go_meet
      case rel => exact ⟨rfl, rfl⟩
    · cases u
      · go_wp2
        go_meet
        case rel => exact ⟨rfl, rfl⟩
      · exact absurd ⟨by simpa using e1, rfl⟩ H2.out
  case rest =>
  obtain ⟨rfl, rfl⟩ := hcut
  go_upto_region 17 with fail
  have k1 := HMW.out.reg hkb
  rw [HQ.out.A0] at k1
  have k2 := HMW.out.ch
  have c17 := HMW.out.cn
  have c18 := HMW.out.cz
  have c19 := HMW.out.cc
  have c20 := HMW.out.cv
  have K1 : ∀ V, G W V → V.cell? ⟨X, 1, none⟩ = some (.bool u) := fun V g => (HBx.out.g g).b1
  have K4 : ∀ V, G W V → V.cell? ⟨X, 4, none⟩ = some (.int .i64 kb) := fun V g => (HBx.out.g g).b4
  have K6 : ∀ V, G W V → V.cell? ⟨X, 6, none⟩ = some (.int .i64 op) := fun V g => (HBx.out.g g).b6
  have K8 : ∀ V, G W V → V.cell? ⟨a, kb, none⟩ = some (wd A) := fun V g => by rw [← HQ.out.A0]; exact (HMW.out.g g).reg hkb
  have K16 : ∀ V, G W V → V.cell? ⟨a, 16, none⟩ = some (wd s.h) := fun V g => (HMW.out.g g).ch
  have K17 : ∀ V, G W V → V.cell? ⟨a, 17, none⟩ = some (.bool s.n) := fun V g => (HMW.out.g g).cn
  have K18 : ∀ V, G W V → V.cell? ⟨a, 18, none⟩ = some (.bool s.z) := fun V g => (HMW.out.g g).cz
  have K19 : ∀ V, G W V → V.cell? ⟨a, 19, none⟩ = some (.bool s.c) := fun V g => (HMW.out.g g).cc
  have K20 : ∀ V, G W V → V.cell? ⟨a, 20, none⟩ = some (.bool s.v) := fun V g => (HMW.out.g g).cv
  have y0 : G W W := G.refl W
  have Z0 : ∀ (V : World) (p : By), (gr (V.alloc (.cells #[Value.int IntKind.u32 0, Value.int IntKind.u32 0, Value.bool false, Value.bool false, Value.bool false, Value.bool false, Value.bool false] 111)) p).cell? ⟨V.heap.size, 0, none⟩ = some (wd 0) := fun V p => (zt_cell (G.of _ p) 0).trans rfl
  have X0 : ∀ p : By, (gr (W.alloc (.cells #[Value.int IntKind.u32 0, Value.int IntKind.u32 0, Value.bool false, Value.bool false, Value.bool false, Value.bool false, Value.bool false] 111)).drew p).cell? ⟨W.heap.size, 0, none⟩ = some (wd 0) := fun p => (zt_cell (G.gr (G.drew (G.refl _)) p) 0).trans rfl
  have Z1 : ∀ (V : World) (p : By), (gr (V.alloc (.cells #[Value.int IntKind.u32 0, Value.int IntKind.u32 0, Value.bool false, Value.bool false, Value.bool false, Value.bool false, Value.bool false] 111)) p).cell? ⟨V.heap.size, 1, none⟩ = some (wd 0) := fun V p => (zt_cell (G.of _ p) 1).trans rfl
  have X1 : ∀ p : By, (gr (W.alloc (.cells #[Value.int IntKind.u32 0, Value.int IntKind.u32 0, Value.bool false, Value.bool false, Value.bool false, Value.bool false, Value.bool false] 111)).drew p).cell? ⟨W.heap.size, 1, none⟩ = some (wd 0) := fun p => (zt_cell (G.gr (G.drew (G.refl _)) p) 1).trans rfl
  have Z2 : ∀ (V : World) (p : By), (gr (V.alloc (.cells #[Value.int IntKind.u32 0, Value.int IntKind.u32 0, Value.bool false, Value.bool false, Value.bool false, Value.bool false, Value.bool false] 111)) p).cell? ⟨V.heap.size, 2, none⟩ = some (.bool false) := fun V p => (zt_cell (G.of _ p) 2).trans rfl
  have X2 : ∀ p : By, (gr (W.alloc (.cells #[Value.int IntKind.u32 0, Value.int IntKind.u32 0, Value.bool false, Value.bool false, Value.bool false, Value.bool false, Value.bool false] 111)).drew p).cell? ⟨W.heap.size, 2, none⟩ = some (.bool false) := fun p => (zt_cell (G.gr (G.drew (G.refl _)) p) 2).trans rfl
  have Z3 : ∀ (V : World) (p : By), (gr (V.alloc (.cells #[Value.int IntKind.u32 0, Value.int IntKind.u32 0, Value.bool false, Value.bool false, Value.bool false, Value.bool false, Value.bool false] 111)) p).cell? ⟨V.heap.size, 3, none⟩ = some (.bool false) := fun V p => (zt_cell (G.of _ p) 3).trans rfl
  have X3 : ∀ p : By, (gr (W.alloc (.cells #[Value.int IntKind.u32 0, Value.int IntKind.u32 0, Value.bool false, Value.bool false, Value.bool false, Value.bool false, Value.bool false] 111)).drew p).cell? ⟨W.heap.size, 3, none⟩ = some (.bool false) := fun p => (zt_cell (G.gr (G.drew (G.refl _)) p) 3).trans rfl
  have Z4 : ∀ (V : World) (p : By), (gr (V.alloc (.cells #[Value.int IntKind.u32 0, Value.int IntKind.u32 0, Value.bool false, Value.bool false, Value.bool false, Value.bool false, Value.bool false] 111)) p).cell? ⟨V.heap.size, 4, none⟩ = some (.bool false) := fun V p => (zt_cell (G.of _ p) 4).trans rfl
  have X4 : ∀ p : By, (gr (W.alloc (.cells #[Value.int IntKind.u32 0, Value.int IntKind.u32 0, Value.bool false, Value.bool false, Value.bool false, Value.bool false, Value.bool false] 111)).drew p).cell? ⟨W.heap.size, 4, none⟩ = some (.bool false) := fun p => (zt_cell (G.gr (G.drew (G.refl _)) p) 4).trans rfl
  have Z5 : ∀ (V : World) (p : By), (gr (V.alloc (.cells #[Value.int IntKind.u32 0, Value.int IntKind.u32 0, Value.bool false, Value.bool false, Value.bool false, Value.bool false, Value.bool false] 111)) p).cell? ⟨V.heap.size, 5, none⟩ = some (.bool false) := fun V p => (zt_cell (G.of _ p) 5).trans rfl
  have X5 : ∀ p : By, (gr (W.alloc (.cells #[Value.int IntKind.u32 0, Value.int IntKind.u32 0, Value.bool false, Value.bool false, Value.bool false, Value.bool false, Value.bool false] 111)).drew p).cell? ⟨W.heap.size, 5, none⟩ = some (.bool false) := fun p => (zt_cell (G.gr (G.drew (G.refl _)) p) 5).trans rfl
  have Z6 : ∀ (V : World) (p : By), (gr (V.alloc (.cells #[Value.int IntKind.u32 0, Value.int IntKind.u32 0, Value.bool false, Value.bool false, Value.bool false, Value.bool false, Value.bool false] 111)) p).cell? ⟨V.heap.size, 6, none⟩ = some (.bool false) := fun V p => (zt_cell (G.of _ p) 6).trans rfl
  have X6 : ∀ p : By, (gr (W.alloc (.cells #[Value.int IntKind.u32 0, Value.int IntKind.u32 0, Value.bool false, Value.bool false, Value.bool false, Value.bool false, Value.bool false] 111)).drew p).cell? ⟨W.heap.size, 6, none⟩ = some (.bool false) := fun p => (zt_cell (G.gr (G.drew (G.refl _)) p) 6).trans rfl
  have F0 : ∀ (V : World) (i : Nat), (V.alloc (.cells #[Value.int IntKind.u32 0, Value.int IntKind.u32 0, Value.bool false, Value.bool false, Value.bool false, Value.bool false, Value.bool false] 111)).frozen? ⟨V.heap.size, i, none⟩ = false := fun V i => zt_free (G.refl _) i
  have F1 : ∀ i : Nat, (W.alloc (.cells #[Value.int IntKind.u32 0, Value.int IntKind.u32 0, Value.bool false, Value.bool false, Value.bool false, Value.bool false, Value.bool false] 111)).drew.frozen? ⟨W.heap.size, i, none⟩ = false := fun i => zt_free (V := W) (G.drew (G.refl _)) i
  have hgg := gr_gr
  have hfz := gr_frozen
  have la : a < W.heap.size := HMW.out.lt
  have s0 : W.heap.size ≤ W.drew.heap.size := Nat.le_refl _
  have s1 : ∀ p : By, W.heap.size ≤ (gr W.drew p).heap.size := fun p => by rw [gr_size]; exact Nat.le_add_right _ _
  clear b0 b1 b2 b3 b4 b5 b6 b7 ck
  go_cut [8] from 87 (fun s8 wc => ∃ q, s8 = ptr q ∧ G W wc ∧ a < q ∧ wc.cell? ⟨q, 0, none⟩ = some (wd r) ∧ wc.cell? ⟨q, 1, none⟩ = some (wd h') ∧ wc.cell? ⟨q, 2, none⟩ = some (.bool n') ∧ wc.cell? ⟨q, 3, none⟩ = some (.bool z') ∧ wc.cell? ⟨q, 4, none⟩ = some (.bool c') ∧ wc.cell? ⟨q, 5, none⟩ = some (.bool v'))
  case first =>
    go_region_held3 (fun V => G W V) ((with_reducible repeat' (first | exact y0 | exact s0 | exact s1 _ | exact Nat.le_refl _ | apply G.gr | apply G.drew | apply G.alloc | refine G.set ?_ ?_ _)))
      (first
      | (go_at_call 64; refine (qdo HM.out.ok HQ.out _ (by have := HNe.out; omega)).mono ?_; rintro e w2 ⟨rfl, p, rfl⟩))
    all_goals (go_wp2_with fail; go_meet)
    all_goals (case rel =>
      clear K1 K4 K6 K8 K16 K17 K18 K19 K20 F0 F1 hgg hfz Z0 Z1 Z2 Z3 Z4 Z5 Z6 X0 X1 X2 X3 X4 X5 X6
      refine ⟨_, rfl, ?_, ?_, ?_⟩
      · (with_reducible repeat' (first | exact y0 | exact s0 | exact s1 _ | exact Nat.le_refl _ | apply G.gr | apply G.drew | apply G.alloc | refine G.set ?_ ?_ _))
      · (first | with_reducible exact la | with_reducible exact Nat.lt_of_lt_of_le la (s1 _))
      · (first | with_reducible exact zt_set (zt_blk (G.of _ _)) _ _ _ _ _ _ _ | with_reducible exact zt_set (zt_blk (G.gr (G.drew (G.refl _)) _)) _ _ _ _ _ _ _ | exact ⟨by simp, by simp, by simp, by simp, by simp, by simp⟩))
  case rest =>
    obtain ⟨q, rfl, gc, hq, q0, q1, q2, q3, q4, q5⟩ := hcut
    have nq : ¬ q = a := by omega
    clear K1 K4 K6 K8 K16 K17 K18 K19 K20 Z0 Z1 Z2 Z3 Z4 Z5 Z6 X0 X1 X2 X3 X4 X5 X6 F0 F1 hgg hfz y0 s0 s1
    have HG2 := hd (G.trans HG.out gc)
    have HMC := hd (HM.out.g HG2.out)
    have b3 := (HBx.out.g gc).b3
    have c0 := HMC.out.reg hka
    have f0 := HMC.out.free ka
    have c16 := HMC.out.ch
    have f16 := HMC.out.free 16
    have c17 := HMC.out.cn
    have f17 := HMC.out.free 17
    have c18 := HMC.out.cz
    have f18 := HMC.out.free 18
    have c19 := HMC.out.cc
    have f19 := HMC.out.free 19
    have c20 := HMC.out.cv
    have f20 := HMC.out.free 20
    have d16 : ¬ ka = 16 := by omega
    have d17 : ¬ ka = 17 := by omega
    have d18 : ¬ ka = 18 := by omega
    have d19 : ¬ ka = 19 := by omega
    have d20 : ¬ ka = 20 := by omega
    clear gc
    go_wp2
    go_region_held3 (fun V => V.cell? ⟨X, 3, none⟩ = some (.int .i64 ka) ∧ V.cell? ⟨q, 0, none⟩ = some (wd r) ∧ V.cell? ⟨q, 1, none⟩ = some (wd h') ∧ V.cell? ⟨q, 2, none⟩ = some (.bool n') ∧ V.cell? ⟨q, 3, none⟩ = some (.bool z') ∧ V.cell? ⟨q, 4, none⟩ = some (.bool c') ∧ V.cell? ⟨q, 5, none⟩ = some (.bool v'))
      (((try simp only [cell_dr, cell_off _ _ _ _ _ nx, cell_off _ _ _ _ _ nq]); exact ⟨b3, q0, q1, q2, q3, q4, q5⟩)) (fail)
    go_wp2
    go_end0
    exact ⟨rfl, (HMC.out.did6 op u kb hka HQ.out.NW HQ.out.r0 HQ.out.h0 HQ.out.n0 HQ.out.z0 HQ.out.c0 HQ.out.v0).g (G.drew (G.refl _)), grown_drew (grown_trans (grown_g HG2.out _) (grown_set6 _ _ _ _ _ _ _ _ _ _ _ _ _ _))⟩
end
end Go.Proofs.YtjneaphlghfbhaaGreatDoor.Qpu
namespace Go.Proofs.YtjneaphlghfbhaaGreatDoor.Qpu
open Go.RowKit Go.Proofs.YtjneaphlghfbhaaGreatDoor.Bits Go.Proofs.YtjneaphlghfbhaaGreatDoor.Gw Go.Proofs.YtjneaphlghfbhaaGreatDoor.Risc Go.Proofs.YtjneaphlghfbhaaGreatDoor.Alu Go.Proofs.YtjneaphlghfbhaaGreatDoor.Mem Go.Proofs.YtjneaphlghfbhaaGreatDoor.Cpu
set_option linter.unusedVariables false
set_option maxRecDepth 100000

section
variable {w : World} {a hb b : Nat} {o : Value} {inp : ByteArray} {s : Ms} {st : Nat}
theorem of_setq {w w' : World} {o : Value} {s' : Ms} {e : Ending} (h : e = .returned unit ∧ QMach w' a hb b o inp s' st ∧ w.grownBy w' (some a)) : e = .returned unit ∧ ∃ o', QMach w' a hb b o' inp s' st ∧ Chg (fp a b o) w w' ∧ Nw w o o' :=
  ⟨h.1, o, h.2.1, Chg.one h.2.2 (by simp [fp]), Nw.refl _ _⟩
theorem qn_of (ok : s.ok inp) (f : Int) (u v : Bool) (kb kc : Nat) (op im : Int) (hf : f = 0 ∨ f = 1) (hi : f = 1 → 0 ≤ im ∧ im ≤ 65535) (hk : Alu.okB op u = true) : ∃ N A r h' n' z' c' v', Qn s f u v kb kc op im N A r h' n' z' c' v' :=
  ⟨_, _, _, _, _, _, _, _, ⟨rfl, ok.opd hf hi, rfl, ok.reg kb, rfl, rfl, rfl, rfl, rfl, rfl, qdid_val hk⟩⟩
theorem qreg_any (h : QMach w a hb b o inp s st) (f : Int) (u v : Bool) (ka kb kc : Nat) (op im : Int) (hka : ka < 16) (hkb : kb < 16) (hkc : kc < 16) (hf : f = 0 ∨ f = 1) (hg : Gd f u v ka kb kc op im) :
    Calls Tryz.prog 39 #[ptr a, ins f u v ka kb kc op im] w fun e w' => e = .returned unit ∧ ∃ o', QMach w' a hb b o' inp (s.reckon f u v ka kb kc op im) st ∧ Chg (fp a b o) w w' ∧ Nw w o o' := by
  unfold Ms.reckon
  by_cases h1 : op = 0 ∧ u = true ∧ f = 1
  · rw [if_pos h1]
    obtain ⟨ho, hu, rfl⟩ := h1
    exact (qreg_a h u v ka kb kc op im hka hkc (hg.im1 rfl).1 (hg.im1 rfl).2 ho hu).mono fun _ _ k => of_setq k
  · rw [if_neg h1]
    by_cases h2 : op = 0 ∧ u = true ∧ v = true
    · rw [if_pos h2]
      obtain ⟨ho, hu, hv⟩ := h2
      rcases hf with rfl | rfl
      · exact (qreg_b h u v ka kb kc op im hka hkc ho hu hv).mono fun _ _ k => of_setq k
      · exact absurd ⟨ho, hu, rfl⟩ h1
    · rw [if_neg h2]
      obtain ⟨N, A, r, h', n', z', c', v', q⟩ := qn_of h.ok f u v kb kc op im hf hg.im1 (hg.ok hf)
      rcases hf with rfl | rfl
      · exact (qreg_c0 h u v ka kb kc op im hka hkb hkc q h2).mono fun _ _ k => of_setq k
      · have n2 : ¬ (op = 0 ∧ u = true) := fun e => h1 ⟨e.1, e.2, rfl⟩
        cases v
        · exact (qreg_c1 h u ka kb kc op im hka hkb hkc q n2 (hg.im1 rfl).1 (hg.im1 rfl).2).mono fun _ _ k => of_setq k
        · exact (qreg_c2 h u ka kb kc op im hka hkb hkc q n2 (hg.im1 rfl).1 (hg.im1 rfl).2).mono fun _ _ k => of_setq k
theorem qjump_any (h : QMach w a hb b o inp s st) (u v : Bool) (ka : Nat) (hka : ka < 16) (y : Int) (kc : Nat) (op im : Int) (hkc : kc < 16) (i0 : -8388608 ≤ im) (i1 : im ≤ 8388607) :
    Calls Tryz.prog 41 #[ptr a, ins 3 u v ka y kc op im] w fun e w' => e = .returned unit ∧ ∃ o', QMach w' a hb b o' inp (s.jump u v ka kc im) st ∧ Chg (fp a b o) w w' ∧ Nw w o o' := by
  unfold Ms.jump
  cases hh : holdsB ka s.n s.z s.c s.v
  · exact (qjump_no h u v ka hka y kc hkc op im hh).mono fun _ _ ⟨k1, k2, k3⟩ => ⟨k1, o, k2, Chg.g k3, Nw.refl _ _⟩
  · exact qjump_yes h u v ka hka y kc op im hkc i0 i1 hh
set_option maxHeartbeats 1000000 in
theorem qstep_out (h : QMach w a hb b o inp s st) (hst : st < 4194304) (hp : ¬ s.pc < s.xs.length) :
    Calls Tryz.prog 20 #[ptr a] w fun e w' => e = .returned unit ∧ ∃ o', QMach w' a hb b o' inp { s with en := 5 } (st + 1) ∧ Chg (fp a b o) w w' ∧ Nw w o o' := by
  have HST : Hid (((st + 1 : Nat) : Int) = (st : Int) + 1) := hd (by omega)
  have HM1 := hd (h.st1 (st + 1))
  have HG1 := hd (grown_set w a 26 (.int .i64 ((st : Int) + 1)))
  have c26 := h.cst
  have f26 := h.free 26
  have is : (st : Int) < 4194304 := by omega
  obtain ⟨P, hP⟩ := Int.eq_ofNat_of_zero_le h.ok.pc0
  have HP : Hid (s.pc = (P : Int)) := hd hP
  obtain ⟨L, hL⟩ : ∃ L, s.xs.length = L := ⟨_, rfl⟩
  have HL := hd hL
  have ip : (L : Int) ≤ (P : Int) := by rw [hP, hL] at hp; omega
  clear h hst hp hP hL
  (go_enter Tryz.func20, Tryz.ntmps20; go_upto_region 1 with fail; rw [HST.out] at HM1; generalize w.setCell ⟨a, 26, none⟩ (.int .i64 ((st : Int) + 1)) = W at HM1 HG1 ⊢; have c21 := HM1.out.cpc; have c22 := HM1.out.cmem; have c27 := HM1.out.cen; have f27 := HM1.out.free 27; rw [HP.out] at c21; have CS : ∀ V, G W V → Calls Tryz.prog 25 #[ptr hb] V fun e w' => e = .returned (.int .i64 s.xs.length) ∧ w' = V := fun V g => rsize_ob (HM1.out.g g).ob; rw [HL.out] at CS; go_quiet ((go_at_call 25; exact Calls.quiet_of_same (CS _ ((G.refl _).drewN _)))))
  go_wp2
  refine bodyPost_ret (results_none rfl _ _ _) rfl ?_
  exact ⟨rfl, o, (HM1.out.g ((G.refl _).drewN _)).en1 (by decide) (by decide), Chg.trans0 (Chg.one HG1.out (by simp [fp])) (Chg.trans0 (Chg.g ((G.refl _).drewN _)) (Chg.one (grown_set _ _ _ _) (by simp [fp]))), Nw.refl _ _⟩
end
end Go.Proofs.YtjneaphlghfbhaaGreatDoor.Qpu
namespace Go.Proofs.YtjneaphlghfbhaaGreatDoor.Qpu
open Go.RowKit Go.Proofs.YtjneaphlghfbhaaGreatDoor.Bits Go.Proofs.YtjneaphlghfbhaaGreatDoor.Gw Go.Proofs.YtjneaphlghfbhaaGreatDoor.Risc Go.Proofs.YtjneaphlghfbhaaGreatDoor.Alu Go.Proofs.YtjneaphlghfbhaaGreatDoor.Mem Go.Proofs.YtjneaphlghfbhaaGreatDoor.Cpu
set_option linter.unusedVariables false
set_option maxRecDepth 100000

section
variable {w : World} {a hb b : Nat} {o : Value} {inp : ByteArray} {s : Ms} {st : Nat}
theorem zb_cell {V V' : World} (g : G (V.alloc (.cells #[Value.int IntKind.i64 0, Value.bool false, Value.bool false, Value.int IntKind.i64 0, Value.int IntKind.i64 0, Value.int IntKind.i64 0, Value.int IntKind.i64 0, Value.int IntKind.i64 0] 46)) V') (i : Nat) : V'.cell? ⟨V.heap.size, i, none⟩ = (#[Value.int IntKind.i64 0, Value.bool false, Value.bool false, Value.int IntKind.i64 0, Value.int IntKind.i64 0, Value.int IntKind.i64 0, Value.int IntKind.i64 0, Value.int IntKind.i64 0] : Array Value)[i]? := by
  rw [g.cell (by simp)]
  exact cell_of_row (V.alloc (.cells #[Value.int IntKind.i64 0, Value.bool false, Value.bool false, Value.int IntKind.i64 0, Value.int IntKind.i64 0, Value.int IntKind.i64 0, Value.int IntKind.i64 0, Value.int IntKind.i64 0] 46)) V.heap.size i _ _ (0, 0) (heap_alloc_new V _)
theorem zb_free {V V' : World} (g : G (V.alloc (.cells #[Value.int IntKind.i64 0, Value.bool false, Value.bool false, Value.int IntKind.i64 0, Value.int IntKind.i64 0, Value.int IntKind.i64 0, Value.int IntKind.i64 0, Value.int IntKind.i64 0] 46)) V') (i : Nat) : V'.frozen? ⟨V.heap.size, i, none⟩ = false := by
  rw [g.frozen]
  unfold World.frozen?
  rw [heap_alloc_new V (.cells #[Value.int IntKind.i64 0, Value.bool false, Value.bool false, Value.int IntKind.i64 0, Value.int IntKind.i64 0, Value.int IntKind.i64 0, Value.int IntKind.i64 0, Value.int IntKind.i64 0] 46)]
  simp
theorem zb_blk {V V' : World} (g : G (V.alloc (.cells #[Value.int IntKind.i64 0, Value.bool false, Value.bool false, Value.int IntKind.i64 0, Value.int IntKind.i64 0, Value.int IntKind.i64 0, Value.int IntKind.i64 0, Value.int IntKind.i64 0] 46)) V') : V'.heap[V.heap.size]? = some (.cells [Value.int IntKind.i64 0, Value.bool false, Value.bool false, Value.int IntKind.i64 0, Value.int IntKind.i64 0, Value.int IntKind.i64 0, Value.int IntKind.i64 0, Value.int IntKind.i64 0].toArray 46 (0, 0)) := by
  obtain ⟨p, rfl⟩ := g
  rw [gr_old _ p (by simp)]
  exact heap_alloc_new V _
theorem zb_set {V' : World} {q : Nat} {l0 l1 l2 l3 l4 l5 l6 l7 : Value} {t : TypeId} (h : V'.heap[q]? = some (.cells [l0, l1, l2, l3, l4, l5, l6, l7].toArray t (0, 0))) (f : Int) (u v : Bool) (A B C op im : Int) :
    Bx ((((((((V'.setCell ⟨q, 0, none⟩ (.int .i64 f)).setCell ⟨q, 1, none⟩ (.bool u)).setCell ⟨q, 2, none⟩ (.bool v)).setCell ⟨q, 3, none⟩ (.int .i64 A)).setCell ⟨q, 4, none⟩ (.int .i64 B)).setCell ⟨q, 5, none⟩ (.int .i64 C)).setCell ⟨q, 6, none⟩ (.int .i64 op)).setCell ⟨q, 7, none⟩ (.int .i64 im)) q f u v A B C op im := by
  have := blk_set (blk_set (blk_set (blk_set (blk_set (blk_set (blk_set (blk_set h 0 (.int .i64 f)) 1 (.bool u)) 2 (.bool v)) 3 (.int .i64 A)) 4 (.int .i64 B)) 5 (.int .i64 C)) 6 (.int .i64 op)) 7 (.int .i64 im)
  exact ⟨(cell_blk this 0).trans (by simp), (cell_blk this 1).trans (by simp), (cell_blk this 2).trans (by simp), (cell_blk this 3).trans (by simp), (cell_blk this 4).trans (by simp), (cell_blk this 5).trans (by simp), (cell_blk this 6).trans (by simp), (cell_blk this 7).trans (by simp), lt_of_block this⟩
theorem from_chgq {W w' : World} {o' : Value} {s' : Ms} {st' : Nat} (g : Chg (fp a b o) w W ∧ w.heap.size ≤ W.heap.size) (h : QMach w' a hb b o' inp s' st' ∧ Chg (fp a b o) W w' ∧ Nw W o o') : QMach w' a hb b o' inp s' st' ∧ Chg (fp a b o) w w' ∧ Nw w o o' :=
  ⟨h.1, Chg.trans0 g.1 h.2.1, h.2.2.back g.2⟩
set_option maxHeartbeats 4000000 in
theorem qstep_in (h : QMach w a hb b o inp s st) (hst : st < 4194304) (hp : s.pc < s.xs.length) (f : Int) (u v : Bool) (ka kb kc : Nat) (op im er : Int)
    (hD : (if decR (at0 s.xs s.pc.toNat) = true then Value.tuple #[uIns (at0 s.xs s.pc.toNat), .int .i64 0] else .tuple #[zIns, .int .i64 20]) = .tuple #[ins f u v ka kb kc op im, .int .i64 er])
    (hE : er = 20 ∨ (er = 0 ∧ Gd f u v ka kb kc op im)) :
    Calls Tryz.prog 20 #[ptr a] w fun e w' => e = .returned unit ∧ ∃ o', QMach w' a hb b o' inp (if er = 0 then { s with pc := s.pc + 1 }.exec inp f u v ka kb kc op im else { s with en := 4 }) (st + 1) ∧ Chg (fp a b o) w w' ∧ Nw w o o' := by
  have HST : Hid (((st + 1 : Nat) : Int) = (st : Int) + 1) := hd (by omega)
  have HM1 := hd (h.st1 (st + 1))
  have HG1 := hd (grown_set w a 26 (.int .i64 ((st : Int) + 1)))
  have c26 := h.cst
  have f26 := h.free 26
  have is : (st : Int) < 4194304 := by omega
  obtain ⟨P, hP⟩ := Int.eq_ofNat_of_zero_le h.ok.pc0
  have HP : Hid (s.pc = (P : Int)) := hd hP
  obtain ⟨L, hL⟩ : ∃ L, s.xs.length = L := ⟨_, rfl⟩
  have HL := hd hL
  have ip : ¬ (L : Int) ≤ (P : Int) := by rw [hP, hL] at hp; omega
  have ip0 : (0 : Int) ≤ (P : Int) := by omega
  have ip1 : (P : Int) < (L : Int) := by omega
  have ipn : P < L := by omega
  have HXL : Hid (L ≤ 65536) := hd (by rw [← hL]; exact h.ok.xs1)
  obtain ⟨V, hV⟩ : ∃ V, at0 s.xs s.pc.toNat = V := ⟨_, rfl⟩
  have HV : Hid (at0 s.xs P = V) := hd (by rw [← hV, hP]; rfl)
  have HR : Hid (W32 V) := hd (by rw [← hV]; exact rng_at h.ok.xr _)
  rw [hV] at hD
  have HD := hd hD
  have HE := hd hE
  clear h hst hp hP hL hV hD hE
  (go_enter Tryz.func20, Tryz.ntmps20; go_upto_region 1 with fail; rw [HST.out] at HM1; generalize w.setCell ⟨a, 26, none⟩ (.int .i64 ((st : Int) + 1)) = W0 at HM1 HG1 ⊢; have c21 := HM1.out.cpc; have c22 := HM1.out.cmem; rw [HP.out] at c21; have CS : ∀ V, G W0 V → Calls Tryz.prog 25 #[ptr hb] V fun e w' => e = .returned (.int .i64 s.xs.length) ∧ w' = V := fun V g => rsize_ob (HM1.out.g g).ob; rw [HL.out] at CS; go_quiet ((go_at_call 25; exact Calls.quiet_of_same (CS _ ((G.refl _).drewN _)))))
  have HGW := hd ((G.refl W0).drewN nq)
  go_upto_region 3 with fail
  generalize W0.drewN nq = W at HGW ⊢
  have HMW := hd (HM1.out.g HGW.out)
  have HGA : Hid (Chg (fp a b o) w W ∧ w.heap.size ≤ W.heap.size) := hd ⟨Chg.trans0 (Chg.one HG1.out (by simp [fp])) (Chg.g HGW.out), Nat.le_trans HG1.out.size HGW.out.size⟩
  obtain ⟨cp, hmm⟩ := HMW.out.mem
  have K21 : ∀ V, G W V → V.cell? ⟨a, 21, none⟩ = some (.int .i64 P) := fun V g => by rw [← HP.out]; exact (HMW.out.g g).cpc
  have K22 : ∀ V, G W V → V.cell? ⟨a, 22, none⟩ = some (ptr hb) := fun V g => (HMW.out.g g).cmem
  have Kh : ∀ V, G W V → V.cell? ⟨hb, 0, none⟩ = some (.slice (some ⟨b, 0, none⟩) L cp) := fun V g => by rw [← HL.out]; exact (hmm.kept (grown_g g none) (by simp) (by simp)).cell
  have Kb : ∀ V', G W V' → V'.cell? ⟨b, P, none⟩ = some (wd V) := fun V' g => by rw [← HV.out]; exact (hmm.kept (grown_g g none) (by simp) (by simp)).row.cell (by rw [HL.out]; exact ipn)
  have HMM := hd hmm
  have y0 : G W W := G.refl W
  have Z0 : ∀ (V : World) (p : By), (gr (V.alloc (.cells #[Value.int IntKind.i64 0, Value.bool false, Value.bool false, Value.int IntKind.i64 0, Value.int IntKind.i64 0, Value.int IntKind.i64 0, Value.int IntKind.i64 0, Value.int IntKind.i64 0] 46)) p).cell? ⟨V.heap.size, 0, none⟩ = some (.int .i64 0) := fun V p => (zb_cell (G.of _ p) 0).trans rfl
  have X0 : ∀ p : By, (gr (W.alloc (.cells #[Value.int IntKind.i64 0, Value.bool false, Value.bool false, Value.int IntKind.i64 0, Value.int IntKind.i64 0, Value.int IntKind.i64 0, Value.int IntKind.i64 0, Value.int IntKind.i64 0] 46)).drew p).cell? ⟨W.heap.size, 0, none⟩ = some (.int .i64 0) := fun p => (zb_cell (G.gr (G.drew (G.refl _)) p) 0).trans rfl
  have Z1 : ∀ (V : World) (p : By), (gr (V.alloc (.cells #[Value.int IntKind.i64 0, Value.bool false, Value.bool false, Value.int IntKind.i64 0, Value.int IntKind.i64 0, Value.int IntKind.i64 0, Value.int IntKind.i64 0, Value.int IntKind.i64 0] 46)) p).cell? ⟨V.heap.size, 1, none⟩ = some (.bool false) := fun V p => (zb_cell (G.of _ p) 1).trans rfl
  have X1 : ∀ p : By, (gr (W.alloc (.cells #[Value.int IntKind.i64 0, Value.bool false, Value.bool false, Value.int IntKind.i64 0, Value.int IntKind.i64 0, Value.int IntKind.i64 0, Value.int IntKind.i64 0, Value.int IntKind.i64 0] 46)).drew p).cell? ⟨W.heap.size, 1, none⟩ = some (.bool false) := fun p => (zb_cell (G.gr (G.drew (G.refl _)) p) 1).trans rfl
  have Z2 : ∀ (V : World) (p : By), (gr (V.alloc (.cells #[Value.int IntKind.i64 0, Value.bool false, Value.bool false, Value.int IntKind.i64 0, Value.int IntKind.i64 0, Value.int IntKind.i64 0, Value.int IntKind.i64 0, Value.int IntKind.i64 0] 46)) p).cell? ⟨V.heap.size, 2, none⟩ = some (.bool false) := fun V p => (zb_cell (G.of _ p) 2).trans rfl
  have X2 : ∀ p : By, (gr (W.alloc (.cells #[Value.int IntKind.i64 0, Value.bool false, Value.bool false, Value.int IntKind.i64 0, Value.int IntKind.i64 0, Value.int IntKind.i64 0, Value.int IntKind.i64 0, Value.int IntKind.i64 0] 46)).drew p).cell? ⟨W.heap.size, 2, none⟩ = some (.bool false) := fun p => (zb_cell (G.gr (G.drew (G.refl _)) p) 2).trans rfl
  have Z3 : ∀ (V : World) (p : By), (gr (V.alloc (.cells #[Value.int IntKind.i64 0, Value.bool false, Value.bool false, Value.int IntKind.i64 0, Value.int IntKind.i64 0, Value.int IntKind.i64 0, Value.int IntKind.i64 0, Value.int IntKind.i64 0] 46)) p).cell? ⟨V.heap.size, 3, none⟩ = some (.int .i64 0) := fun V p => (zb_cell (G.of _ p) 3).trans rfl
  have X3 : ∀ p : By, (gr (W.alloc (.cells #[Value.int IntKind.i64 0, Value.bool false, Value.bool false, Value.int IntKind.i64 0, Value.int IntKind.i64 0, Value.int IntKind.i64 0, Value.int IntKind.i64 0, Value.int IntKind.i64 0] 46)).drew p).cell? ⟨W.heap.size, 3, none⟩ = some (.int .i64 0) := fun p => (zb_cell (G.gr (G.drew (G.refl _)) p) 3).trans rfl
  have Z4 : ∀ (V : World) (p : By), (gr (V.alloc (.cells #[Value.int IntKind.i64 0, Value.bool false, Value.bool false, Value.int IntKind.i64 0, Value.int IntKind.i64 0, Value.int IntKind.i64 0, Value.int IntKind.i64 0, Value.int IntKind.i64 0] 46)) p).cell? ⟨V.heap.size, 4, none⟩ = some (.int .i64 0) := fun V p => (zb_cell (G.of _ p) 4).trans rfl
  have X4 : ∀ p : By, (gr (W.alloc (.cells #[Value.int IntKind.i64 0, Value.bool false, Value.bool false, Value.int IntKind.i64 0, Value.int IntKind.i64 0, Value.int IntKind.i64 0, Value.int IntKind.i64 0, Value.int IntKind.i64 0] 46)).drew p).cell? ⟨W.heap.size, 4, none⟩ = some (.int .i64 0) := fun p => (zb_cell (G.gr (G.drew (G.refl _)) p) 4).trans rfl
  have Z5 : ∀ (V : World) (p : By), (gr (V.alloc (.cells #[Value.int IntKind.i64 0, Value.bool false, Value.bool false, Value.int IntKind.i64 0, Value.int IntKind.i64 0, Value.int IntKind.i64 0, Value.int IntKind.i64 0, Value.int IntKind.i64 0] 46)) p).cell? ⟨V.heap.size, 5, none⟩ = some (.int .i64 0) := fun V p => (zb_cell (G.of _ p) 5).trans rfl
  have X5 : ∀ p : By, (gr (W.alloc (.cells #[Value.int IntKind.i64 0, Value.bool false, Value.bool false, Value.int IntKind.i64 0, Value.int IntKind.i64 0, Value.int IntKind.i64 0, Value.int IntKind.i64 0, Value.int IntKind.i64 0] 46)).drew p).cell? ⟨W.heap.size, 5, none⟩ = some (.int .i64 0) := fun p => (zb_cell (G.gr (G.drew (G.refl _)) p) 5).trans rfl
  have Z6 : ∀ (V : World) (p : By), (gr (V.alloc (.cells #[Value.int IntKind.i64 0, Value.bool false, Value.bool false, Value.int IntKind.i64 0, Value.int IntKind.i64 0, Value.int IntKind.i64 0, Value.int IntKind.i64 0, Value.int IntKind.i64 0] 46)) p).cell? ⟨V.heap.size, 6, none⟩ = some (.int .i64 0) := fun V p => (zb_cell (G.of _ p) 6).trans rfl
  have X6 : ∀ p : By, (gr (W.alloc (.cells #[Value.int IntKind.i64 0, Value.bool false, Value.bool false, Value.int IntKind.i64 0, Value.int IntKind.i64 0, Value.int IntKind.i64 0, Value.int IntKind.i64 0, Value.int IntKind.i64 0] 46)).drew p).cell? ⟨W.heap.size, 6, none⟩ = some (.int .i64 0) := fun p => (zb_cell (G.gr (G.drew (G.refl _)) p) 6).trans rfl
  have Z7 : ∀ (V : World) (p : By), (gr (V.alloc (.cells #[Value.int IntKind.i64 0, Value.bool false, Value.bool false, Value.int IntKind.i64 0, Value.int IntKind.i64 0, Value.int IntKind.i64 0, Value.int IntKind.i64 0, Value.int IntKind.i64 0] 46)) p).cell? ⟨V.heap.size, 7, none⟩ = some (.int .i64 0) := fun V p => (zb_cell (G.of _ p) 7).trans rfl
  have X7 : ∀ p : By, (gr (W.alloc (.cells #[Value.int IntKind.i64 0, Value.bool false, Value.bool false, Value.int IntKind.i64 0, Value.int IntKind.i64 0, Value.int IntKind.i64 0, Value.int IntKind.i64 0, Value.int IntKind.i64 0] 46)).drew p).cell? ⟨W.heap.size, 7, none⟩ = some (.int .i64 0) := fun p => (zb_cell (G.gr (G.drew (G.refl _)) p) 7).trans rfl
  have F0 : ∀ (V : World) (i : Nat), (V.alloc (.cells #[Value.int IntKind.i64 0, Value.bool false, Value.bool false, Value.int IntKind.i64 0, Value.int IntKind.i64 0, Value.int IntKind.i64 0, Value.int IntKind.i64 0, Value.int IntKind.i64 0] 46)).frozen? ⟨V.heap.size, i, none⟩ = false := fun V i => zb_free (G.refl _) i
  have F1 : ∀ i : Nat, (W.alloc (.cells #[Value.int IntKind.i64 0, Value.bool false, Value.bool false, Value.int IntKind.i64 0, Value.int IntKind.i64 0, Value.int IntKind.i64 0, Value.int IntKind.i64 0, Value.int IntKind.i64 0] 46)).drew.frozen? ⟨W.heap.size, i, none⟩ = false := fun i => zb_free (V := W) (G.drew (G.refl _)) i
  have hgg := gr_gr
  have hfz := gr_frozen
  have la : a < W.heap.size := HMW.out.lt
  have s0 : W.heap.size ≤ W.drew.heap.size := Nat.le_refl _
  have s1 : ∀ p : By, W.heap.size ≤ (gr W.drew p).heap.size := fun p => by rw [gr_size]; exact Nat.le_add_right _ _
  have CD : ∀ W', Calls Tryz.prog 38 #[wd V] W' fun e w' => e = .returned (.tuple #[ins f u v ka kb kc op im, .int .i64 er]) ∧ ∃ p : By, w' = gr W' p := fun W' => by have := rdecode_any V W' HR.out.1 HR.out.2; rwa [HD.out] at this
  have HCD := hd CD
  clear CS CD c21 c22 hmm
  go_cut [2, 3] from 24 (fun s2 s3 wc => ∃ q, s2 = ptr q ∧ s3 = .int .i64 er ∧ G W wc ∧ a < q ∧ Bx wc q f u v ka kb kc op im)
  case first =>
    go_region_held3 (fun V => G W V) ((with_reducible repeat' (first | exact y0 | exact s0 | exact s1 _ | exact Nat.le_refl _ | apply G.gr | apply G.drew | apply G.alloc | refine G.set ?_ ?_ _)))
      (first
      | (go_at_call 38; refine (HCD.out _).mono ?_; rintro e w2 ⟨rfl, p, rfl⟩))
    all_goals (go_wp2_with fail; go_meet)
    all_goals (case rel =>
      clear K21 K22 Kh Kb F0 F1 hgg hfz Z0 Z1 Z2 Z3 Z4 Z5 Z6 Z7 X0 X1 X2 X3 X4 X5 X6 X7
      refine ⟨_, rfl, rfl, ?_, ?_, ?_⟩
      · (with_reducible repeat' (first | exact y0 | exact s0 | exact s1 _ | exact Nat.le_refl _ | apply G.gr | apply G.drew | apply G.alloc | refine G.set ?_ ?_ _))
      · (first | with_reducible exact la | with_reducible exact Nat.lt_of_lt_of_le la (s1 _))
      · (first | with_reducible exact zb_set (zb_blk (G.of _ _)) _ _ _ _ _ _ _ _ | with_reducible exact zb_set (zb_blk (G.gr (G.drew (G.refl _)) _)) _ _ _ _ _ _ _ _ | exact bx_new _ _ _ _ _ _ _ _ _))
  case rest =>
    obtain ⟨q, rfl, rfl, gc, hq, hbx⟩ := hcut
    have nq' : ¬ q = a := by omega
    have HBx := hd hbx
    have HMC := hd (HMW.out.g gc)
    have HGC : Hid (Chg (fp a b o) w wc ∧ w.heap.size ≤ wc.heap.size) := hd ⟨Chg.trans0 HGA.out.1 (Chg.g gc), Nat.le_trans HGA.out.2 gc.size⟩
    clear K21 K22 Kh Kb Z0 Z1 Z2 Z3 Z4 Z5 Z6 Z7 X0 X1 X2 X3 X4 X5 X6 X7 F0 F1 hgg hfz y0 s0 s1 HCD gc hbx
    rcases HE.out with rfl | ⟨rfl, hG⟩
    · have c27 := HMC.out.cen
      have f27 := HMC.out.free 27
      go_wp2
      refine bodyPost_ret (results_none rfl _ _ _) rfl ?_
      exact ⟨rfl, o, from_chgq HGC.out ⟨HMC.out.en1 (by decide) (by decide), Chg.one (grown_set _ _ _ _) (by simp [fp]), Nw.refl _ _⟩⟩
    · have HGd := hd hG
      have hka : ka < 16 := by have := hG.a0; omega
      have hkb : kb < 16 := by have := hG.b0; omega
      have hkc : kc < 16 := by have := hG.c0; omega
      have c21 := HMC.out.cpc
      have f21 := HMC.out.free 21
      rw [HP.out] at c21
      obtain ⟨s1, hs1⟩ : ∃ s1 : Ms, { s with pc := s.pc + 1 } = s1 := ⟨_, rfl⟩
      have HS1 := hd hs1
      have hn : (P : Int) + 1 < 1073741824 := by have := HXL.out; omega
      clear hG hs1
      go_upto_region 7 with fail
      have HB3 := hd (HBx.out.by (grown_set wc a 21 (.int .i64 ((P : Int) + 1))) (by simpa using fun e => nq' e.symm))
      have HM3 := hd (HMC.out.pc1 (p := (P : Int) + 1) (by omega) hn)
      have e1 : { s with pc := (P : Int) + 1 } = s1 := by rw [← HS1.out, HP.out]
      rw [e1] at HM3
      have HG3 : Hid (Chg (fp a b o) w (wc.setCell ⟨a, 21, none⟩ (.int .i64 ((P : Int) + 1))) ∧ w.heap.size ≤ (wc.setCell ⟨a, 21, none⟩ (.int .i64 ((P : Int) + 1))).heap.size) :=
        hd ⟨Chg.trans0 HGC.out.1 (Chg.one (grown_set _ _ _ _) (by simp [fp])), Nat.le_trans HGC.out.2 (grown_set wc a 21 (.int .i64 ((P : Int) + 1))).size⟩
      generalize wc.setCell ⟨a, 21, none⟩ (.int .i64 ((P : Int) + 1)) = W3 at HB3 HM3 HG3 ⊢
      obtain ⟨b0, b1, b2, b3, b4, b5, b6, b7, _⟩ := HB3.out
      clear c21 f21 HBx e1
      have hf := HGd.out.f0
      rcases hf with rfl | rfl | rfl | rfl
      · go_wp2_with (go_at_call 39; refine (qreg_any HM3.out _ _ _ _ _ _ _ _ hka hkb hkc (.inl rfl) HGd.out).mono ?_; rintro e w4 ⟨rfl, o', hm⟩; have HN := hd (from_chgq HG3.out hm); clear hm)
        go_end0
        exact ⟨rfl, o', by rw [HS1.out]; exact HN.out⟩
      · go_wp2_with (go_at_call 39; refine (qreg_any HM3.out _ _ _ _ _ _ _ _ hka hkb hkc (.inr rfl) HGd.out).mono ?_; rintro e w4 ⟨rfl, o', hm⟩; have HN := hd (from_chgq HG3.out hm); clear hm)
        go_end0
        exact ⟨rfl, o', by rw [HS1.out]; exact HN.out⟩
      · go_wp2_with (go_at_call 40; refine (qmem_any HM3.out _ _ _ _ _ _ _ hka hkb).mono ?_; rintro e w4 ⟨rfl, o', hm⟩; have HN := hd (from_chgq HG3.out hm); clear hm)
        go_end0
        exact ⟨rfl, o', by rw [HS1.out]; exact HN.out⟩
      · go_wp2_with (go_at_call 41; refine (qjump_any HM3.out _ _ _ hka _ _ _ _ hkc HGd.out.im0.1 HGd.out.im0.2).mono ?_; rintro e w4 ⟨rfl, o', hm⟩; have HN := hd (from_chgq HG3.out hm); clear hm)
        go_end0
        exact ⟨rfl, o', by rw [HS1.out]; exact HN.out⟩
theorem qstep_any (h : QMach w a hb b o inp s st) (hst : st < 4194304) :
    Calls Tryz.prog 20 #[ptr a] w fun e w' => e = .returned unit ∧ ∃ o', QMach w' a hb b o' inp (s.step inp) (st + 1) ∧ Chg (fp a b o) w w' ∧ Nw w o o' := by
  unfold Ms.step
  by_cases hp : s.pc < s.xs.length
  · rw [if_pos hp]
    cases hd' : decB (at0 s.xs s.pc.toNat)
    · refine (qstep_in h hst hp 0 false false 0 0 0 0 0 20 ?_ (.inl rfl)).mono ?_
      · rw [← dec_eq, hd']; rfl
      · intro e w' k
        simpa using k
    · obtain ⟨f, u, v, ka, kb, kc, op, im, hI, hG, hW⟩ := word_ins (inp := inp) hd'
      refine (qstep_in h hst hp f u v ka kb kc op im 0 ?_ (.inr ⟨rfl, hG⟩)).mono ?_
      · rw [← dec_eq, hd', if_pos rfl, hI]
      · intro e w' k
        rw [if_pos rfl] at k
        rw [if_pos rfl, hW]
        exact k
  · rw [if_neg hp]
    exact qstep_out h hst hp
end
end Go.Proofs.YtjneaphlghfbhaaGreatDoor.Qpu
namespace Go.Proofs.YtjneaphlghfbhaaGreatDoor.Qpu
open Go.RowKit Go.Proofs.YtjneaphlghfbhaaGreatDoor.Bits Go.Proofs.YtjneaphlghfbhaaGreatDoor.Gw Go.Proofs.YtjneaphlghfbhaaGreatDoor.Risc Go.Proofs.YtjneaphlghfbhaaGreatDoor.Alu Go.Proofs.YtjneaphlghfbhaaGreatDoor.Mem Go.Proofs.YtjneaphlghfbhaaGreatDoor.Cpu
set_option linter.unusedVariables false
set_option maxRecDepth 100000

section
variable {w : World} {a hb b : Nat} {o : Value} {inp : ByteArray} {s : Ms} {st : Nat}
set_option maxHeartbeats 2000000 in
theorem qrun_no (v : Value) (k : Int) (w : World) (hk : v = .pointer none ∨ (∃ a, v = ptr a) ∧ (k < 0 ∨ 4194304 < k)) :
    Calls Tryz.prog 11 #[v, .int .i64 k] w fun e w' => e = .returned (.tuple #[.agg #[.int .i64 0, .int .i64 0, .string ⟨#[]⟩, .int .i64 0, .int .i64 0], .int .i64 1]) ∧ G w w' := by
  rcases hk with rfl | ⟨⟨a, rfl⟩, hk | hk⟩
  · go_enter Tryz.func11, Tryz.ntmps11
    go_wp2
    exact bodyPost_ret (v := .tuple #[.agg #[.int .i64 0, .int .i64 0, .string ⟨#[]⟩, .int .i64 0, .int .i64 0], .int .i64 1]) (by simp [results, Tryz.results11, go_sem]) rfl ⟨rfl, (G.refl _).alloc _ _⟩
  · go_enter Tryz.func11, Tryz.ntmps11
    go_wp2
    exact bodyPost_ret (v := .tuple #[.agg #[.int .i64 0, .int .i64 0, .string ⟨#[]⟩, .int .i64 0, .int .i64 0], .int .i64 1]) (by simp [results, Tryz.results11, go_sem]) rfl ⟨rfl, (G.refl _).alloc _ _⟩
  · have h0 : ¬ k < 0 := by omega
    go_enter Tryz.func11, Tryz.ntmps11
    go_wp2
    exact bodyPost_ret (v := .tuple #[.agg #[.int .i64 0, .int .i64 0, .string ⟨#[]⟩, .int .i64 0, .int .i64 0], .int .i64 1]) (by simp [results, Tryz.results11, go_sem]) rfl ⟨rfl, (G.refl _).alloc _ _⟩
theorem QMach.ffp_lt (h : QMach w a hb b o inp s st) : ∀ k ∈ ffp a hb b o, k < w.heap.size := by
  intro k hk
  rcases ffp_mem.1 hk with rfl | rfl | rfl | hk
  · exact h.lth
  · exact h.lt
  · exact h.ltb
  · exact (h.lto hk).2
theorem QMach.fp_lt (h : QMach w a hb b o inp s st) : ∀ k ∈ fp a b o, k < w.heap.size := fun k hk => h.ffp_lt k (by simp [ffp, hk])
theorem qrun_fin {C : Obj} {o1 : Value} {s1 : Ms} {wr WF : World} {st1 : Nat} (hM : QMach w a hb b o inp s st) (hm : QMach wr a hb b o1 inp s1 st1) (hc : Chg (fp a b o) (w.alloc C) wr) (hn : Nw (w.alloc C) o o1) {N : Nat} (eN : w.heap.size = N) (hg : wr.grownBy WF (some N)) :
    QMach WF a hb b o1 inp s1 st1 ∧ Chg (fp a b o) w WF ∧ Nw w o o1 := by
  subst eN
  have hz : w.heap.size ≤ (w.alloc C).heap.size := by simp
  have hz1 : (w.alloc C).heap.size = w.heap.size + 1 := by simp
  refine ⟨hm.kept (F := [w.heap.size]) (Chg.one hg (by simp)) ?_ ?_ ?_ ?_, ?_, hn.back hz⟩
  · have := hM.lt; simp; omega
  · have := hM.lth; simp; omega
  · have := hM.ltb; simp; omega
  · intro k hk
    rcases hn k hk with e | e
    · have := (hM.lto e).2; simp; omega
    · simp; omega
  · exact Chg.trans (Chg.trans0 (Chg.still (World.grownBy_alloc _ _ _)) hc) (Chg.one hg (by simp) : Chg [w.heap.size] wr WF) (fun j hj => by simp at hj; exact .inr (by omega))
set_option maxHeartbeats 4000000 in
theorem qrun_any (h : QMach w a hb b o inp s st) (k : Nat) (hk : k ≤ 4194304) :
    Calls Tryz.prog 11 #[ptr a, .int .i64 k] w fun e w' => ∃ o' st', e = .returned (.tuple #[outcome (it inp k s) (ct inp k s), .int .i64 0]) ∧ QMach w' a hb b o' inp (it inp k s) st' ∧ Chg (fp a b o) w w' ∧ Nw w o o' := by
  have HM := hd h
  have HF := hd h.fp_lt
  have i0 : ¬ (k : Int) < 0 := by omega
  have i1 : ¬ (4194304 : Int) < (k : Int) := by omega
  have HK := hd hk
  have c26 := h.cst
  have f26 := h.free 26
  have nw : ¬ w.heap.size = a := by have := h.lt; omega
  have hla := h.lt
  clear h hk
  go_enter Tryz.func11, Tryz.ntmps11
  go_wp2
  have HMz := hd (HM.out.st1 0)
  have HCw : Hid (Chg (fp a b o) w (w.setCell ⟨a, 26, none⟩ (.int .i64 0))) := hd (Chg.one (grown_set _ _ _ _) (by simp [fp]))
  have HSZ : Hid ((w.setCell ⟨a, 26, none⟩ (.int .i64 0)).heap.size = w.heap.size) := hd (by simp)
  have HZ : Hid ((((0 : Nat) : Int)) = 0) := hd rfl
  rw [HZ.out] at HMz
  generalize w.setCell ⟨a, 26, none⟩ (.int .i64 0) = w0 at HMz HCw HSZ ⊢
  have HM0 := hd (HMz.out.g ((G.refl w0).alloc #[Value.int IntKind.i64 0, Value.int IntKind.i64 0, Value.string ⟨#[]⟩, Value.int IntKind.i64 0, Value.int IntKind.i64 0] 37))
  go_loopw [] (fun wr => ∃ (j : Nat) (o' : Value) (s' : Ms), j ≤ k ∧ QMach wr a hb b o' inp s' j ∧ Chg (fp a b o) (w0.alloc (Obj.cells #[Value.int IntKind.i64 0, Value.int IntKind.i64 0, Value.string ⟨#[]⟩, Value.int IntKind.i64 0, Value.int IntKind.i64 0] 37)) wr ∧ Nw (w0.alloc (Obj.cells #[Value.int IntKind.i64 0, Value.int IntKind.i64 0, Value.string ⟨#[]⟩, Value.int IntKind.i64 0, Value.int IntKind.i64 0] 37)) o o' ∧ it inp k s = it inp (k - j) s' ∧ ct inp k s = j + ct inp (k - j) s')
    (fun wr => k - (match wr.cell? ⟨a, 26, none⟩ with | some (.int _ n) => n.toNat | _ => 0))
  case atStart => exact ⟨0, o, s, Nat.zero_le _, HM0.out, Chg.refl _ _, Nw.refl _ _, rfl, by simp⟩
  case round =>
    obtain ⟨j, o1, s1, hj, hm, hc, hn, hi, ht⟩ := hrel
    have HM1 := hd hm
    have HC := hd (And.intro hc hn)
    have HI := hd (And.intro hi ht)
    have hX := zo_kept hc HMz.out.fp_lt
    rw [HSZ.out] at hX
    have d27 := hm.cen
    have d26 := hm.cst
    clear hc hn hi ht
    by_cases hlt : j < k ∧ s1.en = 3
    · obtain ⟨h1, h2⟩ := hlt
      have i2 : (j : Int) < (k : Int) := by omega
      have H2 := hd h2
      rw [h2] at d27
      have HJ : Hid (j < 4194304) := hd (by have := HK.out; omega)
      have e0 : enI 3 = 0 := rfl
      rw [e0] at d27
      clear hm h2 hX e0
      go_wp2_with (go_at_call 20; refine (qstep_any HM1.out HJ.out).mono ?_; rintro e w2 ⟨rfl, o2, hm2, hc2, hn2⟩; have HS := hd (And.intro hm2 (And.intro hc2 hn2)); clear hm2 hc2 hn2)
      obtain ⟨hm2, hc2, hn2⟩ := HS.out
      obtain ⟨hc3, hn3⟩ := chg_step HC.out.1 HC.out.2 hc2 hn2
      have e1 : k - j = (k - (j + 1)) + 1 := by omega
      have hi := HI.out
      rw [e1, (it_succ inp _ s1 H2.out).1, (it_succ inp _ s1 H2.out).2] at hi
      refine ⟨⟨j + 1, o2, _, by omega, hm2, hc3, hn3, hi.1, by rw [hi.2]; omega⟩, ?_⟩
      rw [hm2.cst, d26]
      simp only []
      omega
    · have he : it inp (k - j) s1 = s1 ∧ ct inp (k - j) s1 = 0 := by
        by_cases h1 : j < k
        · exact it_end inp _ s1 (fun e => hlt ⟨h1, e⟩)
        · rw [show k - j = 0 by omega]; exact ⟨rfl, rfl⟩
      have HE := hd he
      have CV : (convert 60 9 o1).run Tryz.prog wr.drew = .ok (.string (strO s1.out)) wr.drew := conv_out (hm.g (G.drew (G.refl _))).out
      have d24 := hm.cout
      have d25 := hm.crd
      have d28 := hm.ctr
      have x0 : wr.cell? ⟨w.heap.size, 0, none⟩ = some (.int .i64 0) := by simp [World.cell?, hX]
      have x1 : wr.cell? ⟨w.heap.size, 1, none⟩ = some (.int .i64 0) := by simp [World.cell?, hX]
      have x2 : wr.cell? ⟨w.heap.size, 2, none⟩ = some (.string ⟨#[]⟩) := by simp [World.cell?, hX]
      have x3 : wr.cell? ⟨w.heap.size, 3, none⟩ = some (.int .i64 0) := by simp [World.cell?, hX]
      have x4 : wr.cell? ⟨w.heap.size, 4, none⟩ = some (.int .i64 0) := by simp [World.cell?, hX]
      have y : ∀ i, wr.frozen? ⟨w.heap.size, i, none⟩ = false := fun i => by simp [World.frozen?, hX]
      have HX := hd hX
      obtain ⟨en, hen⟩ : ∃ en, s1.en = en := ⟨_, rfl⟩
      rw [hen] at d27
      have HEN := hd hen
      clear hm he hX
      by_cases h3 : en = 3
      · have i2 : ¬ (j : Int) < (k : Int) := by have := fun h => hlt ⟨h, hen.trans h3⟩; omega
        subst h3
        have e0 : enI 3 = 0 := rfl
        rw [e0] at d27
        clear hlt hen e0
        go_wp2
        (refine region_tail 19 (by kernel_rfl) (by kernel_rfl) ?_; simp only [List.take_succ_cons, List.take_zero, List.drop_succ_cons, List.drop_zero]; (repeat (first | still_step)); refine wpStill_nil ?_; go_wp2; (have HB5 := set5 HX.out (.int .i64 3) (.int .i64 s1.tr) (.string (strO s1.out)) (.int .i64 j) (.int .i64 s1.rd); have hfin := qrun_fin HMz.out HM1.out HC.out.1 HC.out.2 HSZ.out (grown_set5 wr w.heap.size 0 1 2 3 4 (.int .i64 3) (.int .i64 s1.tr) (.string (strO s1.out)) (.int .i64 j) (.int .i64 s1.rd)); have hi := HI.out; rw [HE.out.1, HE.out.2] at hi; generalize (((((wr.setCell ⟨w.heap.size, 0, none⟩ (.int .i64 3)).setCell ⟨w.heap.size, 1, none⟩ (.int .i64 s1.tr)).setCell ⟨w.heap.size, 2, none⟩ (.string (strO s1.out))).setCell ⟨w.heap.size, 3, none⟩ (.int .i64 j)).setCell ⟨w.heap.size, 4, none⟩ (.int .i64 s1.rd)).drew = WF at HB5 hfin ⊢; have z0 := cell_blk HB5 0; have z1 := cell_blk HB5 1; have z2 := cell_blk HB5 2; have z3 := cell_blk HB5 3; have z4 := cell_blk HB5 4; simp only [List.getElem?_cons_zero, List.getElem?_cons_succ] at z0 z1 z2 z3 z4; refine bodyPost_ret (v := .tuple #[.agg #[.int .i64 3, .int .i64 s1.tr, .string (strO s1.out), .int .i64 j, .int .i64 s1.rd], .int .i64 0]) (by simp [results, Tryz.results11, go_sem, z0, z1, z2, z3, z4]) rfl ?_; rw [hi.1, hi.2]; exact ⟨o1, j, by unfold outcome; rw [HEN.out]; rfl, hfin.1, Chg.trans0 HCw.out hfin.2.1, hfin.2.2.back (Nat.le_of_eq HSZ.out.symm)⟩))
      · have e3 : enI en = en := by simp [enI, h3]
        have hen0 : (en == 0) = false := by have := HM1.out.ok.en0; rw [hen] at this; simp; omega
        rw [e3] at d27
        clear hlt hen e3 h3
        go_wp2
        (refine region_tail 19 (by kernel_rfl) (by kernel_rfl) ?_; simp only [List.take_succ_cons, List.take_zero, List.drop_succ_cons, List.drop_zero]; (repeat (first | still_step)); refine wpStill_nil ?_; go_wp2; (have HB5 := set5 HX.out (.int .i64 en) (.int .i64 s1.tr) (.string (strO s1.out)) (.int .i64 j) (.int .i64 s1.rd); have hfin := qrun_fin HMz.out HM1.out HC.out.1 HC.out.2 HSZ.out (grown_set5 wr w.heap.size 0 1 2 3 4 (.int .i64 en) (.int .i64 s1.tr) (.string (strO s1.out)) (.int .i64 j) (.int .i64 s1.rd)); have hi := HI.out; rw [HE.out.1, HE.out.2] at hi; generalize (((((wr.setCell ⟨w.heap.size, 0, none⟩ (.int .i64 en)).setCell ⟨w.heap.size, 1, none⟩ (.int .i64 s1.tr)).setCell ⟨w.heap.size, 2, none⟩ (.string (strO s1.out))).setCell ⟨w.heap.size, 3, none⟩ (.int .i64 j)).setCell ⟨w.heap.size, 4, none⟩ (.int .i64 s1.rd)).drew = WF at HB5 hfin ⊢; have z0 := cell_blk HB5 0; have z1 := cell_blk HB5 1; have z2 := cell_blk HB5 2; have z3 := cell_blk HB5 3; have z4 := cell_blk HB5 4; simp only [List.getElem?_cons_zero, List.getElem?_cons_succ] at z0 z1 z2 z3 z4; refine bodyPost_ret (v := .tuple #[.agg #[.int .i64 en, .int .i64 s1.tr, .string (strO s1.out), .int .i64 j, .int .i64 s1.rd], .int .i64 0]) (by simp [results, Tryz.results11, go_sem, z0, z1, z2, z3, z4]) rfl ?_; rw [hi.1, hi.2]; exact ⟨o1, j, by unfold outcome; rw [HEN.out]; rfl, hfin.1, Chg.trans0 HCw.out hfin.2.1, hfin.2.2.back (Nat.le_of_eq HSZ.out.symm)⟩))
end
theorem qinit_cells (hb : Nat) (inp : ByteArray) (xs : List Int) (start : Int) : qcells hb (.slice none 0 0) inp (Ms.init xs start) 0 =
    [wd 0, wd 0, wd 0, wd 0, wd 0, wd 0, wd 0, wd 0, wd 0, wd 0, wd 0, wd 0, wd 0, wd 0, wd 0, wd 0, wd 0, .bool false, .bool false, .bool false, .bool false, .int .i64 start, ptr hb, .string inp, .slice none 0 0, .int .i64 0, .int .i64 0, .int .i64 0, .int .i64 0] := rfl
theorem q_new {w : World} {ao : Option Addr} {xs : List Int} {n cp : Nat} (hs : Src w ao xs) (hr : inR xs) (hc : ao = none → cp = 0) (hl : xs.length = n) (hn : n ≤ 65536) :
    Calls Tryz.prog 18 #[.slice ao n cp] w fun e w' => ∃ a b c, e = .returned (.tuple #[ptr a, .int .i64 0]) ∧ w.grownBy w' none ∧ Mm 81 w' a b c xs ∧ w.heap.size ≤ a ∧ w.heap.size ≤ b := rnew_ok hs hr hc hl hn
set_option maxHeartbeats 1000000 in
theorem qnew_err {w : World} {ao : Option Addr} {xs : List Int} {n cp : Nat} {inp : ByteArray} {start : Int} (hs : Src w ao xs) (hr : inR xs) (hc : ao = none → cp = 0) (hl : xs.length = n) (hn : n ≤ 1000000000000) (hi : inp.size ≤ 1000000000000) (h0 : 65536 < n ∨ 4096 < inp.size ∨ start < 0 ∨ (n : Int) < start) :
    Calls Tryz.prog 8 #[.slice ao n cp, .int .i64 start, .string inp] w fun e w' => e = .returned (.tuple #[.pointer none, .int .i64 (errI n inp.size start)]) ∧ w.grownBy w' none := by
  by_cases h1 : 65536 < n
  · have e : errI n inp.size start = 3 := by simp [errI, h1]
    rw [e]
    have H1 := hd h1
    clear e h0 h1
    go_enter Tryz.func8, Tryz.ntmps8
    go_wp2_with (go_at_call 18; refine (rnew_many H1.out (by omega)).mono ?_; rintro e w' ⟨rfl, rfl⟩)
    go_ret2
    exact ⟨rfl, World.grownBy.refl _ _⟩
  have H1 : Hid (n ≤ 65536) := hd (by omega)
  have HS := hd hs
  have HR := hd hr
  have HC := hd hc
  have HL := hd hl
  by_cases h2 : 4096 < inp.size
  · have e : errI n inp.size start = 2 := by simp [errI, h1, h2]
    rw [e]
    have i2 : (4096 : Int) < (inp.size : Int) := by omega
    clear e h0 h1 h2 hs hr hc hl
    go_enter Tryz.func8, Tryz.ntmps8
    go_wp2_with (go_at_call 18; refine (q_new HS.out HR.out HC.out HL.out H1.out).mono ?_; rintro e w' ⟨a, b, c, rfl, hg, _⟩; have HG := hd hg; clear hg)
    go_ret2
    exact ⟨rfl, HG.out⟩
  have i2 : ¬ (4096 : Int) < (inp.size : Int) := by omega
  have e : errI n inp.size start = 1 := by
    have : start < 0 ∨ (n : Int) < start := by omega
    simp [errI, h1, h2, this]
  rw [e]
  by_cases h3 : start < 0
  · clear e h0 h1 h2 hs hr hc hl
    go_enter Tryz.func8, Tryz.ntmps8
    go_wp2_with (go_at_call 18; refine (q_new HS.out HR.out HC.out HL.out H1.out).mono ?_; rintro e w' ⟨a, b, c, rfl, hg, _⟩; have HG := hd hg; clear hg)
    go_ret2
    exact ⟨rfl, HG.out⟩
  · have i3 : (n : Int) < start := by omega
    clear e h0 h1 h2 hs hr hc hl
    go_enter Tryz.func8, Tryz.ntmps8
    go_wp2_with (go_at_call 18; refine (q_new HS.out HR.out HC.out HL.out H1.out).mono ?_; rintro e w' ⟨a, b, c, rfl, hg, _⟩; have HG := hd hg; clear hg)
    go_ret2
    exact ⟨rfl, HG.out⟩
set_option maxHeartbeats 1000000 in
theorem qnew_ok {w : World} {ao : Option Addr} {xs : List Int} {n cp : Nat} {inp : ByteArray} {start : Int} (h11 : 11 ≤ w.heap.size) (hs : Src w ao xs) (hr : inR xs) (hc : ao = none → cp = 0) (hl : xs.length = n) (hn : n ≤ 65536) (hi : inp.size ≤ 4096) (h0 : 0 ≤ start) (h1 : start ≤ n) :
    Calls Tryz.prog 8 #[.slice ao n cp, .int .i64 start, .string inp] w fun e w' => ∃ a hb b, e = .returned (.tuple #[ptr a, .int .i64 0]) ∧ QMach w' a hb b (.slice none 0 0) inp (Ms.init xs start) 0 ∧ w.grownBy w' none ∧ w.heap.size ≤ a ∧ w.heap.size ≤ hb ∧ w.heap.size ≤ b := by
  have HL := hd hl
  have H11 := hd h11
  have HS := hd hs
  have HR := hd hr
  have HC := hd hc
  have HN := hd hn
  have i2 : ¬ (4096 : Int) < (inp.size : Int) := by omega
  have i3 : ¬ start < 0 := by omega
  have i4 : ¬ (n : Int) < start := by omega
  have HOK : Hid ((Ms.init xs start).ok inp) := hd (init_ok (by omega) hr hi h0 (by omega))
  clear hs hr hc hn hi h0 h1 h11 hl
  go_enter Tryz.func8, Tryz.ntmps8
  go_wp2_with (go_at_call 18; refine (q_new HS.out HR.out HC.out HL.out HN.out).mono ?_; rintro e w1 ⟨a, b, c, rfl, hg, hm, ha, hb⟩; have HG := hd (And.intro hg (And.intro hm (And.intro ha hb))); clear hg hm ha hb)
  go_ret2
  obtain ⟨hg, hm, ha, hb⟩ := HG.out
  have hs1 := hg.size
  have h11 := H11.out
  refine ⟨_, _, _, rfl, ⟨heap_alloc_new _ _, ⟨c, hm.kept (World.grownBy_alloc _ _ none) (by simp) (by simp)⟩, World.ownsRow_nil _ _ _ _, HOK.out, by omega, by omega, by omega⟩, grown_trans hg (World.grownBy_alloc _ _ none), by omega, ha, hb⟩
end Go.Proofs.YtjneaphlghfbhaaGreatDoor.Qpu
namespace Go.Proofs.YtjneaphlghfbhaaGreatDoor.Qpu
open Go.RowKit Go.Proofs.YtjneaphlghfbhaaGreatDoor.Bits Go.Proofs.YtjneaphlghfbhaaGreatDoor.Gw Go.Proofs.YtjneaphlghfbhaaGreatDoor.Risc Go.Proofs.YtjneaphlghfbhaaGreatDoor.Alu Go.Proofs.YtjneaphlghfbhaaGreatDoor.Mem Go.Proofs.YtjneaphlghfbhaaGreatDoor.Cpu
set_option linter.unusedVariables false
set_option maxRecDepth 100000

theorem same_out (e t n d : Int) (z : ByteArray) (w : World) :
    Calls Tryz.prog 12 #[.agg #[.int .i64 e, .int .i64 t, .string z, .int .i64 n, .int .i64 d], .agg #[.int .i64 e, .int .i64 t, .string z, .int .i64 n, .int .i64 d]] w fun r w' => r = .returned (.bool true) ∧ G w w' := by
  go_enter Tryz.func12, Tryz.ntmps12
  go_wp2
  go_ret
  exact ⟨rfl, ((G.refl w).alloc _ _).alloc _ _⟩
section
variable {V : World} {a1 h1 b1 : Nat} {o1 : Value} {inp : ByteArray} {s : Ms} {a2 h2 b2 : Nat} {o2 : Value} {st : Nat}
theorem cut_all (xs : List Int) : okW xs 0 (xs.length : Int) = true ∧ cutL xs 0 (xs.length : Int) = xs := by
  have h : okW xs 0 (xs.length : Int) = true := by simp [okW]
  refine ⟨h, ?_⟩
  unfold cutL
  rw [if_pos h]
  simp
theorem cwords (hm : Mach V a1 h1 b1 o1 inp s) : Calls Tryz.prog 23 #[ptr h1, .int .i64 0, .int .i64 s.xs.length] V fun e w' => ∃ r, e = .returned (.tuple #[r, .bool true]) ∧ V.grownBy w' none ∧ Rd w' r s.xs := by
  have hx := hm.ok.xs1
  refine (words_ok hm.ob hx 0 _ (cut_all s.xs).1).mono ?_
  rintro e w' ⟨g, he, hg, ha⟩
  rw [(cut_all s.xs).2] at ha
  exact ⟨_, he, hg, ha.rd (by simp)⟩
theorem qwords (hq : QMach V a2 h2 b2 o2 inp s st) : Calls Tryz.prog 24 #[ptr h2, .int .i64 0, .int .i64 s.xs.length] V fun e w' => ∃ r, e = .returned (.tuple #[r, .bool true]) ∧ V.grownBy w' none ∧ Rd w' r s.xs := by
  have := rwords_ok hq.ob hq.ok.xs1 0 _ (cut_all s.xs).1
  rwa [(cut_all s.xs).2] at this
set_option maxHeartbeats 4000000 in
theorem same_any (hm : Mach V a1 h1 b1 o1 inp s) (hq : QMach V a2 h2 b2 o2 inp s st) :
    Calls Tryz.prog 13 #[ptr a1, ptr a2] V fun e w' => e = .returned (.bool true) ∧ V.grownBy w' none := by
  have HM := hd hm
  have HQ := hd hq
  obtain ⟨L, hL⟩ : ∃ L, s.xs.length = L := ⟨_, rfl⟩
  have HL := hd hL
  have HX := hd hm.ok.xs1
  clear hm hq hL
  go_enter Tryz.func13, Tryz.ntmps13
  go_wp2
  go_loopw [5] (fun s5 wr => ∃ (i d : Nat), i ≤ 16 ∧ s5 = .int .i64 i ∧ wr = V.drewN d) (fun s5 _ => 16 - (intOf s5).toNat)
  case atStart => exact ⟨0, 0, by decide, rfl, rfl⟩
  case round =>
    obtain ⟨i, d, hi, rfl, rfl⟩ := hrel
    by_cases hlt : i < 16
    · have i0 : (0 : Int) ≤ (i : Int) := by omega
      have i1 : (i : Int) < 16 := by omega
      have HG := hd ((G.refl V).drewN d)
      have HDD : Hid (∀ n, ∃ d', (V.drewN d).drewN n = V.drewN d') := hd (fun n => ⟨d + n, by simp⟩)
      generalize V.drewN d = U at HG HDD ⊢
      have c := (HQ.out.g HG.out).reg hlt
      have CR : ∀ W, G U W → Calls Tryz.prog 21 #[ptr a1, .int .i64 i] W fun e w' => e = .returned (wd (at0 s.R i)) ∧ w' = W := fun W g => reg_any (HM.out.g (G.trans HG.out g)) i hlt
      go_wp2
      go_quiet ((go_at_call 21; exact Calls.quiet_of_same (CR _ (by repeat' (first | exact G.refl _ | apply G.drewN | apply G.drew)))))
      go_wp2
      obtain ⟨d', hd'⟩ := HDD.out nq
      exact ⟨⟨i + 1, d', by omega, by go_num, hd'⟩, by simp [intOf]; omega⟩
    · have i4 : i = 16 := by omega
      subst i4
      have HG := hd ((G.refl V).drewN d)
      generalize V.drewN d = U at HG ⊢
      have HMU := hd (HM.out.g HG.out)
      have HQU := hd (HQ.out.g HG.out)
      have CW := cwords HMU.out
      rw [HL.out] at CW
      have CZ := size_ob HMU.out.ob
      rw [HL.out] at CZ
      have HCW := hd CW
      have HCZ := hd CZ
      clear hlt CW CZ hi
      go_upto_region 7 with (first
        | (go_at_call 22; refine (mem_any HMU.out).mono ?_; rintro e w' ⟨rfl, rfl⟩)
        | (go_at_call 17; refine HCZ.out.mono ?_; rintro e w' ⟨rfl, rfl⟩)
        | (go_at_call 23; refine HCW.out.mono ?_; rintro e U1 ⟨r1, rfl, hg, hr⟩; have HG1 := hd hg; have HR1 := hd hr; clear hg hr))
      have HQ1 := hd (HQU.out.grown HG1.out)
      have d22 := HQ1.out.cmem
      have CZ2 : ∀ W, G U1 W → Calls Tryz.prog 25 #[ptr h2] W fun e w' => e = .returned (.int .i64 s.xs.length) ∧ w' = W := fun W g => rsize_ob (HQ1.out.g g).ob
      rw [HL.out] at CZ2
      have CW2 : ∀ W, G U1 W → Calls Tryz.prog 24 #[ptr h2, .int .i64 0, .int .i64 s.xs.length] W fun e w' => ∃ r, e = .returned (.tuple #[r, .bool true]) ∧ W.grownBy w' none ∧ Rd w' r s.xs := fun W g => qwords (HQ1.out.g g)
      rw [HL.out] at CW2
      have HCW2 := hd CW2
      have HCZ2 := hd CZ2
      clear CW2 CZ2
      go_region_with (first
        | (go_at_call 25; refine (HCZ2.out _ (by repeat' (first | exact G.refl _ | apply G.drewN | apply G.drew))).mono ?_; rintro e w' ⟨rfl, rfl⟩)
        | (go_at_call 24; refine (HCW2.out _ (by repeat' (first | exact G.refl _ | apply G.drewN | apply G.drew))).mono ?_; rintro e U2 ⟨r2, rfl, hg, hr⟩; have HG2 := hd (grown_trans (grown_g (by repeat' (first | exact G.refl _ | apply G.drewN | apply G.drew)) none) hg : U1.grownBy U2 none); have HR2 := hd hr; clear hg hr))
      all_goals go_upto_region 8 with fail
      all_goals (
        have HGA := hd (grown_trans (grown_g HG.out none) (grown_trans HG1.out HG2.out))
        have HM2 := hd (HM.out.grown HGA.out)
        have HQ2 := hd (HQ.out.grown HGA.out)
        have e21 := HQ2.out.cpc
        have HRR : Hid (Rd U2 r1 s.xs) := hd (HR1.out.kept HG2.out)
        clear HCW2 HCZ2 d22
        go_quiet (first
          | (go_at_call 26; exact Calls.quiet_of_same (pc_any (HM2.out.g (by repeat' (first | exact G.refl _ | apply G.drewN | apply G.drew)))))
          | (go_at_call 9; exact Calls.quiet_of (keep_same (HRR.out.kept (grown_g (by repeat' (first | exact G.refl _ | apply G.drewN | apply G.drew)) none)) (HR2.out.kept (grown_g (by repeat' (first | exact G.refl _ | apply G.drewN | apply G.drew)) none)) (by have := HX.out; omega)))
          | (go_at_call 21; exact Calls.quiet_of_same (reg_out _ _ _ (by decide))))
        go_wp2
        go_ret
        first
          | exact ⟨rfl, grown_drewN HGA.out _⟩
          | exact ⟨rfl, grown_drewN (grown_drew HGA.out) _⟩)
end
end Go.Proofs.YtjneaphlghfbhaaGreatDoor.Qpu
namespace Go.Proofs.YtjneaphlghfbhaaGreatDoor.Qpu
open Go.RowKit Go.Proofs.YtjneaphlghfbhaaGreatDoor.Bits Go.Proofs.YtjneaphlghfbhaaGreatDoor.Gw Go.Proofs.YtjneaphlghfbhaaGreatDoor.Risc Go.Proofs.YtjneaphlghfbhaaGreatDoor.Alu Go.Proofs.YtjneaphlghfbhaaGreatDoor.Mem Go.Proofs.YtjneaphlghfbhaaGreatDoor.Cpu
set_option linter.unusedVariables false
set_option maxRecDepth 100000

section
variable {w V V' : World} {a hb b : Nat} {o : Value} {inp : ByteArray} {s : Ms} {st : Nat}
theorem QMach.stay {F : List Nat} (h : QMach V a hb b o inp s st) (hg : Chg F V V') (d : ∀ k ∈ ffp a hb b o, k ∉ F) : QMach V' a hb b o inp s st :=
  h.kept hg (d a (ffp_mem.2 (by simp))) (d hb (ffp_mem.2 (by simp))) (d b (ffp_mem.2 (by simp))) (fun k hk => d k (ffp_mem.2 (by simp [hk])))
theorem oc_fpq {X : Nat} {e t : Int} {z : ByteArray} {n d : Int} (h : Oc V X e t z n d) (m : QMach V a hb b o inp s st) : X ∉ fp a b o := by
  intro k
  simp only [Cpu.fp, List.mem_cons, obl_mem] at k
  rcases k with k | k | k
  · exact blk_ne h m.blk (by decide) k
  · obtain ⟨c, hm⟩ := m.mem; obtain ⟨cur, h1, _, _⟩ := hm.row.has; exact blk_ne h h1 (by decide) k
  · obtain ⟨cur, h1⟩ := row_blk m.out k; exact blk_ne h h1 (by decide) rfl
structure Pr (w V : World) (inp : ByteArray) (a1 h1 b1 : Nat) (o1 : Value) (s1 : Ms) (a2 h2 b2 : Nat) (o2 : Value) (s2 : Ms) (st : Nat) : Prop where
  m : Mach V a1 h1 b1 o1 inp s1
  n : QMach V a2 h2 b2 o2 inp s2 st
  sep : Sep (ffp a1 h1 b1 o1) (ffp a2 h2 b2 o2)
  g : w.grownBy V none
  ge1 : ∀ k ∈ ffp a1 h1 b1 o1, w.heap.size ≤ k
  ge2 : ∀ k ∈ ffp a2 h2 b2 o2, w.heap.size ≤ k
variable {a1 h1 b1 : Nat} {o1 : Value} {s1 : Ms} {a2 h2 b2 : Nat} {o2 : Value} {s2 : Ms}
theorem Pr.run1 (h : Pr w V inp a1 h1 b1 o1 s1 a2 h2 b2 o2 s2 st) {o' : Value} {s' : Ms} (hm : Mach V' a1 h1 b1 o' inp s') (hc : Chg (fp a1 b1 o1) V V') (hn : Nw V o1 o') : Pr w V' inp a1 h1 b1 o' s' a2 h2 b2 o2 s2 st :=
  ⟨hm, h.n.stay hc (fun k hk => h.sep.symm.of_fp k hk), Sep.next h.sep h.n.ffp_lt hn, far h.g hc (fun j hj => h.ge1 j (by simp [ffp, hj])), ge_next h.ge1 hn h.g.size, h.ge2⟩
theorem Pr.run2 (h : Pr w V inp a1 h1 b1 o1 s1 a2 h2 b2 o2 s2 st) {o' : Value} {s' : Ms} {st' : Nat} (hm : QMach V' a2 h2 b2 o' inp s' st') (hc : Chg (fp a2 b2 o2) V V') (hn : Nw V o2 o') : Pr w V' inp a1 h1 b1 o1 s1 a2 h2 b2 o' s' st' :=
  ⟨h.m.stay hc h.n.fp_lo (fun k hk => h.sep.of_fp k hk), hm, (Sep.next h.sep.symm h.m.ffp_lt hn).symm, far h.g hc (fun j hj => h.ge2 j (by simp [ffp, hj])), h.ge1, ge_next h.ge2 hn h.g.size⟩
theorem Pr.by (h : Pr w V inp a1 h1 b1 o1 s1 a2 h2 b2 o2 s2 st) (g : V.grownBy V' none) : Pr w V' inp a1 h1 b1 o1 s1 a2 h2 b2 o2 s2 st :=
  ⟨h.m.grown g, h.n.grown g, h.sep, grown_trans h.g g, h.ge1, h.ge2⟩
/- Both machines, in one state, or none of them. -/
def Bo (w V : World) (inp : ByteArray) (p q : Value) : Prop :=
  w.grownBy V none ∧ Laid V ∧ ((p = .pointer none ∧ q = .pointer none) ∨ ∃ a1 h1 b1 o1 a2 h2 b2 o2 s st, p = ptr a1 ∧ q = ptr a2 ∧ Pr w V inp a1 h1 b1 o1 s a2 h2 b2 o2 s st)
theorem Bo.by {p q : Value} (h : Bo w V inp p q) (g : V.grownBy V' none) : Bo w V' inp p q := by
  refine ⟨grown_trans h.1 g, laid_chg h.2.1 (F := []) (Chg.still g) (by simp), ?_⟩
  rcases h.2.2 with h | ⟨a1, h1, b1, o1, a2, h2, b2, o2, s, st, e1, e2, hp⟩
  · exact .inl h
  · exact .inr ⟨a1, h1, b1, o1, a2, h2, b2, o2, s, st, e1, e2, hp.by g⟩
theorem both_run {p q : Value} (h : Bo w V inp p q) (k : Int) : ∃ (e t : Int) (z : ByteArray) (n d er : Int),
    Calls Tryz.prog 10 #[p, .int .i64 k] V fun r V1 => r = .returned (.tuple #[Value.agg #[.int .i64 e, .int .i64 t, .string z, .int .i64 n, .int .i64 d], .int .i64 er]) ∧
      ∀ V2, V1.grownBy V2 none → Calls Tryz.prog 11 #[q, .int .i64 k] V2 fun r V3 => r = .returned (.tuple #[Value.agg #[.int .i64 e, .int .i64 t, .string z, .int .i64 n, .int .i64 d], .int .i64 er]) ∧ Bo w V3 inp p q ∧ ∀ X e t z n d, Oc V2 X e t z n d → Oc V3 X e t z n d := by
  obtain ⟨hg, hl, hc⟩ := h
  rcases hc with ⟨rfl, rfl⟩ | ⟨a1, h1, b1, o1, a2, h2, b2, o2, s, st, rfl, rfl, hp⟩
  · refine ⟨0, 0, ⟨#[]⟩, 0, 0, 1, (run_no _ k V (.inl rfl)).mono fun r V1 ⟨hr, g1⟩ => ⟨hr, fun V2 g2 => (qrun_no _ k V2 (.inl rfl)).mono fun r V3 ⟨hr, g3⟩ => ⟨hr, ?_, fun X e t z n d ho => ho.by (grown_g g3 none)⟩⟩⟩
    exact Bo.by ⟨hg, hl, .inl ⟨rfl, rfl⟩⟩ (grown_trans (grown_g g1 none) (grown_trans g2 (grown_g g3 none)))
  · by_cases hk : k < 0 ∨ 4194304 < k
    · refine ⟨0, 0, ⟨#[]⟩, 0, 0, 1, (run_no _ k V (.inr ⟨⟨_, rfl⟩, hk⟩)).mono fun r V1 ⟨hr, g1⟩ => ⟨hr, fun V2 g2 => (qrun_no _ k V2 (.inr ⟨⟨_, rfl⟩, hk⟩)).mono fun r V3 ⟨hr, g3⟩ => ⟨hr, ?_, fun X e t z n d ho => ho.by (grown_g g3 none)⟩⟩⟩
      exact Bo.by ⟨hg, hl, .inr ⟨_, _, _, _, _, _, _, _, _, _, rfl, rfl, hp⟩⟩ (grown_trans (grown_g g1 none) (grown_trans g2 (grown_g g3 none)))
    · obtain ⟨K, rfl⟩ := Int.eq_ofNat_of_zero_le (show 0 ≤ k by omega)
      refine ⟨(it inp K s).en, (it inp K s).tr, strO (it inp K s).out, (ct inp K s : Nat), ((it inp K s).rd : Nat), 0, (run_any hp.m K (by omega)).mono ?_⟩
      rintro r V1 ⟨o', hr, hm, hc, hn⟩
      refine ⟨hr, fun V2 g2 => ?_⟩
      have p2 := (hp.run1 hm hc hn).by g2
      refine (qrun_any p2.n K (by omega)).mono ?_
      rintro r V3 ⟨o3, st3, hr3, hm3, hc3, hn3⟩
      have p3 := p2.run2 hm3 hc3 hn3
      exact ⟨hr3, ⟨p3.g, p3.m.laid, .inr ⟨_, _, _, _, _, _, _, _, _, _, rfl, rfl, p3⟩⟩, fun X e t z n d ho => ho.chg hc3 (oc_fpq ho p2.n)⟩
theorem both_new {ao bo : Option Addr} {xs : List Int} {n c1 c2 : Nat} {start : Int} (L : Laid V) (hs : Src V ao xs) (ht : Src V bo xs) (hr : inR xs) (hc : bo = none → c2 = 0) (hl : xs.length = n) (hn : n ≤ 1000000000000) (hi : inp.size ≤ 1000000000000) (hg : w.grownBy V none) :
    ∃ er : Int, Calls Tryz.prog 7 #[.slice ao n c1, .int .i64 start, .string inp] V fun r V1 => ∃ p, r = .returned (.tuple #[p, .int .i64 er]) ∧ V.grownBy V1 none ∧
      (Calls Tryz.prog 8 #[.slice bo n c2, .int .i64 start, .string inp] V1 fun r V2 => ∃ q, r = .returned (.tuple #[q, .int .i64 er]) ∧ V1.grownBy V2 none ∧ Bo w V2 inp p q) := by
  by_cases h0 : 65536 < n ∨ 4096 < inp.size ∨ start < 0 ∨ (n : Int) < start
  · refine ⟨_, (new_err hs hr hl hn hi h0).mono fun r V1 ⟨he, g1⟩ => ⟨_, he, g1, (qnew_err (ht.kept g1) hr hc hl hn hi h0).mono fun r V2 ⟨he, g2⟩ => ⟨_, he, g2, grown_trans hg (grown_trans g1 g2), laid_chg L (F := []) (Chg.still (grown_trans g1 g2)) (by simp), .inl ⟨rfl, rfl⟩⟩⟩⟩
  · refine ⟨0, (cnew_ok L hs hr hl (by omega) (by omega) (by omega) (by omega)).mono ?_⟩
    rintro r V1 ⟨a1, h1, b1, he, hm, g1, ga, gh, gb⟩
    refine ⟨_, he, g1, (qnew_ok hm.laid.size (ht.kept g1) hr hc hl (by omega) (by omega) (by omega) (by omega)).mono ?_⟩
    rintro r V2 ⟨a2, h2, b2, he2, hq, g2, ga2, gh2, gb2⟩
    have hm2 := hm.grown g2
    have s1 := g1.size
    have s0 := hg.size
    refine ⟨_, he2, g2, grown_trans hg (grown_trans g1 g2), hm2.laid, .inr ⟨a1, h1, b1, _, a2, h2, b2, _, _, _, rfl, rfl, hm2, hq, ?_, grown_trans hg (grown_trans g1 g2), ffp_nil (by omega) (by omega) (by omega), ffp_nil (by omega) (by omega) (by omega)⟩⟩
    exact sep_new hm.ffp_lt (ffp_nil ga2 gh2 gb2)
end
end Go.Proofs.YtjneaphlghfbhaaGreatDoor.Qpu
namespace Go.Proofs.YtjneaphlghfbhaaGreatDoor.Qpu
open Go.RowKit Go.Proofs.YtjneaphlghfbhaaGreatDoor.Bits Go.Proofs.YtjneaphlghfbhaaGreatDoor.Gw Go.Proofs.YtjneaphlghfbhaaGreatDoor.Risc Go.Proofs.YtjneaphlghfbhaaGreatDoor.Alu Go.Proofs.YtjneaphlghfbhaaGreatDoor.Mem Go.Proofs.YtjneaphlghfbhaaGreatDoor.Cpu
set_option linter.unusedVariables false
set_option maxRecDepth 100000

/- The fuels. -/
structure Fl (w : World) (ao : Option Addr) (n : Nat) (xs : List Int) : Prop where
  at' : ∀ i, i < n → ∃ A, ao = some A ∧ w.cell? (A.add i) = some (.int .i64 (at0 xs i))
  rng : ∀ i, i < n → -9223372036854775808 ≤ at0 xs i ∧ at0 xs i ≤ 9223372036854775807
  max : n ≤ maxLen
theorem ocb (w : World) (e t : Int) (z : ByteArray) (n d : Int) : w.grownBy (w.alloc (.cells #[.int .i64 e, .int .i64 t, .string z, .int .i64 n, .int .i64 d] 37)) none := World.grownBy_alloc _ _ _
set_option maxHeartbeats 4000000 in
theorem runs_bad (w : World) (L : Laid w) (o0 : Option Addr) (n0 c0 : Nat) (start : Int) (inp : ByteArray) (of : Option Addr) (nf cf : Nat) (hi : inp.size ≤ 9223372036854775807) (hn : n0 ≤ 9223372036854775807) (h : lgB n0 = true ∨ 5000 < inp.size) :
    Calls Tryz.prog 3 #[.slice o0 n0 c0, .agg #[Value.int IntKind.i64 start, Value.string inp, Value.slice of nf cf]] w fun e w' => e = .returned (.bool true) ∧ w.grownBy w' none := by
  have HL := hd L
  obtain ⟨lg, hlg⟩ : ∃ lg, lgB n0 = lg := ⟨_, rfl⟩
  have HLG := hd hlg
  rw [hlg] at h
  clear L hlg
  cases lg
  · have i1 : (5000 : Int) < (inp.size : Int) := by simp at h; omega
    clear h
    go_enter Tryz.func3, Tryz.ntmps3
    go_wp2
    go_quiet (fail)
    go_wp2_with (first | (go_at_call 5; refine (large_any _ _ _ _ (by omega)).mono ?_; rw [HLG.out]; rintro e w' ⟨rfl, rfl⟩) | (go_at_call 6; refine (wakes_any _ (laid_chg HL.out (F := []) (Chg.still (grown_drewN (World.grownBy_alloc w (Obj.cells #[Value.int IntKind.i64 start, Value.string inp, Value.slice of nf cf] 25) none) nq)) (by simp))).mono ?_; rintro e w8 ⟨rfl, hg⟩; have HWK := hd hg; clear hg))
    go_ret
    exact ⟨rfl, grown_trans (grown_drewN (World.grownBy_alloc w (Obj.cells #[Value.int IntKind.i64 start, Value.string inp, Value.slice of nf cf] 25) none) nq) HWK.out⟩
  · clear h
    go_enter Tryz.func3, Tryz.ntmps3
    go_wp2
    go_quiet (fail)
    go_wp2_with (first | (go_at_call 5; refine (large_any _ _ _ _ (by omega)).mono ?_; rw [HLG.out]; rintro e w' ⟨rfl, rfl⟩) | (go_at_call 6; refine (wakes_any _ (laid_chg HL.out (F := []) (Chg.still (grown_drewN (World.grownBy_alloc w (Obj.cells #[Value.int IntKind.i64 start, Value.string inp, Value.slice of nf cf] 25) none) nq)) (by simp))).mono ?_; rintro e w8 ⟨rfl, hg⟩; have HWK := hd hg; clear hg))
    go_ret
    exact ⟨rfl, grown_trans (grown_drewN (World.grownBy_alloc w (Obj.cells #[Value.int IntKind.i64 start, Value.string inp, Value.slice of nf cf] 25) none) nq) HWK.out⟩
set_option maxHeartbeats 4000000 in
theorem runs_good (w : World) (L : Laid w) (o0 : Option Addr) (n0 c0 : Nat) (x0 : List Int) (W0 : Wl w o0 n0 c0 x0) (start : Int) (inp : ByteArray) (of : Option Addr) (nf cf : Nat) (xf : List Int) (F0 : Fl w of nf xf) (hi : inp.size ≤ 5000) (hn : n0 ≤ 70000) (h : lgB n0 = false) :
    Calls Tryz.prog 3 #[.slice o0 n0 c0, .agg #[Value.int IntKind.i64 start, Value.string inp, Value.slice of nf cf]] w fun e w' => e = .returned (.bool true) ∧ w.grownBy w' none := by
  have HL := hd L
  have HW := hd W0
  have HF := hd F0
  have HLG := hd h
  have HN := hd hn
  have HI := hd hi
  have j1 : ¬ (5000 : Int) < (inp.size : Int) := by omega
  clear L W0 F0 h hi
  go_enter Tryz.func3, Tryz.ntmps3
  go_wp2
  go_quiet (fail)
  go_upto_region 4 with (go_at_call 5; refine (large_any _ _ _ _ (by omega)).mono ?_; rw [HLG.out]; rintro e w' ⟨rfl, rfl⟩)
  have HG0 := hd (grown_drewN (World.grownBy_alloc w (Obj.cells #[Value.int IntKind.i64 start, Value.string inp, Value.slice of nf cf] 25) none) nq)
  have HSr := hd (HW.out.src.kept HG0.out)
  generalize (w.alloc (Obj.cells #[Value.int IntKind.i64 start, Value.string inp, Value.slice of nf cf] 25)).drewN nq = V0 at HG0 HSr ⊢
  go_upto_region 5 with (at_builtin; refine wpList_append_src (w0 := V0) rfl (.tmp 33) (.tmp 34) rfl V0.heap.size rfl (heap_alloc_new _ _) _ _ _ rfl x0 (HSr.out.kept (World.grownBy_alloc _ _ _)) HW.out.rng HW.out.len HW.out.none (by have := HN.out; omega) V0.heap.size (Nat.le_refl _) ((Below.refl _ _).alloc (Nat.le_refl _) _) ?_; intro bb cc w1 hbb ha hw; have HA := hd ha; have HGa := hd (grown_trans HG0.out (grown_below hw)); clear ha hw hbb)
  obtain ⟨er, hnew⟩ := both_new (w := w) (inp := inp) (start := start) (c1 := cc) (c2 := c0) (laid_chg HL.out (F := []) (Chg.still HGa.out) (by simp)) HA.out.src (HW.out.src.kept HGa.out) HW.out.rng HW.out.none HW.out.len (by have := HN.out; omega) (by have := HI.out; omega) HGa.out
  have HNEW := hd hnew
  clear hnew
  go_upto_region 6 with (go_at_call 7; refine HNEW.out.mono ?_; rintro e w2 ⟨p, rfl, hg, hq⟩; have HG1 := hd hg; have HQ := hd hq; clear hg hq)
  go_upto_region 7 with (go_at_call 8; refine HQ.out.mono ?_; rintro e w3 ⟨q, rfl, hg, hb⟩; have HG2 := hd hg; have HB := hd hb; clear hg hb)
  have HRA : Hid (Rd w3 (.slice (some ⟨bb, 0, none⟩) n0 cc) x0) := hd ((HA.out.rd HW.out.len).kept (grown_trans HG1.out HG2.out))
  have HRW : Hid (Rd w3 (.slice o0 n0 c0) x0) := hd ⟨_, _, by rw [HW.out.len], HW.out.src.kept HB.out.1⟩
  have HXL : Hid (x0.length ≤ 9223372036854775807) := hd (by rw [HW.out.len]; have := HN.out; omega)
  clear HNEW HQ HA HGa HG0 HSr HG1 HG2
  have hcase : (p = .pointer none ∧ q = .pointer none) ∨ ∃ a1 a2, p = ptr a1 ∧ q = ptr a2 := by
    rcases HB.out.2.2 with h | ⟨a1, _, _, _, a2, _, _, _, _, _, e1, e2, _⟩
    · exact .inl h
    · exact .inr ⟨a1, a2, e1, e2⟩
  rcases hcase with ⟨rfl, rfl⟩ | ⟨a1, a2, rfl, rfl⟩
  · go_upto_region 9 with (go_at_call 9; refine (keep_same HRA.out HRW.out HXL.out).mono ?_; rintro e w4 ⟨rfl, d, rfl⟩)
    have HB4 := hd (HB.out.by (grown_drewN (World.grownBy.refl _ _) d))
    generalize w3.drewN d = V4 at HB4 ⊢
    clear HRA HRW HXL HB
    go_wp2
    go_loopw [13] (fun s13 wr => ∃ i : Nat, i ≤ 5 ∧ s13 = .int .i64 i ∧ Bo w wr inp (.pointer none) (.pointer none)) (fun s13 _ => 5 - (intOf s13).toNat)
    case atStart => exact ⟨0, by decide, rfl, HB4.out⟩
    case round =>
      obtain ⟨i, hi, rfl, hB⟩ := hrel
      have HBr := hd hB
      clear hB HB4
      by_cases hlt : i < nf ∧ i < 5
      · obtain ⟨h1, h2⟩ := hlt
        obtain ⟨A, rfl, hc⟩ := HF.out.at' i h1
        have hr := HF.out.rng i h1
        replace hc := HBr.out.1.cell hc (by simp)
        obtain ⟨k, hk⟩ : ∃ k, at0 xf i = k := ⟨_, rfl⟩
        rw [hk] at hc hr
        have i2 : (i : Int) < (nf : Int) := by omega
        have i3 : (i : Int) < 5 := by omega
        have i4 : (0 : Int) ≤ (i : Int) := by omega
        clear hk
        by_cases m1 : 20000 < k
        · by_cases m2 : k ≤ 4194304
          · obtain ⟨e, t, z, n, dd, er2, hrun⟩ := both_run HBr.out 20000
            have HRUN := hd hrun
            clear hrun
            go_upto_region 16 with (go_at_call 10; refine HRUN.out.mono ?_; rintro r V1 ⟨rfl, hq⟩; have HQ := hd hq; clear hq)
            have HX := hd (oc_new V1 e t z n dd)
            have HQ2 := hd (HQ.out _ (ocb V1 e t z n dd))
            generalize V1.alloc (Obj.cells #[Value.int IntKind.i64 e, Value.int IntKind.i64 t, Value.string z, Value.int IntKind.i64 n, Value.int IntKind.i64 dd] 37) = V2 at HX HQ2 ⊢
            generalize V1.heap.size = X1 at HX ⊢
            clear HQ HRUN
            go_upto_region 17 with (go_at_call 11; refine HQ2.out.mono ?_; rintro r V3 ⟨rfl, hb3, ho⟩; have HB3 := hd hb3; have HX3 := hd (ho _ _ _ _ _ _ HX.out); clear hb3 ho)
            have HY := hd (oc_new V3 e t z n dd)
            replace HX3 := hd (HX3.out.by (ocb V3 e t z n dd))
            have HB5 := hd (HB3.out.by (ocb V3 e t z n dd))
            generalize V3.alloc (Obj.cells #[Value.int IntKind.i64 e, Value.int IntKind.i64 t, Value.string z, Value.int IntKind.i64 n, Value.int IntKind.i64 dd] 37) = V5 at HY HX3 HB5 ⊢
            generalize V3.heap.size = X2 at HY ⊢
            obtain ⟨x0, x1, x2, x3, x4⟩ := HX3.out.c
            obtain ⟨y0, y1, y2, y3, y4⟩ := HY.out.c
            clear HX HQ2 HB3
            go_wp2_with (go_at_call 12; refine (same_out _ _ _ _ _ _).mono ?_; rintro r V6 ⟨rfl, hg⟩; have HG6 := hd hg; clear hg)
            exact ⟨⟨i + 1, by omega, by go_num, HB5.out.by (grown_g HG6.out none)⟩, by simp [intOf]; omega⟩
          · obtain ⟨e, t, z, n, dd, er2, hrun⟩ := both_run HBr.out k
            have HRUN := hd hrun
            clear hrun
            go_upto_region 16 with (go_at_call 10; refine HRUN.out.mono ?_; rintro r V1 ⟨rfl, hq⟩; have HQ := hd hq; clear hq)
            have HX := hd (oc_new V1 e t z n dd)
            have HQ2 := hd (HQ.out _ (ocb V1 e t z n dd))
            generalize V1.alloc (Obj.cells #[Value.int IntKind.i64 e, Value.int IntKind.i64 t, Value.string z, Value.int IntKind.i64 n, Value.int IntKind.i64 dd] 37) = V2 at HX HQ2 ⊢
            generalize V1.heap.size = X1 at HX ⊢
            clear HQ HRUN
            go_upto_region 17 with (go_at_call 11; refine HQ2.out.mono ?_; rintro r V3 ⟨rfl, hb3, ho⟩; have HB3 := hd hb3; have HX3 := hd (ho _ _ _ _ _ _ HX.out); clear hb3 ho)
            have HY := hd (oc_new V3 e t z n dd)
            replace HX3 := hd (HX3.out.by (ocb V3 e t z n dd))
            have HB5 := hd (HB3.out.by (ocb V3 e t z n dd))
            generalize V3.alloc (Obj.cells #[Value.int IntKind.i64 e, Value.int IntKind.i64 t, Value.string z, Value.int IntKind.i64 n, Value.int IntKind.i64 dd] 37) = V5 at HY HX3 HB5 ⊢
            generalize V3.heap.size = X2 at HY ⊢
            obtain ⟨x0, x1, x2, x3, x4⟩ := HX3.out.c
            obtain ⟨y0, y1, y2, y3, y4⟩ := HY.out.c
            clear HX HQ2 HB3
            go_wp2_with (go_at_call 12; refine (same_out _ _ _ _ _ _).mono ?_; rintro r V6 ⟨rfl, hg⟩; have HG6 := hd hg; clear hg)
            exact ⟨⟨i + 1, by omega, by go_num, HB5.out.by (grown_g HG6.out none)⟩, by simp [intOf]; omega⟩
        · obtain ⟨e, t, z, n, dd, er2, hrun⟩ := both_run HBr.out k
          have HRUN := hd hrun
          clear hrun
          go_upto_region 16 with (go_at_call 10; refine HRUN.out.mono ?_; rintro r V1 ⟨rfl, hq⟩; have HQ := hd hq; clear hq)
          have HX := hd (oc_new V1 e t z n dd)
          have HQ2 := hd (HQ.out _ (ocb V1 e t z n dd))
          generalize V1.alloc (Obj.cells #[Value.int IntKind.i64 e, Value.int IntKind.i64 t, Value.string z, Value.int IntKind.i64 n, Value.int IntKind.i64 dd] 37) = V2 at HX HQ2 ⊢
          generalize V1.heap.size = X1 at HX ⊢
          clear HQ HRUN
          go_upto_region 17 with (go_at_call 11; refine HQ2.out.mono ?_; rintro r V3 ⟨rfl, hb3, ho⟩; have HB3 := hd hb3; have HX3 := hd (ho _ _ _ _ _ _ HX.out); clear hb3 ho)
          have HY := hd (oc_new V3 e t z n dd)
          replace HX3 := hd (HX3.out.by (ocb V3 e t z n dd))
          have HB5 := hd (HB3.out.by (ocb V3 e t z n dd))
          generalize V3.alloc (Obj.cells #[Value.int IntKind.i64 e, Value.int IntKind.i64 t, Value.string z, Value.int IntKind.i64 n, Value.int IntKind.i64 dd] 37) = V5 at HY HX3 HB5 ⊢
          generalize V3.heap.size = X2 at HY ⊢
          obtain ⟨x0, x1, x2, x3, x4⟩ := HX3.out.c
          obtain ⟨y0, y1, y2, y3, y4⟩ := HY.out.c
          clear HX HQ2 HB3
          go_wp2_with (go_at_call 12; refine (same_out _ _ _ _ _ _).mono ?_; rintro r V6 ⟨rfl, hg⟩; have HG6 := hd hg; clear hg)
          exact ⟨⟨i + 1, by omega, by go_num, HB5.out.by (grown_g HG6.out none)⟩, by simp [intOf]; omega⟩
      · have HLV := hd HBr.out.2.1
        have arms : ¬ ((i : Int) < (nf : Int)) ∨ ((i : Int) < (nf : Int) ∧ ¬ (i : Int) < 5) := by omega
        rcases arms with i2 | ⟨i2, i3⟩
        all_goals
          go_wp2_with (go_at_call 6; refine (wakes_any _ HLV.out).mono ?_; rintro e w8 ⟨rfl, hg⟩; have HWK := hd hg; clear hg)
          go_ret
          exact ⟨rfl, grown_trans HBr.out.1 HWK.out⟩
  · go_upto_region 9 with (go_at_call 9; refine (keep_same HRA.out HRW.out HXL.out).mono ?_; rintro e w4 ⟨rfl, d, rfl⟩)
    have HB4 := hd (HB.out.by (grown_drewN (World.grownBy.refl _ _) d))
    generalize w3.drewN d = V4 at HB4 ⊢
    clear HRA HRW HXL HB
    go_wp2
    go_loopw [13] (fun s13 wr => ∃ i : Nat, i ≤ 5 ∧ s13 = .int .i64 i ∧ Bo w wr inp (ptr a1) (ptr a2)) (fun s13 _ => 5 - (intOf s13).toNat)
    case atStart => exact ⟨0, by decide, rfl, HB4.out⟩
    case round =>
      obtain ⟨i, hi, rfl, hB⟩ := hrel
      have HBr := hd hB
      clear hB HB4
      by_cases hlt : i < nf ∧ i < 5
      · obtain ⟨h1, h2⟩ := hlt
        obtain ⟨A, rfl, hc⟩ := HF.out.at' i h1
        have hr := HF.out.rng i h1
        replace hc := HBr.out.1.cell hc (by simp)
        obtain ⟨k, hk⟩ : ∃ k, at0 xf i = k := ⟨_, rfl⟩
        rw [hk] at hc hr
        have i2 : (i : Int) < (nf : Int) := by omega
        have i3 : (i : Int) < 5 := by omega
        have i4 : (0 : Int) ≤ (i : Int) := by omega
        clear hk
        by_cases m1 : 20000 < k
        · by_cases m2 : k ≤ 4194304
          · obtain ⟨e, t, z, n, dd, er2, hrun⟩ := both_run HBr.out 20000
            have HRUN := hd hrun
            clear hrun
            go_upto_region 16 with (go_at_call 10; refine HRUN.out.mono ?_; rintro r V1 ⟨rfl, hq⟩; have HQ := hd hq; clear hq)
            have HX := hd (oc_new V1 e t z n dd)
            have HQ2 := hd (HQ.out _ (ocb V1 e t z n dd))
            generalize V1.alloc (Obj.cells #[Value.int IntKind.i64 e, Value.int IntKind.i64 t, Value.string z, Value.int IntKind.i64 n, Value.int IntKind.i64 dd] 37) = V2 at HX HQ2 ⊢
            generalize V1.heap.size = X1 at HX ⊢
            clear HQ HRUN
            go_upto_region 17 with (go_at_call 11; refine HQ2.out.mono ?_; rintro r V3 ⟨rfl, hb3, ho⟩; have HB3 := hd hb3; have HX3 := hd (ho _ _ _ _ _ _ HX.out); clear hb3 ho)
            have HY := hd (oc_new V3 e t z n dd)
            replace HX3 := hd (HX3.out.by (ocb V3 e t z n dd))
            have HB5 := hd (HB3.out.by (ocb V3 e t z n dd))
            generalize V3.alloc (Obj.cells #[Value.int IntKind.i64 e, Value.int IntKind.i64 t, Value.string z, Value.int IntKind.i64 n, Value.int IntKind.i64 dd] 37) = V5 at HY HX3 HB5 ⊢
            generalize V3.heap.size = X2 at HY ⊢
            obtain ⟨x0, x1, x2, x3, x4⟩ := HX3.out.c
            obtain ⟨y0, y1, y2, y3, y4⟩ := HY.out.c
            clear HX HQ2 HB3
            go_wp2_with (go_at_call 12; refine (same_out _ _ _ _ _ _).mono ?_; rintro r V6 ⟨rfl, hg⟩; have HG6 := hd hg; clear hg)
            exact ⟨⟨i + 1, by omega, by go_num, HB5.out.by (grown_g HG6.out none)⟩, by simp [intOf]; omega⟩
          · obtain ⟨e, t, z, n, dd, er2, hrun⟩ := both_run HBr.out k
            have HRUN := hd hrun
            clear hrun
            go_upto_region 16 with (go_at_call 10; refine HRUN.out.mono ?_; rintro r V1 ⟨rfl, hq⟩; have HQ := hd hq; clear hq)
            have HX := hd (oc_new V1 e t z n dd)
            have HQ2 := hd (HQ.out _ (ocb V1 e t z n dd))
            generalize V1.alloc (Obj.cells #[Value.int IntKind.i64 e, Value.int IntKind.i64 t, Value.string z, Value.int IntKind.i64 n, Value.int IntKind.i64 dd] 37) = V2 at HX HQ2 ⊢
            generalize V1.heap.size = X1 at HX ⊢
            clear HQ HRUN
            go_upto_region 17 with (go_at_call 11; refine HQ2.out.mono ?_; rintro r V3 ⟨rfl, hb3, ho⟩; have HB3 := hd hb3; have HX3 := hd (ho _ _ _ _ _ _ HX.out); clear hb3 ho)
            have HY := hd (oc_new V3 e t z n dd)
            replace HX3 := hd (HX3.out.by (ocb V3 e t z n dd))
            have HB5 := hd (HB3.out.by (ocb V3 e t z n dd))
            generalize V3.alloc (Obj.cells #[Value.int IntKind.i64 e, Value.int IntKind.i64 t, Value.string z, Value.int IntKind.i64 n, Value.int IntKind.i64 dd] 37) = V5 at HY HX3 HB5 ⊢
            generalize V3.heap.size = X2 at HY ⊢
            obtain ⟨x0, x1, x2, x3, x4⟩ := HX3.out.c
            obtain ⟨y0, y1, y2, y3, y4⟩ := HY.out.c
            clear HX HQ2 HB3
            go_wp2_with (go_at_call 12; refine (same_out _ _ _ _ _ _).mono ?_; rintro r V6 ⟨rfl, hg⟩; have HG6 := hd hg; clear hg)
            exact ⟨⟨i + 1, by omega, by go_num, HB5.out.by (grown_g HG6.out none)⟩, by simp [intOf]; omega⟩
        · obtain ⟨e, t, z, n, dd, er2, hrun⟩ := both_run HBr.out k
          have HRUN := hd hrun
          clear hrun
          go_upto_region 16 with (go_at_call 10; refine HRUN.out.mono ?_; rintro r V1 ⟨rfl, hq⟩; have HQ := hd hq; clear hq)
          have HX := hd (oc_new V1 e t z n dd)
          have HQ2 := hd (HQ.out _ (ocb V1 e t z n dd))
          generalize V1.alloc (Obj.cells #[Value.int IntKind.i64 e, Value.int IntKind.i64 t, Value.string z, Value.int IntKind.i64 n, Value.int IntKind.i64 dd] 37) = V2 at HX HQ2 ⊢
          generalize V1.heap.size = X1 at HX ⊢
          clear HQ HRUN
          go_upto_region 17 with (go_at_call 11; refine HQ2.out.mono ?_; rintro r V3 ⟨rfl, hb3, ho⟩; have HB3 := hd hb3; have HX3 := hd (ho _ _ _ _ _ _ HX.out); clear hb3 ho)
          have HY := hd (oc_new V3 e t z n dd)
          replace HX3 := hd (HX3.out.by (ocb V3 e t z n dd))
          have HB5 := hd (HB3.out.by (ocb V3 e t z n dd))
          generalize V3.alloc (Obj.cells #[Value.int IntKind.i64 e, Value.int IntKind.i64 t, Value.string z, Value.int IntKind.i64 n, Value.int IntKind.i64 dd] 37) = V5 at HY HX3 HB5 ⊢
          generalize V3.heap.size = X2 at HY ⊢
          obtain ⟨x0, x1, x2, x3, x4⟩ := HX3.out.c
          obtain ⟨y0, y1, y2, y3, y4⟩ := HY.out.c
          clear HX HQ2 HB3
          go_wp2_with (go_at_call 12; refine (same_out _ _ _ _ _ _).mono ?_; rintro r V6 ⟨rfl, hg⟩; have HG6 := hd hg; clear hg)
          exact ⟨⟨i + 1, by omega, by go_num, HB5.out.by (grown_g HG6.out none)⟩, by simp [intOf]; omega⟩
      · have HLV := hd HBr.out.2.1
        have HSM : Hid (Calls Tryz.prog 13 #[ptr a1, ptr a2] wr fun e w' => e = .returned (.bool true) ∧ wr.grownBy w' none) := by
          rcases HBr.out.2.2 with ⟨e, _⟩ | ⟨_, _, _, _, _, _, _, _, _, _, e1, e2, hp⟩
          · cases e
          · cases e1; cases e2; exact hd (same_any hp.m hp.n)
        have arms : ¬ ((i : Int) < (nf : Int)) ∨ ((i : Int) < (nf : Int) ∧ ¬ (i : Int) < 5) := by omega
        rcases arms with i2 | ⟨i2, i3⟩
        all_goals
          go_wp2_with (first
            | (go_at_call 13; refine HSM.out.mono ?_; rintro e w7 ⟨rfl, hg⟩; have HG7 := hd hg; have HL7 := hd (laid_chg HLV.out (F := []) (Chg.still HG7.out) (by simp)); clear hg)
            | (go_at_call 6; refine (wakes_any _ HL7.out).mono ?_; rintro e w8 ⟨rfl, hg⟩; have HWK := hd hg; clear hg))
          go_ret
          exact ⟨rfl, grown_trans HBr.out.1 (grown_trans HG7.out HWK.out)⟩
end Go.Proofs.YtjneaphlghfbhaaGreatDoor.Qpu
namespace Go.Proofs.YtjneaphlghfbhaaGreatDoor.Qpu
open Go.ChangeShapes Go.WideShapes Go.ChangeAt Go.RowKit Go.Deep Go.Proofs.YtjneaphlghfbhaaGreatDoor.Mem Go.Proofs.YtjneaphlghfbhaaGreatDoor.Cpu Go.Proofs.YtjneaphlghfbhaaGreatDoor.Risc Go.Joins
set_option maxRecDepth 100000
set_option linter.unusedVariables false

theorem cellsPlay : Tryz.prog.cellsOf 25 = 3 := by kernel_rfl
theorem cellsI64 : Tryz.prog.cellsOf 3 = 1 := by kernel_rfl
theorem cellsS : Tryz.prog.cellsOf 9 = 1 := by kernel_rfl
theorem cellsL : Tryz.prog.cellsOf 23 = 1 := by kernel_rfl
theorem at0_map (f : Nat → Int) (n i : Nat) (hi : i < n) : at0 ((List.range n).map f) i = f i := by simp [at0, hi]
section
variable {H : Type} {enc : TypeId × Value → H} {W : World} {base b0 : Nat} {spare : Nat → Bool} {held : Bool} {r : Reach}
theorem open_play {v : Value} {d : DataW H} {p : List MemPlace} (hv : Value.okWide Tryz.prog W r b0 25 v) (h : DataW.Trod enc Tryz.prog W base spare held 25 v d p) :
    ∃ (st : Int) (s : ByteArray) (ao : Option Addr) (n c : Nat) (xs : List Int), v = .agg #[.int .i64 st, .string s, .slice ao n c] ∧ (Lit.int .i64 st).wf = true ∧ s.size ≤ maxLen ∧ Fl W ao n xs := by
  obtain ⟨cs, rfl, hsz⟩ := okWide_struct Tryz.underlying25 hv
  obtain ⟨fuel, hf⟩ := h
  obtain ⟨xs, n, _, hx, _, hlen, hel⟩ := DataW.trod_struct Tryz.underlying25 hf
  rw [cellsPlay] at hsz
  obtain ⟨l⟩ := cs
  match l, hsz, xs, hlen, hx, hel with
  | [c0, c1, c2], _, [y0, y1, y2], _, hx, hel =>
    have h0 := hel 0 _ rfl
    have h1 := hel 1 _ rfl
    have h2 := hel 2 _ rfl
    simp [Value.cells, cellsI64, cellsS, cellsL] at h0 h1 h2
    obtain ⟨st, e0, _, w0⟩ := DataW.trod_int Tryz.underlying3 h0
    obtain ⟨s, e1, _, hs⟩ := DataW.trod_string Tryz.underlying9 h1
    simp at e0 e1
    subst e0 e1
    rcases open_slice1 Tryz.underlying23 cellsI64 h2 with ⟨hcs, _⟩ | ⟨a, len, cap, m, k, V, D, Pl, hcs, _, hl, hm, hmm, _, hx⟩
    · simp at hcs
      subst hcs
      exact ⟨st, s, none, 0, 0, [], rfl, w0, hs, ⟨fun i hi => absurd hi (Nat.not_lt_zero _), fun i hi => absurd hi (Nat.not_lt_zero _), Nat.zero_le _⟩⟩
    · simp at hcs
      subst hcs
      have hlm : len ≤ m := by rw [hmm]; split <;> omega
      obtain ⟨f, hf⟩ := choose_lt (α := Int) (n := len) (p := fun i x => W.cell? (a.add i) = some (.int .i64 x) ∧ -9223372036854775808 ≤ x ∧ x ≤ 9223372036854775807) (fun i hi => by
        obtain ⟨h1, h2⟩ := hx i (by omega)
        obtain ⟨x, e, _, hw⟩ := DataW.trod_int Tryz.underlying3 h2
        simp at e
        have := bounds_i64 hw
        exact ⟨x, by rw [h1, e], by omega, by omega⟩)
      refine ⟨st, s, some a, len, cap, (List.range len).map f, rfl, w0, hs, ⟨fun i hi => ⟨a, rfl, ?_⟩, fun i hi => ?_, by omega⟩⟩
      · rw [at0_map f len i hi]; exact (hf i hi).1
      · rw [at0_map f len i hi]; exact (hf i hi).2
end
theorem runs_walk (w : World) (L : Laid w) (o0 : Option Addr) (n0 c0 : Nat) (x0 : List Int) (W0 : Wl w o0 n0 c0 x0) (start : Int) (inp : ByteArray) (of : Option Addr) (nf cf : Nat) (xf : List Int) (hi : inp.size ≤ maxLen) (F0 : Fl w of nf xf) :
    Calls Tryz.prog 3 #[.slice o0 n0 c0, .agg #[.int .i64 start, .string inp, .slice of nf cf]] w fun e w' => e = .returned (.bool true) ∧ w.grownBy w' none := by
  have hmax := W0.max
  unfold maxLen at hmax hi
  by_cases h : lgB n0 = true ∨ 5000 < inp.size
  · exact runs_bad w L o0 n0 c0 start inp of nf cf (by omega) (by omega) h
  · have h1 : lgB n0 = false := by
      cases e : lgB n0
      · rfl
      · exact absurd (.inl e) h
    have h2 : n0 ≤ 70000 := by
      have := h1
      simp [lgB] at this
      omega
    exact runs_good w L o0 n0 c0 x0 W0 start inp of nf cf xf F0 (by omega) h2 h1
end Go.Proofs.YtjneaphlghfbhaaGreatDoor.Qpu
