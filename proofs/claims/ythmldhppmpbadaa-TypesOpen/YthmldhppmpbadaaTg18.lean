/-
  The seven basic types: package types' own; a slice that is made.
-/
import Derived.Test.YthmldhppmpbadaaTg17
import Derived.Laws.MakeOwn
namespace Go.Proofs.Ythmldhppmpbadaa.Ty
open Go.RowKit hiding Hid
open Go.Maps Go.Proofs.Ythmldhppmpbadaa.Tx Go.Proofs.Ythmldhppmpbadaa.Lx Go.Proofs.Ythmldhppmpbadaa.Tr Go.Proofs.Ythmldhppmpbadaa.Mp
set_option linter.unusedVariables false
set_option linter.unusedSimpArgs false
set_option maxRecDepth 100000

theorem at_mks {P : Program} {ops : Array Oper} {rest : List Oper} {o : Oper} {a : Act} {w : World} {Q : Exit → Act → World → Prop} (T : TypeId) {x y : Operand} (_ : o.op = .makeSlice T x y) (h : wpList P ops Q (o :: rest) a w) : wpList P ops Q (o :: rest) a w := h
theorem wl_mks {P : Program} {ops : Array Oper} {rest : List Oper} {o : Oper} {a : Act} {w w0 : World} {Q : Exit → Act → World → Prop} {A : Nat → Prop} {X : Option Nat} {L : List Lc} {Rs : List Rw} {Ts : List (List Dt × List Value)} (hgd : o.guard = none) (T : TypeId) (x y : Operand) (ho : o.op = .makeSlice T x y) {e : TypeId} {i : TypeInfo} {z : Value} (hT : P.underlying T = some (.slice e)) (hi : P.info? e = some i) (hz : i.zero = some z) (n : Nat) (hx : a.eval x = .int .i64 n) (hy : a.eval y = .int .i64 n) (hb : (i.bytes : Int) * n ≤ 281474976710656) (hn : n * i.size ≤ 16777216) (hn2 : n ≤ 1000000) (cs : List Value) (hcs : madeCells z.cells (n * i.size) = cs.toArray) (H : Cx w0 A X L Rs Ts w)
    (h : ∀ b w', NX X b → Cx w0 A X (⟨b, cs, e⟩ :: L) Rs Ts w' → wpList P ops Q rest (a.put o.dst (.slice (some ⟨b, 0, none⟩) n n)) w') : wpList P ops Q (o :: rest) a w := by
  have hr := run_makeSlice (P := P) (w := w) T e i z hT hi hz .i64 .i64 n n (by omega) (Int.le_refl _) (by rw [Int.toNat_natCast]; exact hn) hb (by omega)
  rw [Int.toNat_natCast, hcs] at hr
  refine wl_val (w' := w.alloc (.cells cs.toArray e)) hgd ?_ (h w.heap.size _ H.nx (H.loc_new cs e))
  unfold execOp
  simp [ho, hx, hy, hr]
def zL : La := ⟨⟨0, [], [], 0, 0, 0, [], [], 0, 0⟩, none, 0, none, 0⟩
def stp (i : Nat) : List La := (List.range 7).map (fun j => if j < i then bL j else zL)
theorem stp_put : ∀ i, i < 7 → PutS (i * 10) [.int .i64 (i : Int)] ((stp i).flatMap laC) ((stp (i + 1)).flatMap laC) := by
  intro i hi
  have h0 : ((stp (i + 1)).flatMap laC) = ((stp i).flatMap laC).set (i * 10) (.int .i64 (i : Int)) := by
    rcases i with _ | _ | _ | _ | _ | _ | _ | i
    all_goals first | rfl | omega
  rw [h0]
  refine putS_at _ _ _ ?_
  have : ((stp i).flatMap laC).length = 70 := by
    rcases i with _ | _ | _ | _ | _ | _ | _ | i
    all_goals first | rfl | omega
  omega
theorem mk7 : ∃ i z, Try.prog.info? 48 = some i ∧ i.zero = some z ∧ i.size = 10 ∧ i.bytes = 128 ∧ madeCells z.cells 70 = ((stp 0).flatMap laC).toArray := by
  refine ⟨_, _, rfl, rfl, rfl, rfl, ?_⟩
  kernel_rfl
set_option maxHeartbeats 8000000 in
theorem pbasic_at (w : World) : Calls Try.prog 53 #[] w (BaO w) := by
  have HC := hide (Cx.start w (fun _ => False))
  obtain ⟨ti, tz, t1, t2, t3, t4, t5⟩ := mk7
  have HM := hide (And.intro t1 (And.intro t2 (And.intro t3 (And.intro t4 t5))))
  clear t1 t2 t3 t4 t5
  go_enter Try.func53, Try.ntmps53
  go_wp2_with (refine at_mks 24 rfl ?_; refine wl_mks rfl 24 _ _ rfl Try.underlying24 HM.out.1 HM.out.2.1 7 rfl rfl (by rw [HM.out.2.2.2.1]; decide) (by rw [HM.out.2.2.1]; decide) (by decide) ((stp 0).flatMap laC) (by rw [HM.out.2.2.1]; exact HM.out.2.2.2.2) HC.out ?_; intro b w' hn hc; (replace HC := hide hc; clear hc))
  go_loopw [6] (fun iv W => ∃ (i : Nat), i ≤ 7 ∧ iv = .int .i64 i ∧ Hid (Cx w (fun _ => False) none [⟨b, (stp i).flatMap laC, 48⟩] [] [] W)) (fun iv _ => 7 - (intOf iv).toNat)
  case atStart => exact ⟨0, by omega, rfl, HC⟩
  case round =>
    clear HC
    obtain ⟨i, hi, rfl, HC⟩ := hrel
    by_cases hlt : i < 7
    · have q1 : (i : Int) < 7 := by omega
      have HL := hide hlt
      go_wp2_with (refine at_store 3 rfl ?_; refine wl_store (us := [.int .i64 (i : Int)]) (off := i * 10) rfl 3 _ _ rfl rfl rfl tcI.sz rfl HC.out (by repeat (first | exact List.Mem.head _ | apply List.Mem.tail)) (stp_put i HL.out) (by repeat (first | exact Upd.here _ _ _ | apply Upd.there)) ?_; intro w' hc; (replace HC := hide hc; clear hc))
      exact ⟨⟨i + 1, by omega, by go_num, HC⟩, by simp [intOf]; omega⟩
    · obtain rfl : i = 7 := by omega
      go_wp2
      go_ret
      refine ⟨_, _, rfl, Nat.le_refl _, HC.out.grown, tab_b (fun j u hu => ⟨_, rfl, ?_⟩)⟩
      have hadd : (⟨b, 0, none⟩ : Addr).add j = ⟨b, j, none⟩ := by unfold Addr.add; split <;> simp_all
      rw [hadd]
      exact cf HC.out (.head _) j u (by rw [show stp 7 = (List.range 7).map bL by rfl]; exact hu)
end Go.Proofs.Ythmldhppmpbadaa.Ty
