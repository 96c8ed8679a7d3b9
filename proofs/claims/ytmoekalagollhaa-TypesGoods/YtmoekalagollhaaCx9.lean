/-
  A region that draws its order and ends by a store into the call's own result: the world grows but for that block.
-/
import Derived.Test.YtmoekalagollhaaCx8
namespace Go.Proofs.Ytmoekalagollhaa.Tr
open Go.RowKit Go.Proofs.Ytmoekalagollhaa.Tx
set_option linter.unusedVariables false
set_option linter.unusedSimpArgs false
section
variable {P : Program} {o : Oper} {a : Act} {w w0 : World} {A : Nat → Prop} {X : Option Nat} {L L' : List Lc} {Rs : List Rw} {Ts : List (List Dt × List Value)} {K : Act → World → Prop} {Q : Exit → Act → World → Prop}
theorem op_store_g (T : TypeId) (x y : Operand) (ho : o.op = .store T x y) {b off : Nat} (hx : a.eval x = .pointer (some ⟨b, off, none⟩)) {us : List Value} (hv : (a.eval y).cells = us.toArray) (hs : (P.info? T).map (·.size) = some us.length) (h1 : us.all (·.oneCell') = true) (H : Cx w0 A X L Rs Ts w) {cs cs' : List Value} {t : TypeId} (hm : ⟨b, cs, t⟩ ∈ L) (hp : PutS off us cs cs') (hu : Upd b cs' L L')
    (h : ∀ w', w.grownBy w' (some b) → Cx w0 A X L' Rs Ts w' → K (a.put o.dst undef) w') : o.wp P a w K Q := by
  refine op_skip (w' := w.setRow b cs'.toArray) ?_ (h _ ⟨rfl, rfl, rfl, by simp, fun k _ hk => setRow_other w b k _ (fun e => hk (by rw [e]))⟩ (H.loc_set hm hu))
  unfold execOp
  simp [ho, hx, Instr.storeAt, Instr.sureAddr, run_store_at H hm hv hs hp h1]
theorem nx_head {b : Nat} {cs : List Value} {t : TypeId} (H : Cx w0 A X (⟨b, cs, t⟩ :: L) Rs Ts w) {p : Lc} (hp : p ∈ L) : NX (some b) p.b := ⟨fun e => (List.pairwise_cons.1 H.dis).1 p hp (by simpa using e.symm)⟩
end
end Go.Proofs.Ytmoekalagollhaa.Tr
