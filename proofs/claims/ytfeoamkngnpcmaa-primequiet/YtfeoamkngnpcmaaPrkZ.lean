import Derived.Test.YtfeoamkngnpcmaaPrnH
namespace Go.Proofs.Ytfeoamkngnpcmaa
set_option linter.unusedSimpArgs false
open Go.ChangeShapes Go.WideShapes Go.ChangeAt Go.RowKit Go.Pin Go.Prm
theorem wp_load_midV {P : Program} {op : Oper} {a : Act} {w : World} {K : Act → World → Prop} {Q : Exit → Act → World → Prop} (ty : TypeId) (x : Operand) (ho : op.op = .load ty x)
    (b o : Nat) (hx : a.eval x = .pointer (some ⟨b, o, none⟩)) (k : IntKind) (l : List Int) (d : TypeDesc) (hc : w.rangeAt b o (l.map (Value.int k)))
    (hu : P.underlying ty = some d) (hd : d.isRow = true) (hi : (P.info? ty).map (·.size) = some l.length)
    (h : K (a.put op.dst (.agg (VI k l))) w) : op.wp P a w K Q := wp_load_mid ty x ho b o hx _ d hc hu hd (by rw [List.length_map]; exact hi) h
end Go.Proofs.Ytfeoamkngnpcmaa
