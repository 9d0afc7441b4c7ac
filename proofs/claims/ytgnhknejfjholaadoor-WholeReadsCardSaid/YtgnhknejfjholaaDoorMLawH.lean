/-
  WholeReads: the walk, whatever the text is.
-/
import Derived.Test.YtgnhknejfjholaaDoorMLawG

namespace Go.Proofs.YtgnhknejfjholaaDoor
open Go.RowKit

theorem reads_walk (t1 : ByteArray) (m : Int) (W : World) (ht1 : t1.size ≤ 9223372036854775807) (hm1 : -9223372036854775808 ≤ m) (hm2 : m ≤ 9223372036854775807) (htab : Ten W) (hbr : Bru W) :
    Calls Tryd.prog 3 #[.string t1, .int .i64 m] W fun e w' => e = .returned (.bool true) ∧ Ext W w' := by
  by_cases h : pcode (bs t1) = 0
  · exact reads_good t1 m W ht1 hm1 hm2 htab hbr h
  · exact reads_bad t1 m W ht1 hm1 hm2 htab hbr h

end Go.Proofs.YtgnhknejfjholaaDoor
