/-
  What RespWrites answers: true.
-/
import Derived.Test.YtdeacankicciaaaDoorRespWritesG
import Derived.Test.YtdeacankicciaaaDoorRespWritesH
import Derived.Test.YtdeacankicciaaaDoorRespWritesI
namespace Go.Proofs.YtdeacankicciaaaDoor
open Go.RowKit Rp

/-- RespWrites answers true. -/
theorem writes_true (a b : Rep) (tl : List UInt8) (p q : Option Addr) (c d : Nat) (pt : Option Addr) (ct : Nat) (w : World) (ha : RepIn w a p c) (hb : RepIn w b q d) (hrt : Tail w pt ct tl) (hL : Errs w) (hR : Runes w) :
    Calls Tryd.prog 4 #[.agg (repCs a p c), .agg (repCs b q d), .slice pt tl.length ct] w fun e w' => e = .returned (.bool true) ∧ Below w.heap.size w w' := by
  by_cases h1 : size 9 a ≤ 300
  · by_cases h2 : size 9 b ≤ 300
    · by_cases h3 : tl.length ≤ 300
      · cases h4 : right 4 a
        · cases h5 : right 4 b
          · exact writes_ff a b p q c d pt tl.length ct w ha hb hL.tab h1 h2 h3 h4 h5
          · exact writes_ft a b p q c d pt tl.length ct w ha hb hL.tab h1 h2 h3 h4 h5
        · cases h5 : right 4 b
          · exact writes_tf a b p q c d tl pt tl.length ct w ha hb hL hR hrt rfl h1 h2 h3 h4 h5
          · exact writes_tt a b p q c d tl pt tl.length ct w ha hb hL hR hrt rfl h1 h2 h3 h4 h5
      · exact writes_t a b p q c d pt tl.length ct w ha hb hL.tab h1 h2 (by omega)
    · exact writes_sb a b p q c d pt tl.length ct w ha hb hL.tab h1 (by omega)
  · exact writes_sa a b p q c d pt tl.length ct w ha hL.tab (by omega)
end Go.Proofs.YtdeacankicciaaaDoor
