/- The law UtfAll: all cases. -/
import Derived.Test.YtaepfdkbefojmaaDoorUtfLawAllF
import Derived.Test.YtaepfdkbefojmaaDoorUtfLawAllP
namespace Go.Proofs.YtaepfdkbefojmaaDoor
open Go Go.RowKit

theorem lawAll_any (s : ByteArray) (stop : Int) (w : World) (hg : ErrTab w) (hm : Marks w) (hs : s.size ≤ 9223372036854775807) (hst : 0 ≤ stop ∧ stop ≤ 255) :
    Calls Tryd.prog 5 #[.string s, .int .u8 stop] w fun e w' => e = .returned (.bool true) ∧ Below w.heap.size w w' := by
  rcases Nat.lt_or_ge 5000 s.size with h | h
  · exact lawAll_long s stop w hg hm hs h
  · by_cases hb : badU (strL s) = (strL s).length
    · exact lawAll_full s stop w hg hm h hst hb
    · exact lawAll_part s stop w hg hm h hst hb
end Go.Proofs.YtaepfdkbefojmaaDoor
