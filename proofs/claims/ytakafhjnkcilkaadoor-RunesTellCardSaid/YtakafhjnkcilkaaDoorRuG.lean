/-
  The walk of utf8.FullRune, a part.
-/
import Derived.Test.YtakafhjnkcilkaaDoorRuF1
import Derived.Test.YtakafhjnkcilkaaDoorRuF2
import Derived.Test.YtakafhjnkcilkaaDoorRuF3
namespace Go.Proofs.YtakafhjnkcilkaaDoor
open Go.RowKit Go.Lib

theorem full_any (n x0 x1 x2 b off cap : Nat) (w : World) (hn : 1 ≤ n) (hm : n ≤ 9223372036854775807) (hT : Utf8Tabs 0 1 w) (l0 : x0 < 256)
    (hs0 : w.cell? ⟨b, off, none⟩ = some (.int .u8 x0)) (hq1 : 1 < n → w.cell? ⟨b, off + 1, none⟩ = some (.int .u8 x1)) (hq2 : 2 < n → w.cell? ⟨b, off + 2, none⟩ = some (.int .u8 x2)) :
    Calls Tryd.prog 43 #[.slice (some ⟨b, off, none⟩) n cap] w fun e w' => e = .returned (.bool (Ru.full n x0 x1 x2)) ∧ Below w.heap.size w w' := by
  rcases Lib.firstT_cases x0 with hX | hX | hX | hX | hX | hX | hX | hX | hX
  · exact full_240 n x0 x1 x2 b off cap w hn hm hT l0 hs0 hq1 hq2 hX
  · exact full_241 n x0 x1 x2 b off cap w hn hm hT l0 hs0 hq1 hq2 hX
  · exact full_2 n x0 x1 x2 b off cap w hn hm hT l0 hs0 hq1 hq2 hX
  · exact full_19 n x0 x1 x2 b off cap w hn hm hT l0 hs0 hq1 hq2 hX
  · exact full_3 n x0 x1 x2 b off cap w hn hm hT l0 hs0 hq1 hq2 hX
  · exact full_35 n x0 x1 x2 b off cap w hn hm hT l0 hs0 hq1 hq2 hX
  · exact full_52 n x0 x1 x2 b off cap w hn hm hT l0 hs0 hq1 hq2 hX
  · exact full_4 n x0 x1 x2 b off cap w hn hm hT l0 hs0 hq1 hq2 hX
  · exact full_68 n x0 x1 x2 b off cap w hn hm hT l0 hs0 hq1 hq2 hX
end Go.Proofs.YtakafhjnkcilkaaDoor
