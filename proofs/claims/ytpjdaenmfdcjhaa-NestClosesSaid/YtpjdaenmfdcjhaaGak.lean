/-
  The landed package nest keeps its contracts.
-/
import Derived.Test.YtpjdaenmfdcjhaaGag
import Derived.Test.YtpjdaenmfdcjhaaGaj
namespace Go.Proofs.Ytpjdaenmfdcjhaa
open Go.RowKit

theorem nestC : NestC where
  ends := fun ts hm A cap _ w h => nends_code ts hm A cap w h
  skip := skipC
  split := splitC
  trim := trimC
  find := findC
end Go.Proofs.Ytpjdaenmfdcjhaa
