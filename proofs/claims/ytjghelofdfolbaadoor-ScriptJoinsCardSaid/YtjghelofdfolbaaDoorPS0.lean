/-
  Wanted: part 0.
  No condition.
-/

set_option linter.all false
namespace Go.Proofs.YtjghelofdfolbaaDoor
namespace Ty
structure CfgV where
 ca:Int
 fl:Int
 ft:Int
 se:Int
 dr:Int
 dw:Int
 ho:Int
 re:Int
 yi:Int
 qu:Int
 qo:Int
 lo:Int
 sl:Int
 rt:Int
 cp:Int
 tr:Int
 de:Int
 wi:Int
end Ty
end Go.Proofs.YtjghelofdfolbaaDoor
