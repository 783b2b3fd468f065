/-
  Wanted: part 0.
  No condition.
-/

set_option linter.all false
namespace Go.Proofs.YtnoehplnmdajnaaGreatDoor
namespace Ty
structure CarV where
 ds:Int
 da:Int
 un:Int
 wy:Int
 ti:Int
 ju:Int
 lo:Int
 bl:Bool
 br:Bool
 mo:Int
 ta:Int
 ho:Bool
 sp:Int
 su:Int
 sd:Int
structure CfgV where
 ca:Int
 fl:Int
 ft:Int
 se:Int
 dr:Int
 dw:Int
 ho:Int
 re:Int
 yi:Int
 qu:Int
 qo:Int
 lo:Int
 sl:Int
 rt:Int
 cp:Int
 tr:Int
 de:Int
 wi:Int
structure AskV where
 se:Int
 fl:Int
 fm:Int
 to:Int
 ma:Int
structure LeaseV where
 se:Int
 fl:Int
 fm:Int
 to:Int
 ma:Int
 ca:Int
 ph:Int
 un:Int
 re:Int
 gr:Int
end Ty
end Go.Proofs.YtnoehplnmdajnaaGreatDoor
