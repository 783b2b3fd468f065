/-
  Wanted: part 3.
  No condition.
-/
import Derived.Test.YtnoehplnmdajnaaGreatDoorProg
import Derived.Test.YtnoehplnmdajnaaGreatDoorPH1
import Derived.Test.YtnoehplnmdajnaaGreatDoorPH2
import Derived.Test.YtnoehplnmdajnaaGreatDoorPH0
import Derived.WalkKit
import Derived.Laws.BitsAllLaws
import Derived.Test.YtnoehplnmdajnaaGreatDoorRows
import Derived.IntWalk
import Derived.Laws.Bits128
import Derived.Laws.CopyRow
import Derived.Laws.MakeOwn
set_option linter.all false
namespace Go.Proofs.YtnoehplnmdajnaaGreatDoor
namespace En
open Go.RowKit
set_option maxRecDepth 100000
def tab:Tab:=[
 (2,⟨false,1,[(.i .i64 0)],[],false,0,some .i64,[],false⟩),
 (3,⟨false,1,[(.i .i64 0)],[],false,0,some .i64,[],false⟩),
 (4,⟨false,1,[(.b false)],[],false,0,none,[false],false⟩),
 (5,⟨false,1,[(.i .u8 0)],[],false,0,some .u8,[],false⟩),
 (6,⟨false,1,[(.i .u8 0)],[],false,0,some .u8,[],false⟩),
 (7,⟨true,4,[(.i .i64 0),(.i .i64 0),(.b false),(.i .u8 0)],[(0,1,false),(1,1,false),(2,1,false),(3,1,false)],false,0,none,[true,true,false,true],false⟩),
 (8,⟨true,4,[(.i .i64 0),(.i .i64 0),(.b false),(.i .u8 0)],[(0,1,false),(1,1,false),(2,1,false),(3,1,false)],false,0,none,[true,true,false,true],false⟩),
 (9,⟨false,1,[(.v (.string ByteArray.empty))],[],false,0,none,[],false⟩),
 (10,⟨false,1,[(.v (.string ByteArray.empty))],[],false,0,none,[],false⟩),
 (11,⟨false,1,[(.v (.string ByteArray.empty))],[],false,0,none,[],false⟩),
 (12,⟨false,1,[(.i .u64 0)],[],false,0,some .u64,[],false⟩),
 (13,⟨true,2,[(.v (.string ByteArray.empty)),(.i .u64 0)],[(0,1,false),(1,1,false)],false,0,none,[],false⟩),
 (14,⟨true,2,[(.v (.string ByteArray.empty)),(.i .u64 0)],[(0,1,false),(1,1,false)],false,0,none,[],false⟩),
 (15,⟨false,1,[(.v (.pointer none))],[],false,0,none,[],true⟩),
 (16,⟨false,1,[(.v (.pointer none))],[],false,0,none,[],true⟩),
 (17,⟨false,1,[(.v (.pointer none))],[],false,0,none,[],true⟩),
 (18,⟨true,1,[(.v (.pointer none))],[(0,1,false)],false,0,none,[],false⟩),
 (19,⟨true,1,[(.v (.pointer none))],[(0,1,false)],false,0,none,[],false⟩),
 (20,⟨false,1,[(.v (.nilIface))],[],false,0,none,[],false⟩),
 (21,⟨false,1,[(.i .i32 0)],[],false,0,some .i32,[],false⟩),
 (22,⟨true,18,[(.i .i64 0),(.i .i64 0),(.i .i64 0),(.i .i64 0),(.i .i64 0),(.i .i64 0),(.i .i64 0),(.i .i64 0),(.i .i64 0),(.i .i64 0),(.i .i64 0),(.i .i64 0),(.i .i64 0),(.i .i64 0),(.i .i64 0),(.i .i64 0),(.i .i64 0),(.i .i64 0)],[(0,1,false),(1,1,false),(2,1,false),(3,1,false),(4,1,false),(5,1,false),(6,1,false),(7,1,false),(8,1,false),(9,1,false),(10,1,false),(11,1,false),(12,1,false),(13,1,false),(14,1,false),(15,1,false),(16,1,false),(17,1,false)],false,0,none,[true,true,true,true,true,true,true,true,true,true,true,true,true,true,true,true,true,true],false⟩),
 (23,⟨true,18,[(.i .i64 0),(.i .i64 0),(.i .i64 0),(.i .i64 0),(.i .i64 0),(.i .i64 0),(.i .i64 0),(.i .i64 0),(.i .i64 0),(.i .i64 0),(.i .i64 0),(.i .i64 0),(.i .i64 0),(.i .i64 0),(.i .i64 0),(.i .i64 0),(.i .i64 0),(.i .i64 0)],[(0,1,false),(1,1,false),(2,1,false),(3,1,false),(4,1,false),(5,1,false),(6,1,false),(7,1,false),(8,1,false),(9,1,false),(10,1,false),(11,1,false),(12,1,false),(13,1,false),(14,1,false),(15,1,false),(16,1,false),(17,1,false)],false,0,none,[true,true,true,true,true,true,true,true,true,true,true,true,true,true,true,true,true,true],false⟩),
 (25,⟨false,1,[(.v (.slice none 0 0))],[],true,40,none,[],false⟩),
 (26,⟨false,1,[(.i .i64 0)],[],false,0,some .i64,[],false⟩),
 (38,⟨false,1,[(.v (.slice none 0 0))],[],true,5,none,[],false⟩),
 (39,⟨true,4,[(.i .i64 0),(.i .i64 0),(.i .i64 0),(.v (.slice none 0 0))],[(0,1,false),(1,1,false),(2,1,false),(3,1,false)],false,0,none,[],false⟩),
 (40,⟨true,4,[(.i .i64 0),(.i .i64 0),(.i .i64 0),(.v (.slice none 0 0))],[(0,1,false),(1,1,false),(2,1,false),(3,1,false)],false,0,none,[],false⟩),
 (43,⟨false,1,[(.v (.pointer none))],[],false,0,none,[],true⟩),
 (44,⟨true,2,[(.v (.pointer none)),(.v (.slice none 0 0))],[(0,1,false),(1,1,false)],false,0,none,[],false⟩),
 (45,⟨true,2,[(.v (.pointer none)),(.v (.slice none 0 0))],[(0,1,false),(1,1,false)],false,0,none,[],false⟩),
 (46,⟨true,2,[(.v (.pointer none)),(.v (.slice none 0 0))],[(0,2,true)],false,0,none,[],false⟩),
 (47,⟨true,2,[(.v (.pointer none)),(.v (.slice none 0 0))],[(0,2,true)],false,0,none,[],false⟩),
 (51,⟨false,1,[(.v (.pointer none))],[],false,0,none,[],true⟩),
 (54,⟨false,1,[(.v (.slice none 0 0))],[],true,89,none,[],false⟩),
 (58,⟨false,1,[(.v (.slice none 0 0))],[],true,61,none,[],false⟩),
 (60,⟨false,1,[(.v (.pointer none))],[],false,0,none,[],true⟩),
 (61,⟨false,1,[(.v (.pointer none))],[],false,0,none,[],true⟩),
 (62,⟨false,1,[(.v (.slice none 0 0))],[],true,9,none,[],false⟩),
 (67,⟨true,3,[(.i .i64 0),(.i .i64 0),(.i .i64 0)],[],false,0,none,[],false⟩),
 (71,⟨false,1,[(.v (.slice none 0 0))],[],true,20,none,[],false⟩),
 (73,⟨false,1,[(.v (.pointer none))],[],false,0,none,[],true⟩),
 (75,⟨false,1,[(.v (.pointer none))],[],false,0,none,[],true⟩),
 (79,⟨false,1,[(.v (.pointer none))],[],false,0,none,[],true⟩),
 (80,⟨false,1,[(.v (.pointer none))],[],false,0,none,[],true⟩),
 (82,⟨false,1,[(.v (.pointer none))],[],false,0,none,[],true⟩),
 (83,⟨true,2,[(.v (.slice none 0 0)),(.i .i64 0)],[(0,1,false),(1,1,false)],false,0,none,[],false⟩),
 (84,⟨true,2,[(.v (.slice none 0 0)),(.i .i64 0)],[(0,1,false),(1,1,false)],false,0,none,[],false⟩),
 (85,⟨false,1,[(.v (.map none))],[],false,0,none,[],false⟩),
 (86,⟨true,22,[(.i .i64 0),(.i .i64 0),(.i .i64 0),(.i .i64 0),(.i .i64 0),(.i .i64 0),(.i .i64 0),(.i .i64 0),(.i .i64 0),(.i .i64 0),(.i .i64 0),(.i .i64 0),(.i .i64 0),(.i .i64 0),(.i .i64 0),(.i .i64 0),(.i .i64 0),(.i .i64 0),(.v (.pointer none)),(.v (.pointer none)),(.v (.map none)),(.i .i64 0)],[(0,18,true),(18,1,false),(19,1,false),(20,1,false),(21,1,false)],false,0,none,[],false⟩),
 (87,⟨true,22,[(.i .i64 0),(.i .i64 0),(.i .i64 0),(.i .i64 0),(.i .i64 0),(.i .i64 0),(.i .i64 0),(.i .i64 0),(.i .i64 0),(.i .i64 0),(.i .i64 0),(.i .i64 0),(.i .i64 0),(.i .i64 0),(.i .i64 0),(.i .i64 0),(.i .i64 0),(.i .i64 0),(.v (.pointer none)),(.v (.pointer none)),(.v (.map none)),(.i .i64 0)],[(0,18,true),(18,1,false),(19,1,false),(20,1,false),(21,1,false)],false,0,none,[],false⟩),
 (88,⟨true,2,[(.i .i64 0),(.v (.slice none 0 0))],[(0,1,false),(1,1,false)],false,0,none,[],false⟩),
 (89,⟨true,2,[(.i .i64 0),(.v (.slice none 0 0))],[(0,1,false),(1,1,false)],false,0,none,[],false⟩),
 (93,⟨false,1,[(.v (.map none))],[],false,0,none,[],false⟩),
 (95,⟨false,1,[(.v (.slice none 0 0))],[],true,98,none,[],false⟩),
 (97,⟨true,5,[(.i .i64 0),(.i .i64 0),(.i .i64 0),(.i .i64 0),(.i .i64 0)],[(0,1,false),(1,1,false),(2,1,false),(3,1,false),(4,1,false)],false,0,none,[true,true,true,true,true],false⟩),
 (98,⟨true,5,[(.i .i64 0),(.i .i64 0),(.i .i64 0),(.i .i64 0),(.i .i64 0)],[(0,1,false),(1,1,false),(2,1,false),(3,1,false),(4,1,false)],false,0,none,[true,true,true,true,true],false⟩),
 (99,⟨false,1,[(.v (.slice none 0 0))],[],true,176,none,[],false⟩),
 (102,⟨false,1,[(.i .u64 0)],[],false,0,some .u64,[],false⟩),
 (107,⟨false,1,[(.v (.nilIface))],[],false,0,none,[],false⟩),
 (108,⟨false,1,[(.v (.nilIface))],[],false,0,none,[],false⟩),
 (113,⟨false,1,[(.v (.pointer none))],[],false,0,none,[],true⟩),
 (115,⟨false,1,[(.v (.pointer none))],[],false,0,none,[],true⟩),
 (117,⟨false,1,[(.v (.pointer none))],[],false,0,none,[],true⟩),
 (119,⟨true,21,[(.i .i64 0),(.i .i64 0),(.i .i64 0),(.i .i64 0),(.i .i64 0),(.i .i64 0),(.i .i64 0),(.i .i64 0),(.i .i64 0),(.i .i64 0),(.i .i64 0),(.i .i64 0),(.i .i64 0),(.i .i64 0),(.i .i64 0),(.i .i64 0),(.i .i64 0),(.i .i64 0),(.v (.pointer none)),(.v (.pointer none)),(.v (.pointer none))],[(0,18,true),(18,1,false),(19,1,false),(20,1,false)],false,0,none,[],false⟩),
 (120,⟨true,21,[(.i .i64 0),(.i .i64 0),(.i .i64 0),(.i .i64 0),(.i .i64 0),(.i .i64 0),(.i .i64 0),(.i .i64 0),(.i .i64 0),(.i .i64 0),(.i .i64 0),(.i .i64 0),(.i .i64 0),(.i .i64 0),(.i .i64 0),(.i .i64 0),(.i .i64 0),(.i .i64 0),(.v (.pointer none)),(.v (.pointer none)),(.v (.pointer none))],[(0,18,true),(18,1,false),(19,1,false),(20,1,false)],false,0,none,[],false⟩),
 (121,⟨false,1,[(.i .u64 0)],[],false,0,some .u64,[],false⟩),
 (122,⟨false,1,[(.v (.slice none 0 0))],[],true,130,none,[],false⟩),
 (125,⟨true,2,[(.i .i64 0),(.i .i64 0)],[(0,1,false),(1,1,false)],false,0,none,[true,true],false⟩),
 (126,⟨true,2,[(.i .i64 0),(.i .i64 0)],[(0,1,false),(1,1,false)],false,0,none,[true,true],false⟩),
 (127,⟨true,3,[(.i .u64 0),(.i .u64 0),(.i .u64 0)],[(0,1,false),(1,1,false),(2,1,false)],false,0,none,[true,true,true],false⟩),
 (128,⟨true,3,[(.i .u64 0),(.i .u64 0),(.i .u64 0)],[(0,1,false),(1,1,false),(2,1,false)],false,0,none,[true,true,true],false⟩),
 (129,⟨true,15,[(.i .i64 0),(.i .i64 0),(.i .i64 0),(.i .i64 0),(.i .i64 0),(.i .i64 0),(.i .i64 0),(.b false),(.b false),(.i .i64 0),(.i .i64 0),(.b false),(.i .u64 0),(.i .u64 0),(.i .u64 0)],[(0,2,true),(2,1,false),(3,1,false),(4,1,false),(5,1,false),(6,1,false),(7,1,false),(8,1,false),(9,1,false),(10,1,false),(11,1,false),(12,3,true)],false,0,none,[true,true,true,true,true,true,true,false,false,true,true,false,true,true,true],false⟩),
 (130,⟨true,15,[(.i .i64 0),(.i .i64 0),(.i .i64 0),(.i .i64 0),(.i .i64 0),(.i .i64 0),(.i .i64 0),(.b false),(.b false),(.i .i64 0),(.i .i64 0),(.b false),(.i .u64 0),(.i .u64 0),(.i .u64 0)],[(0,2,true),(2,1,false),(3,1,false),(4,1,false),(5,1,false),(6,1,false),(7,1,false),(8,1,false),(9,1,false),(10,1,false),(11,1,false),(12,3,true)],false,0,none,[true,true,true,true,true,true,true,false,false,true,true,false,true,true,true],false⟩),
 (136,⟨false,1,[(.v (.slice none 0 0))],[],true,220,none,[],false⟩),
 (137,⟨true,21,[(.i .i64 0),(.i .i64 0),(.i .i64 0),(.i .i64 0),(.i .i64 0),(.i .i64 0),(.i .i64 0),(.i .i64 0),(.i .i64 0),(.i .i64 0),(.i .i64 0),(.i .i64 0),(.i .i64 0),(.i .i64 0),(.i .i64 0),(.i .i64 0),(.i .i64 0),(.i .i64 0),(.v (.slice none 0 0)),(.v (.slice none 0 0)),(.i .i64 0)],[(0,18,true),(18,1,false),(19,1,false),(20,1,false)],false,0,none,[],false⟩),
 (138,⟨true,21,[(.i .i64 0),(.i .i64 0),(.i .i64 0),(.i .i64 0),(.i .i64 0),(.i .i64 0),(.i .i64 0),(.i .i64 0),(.i .i64 0),(.i .i64 0),(.i .i64 0),(.i .i64 0),(.i .i64 0),(.i .i64 0),(.i .i64 0),(.i .i64 0),(.i .i64 0),(.i .i64 0),(.v (.slice none 0 0)),(.v (.slice none 0 0)),(.i .i64 0)],[(0,18,true),(18,1,false),(19,1,false),(20,1,false)],false,0,none,[],false⟩),
 (139,⟨false,1,[(.v (.slice none 0 0))],[],true,174,none,[],false⟩),
 (140,⟨true,2,[(.i .i64 0),(.v (.slice none 0 0))],[(0,1,false),(1,1,false)],false,0,none,[],false⟩),
 (141,⟨true,2,[(.i .i64 0),(.v (.slice none 0 0))],[(0,1,false),(1,1,false)],false,0,none,[],false⟩),
 (142,⟨true,19,[(.i .i64 0),(.i .i64 0),(.i .i64 0),(.i .i64 0),(.i .i64 0),(.i .i64 0),(.i .i64 0),(.i .i64 0),(.i .i64 0),(.i .i64 0),(.i .i64 0),(.i .i64 0),(.i .i64 0),(.i .i64 0),(.i .i64 0),(.i .i64 0),(.i .i64 0),(.i .i64 0),(.v (.slice none 0 0))],[(0,18,true),(18,1,false)],false,0,none,[],false⟩),
 (143,⟨true,19,[(.i .i64 0),(.i .i64 0),(.i .i64 0),(.i .i64 0),(.i .i64 0),(.i .i64 0),(.i .i64 0),(.i .i64 0),(.i .i64 0),(.i .i64 0),(.i .i64 0),(.i .i64 0),(.i .i64 0),(.i .i64 0),(.i .i64 0),(.i .i64 0),(.i .i64 0),(.i .i64 0),(.v (.slice none 0 0))],[(0,18,true),(18,1,false)],false,0,none,[],false⟩),
 (144,⟨false,1,[(.v (.slice none 0 0))],[],true,194,none,[],false⟩),
 (148,⟨false,1,[(.v (.slice none 0 0))],[],true,3,none,[],false⟩),
 (150,⟨false,1,[(.v (.pointer none))],[],false,0,none,[],true⟩),
 (152,⟨false,1,[(.v (.pointer none))],[],false,0,none,[],true⟩),
 (153,⟨true,4,[(.i .i64 0),(.i .i64 0),(.i .i64 0),(.i .i64 0)],[(0,1,false),(1,1,false),(2,1,false),(3,1,false)],false,0,none,[true,true,true,true],false⟩),
 (154,⟨true,4,[(.i .i64 0),(.i .i64 0),(.i .i64 0),(.i .i64 0)],[(0,1,false),(1,1,false),(2,1,false),(3,1,false)],false,0,none,[true,true,true,true],false⟩),
 (155,⟨true,6,[(.v (.pointer none)),(.i .i64 0),(.i .i64 0),(.i .i64 0),(.i .i64 0),(.b false)],[(0,1,false),(1,4,true),(5,1,false)],false,0,none,[],false⟩),
 (156,⟨true,6,[(.v (.pointer none)),(.i .i64 0),(.i .i64 0),(.i .i64 0),(.i .i64 0),(.b false)],[(0,1,false),(1,4,true),(5,1,false)],false,0,none,[],false⟩),
 (159,⟨true,9,[(.i .i64 0),(.i .i64 0),(.i .i64 0),(.i .i64 0),(.b false),(.i .i64 0),(.i .i64 0),(.i .i64 0),(.i .i64 0)],[(0,1,false),(1,1,false),(2,1,false),(3,1,false),(4,1,false),(5,4,true)],false,0,none,[true,true,true,true,false,true,true,true,true],false⟩),
 (160,⟨true,9,[(.i .i64 0),(.i .i64 0),(.i .i64 0),(.i .i64 0),(.b false),(.i .i64 0),(.i .i64 0),(.i .i64 0),(.i .i64 0)],[(0,1,false),(1,1,false),(2,1,false),(3,1,false),(4,1,false),(5,4,true)],false,0,none,[true,true,true,true,false,true,true,true,true],false⟩),
 (173,⟨true,5,[(.i .i64 0),(.i .i64 0),(.i .i64 0),(.i .i64 0),(.i .i64 0)],[(0,1,false),(1,1,false),(2,1,false),(3,1,false),(4,1,false)],false,0,none,[true,true,true,true,true],false⟩),
 (174,⟨true,5,[(.i .i64 0),(.i .i64 0),(.i .i64 0),(.i .i64 0),(.i .i64 0)],[(0,1,false),(1,1,false),(2,1,false),(3,1,false),(4,1,false)],false,0,none,[true,true,true,true,true],false⟩),
 (175,⟨true,10,[(.i .i64 0),(.i .i64 0),(.i .i64 0),(.i .i64 0),(.i .i64 0),(.i .i64 0),(.i .i64 0),(.i .i64 0),(.i .i64 0),(.i .i64 0)],[(0,5,true),(5,1,false),(6,1,false),(7,1,false),(8,1,false),(9,1,false)],false,0,none,[true,true,true,true,true,true,true,true,true,true],false⟩),
 (176,⟨true,10,[(.i .i64 0),(.i .i64 0),(.i .i64 0),(.i .i64 0),(.i .i64 0),(.i .i64 0),(.i .i64 0),(.i .i64 0),(.i .i64 0),(.i .i64 0)],[(0,5,true),(5,1,false),(6,1,false),(7,1,false),(8,1,false),(9,1,false)],false,0,none,[true,true,true,true,true,true,true,true,true,true],false⟩),
 (181,⟨false,1,[(.v (.pointer none))],[],false,0,none,[],false⟩),
 (187,⟨false,1,[(.v (.slice none 0 0))],[],true,154,none,[],false⟩),
 (193,⟨true,5,[(.i .i64 0),(.i .i64 0),(.i .i64 0),(.i .i64 0),(.i .i64 0)],[(0,1,false),(1,4,true)],false,0,none,[true,true,true,true,true],false⟩),
 (194,⟨true,5,[(.i .i64 0),(.i .i64 0),(.i .i64 0),(.i .i64 0),(.i .i64 0)],[(0,1,false),(1,4,true)],false,0,none,[true,true,true,true,true],false⟩),
 (201,⟨true,27,[(.i .i64 0),(.i .i64 0),(.i .i64 0),(.i .i64 0),(.i .i64 0),(.i .i64 0),(.i .i64 0),(.i .i64 0),(.i .i64 0),(.i .i64 0),(.i .i64 0),(.i .i64 0),(.i .i64 0),(.i .i64 0),(.i .i64 0),(.i .i64 0),(.i .i64 0),(.i .i64 0),(.i .i64 0),(.i .i64 0),(.v (.slice none 0 0)),(.i .i64 0),(.i .i64 0),(.i .i64 0),(.i .i64 0),(.b false),(.i .i64 0)],[(0,18,true),(18,1,false),(19,1,false),(20,1,false),(21,1,false),(22,1,false),(23,1,false),(24,1,false),(25,1,false),(26,1,false)],false,0,none,[],false⟩),
 (202,⟨true,27,[(.i .i64 0),(.i .i64 0),(.i .i64 0),(.i .i64 0),(.i .i64 0),(.i .i64 0),(.i .i64 0),(.i .i64 0),(.i .i64 0),(.i .i64 0),(.i .i64 0),(.i .i64 0),(.i .i64 0),(.i .i64 0),(.i .i64 0),(.i .i64 0),(.i .i64 0),(.i .i64 0),(.i .i64 0),(.i .i64 0),(.v (.slice none 0 0)),(.i .i64 0),(.i .i64 0),(.i .i64 0),(.i .i64 0),(.b false),(.i .i64 0)],[(0,18,true),(18,1,false),(19,1,false),(20,1,false),(21,1,false),(22,1,false),(23,1,false),(24,1,false),(25,1,false),(26,1,false)],false,0,none,[],false⟩),
 (215,⟨true,2,[(.i .i64 0),(.i .i64 0)],[(0,1,false),(1,1,false)],false,0,none,[true,true],false⟩),
 (216,⟨true,2,[(.i .i64 0),(.i .i64 0)],[(0,1,false),(1,1,false)],false,0,none,[true,true],false⟩),
 (219,⟨true,4,[(.i .i64 0),(.i .i64 0),(.i .i64 0),(.i .i64 0)],[(0,2,true),(2,1,false),(3,1,false)],false,0,none,[true,true,true,true],false⟩),
 (220,⟨true,4,[(.i .i64 0),(.i .i64 0),(.i .i64 0),(.i .i64 0)],[(0,2,true),(2,1,false),(3,1,false)],false,0,none,[true,true,true,true],false⟩),
 (222,⟨false,1,[(.v (.pointer none))],[],false,0,none,[],true⟩),
 (228,⟨false,1,[(.i .i64 0)],[],false,0,some .i64,[],false⟩),
 (231,⟨false,1,[(.v (.pointer none))],[],false,0,none,[],true⟩),
 (239,⟨false,1,[(.i .u32 0)],[],false,0,some .u32,[],false⟩),
 (269,⟨true,3,[(.v (.string ByteArray.empty)),(.v (.string ByteArray.empty)),(.v (.nilIface))],[(0,1,false),(1,1,false),(2,1,false)],false,0,none,[],false⟩),
 (270,⟨true,3,[(.v (.string ByteArray.empty)),(.v (.string ByteArray.empty)),(.v (.nilIface))],[(0,1,false),(1,1,false),(2,1,false)],false,0,none,[],false⟩),
 (276,⟨false,1,[(.v (.pointer none))],[],false,0,none,[],true⟩),
 (279,⟨true,3,[(.i .i64 0),(.b false),(.b false)],[(0,1,false),(1,1,false),(2,1,false)],false,0,none,[true,false,false],false⟩),
 (280,⟨true,3,[(.i .i64 0),(.b false),(.b false)],[(0,1,false),(1,1,false),(2,1,false)],false,0,none,[true,false,false],false⟩),
 (281,⟨true,18,[(.i .i64 0),(.i .i64 0),(.i .i64 0),(.i .i64 0),(.i .i64 0),(.i .i64 0),(.i .i64 0),(.b false),(.b false),(.i .i64 0),(.i .i64 0),(.b false),(.i .u64 0),(.i .u64 0),(.i .u64 0),(.i .i64 0),(.b false),(.b false)],[(0,15,true),(15,3,true)],false,0,none,[true,true,true,true,true,true,true,false,false,true,true,false,true,true,true,true,false,false],false⟩),
 (282,⟨true,18,[(.i .i64 0),(.i .i64 0),(.i .i64 0),(.i .i64 0),(.i .i64 0),(.i .i64 0),(.i .i64 0),(.b false),(.b false),(.i .i64 0),(.i .i64 0),(.b false),(.i .u64 0),(.i .u64 0),(.i .u64 0),(.i .i64 0),(.b false),(.b false)],[(0,15,true),(15,3,true)],false,0,none,[true,true,true,true,true,true,true,false,false,true,true,false,true,true,true,true,false,false],false⟩),
 (301,⟨false,1,[(.i .u16 0)],[],false,0,some .u16,[],false⟩),
 (306,⟨true,2,[(.i .u8 0),(.i .u8 0)],[(0,1,false),(1,1,false)],false,0,none,[true,true],false⟩),
 (307,⟨true,2,[(.i .u8 0),(.i .u8 0)],[(0,1,false),(1,1,false)],false,0,none,[true,true],false⟩),
 (311,⟨false,1,[(.v (.pointer none))],[],false,0,none,[],true⟩),
 (312,⟨true,1,[(.v (.string ByteArray.empty))],[(0,1,false)],false,0,none,[],false⟩),
 (313,⟨true,1,[(.v (.string ByteArray.empty))],[(0,1,false)],false,0,none,[],false⟩),
 (316,⟨false,1,[(.v (.pointer none))],[],false,0,none,[],true⟩),
 (329,⟨false,1,[(.i .i64 0)],[],false,0,some .i64,[],false⟩),
 (336,⟨false,1,[(.i .i16 0)],[],false,0,some .i16,[],false⟩),
 (342,⟨true,4,[(.i .u64 0),(.i .u64 0),(.i .u64 0),(.i .i64 0)],[(0,3,true),(3,1,false)],false,0,none,[true,true,true,true],false⟩),
 (343,⟨true,4,[(.i .u64 0),(.i .u64 0),(.i .u64 0),(.i .i64 0)],[(0,3,true),(3,1,false)],false,0,none,[true,true,true,true],false⟩),
 (348,⟨false,1,[(.i .u64 0)],[],false,0,some .u64,[],false⟩),
 (357,⟨false,1,[(.v (.pointer none))],[],false,0,none,[],true⟩),
 (363,⟨true,4,[(.v (.pointer none)),(.v (.pointer none)),(.v (.pointer none)),(.v (.string ByteArray.empty))],[(0,1,false),(1,1,false),(2,1,false),(3,1,false)],false,0,none,[],false⟩),
 (364,⟨true,4,[(.v (.pointer none)),(.v (.pointer none)),(.v (.pointer none)),(.v (.string ByteArray.empty))],[(0,1,false),(1,1,false),(2,1,false),(3,1,false)],false,0,none,[],false⟩),
 (365,⟨true,0,[],[],false,0,none,[],false⟩),
 (368,⟨false,1,[(.i .u8 0)],[],false,0,some .u8,[],false⟩),
 (369,⟨false,1,[(.i .u8 0)],[],false,0,some .u8,[],false⟩),
 (371,⟨false,1,[(.i .i32 0)],[],false,0,some .i32,[],false⟩),
 (372,⟨false,1,[(.i .i32 0)],[],false,0,some .i32,[],false⟩)]
theorem tab_ok:TabOk Tryz.prog tab:=by
 unfold tab
 repeat (refine TabOk.cons ⟨by kernel_rfl,by kernel_rfl⟩ ?_)
 exact TabOk.nil
end En
namespace Ce
def ms (n:Int):Int:=if n < 0 then 0 else if 10000 < n then 10000 else n
end Ce
namespace Do
def hd (t:Int):Int:=if t < 1 then 1 else if 1000 < t then 1000 else t
def gd (s a t:Int):Bool:=decide ((s=0∧a=0)∨(s=2∧a=hd t)∨((s=1∨s=3)∧0≤a∧a≤hd t))
end Do
namespace Ce
open Go.RowKit Ba En
set_option maxRecDepth 100000
end Ce
namespace Do
open Go.RowKit Ba En
set_option maxRecDepth 100000
end Do
namespace Mo
def fl (n:Int):Int:=if n < 2 then 2 else if 64 < n then 64 else n
theorem fl_hi (n:Int):fl n≤64:=by unfold fl; repeat' split <;> omega
def lvB (u:Int):Bool:=decide (0≤u∧u≤252∧u % 4=0)
end Mo
namespace Mo
open Go.RowKit Ba En
set_option maxRecDepth 100000
theorem floorsT (n:Int) (w:World):Calls Tryz.prog 195 #[.int .i64 n] w fun e w'=>e=.returned (.int .i64 (fl n))∧Since w w':=by
 refine ent tab_ok [.i .i64 n] Tryz.func195 Tryz.ntmps195 rfl rfl ?_
 repeat' ((conv=>whnf); first | refine sgo ⟨tab_ok⟩ ?_|refine br_not ?_|refine br_t rfl ?_|refine br_f rfl ?_|refine br_t (by assumption) ?_|refine br_f (by assumption) ?_|refine br_t (decide_eq_true (by assumption)) ?_|refine br_f (decide_eq_false (by assumption)) ?_|refine br_t (beq_iff_eq.2 (by assumption)) ?_|refine br_f (beq_eq_false_iff_ne.2 (by assumption)) ?_|refine br_dec (fun h=>?_) (fun h=>?_)|refine br_eq (fun h=>?_) (fun h=>?_)|refine br_b (fun h=>?_) (fun h=>?_)|refine fin_s ?_|refine fin_r ?_ ?_|refine fin_e ?_ ?_)
 all_goals exact congrArg (Value.int .i64) (by unfold fl; repeat' split <;> omega)
end Mo
namespace Pl
open Do Mo Go.Proofs.YtnoehplnmdajnaaGreatDoor.Ty
def newC:CarV:=⟨0,0,0,0,0,-1,0,false,false,0,0,false,0,0,0⟩
def goodB (c:CfgV) (x:CarV):Bool:=decide (gd x.ds x.da c.dr=true∧0≤x.un∧x.un≤4*(fl c.fl - 1)∧(x.wy=0∨x.wy=1∨x.wy=2)∧(x.ds=0∨lvB x.un=true))
end Pl
namespace Pl
open Go.RowKit Ba En Do Mo Go.Proofs.YtnoehplnmdajnaaGreatDoor.Ty
set_option maxRecDepth 100000
attribute [local irreducible] lvB Go.Calls
def carV (x:CarV):Value:=.agg #[.int .i64 x.ds,.int .i64 x.da,.int .i64 x.un,.int .i64 x.wy,.int .i64 x.ti,.int .i64 x.ju,.int .i64 x.lo,.bool x.bl,.bool x.br,.int .i64 x.mo,.int .i64 x.ta,.bool x.ho,.int .u64 x.sp,.int .u64 x.su,.int .u64 x.sd]
theorem newT (w:World):Calls Tryz.prog 72 #[] w fun e w'=>e=.returned (carV newC)∧Since w w':=by
 refine ent tab_ok [] Tryz.func72 Tryz.ntmps72 rfl rfl ?_
 repeat' ((conv=>whnf); first | refine sgo ⟨tab_ok⟩ ?_|refine br_not ?_|refine br_t rfl ?_|refine br_f rfl ?_|refine br_t (by assumption) ?_|refine br_f (by assumption) ?_|refine br_t (decide_eq_true (by assumption)) ?_|refine br_f (decide_eq_false (by assumption)) ?_|refine br_t (beq_iff_eq.2 (by assumption)) ?_|refine br_f (beq_eq_false_iff_ne.2 (by assumption)) ?_|intro b | refine drA ⟨tab_ok⟩ [] ?_|refine fin_s ?_|refine fin_r ?_ ?_|refine fin_e ?_ ?_)
 exact rfl
end Pl
namespace St
def R (x:Int):Prop:=0≤x∧x < 18446744073709551616
theorem R.nat {x:Int} (h:R x):x.toNat < 18446744073709551616:=by unfold R at h; omega
theorem R.of_nat {n:Nat} (h:n < 18446744073709551616):R (n:Int):=by unfold R; omega
theorem R.zero:R 0:=by unfold R; omega
theorem or_R {x y:Int} (hx:R x) (hy:R y):R (bits .or .u64 x y):=by
 have a:=hx.nat
 have b:=hy.nat
 unfold R at hx hy
 rw [u64_or x y hx.1 hx.2 hy.1 hy.2]
 exact R.of_nat (by
  have:=Nat.or_lt_two_pow (n:=64) (x:=x.toNat) (y:=y.toNat) (by omega) (by omega)
  simpa using this)
def bit (f:Int):Int:=if 0≤f∧f < 64 then ((2 ^ f.toNat:Nat):Int) else 0
theorem bit_R (f:Int):R (bit f):=by
 unfold bit
 split
 ·rename_i h
  refine R.of_nat ?_
  have h2:(2:Nat) ^ f.toNat≤2 ^ 63:=Nat.pow_le_pow_right (by omega) (by omega)
  have h3:(2:Nat) ^ 63=9223372036854775808:=by decide
  omega
 ·exact R.zero
end St
namespace St
open Go.RowKit Ba
set_option maxRecDepth 100000
def haU (u f way:Int):Int:=if way=1 then bits .or .u64 u (bit f) else u
def haD (d f way:Int):Int:=if way=2 then bits .or .u64 d (bit f) else d
end St
namespace St
open Go.RowKit Ba
set_option maxRecDepth 100000
end St
namespace Sc
open Go.RowKit Ba Go.Proofs.YtnoehplnmdajnaaGreatDoor.St
set_option maxRecDepth 100000
end Sc
namespace Sc
open Go.RowKit Ba Go.Proofs.YtnoehplnmdajnaaGreatDoor.St
set_option maxRecDepth 100000
end Sc
namespace St
open Go.RowKit Ba
set_option maxRecDepth 100000
end St
namespace St
def S (k:Nat):Nat→Nat→Nat
 | 0,_=>0
 | n+1,x=>(x % 2 ^ k+x / 2 ^ k % 2 ^ k)+2 ^ (2*k)*S k n (x / 2 ^ (2*k))
def T (k:Nat):Nat→Nat→Nat
 | 0,_=>0
 | n+1,x=>x % 2 ^ k+T k n (x / 2 ^ k)
def pc (n:Nat):Nat:=T 1 64 n
def cn (x:Int):Int:=(pc x.toNat:Int)
end St
namespace St
open Go.RowKit Ba
set_option maxRecDepth 100000
end St
namespace Ct
open Go.RowKit Ba Mem En Do Mo Go.Proofs.YtnoehplnmdajnaaGreatDoor.Ty Ce Go.Proofs.YtnoehplnmdajnaaGreatDoor.St Sc Pl
set_option maxRecDepth 100000
attribute [local irreducible] lvB Go.Calls
def cfgA (c:CfgV):Array Value:=#[.int .i64 c.ca,.int .i64 c.fl,.int .i64 c.ft,.int .i64 c.se,.int .i64 c.dr,.int .i64 c.dw,.int .i64 c.ho,.int .i64 c.re,.int .i64 c.yi,.int .i64 c.qu,.int .i64 c.qo,.int .i64 c.lo,.int .i64 c.sl,.int .i64 c.rt,.int .i64 c.cp,.int .i64 c.tr,.int .i64 c.de,.int .i64 c.wi]
def carA (x:CarV):Array Value:=#[.int .i64 x.ds,.int .i64 x.da,.int .i64 x.un,.int .i64 x.wy,.int .i64 x.ti,.int .i64 x.ju,.int .i64 x.lo,.bool x.bl,.bool x.br,.int .i64 x.mo,.int .i64 x.ta,.bool x.ho,.int .u64 x.sp,.int .u64 x.su,.int .u64 x.sd]
def m1 (n:Int):Int:=if n < 1 then 1 else n
def dwV (n:Int):Int:=if 1000 < m1 n then 1000 else m1 n
end Ct
namespace Ct
open Go.RowKit Ba Mem En Do Mo Go.Proofs.YtnoehplnmdajnaaGreatDoor.Ty Ce Go.Proofs.YtnoehplnmdajnaaGreatDoor.St Sc Pl
set_option maxRecDepth 100000
attribute [local irreducible] lvB Go.Calls
end Ct
namespace Et
open Go.RowKit Ba Mem En Mo Go.Proofs.YtnoehplnmdajnaaGreatDoor.Ty Go.Proofs.YtnoehplnmdajnaaGreatDoor.St
set_option maxRecDepth 100000
attribute [local irreducible] Go.Calls lvB
end Et
namespace Gr
open Go.RowKit Ba Mem En Mo Go.Proofs.YtnoehplnmdajnaaGreatDoor.Ty Go.Proofs.YtnoehplnmdajnaaGreatDoor.St
open Ct (carA)
set_option maxRecDepth 100000
attribute [local irreducible] Go.Calls lvB
def idB (x:CarV):Bool:=decide (x.mo=0∧x.br=false∧lvB x.un=true∧x.ds=0∧x.wy=0∧cn x.sp+cn x.su+cn x.sd=0)
end Gr
namespace Gr
open Go.RowKit Ba Mem Go.Proofs.YtnoehplnmdajnaaGreatDoor.Ty Mo Go.Proofs.YtnoehplnmdajnaaGreatDoor.St
open Ct (cfgA carA)
theorem wrG (x:Int) (h0 : -9223372036854775808≤x) (h1:x≤9223372036854775807):IntKind.i64.wrap x=x:=by
 simp only [IntKind.wrap,IntKind.bits,IntKind.signed]; simp; omega
structure WaitV where
 fl:Int
 wy:Int
 ca:Int
 si:Int
deriving DecidableEq
def waitL (a:WaitV):List Value:=[.int .i64 a.fl,.int .i64 a.wy,.int .i64 a.ca,.int .i64 a.si]
def waitA (a:WaitV):Array Value:=#[.int .i64 a.fl,.int .i64 a.wy,.int .i64 a.ca,.int .i64 a.si]
def carL (x:CarV):List Value:=[.int .i64 x.ds,.int .i64 x.da,.int .i64 x.un,.int .i64 x.wy,.int .i64 x.ti,.int .i64 x.ju,.int .i64 x.lo,.bool x.bl,.bool x.br,.int .i64 x.mo,.int .i64 x.ta,.bool x.ho,.int .u64 x.sp,.int .u64 x.su,.int .u64 x.sd]
theorem waitL_len (a:WaitV):(waitL a).length=4:=rfl
theorem carL_len (x:CarV):(carL x).length=15:=rfl
theorem waitL_one (a:WaitV):∀ u∈waitL a,u.oneCell'=true:=by
 intro u hu
 simp only [waitL,List.mem_cons,List.not_mem_nil,or_false] at hu
 rcases hu with rfl | rfl | rfl | rfl <;> rfl
theorem carL_one (x:CarV):∀ u∈carL x,u.oneCell'=true:=by
 intro u hu
 simp only [carL,List.mem_cons,List.not_mem_nil,or_false] at hu
 rcases hu with rfl | rfl | rfl | rfl | rfl | rfl | rfl | rfl | rfl | rfl | rfl | rfl | rfl | rfl | rfl <;> rfl
theorem cars_one (ls:List CarV):∀ u∈rowsOf carL ls,u.oneCell'=true:=rowsOf_one' carL_one ls
structure GrV where
 c:CfgV
 cars:List CarV
 waits:List WaitV
 now:Int
def grpA (G:GrV) (v1 v2:Value):Array Value:=#[.int .i64 G.c.ca,.int .i64 G.c.fl,.int .i64 G.c.ft,.int .i64 G.c.se,.int .i64 G.c.dr,.int .i64 G.c.dw,.int .i64 G.c.ho,.int .i64 G.c.re,.int .i64 G.c.yi,.int .i64 G.c.qu,.int .i64 G.c.qo,.int .i64 G.c.lo,.int .i64 G.c.sl,.int .i64 G.c.rt,.int .i64 G.c.cp,.int .i64 G.c.tr,.int .i64 G.c.de,.int .i64 G.c.wi,v1,v2,.int .i64 G.now]
def CarsAt (lo:Nat) (A:Option Addr) (n c:Nat) (ls:List CarV) (w:World):Prop:=w.ownsRow lo 130 15 (.slice A n c) n (rowsOf carL ls)
def WaitsAt (lo:Nat) (A:Option Addr) (n c:Nat) (ls:List WaitV) (w:World):Prop:=w.ownsRow lo 220 4 (.slice A n c) n (rowsOf waitL ls)
def GO (lo q:Nat) (G:GrV) (S:List Nat) (w:World):Prop :=
 lo≤q∧∃ A1 c1 A2 c2,S=q::(blkOf A1++blkOf A2)∧Blk w q 138 (grpA G (.slice A1 G.cars.length c1) (.slice A2 G.waits.length c2)) ∧
  CarsAt lo A1 G.cars.length c1 G.cars w∧WaitsAt lo A2 G.waits.length c2 G.waits w
section
variable {w w':World} {lo q b:Nat} {G:GrV} {S T:List Nat}
theorem GO.upd (k:Upd T w w') (h:GO lo q G S w) (hT:∀ g∈S,g∉T):GO lo q G S w':=by
 obtain ⟨h0,A1,c1,A2,c2,rfl,B,O1,O2⟩:=h
 exact ⟨h0,A1,c1,A2,c2,rfl,k.blk B (hT _ (by simp)),k.own O1 (fun g hg=>hT g (by simp [hg])),k.own O2 (fun g hg=>hT g (by simp [hg]))⟩
theorem GO.low (h:GO lo q G S w):∀ g∈S,lo≤g:=by
 obtain ⟨h0,A1,c1,A2,c2,rfl,B,O1,O2⟩:=h
 intro g hg
 rcases List.mem_cons.1 hg with rfl | hg
 ·exact h0
 ·rcases List.mem_append.1 hg with hg | hg
  ·exact own_low O1 g hg
  ·exact own_low O2 g hg
theorem GO.lt (h:GO lo q G S w):∀ g∈S,g < w.heap.size:=by
 obtain ⟨h0,A1,c1,A2,c2,rfl,B,O1,O2⟩:=h
 intro g hg
 rcases List.mem_cons.1 hg with rfl | hg
 ·exact B.lt
 ·rcases List.mem_append.1 hg with hg | hg
  ·exact own_lt O1 g hg
  ·exact own_lt O2 g hg
theorem GO.base {lo':Nat} (h:GO lo q G S w) (hb:lo'≤lo):GO lo' q G S w:=by
 obtain ⟨h0,A1,c1,A2,c2,rfl,B,O1,O2⟩:=h
 exact ⟨by omega,A1,c1,A2,c2,rfl,B,own_base O1 hb,own_base O2 hb⟩
end
def GrV.car (G:GrV) (i:Nat) (x:CarV):GrV:={ G with cars:=G.cars.set i x }
end Gr
namespace Et
open Go.RowKit Ba Mem En Mo Go.Proofs.YtnoehplnmdajnaaGreatDoor.Ty Go.Proofs.YtnoehplnmdajnaaGreatDoor.St Gr
open Ct (cfgA carA)
set_option maxRecDepth 100000
attribute [local irreducible] Go.Calls lvB
def carsO (lo:Nat) (A:Option Addr) (n c:Nat) (ls:List CarV) (rw:Bool):Asr:=⟨blkOf A,rw,CarsAt lo A n c ls,fun k h hs=>k.own hs h,fun h=>own_lt h⟩
theorem car_rng {lo g n c i:Nat} {ls:List CarV} {w:World} (h:CarsAt lo (some ⟨g,0,none⟩) n c ls w) (hi:i < ls.length):w.rangeAt g (0+i*15) (carL ls[i]):=by
 obtain ⟨P,S,hP,hB,_⟩:=own_el carL_len h hi
 have:=el_part (P:=P) (S:=S) (cs:=(carL ls[i]).toArray) (j:=0) (n:=15) (l:=carL ls[i]) hP (by show List.take 15 (carL ls[i])=_; rw [List.take_of_length_le (by rw [carL_len]; exact Nat.le_refl _)]) (by simp [carL_len])
 exact range_of hB this (carL_len _)
theorem car_at {lo g n c k:Nat} {ls:List CarV} {w:World} {x:CarV} (h:CarsAt lo (some ⟨g,0,none⟩) n c ls w) (hx:ls[k]?=some x):w.rangeAt g (0+k*15) (carL x):=by
 obtain ⟨hi,rfl⟩:=List.getElem?_eq_some_iff.1 hx
 exact car_rng h hi
end Et
namespace Gr
open Go.RowKit Ba Mem En Mo Go.Proofs.YtnoehplnmdajnaaGreatDoor.Ty Go.Proofs.YtnoehplnmdajnaaGreatDoor.St
open Ct (cfgA carA dwV m1)
set_option maxRecDepth 100000
attribute [local irreducible] Go.Calls lvB idB
def pressX (v:Int) (x:CarV):CarV:=if x.br=true∨x.mo=1 then x else { x with sp:=bits .or .u64 x.sp (bit v) }
def pressE (x:CarV):Int:=if x.br=true∨x.mo=1 then 7 else 0
def takeX (v:Int) (x:CarV):CarV:=if idB x=true then { x with mo:=1,ta:=v,ho:=true } else x
def takeE (x:CarV):Int:=if idB x=true then 0 else 7
def aimX (v:Int) (u:Bool) (x:CarV):CarV:=if x.mo=1 then { x with ta:=v,ho:=u } else x
def aimE (x:CarV):Int:=if x.mo=1 then 0 else 7
def givX (c:CfgV) (x:CarV):CarV:=if x.mo=1 then { x with mo:=0,ta:=0,ho:=false,ju := -1,ti:=dwV c.dw,wy:=if lvB x.un=true then 0 else x.wy } else x
section
variable (g off:Nat) (P S:List Value) (x:CarV) (cp cq:Nat) (w:World) (hb:Blk w g 130 (el P (carA x) S)) (hp:P.length=off)
include hb hp
end
end Gr
namespace Gr
open Go.RowKit Ba Mem En Mo Go.Proofs.YtnoehplnmdajnaaGreatDoor.Ty Go.Proofs.YtnoehplnmdajnaaGreatDoor.St
open Ct (cfgA carA)
set_option maxRecDepth 100000
attribute [local irreducible] Go.Calls
def hasF (c:CfgV) (f:Int):Bool:=decide (0≤f∧f < fl c.fl)
def hasC (c:CfgV) (f wy:Int):Bool:=if wy=1 then hasF c f && hasF c (f+1) else if wy=2 then hasF c f && hasF c (f - 1) else false
theorem hasF_rng {c:CfgV} {f:Int} (h:hasF c f=true):0≤f∧f≤63:=by
 have h1:0≤f∧f < fl c.fl:=of_decide_eq_true h
 have h2:fl c.fl≤64:=fl_hi c.fl
 omega
section
variable (q:Nat) (G:GrV) (v1 v2:Value) (w:World) (hq:Blk w q 138 (grpA G v1 v2))
include hq
theorem hasFT (f:Int):Calls Tryz.prog 132 #[.pointer (some ⟨q,0,none⟩),.int .i64 f] w fun e w'=>e=.returned (.bool (hasF G.c f))∧Since w w':=by
 refine entH tab_ok (hold_q (S:=[]) [.i .i64 G.c.ca,.i .i64 G.c.fl,.i .i64 G.c.ft,.i .i64 G.c.se,.i .i64 G.c.dr,.i .i64 G.c.dw,.i .i64 G.c.ho,.i .i64 G.c.re,.i .i64 G.c.yi,.i .i64 G.c.qu,.i .i64 G.c.qo,.i .i64 G.c.lo,.i .i64 G.c.sl,.i .i64 G.c.rt,.i .i64 G.c.cp,.i .i64 G.c.tr,.i .i64 G.c.de,.i .i64 G.c.wi,.v v1,.v v2,.i .i64 G.now] hq) [.p 0 0,.i .i64 f] Tryz.func132 Tryz.ntmps132 rfl rfl ?_
 repeat' ((conv=>whnf); first | refine sgo ⟨tab_ok⟩ ?_|refine br_not ?_|refine br_t rfl ?_|refine br_f rfl ?_|refine br_t (by assumption) ?_|refine br_f (by assumption) ?_|refine br_t (decide_eq_true (by assumption)) ?_|refine br_f (decide_eq_false (by assumption)) ?_|refine br_t (beq_iff_eq.2 (by assumption)) ?_|refine br_f (beq_eq_false_iff_ne.2 (by assumption)) ?_|refine drA ⟨tab_ok⟩ [] ?_|refine kpt ?_|refine br_dec (fun h=>?_) (fun h=>?_)|refine br_eq (fun h=>?_) (fun h=>?_)|refine br_b (fun h=>?_) (fun h=>?_)|refine callS (f:=195) (.i .i64 _) (floorsT _) ?_|refine fin_s ?_|refine fin_r ?_ ?_|refine fin_e ?_ ?_)
 all_goals (unfold hasF; simp [den, *])
end
attribute [local irreducible] hasF
theorem hasCT (q:Nat) (G:GrV) (v1 v2:Value) (f wy:Int) (w:World) (hq:Blk w q 138 (grpA G v1 v2)):Calls Tryz.prog 130 #[.pointer (some ⟨q,0,none⟩),.agg #[.int .i64 f,.int .i64 wy]] w fun e w'=>e=.returned (.bool (hasC G.c f wy))∧Since w w':=by
 have hb:=fun h=>hasF_rng (c:=G.c) (f:=f) h
 unfold hasC
 cases hA:hasF G.c f with
 | false =>
  refine entH tab_ok (hold_q (S:=[]) [.i .i64 G.c.ca,.i .i64 G.c.fl,.i .i64 G.c.ft,.i .i64 G.c.se,.i .i64 G.c.dr,.i .i64 G.c.dw,.i .i64 G.c.ho,.i .i64 G.c.re,.i .i64 G.c.yi,.i .i64 G.c.qu,.i .i64 G.c.qo,.i .i64 G.c.lo,.i .i64 G.c.sl,.i .i64 G.c.rt,.i .i64 G.c.cp,.i .i64 G.c.tr,.i .i64 G.c.de,.i .i64 G.c.wi,.v v1,.v v2,.i .i64 G.now] hq) [.p 0 0,.a [.i .i64 f,.i .i64 wy]] Tryz.func130 Tryz.ntmps130 rfl rfl ?_
  repeat' ((conv=>whnf); first | refine sgo ⟨tab_ok⟩ ?_|refine br_not ?_|refine br_t rfl ?_|refine br_f rfl ?_|refine br_t (by assumption) ?_|refine br_f (by assumption) ?_|refine br_t (decide_eq_true (by assumption)) ?_|refine br_f (decide_eq_false (by assumption)) ?_|refine br_t (beq_iff_eq.2 (by assumption)) ?_|refine br_f (beq_eq_false_iff_ne.2 (by assumption)) ?_|intro b | refine drA ⟨tab_ok⟩ [] ?_|refine kpt ?_|refine br_dec (fun h=>?_) (fun h=>?_)|refine br_eq (fun h=>?_) (fun h=>?_)|refine br_b (fun h=>?_) (fun h=>?_)|refine callH (f:=132) (.b (hasF G.c f)) (fun w hH=>hasFT q G v1 v2 w (hH.row 0 _ rfl rfl) f) ?_|refine fin_s ?_|refine fin_r ?_ ?_|refine fin_e ?_ ?_)
  all_goals (simp [den, *])
 | true =>
  have hb:=hasF_rng hA
  refine entH tab_ok (hold_q (S:=[]) [.i .i64 G.c.ca,.i .i64 G.c.fl,.i .i64 G.c.ft,.i .i64 G.c.se,.i .i64 G.c.dr,.i .i64 G.c.dw,.i .i64 G.c.ho,.i .i64 G.c.re,.i .i64 G.c.yi,.i .i64 G.c.qu,.i .i64 G.c.qo,.i .i64 G.c.lo,.i .i64 G.c.sl,.i .i64 G.c.rt,.i .i64 G.c.cp,.i .i64 G.c.tr,.i .i64 G.c.de,.i .i64 G.c.wi,.v v1,.v v2,.i .i64 G.now] hq) [.p 0 0,.a [.i .i64 f,.i .i64 wy]] Tryz.func130 Tryz.ntmps130 rfl rfl ?_
  repeat' ((conv=>whnf); first | refine sgo ⟨tab_ok⟩ ?_|refine br_not ?_|refine br_t rfl ?_|refine br_f rfl ?_|refine br_t (by assumption) ?_|refine br_f (by assumption) ?_|refine br_t (decide_eq_true (by assumption)) ?_|refine br_f (decide_eq_false (by assumption)) ?_|refine br_t (beq_iff_eq.2 (by assumption)) ?_|refine br_f (beq_eq_false_iff_ne.2 (by assumption)) ?_|intro b | refine drA ⟨tab_ok⟩ [] ?_|refine kpt ?_|refine wr_i ?_|refine br_dec (fun h=>?_) (fun h=>?_)|refine br_eq (fun h=>?_) (fun h=>?_)|refine br_b (fun h=>?_) (fun h=>?_)|refine callH (f:=132) (.b (hasF G.c _)) (fun w hH=>hasFT q G v1 v2 w (hH.row 0 _ rfl rfl) _) ?_|refine fin_s ?_|refine fin_r ?_ ?_|refine fin_e ?_ ?_)
  all_goals (simp [den, *])
def isW (f wy:Int) (a:WaitV):Bool:=a.fl == f && a.wy == wy
theorem find1T (cp:Nat) (f wy:Int) (a:WaitV) (w:World) (hb:Blk w cp 216 #[.int .i64 f,.int .i64 wy]):Calls Tryz.prog 194 #[.agg (waitA a),.pointer (some ⟨cp,0,none⟩)] w fun e w'=>e=.returned (.bool (isW f wy a))∧Since w w':=by
 refine entH tab_ok (hold_q (S:=[]) [.i .i64 f,.i .i64 wy] hb) [.a [.i .i64 a.fl,.i .i64 a.wy,.i .i64 a.ca,.i .i64 a.si],.p 0 0] Tryz.func194 Tryz.ntmps194 rfl rfl ?_
 repeat' ((conv=>whnf); first | refine sgo ⟨tab_ok⟩ ?_|refine br_not ?_|refine br_t rfl ?_|refine br_f rfl ?_|refine br_t (by assumption) ?_|refine br_f (by assumption) ?_|refine br_t (decide_eq_true (by assumption)) ?_|refine br_f (decide_eq_false (by assumption)) ?_|refine br_t (beq_iff_eq.2 (by assumption)) ?_|refine br_f (beq_eq_false_iff_ne.2 (by assumption)) ?_|intro b | refine drA ⟨tab_ok⟩ [] ?_|refine kpt ?_|refine wr_i ?_|refine br_dec (fun h=>?_) (fun h=>?_)|refine br_eq (fun h=>?_) (fun h=>?_)|refine br_b (fun h=>?_) (fun h=>?_)|refine fin_s ?_|refine fin_r ?_ ?_|refine fin_e ?_ ?_)
 all_goals (unfold isW; simp [den, *])
def oI (y:Option Nat):Int:=match y with | some k=>(k:Int)|none => -1
def atP (ls:List WaitV) (p:WaitV→Bool):Option Nat:=ls.findIdx? p
def waitsO (lo:Nat) (A:Option Addr) (n c:Nat) (ls:List WaitV) (rw:Bool):Asr:=⟨blkOf A,rw,WaitsAt lo A n c ls,fun k h hs=>k.own hs h,fun h=>own_lt h⟩
theorem wait_at {lo g n c k:Nat} {ls:List WaitV} {w:World} {x:WaitV} (h:WaitsAt lo (some ⟨g,0,none⟩) n c ls w) (hx:ls[k]?=some x):w.rangeAt g (0+k*4) (waitL x):=by
 obtain ⟨hi,rfl⟩:=List.getElem?_eq_some_iff.1 hx
 obtain ⟨P,S,hP,hB,_⟩:=own_el waitL_len h hi
 have:=el_part (P:=P) (S:=S) (cs:=(waitL ls[k]).toArray) (j:=0) (n:=4) (l:=waitL ls[k]) hP (by show List.take 4 (waitL ls[k])=_; rw [List.take_of_length_le (by rw [waitL_len]; exact Nat.le_refl _)]) (by simp [waitL_len])
 exact range_of hB this (waitL_len _)
theorem indexT (lo:Nat) (A:Option Addr) (n c:Nat) (ls:List WaitV) (F:FuncId) (cp:Value) (p:WaitV→Bool) (w:World) (ho:WaitsAt lo A n c ls w) (hn:ls.length=n) (hl:n≤1000000) (hp:∀ (l:WaitV) (w1:World),Since w w1→Calls Tryz.prog F #[.agg (waitA l),cp] w1 fun e w2=>e=.returned (.bool (p l))∧Since w1 w2) (hcf:∀ (args:Array Value) (w1:World),(callFunc F args).run Tryz.prog w1=.ok (.enter F args) w1) :
  Calls Tryz.prog 193 #[.slice A n c,.func (.func F) #[] #[cp]] w fun e w'=>e=.returned (.int .i64 (oI (atP ls p)))∧Since w w':=by
 obtain ⟨g,hA⟩:∃ g,0 < n→A=some ⟨g,0,none⟩:=by
  rcases own_at ho with ⟨_,h0,_⟩ | ⟨g,_,h1,_⟩
  ·exact ⟨0,fun k=>by omega⟩
  ·exact ⟨g,fun _=>h1⟩
 refine entH tab_ok (Hold.addObj (Hold.nil _ tab [] _ w) (waitsO lo A n c ls false) ho (by intro k; cases k) (by intro r hr; cases hr) (by intro A hA; cases hA)) [.v (.slice A n c),.f F [.v cp]] Tryz.func193 Tryz.ntmps193 rfl rfl ?_
 repeat' ((conv=>whnf); first | refine sgo ⟨tab_ok⟩ ?_|refine br_not ?_|refine br_t rfl ?_|refine br_f rfl ?_|refine br_t (by assumption) ?_|refine br_f (by assumption) ?_|refine br_t (decide_eq_true (by assumption)) ?_|refine br_f (decide_eq_false (by assumption)) ?_|refine br_t (beq_iff_eq.2 (by assumption)) ?_|refine br_f (beq_eq_false_iff_ne.2 (by assumption)) ?_|intro b | refine drA ⟨tab_ok⟩ [] ?_|refine kpt ?_|refine br_dec (fun h=>?_) (fun h=>?_)|refine br_eq (fun h=>?_) (fun h=>?_)|refine br_b (fun h=>?_) (fun h=>?_)|refine fin_s ?_|refine fin_r ?_ ?_|refine fin_e ?_ ?_)
 conv=>whnf
 refine lp ⟨tab_ok⟩ (ι:={k:Nat // k≤n∧∀ j,j < k→∀ hj:j < ls.length,p ls[j]=false}) (fun x=>match x with | ⟨k,_⟩=>⟨[(0,.v (.slice A n c)),(1,.f F [.v cp]),(4,.i .i64 0),(7,.i .i64 n),(8,.i .i64 (k:Int))],[],[waitsO lo A n c ls false]⟩) (fun x=>n - x.1) ⟨0,Nat.zero_le _,fun j hj=>by omega⟩ (wk ?_) ?_
 ·repeat' (first | exact trivial | rfl | ((conv=>whnf); refine And.intro ?_ ?_))
 rintro ⟨k,hk,hno⟩
 by_cases hlt:k < n
 ·obtain ⟨x,hx⟩:∃ x,ls[k]?=some x:=⟨_,List.getElem?_eq_getElem (by omega)⟩
  obtain ⟨hkl,hxe⟩:=List.getElem?_eq_some_iff.1 hx
  obtain rfl:=hA (by omega)
  cases hpx:p x with
  | true =>
   repeat' ((conv=>whnf); first | refine sgo ⟨tab_ok⟩ ?_|refine br_not ?_|refine br_t rfl ?_|refine br_f rfl ?_|refine br_t (by assumption) ?_|refine br_f (by assumption) ?_|refine br_t (decide_eq_true (by assumption)) ?_|refine br_f (decide_eq_false (by assumption)) ?_|refine br_t (beq_iff_eq.2 (by assumption)) ?_|refine br_f (beq_eq_false_iff_ne.2 (by assumption)) ?_|intro b2 | refine drA ⟨tab_ok⟩ [] ?_|refine kpt ?_|refine br_t (decide_eq_true (by omega)) ?_|refine br_f (decide_eq_false (by omega)) ?_|refine wr_i ?_|refine opiv ⟨tab_ok⟩ (by rfl) (by rfl) (by rfl) (by rfl) (by rfl) (by rfl) ⟨by omega,by omega⟩ ?_|refine opix (g:=g) (off:=0+k*4) [.i .i64 x.fl,.i .i64 x.wy,.i .i64 x.ca,.i .i64 x.si] (fun w hH=>wait_at (hH.obj (waitsO lo (some ⟨g,0,none⟩) n c ls false) (List.mem_singleton.2 rfl)) hx) ⟨tab_ok⟩ (by rfl) (by rfl) (by show Addr.add ⟨g,0,none⟩ (k*4)=_; rw [Go.WideShapes.add_plain]) ?_|refine callHF hcf (.b (p x)) (fun w hH=>hp x w (hH.out rfl)) ?_|refine br_dec (fun h=>?_) (fun h=>?_)|refine br_eq (fun h=>?_) (fun h=>?_)|refine br_b (fun h=>?_) (fun h=>?_)|refine fin_s ?_|refine fin_r ?_ ?_|refine fin_e ?_ ?_)
   have e:atP ls p=some k:=List.findIdx?_eq_some_iff_getElem.2 ⟨hkl,by rw [hxe]; exact hpx,fun j hj=>by simpa using hno j hj (by omega)⟩
   rw [e]; rfl
  | false =>
   repeat' ((conv=>whnf); first | refine sgo ⟨tab_ok⟩ ?_|refine br_not ?_|refine br_t rfl ?_|refine br_f rfl ?_|refine br_t (by assumption) ?_|refine br_f (by assumption) ?_|refine br_t (decide_eq_true (by assumption)) ?_|refine br_f (decide_eq_false (by assumption)) ?_|refine br_t (beq_iff_eq.2 (by assumption)) ?_|refine br_f (beq_eq_false_iff_ne.2 (by assumption)) ?_|intro b2 | refine drA ⟨tab_ok⟩ [] ?_|refine kpt ?_|refine br_t (decide_eq_true (by omega)) ?_|refine br_f (decide_eq_false (by omega)) ?_|refine wr_i ?_|refine opiv ⟨tab_ok⟩ (by rfl) (by rfl) (by rfl) (by rfl) (by rfl) (by rfl) ⟨by omega,by omega⟩ ?_|refine opix (g:=g) (off:=0+k*4) [.i .i64 x.fl,.i .i64 x.wy,.i .i64 x.ca,.i .i64 x.si] (fun w hH=>wait_at (hH.obj (waitsO lo (some ⟨g,0,none⟩) n c ls false) (List.mem_singleton.2 rfl)) hx) ⟨tab_ok⟩ (by rfl) (by rfl) (by show Addr.add ⟨g,0,none⟩ (k*4)=_; rw [Go.WideShapes.add_plain]) ?_|refine callHF hcf (.b (p x)) (fun w hH=>hp x w (hH.out rfl)) ?_|refine br_dec (fun h=>?_) (fun h=>?_)|refine br_eq (fun h=>?_) (fun h=>?_)|refine br_b (fun h=>?_) (fun h=>?_)|refine back ⟨k+1,by omega,fun j hj hjl=>(Nat.lt_succ_iff_lt_or_eq.1 hj).elim (fun h=>hno j h hjl) (fun h=>by subst h; rw [hxe]; exact hpx)⟩ (wk ?_) ?_|refine fin_s ?_|refine fin_r ?_ ?_|refine fin_e ?_ ?_)
   all_goals first | (show n - (k+1) < n - k; omega)|skip
   all_goals (repeat' (first | exact trivial | rfl | ((conv=>whnf); refine And.intro ?_ ?_)))
 ·repeat' ((conv=>whnf); first | refine sgo ⟨tab_ok⟩ ?_|refine br_not ?_|refine br_t rfl ?_|refine br_f rfl ?_|refine br_t (by assumption) ?_|refine br_f (by assumption) ?_|refine br_t (decide_eq_true (by assumption)) ?_|refine br_f (decide_eq_false (by assumption)) ?_|refine br_t (beq_iff_eq.2 (by assumption)) ?_|refine br_f (beq_eq_false_iff_ne.2 (by assumption)) ?_|intro b2 | refine drA ⟨tab_ok⟩ [] ?_|refine kpt ?_|refine br_t (decide_eq_true (by omega)) ?_|refine br_f (decide_eq_false (by omega)) ?_|refine wr_i ?_|refine fin_s ?_|refine fin_r ?_ ?_|refine fin_e ?_ ?_)
  obtain rfl:k=n:=by omega
  have e:atP ls p=none:=List.findIdx?_eq_none_iff.2 fun x hx=>by
   obtain ⟨j,hj,rfl⟩:=List.mem_iff_getElem.1 hx
   exact hno j (by omega) hj
  rw [e]; rfl
theorem findT (lo q:Nat) (G:GrV) (v1:Value) (A2:Option Addr) (c2:Nat) (f wy:Int) (w:World) (hq:Blk w q 138 (grpA G v1 (.slice A2 G.waits.length c2))) (ho:WaitsAt lo A2 G.waits.length c2 G.waits w) (hl:G.waits.length≤1000000):Calls Tryz.prog 131 #[.pointer (some ⟨q,0,none⟩),.agg #[.int .i64 f,.int .i64 wy]] w fun e w'=>e=.returned (.int .i64 (oI (atP G.waits (isW f wy))))∧Since w w':=by
 refine entH tab_ok (Hold.addObj (hold_q (S:=[]) [.i .i64 G.c.ca,.i .i64 G.c.fl,.i .i64 G.c.ft,.i .i64 G.c.se,.i .i64 G.c.dr,.i .i64 G.c.dw,.i .i64 G.c.ho,.i .i64 G.c.re,.i .i64 G.c.yi,.i .i64 G.c.qu,.i .i64 G.c.qo,.i .i64 G.c.lo,.i .i64 G.c.sl,.i .i64 G.c.rt,.i .i64 G.c.cp,.i .i64 G.c.tr,.i .i64 G.c.de,.i .i64 G.c.wi,.v v1,.v (.slice A2 G.waits.length c2),.i .i64 G.now] hq) (waitsO lo A2 G.waits.length c2 G.waits false) ho (by intro k; cases k) (by intro r hr _; rw [List.mem_singleton] at hr; subst hr; exact own_ne_ty ho hq (by decide)) (by intro A hA; cases hA)) [.p 0 0,.a [.i .i64 f,.i .i64 wy]] Tryz.func131 Tryz.ntmps131 rfl rfl ?_
 repeat' ((conv=>whnf); first | refine sgo ⟨tab_ok⟩ ?_|refine br_not ?_|refine br_t rfl ?_|refine br_f rfl ?_|refine br_t (by assumption) ?_|refine br_f (by assumption) ?_|refine br_t (decide_eq_true (by assumption)) ?_|refine br_f (decide_eq_false (by assumption)) ?_|refine br_t (beq_iff_eq.2 (by assumption)) ?_|refine br_f (beq_eq_false_iff_ne.2 (by assumption)) ?_|intro b | refine drA ⟨tab_ok⟩ [] ?_|refine kpt ?_|refine br_dec (fun h=>?_) (fun h=>?_)|refine br_eq (fun h=>?_) (fun h=>?_)|refine br_b (fun h=>?_) (fun h=>?_)|refine callH (f:=193) (.i .i64 (oI (atP G.waits (isW f wy)))) (fun w hH=>indexT lo A2 _ c2 G.waits 194 _ (isW f wy) w (hH.obj (waitsO lo A2 G.waits.length c2 G.waits false) (List.mem_singleton.2 rfl)) rfl hl (fun l w1 hs=>find1T _ f wy l w1 (keep_blk hs (hH.row 1 _ rfl rfl))) (entC (by kernel_rfl))) ?_|refine fin_s ?_|refine fin_r ?_ ?_|refine fin_e ?_ ?_)
 all_goals rfl
end Gr
namespace Gr
open Go.RowKit Ba Mem En Mo Go.Proofs.YtnoehplnmdajnaaGreatDoor.Ty Go.Proofs.YtnoehplnmdajnaaGreatDoor.St
open Ct (cfgA carA)
open Et (carsO)
set_option maxRecDepth 100000
attribute [local irreducible] Go.Calls hasF lvB idB
def one (G:GrV) (i:Int) (f:CarV→CarV×Int):GrV×Int :=
 if h:0≤i∧i.toNat < G.cars.length then (G.car i.toNat (f (G.cars[i.toNat]'h.2)).1,(f (G.cars[i.toNat]'h.2)).2) else (G,1)
abbrev goM (q:Nat) (G:GrV) (A1:Option Addr) (n1 c1:Nat) (A2:Option Addr) (n2 c2:Nat):List Row:=[⟨q,138,true,0,[],[.i .i64 G.c.ca,.i .i64 G.c.fl,.i .i64 G.c.ft,.i .i64 G.c.se,.i .i64 G.c.dr,.i .i64 G.c.dw,.i .i64 G.c.ho,.i .i64 G.c.re,.i .i64 G.c.yi,.i .i64 G.c.qu,.i .i64 G.c.qo,.i .i64 G.c.lo,.i .i64 G.c.sl,.i .i64 G.c.rt,.i .i64 G.c.cp,.i .i64 G.c.tr,.i .i64 G.c.de,.i .i64 G.c.wi,.v (.slice A1 n1 c1),.v (.slice A2 n2 c2),.i .i64 G.now],[],true⟩]
theorem hold_go {lo q n:Nat} {G:GrV} {S:List Nat} {w:World} (hg:GO lo q G S w):∃ A1 c1 A2 c2,lo≤q∧S=q::(blkOf A1++blkOf A2)∧Hold ⟨Tryz.prog,tab,S,w,n,[]⟩ (goM q G A1 G.cars.length c1 A2 G.waits.length c2) [carsO lo A1 G.cars.length c1 G.cars true,waitsO lo A2 G.waits.length c2 G.waits true] w:=by
 obtain ⟨h0,A1,c1,A2,c2,rfl,B,O1,O2⟩:=hg
 refine ⟨A1,c1,A2,c2,h0,rfl, ?_⟩
 have hq1:q∉blkOf A1:=own_ne_ty O1 B (by decide)
 have hq2:q∉blkOf A2:=own_ne_ty O2 B (by decide)
 refine Hold.addObj (Hold.addObj (Hold.addRow (m:=[]) (Hold.nil _ tab _ n w) ⟨q,138,true,0,[],[.i .i64 G.c.ca,.i .i64 G.c.fl,.i .i64 G.c.ft,.i .i64 G.c.se,.i .i64 G.c.dr,.i .i64 G.c.dw,.i .i64 G.c.ho,.i .i64 G.c.re,.i .i64 G.c.yi,.i .i64 G.c.qu,.i .i64 G.c.qo,.i .i64 G.c.lo,.i .i64 G.c.sl,.i .i64 G.c.rt,.i .i64 G.c.cp,.i .i64 G.c.tr,.i .i64 G.c.de,.i .i64 G.c.wi,.v (.slice A1 G.cars.length c1),.v (.slice A2 G.waits.length c2),.i .i64 G.now],[],true⟩ B (fun _=>.inl (by simp)) (by intro q hq; cases hq) (by intro A hA; cases hA)) (carsO lo A1 G.cars.length c1 G.cars true) O1 (fun _ g hg=>.inl (List.mem_cons_of_mem _ (List.mem_append.2 (.inl hg)))) (by intro r hr _; simp only [List.nil_append,List.mem_singleton] at hr; subst hr; exact hq1) (by intro A hA; cases hA))
  (waitsO lo A2 G.waits.length c2 G.waits true) O2 (fun _ g hg=>.inl (List.mem_cons_of_mem _ (List.mem_append.2 (.inr hg)))) (by intro r hr _; simp only [List.nil_append,List.mem_singleton] at hr; subst hr; exact hq2) ?_
 intro A hA
 simp only [List.nil_append,List.mem_singleton] at hA
 subst hA
 intro _ g hg hg2
 rcases own_at O1 with ⟨h,_⟩ | ⟨g1,cur,h,_,B1,_⟩
 ·subst h; cases hg
 ·subst h
  have:g=g1:=by simpa [blkOf,carsO] using hg
  subst this
  exact own_ne_ty O2 B1 (by decide) hg2
def loadR (G:GrV) (i v:Int):GrV×Int:=one G i (fun x=>({ x with lo:=v },0))
def curtR (G:GrV) (i:Int) (y:Bool):GrV×Int:=one G i (fun x=>({ x with bl:=y },0))
def pressR (G:GrV) (i v:Int):GrV×Int:=if hasF G.c v=true then one G i (fun x=>(pressX v x,pressE x)) else (G,1)
def takeR (G:GrV) (i v:Int):GrV×Int:=if hasF G.c v=true then one G i (fun x=>(takeX v x,takeE x)) else (G,1)
def aimR (G:GrV) (i v:Int) (y:Bool):GrV×Int:=if hasF G.c v=true then one G i (fun x=>(aimX v y x,aimE x)) else (G,1)
def giveR (G:GrV) (i:Int):GrV×Int:=one G i (fun x=>(givX G.c x,aimE x))
section
variable {lo q:Nat} {G:GrV} {S:List Nat} {w:World}
end
end Gr
namespace Gr
open Go.RowKit Ba Mem Go.Proofs.YtnoehplnmdajnaaGreatDoor.Ty Mo Go.Proofs.YtnoehplnmdajnaaGreatDoor.St Sc Pl
open Ct (cfgA carA m1 dwV)
set_option maxRecDepth 100000
attribute [local irreducible] Go.wpList
namespace C1
set_option maxHeartbeats 4000000 in
theorem cloneNil (w:World):Calls Tryz.prog 91 #[.slice none 0 0] w fun e w'=>e=.returned (.slice none 0 0)∧Since w w':=by
 go_enter Tryz.func91,Tryz.ntmps91
 go_upto_region 1 with fail
 have HS1:=Lib.hid (Since.refl w)
 refine wp_region_lit ?_
 refine tkL (.slice none 0 0) (h:=?_)
 (try simp only [Act.put,sA,sB,sC])
 refine tkL (.bool true) (h:=?_)
 (try simp only [Act.put,sA,sB,sC])
 refine wpList_nil ?_
 go_upto_region 2 with fail
 refine wp_region_lit ?_
 refine tkL (.slice none 0 0) (h:=?_)
 (try simp only [Act.put,sA,sB,sC])
 refine wpList_nil ?_
 (try go_wp2_with fail)
 go_ret
 exact ⟨rfl,HS1.out⟩
set_option maxHeartbeats 4000000 in
theorem cloneSome (ad:Addr) (n c:Nat) (ls:List CarV) (w:World) (hR:Reads w w.heap.size 15 (some ad) n (rowsOf carL ls)) (hN:n≤1000000):Calls Tryz.prog 91 #[.slice (some ad) n c] w fun e w'=>∃ A' c',e=.returned (.slice A' n c')∧w'.ownsRow w.heap.size 130 15 (.slice A' n c') n (rowsOf carL ls)∧Since w w':=by
 have HR:=Lib.hid hR
 clear hR
 have HN:=Lib.hid hN
 clear hN
 go_enter Tryz.func91,Tryz.ntmps91
 go_upto_region 1 with fail
 have HS1:=Lib.hid (Since.refl w)
 refine wp_region_lit ?_
 refine tkL (.slice (some ad) n c) (h:=?_)
 (try simp only [Act.put,sA,sB,sC])
 refine tkL (.bool false) (h:=?_)
 (try simp only [Act.put,sA,sB,sC])
 refine wpList_nil ?_
 go_upto_region 3 with fail
 refine wp_region_lit ?_
 refine wpList_wp (by rfl) (fun K hK=>?_)
 refine wp_new (fun b=>.slice (some ⟨b,0,none⟩) 0 0) 130 #[] (by rintro b rfl; first | rfl | kernel_rfl) ?_
 intro bn5 w2 hge hB hb
 refine hK.out _ _ ?_
 clear hK K
 (try simp only [Act.put,sA,sB,sC])
 have HGn5:=Lib.hid (show w.heap.size≤bn5 by have:=Since.size HS1.out; omega)
 have HS2:=Lib.hid (Since.trans HS1.out hb)
 clear HS1 
 clear hb hge
 have HBn52:=Lib.hid hB
 clear hB
 refine tkL (.slice (some ad) n c) (h:=?_)
 (try simp only [Act.put,sA,sB,sC])
 refine wpList_wp (by rfl) (fun K hK=>?_)
 have HOE:=Lib.hid (own_empty (e:=130) (size:=15) HBn52.out HGn5.out)
 clear HBn52
 refine wp_append_row (.tmp 5) (.tmp 6) 122 rfl w.heap.size 130 (Value.agg #[.int .i64 0,.int .i64 0,.int .i64 0,.int .i64 0,.int .i64 0,.int .i64 0,.int .i64 0,.bool false,.bool false,.int .i64 0,.int .i64 0,.bool false,.int .u64 0,.int .u64 0,.int .u64 0]) 15 112 Tryz.underlying122 (by kernel_rfl) rfl (by decide) (by decide) (some ⟨bn5,0,none⟩) 0 0 ([]) rfl HOE.out _ (some ad) n c (rowsOf carL ls) rfl (own_reads_since HS2.out (Nat.le_refl _) HR.out) (cars_one ls) (by have:=HN.out; omega) HS2.out.size n (rowsOf carL ls) (Nat.zero_add _) rfl ?_
 intro A_1 c_1 w3 hown hupd hfar
 refine hK.out _ _ ?_
 clear hK K
 (try simp only [Act.put,sA,sB,sC])
 have HS3:=Lib.hid (Since.upd HS2.out hupd (own_low HOE.out))
 have HFr3:=Lib.hid hown
 clear hupd hown hfar HS2 HOE
 refine tkL (.slice A_1 n c_1) (h:=?_)
 (try simp only [Act.put,sA,sB,sC])
 refine wpList_nil ?_
 (try go_wp2_with fail)
 go_ret
 exact ⟨A_1,c_1,rfl,HFr3.out,HS3.out⟩
theorem cloneT (lo:Nat) (A:Option Addr) (c:Nat) (ls:List CarV) (w:World) (hO:w.ownsRow lo 130 15 (.slice A ls.length c) ls.length (rowsOf carL ls)) (hl:ls.length≤1000000):Calls Tryz.prog 91 #[.slice A ls.length c] w fun e w'=>∃ A' c',e=.returned (.slice A' ls.length c')∧w'.ownsRow w.heap.size 130 15 (.slice A' ls.length c') ls.length (rowsOf carL ls)∧Since w w':=by
 rcases own_at hO with ⟨rfl,h0,hx⟩ | ⟨g,cur,rfl,_⟩
 ·have hc:c=0:=by
   rcases hO.2 with ⟨hv,_⟩ | ⟨_,_,_,hv,_⟩
   ·simp at hv; exact hv.2
   ·simp at hv
  subst hc
  rw [hx,h0]
  refine (cloneNil w).mono ?_
  rintro e w1 ⟨rfl,hb⟩
  exact ⟨none,0,rfl,World.ownsRow_nil _ _ _ _,hb⟩
 ·exact cloneSome _ _ c ls w (own_reads hO) hl
end C1
namespace C2
end C2
end Gr
namespace Gr
open Go.RowKit Ba Mem
set_option maxRecDepth 100000
set_option maxHeartbeats 4000000 in
theorem mul64C (m:Int) (hm:m=1∨m=2∨m=3∨m=4∨m=5∨m=6∨m=7∨m=8) (w:World):Calls Tryz.prog 155 #[.int .u64 1,.int .u64 m] w fun e w'=>e=.returned (.tuple #[.int .u64 0,.int .u64 m])∧w=w':=by
 rcases hm with rfl | rfl | rfl | rfl | rfl | rfl | rfl | rfl
 all_goals
  go_enter Tryz.func155,Tryz.ntmps155
  go_wp2
  go_ret2
  exact ⟨rfl,rfl⟩
theorem mulC (m:Int) (hm:m=1∨m=2∨m=3∨m=4∨m=5∨m=6∨m=7∨m=8) (w:World):Calls Tryz.prog 102 #[.int .u64 1,.int .u64 m] w fun e w'=>e=.returned (.tuple #[.int .u64 0,.int .u64 m])∧w=w':=by
 have hm2:=hm
 have HM:=Lib.hid hm
 clear hm
 go_enter Tryz.func102,Tryz.ntmps102
 go_wp2_with (go_at_call 155; refine (mul64C _ HM.out _).mono ?_; rintro e w' ⟨rfl,rfl⟩)
 all_goals
  go_ret2
  exact ⟨rfl,rfl⟩
end Gr
namespace Ba
open Go.RowKit Mem
def copyR (cur:Array Value) (o:Nat) (cs:List Value):Array Value:=(cur.toList.take o++cs++cur.toList.drop (o+cs.length)).toArray
theorem copyR_size {cur:Array Value} {o n:Nat} {cs:List Value} (h:o+cs.length≤cur.size) (hn:cur.size=n):(copyR cur o cs).size=n:=by
 subst hn
 simp only [copyR,List.size_toArray,List.length_append,List.length_take,List.length_drop,Array.length_toList]
 omega
theorem copyR_take {cur:Array Value} {o:Nat} {cs:List Value} (h:o+cs.length≤cur.size):(copyR cur o cs).toList.take (o+cs.length)=cur.toList.take o++cs:=by
 have e:(cur.toList.take o++cs).length=o+cs.length:=by simp; omega
 simp only [copyR,List.toList_toArray]
 rw [← e]
 exact List.take_left
section
variable {P:Program} {o:Oper} {a:Act} {w:World} {K:Act→World→Prop} {Q:Exit→Act→World→Prop}
theorem wp_copy_k (d s:Operand) (dT sT elem:TypeId) (ho:o.op=.call { callee:=.builtin .copy,args:=#[d,s],argTypes:=#[dT,sT] }) (hu:P.underlying dT=some (.slice elem)) {k:Nat} (hs:(P.info? elem).map (·.size)=some k)
  {g off dLen dCap sLen sCap m:Nat} {A:Addr} {cur:Array Value} {t:TypeId} (cs:List Value) (hd:a.eval d=.slice (some ⟨g,off,none⟩) dLen dCap) (hsv:a.eval s=.slice (some A) sLen sCap)
  (hg:Blk w g t cur) (hm:Nat.min sLen dLen=m) (hn:cs.length=m*k) (hsrc:∀ j v,cs[j]?=some v→w.cell? (A.add j)=some v) (hfit:off+cs.length≤cur.size) (h1:∀ v∈cs,v.oneCell'=true)
  (h:∀ w',w'=w.setRow g (copyR cur off cs)→K (a.put o.dst (.int .i64 (m:Int))) w'):o.wp P a w K Q:=by
 have hl:=run_loadCells_list (P:=P) w A cs hsrc
 have hst:=run_storeCells_at P g off t cs 0 cur w hg (by simpa using hfit) h1
 have hrun:(Builtin.copy_ #[dT,sT] o.type #[.slice (some ⟨g,off,none⟩) dLen dCap,.slice (some A) sLen sCap]).run P w=.ok (.int .i64 (m:Int)) (w.setRow g (copyR cur off cs)):=by
  cases hq:P.info? elem with
  | none=>simp [hq] at hs
  | some i =>
   have hi:i.size=k:=by simpa [hq] using hs
   simp [Builtin.copy_,run_underlying hu,Builtin.lenOf,Builtin.firstCells,sizeOf,typeInfo,hq,hi,hm,← hn,hl,hst,copyR,goInt]
 unfold Oper.wp execOp
 simp only [ho,resolve,invoke,builtin,Sem.run_bind,Sem.run_pure,Result.andThen_ok,List.map_toArray,List.map_cons,List.map_nil,hd,hsv,hrun]
 exact h _ rfl
theorem wp_make (t e:TypeId) (x y:Operand) (ho:o.op=.makeSlice t x y) {z:Value} {k bytes:Nat} (ht:P.underlying t=some (.slice e)) (hinf:(P.info? e).map (fun i=>(i.zero,i.size,i.bytes))=some (some z,k,bytes)) (n:Nat) {kx ky:IntKind}
  (hx:a.eval x=.int kx (n:Int)) (hy:a.eval y=.int ky (n:Int)) (hn:n≤1000000) (hb:bytes≤1000) (hz:z.cells.size=k)
  (h:∀ b cur w',w.heap.size≤b→Blk w' b e cur→cur.size=n*k→Since w w'→K (a.put o.dst (.slice (some ⟨b,0,none⟩) n n)) w'):o.wp P a w K Q:=by
 obtain ⟨i,hi,hz0,h2,h3⟩:=info3 hinf
 have hbn:bytes*n≤1000*1000000:=Nat.mul_le_mul hb hn
 have hbi:(bytes:Int)*(n:Int)≤1000000000:=by rw [← Int.natCast_mul]; omega
 have hr:=run_make (P:=P) w t e i z ht hi hz0 kx ky (n:Int) (n:Int) (by omega) (Int.le_refl _) (by rw [h3]; omega) (by omega)
 unfold Oper.wp execOp
 simp only [ho,hx,hy,Sem.run_bind,hr,Sem.run_pure,Result.andThen_ok,Int.toNat_natCast]
 exact h w.heap.size (madeCells z.cells (n*i.size)) _ (Nat.le_refl _) (Blk.new w e _) (by rw [size_madeCells,h2]) ((Since.refl w).alloc _)
end
theorem src_blk {w:World} {b:Nat} {t:TypeId} {l:List Value} (h:Blk w b t l.toArray):∀ j v,l[j]?=some v→w.cell? ((⟨b,0,none⟩:Addr).add j)=some v:=fun j v hj=>by
 rw [Go.WideShapes.add_plain,Nat.zero_add,h.cell]
 simpa using hj
theorem src_row {w:World} {b n:Nat} {t:TypeId} {cur:Array Value} {l:List Value} (h:Blk w b t cur) (hl:cur.toList.take n=l):∀ j v,l[j]?=some v→w.cell? ((⟨b,0,none⟩:Addr).add j)=some v:=fun j v hj=>by
 rw [Go.WideShapes.add_plain,Nat.zero_add,h.cell]
 subst hl
 rw [List.getElem?_take] at hj
 split at hj
 ·simpa using hj
 ·cases hj
theorem reps {α:Type} {enc:α→List Value} {k:Nat} (hk:∀ a,(enc a).length=k) (x:α) (n m:Nat) (h:m≤n):(rowsOf enc (List.replicate n x)).take (m*k)=rowsOf enc (List.replicate m x):=by
 rw [rowsOf_take hk (by simpa using h),List.take_replicate,Nat.min_eq_left h]
theorem reps_add {α:Type} {enc:α→List Value} (x:α) (n m:Nat):rowsOf enc (List.replicate n x)++rowsOf enc (List.replicate m x)=rowsOf enc (List.replicate (n+m) x):=by
 rw [← rowsOf_append,List.replicate_append_replicate]
end Ba
namespace Gr
open Go.RowKit Ba Mem Go.Proofs.YtnoehplnmdajnaaGreatDoor.Ty Mo Go.Proofs.YtnoehplnmdajnaaGreatDoor.St Sc Pl
open Ct (cfgA carA m1 dwV)
set_option maxRecDepth 100000
attribute [local irreducible] Go.wpList
set_option maxHeartbeats 4000000 in
theorem repeatT (b m:Nat) (x:CarV) (w:World) (hb:Blk w b 130 (carA x)) (hm:(m:Int)=1∨(m:Int)=2∨(m:Int)=3∨(m:Int)=4∨(m:Int)=5∨(m:Int)=6∨(m:Int)=7∨(m:Int)=8):Calls Tryz.prog 71 #[.slice (some ⟨b,0,none⟩) 1 1,.int .i64 (m:Int)] w fun e w'=>∃ g,e=.returned (.slice (some ⟨g,0,none⟩) m m)∧w.heap.size≤g∧CarsAt w.heap.size (some ⟨g,0,none⟩) m m (List.replicate m x) w'∧Since w w':=by
 have HB:=Lib.hid hb
 clear hb
 have HM:=Lib.hid hm
 clear hm
 have HMR:=Lib.hid (show 1≤m∧m≤8 by have:=HM.out; omega)
 go_enter Tryz.func71,Tryz.ntmps71
 go_upto_region 1 with fail
 have HS1:=Lib.hid (Since.refl w)
 refine wp_region_lit ?_
 refine tkL (.int .i64 (m:Int)) (h:=?_)
 (try simp only [Act.put,sA,sB,sC])
 refine wpList_q (by rfl) (.bool false) ?he ?_
 case he=>(go_simp; (first | done | rfl | omega))
 (try simp only [Act.put,sA,sB,sC])
 refine wpList_nil ?_
 go_upto_region 3 with fail
 refine wp_region_lit ?_
 refine tkL (.slice (some ⟨b,0,none⟩) 1 1) (h:=?_)
 (try simp only [Act.put,sA,sB,sC])
 refine tkL (.int .i64 1) (h:=?_)
 (try simp only [Act.put,sA,sB,sC])
 refine wpList_q (by rfl) (.int .u64 1) ?he ?_
 case he=>(have q:=HMR.out; go_simp; (first | done | rfl | (simp only [IntKind.wrap,IntKind.bits,IntKind.signed]; simp; omega)))
 (try simp only [Act.put,sA,sB,sC])
 refine tkL (.int .i64 (m:Int)) (h:=?_)
 (try simp only [Act.put,sA,sB,sC])
 refine wpList_q (by rfl) (.int .u64 (m:Int)) ?he ?_
 case he=>(have q:=HMR.out; go_simp; (first | done | rfl | (simp only [IntKind.wrap,IntKind.bits,IntKind.signed]; simp; omega)))
 (try simp only [Act.put,sA,sB,sC])
 refine wpList_wp (by rfl) (fun K hK=>?_)
 (try go_simp)
 refine (mulC (m:Int) HM.out _).mono ?_
 rintro e w' ⟨rfl,rfl⟩
 (try go_wp2_with fail)
 refine hK.out _ _ ?_
 clear hK K
 (try simp only [Act.put,sA,sB,sC])
 refine tkL (.tuple #[.int .u64 0,.int .u64 (m:Int)]) (h:=?_)
 (try simp only [Act.put,sA,sB,sC])
 refine tkL (.int .u64 0) (h:=?_)
 (try simp only [Act.put,sA,sB,sC])
 refine tkL (.int .u64 (m:Int)) (h:=?_)
 (try simp only [Act.put,sA,sB,sC])
 refine tkL (.int .u64 0) (h:=?_)
 (try simp only [Act.put,sA,sB,sC])
 refine tkL (.int .u64 (m:Int)) (h:=?_)
 (try simp only [Act.put,sA,sB,sC])
 refine wpList_nil ?_
 go_upto_region 4 with fail
 refine wp_region_lit ?_
 refine tkL (.int .u64 0) (h:=?_)
 (try simp only [Act.put,sA,sB,sC])
 refine tkL (.bool false) (h:=?_)
 (try simp only [Act.put,sA,sB,sC])
 refine tkL (.bool false) (h:=?_)
 (try simp only [Act.put,sA,sB,sC])
 refine tkL (.int .u64 (m:Int)) (h:=?_)
 (try simp only [Act.put,sA,sB,sC])
 refine wpList_q (by rfl) (.bool false) ?he ?_
 case he=>(have q0:=HMR.out; go_simp; (first | done | rfl | omega))
 (try simp only [Act.put,sA,sB,sC])
 refine tkL (.bool false) (h:=?_)
 (try simp only [Act.put,sA,sB,sC])
 refine wpList_nil ?_
 go_upto_region 6 with fail
 refine wp_region_lit ?_
 refine tkL (.int .u64 (m:Int)) (h:=?_)
 (try simp only [Act.put,sA,sB,sC])
 refine wpList_q (by rfl) (.int .i64 (m:Int)) ?he ?_
 case he=>(have q:=HMR.out; go_simp; (first | done | rfl | (simp only [IntKind.wrap,IntKind.bits,IntKind.signed]; simp; omega)))
 (try simp only [Act.put,sA,sB,sC])
 refine wpList_wp (by rfl) (fun K hK=>?_)
 refine wp_make 122 130 (.tmp 29) (.tmp 29) rfl (z:=Value.agg #[.int .i64 0,.int .i64 0,.int .i64 0,.int .i64 0,.int .i64 0,.int .i64 0,.int .i64 0,.bool false,.bool false,.int .i64 0,.int .i64 0,.bool false,.int .u64 0,.int .u64 0,.int .u64 0]) (k:=15) (bytes:=112) Tryz.underlying122 (by kernel_rfl) m rfl rfl (by have:=HMR.out; omega) (by decide) rfl ?_
 intro bD cur w2 hge hB hsz hb
 refine hK.out _ _ ?_
 clear hK K
 (try simp only [Act.put,sA,sB,sC])
 have HSZ:=Lib.hid hsz; clear hsz
 have HNDX:=Lib.hid (show bD≠b by have:=Blk.lt HB.out; omega)
 have HGD:=Lib.hid (show w.heap.size≤bD by have:=Since.size HS1.out; omega)
 have HS2:=Lib.hid (Since.trans HS1.out hb)
 have HBX2:=Lib.hid (keep_blk hb HB.out)
 clear HS1 HB
 clear hb hge
 have HBD2:=Lib.hid hB
 clear hB
 refine tkL (.slice (some ⟨bD,0,none⟩) m m) (h:=?_)
 (try simp only [Act.put,sA,sB,sC])
 refine wpList_nil ?_
 go_upto_region 7 with fail
 refine wp_region_lit ?_
 refine tkL (.slice (some ⟨bD,0,none⟩) m m) (h:=?_)
 (try simp only [Act.put,sA,sB,sC])
 refine tkL (.slice (some ⟨b,0,none⟩) 1 1) (h:=?_)
 (try simp only [Act.put,sA,sB,sC])
 refine wpList_wp (by rfl) (fun K hK=>?_)
 refine wp_copy_k (.tmp 31) (.tmp 32) 122 122 130 rfl Tryz.underlying122 (k:=15) (by kernel_rfl) (m:=1) (carL x) rfl rfl HBD2.out (by have:=HMR.out; show Nat.min 1 m=1; exact Nat.min_eq_left this.1) rfl (src_blk (l:=carL x) HBX2.out) (by have:=HSZ.out; have:=HMR.out; simp only [carL_len]; omega) (carL_one x) ?_
 intro w3 hw
 refine hK.out _ _ ?_
 clear hK K
 (try simp only [Act.put,sA,sB,sC])
 have HS3:=Lib.hid (show Since w w3 by rw [hw]; exact Since.setRow HS2.out HGD.out _)
 have HBX3:=Lib.hid (show Blk w3 b 130 (carA x) by rw [hw]; exact Blk.row_far HBX2.out (Ne.symm HNDX.out) _)
 have HBD3:=Lib.hid (show Blk w3 bD 130 (copyR cur 0 (carL x)) by rw [hw]; exact Blk.row HBD2.out _)
 clear hw HS2 HBX2 HBD2
 refine tkL (.int .i64 ((1:Nat):Int)) (h:=?_)
 (try simp only [Act.put,sA,sB,sC])
 refine wpList_nil ?_
 have HSZ1:=Lib.hid (copyR_size (cur:=cur) (o:=0) (cs:=carL x) (by have:=HSZ.out; have:=HMR.out; simp only [carL_len]; omega) HSZ.out)
 have HTK1:=Lib.hid (show (copyR cur 0 (carL x)).toList.take (1*15)=rowsOf carL (List.replicate 1 x) by have q:=copyR_take (cur:=cur) (o:=0) (cs:=carL x) (by have:=HSZ.out; have:=HMR.out; simp only [carL_len]; omega); simpa [carL_len,rowsOf] using q)
 go_wp2_with fail
 refine wp_uloop (ds:=[]) (fun n fr wr=>∃ (n2:Nat) (c2:Array Value),(1≤n2∧n2≤m)∧c2.size=m*15∧c2.toList.take (n2*15)=rowsOf carL (List.replicate n2 x)∧(m - n2)=n∧Fits fr 48 [(0,.slice (some ⟨b,0,none⟩) 1 1),(1,.int .i64 (m:Int)),(4,.slice none 0 0),(5,.int .u64 0),(6,.int .u64 (m:Int)),(7,.slice (some ⟨bD,0,none⟩) m m),(8,.int .i64 (n2:Int))]∧Hid (Since w wr∧Blk wr bD 130 c2)) (m - 1) ?start3 ?round3
 case start3=>exact ⟨1,(copyR cur 0 (carL x)),(by have:=HMR.out; omega),HSZ1.out,HTK1.out,rfl,⟨rfl,rfl,rfl,rfl,rfl,rfl,rfl,rfl,trivial⟩,Lib.hid ⟨HS3.out,HBD3.out⟩⟩
 case round3 =>
  intro n fr wr hR J1 K1 hJ1 hK1
  clear HS3 HBX3 HBD3
  obtain ⟨n2,c2,hn2,hsz2,htk2,hn,hF,HO⟩:=hR
  have HM:=Lib.hid hn; clear hn
  obtain ⟨g0,g1⟩:=HO.out
  clear HO
  have HS53:=Lib.hid g0
  have HBD53:=Lib.hid g1
  clear g0 g1
  obtain ⟨u,hu⟩:=hF.open_
  have hu2:=hu.trans (show _=#[.slice (some ⟨b,0,none⟩) 1 1,.int .i64 (m:Int),u 2,u 3,.slice none 0 0,.int .u64 0,.int .u64 (m:Int),.slice (some ⟨bD,0,none⟩) m m,.int .i64 (n2:Int),u 9,u 10,u 11,u 12,u 13,u 14,u 15,u 16,u 17,u 18,u 19,u 20,u 21,u 22,u 23,u 24,u 25,u 26,u 27,u 28,u 29,u 30,u 31,u 32,u 33,u 34,u 35,u 36,u 37,u 38,u 39,u 40,u 41,u 42,u 43,u 44,u 45,u 46,u 47] by kernel_rfl)
  clear hu hF
  subst hu2
  have HN2:=Lib.hid hn2; have HSZ2:=Lib.hid hsz2; have HTK2:=Lib.hid htk2; clear hn2 hsz2 htk2
  by_cases hcs:n2 < m
  rotate_left
  · have HLT:=Lib.hid hcs; clear hcs
    go_upto_region 8 with fail
    refine wp_region_lit ?_
    refine tkL (.int .i64 (n2:Int)) (h:=?_)
    (try simp only [Act.put,sA,sB,sC])
    refine tkL (.slice (some ⟨bD,0,none⟩) m m) (h:=?_)
    (try simp only [Act.put,sA,sB,sC])
    refine tkL (.int .i64 (m:Int)) (h:=?_)
    (try simp only [Act.put,sA,sB,sC])
    refine wpList_q (by rfl) (.bool false) ?he ?_
    case he=>(have q0:=HLT.out; go_simp; (first | done | rfl | omega))
    (try simp only [Act.put,sA,sB,sC])
    refine wpList_nil ?_
    go_upto_region 10 with fail
    refine wp_region_lit ?_
    refine tkL (.slice (some ⟨bD,0,none⟩) m m) (h:=?_)
    (try simp only [Act.put,sA,sB,sC])
    refine tkL (.slice (some ⟨bD,0,none⟩) m m) (h:=?_)
    (try simp only [Act.put,sA,sB,sC])
    refine wpList_nil ?_
    (try go_wp2_with fail)
    go_ret
    have e:n2=m:=by have:=HLT.out; have:=HN2.out; omega
    subst e
    exact ⟨bD,rfl,HGD.out,⟨by rw [rowsOf_len carL_len,List.length_replicate],.inr ⟨bD,_,_,rfl,HGD.out,HBD53.out,Nat.le_refl _,by have:=HMR.out; unfold maxLen; omega,HSZ2.out,HTK2.out⟩⟩,HS53.out⟩
  · have HLT:=Lib.hid hcs; clear hcs
    go_upto_region 8 with fail
    refine wp_region_lit ?_
    refine tkL (.int .i64 (n2:Int)) (h:=?_)
    (try simp only [Act.put,sA,sB,sC])
    refine tkL (.slice (some ⟨bD,0,none⟩) m m) (h:=?_)
    (try simp only [Act.put,sA,sB,sC])
    refine tkL (.int .i64 (m:Int)) (h:=?_)
    (try simp only [Act.put,sA,sB,sC])
    refine wpList_q (by rfl) (.bool true) ?he ?_
    case he=>(have q0:=HLT.out; go_simp; (first | done | rfl | omega))
    (try simp only [Act.put,sA,sB,sC])
    refine wpList_nil ?_
    have HMM:=Lib.hid (show (Nat.min n2 (m - n2))≤n2∧(Nat.min n2 (m - n2))≤m - n2∧1≤(Nat.min n2 (m - n2)) from ⟨Nat.min_le_left _ _,Nat.min_le_right _ _,Nat.le_min.2 ⟨HN2.out.1,by have:=HLT.out; omega⟩⟩)
    have HLC:=Lib.hid (show (rowsOf carL (List.replicate (Nat.min n2 (m - n2)) x)).length=(Nat.min n2 (m - n2))*15 by rw [rowsOf_len carL_len,List.length_replicate])
    have HFT:=Lib.hid (show n2*15+(rowsOf carL (List.replicate (Nat.min n2 (m - n2)) x)).length≤c2.size by rw [HLC.out,HSZ2.out]; have:=HMM.out; have:=HN2.out; omega)
    have HSZ3:=Lib.hid (copyR_size HFT.out HSZ2.out)
    go_upto_region 9 with fail
    have HKS:Hid (KeepS (fun W:World=>Since w W∧HasRow W bD 130 (m*15)) wr):=Lib.hid ⟨fun W W' k ⟨h,h0⟩=>⟨h.trans k,HasRow.keep k h0⟩,⟨HS53.out,HasRow.of HBD53.out HSZ2.out⟩⟩
    have HRK:=Lib.hid HKS.out.1
    have HPD:=Lib.hid (show Blk (World.drew wr) bD 130 c2 from HBD53.out)
    refine wp_held HKS.out (by kernel_rfl) (fun hHeld=>?_)
    refine tkQ 0 (.int .i64 (n2:Int)) hHeld (h:=?_)
    (try simp only [Act.put,sA,sB,sC])
    refine tkQ 1 (.slice (some ⟨bD,0,none⟩) m m) hHeld (h:=?_)
    (try simp only [Act.put,sA,sB,sC])
    refine tkQ 2 (.int .i64 (n2:Int)) hHeld (h:=?_)
    (try simp only [Act.put,sA,sB,sC])
    refine tkQ 3 (.slice (some ⟨bD,n2*15,none⟩) (m - n2) (m - n2)) hHeld (he:=by intro w hSw; exact exec_slice (s:=15) 122 130 _ _ _ _ rfl rfl Tryz.underlying122 (by kernel_rfl) (sb_l _ _ (l:=n2) rfl (by have:=HN2.out; omega)) (by have q:=HLT.out; rw [if_neg (by omega)]; simp only [Option.map_some,Go.WideShapes.add_plain,Nat.zero_add]) rfl rfl) (h:=?_)
    (try simp only [Act.put,sA,sB,sC])
    refine tkQ 4 (.slice (some ⟨bD,0,none⟩) m m) hHeld (h:=?_)
    (try simp only [Act.put,sA,sB,sC])
    refine tkQ 5 (.int .i64 (n2:Int)) hHeld (h:=?_)
    (try simp only [Act.put,sA,sB,sC])
    refine tkQ 6 (.slice (some ⟨bD,0,none⟩) n2 m) hHeld (he:=by intro w hSw; exact exec_slice (s:=15) 122 130 _ _ _ _ rfl rfl Tryz.underlying122 (by kernel_rfl) (sb_h _ _ (h:=n2) rfl (by have:=HN2.out; omega)) (by split <;> simp [Addr.add]) rfl rfl) (h:=?_)
    (try simp only [Act.put,sA,sB,sC])
    refine wpAnyH_ready (rs:=[7]) (by kernel_rfl) (by simp) ?_
    refine AllReadyH.cons (o:=?o9__7) ?h9__7 (fun K hK=>?_) AllReadyH.nil
    case h9__7=>(first | (simp only [gA,gB,gC]; done)|(simp only [gA,gB,gC]; exact rfl))
    rw [if_pos (by rfl)]
    refine wp_copy_k (.tmp 41) (.tmp 44) 122 122 130 rfl Tryz.underlying122 (k:=15) (by kernel_rfl) (m:=(Nat.min n2 (m - n2))) (rowsOf carL (List.replicate (Nat.min n2 (m - n2)) x)) rfl rfl HPD.out rfl HLC.out (src_row HPD.out (by have q:=reps carL_len x n2 (Nat.min n2 (m - n2)) HMM.out.1; rw [← HTK2.out,List.take_take,Nat.min_eq_left (Nat.mul_le_mul_right 15 HMM.out.1)] at q; exact q)) HFT.out (cars_one _) ?_
    clear HPD
    intro w54 hw
    have HRD:=Lib.hid (show Blk w54 bD 130 (copyR c2 (n2*15) (rowsOf carL (List.replicate (Nat.min n2 (m - n2)) x))) by obtain ⟨old,Bo,_⟩:=hHeld.2; rw [hw]; exact Blk.row Bo _)
    have hHeld3:=HKS.out.at_ w54 ⟨by rw [hw]; exact Since.setRow hHeld.1 HGD.out _,HasRow.of HRD.out HSZ3.out⟩
    refine hK.out _ _ hHeld3 (fun hHeld2=>?_)
    clear hK K hHeld hHeld3 hw
    have hHeld:=hHeld2
    clear hHeld2
    (try simp only [Act.put,sA,sB,sC])
    refine tkQ 8 (.int .i64 ((n2:Int)+((Nat.min n2 (m - n2)):Int))) hHeld (he:=by intro w hSw; (go_simp; (first | done | (refine wrG _ ?_ ?_ <;> (have q0:=HMM.out; have q1:=HN2.out; have q2:=HMR.out; omega))|(have q0:=HMM.out; have q1:=HN2.out; have q2:=HMR.out; omega)|(have q0:=HMM.out; have q1:=HN2.out; have q2:=HMR.out; split <;> omega)|(have q0:=HMM.out; have q1:=HN2.out; have q2:=HMR.out; intro hh; omega)))) (h:=?_)
    (try simp only [Act.put,sA,sB,sC])
    refine tkQ 9 (.int .i64 ((n2:Int)+((Nat.min n2 (m - n2)):Int))) hHeld (h:=?_)
    (try simp only [Act.put,sA,sB,sC])
    refine wpAnyH_done (by kernel_rfl) ?_ _
    have HSd9:=Lib.hid hHeld.1
    have HBDd9:=Lib.hid HRD.out
    clear HRD
    clear hHeld HRK HKS HS53 HBD53
    go_wp2_with fail
    refine Met.intro ?_
    refine hJ1 _ _ _ ?less54 ⟨(n2+(Nat.min n2 (m - n2))),(copyR c2 (n2*15) (rowsOf carL (List.replicate (Nat.min n2 (m - n2)) x))),(by have:=HMM.out; have:=HN2.out; omega),HSZ3.out,(by have q:=copyR_take HFT.out; rw [HLC.out,← Nat.add_mul,HTK2.out,reps_add] at q; exact q),rfl,⟨rfl,rfl,rfl,rfl,rfl,rfl,rfl,(by show some (Value.int .i64 ((n2:Int)+_))=_; (try push_cast); rfl),trivial⟩,Lib.hid ⟨HSd9.out,HBDd9.out⟩⟩
    case less54=>exact (by have:=HM.out; have:=HMM.out; have:=HLT.out; omega)
end Gr
namespace Gr
open Go.RowKit Ba Mem En Mo Go.Proofs.YtnoehplnmdajnaaGreatDoor.Ty Go.Proofs.YtnoehplnmdajnaaGreatDoor.St
open Ct (cfgA carA)
open Et (carsO)
set_option maxRecDepth 100000
attribute [local irreducible] Go.Calls
theorem carsT (lo q:Nat) (G:GrV) (S:List Nat) (w:World) (hg:GO lo q G S w) (hl:G.cars.length≤1000000):Calls Tryz.prog 62 #[.pointer (some ⟨q,0,none⟩)] w fun e w'=>∃ A' c',e=.returned (.slice A' G.cars.length c')∧CarsAt w.heap.size A' G.cars.length c' G.cars w'∧Since w w':=by
 obtain ⟨h0,A1,c1,A2,c2,rfl,hq,O1,O2⟩:=hg
 refine entH tab_ok (Hold.addObj (hold_q (S:=[]) [.i .i64 G.c.ca,.i .i64 G.c.fl,.i .i64 G.c.ft,.i .i64 G.c.se,.i .i64 G.c.dr,.i .i64 G.c.dw,.i .i64 G.c.ho,.i .i64 G.c.re,.i .i64 G.c.yi,.i .i64 G.c.qu,.i .i64 G.c.qo,.i .i64 G.c.lo,.i .i64 G.c.sl,.i .i64 G.c.rt,.i .i64 G.c.cp,.i .i64 G.c.tr,.i .i64 G.c.de,.i .i64 G.c.wi,.v (.slice A1 G.cars.length c1),.v (.slice A2 G.waits.length c2),.i .i64 G.now] hq) (carsO lo A1 G.cars.length c1 G.cars false) O1 (by intro k; cases k) (by intro r hr _; rw [List.mem_singleton] at hr; subst hr; exact own_ne_ty O1 hq (by decide)) (by intro A hA; cases hA)) [.p 0 0] Tryz.func62 Tryz.ntmps62 rfl rfl ?_
 repeat' ((conv=>whnf); first | refine sgo ⟨tab_ok⟩ ?_|refine br_not ?_|refine br_t rfl ?_|refine br_f rfl ?_|refine br_t (by assumption) ?_|refine br_f (by assumption) ?_|refine br_t (decide_eq_true (by assumption)) ?_|refine br_f (decide_eq_false (by assumption)) ?_|refine br_t (beq_iff_eq.2 (by assumption)) ?_|refine br_f (beq_eq_false_iff_ne.2 (by assumption)) ?_|intro b | refine drA ⟨tab_ok⟩ [] ?_|refine kpt ?_|refine callN (f:=91) (ι:={x:Nat×Option Addr×Nat // w.heap.size≤x.1}) (fun x=>.v (.slice x.1.2.1 G.cars.length x.1.2.2)) (fun x=>carsO x.1.1 x.1.2.1 G.cars.length x.1.2.2 G.cars true) (fun w1 hH=>(C1.cloneT lo A1 c1 G.cars w1 (hH.obj (carsO lo A1 G.cars.length c1 G.cars false) (List.mem_singleton.2 rfl)) hl).mono (by rintro e w' ⟨A',c',rfl,hO,hs⟩; exact ⟨⟨(w1.heap.size,A',c'),hH.upd.size⟩,rfl,hO,hs,own_low hO⟩)) (fun x=>?_)|refine fin fun w' hH=>⟨_,_,rfl,own_base (hH.obj (carsO _ _ _ _ _ true) (List.mem_cons_of_mem _ (List.mem_cons_self ..))) x.2,hH.upd.since⟩|refine fin_s ?_|refine fin_r ?_ ?_|refine fin_e ?_ ?_)
def ncars (c:CfgV):Nat:=if c.ca < 1 then 1 else if 8 < c.ca then 8 else c.ca.toNat
theorem ncars_bd (c:CfgV):1≤ncars c∧ncars c≤8:=by unfold ncars; (repeat' split) <;> omega
theorem ncE (c:CfgV):(if 8 < (if 1 > c.ca then 1 else c.ca) then 8 else (if 1 > c.ca then 1 else c.ca))=(ncars c:Int):=by
 have h:(ncars c:Int)=if c.ca < 1 then 1 else if 8 < c.ca then 8 else c.ca:=by unfold ncars; by_cases h1:c.ca < 1 <;> by_cases h2:8 < c.ca <;> simp [h1,h2] <;> omega
 rw [h]; repeat' split <;> omega
def zeroX:CarV:=⟨0,0,0,0,0,-1,0,false,false,0,0,false,0,0,0⟩
def newG (c:CfgV):GrV:=⟨c,List.replicate (ncars c) zeroX,[],0⟩
theorem newT (c:CfgV) (w:World):Calls Tryz.prog 50 #[.agg (cfgA c)] w fun e w'=>∃ q S',e=.returned (.pointer (some ⟨q,0,none⟩))∧GO w.heap.size q (newG c) S' w'∧Since w w':=by
 have hm:=ncars_bd c
 refine ent tab_ok [.a [.i .i64 c.ca,.i .i64 c.fl,.i .i64 c.ft,.i .i64 c.se,.i .i64 c.dr,.i .i64 c.dw,.i .i64 c.ho,.i .i64 c.re,.i .i64 c.yi,.i .i64 c.qu,.i .i64 c.qo,.i .i64 c.lo,.i .i64 c.sl,.i .i64 c.rt,.i .i64 c.cp,.i .i64 c.tr,.i .i64 c.de,.i .i64 c.wi]] Tryz.func50 Tryz.ntmps50 rfl rfl ?_
 repeat' ((conv=>whnf); first | refine sgo ⟨tab_ok⟩ ?_|refine br_not ?_|refine br_t rfl ?_|refine br_f rfl ?_|refine br_t (by assumption) ?_|refine br_f (by assumption) ?_|refine br_t (decide_eq_true (by assumption)) ?_|refine br_f (decide_eq_false (by assumption)) ?_|refine br_t (beq_iff_eq.2 (by assumption)) ?_|refine br_f (beq_eq_false_iff_ne.2 (by assumption)) ?_|intro b | refine drA ⟨tab_ok⟩ [] ?_|refine kpt ?_|refine callS (f:=72) (.a [.i .i64 zeroX.ds,.i .i64 zeroX.da,.i .i64 zeroX.un,.i .i64 zeroX.wy,.i .i64 zeroX.ti,.i .i64 zeroX.ju,.i .i64 zeroX.lo,.b zeroX.bl,.b zeroX.br,.i .i64 zeroX.mo,.i .i64 zeroX.ta,.b zeroX.ho,.i .u64 zeroX.sp,.i .u64 zeroX.su,.i .u64 zeroX.sd]) (Pl.newT) ?_|refine opb1 (e:=130) ⟨tab_ok⟩ [.i .i64 zeroX.ds,.i .i64 zeroX.da,.i .i64 zeroX.un,.i .i64 zeroX.wy,.i .i64 zeroX.ti,.i .i64 zeroX.ju,.i .i64 zeroX.lo,.b zeroX.bl,.b zeroX.br,.i .i64 zeroX.mo,.i .i64 zeroX.ta,.b zeroX.ho,.i .u64 zeroX.sp,.i .u64 zeroX.su,.i .u64 zeroX.sd] (by rfl) (by rfl) ?_|refine callN (f:=71) (ι:={x:Nat×Nat // w.heap.size≤x.1}) (fun x=>.v (.slice (some ⟨x.1.2,0,none⟩) (ncars c) (ncars c))) (fun x=>carsO x.1.1 (some ⟨x.1.2,0,none⟩) (ncars c) (ncars c) (List.replicate (ncars c) zeroX) true) (fun w1 hH=>by have:=repeatT _ (ncars c) zeroX w1 (hH.row 1 _ rfl rfl) (by omega); rw [← ncE] at this; exact this.mono (by rintro e w' ⟨g,rfl,hg,hO,hs⟩; exact ⟨⟨(w1.heap.size,g),hH.upd.size⟩,rfl,hO,hs,own_low hO⟩)) (fun x=>?_)|refine fin_s ?_|refine fin_r ?_ ?_|refine fin_e ?_ ?_)
 all_goals (conv=>whnf)
 have e:(List.replicate (ncars c) zeroX).length=ncars c:=List.length_replicate
 refine fin fun w' hH=>⟨_,_,rfl,⟨?_,some ⟨x.1.2,0,none⟩,ncars c,none,0,rfl, ?_, ?_,World.ownsRow_nil _ _ _ _⟩,hH.upd.since⟩
 ·rcases (hH.wf 2 _ rfl rfl).2.2 rfl with h | h
  ·cases h
  ·exact h
 ·have q:=hH.row 2 _ rfl rfl
  rw [rowA_nil rfl rfl] at q
  have e2:(newG c).cars.length=ncars c:=e
  rw [e2]; exact q
 ·have q:=own_base (hH.obj (carsO x.1.1 (some ⟨x.1.2,0,none⟩) (ncars c) (ncars c) (List.replicate (ncars c) zeroX) true) (List.mem_singleton.2 rfl)) x.2
  unfold CarsAt
  simpa [newG,e] using q
end Gr
namespace Gr
open Go.RowKit Ba Mem En Mo Go.Proofs.YtnoehplnmdajnaaGreatDoor.Ty Go.Proofs.YtnoehplnmdajnaaGreatDoor.St
open Ct (cfgA carA)
open Et (carsO)
set_option maxRecDepth 100000
attribute [local irreducible] Go.Calls
section
variable {α:Type} {f:α→α} {ws:List α} {i:Nat}
end
def disW (car:Int) (a:WaitV):WaitV:=if a.ca=car then { a with ca := -1 } else a
end Gr
namespace Gr
open Go.RowKit Ba Mem En Mo Go.Proofs.YtnoehplnmdajnaaGreatDoor.Ty Go.Proofs.YtnoehplnmdajnaaGreatDoor.St
open Ct (cfgA carA)
open Et (carsO)
set_option maxRecDepth 100000
attribute [local irreducible] Go.Calls
def fltX (x:CarV):CarV:={ x with br:=true,sp:=0,su:=0,sd:=0 }
def faultR (G:GrV) (i:Int) (y:Bool):GrV×Int :=
 if y=true then (if 0≤i∧i.toNat < G.cars.length then ({ (one G i (fun x=>(fltX x,0))).1 with waits:=G.waits.map (disW i) },0) else (G,1)) else one G i (fun x=>({ x with br:=false },0))
end Gr
namespace En
open Go.RowKit Ba Mem
section
variable {X:Cx} {m:List Row} {ob:List Asr} {w w':World} {s:St}
theorem opxc {o:Oper} {K:St→Prop} {t:TypeId} {x:Operand} {g off:Nat} {ad:Addr} (v:SV) (hr:∀ w,Hold X s.m s.ob w→w.rangeAt g off [den s.m v]) (hX:X.Ok) (ho:o.op=.load t x) (hx:evO x s.fr=some (.v (.pointer (some ad)))) (had:ad=⟨g,off,none⟩) (h:put X.n o.dst v s K)
  (hn:(match tyO t X.tab with | some y=>!y.row | none=>false)=true:=by rfl) (hv:okV s.m.length v=true:=by rfl):OpVC X o s K:=by
 subst had
 refine opq v (fun a w hf hH=>?_) h hv
 cases hy:tyO t X.tab with
 | none=>simp [hy] at hn
 | some y =>
  simp only [hy,Bool.not_eq_true'] at hn
  obtain ⟨d,i,T⟩:=(hX.tab _ _ hy).out
  have he:=(evO_of hf hx).2
  have hc:w.cell? ⟨g,off,none⟩=some (den s.m v):=hr w hH 0 _ rfl
  have hrow:=T.row
  rw [hn] at hrow
  have hagg:(isAgg t).run X.P w=.ok false w:=by
   unfold isAgg
   rw [Sem.run_bind,run_underlying T.un w]
   cases d <;> simp_all [TypeDesc.isRow]
  unfold execOp
  simp only [ho,he,den,Instr.loadAt,Instr.sureAddr,Sem.run_bind,Sem.run_pure,Result.andThen_ok]
  simp [loadVar,Sem.run_bind,hagg,hc]
end
structure Ek (α:Type) where
 t:TypeId
 k:Nat
 c:α→List Value
 len:∀ a,(c a).length=k
 one:∀ a,∀ u∈c a,u.oneCell'=true
def Ek.At {α:Type} (E:Ek α) (lo:Nat) (A:Option Addr) (n c:Nat) (ls:List α) (w:World):Prop:=w.ownsRow lo E.t E.k (.slice A n c) n (rowsOf E.c ls)
def rwO {α:Type} (E:Ek α) (lo:Nat) (A:Option Addr) (n c:Nat) (ls:List α) (rw:Bool):Asr:=⟨blkOf A,rw,E.At lo A n c ls,fun k h hs=>k.own hs h,fun h=>own_lt h⟩
section
variable {α:Type} {E:Ek α} {lo g n c k:Nat} {A:Option Addr} {ls:List α} {w:World} {x:α}
theorem Ek.addr (h:E.At lo A n c ls w):∃ g,0 < n→A=some ⟨g,0,none⟩:=by
 rcases own_at h with ⟨_,h0,_⟩ | ⟨g,_,h1,_⟩
 ·exact ⟨0,fun k=>by omega⟩
 ·exact ⟨g,fun _=>h1⟩
theorem Ek.rng (h:E.At lo (some ⟨g,0,none⟩) n c ls w) (hx:ls[k]?=some x):w.rangeAt g (0+k*E.k) (E.c x):=by
 obtain ⟨hi,rfl⟩:=List.getElem?_eq_some_iff.1 hx
 obtain ⟨P,S,hP,hB,_⟩:=own_el E.len h hi
 have:=el_part (P:=P) (S:=S) (cs:=(E.c ls[k]).toArray) (j:=0) (n:=E.k) (l:=E.c ls[k]) hP (by show List.take E.k (E.c ls[k])=_; rw [List.take_of_length_le (by rw [E.len]; exact Nat.le_refl _)]) (by simp [E.len])
 exact range_of hB this (E.len _)
theorem Ek.nil (E:Ek α) (lo:Nat) (w:World):E.At lo none 0 0 [] w:=World.ownsRow_nil _ _ _ _
theorem Ek.lows (h:E.At lo A n c ls w):∀ g∈blkOf A,lo≤g:=own_low h
theorem Ek.base {lo':Nat} (h:E.At lo A n c ls w) (hb:lo'≤lo):E.At lo' A n c ls w:=own_base h hb
end
end En
namespace Qu
open Go.RowKit Ba Mem Go.Proofs.YtnoehplnmdajnaaGreatDoor.Ty
def btw (n lo hi:Int):Int:=if n < lo then lo else if hi < n then hi else n
def askC (a:AskV):List Value:=[.int .i64 a.se,.int .i64 a.fl,.int .i64 a.fm,.int .i64 a.to,.int .i64 a.ma]
def QO (lo q:Nat) (room:Int) (ls:List AskV) (S:List Nat) (w:World):Prop :=
 lo≤q∧∃ A c,S=q::blkOf A∧Blk w q 141 #[.int .i64 room,.slice A ls.length c]∧w.ownsRow lo 174 5 (.slice A ls.length c) ls.length (rowsOf askC ls)
section
variable {w w':World} {lo q b:Nat} {room:Int} {ls:List AskV} {S T:List Nat}
theorem QO.upd (k:Upd T w w') (h:QO lo q room ls S w) (hT:∀ g∈S,g∉T):QO lo q room ls S w':=by
 obtain ⟨h0,A,c,rfl,B,O⟩:=h
 exact ⟨h0,A,c,rfl,k.blk B (hT _ (by simp)),k.own O (fun g hg=>hT g (by simp [hg]))⟩
theorem QO.low (h:QO lo q room ls S w):∀ g∈S,lo≤g:=by
 obtain ⟨h0,A,c,rfl,B,O⟩:=h
 intro g hg
 rcases List.mem_cons.1 hg with rfl | hg
 ·exact h0
 ·exact own_low O g hg
theorem QO.lt (h:QO lo q room ls S w):∀ g∈S,g < w.heap.size:=by
 obtain ⟨h0,A,c,rfl,B,O⟩:=h
 intro g hg
 rcases List.mem_cons.1 hg with rfl | hg
 ·exact B.lt
 ·exact own_lt O g hg
end
end Qu
namespace Qu
open Go.RowKit Ba Mem Go.Proofs.YtnoehplnmdajnaaGreatDoor.Ty
section
variable {w w':World} {a:Option Addr} {n:Nat} {zs:List Int}
end
end Qu
namespace Qu
open Go.RowKit Ba Mem Go.Proofs.YtnoehplnmdajnaaGreatDoor.Ty
set_option maxRecDepth 100000
attribute [local irreducible] Go.wpList
def leaC (a:LeaseV):List Value:=[.int .i64 a.se,.int .i64 a.fl,.int .i64 a.fm,.int .i64 a.to,.int .i64 a.ma,.int .i64 a.ca,.int .i64 a.ph,.int .i64 a.un,.int .i64 a.re,.int .i64 a.gr]
theorem leaC_len (a:LeaseV):(leaC a).length=10:=rfl
theorem leaC_one (a:LeaseV):∀ u∈leaC a,u.oneCell'=true:=by
 intro u hu
 simp only [leaC,List.mem_cons,List.not_mem_nil,or_false] at hu
 rcases hu with rfl | rfl | rfl | rfl | rfl | rfl | rfl | rfl | rfl | rfl <;> rfl
theorem leas_one (ls:List LeaseV):∀ u∈rowsOf leaC ls,u.oneCell'=true:=rowsOf_one' leaC_one ls
namespace CA
end CA
namespace CL
set_option maxHeartbeats 4000000 in
theorem cloneNil (w:World):Calls Tryz.prog 92 #[.slice none 0 0] w fun e w'=>e=.returned (.slice none 0 0)∧Since w w':=by
 go_enter Tryz.func92,Tryz.ntmps92
 go_upto_region 1 with fail
 have HS1:=Lib.hid (Since.refl w)
 refine wp_region_lit ?_
 refine tkL (.slice none 0 0) (h:=?_)
 (try simp only [Act.put,sA,sB,sC])
 refine tkL (.bool true) (h:=?_)
 (try simp only [Act.put,sA,sB,sC])
 refine wpList_nil ?_
 go_upto_region 2 with fail
 refine wp_region_lit ?_
 refine tkL (.slice none 0 0) (h:=?_)
 (try simp only [Act.put,sA,sB,sC])
 refine wpList_nil ?_
 (try go_wp2_with fail)
 go_ret
 exact ⟨rfl,HS1.out⟩
set_option maxHeartbeats 4000000 in
theorem cloneSome (ad:Addr) (n c:Nat) (ls:List LeaseV) (w:World) (hR:Reads w w.heap.size 10 (some ad) n (rowsOf leaC ls)) (hN:n≤1000000):Calls Tryz.prog 92 #[.slice (some ad) n c] w fun e w'=>∃ A' c',e=.returned (.slice A' n c')∧w'.ownsRow w.heap.size 176 10 (.slice A' n c') n (rowsOf leaC ls)∧Since w w':=by
 have HR:=Lib.hid hR
 clear hR
 have HN:=Lib.hid hN
 clear hN
 go_enter Tryz.func92,Tryz.ntmps92
 go_upto_region 1 with fail
 have HS1:=Lib.hid (Since.refl w)
 refine wp_region_lit ?_
 refine tkL (.slice (some ad) n c) (h:=?_)
 (try simp only [Act.put,sA,sB,sC])
 refine tkL (.bool false) (h:=?_)
 (try simp only [Act.put,sA,sB,sC])
 refine wpList_nil ?_
 go_upto_region 3 with fail
 refine wp_region_lit ?_
 refine wpList_wp (by rfl) (fun K hK=>?_)
 refine wp_new (fun b=>.slice (some ⟨b,0,none⟩) 0 0) 176 #[] (by rintro b rfl; first | rfl | kernel_rfl) ?_
 intro bn5 w2 hge hB hb
 refine hK.out _ _ ?_
 clear hK K
 (try simp only [Act.put,sA,sB,sC])
 have HGn5:=Lib.hid (show w.heap.size≤bn5 by have:=Since.size HS1.out; omega)
 have HS2:=Lib.hid (Since.trans HS1.out hb)
 clear HS1 
 clear hb hge
 have HBn52:=Lib.hid hB
 clear hB
 refine tkL (.slice (some ad) n c) (h:=?_)
 (try simp only [Act.put,sA,sB,sC])
 refine wpList_wp (by rfl) (fun K hK=>?_)
 have HOE:=Lib.hid (own_empty (e:=176) (size:=10) HBn52.out HGn5.out)
 clear HBn52
 refine wp_append_row (.tmp 5) (.tmp 6) 99 rfl w.heap.size 176 (Value.agg #[.int .i64 0,.int .i64 0,.int .i64 0,.int .i64 0,.int .i64 0,.int .i64 0,.int .i64 0,.int .i64 0,.int .i64 0,.int .i64 0]) 10 80 Tryz.underlying99 (by kernel_rfl) rfl (by decide) (by decide) (some ⟨bn5,0,none⟩) 0 0 ([]) rfl HOE.out _ (some ad) n c (rowsOf leaC ls) rfl (own_reads_since HS2.out (Nat.le_refl _) HR.out) (leas_one ls) (by have:=HN.out; omega) HS2.out.size n (rowsOf leaC ls) (Nat.zero_add _) rfl ?_
 intro A_1 c_1 w3 hown hupd hfar
 refine hK.out _ _ ?_
 clear hK K
 (try simp only [Act.put,sA,sB,sC])
 have HS3:=Lib.hid (Since.upd HS2.out hupd (own_low HOE.out))
 have HFr3:=Lib.hid hown
 clear hupd hown hfar HS2 HOE
 refine tkL (.slice A_1 n c_1) (h:=?_)
 (try simp only [Act.put,sA,sB,sC])
 refine wpList_nil ?_
 (try go_wp2_with fail)
 go_ret
 exact ⟨A_1,c_1,rfl,HFr3.out,HS3.out⟩
theorem cloneT (lo:Nat) (A:Option Addr) (c:Nat) (ls:List LeaseV) (w:World) (hO:w.ownsRow lo 176 10 (.slice A ls.length c) ls.length (rowsOf leaC ls)) (hl:ls.length≤1000000):Calls Tryz.prog 92 #[.slice A ls.length c] w fun e w'=>∃ A' c',e=.returned (.slice A' ls.length c')∧w'.ownsRow w.heap.size 176 10 (.slice A' ls.length c') ls.length (rowsOf leaC ls)∧Since w w':=by
 rcases own_at hO with ⟨rfl,h0,hx⟩ | ⟨g,cur,rfl,_⟩
 ·have hc:c=0:=by
   rcases hO.2 with ⟨hv,_⟩ | ⟨_,_,_,hv,_⟩
   ·simp at hv; exact hv.2
   ·simp at hv
  subst hc
  rw [hx,h0]
  refine (cloneNil w).mono ?_
  rintro e w1 ⟨rfl,hb⟩
  exact ⟨none,0,rfl,World.ownsRow_nil _ _ _ _,hb⟩
 ·exact cloneSome _ _ c ls w (own_reads hO) hl
end CL
end Qu
namespace Qu
open Go.RowKit Ba Mem En Go.Proofs.YtnoehplnmdajnaaGreatDoor.Ty
set_option maxRecDepth 100000
attribute [local irreducible] Go.Calls
def qO (lo q:Nat) (room:Int) (ls:List AskV) (S:List Nat) (rw:Bool):Asr:=⟨S,rw,QO lo q room ls S,fun k h hs=>hs.upd k h,fun h=>h.lt⟩
theorem QO.base {lo lo' q:Nat} {room:Int} {ls:List AskV} {S:List Nat} {w:World} (h:QO lo q room ls S w) (hb:lo'≤lo):QO lo' q room ls S w:=by
 obtain ⟨h0,A,c,rfl,B,O⟩:=h
 exact ⟨by omega,A,c,rfl,B,own_base O hb⟩
theorem newT (room:Int) (w:World):Calls Tryz.prog 51 #[.int .i64 room] w fun e w'=>∃ q,e=.returned (.pointer (some ⟨q,0,none⟩))∧QO w.heap.size q (btw room 0 64) [] [q] w'∧Since w w':=by
 refine ent tab_ok [.i .i64 room] Tryz.func51 Tryz.ntmps51 rfl rfl ?_
 repeat' ((conv=>whnf); first | refine sgo ⟨tab_ok⟩ ?_|refine br_not ?_|refine br_t rfl ?_|refine br_f rfl ?_|refine br_t (by assumption) ?_|refine br_f (by assumption) ?_|refine br_t (decide_eq_true (by assumption)) ?_|refine br_f (decide_eq_false (by assumption)) ?_|refine br_t (beq_iff_eq.2 (by assumption)) ?_|refine br_f (beq_eq_false_iff_ne.2 (by assumption)) ?_|intro b | refine drA ⟨tab_ok⟩ [] ?_|refine kpt ?_|refine br_dec (fun h=>?_) (fun h=>?_)|refine br_eq (fun h=>?_) (fun h=>?_)|refine br_b (fun h=>?_) (fun h=>?_)|refine fin_s ?_|refine fin_r ?_ ?_|refine fin_e ?_ ?_)
 all_goals (conv=>whnf)
 refine fin fun w' hH=>⟨_,rfl,⟨?_,none,0,rfl, ?_,World.ownsRow_nil _ _ _ _⟩,hH.upd.since⟩
 ·rcases (hH.wf 0 _ rfl rfl).2.2 rfl with h | h
  ·cases h
  ·exact h
 ·have q:=hH.row 0 _ rfl rfl
  rw [rowA_nil rfl rfl] at q
  rw [show btw room 0 64=(if 64 < (if room < 0 then 0 else room) then 64 else (if room < 0 then 0 else room)) by unfold btw; repeat' split <;> omega]
  exact q
end Qu
namespace Tm
end Tm
namespace Tw
open Go.RowKit Ba En Tm
set_option maxRecDepth 100000
attribute [local irreducible] Go.Calls
end Tw
namespace Ri
open Go.RowKit Ba Mo Go.Proofs.YtnoehplnmdajnaaGreatDoor.Ty Mem Tm Tw En
open Ce (ms)
set_option maxRecDepth 100000
structure MsgV where
 ki:Int
 a:Int
 b:Int
 c:Int
attribute [local irreducible] Go.Calls lvB ms
end Ri
namespace Fl
open Go.RowKit Ba Mem En Go.Proofs.YtnoehplnmdajnaaGreatDoor.Ty Mo
open Qu (leaC leaC_len leaC_one leas_one btw)
open Ce (ms)
set_option maxRecDepth 100000
attribute [local irreducible] Go.Calls
def leaE:Ek LeaseV:=⟨176,10,leaC,leaC_len,leaC_one⟩
def belB (n m:Int):Bool:=decide (0≤n) && decide (n < m)
def mayB (c:CfgV) (a:AskV):Bool:=belB a.se (btw c.se 1 64) && belB a.fl (btw c.ft 1 8) && belB a.fm (fl c.fl) && belB a.to (fl c.fl) && (a.fm != a.to) && decide (1≤a.ma) && decide (a.ma≤ms c.lo)
attribute [local irreducible] belB btw ms
end Fl
namespace Le
open Go.RowKit Ba Mem En Go.Proofs.YtnoehplnmdajnaaGreatDoor.Ty Mo
open Qu (leaC leaC_len leaC_one leas_one btw)
open Fl (leaE mayB)
set_option maxRecDepth 100000
attribute [local irreducible] Go.Calls
def zeroL:LeaseV:=⟨0,0,0,0,0,0,0,0,0,0⟩
def askOf (l:LeaseV):AskV:=⟨l.se,l.fl,l.fm,l.to,l.ma⟩
def tabC (c:CfgV) (v:Value):Array Value:=#[.int .i64 c.ca,.int .i64 c.fl,.int .i64 c.ft,.int .i64 c.se,.int .i64 c.dr,.int .i64 c.dw,.int .i64 c.ho,.int .i64 c.re,.int .i64 c.yi,.int .i64 c.qu,.int .i64 c.qo,.int .i64 c.lo,.int .i64 c.sl,.int .i64 c.rt,.int .i64 c.cp,.int .i64 c.tr,.int .i64 c.de,.int .i64 c.wi,v]
def tabS (c:CfgV) (v:SV):List SV:=[.i .i64 c.ca,.i .i64 c.fl,.i .i64 c.ft,.i .i64 c.se,.i .i64 c.dr,.i .i64 c.dw,.i .i64 c.ho,.i .i64 c.re,.i .i64 c.yi,.i .i64 c.qu,.i .i64 c.qo,.i .i64 c.lo,.i .i64 c.sl,.i .i64 c.rt,.i .i64 c.cp,.i .i64 c.tr,.i .i64 c.de,.i .i64 c.wi,v]
def TO (lo t:Nat) (c:CfgV) (ls:List LeaseV) (S:List Nat) (w:World):Prop :=
 lo≤t∧∃ A cap,S=t::blkOf A∧Blk w t 143 (tabC c (.slice A ls.length cap))∧leaE.At lo A ls.length cap ls w
section
variable {w w':World} {lo t b:Nat} {c:CfgV} {ls:List LeaseV} {S T:List Nat}
theorem TO.upd (k:Upd T w w') (h:TO lo t c ls S w) (hT:∀ g∈S,g∉T):TO lo t c ls S w':=by
 obtain ⟨h0,A,cap,rfl,B,O⟩:=h
 exact ⟨h0,A,cap,rfl,k.blk B (hT _ (by simp)),k.own O (fun g hg=>hT g (by simp [hg]))⟩
theorem TO.low (h:TO lo t c ls S w):∀ g∈S,lo≤g:=by
 obtain ⟨h0,A,cap,rfl,B,O⟩:=h
 intro g hg
 rcases List.mem_cons.1 hg with rfl | hg
 ·exact h0
 ·exact own_low O g hg
theorem TO.lt (h:TO lo t c ls S w):∀ g∈S,g < w.heap.size:=by
 obtain ⟨h0,A,cap,rfl,B,O⟩:=h
 intro g hg
 rcases List.mem_cons.1 hg with rfl | hg
 ·exact B.lt
 ·exact own_lt O g hg
theorem TO.base {lo':Nat} (h:TO lo t c ls S w) (hb:lo'≤lo):TO lo' t c ls S w:=by
 obtain ⟨h0,A,cap,rfl,B,O⟩:=h
 exact ⟨by omega,A,cap,rfl,B,own_base O hb⟩
end
def tO (lo t:Nat) (c:CfgV) (ls:List LeaseV) (S:List Nat) (rw:Bool):Asr:=⟨S,rw,TO lo t c ls S,fun k h hs=>hs.upd k h,fun h=>h.lt⟩
theorem hold_tr {t lo cap n:Nat} {c:CfgV} {ls:List LeaseV} {A:Option Addr} {w:World} (hq:Blk w t 143 (tabC c (.slice A ls.length cap))) (ho:leaE.At lo A ls.length cap ls w):Hold ⟨Tryz.prog,tab,[],w,n,[]⟩ [⟨t,143,true,0,[],tabS c (.v (.slice A ls.length cap)),[],false⟩] [rwO leaE lo A ls.length cap ls false] w :=
 Hold.addObj (hold_q (S:=[]) (tabS c (.v (.slice A ls.length cap))) hq) (rwO leaE lo A ls.length cap ls false) ho (by intro k; cases k) (by intro r hr _; rw [List.mem_singleton] at hr; subst hr; exact own_ne_ty ho hq (by decide)) (by intro A hA; cases hA)
theorem newT (c:CfgV) (w:World):Calls Tryz.prog 52 #[.agg #[.int .i64 c.ca,.int .i64 c.fl,.int .i64 c.ft,.int .i64 c.se,.int .i64 c.dr,.int .i64 c.dw,.int .i64 c.ho,.int .i64 c.re,.int .i64 c.yi,.int .i64 c.qu,.int .i64 c.qo,.int .i64 c.lo,.int .i64 c.sl,.int .i64 c.rt,.int .i64 c.cp,.int .i64 c.tr,.int .i64 c.de,.int .i64 c.wi]] w fun e w'=>∃ t,e=.returned (.pointer (some ⟨t,0,none⟩))∧TO w.heap.size t c [] [t] w'∧Since w w':=by
 refine ent tab_ok [.a [.i .i64 c.ca,.i .i64 c.fl,.i .i64 c.ft,.i .i64 c.se,.i .i64 c.dr,.i .i64 c.dw,.i .i64 c.ho,.i .i64 c.re,.i .i64 c.yi,.i .i64 c.qu,.i .i64 c.qo,.i .i64 c.lo,.i .i64 c.sl,.i .i64 c.rt,.i .i64 c.cp,.i .i64 c.tr,.i .i64 c.de,.i .i64 c.wi]] Tryz.func52 Tryz.ntmps52 rfl rfl ?_
 repeat' ((conv=>whnf); first | refine sgo ⟨tab_ok⟩ ?_|refine br_not ?_|refine br_t rfl ?_|refine br_f rfl ?_|refine br_t (by assumption) ?_|refine br_f (by assumption) ?_|refine br_t (decide_eq_true (by assumption)) ?_|refine br_f (decide_eq_false (by assumption)) ?_|refine br_t (beq_iff_eq.2 (by assumption)) ?_|refine br_f (beq_eq_false_iff_ne.2 (by assumption)) ?_|intro b | refine drA ⟨tab_ok⟩ [] ?_|refine kpt ?_|refine br_dec (fun h=>?_) (fun h=>?_)|refine br_eq (fun h=>?_) (fun h=>?_)|refine br_b (fun h=>?_) (fun h=>?_)|refine fin_s ?_|refine fin_r ?_ ?_|refine fin_e ?_ ?_)
 all_goals (conv=>whnf)
 refine fin fun w' hH=>⟨_,rfl,⟨?_,none,0,rfl, ?_,World.ownsRow_nil _ _ _ _⟩,hH.upd.since⟩
 ·rcases (hH.wf 1 _ rfl rfl).2.2 rfl with h | h
  ·cases h
  ·exact h
 ·have q:=hH.row 1 _ rfl rfl
  rw [rowA_nil rfl rfl] at q
  exact q
def goodB (c:CfgV) (l:LeaseV):Bool:=mayB c (askOf l) && decide (0≤l.ca) && decide (l.ca < 8) && decide (1≤l.ph) && decide (l.ph≤4)
def isS (s:Int) (l:LeaseV):Bool:=l.se == s
def isT (x l:LeaseV):Bool:=l.se == x.se && l.ca == x.ca && l.fl == x.fl
def atP (ls:List LeaseV) (p:LeaseV→Bool):Option Nat:=ls.findIdx? p
def oI (y:Option Nat):Int:=match y with | some k=>(k:Int)|none => -1
attribute [local irreducible] mayB
attribute [local irreducible] atP oI goodB
section
variable {t lo cap:Nat} {c:CfgV} {ls:List LeaseV} {A:Option Addr} (w:World) (hq:Blk w t 143 (tabC c (.slice A ls.length cap))) (ho:leaE.At lo A ls.length cap ls w) (hl:ls.length≤10000)
include hq ho hl
end
def atV (ls:List LeaseV) (y:Option Nat):LeaseV:=match y with | some k=>ls.getD k zeroL | none=>zeroL
def ofL (ls:List LeaseV) (s:Int):LeaseV:=atV ls (atP ls (isS s))
def hasL (ls:List LeaseV) (s:Int):Bool:=(atP ls (isS s)).isSome
theorem oI_some (k:Nat):oI (some k)=(k:Int):=by unfold oI; rfl
theorem oI_none:oI none = -1:=by unfold oI; rfl
attribute [local irreducible] atV
theorem listT {t lo cap:Nat} {c:CfgV} {ls:List LeaseV} {A:Option Addr} (w:World) (hq:Blk w t 143 (tabC c (.slice A ls.length cap))) (ho:leaE.At lo A ls.length cap ls w) (hl:ls.length≤10000) :
  Calls Tryz.prog 63 #[.pointer (some ⟨t,0,none⟩)] w fun e w'=>∃ A' c',e=.returned (.slice A' ls.length c')∧leaE.At w.heap.size A' ls.length c' ls w'∧Since w w':=by
 refine entH tab_ok (hold_tr hq ho) [.p 0 0] Tryz.func63 Tryz.ntmps63 rfl rfl ?_
 repeat' ((conv=>whnf); first | refine sgo ⟨tab_ok⟩ ?_|refine br_not ?_|refine br_t rfl ?_|refine br_f rfl ?_|refine br_t (by assumption) ?_|refine br_f (by assumption) ?_|refine br_t (decide_eq_true (by assumption)) ?_|refine br_f (decide_eq_false (by assumption)) ?_|refine br_t (beq_iff_eq.2 (by assumption)) ?_|refine br_f (beq_eq_false_iff_ne.2 (by assumption)) ?_|intro b | refine drA ⟨tab_ok⟩ [] ?_|refine kpt ?_|refine callN (f:=92) (ι:={x:Nat×Option Addr×Nat // w.heap.size≤x.1}) (fun x=>.v (.slice x.1.2.1 ls.length x.1.2.2)) (fun x=>rwO leaE x.1.1 x.1.2.1 ls.length x.1.2.2 ls true) (fun w1 hH=>(Qu.CL.cloneT lo A cap ls w1 (hH.obj (rwO leaE lo A ls.length cap ls false) (List.mem_singleton.2 rfl)) (by omega)).mono (by rintro e w' ⟨A',c',rfl,hO,hs⟩; exact ⟨⟨(w1.heap.size,A',c'),hH.upd.size⟩,rfl,hO,hs,own_low hO⟩)) (fun x=>?_)|refine fin fun w' hH=>⟨_,_,rfl,own_base (hH.obj (rwO leaE _ _ _ _ _ true) (List.mem_cons_of_mem _ (List.mem_cons_self ..))) x.2,hH.upd.since⟩|refine fin_s ?_|refine fin_r ?_ ?_|refine fin_e ?_ ?_)
def setL (c:CfgV) (ls:List LeaseV) (x:LeaseV):List LeaseV:=if goodB c x=true then (match atP ls (isT x) with | some k=>ls.set k x | none=>ls) else ls
def endL (ls:List LeaseV) (s:Int):List LeaseV:=match atP ls (isS s) with | some k=>ls.eraseIdx k | none=>ls
end Le
namespace Gr
open Go.RowKit Ba Mem En Mo Go.Proofs.YtnoehplnmdajnaaGreatDoor.Ty Go.Proofs.YtnoehplnmdajnaaGreatDoor.St
open Ct (cfgA carA)
open Et (carsO)
set_option maxRecDepth 100000
theorem fin_gn {lo q n n1 n2 c1 c2:Nat} {G:GrV} {A1 A2:Option Addr} {S:List Nat} {w:World} {V:Value} {v:SV} {fr:List (Nat×SV)} {cs:List SV} {ls:List CarV} {ws:List WaitV} {rest:List Row} {obr:List Asr} {st:St}
  (hst:st=⟨fr,⟨q,138,true,0,[],cs,[],true⟩::rest,carsO lo A1 n1 c1 ls true::waitsO lo A2 n2 c2 ws true::obr⟩)
  (hv:∀ m,den m v=V) (h0:lo≤q) (h1:n1=G.cars.length) (h2:n2=G.waits.length) (h3:ls=G.cars) (h4:ws=G.waits) (hcs:∀ m,(denL m cs).toArray=grpA G (.slice A1 n1 c1) (.slice A2 n2 c2)) :
  Fin ⟨Tryz.prog,tab,S,w,n,[]⟩ (fun e w'=>e=.returned V∧∃ S',GO lo q G S' w'∧Upd S w w'∧∀ g∈S',g∈S∨w.heap.size≤g) v st:=by
 subst hst h1 h2 h3 h4
 refine fin fun w' hH=>?_
 have oc:carsO lo A1 G.cars.length c1 G.cars true∈carsO lo A1 G.cars.length c1 G.cars true::waitsO lo A2 G.waits.length c2 G.waits true::obr:=List.mem_cons_self ..
 have ow:waitsO lo A2 G.waits.length c2 G.waits true∈carsO lo A1 G.cars.length c1 G.cars true::waitsO lo A2 G.waits.length c2 G.waits true::obr:=List.mem_cons_of_mem _ (List.mem_cons_self ..)
 refine ⟨by rw [hv],_,⟨h0,A1,c1,A2,c2,rfl, ?_,hH.obj _ oc,hH.obj _ ow⟩,hH.upd,fun g hg=>?_⟩
 ·have:=hH.row 0 _ rfl rfl
  rw [rowA_nil rfl rfl] at this
  rw [← hcs]; exact this
 ·rcases List.mem_cons.1 hg with rfl | hg
  ·exact (hH.wf 0 _ rfl rfl).2.2 rfl
  ·exact (List.mem_append.1 hg).elim (hH.own _ oc rfl g) (hH.own _ ow rfl g)
attribute [local irreducible] Go.Calls hasC atP oI
def hallR (G:GrV) (f wy:Int):GrV×Int:=if hasC G.c f wy=true then (if atP G.waits (isW f wy)=none then ({ G with waits:=G.waits++[⟨f,wy,-1,G.now⟩] },0) else (G,0)) else (G,1)
theorem oI_some (k:Nat):oI (some k)=(k:Int):=by unfold oI; rfl
theorem oI_none:oI none = -1:=by unfold oI; rfl
theorem hallG {lo q:Nat} {G:GrV} {S:List Nat} {w:World} (hg:GO lo q G S w) (hl:G.waits.length≤10000) (f wy:Int):Calls Tryz.prog 85 #[.pointer (some ⟨q,0,none⟩),.int .i64 f,.int .i64 wy] w fun e w'=>e=.returned (.int .i64 (hallR G f wy).2)∧∃ S',GO lo q (hallR G f wy).1 S' w'∧Upd S w w'∧∀ g∈S',g∈S∨w.heap.size≤g:=by
 obtain ⟨A1,c1,A2,c2,h0,hS,hH⟩:=hold_go (n:=_) hg
 unfold hallR
 cases hC:hasC G.c f wy with
 | false =>
  rw [if_neg (by decide)]
  refine entH tab_ok (hH) [.p 0 0,.i .i64 f,.i .i64 wy] Tryz.func85 Tryz.ntmps85 rfl rfl ?_
  repeat' ((conv=>whnf); first | refine sgo ⟨tab_ok⟩ ?_|refine br_not ?_|refine br_t rfl ?_|refine br_f rfl ?_|refine br_t (by assumption) ?_|refine br_f (by assumption) ?_|refine br_t (decide_eq_true (by assumption)) ?_|refine br_f (decide_eq_false (by assumption)) ?_|refine br_t (beq_iff_eq.2 (by assumption)) ?_|refine br_f (beq_eq_false_iff_ne.2 (by assumption)) ?_|intro b | refine drA ⟨tab_ok⟩ [] ?_|refine kpt ?_|refine callH (f:=130) (.b (hasC G.c f wy)) (fun w hH=>hasCT q G _ _ f wy w (hH.row 0 _ rfl rfl)) ?_|refine fin_gn (by rfl) (by intro m; rfl) h0 (by rfl) (by rfl) (by rfl) (by rfl) (by intro m; rfl)|refine fin_s ?_|refine fin_r ?_ ?_|refine fin_e ?_ ?_)
 | true =>
  rw [if_pos rfl]
  cases hP:atP G.waits (isW f wy) with
  | some k =>
   rw [if_neg (by intro h; cases h)]
   have ho:oI (atP G.waits (isW f wy))=(k:Int):=by rw [hP,oI_some]
   refine entH tab_ok (hH) [.p 0 0,.i .i64 f,.i .i64 wy] Tryz.func85 Tryz.ntmps85 rfl rfl ?_
   repeat' ((conv=>whnf); first | refine sgo ⟨tab_ok⟩ ?_|refine br_not ?_|refine br_t rfl ?_|refine br_f rfl ?_|refine br_t (by assumption) ?_|refine br_f (by assumption) ?_|refine br_t (decide_eq_true (by assumption)) ?_|refine br_f (decide_eq_false (by assumption)) ?_|refine br_t (beq_iff_eq.2 (by assumption)) ?_|refine br_f (beq_eq_false_iff_ne.2 (by assumption)) ?_|intro b | refine drA ⟨tab_ok⟩ [] ?_|refine kpt ?_|refine br_t (decide_eq_true (by omega)) ?_|refine br_f (decide_eq_false (by omega)) ?_|refine callH (f:=130) (.b (hasC G.c f wy)) (fun w hH=>hasCT q G _ _ f wy w (hH.row 0 _ rfl rfl)) ?_|refine callH (f:=131) (.i .i64 (oI (atP G.waits (isW f wy)))) (fun w hH=>findT lo q G _ A2 c2 f wy w (hH.row 0 _ rfl rfl) (hH.obj (waitsO lo A2 _ c2 G.waits true) (List.mem_cons_of_mem _ (List.mem_cons_self ..))) (by omega)) ?_|refine fin_gn (by rfl) (by intro m; rfl) h0 (by rfl) (by rfl) (by rfl) (by rfl) (by intro m; rfl)|refine fin_s ?_|refine fin_r ?_ ?_|refine fin_e ?_ ?_)
  | none =>
   rw [if_pos rfl]
   have ho:oI (atP G.waits (isW f wy)) = -1:=by rw [hP,oI_none]
   refine entH tab_ok (hH) [.p 0 0,.i .i64 f,.i .i64 wy] Tryz.func85 Tryz.ntmps85 rfl rfl ?_
   repeat' ((conv=>whnf); first | refine sgo ⟨tab_ok⟩ ?_|refine br_not ?_|refine br_t rfl ?_|refine br_f rfl ?_|refine br_t (by assumption) ?_|refine br_f (by assumption) ?_|refine br_t (decide_eq_true (by assumption)) ?_|refine br_f (decide_eq_false (by assumption)) ?_|refine br_t (beq_iff_eq.2 (by assumption)) ?_|refine br_f (beq_eq_false_iff_ne.2 (by assumption)) ?_|intro b | refine drA ⟨tab_ok⟩ [] ?_|refine kpt ?_|refine br_t (decide_eq_true (by omega)) ?_|refine br_f (decide_eq_false (by omega)) ?_|refine callH (f:=130) (.b (hasC G.c f wy)) (fun w hH=>hasCT q G _ _ f wy w (hH.row 0 _ rfl rfl)) ?_|refine callH (f:=131) (.i .i64 (oI (atP G.waits (isW f wy)))) (fun w hH=>findT lo q G _ A2 c2 f wy w (hH.row 0 _ rfl rfl) (hH.obj (waitsO lo A2 _ c2 G.waits true) (List.mem_cons_of_mem _ (List.mem_cons_self ..))) (by omega)) ?_|refine opb1 (e:=220) ⟨tab_ok⟩ [.i .i64 f,.i .i64 wy,.i .i64 (-1),.i .i64 G.now] (by rfl) (by rfl) ?_|refine opap 1 2 (e:=220) (lo:=lo) (size:=4) (bytes:=32) (z:=.agg #[.int .i64 0,.int .i64 0,.int .i64 0,.int .i64 0]) (A:=waitsO lo A2 G.waits.length c2 G.waits true) (vals:=rowsOf waitL G.waits) (cells:=waitL (⟨f,wy,-1,G.now⟩:WaitV)) (zs:=rowsOf waitL (G.waits++[(⟨f,wy,-1,G.now⟩:WaitV)])) (n2:=G.waits.length+1) (fun A' c'=>waitsO lo A' (G.waits.length+1) c' (G.waits++[(⟨f,wy,-1,G.now⟩:WaitV)]) true) (by rfl) (by rfl) (by rfl) (by rfl) rfl rfl (fun w h=>h) (fun A' c' w h=>h) (fun _ _=>rfl) (by rfl) (by rfl) (by rfl) (by rfl) Tryz.underlying136 (by kernel_rfl) rfl (by decide) (by decide) (waitL_one _) (by omega) (fun w hH=>by have h:q < w.heap.size:=(hH.row 0 _ rfl rfl).lt; omega) rfl (by rw [rowsOf_append,rowsOf_one]) (fun A' c'=>?_)|refine fin_gn (by rfl) (by intro m; rfl) h0 (by rfl) (by simp) (by rfl) (by rfl) (by intro m; simp [denL,den,grpA])|refine fin_s ?_|refine fin_r ?_ ?_|refine fin_e ?_ ?_)
end Gr
namespace Gr
open Go.RowKit Ba Mem En Mo Go.Proofs.YtnoehplnmdajnaaGreatDoor.Ty Go.Proofs.YtnoehplnmdajnaaGreatDoor.St
open Ct (cfgA carA)
open Et (carsO)
set_option maxRecDepth 100000
attribute [local irreducible] Go.Calls
def hallX (a:WaitV) (x:CarV):CarV:={ x with su:=haU x.su a.fl a.wy,sd:=haD x.sd a.fl a.wy }
end Gr
namespace Gr
open Go.RowKit Ba Mem Go.Proofs.YtnoehplnmdajnaaGreatDoor.Ty Mo Go.Proofs.YtnoehplnmdajnaaGreatDoor.St
open Ct (cfgA carA)
def okW (a:WaitV):Prop:=(0≤a.fl∧a.fl≤63)∧1≤a.wy∧a.wy≤2
end Gr
namespace Gr
open Go.RowKit Ba Mem En Mo Go.Proofs.YtnoehplnmdajnaaGreatDoor.Ty Go.Proofs.YtnoehplnmdajnaaGreatDoor.St
open Ct (cfgA carA)
open Et (carsO)
set_option maxRecDepth 100000
attribute [local irreducible] Go.Calls
end Gr
namespace Gr
open Go.RowKit Ba Mem En Mo Go.Proofs.YtnoehplnmdajnaaGreatDoor.Ty Go.Proofs.YtnoehplnmdajnaaGreatDoor.St
open Ct (cfgA carA)
open Et (carsO)
set_option maxRecDepth 100000
attribute [local irreducible] Go.Calls
attribute [local irreducible] atP oI
end Gr
end Go.Proofs.YtnoehplnmdajnaaGreatDoor
