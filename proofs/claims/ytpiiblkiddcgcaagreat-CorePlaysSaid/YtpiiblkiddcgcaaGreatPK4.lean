/-
  Wanted: part 4.
  No condition.
-/
import Derived.Test.YtpiiblkiddcgcaaGreatProg
import Derived.Test.YtpiiblkiddcgcaaGreatPK1
import Derived.Test.YtpiiblkiddcgcaaGreatPK3
import Derived.Test.YtpiiblkiddcgcaaGreatPK2
import Derived.WalkKit
import Derived.Laws.BitsAllLaws
import Derived.Test.YtpiiblkiddcgcaaGreatRows
import Derived.Test.YtpiiblkiddcgcaaGreatPK0
import Derived.IntWalk
import Derived.Laws.Bits128
set_option linter.all false
namespace Go.Proofs.YtpiiblkiddcgcaaGreat
namespace En
open Go.RowKit
set_option maxRecDepth 100000
def tab:Tab:=[
 (2,⟨false,1,[.i .i64 0],[],false,0,some .i64,[],false⟩),
 (3,⟨false,1,[.i .i64 0],[],false,0,some .i64,[],false⟩),
 (4,⟨false,1,[(.b false)],[],false,0,none,[false],false⟩),
 (5,⟨false,1,[(.i .u8 0)],[],false,0,some .u8,[],false⟩),
 (6,⟨false,1,[(.i .u8 0)],[],false,0,some .u8,[],false⟩),
 (7,⟨true,4,[.i .i64 0,.i .i64 0,(.b false),(.i .u8 0)],[(0,1,false),(1,1,false),(2,1,false),(3,1,false)],false,0,none,[true,true,false,true],false⟩),
 (8,⟨true,4,[.i .i64 0,.i .i64 0,(.b false),(.i .u8 0)],[(0,1,false),(1,1,false),(2,1,false),(3,1,false)],false,0,none,[true,true,false,true],false⟩),
 (9,⟨false,1,[(.v (.string ByteArray.empty))],[],false,0,none,[],false⟩),
 (10,⟨false,1,[(.v (.string ByteArray.empty))],[],false,0,none,[],false⟩),
 (11,⟨false,1,[(.v (.string ByteArray.empty))],[],false,0,none,[],false⟩),
 (12,⟨false,1,[(.i .u64 0)],[],false,0,some .u64,[],false⟩),
 (13,⟨true,2,[(.v (.string ByteArray.empty)),(.i .u64 0)],[(0,1,false),(1,1,false)],false,0,none,[],false⟩),
 (14,⟨true,2,[(.v (.string ByteArray.empty)),(.i .u64 0)],[(0,1,false),(1,1,false)],false,0,none,[],false⟩),
 (15,⟨false,1,[(.v (.pointer none))],[],false,0,none,[],true⟩),
 (16,⟨false,1,[(.v (.pointer none))],[],false,0,none,[],true⟩),
 (17,⟨false,1,[(.v (.pointer none))],[],false,0,none,[],true⟩),
 (18,⟨true,1,[(.v (.pointer none))],[(0,1,false)],false,0,none,[],false⟩),
 (19,⟨true,1,[(.v (.pointer none))],[(0,1,false)],false,0,none,[],false⟩),
 (21,⟨false,1,[(.i .i32 0)],[],false,0,some .i32,[],false⟩),
 (22,⟨true,18,List.replicate 18 (.i .i64 0),[(0,1,false),(1,1,false),(2,1,false),(3,1,false),(4,1,false),(5,1,false),(6,1,false),(7,1,false),(8,1,false),(9,1,false),(10,1,false),(11,1,false),(12,1,false),(13,1,false),(14,1,false),(15,1,false),(16,1,false),(17,1,false)],false,0,none,[true,true,true,true,true,true,true,true,true,true,true,true,true,true,true,true,true,true],false⟩),
 (23,⟨true,18,List.replicate 18 (.i .i64 0),[(0,1,false),(1,1,false),(2,1,false),(3,1,false),(4,1,false),(5,1,false),(6,1,false),(7,1,false),(8,1,false),(9,1,false),(10,1,false),(11,1,false),(12,1,false),(13,1,false),(14,1,false),(15,1,false),(16,1,false),(17,1,false)],false,0,none,[true,true,true,true,true,true,true,true,true,true,true,true,true,true,true,true,true,true],false⟩),
 (24,⟨false,1,[(.v (.slice none 0 0))],[],true,30,none,[],false⟩),
 (25,⟨false,1,[(.v (.pointer none))],[],false,0,none,[],true⟩),
 (27,⟨false,1,[(.v (.pointer none))],[],false,0,none,[],true⟩),
 (29,⟨true,4,[.i .i64 0,.i .i64 0,.i .i64 0,(.b false)],[(0,1,false),(1,1,false),(2,1,false),(3,1,false)],false,0,none,[true,true,true,false],false⟩),
 (30,⟨true,4,[.i .i64 0,.i .i64 0,.i .i64 0,(.b false)],[(0,1,false),(1,1,false),(2,1,false),(3,1,false)],false,0,none,[true,true,true,false],false⟩),
 (32,⟨false,1,[(.v (.slice none 0 0))],[],true,76,none,[],false⟩),
 (35,⟨false,1,[.i .i64 0],[],false,0,some .i64,[],false⟩),
 (40,⟨false,1,[(.v (.slice none 0 0))],[],true,50,none,[],false⟩),
 (41,⟨false,1,[(.v (.pointer none))],[],false,0,none,[],true⟩),
 (43,⟨false,1,[(.v (.pointer none))],[],false,0,none,[],true⟩),
 (45,⟨true,5,List.replicate 5 (.i .i64 0),[(0,1,false),(1,1,false),(2,1,false),(3,1,false),(4,1,false)],false,0,none,[true,true,true,true,true],false⟩),
 (46,⟨true,5,List.replicate 5 (.i .i64 0),[(0,1,false),(1,1,false),(2,1,false),(3,1,false),(4,1,false)],false,0,none,[true,true,true,true,true],false⟩),
 (47,⟨true,4,List.replicate 4 (.i .i64 0),[(0,1,false),(1,1,false),(2,1,false),(3,1,false)],false,0,none,[true,true,true,true],false⟩),
 (48,⟨true,4,List.replicate 4 (.i .i64 0),[(0,1,false),(1,1,false),(2,1,false),(3,1,false)],false,0,none,[true,true,true,true],false⟩),
 (49,⟨true,12,List.replicate 12 (.i .i64 0),[(0,1,false),(1,1,false),(2,1,false),(3,5,true),(8,4,true)],false,0,none,[true,true,true,true,true,true,true,true,true,true,true,true],false⟩),
 (50,⟨true,12,List.replicate 12 (.i .i64 0),[(0,1,false),(1,1,false),(2,1,false),(3,5,true),(8,4,true)],false,0,none,[true,true,true,true,true,true,true,true,true,true,true,true],false⟩),
 (51,⟨false,1,[(.v (.slice none 0 0))],[],true,110,none,[],false⟩),
 (59,⟨false,1,[(.v (.slice none 0 0))],[],true,67,none,[],false⟩),
 (61,⟨true,2,[.i .i64 0,.i .i64 0],[(0,1,false),(1,1,false)],false,0,none,[true,true],false⟩),
 (62,⟨true,2,[.i .i64 0,.i .i64 0],[(0,1,false),(1,1,false)],false,0,none,[true,true],false⟩),
 (63,⟨false,1,[(.i .u64 0)],[],false,0,some .u64,[],false⟩),
 (64,⟨true,3,[(.i .u64 0),(.i .u64 0),(.i .u64 0)],[(0,1,false),(1,1,false),(2,1,false)],false,0,none,[true,true,true],false⟩),
 (65,⟨true,3,[(.i .u64 0),(.i .u64 0),(.i .u64 0)],[(0,1,false),(1,1,false),(2,1,false)],false,0,none,[true,true,true],false⟩),
 (66,⟨true,15,[.i .i64 0,.i .i64 0,.i .i64 0,.i .i64 0,.i .i64 0,.i .i64 0,.i .i64 0,(.b false),(.b false),.i .i64 0,.i .i64 0,(.b false),(.i .u64 0),(.i .u64 0),(.i .u64 0)],[(0,2,true),(2,1,false),(3,1,false),(4,1,false),(5,1,false),(6,1,false),(7,1,false),(8,1,false),(9,1,false),(10,1,false),(11,1,false),(12,3,true)],false,0,none,[true,true,true,true,true,true,true,false,false,true,true,false,true,true,true],false⟩),
 (67,⟨true,15,[.i .i64 0,.i .i64 0,.i .i64 0,.i .i64 0,.i .i64 0,.i .i64 0,.i .i64 0,(.b false),(.b false),.i .i64 0,.i .i64 0,(.b false),(.i .u64 0),(.i .u64 0),(.i .u64 0)],[(0,2,true),(2,1,false),(3,1,false),(4,1,false),(5,1,false),(6,1,false),(7,1,false),(8,1,false),(9,1,false),(10,1,false),(11,1,false),(12,3,true)],false,0,none,[true,true,true,true,true,true,true,false,false,true,true,false,true,true,true],false⟩),
 (69,⟨true,21,[.i .i64 0,.i .i64 0,.i .i64 0,.i .i64 0,.i .i64 0,.i .i64 0,.i .i64 0,.i .i64 0,.i .i64 0,.i .i64 0,.i .i64 0,.i .i64 0,.i .i64 0,.i .i64 0,.i .i64 0,.i .i64 0,.i .i64 0,.i .i64 0,(.v (.slice none 0 0)),(.v (.slice none 0 0)),.i .i64 0],[(0,18,true),(18,1,false),(19,1,false),(20,1,false)],false,0,none,[],false⟩),
 (70,⟨true,21,[.i .i64 0,.i .i64 0,.i .i64 0,.i .i64 0,.i .i64 0,.i .i64 0,.i .i64 0,.i .i64 0,.i .i64 0,.i .i64 0,.i .i64 0,.i .i64 0,.i .i64 0,.i .i64 0,.i .i64 0,.i .i64 0,.i .i64 0,.i .i64 0,(.v (.slice none 0 0)),(.v (.slice none 0 0)),.i .i64 0],[(0,18,true),(18,1,false),(19,1,false),(20,1,false)],false,0,none,[],false⟩),
 (71,⟨true,21,[.i .i64 0,.i .i64 0,.i .i64 0,.i .i64 0,.i .i64 0,.i .i64 0,.i .i64 0,.i .i64 0,.i .i64 0,.i .i64 0,.i .i64 0,.i .i64 0,.i .i64 0,.i .i64 0,.i .i64 0,.i .i64 0,.i .i64 0,.i .i64 0,(.v (.slice none 0 0)),(.v (.slice none 0 0)),.i .i64 0],[(0,18,true),(18,1,false),(19,1,false),(20,1,false)],false,0,none,[],false⟩),
 (72,⟨true,21,[.i .i64 0,.i .i64 0,.i .i64 0,.i .i64 0,.i .i64 0,.i .i64 0,.i .i64 0,.i .i64 0,.i .i64 0,.i .i64 0,.i .i64 0,.i .i64 0,.i .i64 0,.i .i64 0,.i .i64 0,.i .i64 0,.i .i64 0,.i .i64 0,(.v (.slice none 0 0)),(.v (.slice none 0 0)),.i .i64 0],[(0,18,true),(18,1,false),(19,1,false),(20,1,false)],false,0,none,[],false⟩),
 (73,⟨true,2,[.i .i64 0,.i .i64 0],[(0,1,false),(1,1,false)],false,0,none,[true,true],false⟩),
 (74,⟨true,2,[.i .i64 0,.i .i64 0],[(0,1,false),(1,1,false)],false,0,none,[true,true],false⟩),
 (75,⟨true,4,List.replicate 4 (.i .i64 0),[(0,2,true),(2,1,false),(3,1,false)],false,0,none,[true,true,true,true],false⟩),
 (76,⟨true,4,List.replicate 4 (.i .i64 0),[(0,2,true),(2,1,false),(3,1,false)],false,0,none,[true,true,true,true],false⟩),
 (89,⟨false,1,[(.v (.pointer none))],[],false,0,none,[],true⟩),
 (91,⟨false,1,[(.v (.pointer none))],[],false,0,none,[],true⟩),
 (93,⟨true,21,[.i .i64 0,.i .i64 0,.i .i64 0,.i .i64 0,.i .i64 0,.i .i64 0,.i .i64 0,.i .i64 0,.i .i64 0,.i .i64 0,.i .i64 0,.i .i64 0,.i .i64 0,.i .i64 0,.i .i64 0,.i .i64 0,.i .i64 0,.i .i64 0,(.v (.pointer none)),(.v (.pointer none)),(.v (.pointer none))],[(0,18,true),(18,1,false),(19,1,false),(20,1,false)],false,0,none,[],false⟩),
 (94,⟨true,21,[.i .i64 0,.i .i64 0,.i .i64 0,.i .i64 0,.i .i64 0,.i .i64 0,.i .i64 0,.i .i64 0,.i .i64 0,.i .i64 0,.i .i64 0,.i .i64 0,.i .i64 0,.i .i64 0,.i .i64 0,.i .i64 0,.i .i64 0,.i .i64 0,(.v (.pointer none)),(.v (.pointer none)),(.v (.pointer none))],[(0,18,true),(18,1,false),(19,1,false),(20,1,false)],false,0,none,[],false⟩),
 (95,⟨false,1,[(.v (.slice none 0 0))],[],true,46,none,[],false⟩),
 (96,⟨false,1,[(.v (.slice none 0 0))],[],true,101,none,[],false⟩),
 (97,⟨true,22,[.i .i64 0,.i .i64 0,.i .i64 0,.i .i64 0,.i .i64 0,.i .i64 0,.i .i64 0,.i .i64 0,.i .i64 0,.i .i64 0,.i .i64 0,.i .i64 0,.i .i64 0,.i .i64 0,.i .i64 0,.i .i64 0,.i .i64 0,.i .i64 0,(.v (.pointer none)),(.v (.slice none 0 0)),(.v (.slice none 0 0)),(.v (.slice none 0 0))],[(0,18,true),(18,1,false),(19,1,false),(20,1,false),(21,1,false)],false,0,none,[],false⟩),
 (98,⟨true,22,[.i .i64 0,.i .i64 0,.i .i64 0,.i .i64 0,.i .i64 0,.i .i64 0,.i .i64 0,.i .i64 0,.i .i64 0,.i .i64 0,.i .i64 0,.i .i64 0,.i .i64 0,.i .i64 0,.i .i64 0,.i .i64 0,.i .i64 0,.i .i64 0,(.v (.pointer none)),(.v (.slice none 0 0)),(.v (.slice none 0 0)),(.v (.slice none 0 0))],[(0,18,true),(18,1,false),(19,1,false),(20,1,false),(21,1,false)],false,0,none,[],false⟩),
 (100,⟨true,10,List.replicate 10 (.i .i64 0),[(0,5,true),(5,1,false),(6,1,false),(7,1,false),(8,1,false),(9,1,false)],false,0,none,[true,true,true,true,true,true,true,true,true,true],false⟩),
 (101,⟨true,10,List.replicate 10 (.i .i64 0),[(0,5,true),(5,1,false),(6,1,false),(7,1,false),(8,1,false),(9,1,false)],false,0,none,[true,true,true,true,true,true,true,true,true,true],false⟩),
 (102,⟨false,1,[(.v (.slice none 0 0))],[],true,48,none,[],false⟩),
 (109,⟨true,5,List.replicate 5 (.i .i64 0),[(0,1,false),(1,4,true)],false,0,none,[true,true,true,true,true],false⟩),
 (110,⟨true,5,List.replicate 5 (.i .i64 0),[(0,1,false),(1,4,true)],false,0,none,[true,true,true,true,true],false⟩),
 (119,⟨false,1,[(.i .u64 0)],[],false,0,some .u64,[],false⟩),
 (123,⟨false,1,[(.v (.pointer none))],[],false,0,none,[],true⟩),
 (126,⟨false,1,[(.v (.pointer none))],[],false,0,none,[],true⟩),
 (129,⟨true,3,[.i .i64 0,(.b false),(.b false)],[(0,1,false),(1,1,false),(2,1,false)],false,0,none,[true,false,false],false⟩),
 (130,⟨true,3,[.i .i64 0,(.b false),(.b false)],[(0,1,false),(1,1,false),(2,1,false)],false,0,none,[true,false,false],false⟩),
 (131,⟨true,18,[.i .i64 0,.i .i64 0,.i .i64 0,.i .i64 0,.i .i64 0,.i .i64 0,.i .i64 0,(.b false),(.b false),.i .i64 0,.i .i64 0,(.b false),(.i .u64 0),(.i .u64 0),(.i .u64 0),.i .i64 0,(.b false),(.b false)],[(0,15,true),(15,3,true)],false,0,none,[true,true,true,true,true,true,true,false,false,true,true,false,true,true,true,true,false,false],false⟩),
 (132,⟨true,18,[.i .i64 0,.i .i64 0,.i .i64 0,.i .i64 0,.i .i64 0,.i .i64 0,.i .i64 0,(.b false),(.b false),.i .i64 0,.i .i64 0,(.b false),(.i .u64 0),(.i .u64 0),(.i .u64 0),.i .i64 0,(.b false),(.b false)],[(0,15,true),(15,3,true)],false,0,none,[true,true,true,true,true,true,true,false,false,true,true,false,true,true,true,true,false,false],false⟩),
 (152,⟨true,2,[.i .i64 0,(.v (.slice none 0 0))],[(0,1,false),(1,1,false)],false,0,none,[],false⟩),
 (153,⟨true,2,[.i .i64 0,(.v (.slice none 0 0))],[(0,1,false),(1,1,false)],false,0,none,[],false⟩),
 (154,⟨true,19,[.i .i64 0,.i .i64 0,.i .i64 0,.i .i64 0,.i .i64 0,.i .i64 0,.i .i64 0,.i .i64 0,.i .i64 0,.i .i64 0,.i .i64 0,.i .i64 0,.i .i64 0,.i .i64 0,.i .i64 0,.i .i64 0,.i .i64 0,.i .i64 0,(.v (.slice none 0 0))],[(0,18,true),(18,1,false)],false,0,none,[],false⟩),
 (155,⟨true,19,[.i .i64 0,.i .i64 0,.i .i64 0,.i .i64 0,.i .i64 0,.i .i64 0,.i .i64 0,.i .i64 0,.i .i64 0,.i .i64 0,.i .i64 0,.i .i64 0,.i .i64 0,.i .i64 0,.i .i64 0,.i .i64 0,.i .i64 0,.i .i64 0,(.v (.slice none 0 0))],[(0,18,true),(18,1,false)],false,0,none,[],false⟩),
 (164,⟨false,1,[(.v (.slice none 0 0))],[],true,3,none,[],false⟩),
 (174,⟨false,1,[(.i .u32 0)],[],false,0,some .u32,[],false⟩),
 (179,⟨false,1,[(.v (.pointer none))],[],false,0,none,[],true⟩),
 (197,⟨true,4,[(.i .u64 0),(.i .u64 0),(.i .u64 0),.i .i64 0],[(0,3,true),(3,1,false)],false,0,none,[true,true,true,true],false⟩),
 (198,⟨true,4,[(.i .u64 0),(.i .u64 0),(.i .u64 0),.i .i64 0],[(0,3,true),(3,1,false)],false,0,none,[true,true,true,true],false⟩),
 (210,⟨true,4,[(.v (.pointer none)),(.v (.pointer none)),(.v (.pointer none)),(.v (.string ByteArray.empty))],[(0,1,false),(1,1,false),(2,1,false),(3,1,false)],false,0,none,[],false⟩),
 (211,⟨true,4,[(.v (.pointer none)),(.v (.pointer none)),(.v (.pointer none)),(.v (.string ByteArray.empty))],[(0,1,false),(1,1,false),(2,1,false),(3,1,false)],false,0,none,[],false⟩),
 (215,⟨false,1,[(.i .u8 0)],[],false,0,some .u8,[],false⟩),
 (216,⟨false,1,[(.i .u8 0)],[],false,0,some .u8,[],false⟩),
 (218,⟨false,1,[(.v (.pointer none))],[],false,0,none,[],true⟩),
 (219,⟨false,1,[(.i .i32 0)],[],false,0,some .i32,[],false⟩),
 (220,⟨false,1,[(.i .i32 0)],[],false,0,some .i32,[],false⟩),
 (223,⟨false,1,[(.v (.pointer none))],[],false,0,none,[],false⟩)]
theorem tab_ok:TabOk Tryz.prog tab:=by
 unfold tab
 repeat (refine TabOk.cons ⟨by kernel_rfl,by kernel_rfl⟩ ?_)
 exact TabOk.nil
end En
section
open En
structure Gq (Q:Prop):Prop where
 out:Q
theorem gs_ {P Q:Prop} (h:Q) (s:Gq Q→P:=by (intro hq; ((conv=>whnf); first | refine En.sgo ⟨En.tab_ok⟩ ?_|refine En.br_not ?_|refine bt ?_|refine bf ?_|refine En.drA ⟨En.tab_ok⟩ [] ?_|refine En.kpt ?_); (repeat ((conv=>whnf); first | refine En.sgo ⟨En.tab_ok⟩ ?_|refine En.br_not ?_|refine bt ?_|refine bf ?_|refine En.drA ⟨En.tab_ok⟩ [] ?_|refine En.kpt ?_)); exact hq.out)):P:=s ⟨h⟩
theorem gq_ {P Q:Prop} (h:Q) (s:Gq Q→P:=by (intro hq; ((conv=>whnf); first | refine En.sgo ⟨En.tab_ok⟩ ?_|refine En.br_not ?_|refine bt ?_|refine bf ?_|refine En.kpt ?_); (repeat ((conv=>whnf); first | refine En.sgo ⟨En.tab_ok⟩ ?_|refine En.br_not ?_|refine bt ?_|refine bf ?_|refine En.kpt ?_)); exact hq.out)):P:=s ⟨h⟩
abbrev sCfg (c:Ty.CfgV):List SV:=[.i .i64 c.ca,.i .i64 c.fl,.i .i64 c.ft,.i .i64 c.se,.i .i64 c.dr,.i .i64 c.dw,.i .i64 c.ho,.i .i64 c.re,.i .i64 c.yi,.i .i64 c.qu,.i .i64 c.qo,.i .i64 c.lo,.i .i64 c.sl,.i .i64 c.rt,.i .i64 c.cp,.i .i64 c.tr,.i .i64 c.de,.i .i64 c.wi]
abbrev aCfg (c:Ty.CfgV):Value:=.agg #[.int .i64 c.ca,.int .i64 c.fl,.int .i64 c.ft,.int .i64 c.se,.int .i64 c.dr,.int .i64 c.dw,.int .i64 c.ho,.int .i64 c.re,.int .i64 c.yi,.int .i64 c.qu,.int .i64 c.qo,.int .i64 c.lo,.int .i64 c.sl,.int .i64 c.rt,.int .i64 c.cp,.int .i64 c.tr,.int .i64 c.de,.int .i64 c.wi]
abbrev sCar (x:Ty.CarV):List SV:=[.i .i64 x.ds,.i .i64 x.da,.i .i64 x.un,.i .i64 x.wy,.i .i64 x.ti,.i .i64 x.ju,.i .i64 x.lo,.b x.bl,.b x.br,.i .i64 x.mo,.i .i64 x.ta,.b x.ho,.i .u64 x.sp,.i .u64 x.su,.i .u64 x.sd]
end
namespace Ce
def ms (n:Int):Int:=if n < 0 then 0 else if 10000 < n then 10000 else n
theorem ms_lo (n:Int):0≤ms n:=by unfold ms; repeat' split <;> omega
theorem ms_hi (n:Int):ms n≤10000:=by unfold ms; repeat' split <;> omega
def ab (n:Int):Int:=if n < 0 then -n else n
def nr (a b c:Int):Bool:=decide (ab (ms a - ms b)≤ms c)
def ov (a b:Int):Bool:=decide (ms b < ms a)
end Ce
namespace Do
def hd (t:Int):Int:=if t < 1 then 1 else if 1000 < t then 1000 else t
theorem hd_lo (t:Int):1≤hd t:=by unfold hd; repeat' split <;> omega
theorem hd_hi (t:Int):hd t≤1000:=by unfold hd; repeat' split <;> omega
def gd (s a t:Int):Bool:=decide ((s=0∧a=0)∨(s=2∧a=hd t)∨((s=1∨s=3)∧0≤a∧a≤hd t))
theorem gd_iff (s a t:Int):gd s a t=true↔((s=0∧a=0)∨(s=2∧a=hd t)∨((s=1∨s=3)∧0≤a∧a≤hd t)):=by unfold gd; simp
theorem gd_bd (s a t:Int) (h:gd s a t=true):0≤s∧s≤3∧0≤a∧a≤1000:=by
 have:=hd_lo t; have:=hd_hi t; rw [gd_iff] at h; omega
def oS (s:Int):Int:=if s=0∨s=3 then 1 else s
def cS (s:Int):Int:=if s=1∨s=2 then 3 else s
def tS (s a t:Int) (b:Bool):Int:=if s=3∧b=true then 1 else if s=3∧a≤1 then 0 else if s=3 then 3 else if s=1∧hd t≤a+1 then 2 else s
def tA (s a t:Int) (b:Bool):Int:=if s=3∧b=true then a else if s=3∧a≤1 then 0 else if s=3 then a - 1 else if s=1∧hd t≤a+1 then hd t else if s=1 then a+1 else a
def pS (s a t:Int):Int:=if t≤a+1 then 2 else s
def pA (a t:Int):Int:=if t≤a+1 then t else a+1
def qS (s a:Int):Int:=if a≤1 then 0 else s
def qA (a:Int):Int:=if a≤1 then 0 else a - 1
theorem gd_open (s a t:Int) (h:gd s a t=true):gd (oS s) a t=true:=by
 rw [gd_iff] at *; unfold oS; have:=hd_lo t; split <;> omega
theorem gd_close (s a t:Int) (h:gd s a t=true):gd (cS s) a t=true:=by
 rw [gd_iff] at *; unfold cS; have:=hd_lo t; split <;> omega
theorem gd_tick (s a t:Int) (b:Bool) (h:gd s a t=true):gd (tS s a t b) (tA s a t b) t=true:=by
 rw [gd_iff] at *; unfold tS tA; have:=hd_lo t; have:=hd_hi t
 cases b <;> simp <;> (repeat' split) <;> omega
end Do
namespace Ce
open Go.RowKit Ba En
set_option maxRecDepth 100000
theorem massT (n:Int) (w:World):Calls Tryz.prog 204 #[.int .i64 n] w fun e w'=>e=.returned (.int .i64 (ms n))∧Since w w':=by
 refine ent tab_ok [.i .i64 n] Tryz.func204 Tryz.ntmps204 rfl rfl ?_
 repeat' (first | refine gq_ ?_|((conv=>whnf); first | refine fin_s ?_))
 exact congrArg (Value.int .i64) (by unfold ms; repeat' split <;> omega)
theorem overT (a b:Int) (w:World):Calls Tryz.prog 158 #[.int .i64 a,.int .i64 b] w fun e w'=>e=.returned (.bool (ov a b))∧Since w w':=by
 refine ent tab_ok [.i .i64 a,.i .i64 b] Tryz.func158 Tryz.ntmps158 rfl rfl ?_
 repeat' (first | refine gq_ ?_|((conv=>whnf); first | refine callS (f:=204) (.i .i64 _) (massT _) ?_|refine fin_s ?_))
 exact rfl
theorem nearT (a b c:Int) (w:World):Calls Tryz.prog 220 #[.int .i64 a,.int .i64 b,.int .i64 c] w fun e w'=>e=.returned (.bool (nr a b c))∧Since w w':=by
 have h1:=ms_lo a
 have h2:=ms_hi a
 have h3:=ms_lo b
 have h4:=ms_hi b
 refine ent tab_ok [.i .i64 a,.i .i64 b,.i .i64 c] Tryz.func220 Tryz.ntmps220 rfl rfl ?_
 repeat' (first | refine gq_ ?_|((conv=>whnf); first | refine wr_i ?_|refine callS (f:=204) (.i .i64 _) (massT _) ?_|refine fin_s ?_))
 exact congrArg Value.bool (by unfold nr ab; congr 1; rw [eq_iff_iff]; repeat' split <;> omega)
end Ce
namespace Do
open Go.RowKit Ba En
set_option maxRecDepth 100000
theorem ret2 {a b c d:Int} (h:a=c) (k:b=d):Value.agg #[.int .i64 a,.int .i64 b]=(.agg #[.int .i64 c,.int .i64 d]):=by rw [h,k]
theorem heldT (n:Int) (w:World):Calls Tryz.prog 209 #[.int .i64 n] w fun e w'=>e=.returned (.int .i64 (hd n))∧Since w w':=by
 refine ent tab_ok [.i .i64 n] Tryz.func209 Tryz.ntmps209 rfl rfl ?_
 repeat' (first | refine gq_ ?_|((conv=>whnf); first | refine fin_s ?_))
 exact congrArg (Value.int .i64) (by unfold hd; repeat' split <;> omega)
theorem openD (s a:Int) (w:World):Calls Tryz.prog 206 #[.agg #[.int .i64 s,.int .i64 a]] w fun e w'=>e=.returned (.agg #[.int .i64 (oS s),.int .i64 a])∧Since w w':=by
 refine ent tab_ok [.a [.i .i64 s,.i .i64 a]] Tryz.func206 Tryz.ntmps206 rfl rfl ?_
 repeat' (first | refine gs_ ?_|((conv=>whnf); first | refine b3_ (fun h=>?_) (fun h=>?_)|intro b | refine fin_s ?_))
 all_goals exact ret2 (by unfold oS; repeat' split <;> omega) rfl
theorem closeD (s a:Int) (w:World):Calls Tryz.prog 207 #[.agg #[.int .i64 s,.int .i64 a]] w fun e w'=>e=.returned (.agg #[.int .i64 (cS s),.int .i64 a])∧Since w w':=by
 refine ent tab_ok [.a [.i .i64 s,.i .i64 a]] Tryz.func207 Tryz.ntmps207 rfl rfl ?_
 repeat' (first | refine gs_ ?_|((conv=>whnf); first | refine b3_ (fun h=>?_) (fun h=>?_)|intro b | refine fin_s ?_))
 all_goals exact ret2 (by unfold cS; repeat' split <;> omega) rfl
theorem openedD (s a t:Int) (ha:0≤a) (ha2:a≤1000) (ht:1≤t) (w:World):Calls Tryz.prog 208 #[.agg #[.int .i64 s,.int .i64 a],.int .i64 t] w fun e w'=>e=.returned (.agg #[.int .i64 (pS s a t),.int .i64 (pA a t)])∧Since w w':=by
 refine ent tab_ok [.a [.i .i64 s,.i .i64 a],.i .i64 t] Tryz.func208 Tryz.ntmps208 rfl rfl ?_
 repeat' (first | refine gs_ ?_|((conv=>whnf); first | refine wr_i ?_|refine b3_ (fun h=>?_) (fun h=>?_)|intro b | refine fin_s ?_))
 all_goals exact ret2 (by unfold pS; repeat' split at * <;> omega) (by unfold pA; repeat' split at * <;> omega)
theorem closedD (s a:Int) (ha:0≤a) (ha2:a≤1000) (w:World):Calls Tryz.prog 210 #[.agg #[.int .i64 s,.int .i64 a]] w fun e w'=>e=.returned (.agg #[.int .i64 (qS s a),.int .i64 (qA a)])∧Since w w':=by
 refine ent tab_ok [.a [.i .i64 s,.i .i64 a]] Tryz.func210 Tryz.ntmps210 rfl rfl ?_
 repeat' (first | refine gs_ ?_|((conv=>whnf); first | refine wr_i ?_|refine b3_ (fun h=>?_) (fun h=>?_)|intro b | refine fin_s ?_))
 all_goals exact ret2 (by unfold qS; repeat' split at * <;> omega) (by unfold qA; repeat' split at * <;> omega)
theorem tickD (s a t:Int) (b:Bool) (ha:0≤a) (ha2:a≤1000) (w:World):Calls Tryz.prog 162 #[.agg #[.int .i64 s,.int .i64 a],.int .i64 t,.bool b] w fun e w'=>e=.returned (.agg #[.int .i64 (tS s a t b),.int .i64 (tA s a t b)])∧Since w w':=by
 have h1:=hd_lo t
 have h2:=hd_hi t
 refine ent tab_ok [.a [.i .i64 s,.i .i64 a],.i .i64 t,.b b] Tryz.func162 Tryz.ntmps162 rfl rfl ?_
 repeat' (first | refine gs_ ?_|((conv=>whnf); first | refine wr_i ?_|refine b3_ (fun h=>?_) (fun h=>?_)|intro b | refine callS (f:=209) (.i .i64 _) (heldT _) ?_|refine callS (f:=206) (.a [.i .i64 _,.i .i64 _]) (openD _ _) ?_|refine callS (f:=208) (.a [.i .i64 _,.i .i64 _]) (openedD _ _ _ ha ha2 h1) ?_|refine callS (f:=210) (.a [.i .i64 _,.i .i64 _]) (closedD _ _ ha ha2) ?_|refine fin_s ?_))
 all_goals refine ret2 ?_ ?_
 all_goals subst_vars
 all_goals first
  | (simp [tS,tA,pS,pA,qS,qA,oS]; done)
  | (simp [tS,tA,pS,pA,qS,qA,oS, *]; done)
  | (unfold tS tA; simp [*]; done)
theorem spanR (n:Int) (w:World):Calls Tryz.prog 93 #[.int .i64 n] w fun e w'=>e=.returned (.int .i64 (hd n))∧Since w w':=by
 refine ent tab_ok [.i .i64 n] Tryz.func93 Tryz.ntmps93 rfl rfl ?_
 repeat' (first | refine gq_ ?_|((conv=>whnf); first | refine b3_ (fun h=>?_) (fun h=>?_)|refine fin_s ?_))
 all_goals exact congrArg (Value.int .i64) (by unfold hd; repeat' split <;> omega)
end Do
namespace Mo
def fl (n:Int):Int:=if n < 2 then 2 else if 64 < n then 64 else n
theorem fl_lo (n:Int):2≤fl n:=by unfold fl; repeat' split <;> omega
theorem fl_hi (n:Int):fl n≤64:=by unfold fl; repeat' split <;> omega
def lvB (u:Int):Bool:=decide (0≤u∧u≤252∧u % 4=0)
def lvN (u:Int):Int:=if lvB u=true then u / 4 else 0
theorem lvB_iff (u:Int):lvB u=true↔(0≤u∧u≤252∧u % 4=0):=by unfold lvB; simp
def mv (u w f:Int):Int:=if w=1∧u < 4*(fl f - 1) then u+1 else if w=2∧0 < u then u - 1 else u
def tw (u f:Int):Int:=if u < 4*f then 1 else if 4*f < u then 2 else 0
def fr (u f:Int):Int:=if u - 4*f < 0 then 4*f - u else u - 4*f
theorem mv_in (u w f:Int) (h0:0≤u) (h1:u≤4*(fl f - 1)):0≤mv u w f∧mv u w f≤4*(fl f - 1):=by unfold mv; have:=fl_lo f; repeat' split <;> omega
theorem far_lv (f:Int) (f0:0≤f) (f1:f≤63):lvB (4*f)=true∧lvN (4*f)=f:=by
 have h:lvB (4*f)=true:=by rw [lvB_iff]; omega
 refine ⟨h, ?_⟩
 unfold lvN; rw [if_pos h]; omega
end Mo
namespace Mo
open Go.RowKit Ba En
set_option maxRecDepth 100000
theorem floorsT (n:Int) (w:World):Calls Tryz.prog 171 #[.int .i64 n] w fun e w'=>e=.returned (.int .i64 (fl n))∧Since w w':=by
 refine ent tab_ok [.i .i64 n] Tryz.func171 Tryz.ntmps171 rfl rfl ?_
 repeat' (first | refine gq_ ?_|((conv=>whnf); first | refine b3_ (fun h=>?_) (fun h=>?_)|refine fin_s ?_))
 all_goals exact congrArg (Value.int .i64) (by unfold fl; repeat' split <;> omega)
theorem placeT (n:Int) (h0 : -1099511627776≤n) (h1:n≤1099511627776) (w:World):Calls Tryz.prog 173 #[.int .i64 n] w fun e w'=>e=.returned (.int .i64 (4*n))∧Since w w':=by
 refine ent tab_ok [.i .i64 n] Tryz.func173 Tryz.ntmps173 rfl rfl ?_
 repeat' (first | refine gq_ ?_|((conv=>whnf); first | refine wr_i ?_|refine fin_s ?_))
 exact rfl
theorem ret_lv {a:Int} {b:Bool} {u:Int} (h:b=lvB u) (k:a=lvN u):Value.tuple #[.int .i64 a,.bool b]=.tuple #[.int .i64 (lvN u),.bool (lvB u)]:=by rw [h,k]
theorem lv_no {u:Int} (h:u < 0∨252 < u∨u.tmod 4≠0):false=lvB u∧0=lvN u:=by
 have:lvB u=false:=by
  rw [← Bool.not_eq_true,lvB_iff]
  rintro ⟨h1,h2,h3⟩
  rw [Int.tmod_eq_emod_of_nonneg h1] at h
  omega
 exact ⟨this.symm,by simp [lvN,this]⟩
theorem lv_yes {u:Int} (h0:0≤u) (h1:u≤252) (h:u.tmod 4=0):true=lvB u∧u / 4=lvN u:=by
 rw [Int.tmod_eq_emod_of_nonneg h0] at h
 have:lvB u=true:=by rw [lvB_iff]; omega
 exact ⟨this.symm,by simp [lvN,this]⟩
theorem levelT (u:Int) (w:World):Calls Tryz.prog 109 #[.int .i64 u] w fun e w'=>e=.returned (.tuple #[.int .i64 (lvN u),.bool (lvB u)])∧Since w w':=by
 refine ent tab_ok [.i .i64 u] Tryz.func109 Tryz.ntmps109 rfl rfl ?_
 repeat' (first | refine gq_ ?_|((conv=>whnf); first | refine cd (by first | decide | omega) ?_|refine wr_i ?_|refine wr_q ?_|refine b3_ (fun h=>?_) (fun h=>?_)|refine callS (f:=173) (.i .i64 _) (placeT _ (by omega) (by omega)) ?_|refine fin_s ?_))
 all_goals refine ret_lv ?_ ?_
 all_goals first
  | exact (lv_no (by omega)).1
  | exact (lv_no (by omega)).2
  | exact (lv_no (.inr (.inr (by assumption)))).1
  | exact (lv_no (.inr (.inr (by assumption)))).2
  | exact (lv_yes (by omega) (by omega) (by assumption)).1
  | exact (lv_yes (by omega) (by omega) (by assumption)).2
theorem moveT (u v f:Int) (h : -9223372036854775808≤u∧u≤9223372036854775807) (w:World):Calls Tryz.prog 163 #[.int .i64 u,.int .i64 v,.int .i64 f] w fun e w'=>e=.returned (.int .i64 (mv u v f))∧Since w w':=by
 have h1:=fl_lo f
 have h2:=fl_hi f
 refine ent tab_ok [.i .i64 u,.i .i64 v,.i .i64 f] Tryz.func163 Tryz.ntmps163 rfl rfl ?_
 repeat' (first | refine gq_ ?_|((conv=>whnf); first | refine wr_i ?_|refine bto ?_|refine bfo ?_|refine b3_ (fun h=>?_) (fun h=>?_)|refine callS (f:=173) (.i .i64 _) (placeT _ (by omega) (by omega)) ?_|refine callS (f:=171) (.i .i64 _) (floorsT _) ?_|refine fin_s ?_))
 all_goals exact congrArg (Value.int .i64) (by unfold mv; repeat' split <;> omega)
theorem towardT (u f:Int) (h : -1099511627776≤f∧f≤1099511627776) (w:World):Calls Tryz.prog 154 #[.int .i64 u,.int .i64 f] w fun e w'=>e=.returned (.int .i64 (tw u f))∧Since w w':=by
 refine ent tab_ok [.i .i64 u,.i .i64 f] Tryz.func154 Tryz.ntmps154 rfl rfl ?_
 repeat' (first | refine gq_ ?_|((conv=>whnf); first | refine wr_i ?_|refine bto ?_|refine bfo ?_|refine b3_ (fun h=>?_) (fun h=>?_)|refine callS (f:=173) (.i .i64 _) (placeT _ (by omega) (by omega)) ?_|refine fin_s ?_))
 all_goals exact congrArg (Value.int .i64) (by unfold tw; repeat' split <;> omega)
theorem farT (u f:Int) (h : -1099511627776≤u∧u≤1099511627776) (h' : -1099511627776≤f∧f≤1099511627776) (w:World):Calls Tryz.prog 185 #[.int .i64 u,.int .i64 f] w fun e w'=>e=.returned (.int .i64 (fr u f))∧Since w w':=by
 refine ent tab_ok [.i .i64 u,.i .i64 f] Tryz.func185 Tryz.ntmps185 rfl rfl ?_
 repeat' (first | refine gq_ ?_|((conv=>whnf); first | refine wr_i ?_|refine bto ?_|refine bfo ?_|refine b3_ (fun h=>?_) (fun h=>?_)|refine callS (f:=173) (.i .i64 _) (placeT _ (by omega) (by omega)) ?_|refine fin_s ?_))
 all_goals exact congrArg (Value.int .i64) (by unfold fr; repeat' split <;> omega)
end Mo
namespace Pl
open Do Mo Go.Proofs.YtpiiblkiddcgcaaGreat.Ty
def newC:CarV:=⟨0,0,0,0,0,-1,0,false,false,0,0,false,0,0,0⟩
def toldS (ds un:Int) (o k:Bool):Int:=if o=true∧lvB un=true then oS ds else if k=true then cS ds else ds
def dS0 (x:CarV) (o k:Bool):Int:=if x.br=true then x.ds else toldS x.ds x.un o k
def dS1 (c:CfgV) (x:CarV) (o k:Bool):Int:=tS (dS0 x o k) x.da c.dr x.bl
def dA1 (c:CfgV) (x:CarV) (o k:Bool):Int:=tA (dS0 x o k) x.da c.dr x.bl
def goesB (c:CfgV) (x:CarV) (r:Int) (o k:Bool):Bool:=decide (x.br=false∧x.ds=0∧dS1 c x o k=0∧(r=1∨r=2))
def wy1 (c:CfgV) (x:CarV) (r:Int) (o k:Bool):Int:=if goesB c x r o k=true then r else x.wy
def un1 (c:CfgV) (x:CarV) (r:Int) (o k:Bool):Int:=if goesB c x r o k=true then mv x.un r c.fl else x.un
def stepV (c:CfgV) (x:CarV) (r:Int) (o k:Bool):CarV:={ x with ds:=dS1 c x o k,da:=dA1 c x o k,wy:=wy1 c x r o k,un:=un1 c x r o k }
def goodB (c:CfgV) (x:CarV):Bool:=decide (gd x.ds x.da c.dr=true∧0≤x.un∧x.un≤4*(fl c.fl - 1)∧(x.wy=0∨x.wy=1∨x.wy=2)∧(x.ds=0∨lvB x.un=true))
theorem goodB_iff (c:CfgV) (x:CarV):goodB c x=true↔(gd x.ds x.da c.dr=true∧0≤x.un∧x.un≤4*(fl c.fl - 1)∧(x.wy=0∨x.wy=1∨x.wy=2)∧(x.ds=0∨lvB x.un=true)):=by unfold goodB; simp
theorem gd_told (ds da t un:Int) (o k:Bool) (h:gd ds da t=true):gd (toldS ds un o k) da t=true:=by
 unfold toldS
 split
 ·exact gd_open _ _ _ h
 ·split
  ·exact gd_close _ _ _ h
  ·exact h
theorem gd_0 (x:CarV) (t:Int) (o k:Bool) (h:gd x.ds x.da t=true):gd (dS0 x o k) x.da t=true:=by
 unfold dS0; split
 ·exact h
 ·exact gd_told _ _ _ _ _ _ h
theorem stays_shut (c:CfgV) (x:CarV) (o k:Bool) (h:gd x.ds x.da c.dr=true) (h0:x.ds=0) (hl:lvB x.un=false):dS1 c x o k=0:=by
 have:dS0 x o k=0:=by
  unfold dS0 toldS cS
  rw [hl,h0]; simp
 unfold dS1; rw [this]; unfold tS; simp
theorem good_step (c:CfgV) (x:CarV) (r:Int) (o k:Bool) (h:goodB c x=true):goodB c (stepV c x r o k)=true:=by
 rw [goodB_iff] at h ⊢
 obtain ⟨h1,h2,h3,h4,h5⟩:=h
 have g1:gd (dS1 c x o k) (dA1 c x o k) c.dr=true:=gd_tick _ _ _ _ (gd_0 x _ o k h1)
 refine ⟨g1, ?_, ?_, ?_, ?_⟩
 ·show 0≤un1 c x r o k
  unfold un1; split
  ·exact (mv_in _ _ _ h2 h3).1
  ·exact h2
 ·show un1 c x r o k≤_
  unfold un1; split
  ·exact (mv_in _ _ _ h2 h3).2
  ·exact h3
 ·show wy1 c x r o k=0∨wy1 c x r o k=1∨wy1 c x r o k=2
  unfold wy1; split
  ·rename_i hg; unfold goesB at hg; simp at hg; omega
  ·exact h4
 ·show dS1 c x o k=0∨lvB (un1 c x r o k)=true
  by_cases hg:goesB c x r o k=true
  ·left; unfold goesB at hg; simp at hg; exact hg.2.2.1
  ·have e:un1 c x r o k=x.un:=by unfold un1; rw [if_neg hg]
   rw [e]
   rcases h5 with h5 | h5
   ·by_cases hl:lvB x.un=true
    ·exact .inr hl
    ·exact .inl (stays_shut c x o k h1 h5 (by simpa using hl))
   ·exact .inr h5
theorem good_bd (c:CfgV) (x:CarV) (h:goodB c x=true):0≤x.da∧x.da≤1000∧0≤x.un∧x.un≤252:=by
 rw [goodB_iff] at h
 have:=gd_bd _ _ _ h.1
 have:=fl_hi c.fl
 omega
end Pl
namespace Pl
open Go.RowKit Ba En Do Mo Go.Proofs.YtpiiblkiddcgcaaGreat.Ty
set_option maxRecDepth 100000
attribute [local irreducible] lvB Go.Calls
def carV (x:CarV):Value:=.agg #[.int .i64 x.ds,.int .i64 x.da,.int .i64 x.un,.int .i64 x.wy,.int .i64 x.ti,.int .i64 x.ju,.int .i64 x.lo,.bool x.bl,.bool x.br,.int .i64 x.mo,.int .i64 x.ta,.bool x.ho,.int .u64 x.sp,.int .u64 x.su,.int .u64 x.sd]
def cfgV (c:CfgV):Value:=(aCfg c)
theorem newT (w:World):Calls Tryz.prog 25 #[] w fun e w'=>e=.returned (carV newC)∧Since w w':=by
 refine ent tab_ok [] Tryz.func25 Tryz.ntmps25 rfl rfl ?_
 repeat' (first | refine gs_ ?_|((conv=>whnf); first | intro b | refine fin_s ?_))
 exact rfl
theorem closedT (ds da un wy ti ju lo:Int) (bl br:Bool) (mo ta:Int) (ho:Bool) (sp su sd:Int) (w:World):Calls Tryz.prog 160 #[.agg #[.int .i64 ds,.int .i64 da,.int .i64 un,.int .i64 wy,.int .i64 ti,.int .i64 ju,.int .i64 lo,.bool bl,.bool br,.int .i64 mo,.int .i64 ta,.bool ho,.int .u64 sp,.int .u64 su,.int .u64 sd]] w fun e w'=>e=.returned (.bool (ds == 0))∧Since w w':=by
 refine ent tab_ok [.a [.i .i64 ds,.i .i64 da,.i .i64 un,.i .i64 wy,.i .i64 ti,.i .i64 ju,.i .i64 lo,.b bl,.b br,.i .i64 mo,.i .i64 ta,.b ho,.i .u64 sp,.i .u64 su,.i .u64 sd]] Tryz.func160 Tryz.ntmps160 rfl rfl ?_
 repeat' (first | refine gs_ ?_|((conv=>whnf); first | intro b | refine fin_s ?_))
 exact rfl
theorem atFloorT (ds da un wy ti ju lo:Int) (bl br:Bool) (mo ta:Int) (ho:Bool) (sp su sd:Int) (w:World):Calls Tryz.prog 205 #[.agg #[.int .i64 ds,.int .i64 da,.int .i64 un,.int .i64 wy,.int .i64 ti,.int .i64 ju,.int .i64 lo,.bool bl,.bool br,.int .i64 mo,.int .i64 ta,.bool ho,.int .u64 sp,.int .u64 su,.int .u64 sd]] w fun e w'=>e=.returned (.bool (lvB un))∧Since w w':=by
 refine ent tab_ok [.a [.i .i64 ds,.i .i64 da,.i .i64 un,.i .i64 wy,.i .i64 ti,.i .i64 ju,.i .i64 lo,.b bl,.b br,.i .i64 mo,.i .i64 ta,.b ho,.i .u64 sp,.i .u64 su,.i .u64 sd]] Tryz.func205 Tryz.ntmps205 rfl rfl ?_
 repeat' (first | refine gs_ ?_|((conv=>whnf); first | intro b | refine callS (f:=109) (.t [.i .i64 _,.b _]) (levelT _) ?_|refine fin_s ?_))
 exact rfl
theorem toldT (ds da un wy ti ju lo:Int) (bl br:Bool) (mo ta:Int) (ho:Bool) (sp su sd:Int) (r:Int) (o k:Bool) (w:World):Calls Tryz.prog 161 #[.agg #[.int .i64 ds,.int .i64 da,.int .i64 un,.int .i64 wy,.int .i64 ti,.int .i64 ju,.int .i64 lo,.bool bl,.bool br,.int .i64 mo,.int .i64 ta,.bool ho,.int .u64 sp,.int .u64 su,.int .u64 sd],.agg #[.int .i64 r,.bool o,.bool k]] w fun e w'=>e=.returned (.agg #[.int .i64 (toldS ds un o k),.int .i64 da])∧Since w w':=by
 refine ent tab_ok [.a [.i .i64 ds,.i .i64 da,.i .i64 un,.i .i64 wy,.i .i64 ti,.i .i64 ju,.i .i64 lo,.b bl,.b br,.i .i64 mo,.i .i64 ta,.b ho,.i .u64 sp,.i .u64 su,.i .u64 sd],.a [.i .i64 r,.b o,.b k]] Tryz.func161 Tryz.ntmps161 rfl rfl ?_
 repeat' (first | refine gs_ ?_|((conv=>whnf); first | intro b | refine b3_ (fun h=>?_) (fun h=>?_)|refine callS (f:=205) (.b _) (atFloorT _ _ _ _ _ _ _ _ _ _ _ _ _ _ _) ?_|refine callS (f:=206) (.a [.i .i64 _,.i .i64 _]) (openD _ _) ?_|refine callS (f:=207) (.a [.i .i64 _,.i .i64 _]) (closeD _ _) ?_|refine fin_s ?_))
 all_goals exact ret2 (by simp [toldS, *]) rfl
set_option maxHeartbeats 4000000 in
theorem stepT (c:CfgV) (x:CarV) (r:Int) (o k:Bool) (h0:0≤x.da) (h1:x.da≤1000) (u : -9223372036854775808≤x.un∧x.un≤9223372036854775807) (w:World):Calls Tryz.prog 83 #[cfgV c,carV x,.agg #[.int .i64 r,.bool o,.bool k]] w fun e w'=>e=.returned (carV (stepV c x r o k))∧Since w w':=by
 refine ent tab_ok [.a (sCfg c),.a (sCar x),.a [.i .i64 r,.b o,.b k]] Tryz.func83 Tryz.ntmps83 rfl rfl ?_
 repeat' (first | refine gs_ ?_|((conv=>whnf); first | intro b | refine b3_ (fun h=>?_) (fun h=>?_)|refine callS (f:=160) (.b _) (closedT _ _ _ _ _ _ _ _ _ _ _ _ _ _ _) ?_|refine callS (f:=161) (.a [.i .i64 _,.i .i64 _]) (toldT _ _ _ _ _ _ _ _ _ _ _ _ _ _ _ _ _ _) ?_|refine callS (f:=162) (.a [.i .i64 _,.i .i64 _]) (tickD _ _ _ _ h0 h1) ?_|refine callS (f:=163) (.i .i64 _) (moveT _ _ _ u) ?_|refine fin_s ?_))
 all_goals (simp only [den,denL,carV,stepV,dS1,dA1,un1,wy1,goesB,dS0]; simp_all)
end Pl
namespace St
def R (x:Int):Prop:=0≤x∧x < 18446744073709551616
def tb (x:Int) (i:Nat):Bool:=x.toNat.testBit i
theorem R.nat {x:Int} (h:R x):x.toNat < 18446744073709551616:=by unfold R at h; omega
theorem R.of_nat {n:Nat} (h:n < 18446744073709551616):R (n:Int):=by unfold R; omega
theorem R.zero:R 0:=by unfold R; omega
theorem tb_hi {x:Int} (h:R x) {i:Nat} (hi:64≤i):tb x i=false:=by
 unfold tb
 apply Nat.testBit_lt_two_pow
 have h1:=h.nat
 have h2:(2:Nat) ^ 64≤2 ^ i:=Nat.pow_le_pow_right (by omega) hi
 have h3:(2:Nat) ^ 64=18446744073709551616:=by decide
 omega
theorem ext {x y:Int} (hx:R x) (hy:R y) (h:∀ i,i < 64→tb x i=tb y i):x=y:=by
 have:x.toNat=y.toNat:=by
  apply Nat.eq_of_testBit_eq
  intro i
  rcases Nat.lt_or_ge i 64 with hi | hi
  ·exact h i hi
  ·have a:=tb_hi hx hi
   have b:=tb_hi hy hi
   unfold tb at a b
   rw [a,b]
 unfold R at hx hy
 omega
theorem or_R {x y:Int} (hx:R x) (hy:R y):R (bits .or .u64 x y):=by
 have a:=hx.nat
 have b:=hy.nat
 unfold R at hx hy
 rw [u64_or x y hx.1 hx.2 hy.1 hy.2]
 exact R.of_nat (by
  have:=Nat.or_lt_two_pow (n:=64) (x:=x.toNat) (y:=y.toNat) (by omega) (by omega)
  simpa using this)
theorem or_tb {x y:Int} (hx:R x) (hy:R y) (i:Nat):tb (bits .or .u64 x y) i=(tb x i || tb y i):=by
 unfold R at hx hy
 rw [u64_or x y hx.1 hx.2 hy.1 hy.2]
 unfold tb
 rw [Int.toNat_natCast,Nat.testBit_or]
theorem and_R {x y:Int} (hx:R x) (hy:R y):R (bits .and .u64 x y):=by
 have a:=hx.nat
 unfold R at hx hy
 rw [u64_and x y hx.1 hx.2 hy.1 hy.2]
 exact R.of_nat (by have:=Nat.and_le_left (n:=x.toNat) (m:=y.toNat); omega)
theorem and_tb {x y:Int} (hx:R x) (hy:R y) (i:Nat):tb (bits .and .u64 x y) i=(tb x i && tb y i):=by
 unfold R at hx hy
 rw [u64_and x y hx.1 hx.2 hy.1 hy.2]
 unfold tb
 rw [Int.toNat_natCast,Nat.testBit_and]
theorem an_R {x y:Int} (hx:R x) (hy:R y):R (bits .andNot .u64 x y):=by
 have a:=hx.nat
 unfold R at hx hy
 rw [u64_andNot x y hx.1 hx.2 hy.1 hy.2]
 exact R.of_nat (by have:=Nat.and_le_left (n:=x.toNat) (m:=18446744073709551615 - y.toNat); omega)
def bit (f:Int):Int:=if 0≤f∧f < 64 then ((2 ^ f.toNat:Nat):Int) else 0
theorem bit_R (f:Int):R (bit f):=by
 unfold bit
 split
 ·rename_i h
  refine R.of_nat ?_
  have h2:(2:Nat) ^ f.toNat≤2 ^ 63:=Nat.pow_le_pow_right (by omega) (by omega)
  have h3:(2:Nat) ^ 63=9223372036854775808:=by decide
  omega
 ·exact R.zero
theorem bit_tb (f:Int) (i:Nat):tb (bit f) i=decide (0≤f∧f < 64∧f=i):=by
 unfold bit
 split
 ·rename_i h
  unfold tb
  rw [Int.toNat_natCast,Nat.testBit_two_pow]
  rw [decide_eq_decide]
  omega
 ·rename_i h
  have:¬ (0≤f∧f < 64∧f=i):=by omega
  rw [decide_eq_false this]
  simp [tb]
def mem (x f:Int):Bool:=decide (0≤f∧f < 64) && tb x f.toNat
theorem mem_at (x:Int) (i:Nat) (h:i < 64):mem x i=tb x i:=by unfold mem; simp [h]; omega
theorem zero_of {x:Int} (hx:R x):x=0↔∀ i,i < 64→tb x i=false:=by
 constructor
 ·rintro rfl i _; simp [tb]
 ·intro h
  exact ext hx R.zero fun i hi=>by rw [h i hi]; simp [tb]
theorem and_bit {x:Int} (hx:R x) (f:Int):(bits .and .u64 x (bit f)=0)↔mem x f=false:=by
 rw [zero_of (and_R hx (bit_R f))]
 constructor
 ·intro h
  unfold mem
  by_cases hf:0≤f∧f < 64
  ·have:=h f.toNat (by omega)
   rw [and_tb hx (bit_R f),bit_tb] at this
   have e:decide (0≤f∧f < 64∧f=(f.toNat:Int))=true:=by simp; omega
   rw [e] at this
   simpa [hf] using this
  ·simp [hf]
 ·intro h i hi
  rw [and_tb hx (bit_R f),bit_tb]
  unfold mem at h
  by_cases hf:0≤f∧f < 64∧f=i
  ·have e:f.toNat=i:=by omega
   rw [e] at h
   have:decide (0≤f∧f < 64)=true:=by simp; omega
   rw [this] at h
   simp at h
   rw [h]; simp
  ·simp [hf]
def al (p u d:Int):Int:=bits .or .u64 (bits .or .u64 p u) d
theorem al_R {p u d:Int} (hp:R p) (hu:R u) (hd:R d):R (al p u d):=or_R (or_R hp hu) hd
theorem al_tb {p u d:Int} (hp:R p) (hu:R u) (hd:R d) (i:Nat):tb (al p u d) i=(tb p i || tb u i || tb d i):=by
 unfold al; rw [or_tb (or_R hp hu) hd,or_tb hp hu]
theorem al_mem {p u d:Int} (hp:R p) (hu:R u) (hd:R d) (f:Int):mem (al p u d) f=(mem p f || mem u f || mem d f):=by
 unfold mem; rw [al_tb hp hu hd]; cases decide (0≤f∧f < 64) <;> simp
end St
namespace St
open Go.RowKit Ba
set_option maxRecDepth 100000
theorem bitT (f:Int) (w:World):Calls Tryz.prog 153 #[.int .i64 f] w fun e w'=>e=.returned (.int .u64 (bit f))∧w=w':=by
 by_cases h:0≤f∧f < 64
 ·obtain ⟨h0,h1⟩:=h
  have hb:=(bit_R f)
  have e:IntKind.u64.wrap (2 ^ f.toNat)=bit f:=by
   have e1:bit f=((2 ^ f.toNat:Nat):Int):=by unfold bit; rw [if_pos ⟨h0,h1⟩]
   unfold R at hb
   rw [e1] at hb
   rw [IntWalk.u64_in _ (by rw [Int.natCast_pow] at hb; simp at hb; omega),e1]
   simp
  have HE:=Lib.hid e
  clear e hb
  go_enter Tryz.func153,Tryz.ntmps153
  go_wp2
  go_ret
  exact ⟨ret_int HE.out,rfl⟩
 ·have e:bit f=0:=by unfold bit; rw [if_neg h]
  have HE:=Lib.hid e
  clear e
  rcases (show f < 0∨64≤f by omega) with h1 | h1
  all_goals
   clear h
   go_enter Tryz.func153,Tryz.ntmps153
   go_wp2
   go_ret
   exact ⟨ret_int HE.out.symm,rfl⟩
theorem allT (p u d:Int) (w:World):Calls Tryz.prog 230 #[.agg #[.int .u64 p,.int .u64 u,.int .u64 d]] w fun e w'=>e=.returned (.int .u64 (al p u d))∧Since w w':=by
 go_enter Tryz.func230,Tryz.ntmps230
 go_wp2
 go_ret
 exact ⟨rfl,sn_⟩
theorem pressT (p u d f:Int) (w:World):Calls Tryz.prog 100 #[.agg #[.int .u64 p,.int .u64 u,.int .u64 d],.int .i64 f] w fun e w'=>e=.returned (.agg #[.int .u64 (bits .or .u64 p (bit f)),.int .u64 u,.int .u64 d])∧Since w w':=by
 go_enter Tryz.func100,Tryz.ntmps100
 go_wp2_with fail
 go_region_with (first | (go_at_call 153; refine (bitT _ _).mono ?_; rintro e w' ⟨rfl,rfl⟩))
 all_goals
  go_wp2
  exact bodyPost_ret (v:=.agg #[.int .u64 (bits .or .u64 p (bit f)),.int .u64 u,.int .u64 d]) (by simp [results,Tryz.results100,go_sem]) rfl ⟨rfl,sn_⟩
def haU (u f way:Int):Int:=if way=1 then bits .or .u64 u (bit f) else u
def haD (d f way:Int):Int:=if way=2 then bits .or .u64 d (bit f) else d
theorem hallT (p u d f way:Int) (w:World):Calls Tryz.prog 79 #[.agg #[.int .u64 p,.int .u64 u,.int .u64 d],.int .i64 f,.int .i64 way] w fun e w'=>e=.returned (.agg #[.int .u64 p,.int .u64 (haU u f way),.int .u64 (haD d f way)])∧Since w w':=by
 by_cases h1:way=1
 ·subst h1
  have HU:=Lib.hid (show haU u f 1=bits .or .u64 u (bit f) by unfold haU; simp)
  have HD:=Lib.hid (show haD d f 1=d by unfold haD; simp)
  go_enter Tryz.func79,Tryz.ntmps79
  go_wp2_with fail
  go_region_with (first | (go_at_call 153; refine (bitT _ _).mono ?_; rintro e w' ⟨rfl,rfl⟩))
  all_goals
   go_wp2
   exact bodyPost_ret (v:=.agg #[.int .u64 p,.int .u64 (bits .or .u64 u (bit f)),.int .u64 d]) (by simp [results,Tryz.results79,go_sem]) rfl ⟨by rw [HU.out,HD.out],sn_⟩
 ·have h1':(way == 1)=false:=by simpa using h1
  by_cases h2:way=2
  ·subst h2
   have HU:=Lib.hid (show haU u f 2=u by unfold haU; simp)
   have HD:=Lib.hid (show haD d f 2=bits .or .u64 d (bit f) by unfold haD; simp)
   go_enter Tryz.func79,Tryz.ntmps79
   go_wp2_with fail
   go_region_with (first | (go_at_call 153; refine (bitT _ _).mono ?_; rintro e w' ⟨rfl,rfl⟩))
   all_goals
    go_wp2
    exact bodyPost_ret (v:=.agg #[.int .u64 p,.int .u64 u,.int .u64 (bits .or .u64 d (bit f))]) (by simp [results,Tryz.results79,go_sem]) rfl ⟨by rw [HU.out,HD.out],sn_⟩
  ·have h2':(way == 2)=false:=by simpa using h2
   have HU:=Lib.hid (show haU u f way=u by unfold haU; simp [h1])
   have HD:=Lib.hid (show haD d f way=d by unfold haD; simp [h2])
   go_enter Tryz.func79,Tryz.ntmps79
   go_wp2
   exact bodyPost_ret (v:=.agg #[.int .u64 p,.int .u64 u,.int .u64 d]) (by simp [results,Tryz.results79,go_sem]) rfl ⟨by rw [HU.out,HD.out],sn_⟩
def clP (p f:Int):Int:=bits .andNot .u64 p (bit f)
def clU (u f way:Int):Int:=if way=1 then bits .andNot .u64 u (bit f) else u
def clD (d f way:Int):Int:=if way=2 then bits .andNot .u64 d (bit f) else d
set_option maxHeartbeats 1000000 in
theorem clearT (p u d f way:Int) (w:World):Calls Tryz.prog 203 #[.agg #[.int .u64 p,.int .u64 u,.int .u64 d],.int .i64 f,.int .i64 way] w fun e w'=>e=.returned (.agg #[.int .u64 (clP p f),.int .u64 (clU u f way),.int .u64 (clD d f way)])∧Since w w':=by
 have HP:=Lib.hid (show clP p f=bits .andNot .u64 p (bit f) from rfl)
 by_cases h1:way=1
 ·subst h1
  have HU:=Lib.hid (show clU u f 1=bits .andNot .u64 u (bit f) by unfold clU; simp)
  have HD:=Lib.hid (show clD d f 1=d by unfold clD; simp)
  go_enter Tryz.func203,Tryz.ntmps203
  go_wp2_with fail
  go_region_with (first | (go_at_call 153; refine (bitT _ _).mono ?_; rintro e w' ⟨rfl,rfl⟩))
  all_goals
   go_wp2_with fail
   go_region_with (first | (go_at_call 153; refine (bitT _ _).mono ?_; rintro e w' ⟨rfl,rfl⟩))
   all_goals
    go_wp2
    exact bodyPost_ret (v:=.agg #[.int .u64 (bits .andNot .u64 p (bit f)),.int .u64 (bits .andNot .u64 u (bit f)),.int .u64 d]) (by simp [results,Tryz.results203,go_sem]) rfl ⟨by rw [HP.out,HU.out,HD.out],sn_⟩
 ·have h1':(way == 1)=false:=by simpa using h1
  by_cases h2:way=2
  ·subst h2
   have HU:=Lib.hid (show clU u f 2=u by unfold clU; simp)
   have HD:=Lib.hid (show clD d f 2=bits .andNot .u64 d (bit f) by unfold clD; simp)
   go_enter Tryz.func203,Tryz.ntmps203
   go_wp2_with fail
   go_region_with (first | (go_at_call 153; refine (bitT _ _).mono ?_; rintro e w' ⟨rfl,rfl⟩))
   all_goals
    go_wp2_with fail
    go_region_with (first | (go_at_call 153; refine (bitT _ _).mono ?_; rintro e w' ⟨rfl,rfl⟩))
    all_goals
     go_wp2
     exact bodyPost_ret (v:=.agg #[.int .u64 (bits .andNot .u64 p (bit f)),.int .u64 u,.int .u64 (bits .andNot .u64 d (bit f))]) (by simp [results,Tryz.results203,go_sem]) rfl ⟨by rw [HP.out,HU.out,HD.out],sn_⟩
  ·have h2':(way == 2)=false:=by simpa using h2
   have HU:=Lib.hid (show clU u f way=u by unfold clU; simp [h1])
   have HD:=Lib.hid (show clD d f way=d by unfold clD; simp [h2])
   go_enter Tryz.func203,Tryz.ntmps203
   go_wp2_with fail
   go_region_with (first | (go_at_call 153; refine (bitT _ _).mono ?_; rintro e w' ⟨rfl,rfl⟩))
   all_goals
    go_wp2
    exact bodyPost_ret (v:=.agg #[.int .u64 (bits .andNot .u64 p (bit f)),.int .u64 u,.int .u64 d]) (by simp [results,Tryz.results203,go_sem]) rfl ⟨by rw [HP.out,HU.out,HD.out],sn_⟩
theorem ne_mem {x:Int} (hx:R x) (f:Int):(bits .and .u64 x (bit f) != 0)=mem x f:=by
 rw [Bool.eq_iff_iff,bne_iff_ne]
 cases h:mem x f
 ·simp; exact (and_bit hx f).2 h
 ·simp; intro e; rw [(and_bit hx f).1 e] at h; cases h
def atB (u d f way:Int):Bool:=(way == 1 && mem u f) || (way == 2 && mem d f)
theorem atT (p u d f way:Int) (hu:R u) (hd:R d) (w:World):Calls Tryz.prog 202 #[.agg #[.int .u64 p,.int .u64 u,.int .u64 d],.int .i64 f,.int .i64 way] w fun e w'=>e=.returned (.bool (atB u d f way))∧Since w w':=by
 have HM:=Lib.hid (ne_mem hu f)
 have HN:=Lib.hid (ne_mem hd f)
 clear hu hd
 by_cases h1:way=1
 ·subst h1
  have HA:=Lib.hid (show atB u d f 1=mem u f by unfold atB; simp)
  go_enter Tryz.func202,Tryz.ntmps202
  go_wp2_with fail
  go_quiet ((go_at_call 153; exact quiet_eq (bitT _ _)))
  go_wp2
  go_ret
  exact ⟨ret_bool (by rw [HM.out,HA.out]),sn_⟩
 ·have h1':(way == 1)=false:=by simpa using h1
  by_cases h2:way=2
  ·subst h2
   have HA:=Lib.hid (show atB u d f 2=mem d f by unfold atB; simp)
   go_enter Tryz.func202,Tryz.ntmps202
   go_wp2_with fail
   go_quiet ((go_at_call 153; exact quiet_eq (bitT _ _)))
   go_wp2
   go_ret
   exact ⟨ret_bool (by rw [HN.out,HA.out]),sn_⟩
  ·have h2':(way == 2)=false:=by simpa using h2
   have HA:=Lib.hid (show atB u d f way=false by unfold atB; simp [h1',h2'])
   go_enter Tryz.func202,Tryz.ntmps202
   go_wp2
   go_ret
   exact ⟨ret_bool HA.out.symm,sn_⟩
def heB (p u d f:Int):Bool:=mem (al p u d) f
theorem hereT (p u d f:Int) (hp:R p) (hu:R u) (hd:R d) (w:World):Calls Tryz.prog 228 #[.agg #[.int .u64 p,.int .u64 u,.int .u64 d],.int .i64 f] w fun e w'=>e=.returned (.bool (heB p u d f))∧Since w w':=by
 have HM:=Lib.hid (ne_mem (al_R hp hu hd) f)
 clear hp hu hd
 go_enter Tryz.func228,Tryz.ntmps228
 go_wp2_with fail
 refine (allT _ _ _ _).mono ?_
 rintro e w1 ⟨rfl,hb1⟩
 go_wp2_with (first | (go_at_call 153; refine (bitT _ _).mono ?_; rintro e w' ⟨rfl,rfl⟩))
 go_ret
 exact ⟨ret_bool HM.out,sn_⟩
end St
namespace St
open Go.RowKit Ba
set_option maxRecDepth 100000
def ahB (x f way:Int):Bool:=(way == 1 && (List.range 64).any fun i=>tb x i && decide (f < i)) || (way == 2 && (List.range 64).any fun i=>tb x i && decide ((i:Int) < f))
theorem up_zero {x:Int} (hx:R x) (n:Nat) (h:n≤65):(x / ((2 ^ n:Nat):Int) != 0)=(List.range 64).any fun i=>tb x i && decide (n≤i):=by
 have e:x / ((2 ^ n:Nat):Int)=((x.toNat / 2 ^ n:Nat):Int):=by
  have:x=(x.toNat:Int):=by unfold R at hx; omega
  rw [this]; simp
 rw [e,Bool.eq_iff_iff,bne_iff_ne,List.any_eq_true]
 constructor
 ·intro hne
  have h0:x.toNat / 2 ^ n≠0:=by intro h; rw [h] at hne; exact hne rfl
  obtain ⟨i,hi⟩:=Nat.exists_testBit_of_ne_zero h0
  rw [Nat.testBit_div_two_pow] at hi
  have hlt:n+i < 64:=by
   rcases Nat.lt_or_ge (n+i) 64 with h | h
   ·exact h
   ·have:=tb_hi hx h; unfold tb at this; rw [Nat.add_comm] at hi; simp_all
  refine ⟨n+i,by simp [hlt], ?_⟩
  unfold tb
  rw [Nat.add_comm] at hi
  simp [hi]
 ·rintro ⟨i,hi,hb⟩ hz
  simp at hi hb
  have h0:x.toNat / 2 ^ n=0:=by omega
  have h1:(x.toNat / 2 ^ n).testBit (i - n)=x.toNat.testBit i:=by
   rw [Nat.testBit_div_two_pow]; congr 1; omega
  rw [h0] at h1
  unfold tb at hb
  rw [hb.1] at h1
  simp at h1
theorem down_zero {x:Int} (hx:R x) (n:Nat):(x*((2 ^ n:Nat):Int) % 18446744073709551616 != 0)=(List.range 64).any fun i=>tb x i && decide (n+i < 64):=by
 have e:x*((2 ^ n:Nat):Int) % 18446744073709551616=((x.toNat*2 ^ n % 2 ^ 64:Nat):Int):=by
  have:x=(x.toNat:Int):=by unfold R at hx; omega
  rw [this]; simp
 rw [e,Bool.eq_iff_iff,bne_iff_ne,List.any_eq_true]
 constructor
 ·intro hne
  have h0:x.toNat*2 ^ n % 2 ^ 64≠0:=by intro h; rw [h] at hne; exact hne rfl
  obtain ⟨i,hi⟩:=Nat.exists_testBit_of_ne_zero h0
  rw [Nat.testBit_mod_two_pow,Nat.testBit_mul_two_pow] at hi
  simp at hi
  obtain ⟨h1,h2,h3⟩:=hi
  exact ⟨i - n,by simp; omega,by unfold tb; simp [h3]; omega⟩
 ·rintro ⟨i,hi,hb⟩ hz
  simp at hi hb
  have h0:x.toNat*2 ^ n % 2 ^ 64=0:=by omega
  have h1:(x.toNat*2 ^ n % 2 ^ 64).testBit (n+i)=x.toNat.testBit i:=by
   rw [Nat.testBit_mod_two_pow,Nat.testBit_mul_two_pow]
   simp [hb.2]
  rw [h0] at h1
  unfold tb at hb
  rw [hb.1] at h1
  simp at h1
theorem any_congr (x:Int) (P Q:Nat→Bool) (h:∀ i,i < 64→tb x i=true→P i=Q i):((List.range 64).any fun i=>tb x i && P i)=(List.range 64).any fun i=>tb x i && Q i:=by
 rw [Bool.eq_iff_iff,List.any_eq_true,List.any_eq_true]
 constructor
 ·rintro ⟨i,hi,hb⟩
  simp at hi hb
  exact ⟨i,by simpa using hi,by simp [hb.1,← h i hi hb.1,hb.2]⟩
 ·rintro ⟨i,hi,hb⟩
  simp at hi hb
  exact ⟨i,by simpa using hi,by simp [hb.1,h i hi hb.1,hb.2]⟩
theorem ah_up (x f:Int):ahB x f 1=(List.range 64).any fun i=>tb x i && decide (f < i):=by unfold ahB; simp
theorem ah_down (x f:Int):ahB x f 2=(List.range 64).any fun i=>tb x i && decide ((i:Int) < f):=by unfold ahB; simp
theorem ah_none (x f way:Int) (h1:(way == 1)=false) (h2:(way == 2)=false):ahB x f way=false:=by unfold ahB; rw [h1,h2]; rfl
theorem up_fact {x:Int} (hx:R x) (f:Int) (h0 : -1≤f) (h1:f≤64):(x / 2 ^ (min (f+1).toNat 64) != 0)=ahB x f 1:=by
 have h:=up_zero hx (min (f+1).toNat 64) (by omega)
 rw [ah_up,show ((2:Int) ^ (min (f+1).toNat 64))=((2 ^ (min (f+1).toNat 64):Nat):Int) by simp,h]
 exact any_congr _ _ _ fun i _ _=>by rw [decide_eq_decide]; omega
theorem down_fact {x:Int} (hx:R x) (f:Int) (h0:0≤f) (h1:f≤64):(IntKind.u64.wrap (x*2 ^ (64 - f).toNat) != 0)=ahB x f 2:=by
 have h:=down_zero hx (64 - f).toNat
 rw [ah_down,show ((2:Int) ^ (64 - f).toNat)=((2 ^ (64 - f).toNat:Nat):Int) by simp,
  show IntKind.u64.wrap (x*((2 ^ (64 - f).toNat:Nat):Int))=x*((2 ^ (64 - f).toNat:Nat):Int) % 18446744073709551616 by simp [IntKind.wrap,IntKind.bits,IntKind.signed],h]
 exact any_congr _ _ _ fun i _ _=>by rw [decide_eq_decide]; omega
theorem down_65 {x:Int}:(IntKind.u64.wrap (x*18446744073709551616) != 0)=false:=by
 simp [IntKind.wrap,IntKind.bits,IntKind.signed]
theorem ahB_low (x f:Int) (h:f < -1):ahB x f 1=ahB x (-1) 1∧ahB x f 2=ahB x (-1) 2:=by
 rw [ah_up,ah_up,ah_down,ah_down]
 exact ⟨any_congr _ _ _ fun i _ _=>by rw [decide_eq_decide]; omega,any_congr _ _ _ fun i _ _=>by rw [decide_eq_decide]; omega⟩
theorem ahB_high (x f:Int) (h:64 < f):ahB x f 1=ahB x 64 1∧ahB x f 2=ahB x 64 2:=by
 rw [ah_up,ah_up,ah_down,ah_down]
 exact ⟨any_congr _ _ _ fun i _ _=>by rw [decide_eq_decide]; omega,any_congr _ _ _ fun i _ _=>by rw [decide_eq_decide]; omega⟩
theorem ahB_m1 (x:Int):ahB x (-1) 2=false:=by
 rw [ah_down,List.any_eq_false]; intro i hi; simp <;> omega
theorem aheadT (p u d f way:Int) (hp:R p) (hu:R u) (hd:R d) (w:World):Calls Tryz.prog 229 #[.agg #[.int .u64 p,.int .u64 u,.int .u64 d],.int .i64 f,.int .i64 way] w fun e w'=>e=.returned (.bool (ahB (al p u d) f way))∧Since w w':=by
 have hal:=al_R hp hu hd
 by_cases h1:way=1
 ·subst h1
  rcases (show f < -1∨f = -1∨64 < f∨(0≤f∧f≤64) by omega) with hf | hf | hf | ⟨hf0,hf1⟩
  ·have HU:=Lib.hid (up_fact hal (-1) (by omega) (by omega))
   have HV:=Lib.hid (ahB_low (al p u d) f hf).1
   go_enter Tryz.func229,Tryz.ntmps229
   go_wp2_with fail
   refine (allT _ _ _ _).mono ?_
   rintro e w1 ⟨rfl,hb1⟩
   go_wp2
   go_ret
   exact ⟨ret_bool (by rw [HV.out,← HU.out]; simp),sn_⟩
  ·subst hf
   have HU:=Lib.hid (up_fact hal (-1) (by omega) (by omega))
   go_enter Tryz.func229,Tryz.ntmps229
   go_wp2_with fail
   refine (allT _ _ _ _).mono ?_
   rintro e w1 ⟨rfl,hb1⟩
   go_wp2
   go_ret
   exact ⟨ret_bool (by rw [← HU.out]; simp),sn_⟩
  ·have HU:=Lib.hid (up_fact hal 64 (by omega) (by omega))
   have HV:=Lib.hid (ahB_high (al p u d) f hf).1
   go_enter Tryz.func229,Tryz.ntmps229
   go_wp2_with fail
   refine (allT _ _ _ _).mono ?_
   rintro e w1 ⟨rfl,hb1⟩
   go_wp2
   go_ret
   exact ⟨ret_bool (by rw [HV.out,← HU.out]; simp),sn_⟩
  ·have HU:=Lib.hid (up_fact hal f (by omega) (by omega))
   have hf2:0≤f+1:=by omega
   have hf3:f+1≤65:=by omega
   go_enter Tryz.func229,Tryz.ntmps229
   go_wp2_with fail
   refine (allT _ _ _ _).mono ?_
   rintro e w1 ⟨rfl,hb1⟩
   go_wp2
   go_ret
   exact ⟨ret_bool HU.out,sn_⟩
 ·have h1':(way == 1)=false:=by simpa using h1
  by_cases h2:way=2
  ·subst h2
   rcases (show f < -1∨f = -1∨64 < f∨(0≤f∧f≤64) by omega) with hf | hf | hf | ⟨hf0,hf1⟩
   ·have HV:=Lib.hid ((ahB_low (al p u d) f hf).2.trans (ahB_m1 _))
    have HU:=Lib.hid (down_65 (x:=al p u d))
    go_enter Tryz.func229,Tryz.ntmps229
    go_wp2_with fail
    refine (allT _ _ _ _).mono ?_
    rintro e w1 ⟨rfl,hb1⟩
    go_wp2
    go_ret
    exact ⟨ret_bool (by rw [HV.out]; exact HU.out),sn_⟩
   ·subst hf
    have HV:=Lib.hid (ahB_m1 (al p u d))
    have HU:=Lib.hid (down_65 (x:=al p u d))
    go_enter Tryz.func229,Tryz.ntmps229
    go_wp2_with fail
    refine (allT _ _ _ _).mono ?_
    rintro e w1 ⟨rfl,hb1⟩
    go_wp2
    go_ret
    exact ⟨ret_bool (by rw [HV.out]; exact HU.out),sn_⟩
   ·have HU:=Lib.hid (down_fact hal 64 (by omega) (by omega))
    have HV:=Lib.hid (ahB_high (al p u d) f hf).2
    go_enter Tryz.func229,Tryz.ntmps229
    go_wp2_with fail
    refine (allT _ _ _ _).mono ?_
    rintro e w1 ⟨rfl,hb1⟩
    go_wp2
    go_ret
    exact ⟨ret_bool (by rw [HV.out,← HU.out]; simp),sn_⟩
   ·have HU:=Lib.hid (down_fact hal f (by omega) (by omega))
    go_enter Tryz.func229,Tryz.ntmps229
    go_wp2_with fail
    refine (allT _ _ _ _).mono ?_
    rintro e w1 ⟨rfl,hb1⟩
    go_wp2
    go_ret
    exact ⟨ret_bool HU.out,sn_⟩
  ·have h2':(way == 2)=false:=by simpa using h2
   have HN:=Lib.hid (ah_none (al p u d) f way h1' h2')
   rcases (show f < -1∨64 < f∨(-1≤f∧f≤64) by omega) with hf | hf | ⟨hf0,hf1⟩
   all_goals
    go_enter Tryz.func229,Tryz.ntmps229
    go_wp2
    go_ret
    exact ⟨ret_bool HN.out.symm,sn_⟩
end St
namespace Sc
open Go.RowKit Ba Go.Proofs.YtpiiblkiddcgcaaGreat.St
set_option maxRecDepth 100000
theorem calledT (p u d f way:Int) (hu:R u) (hd:R d) (w:World):Calls Tryz.prog 224 #[.agg #[.int .u64 p,.int .u64 u,.int .u64 d,.int .i64 f],.int .i64 way] w fun e w'=>e=.returned (.bool (atB u d f way))∧Since w w':=by
 go_enter Tryz.func224,Tryz.ntmps224
 go_wp2_with (first | (go_at_call 202; refine (atT _ _ _ _ _ hu hd _).mono ?_; rintro e w1 ⟨rfl,hb1⟩))
 go_ret
 exact ⟨rfl,sn_⟩
theorem aheadP (p u d f way:Int) (hp:R p) (hu:R u) (hd:R d) (w:World):Calls Tryz.prog 225 #[.agg #[.int .u64 p,.int .u64 u,.int .u64 d,.int .i64 f],.int .i64 way] w fun e w'=>e=.returned (.bool (ahB (al p u d) f way))∧Since w w':=by
 go_enter Tryz.func225,Tryz.ntmps225
 go_wp2_with (first | (go_at_call 229; refine (aheadT _ _ _ _ _ hp hu hd _).mono ?_; rintro e w1 ⟨rfl,hb1⟩))
 go_ret
 exact ⟨rfl,sn_⟩
theorem pressedT (p u d f:Int) (hp:R p) (w:World):Calls Tryz.prog 227 #[.agg #[.int .u64 p,.int .u64 u,.int .u64 d,.int .i64 f]] w fun e w'=>e=.returned (.bool (heB p 0 0 f))∧Since w w':=by
 go_enter Tryz.func227,Tryz.ntmps227
 go_wp2_with (first | (go_at_call 228; refine (hereT _ _ _ _ hp R.zero R.zero _).mono ?_; rintro e w1 ⟨rfl,hb1⟩))
 go_ret
 exact ⟨rfl,sn_⟩
def svB (p u d f j:Int):Bool:=heB p u d f && (!(f == j) || (!ahB (al p u d) f 1 && !ahB (al p u d) f 2))
theorem servesT (p u d f j:Int) (hp:R p) (hu:R u) (hd:R d) (w:World):Calls Tryz.prog 222 #[.agg #[.int .u64 p,.int .u64 u,.int .u64 d,.int .i64 f],.int .i64 j] w fun e w'=>e=.returned (.bool (svB p u d f j))∧Since w w':=by
 go_enter Tryz.func222,Tryz.ntmps222
 go_wp2_with (first | (go_at_call 228; refine (hereT _ _ _ _ hp hu hd _).mono ?_; rintro e w1 ⟨rfl,hb1⟩; have hq1:w.heap.size < w1.heap.size:=(by have:=hb1.size; simp at this; omega); obtain ⟨hc1,hf1⟩:=hb1.cf)|(go_at_call 225; refine (aheadP _ _ _ _ _ hp hu hd _).mono ?_; rintro e w2 ⟨rfl,hb2⟩; have hq2:w.heap.size < w2.heap.size:=(by have:=hb2.size; omega); obtain ⟨hc2,hf2⟩:=hb2.cf))
 all_goals
  go_ret
  exact ⟨ret_bool (by unfold svB; simp_all),sn_⟩
def ot (way:Int):Int:=if way=1 then 2 else 1
theorem otherT (way:Int) (w:World):Calls Tryz.prog 226 #[.int .i64 way] w fun e w'=>e=.returned (.int .i64 (ot way))∧w=w':=by
 by_cases h:way=1
 ·subst h
  go_enter Tryz.func226,Tryz.ntmps226
  go_wp2
  go_ret
  exact ⟨rfl,rfl⟩
 ·have h':(way == 1)=false:=by simpa using h
  have HO:=Lib.hid (show ot way=1 from if_neg h)
  go_enter Tryz.func226,Tryz.ntmps226
  go_wp2
  go_ret
  exact ⟨ret_int HO.out.symm,rfl⟩
def fst2 (a b:Bool) (x y:Int):Int:=if a=true then x else if b=true then y else 0
def offC (u d f y1 y2:Int) (k:Nat):Prop:=(1≤k→atB u d f y1=false)∧(2≤k→atB u d f y2=false)
def offA (p u d f y1 y2:Int) (k:Nat):Prop:=(1≤k→ahB (al p u d) f y1=false)∧(2≤k→ahB (al p u d) f y2=false)
theorem firstC (p u d f y1 y2:Int) (b cap:Nat) (hp:R p) (hu:R u) (hd:R d) (w:World) (h1:w.cell? ⟨b,0,none⟩=some (.int .i64 y1)) (h2:w.cell? ⟨b,1,none⟩=some (.int .i64 y2)):Calls Tryz.prog 223 #[.func (.func 224) #[.agg #[.int .u64 p,.int .u64 u,.int .u64 d,.int .i64 f]] #[],.slice (some ⟨b,0,none⟩) 2 cap] w fun e w'=>e=.returned (.int .i64 (fst2 (atB u d f y1) (atB u d f y2) y1 y2))∧Since w w':=by
 have HB:=Lib.hid (World.block_lt_of_cell? _ _ h1)
 have H1:=Lib.hid h1
 have H2:=Lib.hid h2
 clear h1 h2
 go_enter Tryz.func223,Tryz.ntmps223
 go_wp2_with fail
 go_loopw [9] (fun i wr=>∃ k:Nat,k≤2∧i=.int .i64 k∧offC u d f y1 y2 k∧Since w wr) (fun i _=>(2 - intOf i).toNat)
 case atStart=>exact ⟨0,by omega,rfl,(⟨fun h=>by omega,fun h=>by omega⟩:offC u d f y1 y2 0),Since.refl _⟩
 case round =>
  obtain ⟨k,hk,rfl,HN,hs⟩:=hrel
  have c1:=keep_cell hs H1.out
  have c2:=keep_cell hs H2.out
  have HW:=Lib.hid hs
  clear hs
  rcases (show k=0∨k=1∨k=2 by omega) with rfl | rfl | rfl
  ·cases hK:atB u d f y1
   ·have HK:=Lib.hid hK
    go_wp2_with (first | (go_at_call 224; refine (calledT _ _ _ _ _ hu hd _).mono ?_; rintro e w2 ⟨rfl,hb2⟩))
    go_roundw
    case rel=>exact ⟨1,by omega,rfl,(⟨fun _=>HK.out,fun h=>by omega⟩:offC u d f y1 y2 1),sn_⟩
    case measure=>simp [intOf]
   ·have HK:=Lib.hid hK
    go_wp2_with (first | (go_at_call 224; refine (calledT _ _ _ _ _ hu hd _).mono ?_; rintro e w2 ⟨rfl,hb2⟩))
    go_ret
    exact ⟨ret_int (by rw [HK.out]; rfl),sn_⟩
  ·cases hK:atB u d f y2
   ·have HK:=Lib.hid hK
    go_wp2_with (first | (go_at_call 224; refine (calledT _ _ _ _ _ hu hd _).mono ?_; rintro e w2 ⟨rfl,hb2⟩))
    go_roundw
    case rel=>exact ⟨2,by omega,rfl,(⟨fun _=>HN.1 (by omega),fun _=>HK.out⟩:offC u d f y1 y2 2),sn_⟩
    case measure=>simp [intOf]
   ·have HK:=Lib.hid hK
    go_wp2_with (first | (go_at_call 224; refine (calledT _ _ _ _ _ hu hd _).mono ?_; rintro e w2 ⟨rfl,hb2⟩))
    go_ret
    exact ⟨ret_int (by rw [HK.out,HN.1 (by omega)]; rfl),sn_⟩
  ·go_wp2
   go_ret
   exact ⟨ret_int (by rw [HN.1 (by omega),HN.2 (by omega)]; rfl),sn_⟩
theorem firstA (p u d f y1 y2:Int) (b cap:Nat) (hp:R p) (hu:R u) (hd:R d) (w:World) (h1:w.cell? ⟨b,0,none⟩=some (.int .i64 y1)) (h2:w.cell? ⟨b,1,none⟩=some (.int .i64 y2)):Calls Tryz.prog 223 #[.func (.func 225) #[.agg #[.int .u64 p,.int .u64 u,.int .u64 d,.int .i64 f]] #[],.slice (some ⟨b,0,none⟩) 2 cap] w fun e w'=>e=.returned (.int .i64 (fst2 (ahB (al p u d) f y1) (ahB (al p u d) f y2) y1 y2))∧Since w w':=by
 have HB:=Lib.hid (World.block_lt_of_cell? _ _ h1)
 have H1:=Lib.hid h1
 have H2:=Lib.hid h2
 clear h1 h2
 go_enter Tryz.func223,Tryz.ntmps223
 go_wp2_with fail
 go_loopw [9] (fun i wr=>∃ k:Nat,k≤2∧i=.int .i64 k∧offA p u d f y1 y2 k∧Since w wr) (fun i _=>(2 - intOf i).toNat)
 case atStart=>exact ⟨0,by omega,rfl,(⟨fun h=>by omega,fun h=>by omega⟩:offA p u d f y1 y2 0),Since.refl _⟩
 case round =>
  obtain ⟨k,hk,rfl,HN,hs⟩:=hrel
  have c1:=keep_cell hs H1.out
  have c2:=keep_cell hs H2.out
  have HW:=Lib.hid hs
  clear hs
  rcases (show k=0∨k=1∨k=2 by omega) with rfl | rfl | rfl
  ·cases hK:ahB (al p u d) f y1
   ·have HK:=Lib.hid hK
    go_wp2_with (first | (go_at_call 225; refine (aheadP _ _ _ _ _ hp hu hd _).mono ?_; rintro e w2 ⟨rfl,hb2⟩))
    go_roundw
    case rel=>exact ⟨1,by omega,rfl,(⟨fun _=>HK.out,fun h=>by omega⟩:offA p u d f y1 y2 1),sn_⟩
    case measure=>simp [intOf]
   ·have HK:=Lib.hid hK
    go_wp2_with (first | (go_at_call 225; refine (aheadP _ _ _ _ _ hp hu hd _).mono ?_; rintro e w2 ⟨rfl,hb2⟩))
    go_ret
    exact ⟨ret_int (by rw [HK.out]; rfl),sn_⟩
  ·cases hK:ahB (al p u d) f y2
   ·have HK:=Lib.hid hK
    go_wp2_with (first | (go_at_call 225; refine (aheadP _ _ _ _ _ hp hu hd _).mono ?_; rintro e w2 ⟨rfl,hb2⟩))
    go_roundw
    case rel=>exact ⟨2,by omega,rfl,(⟨fun _=>HN.1 (by omega),fun _=>HK.out⟩:offA p u d f y1 y2 2),sn_⟩
    case measure=>simp [intOf]
   ·have HK:=Lib.hid hK
    go_wp2_with (first | (go_at_call 225; refine (aheadP _ _ _ _ _ hp hu hd _).mono ?_; rintro e w2 ⟨rfl,hb2⟩))
    go_ret
    exact ⟨ret_int (by rw [HK.out,HN.1 (by omega)]; rfl),sn_⟩
  ·go_wp2
   go_ret
   exact ⟨ret_int (by rw [HN.1 (by omega),HN.2 (by omega)]; rfl),sn_⟩
def stW (p u d f j:Int):Int:=if svB p u d f j=true then fst2 (atB u d f 1) (atB u d f 2) 1 2 else fst2 (ahB (al p u d) f 1) (ahB (al p u d) f 2) 1 2
theorem ret_wo {a a':Int} {b b':Bool} (h:a=a') (k:b=b'):Ending.returned (.tuple #[.int .i64 a,.bool b])=.returned (.tuple #[.int .i64 a',.bool b']):=by rw [h,k]
theorem fromStillT (p u d f j:Int) (hp:R p) (hu:R u) (hd:R d) (w:World):Calls Tryz.prog 200 #[.agg #[.int .u64 p,.int .u64 u,.int .u64 d,.int .i64 f],.int .i64 j] w fun e w'=>e=.returned (.tuple #[.int .i64 (stW p u d f j),.bool (svB p u d f j)])∧Since w w':=by
 cases hs:svB p u d f j
 ·have HS:=Lib.hid hs
  go_enter Tryz.func200,Tryz.ntmps200
  go_wp2_with fail
  refine (servesT _ _ _ _ _ hp hu hd _).mono ?_
  rintro e w1 ⟨rfl,hb1⟩
  have hz1:=hb1.size
  try simp at hz1
  have hl1_0:w.heap.size < w1.heap.size:=by omega
  obtain ⟨hc1,hf1⟩:=hb1.cf
  have HB1:=Lib.hid hb1
  clear hb1
  go_wp2_with fail
  refine (firstA _ _ _ _ 1 2 _ _ hp hu hd _ (by simp) (by simp)).mono ?_
  rintro e w2 ⟨rfl,hb2⟩
  go_wp2
  go_ret2
  exact ⟨ret_wo (by unfold stW; rw [HS.out]; rfl) rfl,sn_⟩
 ·have HS:=Lib.hid hs
  go_enter Tryz.func200,Tryz.ntmps200
  go_wp2_with fail
  refine (servesT _ _ _ _ _ hp hu hd _).mono ?_
  rintro e w1 ⟨rfl,hb1⟩
  have hz1:=hb1.size
  try simp at hz1
  have hl1_0:w.heap.size < w1.heap.size:=by omega
  obtain ⟨hc1,hf1⟩:=hb1.cf
  have HB1:=Lib.hid hb1
  clear hb1
  go_wp2_with fail
  refine (firstC _ _ _ _ 1 2 _ _ hp hu hd _ (by simp) (by simp)).mono ?_
  rintro e w2 ⟨rfl,hb2⟩
  go_wp2
  go_ret2
  exact ⟨ret_wo (by unfold stW; rw [HS.out]; rfl) rfl,sn_⟩
end Sc
namespace Sc
open Go.RowKit Ba Go.Proofs.YtpiiblkiddcgcaaGreat.St
set_option maxRecDepth 100000
def onO (p u d f way j:Int):Bool:=svB p u d f j && (atB u d f way || (heB p 0 0 f && ahB (al p u d) f way) || !ahB (al p u d) f way)
def onW (p u d f way j:Int):Int :=
  if svB p u d f j=true then
    (if atB u d f way=true∨(heB p 0 0 f=true∧ahB (al p u d) f way=true) then way
     else if ahB (al p u d) f way=false∧atB u d f (ot way)=true then ot way
     else if ahB (al p u d) f way=false then way
     else fst2 (ahB (al p u d) f way) (ahB (al p u d) f (ot way)) way (ot way))
  else fst2 (ahB (al p u d) f way) (ahB (al p u d) f (ot way)) way (ot way)
theorem onwardT (p u d f way j:Int) (hp:R p) (hu:R u) (hd:R d) (w:World):Calls Tryz.prog 201 #[.agg #[.int .u64 p,.int .u64 u,.int .u64 d,.int .i64 f],.int .i64 way,.int .i64 j] w fun e w'=>e=.returned (.tuple #[.int .i64 (onW p u d f way j),.bool (onO p u d f way j)])∧Since w w':=by
 cases hs:svB p u d f j
 ·have HS:=Lib.hid hs
  go_enter Tryz.func201,Tryz.ntmps201
  go_wp2_with fail
  refine (otherT _ _).mono ?_
  rintro e w' ⟨rfl,rfl⟩
  go_wp2_with fail
  refine (servesT _ _ _ _ _ hp hu hd _).mono ?_
  rintro e w1 ⟨rfl,hb1⟩
  have hz1:=hb1.size
  try simp at hz1
  have hl1_0:w.heap.size < w1.heap.size:=by omega
  obtain ⟨hc1,hf1⟩:=hb1.cf
  have HB1:=Lib.hid hb1
  clear hb1
  go_wp2_with fail
  refine (firstA _ _ _ _ way (ot way) _ _ hp hu hd _ (by simp) (by simp)).mono ?_
  rintro e w2 ⟨rfl,hb2⟩
  go_wp2
  go_ret2
  exact ⟨ret_wo (by unfold onW; rw [HS.out]; rfl) (by unfold onO; rw [HS.out]; rfl),sn_⟩
 ·have HS:=Lib.hid hs
  cases ha:ahB (al p u d) f way
  ·have HA:=Lib.hid ha
   cases hc:atB u d f way
   ·have HC:=Lib.hid hc
    cases hb:atB u d f (ot way)
    all_goals
     have HBK:=Lib.hid hb
     go_enter Tryz.func201,Tryz.ntmps201
     go_wp2_with fail
     refine (otherT _ _).mono ?_
     rintro e w' ⟨rfl,rfl⟩
     go_wp2_with fail
     refine (servesT _ _ _ _ _ hp hu hd _).mono ?_
     rintro e w1 ⟨rfl,hb1⟩
     have hq1:w.heap.size < w1.heap.size:=by have:=hb1.size; simp at this; omega
     obtain ⟨hc1,hf1⟩:=hb1.cf
     go_wp2_with fail
     refine (aheadP _ _ _ _ _ hp hu hd _).mono ?_
     rintro e w2 ⟨rfl,hb2⟩
     have hq2:w.heap.size < w2.heap.size:=by have:=hb2.size; omega
     obtain ⟨hc2,hf2⟩:=hb2.cf
     go_wp2_with fail
     refine (calledT _ _ _ _ _ hu hd _).mono ?_
     rintro e w3 ⟨rfl,hb3⟩
     have hq3:w.heap.size < w3.heap.size:=by have:=hb3.size; omega
     obtain ⟨hc3,hf3⟩:=hb3.cf
     go_wp2_with fail
     refine (pressedT _ _ _ _ hp _).mono ?_
     rintro e w4 ⟨rfl,hb4⟩
     have hq4:w.heap.size < w4.heap.size:=by have:=hb4.size; omega
     obtain ⟨hc4,hf4⟩:=hb4.cf
     cases hpr:heB p 0 0 f
     all_goals
      have HPR:=Lib.hid hpr
      go_wp2_with (first | (go_at_call 224; refine (calledT _ _ _ _ _ hu hd _).mono ?_; rintro e w5 ⟨rfl,hb5⟩))
      go_ret2
      exact ⟨ret_wo (by unfold onW; rw [HS.out,HA.out,HC.out,HBK.out]; simp) (by unfold onO; rw [HS.out,HA.out,HC.out]; simp),sn_⟩
   ·have HC:=Lib.hid hc
    go_enter Tryz.func201,Tryz.ntmps201
    go_wp2_with fail
    refine (otherT _ _).mono ?_
    rintro e w' ⟨rfl,rfl⟩
    go_wp2_with fail
    refine (servesT _ _ _ _ _ hp hu hd _).mono ?_
    rintro e w1 ⟨rfl,hb1⟩
    have hz1:=hb1.size
    try simp at hz1
    have hl1_0:w.heap.size < w1.heap.size:=by omega
    obtain ⟨hc1,hf1⟩:=hb1.cf
    have HB1:=Lib.hid hb1
    clear hb1
    go_wp2_with fail
    refine (aheadP _ _ _ _ _ hp hu hd _).mono ?_
    rintro e w2 ⟨rfl,hb2⟩
    have hq2:w.heap.size < w2.heap.size:=by have:=hb2.size; omega
    obtain ⟨hc2,hf2⟩:=hb2.cf
    go_wp2_with fail
    refine (calledT _ _ _ _ _ hu hd _).mono ?_
    rintro e w3 ⟨rfl,hb3⟩
    go_wp2
    go_ret2
    exact ⟨ret_wo (by unfold onW; rw [HS.out,HC.out]; simp) (by unfold onO; rw [HS.out,HC.out]; simp),sn_⟩
  ·have HA:=Lib.hid ha
   cases hc:atB u d f way
   ·have HC:=Lib.hid hc
    cases hpr:heB p 0 0 f
    ·have HPR:=Lib.hid hpr
     go_enter Tryz.func201,Tryz.ntmps201
     go_wp2_with fail
     refine (otherT _ _).mono ?_
     rintro e w' ⟨rfl,rfl⟩
     go_wp2_with fail
     refine (servesT _ _ _ _ _ hp hu hd _).mono ?_
     rintro e w1 ⟨rfl,hb1⟩
     have hz1:=hb1.size
     try simp at hz1
     have hl1_0:w.heap.size < w1.heap.size:=by omega
     obtain ⟨hc1,hf1⟩:=hb1.cf
     have HB1:=Lib.hid hb1
     clear hb1
     go_wp2_with fail
     refine (aheadP _ _ _ _ _ hp hu hd _).mono ?_
     rintro e w2 ⟨rfl,hb2⟩
     have hq2:w.heap.size < w2.heap.size:=by have:=hb2.size; omega
     obtain ⟨hc2,hf2⟩:=hb2.cf
     go_wp2_with fail
     refine (calledT _ _ _ _ _ hu hd _).mono ?_
     rintro e w3 ⟨rfl,hb3⟩
     have hq3:w.heap.size < w3.heap.size:=by have:=hb3.size; omega
     obtain ⟨hc3,hf3⟩:=hb3.cf
     go_wp2_with fail
     refine (pressedT _ _ _ _ hp _).mono ?_
     rintro e w4 ⟨rfl,hb4⟩
     have hq4:w.heap.size < w4.heap.size:=by have:=hb4.size; omega
     obtain ⟨hc4,hf4⟩:=hb4.cf
     go_wp2_with fail
     refine (firstA _ _ _ _ way (ot way) _ _ hp hu hd _ (by simp) (by simp)).mono ?_
     rintro e w5 ⟨rfl,hb5⟩
     go_wp2
     go_ret2
     exact ⟨ret_wo (by unfold onW; rw [HS.out,HA.out,HC.out,HPR.out]; simp) (by unfold onO; rw [HS.out,HA.out,HC.out,HPR.out]; simp),sn_⟩
    ·have HPR:=Lib.hid hpr
     go_enter Tryz.func201,Tryz.ntmps201
     go_wp2_with fail
     refine (otherT _ _).mono ?_
     rintro e w' ⟨rfl,rfl⟩
     go_wp2_with fail
     refine (servesT _ _ _ _ _ hp hu hd _).mono ?_
     rintro e w1 ⟨rfl,hb1⟩
     have hz1:=hb1.size
     try simp at hz1
     have hl1_0:w.heap.size < w1.heap.size:=by omega
     obtain ⟨hc1,hf1⟩:=hb1.cf
     have HB1:=Lib.hid hb1
     clear hb1
     go_wp2_with fail
     refine (aheadP _ _ _ _ _ hp hu hd _).mono ?_
     rintro e w2 ⟨rfl,hb2⟩
     have hq2:w.heap.size < w2.heap.size:=by have:=hb2.size; omega
     obtain ⟨hc2,hf2⟩:=hb2.cf
     go_wp2_with fail
     refine (calledT _ _ _ _ _ hu hd _).mono ?_
     rintro e w3 ⟨rfl,hb3⟩
     have hq3:w.heap.size < w3.heap.size:=by have:=hb3.size; omega
     obtain ⟨hc3,hf3⟩:=hb3.cf
     go_wp2_with fail
     refine (pressedT _ _ _ _ hp _).mono ?_
     rintro e w4 ⟨rfl,hb4⟩
     go_wp2
     go_ret2
     exact ⟨ret_wo (by unfold onW; rw [HS.out,HA.out,HC.out,HPR.out]; simp) (by unfold onO; rw [HS.out,HA.out,HC.out,HPR.out]; simp),sn_⟩
   ·have HC:=Lib.hid hc
    go_enter Tryz.func201,Tryz.ntmps201
    go_wp2_with fail
    refine (otherT _ _).mono ?_
    rintro e w' ⟨rfl,rfl⟩
    go_wp2_with fail
    refine (servesT _ _ _ _ _ hp hu hd _).mono ?_
    rintro e w1 ⟨rfl,hb1⟩
    have hz1:=hb1.size
    try simp at hz1
    have hl1_0:w.heap.size < w1.heap.size:=by omega
    obtain ⟨hc1,hf1⟩:=hb1.cf
    have HB1:=Lib.hid hb1
    clear hb1
    go_wp2_with fail
    refine (aheadP _ _ _ _ _ hp hu hd _).mono ?_
    rintro e w2 ⟨rfl,hb2⟩
    have hq2:w.heap.size < w2.heap.size:=by have:=hb2.size; omega
    obtain ⟨hc2,hf2⟩:=hb2.cf
    go_wp2_with fail
    refine (calledT _ _ _ _ _ hu hd _).mono ?_
    rintro e w3 ⟨rfl,hb3⟩
    go_wp2
    go_ret2
    exact ⟨ret_wo (by unfold onW; rw [HS.out,HC.out]; simp) (by unfold onO; rw [HS.out,HC.out]; simp),sn_⟩
def nxW (p u d f way j:Int):Int:=if way=0 then stW p u d f j else onW p u d f way j
def nxO (p u d f way j:Int):Bool:=if way=0 then svB p u d f j else onO p u d f way j
theorem nextT (p u d f way j:Int) (hp:R p) (hu:R u) (hd:R d) (w:World):Calls Tryz.prog 156 #[.agg #[.int .u64 p,.int .u64 u,.int .u64 d],.int .i64 f,.int .i64 way,.int .i64 j] w fun e w'=>e=.returned (.tuple #[.int .i64 (nxW p u d f way j),.bool (nxO p u d f way j)])∧Since w w':=by
 by_cases h:way=0
 ·subst h
  have HW:=Lib.hid (show nxW p u d f 0 j=stW p u d f j from if_pos rfl)
  have HO:=Lib.hid (show nxO p u d f 0 j=svB p u d f j from if_pos rfl)
  go_enter Tryz.func156,Tryz.ntmps156
  go_wp2_with (first | (go_at_call 200; refine (fromStillT _ _ _ _ _ hp hu hd _).mono ?_; rintro e w1 ⟨rfl,hb1⟩))
  go_ret2
  exact ⟨ret_wo HW.out.symm HO.out.symm,sn_⟩
 ·have h':(way == 0)=false:=by simpa using h
  have HW:=Lib.hid (show nxW p u d f way j=onW p u d f way j from if_neg h)
  have HO:=Lib.hid (show nxO p u d f way j=onO p u d f way j from if_neg h)
  go_enter Tryz.func156,Tryz.ntmps156
  go_wp2_with (first | (go_at_call 201; refine (onwardT _ _ _ _ _ _ hp hu hd _).mono ?_; rintro e w1 ⟨rfl,hb1⟩))
  go_ret2
  exact ⟨ret_wo HW.out.symm HO.out.symm,sn_⟩
end Sc
namespace St
open Go.RowKit Ba
set_option maxRecDepth 100000
theorem bitR (f:Int) (w:World):Calls Tryz.prog 87 #[.int .i64 f] w fun e w'=>e=.returned (.int .u64 (bit f))∧w=w':=by
 by_cases h:0≤f∧f < 64
 ·obtain ⟨h0,h1⟩:=h
  have hb:=(bit_R f)
  have e:IntKind.u64.wrap (2 ^ f.toNat)=bit f:=by
   have e1:bit f=((2 ^ f.toNat:Nat):Int):=by unfold bit; rw [if_pos ⟨h0,h1⟩]
   unfold R at hb
   rw [e1] at hb
   rw [IntWalk.u64_in _ (by rw [Int.natCast_pow] at hb; simp at hb; omega),e1]
   simp
  have HE:=Lib.hid e
  clear e hb
  go_enter Tryz.func87,Tryz.ntmps87
  go_wp2
  go_ret
  exact ⟨ret_int HE.out,rfl⟩
 ·have e:bit f=0:=by unfold bit; rw [if_neg h]
  have HE:=Lib.hid e
  clear e
  rcases (show f < 0∨63 < f by omega) with h1 | h1
  all_goals
   clear h
   go_enter Tryz.func87,Tryz.ntmps87
   go_wp2
   go_ret
   exact ⟨ret_int HE.out.symm,rfl⟩
theorem has_fact {x:Int} (hx:R x) (f:Int) (h0:0≤f) (h1:f < 64):(bits .and .u64 (x / 2 ^ f.toNat) 1 == 1)=mem x f:=by
 have hn:=hx.nat
 have e:x / 2 ^ f.toNat=((x.toNat / 2 ^ f.toNat:Nat):Int):=by
  have h2:x=(x.toNat:Int):=by unfold R at hx; omega
  conv=>lhs; rw [h2]
  simp
 have hlt:x.toNat / 2 ^ f.toNat < 18446744073709551616:=Nat.lt_of_le_of_lt (Nat.div_le_self _ _) hn
 have e2:=u64_and_nat (x.toNat / 2 ^ f.toNat) 1 hlt (by omega)
 rw [nat_mask1] at e2
 have e3:bits .and .u64 (x / 2 ^ f.toNat) 1=((x.toNat / 2 ^ f.toNat % 2:Nat):Int):=by rw [e]; exact e2
 rw [e3]
 unfold mem tb
 rw [Nat.testBit_eq_decide_div_mod_eq]
 have hd:decide (0≤f∧f < 64)=true:=by simp; omega
 rw [hd]
 rcases Nat.mod_two_eq_zero_or_one (x.toNat / 2 ^ f.toNat) with h | h
 ·rw [h]; rfl
 ·rw [h]; rfl
theorem hasR (x f:Int) (hx:R x) (w:World):Calls Tryz.prog 170 #[.int .u64 x,.int .i64 f] w fun e w'=>e=.returned (.bool (mem x f))∧w=w':=by
 by_cases h:0≤f∧f < 64
 ·obtain ⟨h0,h1⟩:=h
  have HF:=Lib.hid (has_fact hx f h0 h1)
  go_enter Tryz.func170,Tryz.ntmps170
  go_wp2
  go_ret
  exact ⟨ret_bool HF.out,rfl⟩
 ·have e:mem x f=false:=by unfold mem; simp; intro a b; omega
  have HE:=Lib.hid e
  clear e
  rcases (show f < 0∨64≤f by omega) with h1 | h1
  all_goals
   clear h
   go_enter Tryz.func170,Tryz.ntmps170
   go_wp2
   go_ret
   exact ⟨ret_bool HE.out.symm,rfl⟩
theorem anyR (p u d f:Int) (hp:R p) (hu:R u) (hd:R d) (w:World):Calls Tryz.prog 167 #[.agg #[.int .u64 p,.int .u64 u,.int .u64 d],.int .i64 f] w fun e w'=>e=.returned (.bool (heB p u d f))∧Since w w':=by
 have HA:=Lib.hid (al_mem hp hu hd f)
 go_enter Tryz.func167,Tryz.ntmps167
 go_wp2_with (first | (go_at_call 170; refine (hasR _ _ (by assumption) _).mono ?_; rintro e w' ⟨rfl,rfl⟩))
 all_goals
  go_ret
  exact ⟨ret_bool (by unfold heB; rw [HA.out]; simp [*]),sn_⟩
theorem hallR (p u d f way:Int) (hu:R u) (hd:R d) (w:World):Calls Tryz.prog 92 #[.agg #[.int .u64 p,.int .u64 u,.int .u64 d],.int .i64 f,.int .i64 way] w fun e w'=>e=.returned (.bool (atB u d f way))∧Since w w':=by
 go_enter Tryz.func92,Tryz.ntmps92
 go_wp2_with (first | (go_at_call 170; refine (hasR _ _ (by assumption) _).mono ?_; rintro e w' ⟨rfl,rfl⟩))
 all_goals
  go_ret
  exact ⟨ret_bool (by unfold atB; simp [*]),sn_⟩
def noHit (p u d f way:Int) (k:Nat):Prop:=∀ j:Nat,j < k→¬ (heB p u d j=true∧(way=1∧f < j∨way=2∧(j:Int) < f))
theorem noHit_succ {p u d f way:Int} {k:Nat} (h:noHit p u d f way k) (n:¬ (heB p u d k=true∧(way=1∧f < k∨way=2∧(k:Int) < f))):noHit p u d f way (k+1):=by
 intro j hj
 rcases Nat.lt_succ_iff_lt_or_eq.1 hj with h1 | h1
 ·exact h j h1
 ·subst h1; exact n
theorem he_tb (p u d:Int) (k:Nat) (hk:k < 64):heB p u d k=tb (al p u d) k:=by unfold heB; exact mem_at _ _ hk
theorem ah_hit {p u d f way:Int} {k:Nat} (hk:k < 64) (h:heB p u d k=true) (c:way=1∧f < k∨way=2∧(k:Int) < f):ahB (al p u d) f way=true:=by
 rw [he_tb _ _ _ _ hk] at h
 rcases c with ⟨rfl,c⟩ | ⟨rfl,c⟩
 ·rw [ah_up,List.any_eq_true]; exact ⟨k,by simpa using hk,by simp [h,c]⟩
 ·rw [ah_down,List.any_eq_true]; exact ⟨k,by simpa using hk,by simp [h,c]⟩
theorem ah_no {p u d f way:Int} (h:noHit p u d f way 64):ahB (al p u d) f way=false:=by
 cases e:ahB (al p u d) f way
 ·rfl
 ·exfalso
  unfold ahB at e
  rw [Bool.or_eq_true] at e
  rcases e with e | e
  ·rw [Bool.and_eq_true,List.any_eq_true] at e
   obtain ⟨e1,i,hi,hb⟩:=e
   simp at e1 hi hb
   exact h i hi ⟨by rw [he_tb _ _ _ _ hi]; exact hb.1,.inl ⟨e1,hb.2⟩⟩
  ·rw [Bool.and_eq_true,List.any_eq_true] at e
   obtain ⟨e1,i,hi,hb⟩:=e
   simp at e1 hi hb
   exact h i hi ⟨by rw [he_tb _ _ _ _ hi]; exact hb.1,.inr ⟨e1,hb.2⟩⟩
theorem aheadR (p u d f way:Int) (hp:R p) (hu:R u) (hd:R d) (w:World):Calls Tryz.prog 168 #[.agg #[.int .u64 p,.int .u64 u,.int .u64 d],.int .i64 f,.int .i64 way] w fun e w'=>e=.returned (.bool (ahB (al p u d) f way))∧Since w w':=by
 go_enter Tryz.func168,Tryz.ntmps168
 go_wp2_with fail
 go_loopw [7] (fun i wr=>∃ k:Nat,k≤64∧i=.int .i64 k∧Hid (noHit p u d f way k)∧Since w wr∧wr.cell? ⟨w.heap.size,0,none⟩=some (.int .u64 p)∧wr.cell? ⟨w.heap.size,1,none⟩=some (.int .u64 u)∧wr.cell? ⟨w.heap.size,2,none⟩=some (.int .u64 d)∧wr.frozen? ⟨w.heap.size,0,none⟩=false∧wr.frozen? ⟨w.heap.size,1,none⟩=false∧wr.frozen? ⟨w.heap.size,2,none⟩=false∧w.heap.size < wr.heap.size) (fun i _=>(64 - intOf i).toNat)
 case atStart=>exact ⟨0,by omega,rfl,Lib.hid (fun j hj=>by omega),sn_,by simp,by simp,by simp,by simp,by simp,by simp,by simp⟩
 case round =>
  obtain ⟨k,hk,rfl,HN,hs,c0,c1,c2,f0,f1,f2,hl⟩:=hrel
  have HW:=Lib.hid hs
  clear hs
  by_cases hlt:k < 64
  ·have hk0:(k:Int) < 64:=by omega
   by_cases hh:heB p u d k=true
   ·rcases (show (way=1∧f < k)∨(way=1∧¬ f < k)∨(way=2∧(k:Int) < f)∨(way=2∧¬ (k:Int) < f)∨(way≠1∧way≠2) by omega) with ⟨rfl,hc⟩ | ⟨rfl,hc⟩ | ⟨rfl,hc⟩ | ⟨rfl,hc⟩ | ⟨hc1,hc2⟩
    ·have HA:=Lib.hid (ah_hit hlt hh (.inl ⟨rfl,hc⟩))
     go_wp2_with (first | (go_at_call 167; refine (anyR _ _ _ _ hp hu hd _).mono ?_; rintro e w2 ⟨rfl,hb2⟩; obtain ⟨hc2,hf2⟩:=hb2.cf))
     go_ret
     exact ⟨ret_bool HA.out.symm,sn_⟩
    ·have HM:=Lib.hid (noHit_succ HN.out (by omega))
     go_wp2_with (first | (go_at_call 167; refine (anyR _ _ _ _ hp hu hd _).mono ?_; rintro e w2 ⟨rfl,hb2⟩; obtain ⟨hc2,hf2⟩:=hb2.cf))
     go_roundw
     case rel=>exact ⟨k+1,by omega,by go_num,HM,sn_,keep_cell hb2 c0,keep_cell hb2 c1,keep_cell hb2 c2,keep_frz hb2 c0 f0,keep_frz hb2 c1 f1,keep_frz hb2 c2 f2,by have:=hb2.size; omega⟩
     case measure=>simp [intOf]; omega
    ·have HA:=Lib.hid (ah_hit hlt hh (.inr ⟨rfl,hc⟩))
     go_wp2_with (first | (go_at_call 167; refine (anyR _ _ _ _ hp hu hd _).mono ?_; rintro e w2 ⟨rfl,hb2⟩; obtain ⟨hc2,hf2⟩:=hb2.cf))
     go_ret
     exact ⟨ret_bool HA.out.symm,sn_⟩
    ·have HM:=Lib.hid (noHit_succ HN.out (by omega))
     go_wp2_with (first | (go_at_call 167; refine (anyR _ _ _ _ hp hu hd _).mono ?_; rintro e w2 ⟨rfl,hb2⟩; obtain ⟨hc2,hf2⟩:=hb2.cf))
     go_roundw
     case rel=>exact ⟨k+1,by omega,by go_num,HM,sn_,keep_cell hb2 c0,keep_cell hb2 c1,keep_cell hb2 c2,keep_frz hb2 c0 f0,keep_frz hb2 c1 f1,keep_frz hb2 c2 f2,by have:=hb2.size; omega⟩
     case measure=>simp [intOf]; omega
    ·have HM:=Lib.hid (noHit_succ HN.out (by omega))
     have d1:(way == 1)=false:=by simpa using hc1
     have d2:(way == 2)=false:=by simpa using hc2
     clear hc1 hc2
     go_wp2_with (first | (go_at_call 167; refine (anyR _ _ _ _ hp hu hd _).mono ?_; rintro e w2 ⟨rfl,hb2⟩; obtain ⟨hc2,hf2⟩:=hb2.cf))
     go_roundw
     case rel=>exact ⟨k+1,by omega,by go_num,HM,sn_,keep_cell hb2 c0,keep_cell hb2 c1,keep_cell hb2 c2,keep_frz hb2 c0 f0,keep_frz hb2 c1 f1,keep_frz hb2 c2 f2,by have:=hb2.size; omega⟩
     case measure=>simp [intOf]; omega
   ·have HM:=Lib.hid (noHit_succ HN.out (fun e=>hh e.1))
    have hh':heB p u d k=false:=by simpa using hh
    clear hh
    go_wp2_with (first | (go_at_call 167; refine (anyR _ _ _ _ hp hu hd _).mono ?_; rintro e w2 ⟨rfl,hb2⟩; obtain ⟨hc2,hf2⟩:=hb2.cf))
    go_roundw
    case rel=>exact ⟨k+1,by omega,by go_num,HM,sn_,keep_cell hb2 c0,keep_cell hb2 c1,keep_cell hb2 c2,keep_frz hb2 c0 f0,keep_frz hb2 c1 f1,keep_frz hb2 c2 f2,by have:=hb2.size; omega⟩
    case measure=>simp [intOf]; omega
  ·obtain rfl:k=64:=by omega
   have HA:=Lib.hid (ah_no HN.out)
   go_wp2
   go_ret
   exact ⟨ret_bool HA.out.symm,sn_⟩
end St
namespace St
theorem and_split (m a b c d:Nat) (ha:a < 2 ^ m) (hc:c < 2 ^ m):(a+2 ^ m*b) &&& (c+2 ^ m*d)=(a &&& c)+2 ^ m*(b &&& d):=by
 have hac:a &&& c < 2 ^ m:=Nat.lt_of_le_of_lt Nat.and_le_left ha
 apply Nat.eq_of_testBit_eq
 intro i
 rw [Nat.testBit_and,Nat.add_comm a,Nat.add_comm c,Nat.add_comm (a &&& c),Nat.testBit_two_pow_mul_add _ ha,Nat.testBit_two_pow_mul_add _ hc,Nat.testBit_two_pow_mul_add _ hac]
 split
 ·rw [Nat.testBit_and]
 ·rw [Nat.testBit_and]
def M (k:Nat):Nat→Nat
 | 0=>0
 | n+1=>(2 ^ k - 1)+2 ^ (2*k)*M k n
def S (k:Nat):Nat→Nat→Nat
 | 0,_=>0
 | n+1,x=>(x % 2 ^ k+x / 2 ^ k % 2 ^ k)+2 ^ (2*k)*S k n (x / 2 ^ (2*k))
def T (k:Nat):Nat→Nat→Nat
 | 0,_=>0
 | n+1,x=>x % 2 ^ k+T k n (x / 2 ^ k)
theorem mask_lt (k:Nat):2 ^ k - 1 < 2 ^ (2*k):=by
 have h1:2 ^ k≤2 ^ (2*k):=Nat.pow_le_pow_right (by omega) (by omega)
 have h2:0 < 2 ^ k:=Nat.pow_pos (by omega)
 omega
theorem split_at (m x:Nat):x=x % 2 ^ m+2 ^ m*(x / 2 ^ m):=by rw [Nat.add_comm]; exact (Nat.div_add_mod x (2 ^ m)).symm
theorem and_mask (k n x:Nat):x &&& M k (n+1)=x % 2 ^ k+2 ^ (2*k)*(x / 2 ^ (2*k) &&& M k n):=by
 have h:=and_split (2*k) (x % 2 ^ (2*k)) (x / 2 ^ (2*k)) (2 ^ k - 1) (M k n) (Nat.mod_lt _ (Nat.pow_pos (by omega))) (mask_lt k)
 rw [← split_at] at h
 show x &&& ((2 ^ k - 1)+2 ^ (2*k)*M k n)=_
 rw [h,Nat.and_two_pow_sub_one_eq_mod,Nat.mod_mod_of_dvd _ (Nat.pow_dvd_pow 2 (by omega))]
theorem lanes (k:Nat):∀ n x,(x / 2 ^ k &&& M k n)+(x &&& M k n)=S k n x
 | 0,x=>by simp [M,S]
 | n+1,x=>by
  rw [and_mask,and_mask]
  have h:=lanes k n (x / 2 ^ (2*k))
  have e:x / 2 ^ k / 2 ^ (2*k)=x / 2 ^ (2*k) / 2 ^ k:=by rw [Nat.div_div_eq_div_mul,Nat.div_div_eq_div_mul,Nat.mul_comm]
  rw [e]
  show _=(x % 2 ^ k+x / 2 ^ k % 2 ^ k)+2 ^ (2*k)*S k n (x / 2 ^ (2*k))
  rw [← h,Nat.mul_add]
  omega
theorem pair_lt (k:Nat) (hk:1≤k) (x:Nat):x % 2 ^ k+x / 2 ^ k % 2 ^ k < 2 ^ (2*k):=by
 have h1:=Nat.mod_lt x (show 0 < 2 ^ k from Nat.pow_pos (by omega))
 have h2:=Nat.mod_lt (x / 2 ^ k) (show 0 < 2 ^ k from Nat.pow_pos (by omega))
 have h3:2 ^ (2*k)=2 ^ k*2 ^ k:=by rw [← Nat.pow_add]; congr 1; omega
 have h4:2≤2 ^ k:=by
  have:=Nat.pow_le_pow_right (n:=2) (by omega) hk
  simpa using this
 have h5:2*2 ^ k≤2 ^ k*2 ^ k:=Nat.mul_le_mul_right _ h4
 omega
theorem S_mod (k:Nat) (hk:1≤k) (n x:Nat):S k (n+1) x % 2 ^ (2*k)=x % 2 ^ k+x / 2 ^ k % 2 ^ k:=by
 show ((x % 2 ^ k+x / 2 ^ k % 2 ^ k)+2 ^ (2*k)*_) % 2 ^ (2*k)=_
 rw [Nat.add_mul_mod_self_left,Nat.mod_eq_of_lt (pair_lt k hk x)]
theorem S_div (k:Nat) (hk:1≤k) (n x:Nat):S k (n+1) x / 2 ^ (2*k)=S k n (x / 2 ^ (2*k)):=by
 show ((x % 2 ^ k+x / 2 ^ k % 2 ^ k)+2 ^ (2*k)*_) / 2 ^ (2*k)=_
 rw [Nat.add_mul_div_left _ _ (Nat.pow_pos (by omega)),Nat.div_eq_of_lt (pair_lt k hk x),Nat.zero_add]
theorem T_S (k:Nat) (hk:1≤k):∀ n x,T (2*k) n (S k n x)=T k (2*n) x
 | 0,_=>rfl
 | n+1,x=>by
  show S k (n+1) x % 2 ^ (2*k)+T (2*k) n (S k (n+1) x / 2 ^ (2*k))=_
  rw [S_mod k hk,S_div k hk,T_S k hk n]
  show _=T k (2*n+1+1) x
  show _=x % 2 ^ k+(x / 2 ^ k % 2 ^ k+T k (2*n) (x / 2 ^ k / 2 ^ k))
  rw [Nat.div_div_eq_div_mul x (2 ^ k) (2 ^ k),show 2 ^ k*2 ^ k=2 ^ (2*k) by rw [← Nat.pow_add]; congr 1; omega]
  omega
def Le (k c:Nat):Nat→Nat→Prop
 | 0,_=>True
 | n+1,x=>x % 2 ^ k≤c∧Le k c n (x / 2 ^ k)
theorem Le_S (k c:Nat) (hk:1≤k):∀ n x,Le k c (2*n) x→Le (2*k) (c+c) n (S k n x)
 | 0,_,_=>trivial
 | n+1,x,h=>by
  have h':x % 2 ^ k≤c∧x / 2 ^ k % 2 ^ k≤c∧Le k c (2*n) (x / 2 ^ k / 2 ^ k):=h
  obtain ⟨h1,h2,h3⟩:=h'
  refine ⟨?_, ?_⟩
  ·rw [S_mod k hk]; omega
  ·rw [S_div k hk]
   rw [Nat.div_div_eq_div_mul,show 2 ^ k*2 ^ k=2 ^ (2*k) by rw [← Nat.pow_add]; congr 1; omega] at h3
   exact Le_S k c hk n _ h3
theorem Le_1:∀ n x,Le 1 1 n x
 | 0,_=>trivial
 | n+1,x=>⟨by have:=Nat.mod_lt x (show 0 < 2 by omega); simp; omega,Le_1 n _⟩
theorem nibbles (x:Nat) (h1:x % 16≤7) (h2:x / 16 % 16≤7) (h4:x / 256 % 16≤7):(x / 16+x) % 2 ^ 4=x % 2 ^ 4+x / 2 ^ 4 % 2 ^ 4∧(x / 16+x) / 2 ^ (2*4)=x / 2 ^ (2*4) / 16+x / 2 ^ (2*4):=by
 obtain ⟨l0,hl0⟩:∃ l,l=x % 16:=⟨_,rfl⟩
 obtain ⟨l1,hl1⟩:∃ l,l=x / 16 % 16:=⟨_,rfl⟩
 obtain ⟨y,hy⟩:∃ l,l=x / 256:=⟨_,rfl⟩
 obtain ⟨z,hz⟩:∃ l,l=y / 16:=⟨_,rfl⟩
 obtain ⟨r,hr⟩:∃ l,l=y % 16:=⟨_,rfl⟩
 have hx:x=l0+16*l1+256*y:=by omega
 have hq:x / 16=l1+16*y:=by omega
 have hyz:y=r+16*z:=by omega
 have a1:l0≤7:=by omega
 have a2:l1≤7:=by omega
 have a3:r≤7:=by rw [hr,hy]; exact h4
 have hs:x / 16+x=(l0+l1)+16*(l1+r)+256*(z+y):=by rw [hq,hx]; omega
 simp only [Nat.reducePow,Nat.reduceMul]
 rw [hs,← hy,← hz,← hl0,← hl1]
 clear hs hx hq hyz hl0 hl1 hy hz hr h1 h2 h4
 constructor <;> omega
theorem lanes4:∀ n x,Le 4 7 (2*n+1) x→((x / 16+x) &&& M 4 n)=S 4 n x
 | 0,x,_=>by simp [M,S]
 | n+1,x,h=>by
  have h':x % 2 ^ 4≤7∧x / 2 ^ 4 % 2 ^ 4≤7∧Le 4 7 (2*n+1) (x / 2 ^ 4 / 2 ^ 4):=h
  obtain ⟨h1,h2,h3⟩:=h'
  have h4:x / 2 ^ 4 / 2 ^ 4 % 2 ^ 4≤7:=h3.1
  have ih:=lanes4 n (x / 2 ^ (2*4)) (by rw [Nat.div_div_eq_div_mul] at h3; exact h3)
  rw [and_mask]
  show _=(x % 2 ^ 4+x / 2 ^ 4 % 2 ^ 4)+2 ^ (2*4)*S 4 n (x / 2 ^ (2*4))
  rw [← ih]
  obtain ⟨e1,e2⟩:=nibbles x (by simpa using h1) (by simpa using h2) (by rw [Nat.div_div_eq_div_mul] at h4; simpa using h4)
  rw [e1,e2]
theorem M0:M 1 32=6148914691236517205:=by decide
theorem M1:M 2 16=3689348814741910323:=by decide
theorem M2:M 4 8=1085102592571150095:=by decide
def pc (n:Nat):Nat:=T 1 64 n
def cA (n:Nat):Nat:=(n / 2 &&& 6148914691236517205)+(n &&& 6148914691236517205)
def cB (n:Nat):Nat:=(n / 4 &&& 3689348814741910323)+(n &&& 3689348814741910323)
def cC (n:Nat):Nat:=(n / 16+n) &&& 1085102592571150095
theorem Le_more (k c d:Nat) (h:c≤d):∀ n x,Le k c n x→Le k d n x
 | 0,_,_=>trivial
 | n+1,_,hh=>⟨Nat.le_trans hh.1 h,Le_more k c d h n _ hh.2⟩
theorem Le_snoc (k c:Nat):∀ n x,Le k c n x→x / 2 ^ (k*n)=0→Le k c (n+1) x
 | 0,x,_,h=>⟨by
   have:x=0:=by simpa using h
   subst this; simp,trivial⟩
 | n+1,x,hh,h=>⟨hh.1,Le_snoc k c n _ hh.2 (by
   rw [Nat.div_div_eq_div_mul,← Nat.pow_add,show k+k*n=k*(n+1) by rw [Nat.mul_succ]; omega]; exact h)⟩
theorem S_lt (k:Nat) (hk:1≤k):∀ n x,S k n x < 2 ^ (2*k*n)
 | 0,_=>by simp [S]
 | n+1,x=>by
  have h1:=pair_lt k hk x
  have h2:=S_lt k hk n (x / 2 ^ (2*k))
  show (x % 2 ^ k+x / 2 ^ k % 2 ^ k)+2 ^ (2*k)*S k n (x / 2 ^ (2*k)) < _
  rw [show 2*k*(n+1)=2*k+2*k*n by rw [Nat.mul_succ]; omega,Nat.pow_add]
  have h3:2 ^ (2*k)*(S k n (x / 2 ^ (2*k))+1)≤2 ^ (2*k)*2 ^ (2*k*n):=Nat.mul_le_mul_left _ h2
  rw [Nat.mul_add] at h3
  omega
theorem by_lanes (n:Nat):T 8 8 (cC (cB (cA n)))=pc n∧Le 8 8 8 (cC (cB (cA n))):=by
 have a:cA n=S 1 32 n:=by unfold cA; rw [← M0]; exact lanes 1 32 n
 have b:cB (cA n)=S 2 16 (S 1 32 n):=by rw [a]; unfold cB; rw [← M1]; exact lanes 2 16 _
 have l1:Le 2 2 32 (S 1 32 n):=Le_S 1 1 (by omega) 32 n (Le_1 64 n)
 have l2:Le 4 4 16 (S 2 16 (S 1 32 n)):=Le_S 2 2 (by omega) 16 _ l1
 have l3:Le 4 7 17 (S 2 16 (S 1 32 n)):=Le_snoc 4 7 16 _ (Le_more 4 4 7 (by omega) 16 _ l2) (Nat.div_eq_of_lt (S_lt 2 (by omega) 16 _))
 have c:cC (cB (cA n))=S 4 8 (S 2 16 (S 1 32 n)):=by rw [b]; unfold cC; rw [← M2]; exact lanes4 8 _ l3
 rw [c]
 refine ⟨?_,Le_S 4 4 (by omega) 8 _ l2⟩
 unfold pc
 rw [T_S 4 (by omega) 8,T_S 2 (by omega) 16,T_S 1 (by omega) 32]
def cD (c:Nat):Nat:=c+c / 256
def cE (c:Nat):Nat:=c+c / 65536
def cF (c:Nat):Nat:=c+c / 4294967296
def D:List Nat→Nat
 | []=>0
 | c::l=>c+256*D l
def addl:List Nat→List Nat→List Nat
 | [],m=>m
 | l,[]=>l
 | a::l,b::m=>(a+b)::addl l m
theorem D_add:∀ l m,D l+D m=D (addl l m)
 | [],m=>by simp [D,addl]
 | a::l,[]=>by simp [D,addl]
 | a::l,b::m=>by
  have:=D_add l m
  show (a+256*D l)+(b+256*D m)=(a+b)+256*D (addl l m)
  omega
theorem D_div (c:Nat) (l:List Nat) (h:c < 256):D (c::l) / 256=D l:=by
 show (c+256*D l) / 256=D l
 rw [Nat.add_mul_div_left _ _ (by omega),Nat.div_eq_of_lt h,Nat.zero_add]
theorem D_mod (c:Nat) (l:List Nat) (h:c < 128):D (c::l) % 128=c:=by
 show (c+256*D l) % 128=c
 omega
theorem D_lt:∀ (l:List Nat),(∀ c∈l,c≤127)→2*D l < 256 ^ l.length
 | [],_=>by simp [D]
 | c::l,h=>by
  have h1:=D_lt l fun x hx=>h x (by simp [hx])
  have h2:=h c (by simp)
  show 2*(c+256*D l) < 256 ^ (l.length+1)
  rw [Nat.pow_succ]
  omega
def dig:Nat→Nat→List Nat
 | 0,_=>[]
 | n+1,c=>c % 256::dig n (c / 256)
theorem dig_D:∀ n c,c < 256 ^ n→D (dig n c)=c
 | 0,c,h=>by
  have:c=0:=by simpa using h
  subst this; rfl
 | n+1,c,h=>by
  have h1:=dig_D n (c / 256) (by rw [Nat.pow_succ] at h; omega)
  show c % 256+256*D (dig n (c / 256))=c
  rw [h1]; omega
theorem dig_T:∀ n c,T 8 n c=(dig n c).sum
 | 0,_=>rfl
 | n+1,c=>by
  show c % 2 ^ 8+T 8 n (c / 2 ^ 8)=_
  rw [dig_T n]
  simp [dig]
theorem dig_le:∀ n c,Le 8 8 n c→∀ x∈dig n c,x≤8
 | 0,_,_=>by simp [dig]
 | n+1,c,h=>by
  have h1:=dig_le n _ h.2
  intro x hx
  rcases List.mem_cons.1 hx with rfl | hx
  ·exact h.1
  ·exact h1 x hx
theorem fold8 (c:Nat) (hc:c < 18446744073709551616) (h:Le 8 8 8 c):cF (cE (cD c)) % 128=T 8 8 c∧cD c < 18446744073709551616∧cE (cD c) < 18446744073709551616∧cF (cE (cD c)) < 9223372036854775808:=by
 have hD:=dig_D 8 c (by simpa using hc)
 have hT:=dig_T 8 c
 have hL:=dig_le 8 c h
 have hp:(256:Nat) ^ 8=18446744073709551616:=by decide
 obtain ⟨c0,c1,c2,c3,c4,c5,c6,c7,hd⟩:∃ c0 c1 c2 c3 c4 c5 c6 c7,dig 8 c=[c0,c1,c2,c3,c4,c5,c6,c7]:=⟨_,_,_,_,_,_,_,_,rfl⟩
 rw [hd] at hD hT hL
 clear hd h
 have h0:=hL c0 (by simp)
 have h1:=hL c1 (by simp)
 have h2:=hL c2 (by simp)
 have h3:=hL c3 (by simp)
 have h4:=hL c4 (by simp)
 have h5:=hL c5 (by simp)
 have h6:=hL c6 (by simp)
 have h7:=hL c7 (by simp)
 clear hL
 have d1:cD c=D [c0+c1,c1+c2,c2+c3,c3+c4,c4+c5,c5+c6,c6+c7,c7]:=by
  unfold cD
  rw [← hD,D_div _ _ (by omega),D_add]; rfl
 have e1:cE (cD c)=D [c0+c1+(c2+c3),c1+c2+(c3+c4),c2+c3+(c4+c5),c3+c4+(c5+c6),c4+c5+(c6+c7),c5+c6+c7,c6+c7,c7]:=by
  rw [d1]
  unfold cE
  rw [show ∀ n:Nat,n / 65536=n / 256 / 256 by intro n; rw [Nat.div_div_eq_div_mul],D_div _ _ (by omega),D_div _ _ (by omega),D_add]; rfl
 have f1:cF (cE (cD c))=D [c0+c1+(c2+c3)+(c4+c5+(c6+c7)),c1+c2+(c3+c4)+(c5+c6+c7),c2+c3+(c4+c5)+(c6+c7),c3+c4+(c5+c6)+c7,c4+c5+(c6+c7),c5+c6+c7,c6+c7,c7]:=by
  rw [e1]
  unfold cF
  rw [show ∀ n:Nat,n / 4294967296=n / 256 / 256 / 256 / 256 by intro n; rw [Nat.div_div_eq_div_mul,Nat.div_div_eq_div_mul,Nat.div_div_eq_div_mul],D_div _ _ (by omega),D_div _ _ (by omega),D_div _ _ (by omega),D_div _ _ (by omega),D_add]; rfl
 have b1:=D_lt [c0+c1,c1+c2,c2+c3,c3+c4,c4+c5,c5+c6,c6+c7,c7] (by intro x hx; simp at hx; omega)
 have b2:=D_lt [c0+c1+(c2+c3),c1+c2+(c3+c4),c2+c3+(c4+c5),c3+c4+(c5+c6),c4+c5+(c6+c7),c5+c6+c7,c6+c7,c7] (by intro x hx; simp at hx; omega)
 have b3:=D_lt [c0+c1+(c2+c3)+(c4+c5+(c6+c7)),c1+c2+(c3+c4)+(c5+c6+c7),c2+c3+(c4+c5)+(c6+c7),c3+c4+(c5+c6)+c7,c4+c5+(c6+c7),c5+c6+c7,c6+c7,c7] (by intro x hx; simp at hx; omega)
 simp only [List.length_cons,List.length_nil,Nat.zero_add,Nat.reduceAdd,hp] at b1 b2 b3
 refine ⟨?_, ?_, ?_, ?_⟩
 ·rw [f1,D_mod _ _ (by omega),hT]; simp; omega
 ·rw [d1]; omega
 ·rw [e1]; omega
 ·rw [f1]; omega
theorem Le_bd:∀ n y,Le 4 4 n y→y < 16 ^ n→15*y≤4*(16 ^ n - 1)
  | 0, y, _, h => by have : y = 0 := by simpa using h
                     subst this; simp
  | n+1,y,h,hy=>by
    have h1:=Le_bd n (y / 2 ^ 4) h.2 (by rw [Nat.pow_succ] at hy; omega)
    have h2:=h.1
    have h3:0 < 16 ^ n:=Nat.pow_pos (by omega)
    rw [Nat.pow_succ]
    simp only [Nat.reducePow] at h1 h2
    omega
theorem cB_lt (n:Nat):cB (cA n) < 8000000000000000000∧cA n < 18446744073709551616:=by
 have a:cA n=S 1 32 n:=by unfold cA; rw [← M0]; exact lanes 1 32 n
 have b:cB (cA n)=S 2 16 (S 1 32 n):=by rw [a]; unfold cB; rw [← M1]; exact lanes 2 16 _
 have l1:Le 2 2 32 (S 1 32 n):=Le_S 1 1 (by omega) 32 n (Le_1 64 n)
 have l2:Le 4 4 16 (S 2 16 (S 1 32 n)):=Le_S 2 2 (by omega) 16 _ l1
 have h1:=Le_bd 16 _ l2 (by have:=S_lt 2 (by omega) 16 (S 1 32 n); simpa using this)
 have h2:=S_lt 1 (by omega) 32 n
 have h3:(16:Nat) ^ 16=18446744073709551616:=by decide
 have h4:(2:Nat) ^ (2*1*32)=18446744073709551616:=by decide
 rw [h3] at h1
 rw [h4] at h2
 rw [b,a]
 omega
def iA (x:Int):Int:=IntKind.u64.wrap (bits .and .u64 (x / 2) 6148914691236517205+bits .and .u64 x 6148914691236517205)
def iB (y:Int):Int:=IntKind.u64.wrap (bits .and .u64 (y / 4) 3689348814741910323+bits .and .u64 y 3689348814741910323)
def iC (y:Int):Int:=bits .and .u64 (IntKind.u64.wrap (y / 16+y)) 1085102592571150095
def iD (y:Int):Int:=IntKind.u64.wrap (y+y / 256)
def iE (y:Int):Int:=IntKind.u64.wrap (y+y / 65536)
def iF (y:Int):Int:=IntKind.u64.wrap (y+y / 4294967296)
theorem div_cast (n k:Nat):((n:Int) / (k:Int))=((n / k:Nat):Int):=by simp
theorem iA_eq (n:Nat) (h:n < 18446744073709551616):iA (n:Int)=(cA n:Int):=by
 have h1:=u64_and_nat (n / 2) 6148914691236517205 (by omega) (by omega)
 have h2:=u64_and_nat n 6148914691236517205 h (by omega)
 have h3:=(cB_lt n).2
 unfold iA
 rw [show ((n:Int) / 2)=((n / 2:Nat):Int) from div_cast n 2,show (6148914691236517205:Int)=((6148914691236517205:Nat):Int) from rfl,h1,h2,IntWalk.u64_in _ (by unfold cA at h3; omega)]
 unfold cA; simp
theorem iB_eq (n:Nat) (h:n < 18446744073709551616) (hb:cB n < 18446744073709551616):iB (n:Int)=(cB n:Int):=by
 have h1:=u64_and_nat (n / 4) 3689348814741910323 (by omega) (by omega)
 have h2:=u64_and_nat n 3689348814741910323 h (by omega)
 unfold iB
 rw [show ((n:Int) / 4)=((n / 4:Nat):Int) from div_cast n 4,show (3689348814741910323:Int)=((3689348814741910323:Nat):Int) from rfl,h1,h2,IntWalk.u64_in _ (by unfold cB at hb; omega)]
 unfold cB; simp
theorem iC_eq (n:Nat) (h:n < 8000000000000000000):iC (n:Int)=(cC n:Int):=by
 have h1:=u64_and_nat (n / 16+n) 1085102592571150095 (by omega) (by omega)
 unfold iC
 rw [IntWalk.u64_in _ (by omega),show ((n:Int) / 16+(n:Int))=((n / 16+n:Nat):Int) by simp,show (1085102592571150095:Int)=((1085102592571150095:Nat):Int) from rfl,h1]
 rfl
theorem iD_eq (n:Nat) (h:cD n < 18446744073709551616):iD (n:Int)=(cD n:Int):=by
 unfold cD at h
 unfold iD
 rw [IntWalk.u64_in _ (by omega)]
 unfold cD; simp
theorem iE_eq (n:Nat) (h:cE n < 18446744073709551616):iE (n:Int)=(cE n:Int):=by
 unfold cE at h
 unfold iE
 rw [IntWalk.u64_in _ (by omega)]
 unfold cE; simp
theorem iF_eq (n:Nat) (h:cF n < 18446744073709551616):iF (n:Int)=(cF n:Int):=by
 unfold cF at h
 unfold iF
 rw [IntWalk.u64_in _ (by omega)]
 unfold cF; simp
theorem swar (x:Int) (hx:R x):bits .and .i64 (RowKit.wrap64 (iF (iE (iD (iC (iB (iA x))))))) 127=(pc x.toNat:Int):=by
 obtain ⟨n,rfl⟩:=Int.eq_ofNat_of_zero_le hx.1
 have hn:n < 18446744073709551616:=by have:=hx.nat; simpa using this
 obtain ⟨b1,b2⟩:=cB_lt n
 obtain ⟨t1,t2⟩:=by_lanes n
 have c1:cC (cB (cA n)) < 18446744073709551616:=by
  have:cC (cB (cA n))≤1085102592571150095:=Nat.and_le_right
  omega
 obtain ⟨f1,f2,f3,f4⟩:=fold8 _ c1 t2
 rw [iA_eq n hn,iB_eq _ b2 (by omega),iC_eq _ b1,iD_eq _ f2,iE_eq _ f3,iF_eq _ (by omega),IntWalk.wrap64_in _ (by omega),i64_and127]
 rw [show ((cF (cE (cD (cC (cB (cA n))))):Int) % 128)=((cF (cE (cD (cC (cB (cA n))))) % 128:Nat):Int) by simp,f1,t1]
 simp
theorem T_le:∀ n x,T 1 n x≤n
 | 0,_=>Nat.le_refl _
 | n+1,x=>by
  have:=T_le n (x / 2 ^ 1)
  have:=Nat.mod_lt x (show 0 < 2 ^ 1 by decide)
  show x % 2 ^ 1+T 1 n (x / 2 ^ 1)≤n+1
  omega
def cn (x:Int):Int:=(pc x.toNat:Int)
theorem cn_lo (x:Int):0≤cn x:=by unfold cn; omega
theorem cn_hi (x:Int):cn x≤64:=by unfold cn pc; have:=T_le 64 x.toNat; omega
def up (x:Int):Nat→Int
 | 0=>0
 | k+1=>up x k+(if tb x k=true then 1 else 0)
theorem up_T:∀ (k n:Nat),up (n:Int) k=(T 1 k n:Int):=by
 intro k
 induction k with
 | zero=>intro n; rfl
 | succ k ih =>
  intro n
  have key:∀ k (n:Nat),T 1 (k+1) n=T 1 k n+n / 2 ^ k % 2:=by
   intro k
   induction k with
   | zero=>intro n; simp [T]
   | succ k ih2 =>
    intro n
    show n % 2 ^ 1+T 1 (k+1) (n / 2 ^ 1)=(n % 2 ^ 1+T 1 k (n / 2 ^ 1))+n / 2 ^ (k+1) % 2
    rw [ih2,Nat.div_div_eq_div_mul,← Nat.pow_add,Nat.add_comm 1 k]
    omega
  rw [key k n]
  show up (n:Int) k+_=_
  rw [ih n]
  have e:tb (n:Int) k=decide (n / 2 ^ k % 2=1):=by unfold tb; rw [Int.toNat_natCast,Nat.testBit_eq_decide_div_mod_eq]
  rw [e]
  rcases Nat.mod_two_eq_zero_or_one (n / 2 ^ k) with h | h <;> rw [h] <;> simp
theorem up_cn (x:Int) (hx:R x):up x 64=cn x:=by
 obtain ⟨n,rfl⟩:=Int.eq_ofNat_of_zero_le hx.1
 rw [up_T]; unfold cn pc; simp
end St
namespace St
open Go.RowKit Ba
set_option maxRecDepth 100000
theorem onesT (x:Int) (hx:R x) (w:World):Calls Tryz.prog 211 #[.int .u64 x] w fun e w'=>e=.returned (.int .i64 (cn x))∧w=w':=by
 have HS:=Lib.hid (swar x hx)
 have hx0:=hx.1
 clear hx
 go_enter Tryz.func211,Tryz.ntmps211
 go_wp2
 go_ret
 exact ⟨ret_int HS.out,rfl⟩
theorem countT (p u d:Int) (hp:R p) (hu:R u) (hd:R d) (w:World):Calls Tryz.prog 172 #[.agg #[.int .u64 p,.int .u64 u,.int .u64 d]] w fun e w'=>e=.returned (.int .i64 (cn p+cn u+cn d))∧Since w w':=by
 have a1:=cn_lo p
 have a2:=cn_hi p
 have a3:=cn_lo u
 have a4:=cn_hi u
 have a5:=cn_lo d
 have a6:=cn_hi d
 go_enter Tryz.func172,Tryz.ntmps172
 go_wp2_with fail
 go_quiet ((go_at_call 211; exact quiet_eq (onesT _ (by assumption) _)))
 go_wp2
 go_ret
 exact ⟨rfl,sn_⟩
end St
namespace Ct
open Go.RowKit Ba Mem En Do Mo Go.Proofs.YtpiiblkiddcgcaaGreat.Ty Ce Go.Proofs.YtpiiblkiddcgcaaGreat.St Sc Pl
set_option maxRecDepth 100000
attribute [local irreducible] lvB Go.Calls ov atB
def cfgA (c:CfgV):Array Value:=#[.int .i64 c.ca,.int .i64 c.fl,.int .i64 c.ft,.int .i64 c.se,.int .i64 c.dr,.int .i64 c.dw,.int .i64 c.ho,.int .i64 c.re,.int .i64 c.yi,.int .i64 c.qu,.int .i64 c.qo,.int .i64 c.lo,.int .i64 c.sl,.int .i64 c.rt,.int .i64 c.cp,.int .i64 c.tr,.int .i64 c.de,.int .i64 c.wi]
def carA (x:CarV):Array Value:=#[.int .i64 x.ds,.int .i64 x.da,.int .i64 x.un,.int .i64 x.wy,.int .i64 x.ti,.int .i64 x.ju,.int .i64 x.lo,.bool x.bl,.bool x.br,.int .i64 x.mo,.int .i64 x.ta,.bool x.ho,.int .u64 x.sp,.int .u64 x.su,.int .u64 x.sd]
def ctlA (x:CarV) (r:Int) (o k:Bool):Array Value:=#[.int .i64 x.ds,.int .i64 x.da,.int .i64 x.un,.int .i64 x.wy,.int .i64 x.ti,.int .i64 x.ju,.int .i64 x.lo,.bool x.bl,.bool x.br,.int .i64 x.mo,.int .i64 x.ta,.bool x.ho,.int .u64 x.sp,.int .u64 x.su,.int .u64 x.sd,.int .i64 r,.bool o,.bool k]
def ctlS (x:CarV) (r:Int) (o k:Bool):List SV:=[.i .i64 x.ds,.i .i64 x.da,.i .i64 x.un,.i .i64 x.wy,.i .i64 x.ti,.i .i64 x.ju,.i .i64 x.lo,.b x.bl,.b x.br,.i .i64 x.mo,.i .i64 x.ta,.b x.ho,.i .u64 x.sp,.i .u64 x.su,.i .u64 x.sd,.i .i64 r,.b o,.b k]
theorem runT (q:Nat) (x:CarV) (r:Int) (w:World) (hb:Blk w q 132 (ctlA x 0 false false)):Calls Tryz.prog 155 #[.pointer (some ⟨q,0,none⟩),.int .i64 r] w fun e w'=>e=.returned (.tuple #[])∧Blk w' q 132 (ctlA { x with ju := -1 } r false false)∧Upd [q] w w':=by
 refine entR tab_ok hb [.i .i64 x.ds,.i .i64 x.da,.i .i64 x.un,.i .i64 x.wy,.i .i64 x.ti,.i .i64 x.ju,.i .i64 x.lo,.b x.bl,.b x.br,.i .i64 x.mo,.i .i64 x.ta,.b x.ho,.i .u64 x.sp,.i .u64 x.su,.i .u64 x.sd,.i .i64 0,.b false,.b false] [.p 0 0,.i .i64 r] rfl Tryz.func155 Tryz.ntmps155 rfl rfl ?_
 repeat' (first | refine gs_ ?_|((conv=>whnf); first | intro b | refine fin_s ?_|refine fin_r ?_ ?_|refine fin_e ?_ ?_))
 all_goals rfl
def ldT (x:CarV):Bool:=decide (tw x.un x.ta=0)
def ldX (x:CarV):CarV:=if x.ds=0∧ldT x=false then { x with ju := -1 } else x
def ldR (x:CarV):Int:=if x.ds=0∧ldT x=false then tw x.un x.ta else 0
def ldO (x:CarV):Bool:=if x.ds=0 then (ldT x && x.ho) else (ldT x && x.ho && decide (x.ds=3))
def ldK (x:CarV):Bool:=!(ldT x && x.ho) && decide (x.ds=2) && !x.bl
theorem leadT (q:Nat) (x:CarV) (w:World) (hb:Blk w q 132 (ctlA x 0 false false)) (hta0 : -1099511627776≤x.ta) (hta1:x.ta≤1099511627776):Calls Tryz.prog 80 #[.pointer (some ⟨q,0,none⟩)] w fun e w'=>e=.returned (.tuple #[])∧Blk w' q 132 (ctlA (ldX x) (ldR x) (ldO x) (ldK x))∧Upd [q] w w':=by
 refine entR tab_ok hb [.i .i64 x.ds,.i .i64 x.da,.i .i64 x.un,.i .i64 x.wy,.i .i64 x.ti,.i .i64 x.ju,.i .i64 x.lo,.b x.bl,.b x.br,.i .i64 x.mo,.i .i64 x.ta,.b x.ho,.i .u64 x.sp,.i .u64 x.su,.i .u64 x.sd,.i .i64 0,.b false,.b false] [.p 0 0] rfl Tryz.func80 Tryz.ntmps80 rfl rfl ?_
 repeat' (first | refine gs_ ?_|((conv=>whnf); first | intro b | refine b3_ (fun h=>?_) (fun h=>?_)|refine callS (f:=154) (.i .i64 _) (towardT _ _ ⟨hta0,hta1⟩) ?_|refine callR (f:=155) 0 (.t []) (ctlS { x with ju := -1 } _ false false) (fun w hb=>runT _ x _ w hb) ?_|refine fin_s ?_|refine fin_r ?_ ?_|refine fin_e ?_ ?_))
 all_goals first | rfl | (simp only [denL,den,ctlA,ctlS,ldX,ldR,ldO,ldK,ldT]; (try simp_all) <;> first | done | rfl | (refine ⟨?_, ?_⟩ <;> rfl))
def m1 (n:Int):Int:=if n < 1 then 1 else n
def dwV (n:Int):Int:=if 1000 < m1 n then 1000 else m1 n
theorem dwellT (c:CfgV) (w:World):Calls Tryz.prog 159 #[.agg (cfgA c)] w fun e w'=>e=.returned (.int .i64 (dwV c.dw))∧Since w w':=by
 refine ent tab_ok [.a (sCfg c)] Tryz.func159 Tryz.ntmps159 rfl rfl ?_
 repeat' (first | refine gs_ ?_|((conv=>whnf); first | intro b | refine fin_s ?_))
 exact congrArg (Value.int .i64) (by unfold dwV m1; repeat' split <;> omega)
def svX (c:CfgV) (x:CarV) (f:Int):CarV:={ x with sp:=clP x.sp f,su:=clU x.su f x.wy,sd:=clD x.sd f x.wy,ti:=dwV c.dw,ju:=f }
def svF (x:CarV) (f:Int):Int:=if atB x.su x.sd f x.wy=true then f else 0
def svW (x:CarV) (f:Int):Int:=if atB x.su x.sd f x.wy=true then x.wy else 0
theorem serveT (q:Nat) (c:CfgV) (x:CarV) (f:Int) (w:World) (hb:Blk w q 132 (ctlA x 0 false false)) (hp:R x.sp) (hu:R x.su) (hd:R x.sd):Calls Tryz.prog 157 #[.pointer (some ⟨q,0,none⟩),.agg (cfgA c),.int .i64 f] w fun e w'=>e=.returned (.tuple #[.agg #[.int .i64 (svF x f),.int .i64 (svW x f)],.bool (atB x.su x.sd f x.wy)])∧Blk w' q 132 (ctlA (svX c x f) 0 true false)∧Upd [q] w w':=by
 refine entR tab_ok hb [.i .i64 x.ds,.i .i64 x.da,.i .i64 x.un,.i .i64 x.wy,.i .i64 x.ti,.i .i64 x.ju,.i .i64 x.lo,.b x.bl,.b x.br,.i .i64 x.mo,.i .i64 x.ta,.b x.ho,.i .u64 x.sp,.i .u64 x.su,.i .u64 x.sd,.i .i64 0,.b false,.b false] [.p 0 0,.a (sCfg c),.i .i64 f] rfl Tryz.func157 Tryz.ntmps157 rfl rfl ?_
 repeat' (first | refine gs_ ?_|((conv=>whnf); first | intro b | refine b3_ (fun h=>?_) (fun h=>?_)|refine callS (f:=202) (.b _) (atT _ _ _ _ _ hu hd) ?_|refine callS (f:=203) (.a [.i .u64 _,.i .u64 _,.i .u64 _]) (clearT _ _ _ _ _) ?_|refine callS (f:=159) (.i .i64 _) (dwellT c) ?_|refine fin_s ?_|refine fin_r ?_ ?_|refine fin_e ?_ ?_))
 all_goals first | rfl | (simp only [denL,den,ctlA,ctlS,svX,svF,svW]; (try simp_all) <;> first | done | rfl | (refine ⟨?_, ?_⟩ <;> rfl))
def nW (x:CarV):Int:=nxW x.sp x.su x.sd (lvN x.un) x.wy x.ju
def nO (x:CarV):Bool:=nxO x.sp x.su x.sd (lvN x.un) x.wy x.ju
def goX (c:CfgV) (x:CarV):CarV:=if lvB x.un=false then x else if nO x=true then svX c { x with wy:=nW x } (lvN x.un) else if nW x=0 then { x with wy:=nW x } else { x with ju := -1 }
def goR (x:CarV):Int:=if lvB x.un=false then x.wy else if nO x=true then 0 else nW x
def goO (x:CarV):Bool:=lvB x.un && nO x
def goS (x:CarV):Bool:=lvB x.un && nO x && atB x.su x.sd (lvN x.un) (nW x)
def goF (x:CarV):Int:=if goS x=true then lvN x.un else 0
def goW (x:CarV):Int:=if goS x=true then nW x else 0
set_option maxHeartbeats 1000000 in
theorem goT (q:Nat) (c:CfgV) (x:CarV) (w:World) (hb:Blk w q 132 (ctlA x 0 false false)) (hp:R x.sp) (hu:R x.su) (hd:R x.sd):Calls Tryz.prog 81 #[.pointer (some ⟨q,0,none⟩),.agg (cfgA c)] w fun e w'=>e=.returned (.tuple #[.agg #[.int .i64 (goF x),.int .i64 (goW x)],.bool (goS x)])∧Blk w' q 132 (ctlA (goX c x) (goR x) (goO x) false)∧Upd [q] w w':=by
 refine entR tab_ok hb [.i .i64 x.ds,.i .i64 x.da,.i .i64 x.un,.i .i64 x.wy,.i .i64 x.ti,.i .i64 x.ju,.i .i64 x.lo,.b x.bl,.b x.br,.i .i64 x.mo,.i .i64 x.ta,.b x.ho,.i .u64 x.sp,.i .u64 x.su,.i .u64 x.sd,.i .i64 0,.b false,.b false] [.p 0 0,.a (sCfg c)] rfl Tryz.func81 Tryz.ntmps81 rfl rfl ?_
 repeat' (first | refine gs_ ?_|((conv=>whnf); first | intro b | refine b3_ (fun h=>?_) (fun h=>?_)|refine callS (f:=109) (.t [.i .i64 _,.b _]) (levelT _) ?_|refine callS (f:=156) (.t [.i .i64 _,.b _]) (nextT _ _ _ _ _ _ hp hu hd) ?_|refine callR (f:=155) 0 (.t []) (ctlS { x with ju := -1 } _ false false) (fun w hb=>runT _ x _ w hb) ?_|refine callR (f:=157) 0 (.t [.a [.i .i64 _,.i .i64 _],.b _]) (ctlS (svX c { x with wy:=nW x } (lvN x.un)) 0 true false) (fun w hb=>serveT _ c { x with wy:=nW x } _ w hb hp hu hd) ?_|refine fin_s ?_|refine fin_r ?_ ?_|refine fin_e ?_ ?_))
 all_goals first | rfl | (simp only [denL,den,ctlA,ctlS,goX,goR,goO,goS,goF,goW,svX,svF,svW,nW,nO]; (try simp_all) <;> first | done | rfl | (refine ⟨?_, ?_⟩ <;> rfl))
def stB (c:CfgV) (x:CarV):Bool:=x.bl || ov x.lo c.lo
def stX (c:CfgV) (x:CarV):CarV:=if stB c x=true then { x with ti:=dwV c.dw } else { x with ti:=x.ti - 1 }
def stK (c:CfgV) (x:CarV):Bool:=!stB c x && decide (x.ti - 1≤0)
theorem stayT (q:Nat) (c:CfgV) (x:CarV) (w:World) (hb:Blk w q 132 (ctlA x 0 false false)) (ht0 : -1000000000≤x.ti) (ht1:x.ti≤1000000000):Calls Tryz.prog 82 #[.pointer (some ⟨q,0,none⟩),.agg (cfgA c)] w fun e w'=>e=.returned (.tuple #[])∧Blk w' q 132 (ctlA (stX c x) 0 false (stK c x))∧Upd [q] w w':=by
 refine entR tab_ok hb [.i .i64 x.ds,.i .i64 x.da,.i .i64 x.un,.i .i64 x.wy,.i .i64 x.ti,.i .i64 x.ju,.i .i64 x.lo,.b x.bl,.b x.br,.i .i64 x.mo,.i .i64 x.ta,.b x.ho,.i .u64 x.sp,.i .u64 x.su,.i .u64 x.sd,.i .i64 0,.b false,.b false] [.p 0 0,.a (sCfg c)] rfl Tryz.func82 Tryz.ntmps82 rfl rfl ?_
 repeat' (first | refine gs_ ?_|((conv=>whnf); first | intro b | refine wr_i ?_|refine b3_ (fun h=>?_) (fun h=>?_)|refine callS (f:=158) (.b _) (overT _ _) ?_|refine callS (f:=159) (.i .i64 _) (dwellT c) ?_|refine fin_s ?_|refine fin_r ?_ ?_|refine fin_e ?_ ?_))
 all_goals first | rfl | (simp only [denL,den,ctlA,ctlS,stX,stK,stB]; (try simp_all) <;> first | done | rfl | (refine ⟨?_, ?_⟩ <;> rfl))
end Ct
end Go.Proofs.YtpiiblkiddcgcaaGreat
