/-
  The ground of the proof, part 4: the calculus and what is proved with it.
-/
import Derived.Test.YtjfdfbpgckilpaaGreatDoorRows
import Derived.Test.YtjfdfbpgckilpaaGreatDoorBc
import Derived.ChangeArms
import Derived.Test.YtjfdfbpgckilpaaGreatDoorBa
import Derived.Shelf.Strings.BuilderK
import Derived.Shelf.Lay
import Derived.WalkKit
import Derived.ProofKit
import Derived.Handy
import Derived.Outline
import Derived.WalkSpells
import Derived.WalkSmall
import Derived.OneCell
import Derived.Shelf.Strings.Builder1
import Derived.Shelf.Strings.Builder2
import Derived.Shelf.Strings.BuilderF
import Derived.Shelf.LaysM
import Derived.Shelf.Strconv.Itoa3
import Derived.Shelf.LaysC
import Derived.Shelf.Strconv.AtoiAll
import Derived.Shelf.Sort.Plain
import Derived.Shelf.Strings.Prefix
import Derived.Shelf.Strings.Repeat
import Derived.Shelf.Slices.In.SortNone
import Derived.Test.YtjfdfbpgckilpaaGreatDoorProg
import Derived.Laws.RangeAny
import Derived.Lib.Repeat
namespace Go.Proofs.YtjfdfbpgckilpaaGreatDoor
open Go.LX
set_option maxHeartbeats 32000000
def T : TT := [
 (2,⟨1,8,[.int .i64 (.lit 0)],.int .i64⟩),
 (3,⟨1,8,[.int .i64 (.lit 0)],.int .i64⟩),
 (4,⟨1,1,[.bool false],.bool⟩),
 (5,⟨1,1,[.int .u8 (.lit 0)],.int .u8⟩),
 (7,⟨4,24,[.int .i64 (.lit 0),.int .i64 (.lit 0),.bool false,.int .u8 (.lit 0)],.struct [(0,2),(1,3),(2,4),(3,6)]⟩),
 (9,⟨1,16,[.str fun _ => ⟨#[]⟩],.str⟩),
 (12,⟨1,8,[.int .u64 (.lit 0)],.int .u64⟩),
 (13,⟨2,24,[.str fun _ => ⟨#[]⟩,.int .u64 (.lit 0)],.struct [(0,9),(1,12)]⟩),
 (15,⟨1,8,[.nilp],.ptr 342⟩),
 (16,⟨1,8,[.nilp],.ptr 345⟩),
 (17,⟨1,8,[.nilp],.ptr 352⟩),
 (18,⟨1,8,[.nilp],.struct [(0,17)]⟩),
 (20,⟨1,16,[.nilif],.iface⟩),
 (21,⟨1,4,[.int .i32 (.lit 0)],.int .i32⟩),
 (22,⟨1,24,[.nils],.slice 4⟩),
 (23,⟨1,8,[.int .u64 (.lit 0)],.int .u64⟩),
 (24,⟨1,8,[.nilp],.ptr 98⟩),
 (25,⟨1,8,[.int .i64 (.lit 0)],.int .i64⟩),
 (29,⟨1,8,[.nilp],.ptr 102⟩),
 (31,⟨1,24,[.nils],.slice 3⟩),
 (36,⟨1,24,[.nils],.slice 42⟩),
 (41,⟨4,48,[.int .i64 (.lit 0),.int .i64 (.lit 0),.nils,.bool false],.struct [(0,3),(1,3),(2,31),(3,4)]⟩),
 (42,⟨4,48,[.int .i64 (.lit 0),.int .i64 (.lit 0),.nils,.bool false],.struct [(0,3),(1,3),(2,31),(3,4)]⟩),
 (47,⟨1,24,[.nils],.slice 51⟩),
 (48,⟨1,8,[.nilp],.ptr 55⟩),
 (50,⟨3,24,[.int .i64 (.lit 0),.int .i64 (.lit 0),.int .i64 (.lit 0)],.struct [(0,3),(1,3),(2,3)]⟩),
 (51,⟨3,24,[.int .i64 (.lit 0),.int .i64 (.lit 0),.int .i64 (.lit 0)],.struct [(0,3),(1,3),(2,3)]⟩),
 (53,⟨1,8,[.nilp],.ptr 60⟩),
 (54,⟨4,64,[.nilp,.nilp,.nils,.nils],.struct [(0,24),(1,53),(2,31),(3,31)]⟩),
 (55,⟨4,64,[.nilp,.nilp,.nils,.nils],.struct [(0,24),(1,53),(2,31),(3,31)]⟩),
 (57,⟨1,8,[.nilp],.ptr 154⟩),
 (58,⟨1,8,[.nilp],.ptr 121⟩),
 (59,⟨6,64,[.nilp,.nils,.nilp,.int .i64 (.lit 0),.int .i64 (.lit 0),.int .i64 (.lit 0)],.struct [(0,57),(1,31),(2,58),(3,3),(4,3),(5,3)]⟩),
 (60,⟨6,64,[.nilp,.nils,.nilp,.int .i64 (.lit 0),.int .i64 (.lit 0),.int .i64 (.lit 0)],.struct [(0,57),(1,31),(2,58),(3,3),(4,3),(5,3)]⟩),
 (67,⟨1,24,[.nils],.slice 125⟩),
 (68,⟨1,8,[.nilp],.ptr 80⟩),
 (70,⟨6,48,[.int .i64 (.lit 0),.int .i64 (.lit 0),.int .i64 (.lit 0),.int .i64 (.lit 0),.int .i64 (.lit 0),.int .i64 (.lit 0)],.arr 6 3⟩),
 (71,⟨10,80,[.int .i64 (.lit 0),.int .i64 (.lit 0),.int .i64 (.lit 0),.int .i64 (.lit 0),.int .i64 (.lit 0),.int .i64 (.lit 0),.int .i64 (.lit 0),.int .i64 (.lit 0),.int .i64 (.lit 0),.int .i64 (.lit 0)],.struct [(0,3),(1,3),(2,3),(3,70),(9,3)]⟩),
 (72,⟨10,80,[.int .i64 (.lit 0),.int .i64 (.lit 0),.int .i64 (.lit 0),.int .i64 (.lit 0),.int .i64 (.lit 0),.int .i64 (.lit 0),.int .i64 (.lit 0),.int .i64 (.lit 0),.int .i64 (.lit 0),.int .i64 (.lit 0)],.struct [(0,3),(1,3),(2,3),(3,70),(9,3)]⟩),
 (75,⟨1,24,[.nils],.slice 77⟩),
 (76,⟨4,32,[.int .i64 (.lit 0),.int .i64 (.lit 0),.int .i64 (.lit 0),.int .i64 (.lit 0)],.struct [(0,3),(1,3),(2,3),(3,3)]⟩),
 (77,⟨4,32,[.int .i64 (.lit 0),.int .i64 (.lit 0),.int .i64 (.lit 0),.int .i64 (.lit 0)],.struct [(0,3),(1,3),(2,3),(3,3)]⟩),
 (79,⟨4,64,[.nilp,.nilp,.nils,.nils],.struct [(0,24),(1,53),(2,31),(3,31)]⟩),
 (80,⟨4,64,[.nilp,.nilp,.nils,.nils],.struct [(0,24),(1,53),(2,31),(3,31)]⟩),
 (83,⟨1,24,[.nils],.slice 144⟩),
 (95,⟨1,8,[.nilp],.ptr 164⟩),
 (97,⟨6,64,[.nilp,.nilp,.nils,.int .i64 (.lit 0),.int .i64 (.lit 0),.int .i64 (.lit 0)],.struct [(0,29),(1,95),(2,31),(3,3),(4,3),(5,3)]⟩),
 (98,⟨6,64,[.nilp,.nilp,.nils,.int .i64 (.lit 0),.int .i64 (.lit 0),.int .i64 (.lit 0)],.struct [(0,29),(1,95),(2,31),(3,3),(4,3),(5,3)]⟩),
 (100,⟨1,8,[.nilp],.ptr 177⟩),
 (101,⟨2,32,[.nilp,.nils],.struct [(0,100),(1,31)]⟩),
 (102,⟨2,32,[.nilp,.nils],.struct [(0,100),(1,31)]⟩),
 (105,⟨9,72,[.int .i64 (.lit 0),.int .i64 (.lit 0),.int .i64 (.lit 0),.int .i64 (.lit 0),.int .i64 (.lit 0),.int .i64 (.lit 0),.int .i64 (.lit 0),.int .i64 (.lit 0),.int .i64 (.lit 0)],.struct [(0,3),(1,3),(2,3),(3,3),(4,3),(5,3),(6,3),(7,3),(8,3)]⟩),
 (106,⟨9,72,[.int .i64 (.lit 0),.int .i64 (.lit 0),.int .i64 (.lit 0),.int .i64 (.lit 0),.int .i64 (.lit 0),.int .i64 (.lit 0),.int .i64 (.lit 0),.int .i64 (.lit 0),.int .i64 (.lit 0)],.struct [(0,3),(1,3),(2,3),(3,3),(4,3),(5,3),(6,3),(7,3),(8,3)]⟩),
 (114,⟨4,32,[.int .i64 (.lit 0),.int .i64 (.lit 0),.int .i64 (.lit 0),.int .i64 (.lit 0)],.struct [(0,3),(1,3),(2,3),(3,3)]⟩),
 (115,⟨4,32,[.int .i64 (.lit 0),.int .i64 (.lit 0),.int .i64 (.lit 0),.int .i64 (.lit 0)],.struct [(0,3),(1,3),(2,3),(3,3)]⟩),
 (120,⟨2,32,[.nils,.bool false],.struct [(0,31),(1,4)]⟩),
 (121,⟨2,32,[.nils,.bool false],.struct [(0,31),(1,4)]⟩),
 (124,⟨5,40,[.int .i64 (.lit 0),.int .i64 (.lit 0),.int .i64 (.lit 0),.int .i64 (.lit 0),.bool false],.struct [(0,3),(1,3),(2,3),(3,3),(4,4)]⟩),
 (125,⟨5,40,[.int .i64 (.lit 0),.int .i64 (.lit 0),.int .i64 (.lit 0),.int .i64 (.lit 0),.bool false],.struct [(0,3),(1,3),(2,3),(3,3),(4,4)]⟩),
 (131,⟨0,0,[],.struct []⟩),
 (132,⟨0,0,[],.struct []⟩),
 (134,⟨10,80,[.int .i64 (.lit 0),.int .i64 (.lit 0),.int .i64 (.lit 0),.int .i64 (.lit 0),.int .i64 (.lit 0),.int .i64 (.lit 0),.int .i64 (.lit 0),.int .i64 (.lit 0),.int .i64 (.lit 0),.int .i64 (.lit 0)],.struct [(0,3),(1,106)]⟩),
 (135,⟨10,80,[.int .i64 (.lit 0),.int .i64 (.lit 0),.int .i64 (.lit 0),.int .i64 (.lit 0),.int .i64 (.lit 0),.int .i64 (.lit 0),.int .i64 (.lit 0),.int .i64 (.lit 0),.int .i64 (.lit 0),.int .i64 (.lit 0)],.struct [(0,3),(1,106)]⟩),
 (139,⟨0,0,[],.struct []⟩),
 (143,⟨6,48,[.int .i64 (.lit 0),.int .i64 (.lit 0),.int .i64 (.lit 0),.int .i64 (.lit 0),.int .i64 (.lit 0),.int .i64 (.lit 0)],.struct [(0,3),(1,3),(2,3),(3,3),(4,3),(5,3)]⟩),
 (144,⟨6,48,[.int .i64 (.lit 0),.int .i64 (.lit 0),.int .i64 (.lit 0),.int .i64 (.lit 0),.int .i64 (.lit 0),.int .i64 (.lit 0)],.struct [(0,3),(1,3),(2,3),(3,3),(4,3),(5,3)]⟩),
 (145,⟨1,8,[.nilm],.map 3 131⟩),
 (147,⟨1,24,[.nils],.struct [(0,31)]⟩),
 (148,⟨1,24,[.nils],.struct [(0,31)]⟩),
 (152,⟨1,8,[.nilp],.ptr 195⟩),
 (153,⟨2,32,[.nilp,.nils],.struct [(0,152),(1,31)]⟩),
 (154,⟨2,32,[.nilp,.nils],.struct [(0,152),(1,31)]⟩),
 (163,⟨2,24,[.str fun _ => ⟨#[]⟩,.bool false],.struct [(0,9),(1,4)]⟩),
 (164,⟨2,24,[.str fun _ => ⟨#[]⟩,.bool false],.struct [(0,9),(1,4)]⟩),
 (166,⟨2,16,[.int .i64 (.lit 0),.int .i64 (.lit 0)],.struct [(0,3),(1,3)]⟩),
 (167,⟨2,16,[.int .i64 (.lit 0),.int .i64 (.lit 0)],.struct [(0,3),(1,3)]⟩),
 (170,⟨2,16,[.int .i64 (.lit 0),.int .i64 (.lit 0)],.struct [(0,3),(1,3)]⟩),
 (171,⟨2,16,[.int .i64 (.lit 0),.int .i64 (.lit 0)],.struct [(0,3),(1,3)]⟩),
 (175,⟨1,24,[.nils],.slice 179⟩),
 (176,⟨1,24,[.nils],.struct [(0,175)]⟩),
 (177,⟨1,24,[.nils],.struct [(0,175)]⟩),
 (178,⟨2,24,[.int .i64 (.lit 0),.str fun _ => ⟨#[]⟩],.struct [(0,3),(1,9)]⟩),
 (179,⟨2,24,[.int .i64 (.lit 0),.str fun _ => ⟨#[]⟩],.struct [(0,3),(1,9)]⟩),
 (190,⟨0,0,[],.struct []⟩),
 (193,⟨1,24,[.nils],.slice 254⟩),
 (194,⟨2,48,[.nils,.nils],.struct [(0,31),(1,193)]⟩),
 (195,⟨2,48,[.nils,.nils],.struct [(0,31),(1,193)]⟩),
 (198,⟨7,56,[.int .i64 (.lit 0),.int .i64 (.lit 0),.int .i64 (.lit 0),.int .i64 (.lit 0),.int .i64 (.lit 0),.int .i64 (.lit 0),.int .i64 (.lit 0)],.struct [(0,3),(1,3),(2,3),(3,3),(4,3),(5,3),(6,3)]⟩),
 (199,⟨7,56,[.int .i64 (.lit 0),.int .i64 (.lit 0),.int .i64 (.lit 0),.int .i64 (.lit 0),.int .i64 (.lit 0),.int .i64 (.lit 0),.int .i64 (.lit 0)],.struct [(0,3),(1,3),(2,3),(3,3),(4,3),(5,3),(6,3)]⟩),
 (211,⟨0,0,[],.struct []⟩),
 (214,⟨1,8,[.int .i64 (.lit 0)],.struct [(0,3)]⟩),
 (215,⟨1,8,[.int .i64 (.lit 0)],.struct [(0,3)]⟩),
 (216,⟨1,8,[.int .i64 (.lit 0)],.struct [(0,3)]⟩),
 (217,⟨0,0,[],.struct []⟩),
 (220,⟨0,0,[],.struct []⟩),
 (230,⟨1,8,[.int .i64 (.lit 0)],.int .i64⟩),
 (236,⟨0,0,[],.struct []⟩),
 (253,⟨0,0,[],.struct []⟩),
 (254,⟨8,8,[.bool false,.bool false,.bool false,.bool false,.bool false,.bool false,.bool false,.bool false],.arr 8 4⟩),
 (256,⟨1,8,[.int .i64 (.lit 0)],.int .i64⟩),
 (263,⟨1,4,[.int .u32 (.lit 0)],.int .u32⟩),
 (265,⟨1,8,[.int .u64 (.lit 0)],.int .u64⟩),
 (266,⟨1,8,[.nilp],.ptr 269⟩),
 (267,⟨1,24,[.nils],.slice 5⟩),
 (268,⟨2,32,[.nilp,.nils],.struct [(0,266),(1,267)]⟩),
 (269,⟨2,32,[.nilp,.nils],.struct [(0,266),(1,267)]⟩),
 (270,⟨1,16,[.nilif],.iface⟩),
 (271,⟨1,16,[.nilif],.iface⟩),
 (275,⟨0,0,[],.struct []⟩),
 (277,⟨1,8,[.int .i64 (.lit 0)],.int .i64⟩),
 (281,⟨0,0,[],.struct []⟩),
 (283,⟨1,24,[.nils],.slice 9⟩),
 (285,⟨1,8,[.int .i64 (.lit 0)],.struct [(0,25)]⟩),
 (286,⟨1,8,[.int .i64 (.lit 0)],.struct [(0,25)]⟩),
 (289,⟨1,8,[.int .u64 (.lit 0)],.int .u64⟩),
 (293,⟨1,8,[.nilp],.ptr 3⟩),
 (296,⟨1,8,[.nilp],.ptr 5⟩),
 (305,⟨1,8,[.nilp],.ptr 289⟩),
 (313,⟨24,24,[.int .u8 (.lit 0),.int .u8 (.lit 0),.int .u8 (.lit 0),.int .u8 (.lit 0),.int .u8 (.lit 0),.int .u8 (.lit 0),.int .u8 (.lit 0),.int .u8 (.lit 0),.int .u8 (.lit 0),.int .u8 (.lit 0),.int .u8 (.lit 0),.int .u8 (.lit 0),.int .u8 (.lit 0),.int .u8 (.lit 0),.int .u8 (.lit 0),.int .u8 (.lit 0),.int .u8 (.lit 0),.int .u8 (.lit 0),.int .u8 (.lit 0),.int .u8 (.lit 0),.int .u8 (.lit 0),.int .u8 (.lit 0),.int .u8 (.lit 0),.int .u8 (.lit 0)],.arr 24 5⟩),
 (320,⟨1,8,[.nilp],.ptr 332⟩),
 (326,⟨20,160,[.int .u64 (.lit 0),.int .u64 (.lit 0),.int .u64 (.lit 0),.int .u64 (.lit 0),.int .u64 (.lit 0),.int .u64 (.lit 0),.int .u64 (.lit 0),.int .u64 (.lit 0),.int .u64 (.lit 0),.int .u64 (.lit 0),.int .u64 (.lit 0),.int .u64 (.lit 0),.int .u64 (.lit 0),.int .u64 (.lit 0),.int .u64 (.lit 0),.int .u64 (.lit 0),.int .u64 (.lit 0),.int .u64 (.lit 0),.int .u64 (.lit 0),.int .u64 (.lit 0)],.arr 20 265⟩),
 (327,⟨65,65,[.int .u8 (.lit 0),.int .u8 (.lit 0),.int .u8 (.lit 0),.int .u8 (.lit 0),.int .u8 (.lit 0),.int .u8 (.lit 0),.int .u8 (.lit 0),.int .u8 (.lit 0),.int .u8 (.lit 0),.int .u8 (.lit 0),.int .u8 (.lit 0),.int .u8 (.lit 0),.int .u8 (.lit 0),.int .u8 (.lit 0),.int .u8 (.lit 0),.int .u8 (.lit 0),.int .u8 (.lit 0),.int .u8 (.lit 0),.int .u8 (.lit 0),.int .u8 (.lit 0),.int .u8 (.lit 0),.int .u8 (.lit 0),.int .u8 (.lit 0),.int .u8 (.lit 0),.int .u8 (.lit 0),.int .u8 (.lit 0),.int .u8 (.lit 0),.int .u8 (.lit 0),.int .u8 (.lit 0),.int .u8 (.lit 0),.int .u8 (.lit 0),.int .u8 (.lit 0),.int .u8 (.lit 0),.int .u8 (.lit 0),.int .u8 (.lit 0),.int .u8 (.lit 0),.int .u8 (.lit 0),.int .u8 (.lit 0),.int .u8 (.lit 0),.int .u8 (.lit 0),.int .u8 (.lit 0),.int .u8 (.lit 0),.int .u8 (.lit 0),.int .u8 (.lit 0),.int .u8 (.lit 0),.int .u8 (.lit 0),.int .u8 (.lit 0),.int .u8 (.lit 0),.int .u8 (.lit 0),.int .u8 (.lit 0),.int .u8 (.lit 0),.int .u8 (.lit 0),.int .u8 (.lit 0),.int .u8 (.lit 0),.int .u8 (.lit 0),.int .u8 (.lit 0),.int .u8 (.lit 0),.int .u8 (.lit 0),.int .u8 (.lit 0),.int .u8 (.lit 0),.int .u8 (.lit 0),.int .u8 (.lit 0),.int .u8 (.lit 0),.int .u8 (.lit 0),.int .u8 (.lit 0)],.arr 65 5⟩),
 (331,⟨3,48,[.str fun _ => ⟨#[]⟩,.str fun _ => ⟨#[]⟩,.nilif],.struct [(0,9),(1,9),(2,271)]⟩),
 (332,⟨3,48,[.str fun _ => ⟨#[]⟩,.str fun _ => ⟨#[]⟩,.nilif],.struct [(0,9),(1,9),(2,271)]⟩),
 (336,⟨1,8,[.nilp],.ptr 338⟩),
 (337,⟨1,16,[.str fun _ => ⟨#[]⟩],.struct [(0,9)]⟩),
 (338,⟨1,16,[.str fun _ => ⟨#[]⟩],.struct [(0,9)]⟩),
 (339,⟨32,32,[.int .u8 (.lit 0),.int .u8 (.lit 0),.int .u8 (.lit 0),.int .u8 (.lit 0),.int .u8 (.lit 0),.int .u8 (.lit 0),.int .u8 (.lit 0),.int .u8 (.lit 0),.int .u8 (.lit 0),.int .u8 (.lit 0),.int .u8 (.lit 0),.int .u8 (.lit 0),.int .u8 (.lit 0),.int .u8 (.lit 0),.int .u8 (.lit 0),.int .u8 (.lit 0),.int .u8 (.lit 0),.int .u8 (.lit 0),.int .u8 (.lit 0),.int .u8 (.lit 0),.int .u8 (.lit 0),.int .u8 (.lit 0),.int .u8 (.lit 0),.int .u8 (.lit 0),.int .u8 (.lit 0),.int .u8 (.lit 0),.int .u8 (.lit 0),.int .u8 (.lit 0),.int .u8 (.lit 0),.int .u8 (.lit 0),.int .u8 (.lit 0),.int .u8 (.lit 0)],.arr 32 5⟩),
 (340,⟨64,64,[.int .u8 (.lit 0),.int .u8 (.lit 0),.int .u8 (.lit 0),.int .u8 (.lit 0),.int .u8 (.lit 0),.int .u8 (.lit 0),.int .u8 (.lit 0),.int .u8 (.lit 0),.int .u8 (.lit 0),.int .u8 (.lit 0),.int .u8 (.lit 0),.int .u8 (.lit 0),.int .u8 (.lit 0),.int .u8 (.lit 0),.int .u8 (.lit 0),.int .u8 (.lit 0),.int .u8 (.lit 0),.int .u8 (.lit 0),.int .u8 (.lit 0),.int .u8 (.lit 0),.int .u8 (.lit 0),.int .u8 (.lit 0),.int .u8 (.lit 0),.int .u8 (.lit 0),.int .u8 (.lit 0),.int .u8 (.lit 0),.int .u8 (.lit 0),.int .u8 (.lit 0),.int .u8 (.lit 0),.int .u8 (.lit 0),.int .u8 (.lit 0),.int .u8 (.lit 0),.int .u8 (.lit 0),.int .u8 (.lit 0),.int .u8 (.lit 0),.int .u8 (.lit 0),.int .u8 (.lit 0),.int .u8 (.lit 0),.int .u8 (.lit 0),.int .u8 (.lit 0),.int .u8 (.lit 0),.int .u8 (.lit 0),.int .u8 (.lit 0),.int .u8 (.lit 0),.int .u8 (.lit 0),.int .u8 (.lit 0),.int .u8 (.lit 0),.int .u8 (.lit 0),.int .u8 (.lit 0),.int .u8 (.lit 0),.int .u8 (.lit 0),.int .u8 (.lit 0),.int .u8 (.lit 0),.int .u8 (.lit 0),.int .u8 (.lit 0),.int .u8 (.lit 0),.int .u8 (.lit 0),.int .u8 (.lit 0),.int .u8 (.lit 0),.int .u8 (.lit 0),.int .u8 (.lit 0),.int .u8 (.lit 0),.int .u8 (.lit 0),.int .u8 (.lit 0)],.arr 64 5⟩),
 (341,⟨4,40,[.nilp,.nilp,.nilp,.str fun _ => ⟨#[]⟩],.struct [(0,17),(1,17),(2,17),(3,9)]⟩),
 (343,⟨0,0,[],.arr 0 16⟩),
 (344,⟨0,0,[],.struct [(0,343)]⟩),
 (351,⟨11,48,[.int .u64 (.lit 0),.int .u64 (.lit 0),.int .u32 (.lit 0),.int .u8 (.lit 0),.int .u8 (.lit 0),.int .u8 (.lit 0),.int .u8 (.lit 0),.nilfn,.nilp,.int .i32 (.lit 0),.int .i32 (.lit 0)],.struct [(0,12),(1,12),(2,263),(3,346),(4,5),(5,5),(6,347),(7,348),(8,296),(9,349),(10,350)]⟩)]
theorem tok : TOK Tryz.prog T := teqs_ok (by kernel_rfl)
end Go.Proofs.YtjfdfbpgckilpaaGreatDoor
namespace Go.Proofs.YtjfdfbpgckilpaaGreatDoor
open Go Go.LX Go.RowKit Go.ChangeShapes Go.WideShapes
set_option maxHeartbeats 32000000
inductive CK where
 | i (k : IntKind)
 | b
 | s
def CK.is : CK → Option TypeDesc → Bool
 | .i k,some (.int k') => decide (k = k')
 | .b,some .bool => true
 | .s,some .string => true
 | _,_ => false
def CK.ok : CK → Value → Prop
 | .i k,x => ∃ n,x = .int k n ∧ (Lit.int k n).wf = true
 | .b,x => ∃ b,x = .bool b
 | .s,x => ∃ s,x = .string s ∧ s.size ≤ maxLen
def rowOK (P : Program) (e : TypeId) (sh : List CK) : Bool :=
 match P.underlying e with
 | some (.struct fs) => P.cellsOf e == sh.length && fs.size == sh.length && (List.range sh.length).all fun i => match fs[i]?,sh[i]? with
  | some f,some k => f.offset == i && P.cellsOf f.type == 1 && k.is (P.underlying f.type)
  | _,_ => false
 | _ => false
section
variable {H : Type} {enc : TypeId × Value → H} {P : Program} {W : World}
theorem ck_trod {k : CK} {t : TypeId} {base fuel : Nat} {spare : Nat → Bool} {held : Bool} {cs : List Value} {x : DataW H × List MemPlace} (hk : k.is (P.underlying t) = true) (h : DataW.trod enc P W base spare held fuel t cs = some x) : ∃ c,cs = [c] ∧ k.ok c := by
 unfold CK.is at hk
 split at hk
 ·rename_i k1 k2 hu
  have hk := of_decide_eq_true hk
  subst hk
  obtain ⟨n,h1,_,h2⟩ := DataW.trod_int hu h
  exact ⟨_,h1,n,rfl,h2⟩
 ·rename_i hu
  obtain ⟨b,h1,_⟩ := DataW.trod_bool hu h
  exact ⟨_,h1,b,rfl⟩
 ·rename_i hu
  obtain ⟨s,h1,_,h2⟩ := DataW.trod_string hu h
  exact ⟨_,h1,s,rfl,h2⟩
 ·cases hk
theorem row_trod {sh : List CK} {e : TypeId} {base fuel : Nat} {spare : Nat → Bool} {held : Bool} {cs : List Value} {x : DataW H × List MemPlace} (hk : rowOK P e sh = true) (h : DataW.trod enc P W base spare held fuel e cs = some x) :
  cs.length = sh.length ∧ P.cellsOf e = sh.length ∧ ∀ (j : Nat) (c : Value),cs[j]? = some c → ∃ k,sh[j]? = some k ∧ k.ok c := by
 unfold rowOK at hk
 split at hk
 ·rename_i fs hu
  simp only [Bool.and_eq_true,beq_iff_eq,List.all_eq_true,List.mem_range] at hk
  obtain ⟨⟨h1,h2⟩,h3⟩ := hk
  obtain ⟨xs,n,_,_,h4,h5,h6⟩ := DataW.trod_struct hu h
  refine ⟨by omega,h1,fun j c hj => ?_⟩
  have hlt := (List.getElem?_eq_some_iff.1 hj).1
  have h7 := h3 j (by omega)
  split at h7
  ·rename_i f k hf hk
   simp only [Bool.and_eq_true,beq_iff_eq] at h7
   obtain ⟨⟨h8,h9⟩,h10⟩ := h7
   have h11 := h6 j f hf
   rw [h8,h9,List.getElem?_eq_getElem (by omega : j < xs.length)] at h11
   obtain ⟨c',h12,h13⟩ := ck_trod h10 h11
   have : c' = c := by
    have e1 : ((cs.drop j).take 1)[0]? = some c' := by rw [h12]; rfl
    rw [List.getElem?_take,if_pos (by omega),List.getElem?_drop,Nat.add_zero,hj] at e1
    exact (Option.some.inj e1).symm
   subst this
   exact ⟨k,hk,h13⟩
  ·cases h7
 ·cases hk
theorem spot_of_cell {w : World} {a : Addr} {x : Value} (h : w.cell? a = some x) : a.spot = none := by
 unfold World.cell? at h
 split at h
 ·split at h
  ·cases h
  ·rename_i hns
   cases hs : a.spot with
   | none => rfl
   | some _ => rw [hs] at hns; exact absurd rfl hns
 ·cases h
theorem open_rows {t e : TypeId} (sh : List CK) {base : Nat} {v : Value} {d : DataW H} {ps : List MemPlace} (ht : P.underlying t = some (.slice e)) (hk : rowOK P e sh = true) (hsz : 0 < sh.length)
  (hval : Value.okWide P W .any base t v) (h : DataW.Trod enc P W 0 (fun _ => true) true t v d ps) : ∃ (n : Nat) (xs : List Value),Sl W W.heap.size sh.length v n xs ∧ ∀ (j : Nat) (c : Value),xs[j]? = some c → ∃ k,sh[j % sh.length]? = some k ∧ k.ok c := by
 obtain ⟨a0,len,cap,rfl⟩ := okWide_slice ht hval
 obtain ⟨fuel,hf⟩ := h
 rcases DataW.trod_slice ht hf with ⟨hcs,_⟩ | ⟨a,len',cap',elems,rest,n,_,hcs,_,hb,hl,hm,hlen,hel,_⟩
 ·simp only [Value.cells] at hcs
  cases hcs
  exact ⟨0,[],⟨by simp,Nat.zero_le _,.inl ⟨rfl,rfl⟩⟩,fun j c hj => by simp at hj⟩
 ·simp only [Value.cells] at hcs
  cases hcs
  have each : ∀ i,i < len → ∀ r,r < sh.length → ∃ c k,W.cell? ((a.add (i * sh.length)).add r) = some c ∧ sh[r]? = some k ∧ k.ok c := by
   intro i hi r hr
   have h1 := hel i hi
   rw [List.getElem?_eq_getElem (by omega : i < elems.length),Option.bind_eq_some_iff] at h1
   obtain ⟨cs,h2,h3⟩ := h1
   obtain ⟨h4,h5,h6⟩ := row_trod hk h3
   rw [h5] at h2
   obtain ⟨_,h7,h8⟩ := World.cells?_some h2
   have h9 : cs[r]? = some cs[r] := List.getElem?_eq_getElem (by omega)
   obtain ⟨k,h10,h11⟩ := h6 r _ h9
   exact ⟨_,k,(h8 r hr).trans h9,h10,h11⟩
  have cell : ∀ j,j < len * sh.length → ∃ c k,W.cell? (a.add j) = some c ∧ sh[j % sh.length]? = some k ∧ k.ok c := by
   intro j hj
   have hi : j / sh.length < len := (Nat.div_lt_iff_lt_mul hsz).2 hj
   have hr := Nat.mod_lt j hsz
   have hsp : a.spot = none := by
    obtain ⟨c,_,h1,_⟩ := each 0 (Nat.lt_of_le_of_lt (Nat.zero_le _) hi) 0 hsz
    have := spot_of_cell h1
    simpa [Addr.add] using this
   obtain ⟨c,k,h1,h2,h3⟩ := each _ hi _ hr
   rw [Addr.add_off hsp] at h1
   have : j / sh.length * sh.length + j % sh.length = j := by rw [Nat.mul_comm]; exact Nat.div_add_mod j sh.length
   rw [this] at h1
   exact ⟨c,k,h1,h2,h3⟩
  refine ⟨len,(List.range (len * sh.length)).map fun j => (W.cell? (a.add j)).getD Go.undef,⟨by simp,Nat.le_trans hl hm,.inr ⟨a,cap,rfl,hl,hm,fun hp => ?_,fun j u hu => ?_⟩⟩,fun j c hj => ?_⟩
  ·obtain ⟨c,_,h1,_⟩ := cell 0 (Nat.mul_pos hp hsz)
   have := lt_of_cell h1
   simpa [Addr.add] using this
  ·rw [List.getElem?_map] at hu
   by_cases hj : j < len * sh.length
   ·rw [List.getElem?_range hj] at hu
    obtain ⟨c,_,h1,_⟩ := cell j hj
    simp only [Option.map_some,h1,Option.getD_some] at hu
    rw [h1]; exact hu
   ·rw [List.getElem?_eq_none (by simp; omega)] at hu; cases hu
  ·rw [List.getElem?_map] at hj
   by_cases hjl : j < len * sh.length
   ·rw [List.getElem?_range hjl] at hj
    obtain ⟨c',k,h1,h2,h3⟩ := cell j hjl
    simp only [Option.map_some,h1,Option.getD_some] at hj
    cases hj
    exact ⟨k,h2,h3⟩
   ·rw [List.getElem?_eq_none (by simp; omega)] at hj; cases hj
theorem open_threes {t e : TypeId} {base : Nat} {v : Value} {d : DataW H} {ps : List MemPlace} (ht : P.underlying t = some (.slice e)) (hk : rowOK P e [.i .i64,.i .i64,.i .i64] = true)
  (hval : Value.okWide P W .any base t v) (h : DataW.Trod enc P W 0 (fun _ => true) true t v d ps) : ∃ A : List (Int × Int × Int),Sl W W.heap.size 3 v A.length (A.flatMap fun e => [.int .i64 e.1,.int .i64 e.2.1,.int .i64 e.2.2]) ∧ ∀ e ∈ A,(Lit.int .i64 e.1).wf = true ∧ (Lit.int .i64 e.2.1).wf = true ∧ (Lit.int .i64 e.2.2).wf = true := by
 obtain ⟨n,xs,h1,h2⟩ := open_rows [.i .i64,.i .i64,.i .i64] ht hk (by decide) hval h
 have h3 : ∀ (j : Nat) (c : Value),xs[j]? = some c → ∃ z,c = .int .i64 z ∧ (Lit.int .i64 z).wf = true := by
  intro j c hj
  obtain ⟨k,h4,h5⟩ := h2 j c hj
  have : j % 3 < 3 := Nat.mod_lt _ (by omega)
  have h6 : ∀ r,r < 3 → ([.i .i64,.i .i64,.i .i64] : List CK)[r]? = some (.i .i64) := by
   intro r hr
   rcases r with _ | _ | _ | r
   ·rfl
   ·rfl
   ·rfl
   ·omega
  have h4 : ([.i .i64,.i .i64,.i .i64] : List CK)[j % 3]? = some k := h4
  rw [h6 _ this] at h4; cases h4; exact h5
 have chunk : ∀ (n : Nat) (xs : List Value),xs.length = n * 3 → (∀ (j : Nat) (c : Value),xs[j]? = some c → ∃ z,c = .int .i64 z ∧ (Lit.int .i64 z).wf = true) → ∃ A : List (Int × Int × Int),A.length = n ∧ xs = (A.flatMap fun e => [.int .i64 e.1,.int .i64 e.2.1,.int .i64 e.2.2]) ∧ ∀ e ∈ A,(Lit.int .i64 e.1).wf = true ∧ (Lit.int .i64 e.2.1).wf = true ∧ (Lit.int .i64 e.2.2).wf = true := by
  intro n
  induction n with
  | zero => intro xs hl _; exact ⟨[],rfl,by simpa using hl,by simp⟩
  | succ n ih =>
   intro xs hl hx
   match xs,hl,hx with
   | x :: y :: z :: xs,hl,hx =>
    obtain ⟨a,rfl,ha⟩ := hx 0 x rfl
    obtain ⟨b,rfl,hb⟩ := hx 1 y rfl
    obtain ⟨c,rfl,hc⟩ := hx 2 z rfl
    obtain ⟨A,g1,g2,g3⟩ := ih xs (by simp at hl; omega) (fun j c hj => hx (j + 3) c (by simpa using hj))
    refine ⟨(a,b,c) :: A,by simp [g1],by rw [g2]; simp,fun e he => ?_⟩
    rcases List.mem_cons.1 he with rfl | he
    ·exact ⟨ha,hb,hc⟩
    ·exact g3 e he
   | [],hl,_ => simp at hl
   | [_],hl,_ => simp at hl; omega
   | [_,_],hl,_ => simp at hl; omega
 obtain ⟨A,g1,g2,g3⟩ := chunk n xs h1.len h3
 exact ⟨A,by rw [g1,← g2]; exact h1,g3⟩
end
end Go.Proofs.YtjfdfbpgckilpaaGreatDoor
namespace Go.LX
open Go
set_option maxHeartbeats 32000000
def lmem (n : Nat) : List Nat → Bool
 | [] => false
 | m :: l => match Nat.beq n m with
  | true => true
  | false => lmem n l
inductive Joined (J : LS → Prop) (n0 : Nat) (s' : LS) : Prop
 | mk (s'' : LS) (hr : Re n0 s' s'') (hj : J s'')
def JoinK (J : LS → Prop) (n0 : Nat) (K : Exit → LS → Prop) : Exit → LS → Prop
 | .normal,s' => Joined J n0 s'
 | .exit j,s' => K (.exit j) s'
 | .ret,s' => K .ret s'
 | .goto j,s' => K (.goto j) s'
 | .panic c,s' => K (.panic c) s'
 | .outgrown,s' => K .outgrown s'
inductive JoinF (n0 : Nat) (B : Unit → (Exit → LS → Prop) → Prop) (K : Exit → LS → Prop) : Prop
 | mk (J : LS → Prop) (hx : B () (JoinK J n0 K)) (hy : ∀ s,J s → K .normal s)
def headReg : Code → Nat
 | .region r _ _ => r
 | _ => 1000000
def seqK (N : LS → Prop) (K : Exit → LS → Prop) : Exit → LS → Prop
 | .normal,s' => N s'
 | .exit j,s' => K (.exit j) s'
 | .ret,s' => K .ret s'
 | .goto _,_ => False
 | .panic _,_ => False
 | .outgrown,_ => False
def blockK (id : Nat) (K : Exit → LS → Prop) (e : Exit) (s' : LS) : Prop := match e with
 | .exit j => match Nat.beq j id with
  | true => K .normal s'
  | false => K (.exit j) s'
 | .normal => K .normal s'
 | .ret => K .ret s'
 | .goto _ => False
 | .panic _ => False
 | .outgrown => False
def lcodeB (P : Unit → Program) (T : Unit → TT) (n0 : Nat) (bs : List Nat) : Code → LS → (Exit → LS → Prop) → Prop
 | .skip,s,K => K .normal s
 | .label _,s,K => K .normal s
 | .region _ ops d,s,K => match d with
  | false => lops P T ops.toList ops.toList s fun s' => K .normal s'
  | true => DrawF P (fun _ => ops) s fun s' => K .normal s'
 | .seq a b,s,K => match lmem (headReg a) bs with
  | true => JoinF n0 (fun _ K => lcodeB P T n0 bs a s (seqK (fun s' => lcodeB P T n0 bs b s' K) K)) K
  | false => lcodeB P T n0 bs a s (seqK (fun s' => lcodeB P T n0 bs b s' K) K)
 | .cond c a b,s,K => match ev s c with
  | .p (.bool c) => match c with
   | true => lcodeB P T n0 bs a s K
   | false => lcodeB P T n0 bs b s K
  | _ => False
 | .block id c,s,K => lcodeB P T n0 bs c s (blockK id K)
 | .loop c,s,K => LoopF n0 (fun _ s K => lcodeB P T n0 bs c s K) s K
 | .exit id,s,K => K (.exit id) s
 | .ret,s,K => K .ret s
 | _,_,_ => False
def lbodyB (P : Unit → Program) (T : Unit → TT) (bs : List Nat) (cd : Code) (rs : List ResultVar) (nt : Nat) (args : List LV) (h : LH) (n : Nat) (K : LV → LH → Nat → Prop) : Prop :=
 lcodeB P T n bs cd ⟨args ++ undefs (nt - llen args),h,n⟩ fun e s' => match e with
  | .normal => lres T s' rs fun vs => RetF n vs s'.h s'.n K
  | .ret => lres T s' rs fun vs => RetF n vs s'.h s'.n K
  | .exit _ => False
  | .goto _ => False
  | .panic _ => False
  | .outgrown => False
section
variable {P : Program} {T : TT} {c : Ctx} {a : Act} {w w' : World}
theorem lcodeB_sound (hT : TOK P T) {c0 : Ctx} {w0 : World} (n0 : Nat) (hn0 : c0.N = n0) (bs : List Nat) : ∀ (cd : Code) {s : LS} {K : Exit → LS → Prop} {c : Ctx} {a : Act} {w : World},Ext c0 w0 c w → St c s a w → lcodeB (fun _ => P) (fun _ => T) n0 bs cd s K → cd.wp P (PostE K c0 w0) a w
 | .skip,s,K,c,a,w,he,hs,h => wp_skip ⟨c,s,h,hs,he⟩
 | .label _,s,K,c,a,w,he,hs,h => wp_label ⟨c,s,h,hs,he⟩
 | .exit _,s,K,c,a,w,he,hs,h => wp_exit ⟨c,s,h,hs,he⟩
 | .ret,s,K,c,a,w,he,hs,h => wp_ret ⟨c,s,h,hs,he⟩
 | .region _ ops d,s,K,c,a,w,he,hs,h => by
  cases d with
  | false =>
   refine wp_region ?_
   rw [List.range_eq_range']
   refine lops_sound hT (c0 := c0) (w0 := w0) (K := fun s' => K .normal s') (fun a' w' hp => ?_) ops.size 0 (by omega) he hs (by rw [List.drop_zero]; exact h)
   obtain ⟨c',s',hK,hs',he'⟩ := hp
   exact ⟨c',s',hK,hs',he'⟩
  | true =>
   refine wp_region_draw fun t => ?_
   obtain ⟨e1,r1⟩ := hs.hr.same (w' := { w with drawn := w.drawn + 1 }) rfl rfl rfl rfl
   have hs1 : St c s a { w with drawn := w.drawn + 1 } := ⟨hs.tl,fun i u hu => (hs.tr i u hu).ext hs.hr.fresh e1,hs.df,r1,hs.nn⟩
   cases h with
   | mk h =>
    refine h c a _ t _ hs1 (fun a' w' hp => ?_)
    obtain ⟨c',s',hK,hs',he'⟩ := hp
    exact ⟨c',s',hK,hs',he.trans (e1.trans he')⟩
 | .seq x y,s,K,c,a,w,he,hs,h => by
  rw [lcodeB] at h
  have key : ∀ (K : Exit → LS → Prop),lcodeB (fun _ => P) (fun _ => T) n0 bs x s (seqK (fun s' => lcodeB (fun _ => P) (fun _ => T) n0 bs y s' K) K) → (Code.seq x y).wp P (PostE K c0 w0) a w := by
   intro K h
   refine wp_seq (wp_mono (lcodeB_sound hT n0 hn0 bs x he hs h) fun e a' w' hp => ?_)
   obtain ⟨c',s',hK,hs',he'⟩ := hp
   cases e with
   | normal => exact lcodeB_sound hT n0 hn0 bs y he' hs' hK
   | exit j => exact ⟨c',s',hK,hs',he'⟩
   | ret => exact ⟨c',s',hK,hs',he'⟩
   | goto l => exact hK.elim
   | panic ch => exact hK.elim
   | outgrown => exact hK.elim
  split at h
  ·cases h with
   | mk J hx hy =>
    refine wp_mono (key _ hx) fun e a' w' hp => ?_
    obtain ⟨c2,s2,hK,hs2,he2⟩ := hp
    cases e with
    | normal =>
     obtain ⟨s3,hre,hj⟩ := hK
     obtain ⟨hre⟩ := hre
     obtain ⟨c3,he3,hs3⟩ := hre c0 w0 c2 a' w' hn0 he2 hs2
     exact ⟨c3,s3,hy s3 hj,hs3,he3⟩
    | exit j => exact ⟨c2,s2,hK,hs2,he2⟩
    | ret => exact ⟨c2,s2,hK,hs2,he2⟩
    | goto l => exact ⟨c2,s2,hK,hs2,he2⟩
    | panic ch => exact ⟨c2,s2,hK,hs2,he2⟩
    | outgrown => exact ⟨c2,s2,hK,hs2,he2⟩
  ·exact key _ h
 | .cond co x y,s,K,c,a,w,he,hs,h => by
  rw [lcodeB] at h
  split at h
  ·rename_i b hb
   have hv : a.eval co = .bool b := LR.inv_bool (hb ▸ hs.ev co)
   cases b with
   | true => exact wp_cond_true hv (lcodeB_sound hT n0 hn0 bs x he hs h)
   | false => exact wp_cond_false hv (lcodeB_sound hT n0 hn0 bs y he hs h)
  ·exact h.elim
 | .block id x,s,K,c,a,w,he,hs,h => by
  refine wp_block (wp_mono (lcodeB_sound hT n0 hn0 bs x he hs h) fun e a' w' hp => ?_)
  obtain ⟨c',s',hK,hs',he'⟩ := hp
  cases e with
  | normal => exact ⟨c',s',hK,hs',he'⟩
  | exit j =>
   show if j = id then _ else _
   unfold blockK at hK
   dsimp only at hK
   by_cases hj : j = id
   ·rw [if_pos hj]
    subst hj
    rw [Nat.beq_refl] at hK
    exact ⟨c',s',hK,hs',he'⟩
   ·rw [if_neg hj]
    rw [nbeq hj] at hK
    exact ⟨c',s',hK,hs',he'⟩
  | ret => exact ⟨c',s',hK,hs',he'⟩
  | goto l => exact hK.elim
  | panic ch => exact hK.elim
  | outgrown => exact hK.elim
 | .loop x,s,K,c,a,w,he,hs,h => by
  cases h with
  | mk V k0 s0 h0 hv hr =>
   obtain ⟨h0⟩ := h0
   obtain ⟨c',he',hs'⟩ := h0 c0 w0 c a w hn0 he hs
   refine wp_loop_ghost (fun n a w => ∃ s c,V n s ∧ Ext c0 w0 c w ∧ St c s a w) k0 ⟨s0,c',hv,he',hs'⟩ fun n a w hI => ?_
   obtain ⟨s1,c1,hv1,he1,hs1⟩ := hI
   refine wp_mono (lcodeB_sound hT n0 hn0 bs x he1 hs1 (hr n s1 hv1)) fun e a' w' hp => ?_
   obtain ⟨c2,s2,hK,hs2,he2⟩ := hp
   cases e with
   | normal =>
    obtain ⟨k3,s3,hm3,hre,hv3⟩ := hK
    obtain ⟨hre⟩ := hre
    obtain ⟨c3,he3,hs3⟩ := hre c0 w0 c2 a' w' hn0 he2 hs2
    exact ⟨k3,hm3,s3,c3,hv3,he3,hs3⟩
   | exit j => exact ⟨c2,s2,hK,hs2,he2⟩
   | ret => exact ⟨c2,s2,hK,hs2,he2⟩
   | goto l => exact ⟨c2,s2,hK,hs2,he2⟩
   | panic ch => exact ⟨c2,s2,hK,hs2,he2⟩
   | outgrown => exact ⟨c2,s2,hK,hs2,he2⟩
  | rounds m h =>
   refine wp_loop_rounds m ?_
   induction m generalizing s c a w with
   | zero => exact h.elim
   | succ m ih =>
    refine wp_mono (lcodeB_sound hT n0 hn0 bs x he hs h) fun e a' w' hp => ?_
    obtain ⟨c',s',hK,hs',he'⟩ := hp
    cases e with
    | normal => exact ih s' c' a' w' he' hs' hK
    | exit j => exact ⟨c',s',hK,hs',he'⟩
    | ret => exact ⟨c',s',hK,hs',he'⟩
    | goto l => exact ⟨c',s',hK,hs',he'⟩
    | panic ch => exact ⟨c',s',hK,hs',he'⟩
    | outgrown => exact ⟨c',s',hK,hs',he'⟩
 | .rangeFunc _ _ _ _,s,K,c,a,w,he,hs,h => h.elim
 | .scope _,s,K,c,a,w,he,hs,h => h.elim
 | .goto _,s,K,c,a,w,he,hs,h => h.elim
 | .refuse _,s,K,c,a,w,he,hs,h => h.elim
theorem callF_of_bodyB (hT : TOK P T) {f : Nat} {fn : Func} {cd : Code} {args : List LV} {h : LH} {n : Nat} {K : LV → LH → Nat → Prop} (hf : P.funcs[f]? = some fn) (hname : (fn.name == "runtime.NumGoroutine") = false) (hb : fn.body = some cd)
  {rs : List ResultVar} {nt : Nat} (hrs : fn.results.toList = rs) (hnt : fn.ntmps = nt) (bs : List Nat) (hbody : lbodyB (fun _ => P) (fun _ => T) bs cd rs nt args h n K) : CallF (fun _ => P) f args h n K := by
 refine .mk ⟨fn,cd,hf,hname,hb⟩ fun c w xs hr hN hl hrel => ?_
 refine calls_of_wp hf hb ?_
 subst hrs hnt
 unfold lbodyB at hbody
 have hs : St c ⟨args ++ undefs (fn.ntmps - llen args),h,n⟩ { tmps := xs ++ Array.replicate (fn.ntmps - xs.size) undef,defers := [] } w := by
  refine ⟨by simp [undefs_length,llen_eq,hl],fun i u hu => ?_,rfl,hr,hN⟩
  dsimp only at hu ⊢
  by_cases hi : i < args.length
  ·rw [List.getElem?_append_left hi] at hu
   have := hrel i u hu
   rw [Array.getD_eq_getD_getElem?] at this ⊢
   rw [Array.getElem?_append_left (by omega)]
   exact this
  ·rw [List.getElem?_append_right (by omega)] at hu
   rw [undefs_get _ _ _ hu]; exact .undef _
 refine wp_mono (lcodeB_sound hT n hN bs cd (Ext.refl hr) hs hbody) fun e a' w' hp => ?_
 obtain ⟨c',s',hK,hs',he'⟩ := hp
 have fin : lres (fun _ => T) s' fn.results.toList (fun rs => RetF n rs s'.h s'.n K) → a'.defers = [] ∧ ∃ v,(results fn a'.tmps).run P w' = .ok v w' ∧
   (fun (e : Ending) w' => ∃ (c' : Ctx) (r : LV) (v : Value) (h' : LH) (n' : Nat),e = .returned v ∧ K r h' n' ∧ HR c' w' h' ∧ c'.N = n' ∧ LR c' w' r v ∧ Ext c w c' w') (.returned v) w' := by
  intro hres
  refine ⟨hs'.df,?_⟩
  obtain ⟨us,vs,h1,h2,h3⟩ := lres_sound hT hs' _ hres
  obtain ⟨rs',h',n',⟨hre⟩,hlr,hk⟩ := h3
  have hs2 : St c' ⟨us,s'.h,s'.n⟩ { tmps := vs.toArray,defers := [] } w' := ⟨by simpa using h2.1,fun i u hu => (Rel2.getD (x := vs.toArray) (by simpa using h2)).2 i u hu,rfl,hs'.hr,hs'.nn⟩
  obtain ⟨c2,he2,hs3⟩ := hre c w c' _ w' hN he' hs2
  refine ⟨if h : vs.toArray.size = 1 then vs.toArray[0] else .tuple vs.toArray,?_,c2,one rs',_,h',n',rfl,hk,hs3.hr,hs3.nn,?_,he2⟩
  ·rw [results_eq,Sem.run_bind,Array.mapM_eq_mapM_toList,Sem.run_map,h1]
   rfl
  ·have hr3 : Rel2 c2 w' rs' vs := by
    have := Rel2.ofD hs3.tl hs3.tr
    simpa using this
   cases rs' with
   | nil =>
    have : vs = [] := List.eq_nil_of_length_eq_zero hr3.1.symm
    subst this
    exact .tup [] #[] rfl (fun j u hu => by simp at hu)
   | cons u rs =>
    obtain ⟨y,ys,rfl,h5,h6⟩ := hr3.head
    cases rs with
    | nil =>
     have : ys = [] := List.eq_nil_of_length_eq_zero h6.1.symm
     subst this
     simpa [one] using h5
    | cons u2 rs =>
     have hne : ¬ (y :: ys).toArray.size = 1 := by
      have := h6.1
      simp at this ⊢
      intro h; rw [h] at this; simp at this
     rw [dif_neg hne]
     exact .tup _ _ (by simpa using hr3.1) (Rel2.getD (x := (y :: ys).toArray) (by simpa using hr3)).2
 cases e with
 | normal => exact fin hK
 | ret => exact fin hK
 | exit j => exact hK.elim
 | goto l => exact hK.elim
 | panic ch => exact hK.elim
 | outgrown => exact hK.elim
end
theorem Br.yes {p : Unit → Prop} {K : Bool → Prop} (h : p ()) (hk : K true) : Br p K := .mk (fun _ => hk) (fun n => absurd h n)
theorem Br.no {p : Unit → Prop} {K : Bool → Prop} (h : ¬ p ()) (hk : K false) : Br p K := .mk (fun y => absurd y h) (fun _ => hk)
end Go.LX
namespace Go.Proofs.YtjfdfbpgckilpaaGreatDoor
open Go Go.LX
set_option maxRecDepth 100000
set_option linter.unusedVariables false
set_option linter.unusedSimpArgs false
set_option maxHeartbeats 32000000
inductive Meant (w : Int) : LV → Prop
 | place (x : Int) (h : w % 2 = 1) (hx : x = (w - 1) / 2) : Meant w (.iface 230 (.p (.int .i64 (.sym x))))
 | number (x : Int) (h : ¬ w % 2 = 1) (hx : x = w / 2) : Meant w (.iface 277 (.p (.int .i64 (.sym x))))
theorem and1_bv (x : Int) : IntKind.i64.wrap ((BitVec.ofInt 64 x &&& BitVec.ofInt 64 1).toNat : Int) = x % 2 := and1_i64 x
theorem meaning_lx (w : Int) (hw : -9223372036854775808 ≤ w ∧ w ≤ 9223372036854775807) : CallF (fun _ => Tryz.prog) 180 [i6 w] [] 0 (fun r h n => Meant w r ∧ h = [] ∧ n = 0) := by
 refine callF_of_body tok Tryz.func180 (by kernel_rfl) rfl rfl rfl ?_; conv => cbv
 refine Sum.mk fun u hu => ?_
 have hu : u = w % 2 := hu.trans (and1_bv w)
 conv => cbv
 refine Br.mk (fun g => ?_) (fun g => ?_)
 ·have g : u = 1 := g
  conv => cbv
  refine Fit.mk (by show (-9223372036854775808 : Int) ≤ w - 1; omega) (by show w - 1 ≤ 9223372036854775807; omega) fun v hv => ?_
  have hv : v = w - 1 := hv
  conv => cbv
  have hdv : v.tdiv 2 = (w - 1) / 2 := by rw [hv]; exact Int.tdiv_eq_ediv_of_dvd (by omega)
  refine Fit.mk (by show (-9223372036854775808 : Int) ≤ v.tdiv 2; omega) (by show v.tdiv 2 ≤ 9223372036854775807; omega) fun y hy => ?_
  have hy : y = (w - 1) / 2 := hy.trans hdv
  conv => cbv
  refine RetF.mk [.iface 230 (.p (.int .i64 (.sym y)))] [] 0 (Re.at [] []) rfl ⟨.place y (by omega) hy,rfl,rfl⟩
 ·have g : ¬ u = 1 := g
  conv => cbv
  have hdv : w.tdiv 2 = w / 2 := Int.tdiv_eq_ediv_of_dvd (by omega)
  refine Fit.mk (by show (-9223372036854775808 : Int) ≤ w.tdiv 2; omega) (by show w.tdiv 2 ≤ 9223372036854775807; omega) fun y hy => ?_
  conv => cbv
  refine RetF.mk [.iface 277 (.p (.int .i64 (.sym y)))] [] 0 (Re.at [] []) rfl ⟨.number y (by omega) (hy.trans hdv),rfl,rfl⟩
theorem isPtr_lx (w : Int) (hw : -9223372036854775808 ≤ w ∧ w ≤ 9223372036854775807) : CallF (fun _ => Tryz.prog) 122 [i6 w] [] 0 (fun r h n => ∃ b : Bool,r = .p (.bool b) ∧ h = [] ∧ n = 0 ∧ (b = true ↔ w % 2 = 1)) := by
 refine callF_of_body tok Tryz.func122 (by kernel_rfl) rfl rfl rfl ?_; conv => cbv
 refine callF_frame (meaning_lx w hw) [] rfl trivial rfl rfl (fun r h' n' hrr => ?_)
 obtain ⟨hm,e2,e3⟩ := hrr
 subst e2 e3
 cases hm with
 | place x h hx =>
  conv => cbv
  refine RetF.mk [.p (.bool true)] [] 0 (Re.at [] []) rfl ⟨true,rfl,rfl,rfl,fun _ => h,fun _ => rfl⟩
 | number x h hx =>
  conv => cbv
  refine RetF.mk [.p (.bool false)] [] 0 (Re.at [] []) rfl ⟨false,rfl,rfl,rfl,fun k => (by cases k),fun k => absurd k h⟩
theorem atV_lx (w : Int) (hw : -9223372036854775808 ≤ w ∧ w ≤ 9223372036854775807) : CallF (fun _ => Tryz.prog) 123 [i6 w] [] 0 (fun r h n => ∃ x : Int,r = .p (.int .i64 (.sym x)) ∧ h = [] ∧ n = 0 ∧ (w % 2 = 1 → x = (w - 1) / 2) ∧ (¬ w % 2 = 1 → x = -1)) := by
 refine callF_of_body tok Tryz.func123 (by kernel_rfl) rfl rfl rfl ?_; conv => cbv
 refine callF_frame (meaning_lx w hw) [] rfl trivial rfl rfl (fun r h' n' hrr => ?_)
 obtain ⟨hm,e2,e3⟩ := hrr
 subst e2 e3
 cases hm with
 | place x h hx =>
  conv => cbv
  refine RetF.mk [i6 x] [] 0 (Re.at [] []) rfl ⟨x,rfl,rfl,rfl,fun _ => hx,fun k => absurd h k⟩
 | number x h hx =>
  conv => cbv
  refine RetF.mk [i6 (-1)] [] 0 (Re.at [] []) rfl ⟨-1,rfl,rfl,rfl,fun k => absurd k h,fun _ => rfl⟩
end Go.Proofs.YtjfdfbpgckilpaaGreatDoor
namespace Go.Proofs.YtjfdfbpgckilpaaGreatDoor
open Go Go.LX
set_option maxRecDepth 100000
set_option linter.unusedVariables false
set_option linter.unusedSimpArgs false
set_option maxHeartbeats 32000000
def namesW : ByteArray := ⟨#[99,97,112,32,99,108,111,115,101,100,32,99,111,117,110,116,32,115,116,97,114,116,32,98,117,102,32,116,97,107,101,104,101,97,100,32,116,97,107,101,116,97,105,108,32,115,101,110,100,104,101,97,100,32,115,101,110,100,116,97,105,108,10,10,103,111,114,32,99,104,97,110,32,118,97,108,117,101,32,110,101,120,116,32,116,111,32,114,101,103,32,109,111,114,101,10,105,100,32,115,116,97,116,117,115,32,112,99,32,97,32,98,32,99,32,100,32,101,32,102,32,115,117,100,111,103,115,10,118,97,108,117,101,32,102,105,110,97,108,10,119,104,101,110,32,99,104,97,110,10]⟩
def byteW (p : Nat) : Int := ((namesW.get! p).toNat : Int)
def lnW : Nat → Int
 | 0 => 1
 | p + 1 => if byteW p = 10 then lnW p + 1 else lnW p
def frW : Nat → Int
 | 0 => 0
 | p + 1 => if byteW p = 10 then (p : Int) + 1 else frW p
theorem namesW_dec (p : Nat) (h : p < 150) : ((Utf8.decode namesW p).1 : Int) = byteW p ∧ (Utf8.decode namesW p).2 = 1 := by
 have : ∀ i : Fin 150,((Utf8.decode namesW i.val).1 : Int) = byteW i.val ∧ (Utf8.decode namesW i.val).2 = 1 := by decide +kernel
 exact this ⟨p,h⟩
theorem frW_le (p : Nat) : 0 ≤ frW p ∧ frW p ≤ p := by
 induction p with
 | zero => exact ⟨Int.le_refl _,Int.le_refl _⟩
 | succ p ih => rw [frW]; split <;> omega
theorem lnW_le (p : Nat) : 1 ≤ lnW p ∧ lnW p ≤ p + 1 := by
 induction p with
 | zero => exact ⟨Int.le_refl _,Int.le_refl _⟩
 | succ p ih => rw [lnW]; split <;> omega
def lineW (k : Int) : ByteArray := if k = 1 then namesW.extract 0 63 else if k = 3 then namesW.extract 64 96 else if k = 4 then namesW.extract 96 128 else if k = 5 then namesW.extract 128 140 else if k = 6 then namesW.extract 140 150 else ⟨#[]⟩
theorem lineW_at (p : Nat) (h : p < 150) (h1 : byteW p = 10) (h2 : frW p < p) : lineW (lnW p) = namesW.extract (frW p).toNat (p + 1) ∧ (lnW p = 1 ∨ 3 ≤ lnW p ∧ lnW p ≤ 6) := by
 have : ∀ i : Fin 150,byteW i.val = 10 → frW i.val < i.val → lineW (lnW i.val) = namesW.extract (frW i.val).toNat (i.val + 1) ∧ (lnW i.val = 1 ∨ 3 ≤ lnW i.val ∧ lnW i.val ≤ 6) := by decide +kernel
 exact this ⟨p,h⟩ h1 h2
theorem lineW_no (k : Int) (h : ∀ q : Nat,q < 150 → byteW q = 10 → frW q < q → lnW q ≠ k) : lineW k = ⟨#[]⟩ := by
 unfold lineW
 split
 ·exact absurd (by rename_i e; rw [e]; decide +kernel) (h 62 (by decide) (by decide +kernel) (by decide +kernel))
 ·split
  ·exact absurd (by rename_i e; rw [e]; decide +kernel) (h 95 (by decide) (by decide +kernel) (by decide +kernel))
  ·split
   ·exact absurd (by rename_i e; rw [e]; decide +kernel) (h 127 (by decide) (by decide +kernel) (by decide +kernel))
   ·split
    ·exact absurd (by rename_i e; rw [e]; decide +kernel) (h 139 (by decide) (by decide +kernel) (by decide +kernel))
    ·split
     ·exact absurd (by rename_i e; rw [e]; decide +kernel) (h 149 (by decide) (by decide +kernel) (by decide +kernel))
     ·rfl
theorem lineOf_lx (k : Int) : CallF (fun _ => Tryz.prog) 231 [i6 k] [] 0 (fun r h n => (∃ z : ByteArray,r = .p (.str fun _ => z) ∧ z = lineW k) ∧ h = [] ∧ n = 0) := by
 refine callF_of_body tok Tryz.func231 (by kernel_rfl) rfl rfl rfl ?_; conv => cbv
 refine LoopF.mk (fun kk s => ∃ (p ln fr : Int),s = ⟨.p (.int .i64 (.sym k)) :: .undef :: .undef :: .p (.int .i64 (.sym ln)) :: .p (.int .i64 (.sym fr)) :: .undef :: .undef :: .ptr 0 (.lit 0) :: undefs 22,[(0,.iter (fun _ => namesW) (.sym p))],1⟩ ∧ 0 ≤ p ∧ p ≤ 150 ∧ kk = (150 - p).toNat ∧ ln = lnW p.toNat ∧ fr = frW p.toNat ∧ (∀ q : Nat,q < p.toNat → byteW q = 10 → frW q < q → lnW q ≠ k)) 150 _
  (Re.at [(0,0)] []) ⟨0,1,0,rfl,by omega,by omega,by omega,rfl,rfl,fun q hq => absurd hq (by omega)⟩ ?_
 rintro kk s ⟨p,ln,fr,rfl,hp0,hp1,hkk,hln,hfr,hno⟩
 have b1 := frW_le p.toNat
 have b2 := lnW_le p.toNat
 conv => cbv
 by_cases hp : p < 150
 ·have hdc := namesW_dec p.toNat (by omega)
  refine NextS.more (show p < 150 by omega) ?_
  intro r p' hr hp'
  have hr : r = byteW p.toNat := hr.trans hdc.1
  have hp' : p' = p + 1 := by
   have : p' = p + ((Utf8.decode namesW p.toNat).2 : Int) := hp'
   rw [this,hdc.2]; rfl
  have hpn : p'.toNat = p.toNat + 1 := by omega
  clear hdc
  conv => cbv
  refine Br.mk (fun g => ?_) (fun g => ?_)
  ·have g : ¬ r = 10 := g
   have hb : ¬ byteW p.toNat = 10 := fun q => g (hr.trans q)
   conv => cbv
   refine Again.mk (150 - p').toNat _ (by omega) (Re.at [(0,0)] []) ⟨p',ln,fr,rfl,by omega,by omega,rfl,by rw [hpn,lnW,if_neg hb]; exact hln,by rw [hpn,frW,if_neg hb]; exact hfr,fun q hq h1 h2 => ?_⟩
   by_cases e : q = p.toNat
   ·rw [e] at h1; exact absurd h1 hb
   ·exact hno q (by omega) h1 h2
  ·have g : r = 10 := Classical.byContradiction fun q => g q
   have hb : byteW p.toNat = 10 := hr.symm.trans g
   conv => cbv
   refine Br.mk (fun g1 => ?_) (fun g1 => ?_)
   ·have g1 : ln = k := g1
    conv => cbv
    refine Br.mk (fun g2 => ?_) (fun g2 => ?_)
    ·have g2 : fr < p := g2
     have hat := lineW_at p.toNat (by omega) hb (by rw [← hfr]; omega)
     conv => cbv
     refine Fit.mk (by show (-9223372036854775808 : Int) ≤ p + 1; omega) (by show p + 1 ≤ 9223372036854775807; omega) fun f2 hf2 => ?_
     have hf2 : f2 = p + 1 := hf2
     conv => cbv
     refine Need.mk (show 0 ≤ fr ∧ fr ≤ f2 ∧ f2 ≤ (150 : Int) by omega) ?_
     conv => cbv
     refine Str.mk fun z hz => ?_
     have hz : z = namesW.extract fr.toNat f2.toNat := hz
     conv => cbv
     refine RetF.mk [.p (.str fun _ => z)] [] 0 (Re.at [] []) rfl ⟨⟨z,rfl,?_⟩,rfl,rfl⟩
     rw [hz,← g1,hln,hat.1,← hfr]
     congr 1
     omega
    ·have g2 : ¬ fr < p := g2
     conv => cbv
     refine Fit.mk (by show (-9223372036854775808 : Int) ≤ ln + 1; omega) (by show ln + 1 ≤ 9223372036854775807; omega) fun l2 hl2 => ?_
     have hl2 : l2 = ln + 1 := hl2
     conv => cbv
     refine Fit.mk (by show (-9223372036854775808 : Int) ≤ p + 1; omega) (by show p + 1 ≤ 9223372036854775807; omega) fun f2 hf2 => ?_
     have hf2 : f2 = p + 1 := hf2
     conv => cbv
     refine Again.mk (150 - p').toNat _ (by omega) (Re.at [(0,0)] []) ⟨p',l2,f2,rfl,by omega,by omega,rfl,by rw [hpn,lnW,if_pos hb]; omega,by rw [hpn,frW,if_pos hb]; omega,fun q hq h1 h2 => ?_⟩
     by_cases e : q = p.toNat
     ·have h2 : frW q < (q : Int) := h2
      rw [e,← hfr] at h2
      omega
     ·exact hno q (by omega) h1 h2
   ·have g1 : ¬ ln = k := g1
    conv => cbv
    refine Fit.mk (by show (-9223372036854775808 : Int) ≤ ln + 1; omega) (by show ln + 1 ≤ 9223372036854775807; omega) fun l2 hl2 => ?_
    have hl2 : l2 = ln + 1 := hl2
    conv => cbv
    refine Fit.mk (by show (-9223372036854775808 : Int) ≤ p + 1; omega) (by show p + 1 ≤ 9223372036854775807; omega) fun f2 hf2 => ?_
    have hf2 : f2 = p + 1 := hf2
    conv => cbv
    refine Again.mk (150 - p').toNat _ (by omega) (Re.at [(0,0)] []) ⟨p',l2,f2,rfl,by omega,by omega,rfl,by rw [hpn,lnW,if_pos hb]; omega,by rw [hpn,frW,if_pos hb]; omega,fun q hq h1 h2 => ?_⟩
    by_cases e : q = p.toNat
    ·rw [e,← hln]; exact g1
    ·exact hno q (by omega) h1 h2
 ·refine NextS.over (show (150 : Int) ≤ p by omega) ?_
  conv => cbv
  refine RetF.mk [.p (.str fun _ => ⟨#[]⟩)] [] 0 (Re.at [] []) rfl ⟨⟨_,rfl,(lineW_no k fun q hq => hno q (by omega)).symm⟩,rfl,rfl⟩
end Go.Proofs.YtjfdfbpgckilpaaGreatDoor
namespace Go.Proofs.YtjfdfbpgckilpaaGreatDoor
open Go Go.LX
set_option maxRecDepth 100000
set_option linter.unusedVariables false
set_option linter.unusedSimpArgs false
set_option maxHeartbeats 32000000
theorem ends_lx (x : Int) : CallF (fun _ => Tryz.prog) 232 [.p (.int .i32 (.sym x))] [] 0 (fun r h n => (∃ b : Bool,r = .p (.bool b) ∧ (b = true ↔ x = 32 ∨ x = 10)) ∧ h = [] ∧ n = 0) := by
 refine callF_of_body tok Tryz.func232 (by kernel_rfl) rfl rfl rfl ?_; conv => cbv
 refine Br.mk (fun g => ?_) (fun g => ?_)
 ·have g : x = 32 := g
  conv => cbv
  refine RetF.mk [.p (.bool true)] [] 0 (Re.at [] []) rfl ⟨⟨true,rfl,by simp [g]⟩,rfl,rfl⟩
 ·have g : ¬ x = 32 := g
  conv => cbv
  refine Br.mk (fun g1 => ?_) (fun g1 => ?_)
  ·have g1 : x = 10 := g1
   conv => cbv
   refine RetF.mk [.p (.bool true)] [] 0 (Re.at [] []) rfl ⟨⟨true,rfl,by simp [g1]⟩,rfl,rfl⟩
  ·have g1 : ¬ x = 10 := g1
   conv => cbv
   refine RetF.mk [.p (.bool false)] [] 0 (Re.at [] []) rfl ⟨⟨false,rfl,by simp [g,g1]⟩,rfl,rfl⟩
def cntW (s : ByteArray) : Nat → Int
 | 0 => 0
 | k + 1 => if (Utf8.decode s k).1 = 32 ∨ (Utf8.decode s k).1 = 10 then cntW s k + 1 else cntW s k
theorem cntW_le (s : ByteArray) (k : Nat) : 0 ≤ cntW s k ∧ cntW s k ≤ k := by
 induction k with
 | zero => exact ⟨Int.le_refl _,Int.le_refl _⟩
 | succ k ih => rw [cntW]; split <;> omega
def flatW (s : ByteArray) : Prop := s.size ≤ 150 ∧ ∀ i : Nat,i < s.size → (Utf8.decode s i).2 = 1
def needW (k : Int) : Int := if k = 1 then 9 else if k = 3 then 7 else if k = 4 then 10 else if k = 5 then 2 else if k = 6 then 2 else 0
theorem lineW_flat (k : Int) : flatW (lineW k) ∧ cntW (lineW k) (lineW k).size = needW k := by
 have key : ∀ (s : ByteArray),s.size ≤ 150 → (∀ i : Fin s.size,(Utf8.decode s i.val).2 = 1) → flatW s := fun s h1 h2 => ⟨h1,fun i hi => h2 ⟨i,hi⟩⟩
 unfold lineW needW
 split
 ·exact ⟨key _ (by decide +kernel) (by decide +kernel),by decide +kernel⟩
 ·split
  ·exact ⟨key _ (by decide +kernel) (by decide +kernel),by decide +kernel⟩
  ·split
   ·exact ⟨key _ (by decide +kernel) (by decide +kernel),by decide +kernel⟩
   ·split
    ·exact ⟨key _ (by decide +kernel) (by decide +kernel),by decide +kernel⟩
    ·split
     ·exact ⟨key _ (by decide +kernel) (by decide +kernel),by decide +kernel⟩
     ·exact ⟨key _ (by decide +kernel) (by decide +kernel),by decide +kernel⟩
theorem needR_lx (k m : Int) (hk : k ≠ 2) : CallF (fun _ => Tryz.prog) 189 [i6 k,i6 m] [] 0 (fun r h n => (∃ (v : Int) (b : Bool),r = .tup [i6 v,.p (.bool b)] ∧ v = needW k ∧ (b = true ↔ v > 0)) ∧ h = [] ∧ n = 0) := by
 refine callF_of_body tok Tryz.func189 (by kernel_rfl) rfl rfl rfl ?_; conv => cbv
 refine Br.no (show ¬ (k = 2) from hk) ?_
 conv => cbv
 refine callF_frame (lineOf_lx k) [] rfl trivial rfl rfl (fun r h' n' hrr => ?_)
 obtain ⟨⟨z,e1,hz⟩,e2,e3⟩ := hrr
 subst e1 e2 e3
 obtain ⟨hfl,hct⟩ := lineW_flat k
 rw [← hz] at hfl hct
 conv => cbv
 obtain ⟨hsz,hone⟩ := hfl
 obtain ⟨N,hN⟩ : ∃ N : Int,N = z.size := ⟨_,rfl⟩
 refine LoopF.mk (fun kk s => ∃ (p v : Int),s = ⟨undefs 6 ++ .p (.int .i64 (.sym v)) :: undefs 13 ++ .ptr 0 (.lit 0) :: undefs 10,[(0,.iter (fun _ => z) (.sym p))],1⟩ ∧ 0 ≤ p ∧ p ≤ N ∧ kk = (150 - p).toNat ∧ v = cntW z p.toNat) 150 _
  (Re.at [(0,0)] []) ⟨0,0,rfl,by omega,by omega,by omega,rfl⟩ ?_
 rintro kk s ⟨p,v,rfl,hp0,hp1,hkk,hv⟩
 have hb := cntW_le z p.toNat
 have hp0 : 0 ≤ p := hp0
 have hv : v = cntW z p.toNat := hv
 conv => cbv
 by_cases hp : p < (z.size : Int)
 ·refine NextS.more (show p < (z.size : Int) from hp) ?_
  intro r p' hr hp'
  have hr : r = ((Utf8.decode z p.toNat).1 : Int) := hr
  have hp' : p' = p + 1 := by
   have : p' = p + ((Utf8.decode z p.toNat).2 : Int) := hp'
   rw [this,hone p.toNat (by omega)]; rfl
  have hpn : p'.toNat = p.toNat + 1 := by omega
  conv => cbv
  refine callF_frame (ends_lx r) [] rfl trivial rfl rfl (fun r2 h' n' hrr => ?_)
  obtain ⟨⟨b,e1,hb2⟩,e2,e3⟩ := hrr
  subst e1 e2 e3
  cases b with
  | true =>
   have he : (Utf8.decode z p.toNat).1 = 32 ∨ (Utf8.decode z p.toNat).1 = 10 := by have := hb2.1 rfl; omega
   conv => cbv
   refine Fit.mk (by show (-9223372036854775808 : Int) ≤ v + 1; omega) (by show v + 1 ≤ 9223372036854775807; omega) fun v2 hv2 => ?_
   have hv2 : v2 = v + 1 := hv2
   conv => cbv
   refine Again.mk (150 - p').toNat _ (by omega) (Re.at [(0,0)] []) ⟨p',v2,rfl,by omega,by omega,rfl,by rw [hpn,cntW,if_pos he]; omega⟩
  | false =>
   have he : ¬ ((Utf8.decode z p.toNat).1 = 32 ∨ (Utf8.decode z p.toNat).1 = 10) := fun q => by have := hb2.2 (by omega); cases this
   conv => cbv
   refine Again.mk (150 - p').toNat _ (by omega) (Re.at [(0,0)] []) ⟨p',v,rfl,by omega,by omega,rfl,by rw [hpn,cntW,if_neg he]; omega⟩
 ·refine NextS.over (show (z.size : Int) ≤ p by omega) ?_
  have hpe : p.toNat = z.size := by omega
  rw [hpe,hct] at hv
  conv => cbv
  refine Br.mk (fun g => ?_) (fun g => ?_)
  ·have g : 0 < v := g
   conv => cbv
   refine RetF.mk [i6 v,.p (.bool true)] [] 0 (Re.at [] []) rfl ⟨⟨v,true,rfl,hv,by simp; omega⟩,rfl,rfl⟩
  ·have g : ¬ 0 < v := g
   conv => cbv
   refine RetF.mk [i6 v,.p (.bool false)] [] 0 (Re.at [] []) rfl ⟨⟨v,false,rfl,hv,by simp; omega⟩,rfl,rfl⟩
theorem needBuf_lx (m : Int) : CallF (fun _ => Tryz.prog) 189 [.p (.int .i64 (.lit 2)),i6 m] [] 0 (fun r h n => (∃ (v : Int) (b : Bool),r = .tup [i6 v,.p (.bool b)] ∧ ((0 ≤ m ∧ m ≤ 3 ∧ v = m ∧ b = true) ∨ (¬ (0 ≤ m ∧ m ≤ 3) ∧ v = 0 ∧ b = false))) ∧ h = [] ∧ n = 0) := by
 refine callF_of_body tok Tryz.func189 (by kernel_rfl) rfl rfl rfl ?_; conv => cbv
 refine Br.mk (fun g => ?_) (fun g => ?_)
 ·have g : m < 0 := g
  conv => cbv
  refine RetF.mk [i6 0,.p (.bool false)] [] 0 (Re.at [] []) rfl ⟨⟨0,false,rfl,.inr ⟨by omega,rfl,rfl⟩⟩,rfl,rfl⟩
 ·have g : ¬ m < 0 := g
  conv => cbv
  refine Br.mk (fun g1 => ?_) (fun g1 => ?_)
  ·have g1 : 3 < m := g1
   conv => cbv
   refine RetF.mk [i6 0,.p (.bool false)] [] 0 (Re.at [] []) rfl ⟨⟨0,false,rfl,.inr ⟨by omega,rfl,rfl⟩⟩,rfl,rfl⟩
  ·have g1 : ¬ 3 < m := g1
   conv => cbv
   refine RetF.mk [i6 m,.p (.bool true)] [] 0 (Re.at [] []) rfl ⟨⟨m,true,rfl,.inl ⟨by omega,by omega,rfl,rfl⟩⟩,rfl,rfl⟩
def needV (k : Int) : Int := if k = 2 then 0 else needW k
def hasV (k : Int) : Prop := k = 2 ∨ needW k > 0
theorem need_lx (k : Int) : CallF (fun _ => Tryz.prog) 189 [i6 k,.p (.int .i64 (.lit 0))] [] 0 (fun r h n => (∃ (v : Int) (b : Bool),r = .tup [i6 v,.p (.bool b)] ∧ v = needV k ∧ (b = true ↔ hasV k)) ∧ h = [] ∧ n = 0) := by
 by_cases hk : k = 2
 ·refine CallF.le (args0 := [.p (.int .i64 (.lit 2)),i6 0]) (CallF.mono (needBuf_lx 0) ?_) (by simp [ales,ale,pvle,I.val,hk])
  rintro r h n ⟨⟨v,b,e1,h1⟩,e2,e3⟩
  rcases h1 with ⟨_,_,h1,h2⟩ | ⟨h1,_,_⟩
  ·exact ⟨⟨v,b,e1,by rw [h1,needV,if_pos hk],by rw [h2]; simp [hasV,hk]⟩,e2,e3⟩
  ·exact absurd (by omega) h1
 ·refine CallF.le (args0 := [i6 k,i6 0]) (CallF.mono (needR_lx k 0 hk) ?_) (by simp [ales,ale,pvle,I.val])
  rintro r h n ⟨⟨v,b,e1,h1,h2⟩,e2,e3⟩
  exact ⟨⟨v,b,e1,by rw [h1,needV,if_neg hk],by rw [h2,h1]; simp [hasV,hk]⟩,e2,e3⟩
end Go.Proofs.YtjfdfbpgckilpaaGreatDoor
namespace Go.Proofs.YtjfdfbpgckilpaaGreatDoor
open Go Go.LX
set_option maxRecDepth 100000
set_option linter.unusedVariables false
set_option linter.unusedSimpArgs false
set_option maxHeartbeats 32000000
def numW (w : Int) : Int := if w % 2 = 1 then 0 else w / 2
def atW (w : Int) : Int := if w % 2 = 1 then (w - 1) / 2 else -1
def plW (a : Int) : Int := if a < 0 then 0 else a * 2 + 1
def b62 (x : Int) : Prop := -4611686018427387904 ≤ x ∧ x ≤ 4611686018427387903
theorem b62_num {w : Int} (h : -9223372036854775808 ≤ w ∧ w ≤ 9223372036854775807) : b62 (numW w) := by unfold b62 numW; split <;> omega
theorem b62_at {w : Int} (h : -9223372036854775808 ≤ w ∧ w ≤ 9223372036854775807) : b62 (atW w) := by unfold b62 atW; split <;> omega
theorem plW_bd {a : Int} (h : b62 a) : -9223372036854775808 ≤ plW a ∧ plW a ≤ 9223372036854775807 := by unfold b62 at h; unfold plW; split <;> omega
theorem intV_lx (v : Int) (hv : b62 v) : CallF (fun _ => Tryz.prog) 163 [i6 v] [] 0 (fun r h n => (∃ x : Int,r = .p (.int .i64 (.sym x)) ∧ x = v * 2) ∧ h = [] ∧ n = 0) := by
 obtain ⟨h1,h2⟩ := hv
 refine callF_of_body tok Tryz.func163 (by kernel_rfl) rfl rfl rfl ?_; conv => cbv
 refine Fit.mk (by show (-9223372036854775808 : Int) ≤ 2 * v; omega) (by show 2 * v ≤ 9223372036854775807; omega) fun x hx => ?_
 have hx : x = 2 * v := hx
 conv => cbv
 refine RetF.mk [i6 x] [] 0 (Re.at [] []) rfl ⟨⟨x,rfl,by omega⟩,rfl,rfl⟩
theorem ptrV_lx (v : Int) (hv : b62 v) : CallF (fun _ => Tryz.prog) 230 [i6 v] [] 0 (fun r h n => (∃ x : Int,r = .p (.int .i64 (.sym x)) ∧ x = v * 2 + 1) ∧ h = [] ∧ n = 0) := by
 obtain ⟨h1,h2⟩ := hv
 refine callF_of_body tok Tryz.func230 (by kernel_rfl) rfl rfl rfl ?_; conv => cbv
 refine Fit.mk (by show (-9223372036854775808 : Int) ≤ 2 * v; omega) (by show 2 * v ≤ 9223372036854775807; omega) fun x hx => ?_
 have hx : x = 2 * v := hx
 conv => cbv
 refine Fit.mk (by show (-9223372036854775808 : Int) ≤ x + 1; omega) (by show x + 1 ≤ 9223372036854775807; omega) fun y hy => ?_
 have hy : y = x + 1 := hy
 conv => cbv
 refine RetF.mk [i6 y] [] 0 (Re.at [] []) rfl ⟨⟨y,rfl,by omega⟩,rfl,rfl⟩
theorem numV_lx (w : Int) (hw : -9223372036854775808 ≤ w ∧ w ≤ 9223372036854775807) : CallF (fun _ => Tryz.prog) 233 [i6 w] [] 0 (fun r h n => (∃ x : Int,r = .p (.int .i64 (.sym x)) ∧ x = numW w) ∧ h = [] ∧ n = 0) := by
 have hm2 := meaning_lx w hw
 refine callF_of_body tok Tryz.func233 (by kernel_rfl) rfl rfl rfl ?_; conv => cbv
 refine callF_frame hm2 [] rfl trivial rfl rfl (fun r h' n' hrr => ?_)
 obtain ⟨hm,e2,e3⟩ := hrr
 subst e2 e3
 cases hm with
 | place x h hx =>
  conv => cbv
  refine RetF.mk [i6 0] [] 0 (Re.at [] []) rfl ⟨⟨0,rfl,by rw [numW,if_pos h]⟩,rfl,rfl⟩
 | number x h hx =>
  conv => cbv
  refine RetF.mk [i6 x] [] 0 (Re.at [] []) rfl ⟨⟨x,rfl,by rw [numW,if_neg h]; exact hx⟩,rfl,rfl⟩
theorem atV2_lx (w : Int) (hw : -9223372036854775808 ≤ w ∧ w ≤ 9223372036854775807) : CallF (fun _ => Tryz.prog) 123 [i6 w] [] 0 (fun r h n => (∃ x : Int,r = .p (.int .i64 (.sym x)) ∧ x = atW w) ∧ h = [] ∧ n = 0) := by
 refine CallF.mono (atV_lx w hw) ?_
 rintro r h n ⟨x,e1,e2,e3,h1,h2⟩
 refine ⟨⟨x,e1,?_⟩,e2,e3⟩
 unfold atW
 split
 ·rename_i k; exact h1 k
 ·rename_i k; exact h2 k
theorem placeV_lx (a : Int) (ha : b62 a) : CallF (fun _ => Tryz.prog) 188 [i6 a] [] 0 (fun r h n => (∃ x : Int,r = .p (.int .i64 (.sym x)) ∧ x = plW a) ∧ h = [] ∧ n = 0) := by
 refine callF_of_body tok Tryz.func188 (by kernel_rfl) rfl rfl rfl ?_; conv => cbv
 refine Br.mk (fun g => ?_) (fun g => ?_)
 ·have g : a < 0 := g
  conv => cbv
  refine CallF.le (args0 := [i6 0]) (callF_frame (intV_lx 0 (by unfold b62; omega)) [] rfl trivial rfl rfl (fun r h' n' hrr => ?_)) (by simp [ales,ale,pvle,I.val])
  obtain ⟨⟨x,e1,hx⟩,e2,e3⟩ := hrr
  subst e1 e2 e3
  conv => cbv
  refine RetF.mk [i6 x] [] 0 (Re.at [] []) rfl ⟨⟨x,rfl,by rw [plW,if_pos g]; omega⟩,rfl,rfl⟩
 ·have g : ¬ a < 0 := g
  conv => cbv
  refine callF_frame (ptrV_lx a ha) [] rfl trivial rfl rfl (fun r h' n' hrr => ?_)
  obtain ⟨⟨x,e1,hx⟩,e2,e3⟩ := hrr
  subst e1 e2 e3
  conv => cbv
  refine RetF.mk [i6 x] [] 0 (Re.at [] []) rfl ⟨⟨x,rfl,by rw [plW,if_neg g]; omega⟩,rfl,rfl⟩
end Go.Proofs.YtjfdfbpgckilpaaGreatDoor
namespace Go.Proofs.YtjfdfbpgckilpaaGreatDoor
open Go Go.LX
set_option maxRecDepth 100000
set_option linter.unusedVariables false
set_option linter.unusedSimpArgs false
set_option maxHeartbeats 32000000
def chanFs : List Int → List Int
 | [x0,x1,x2,x3,x4,x5,x6,x7,x8] => [numW x0,numW x1,numW x2,numW x3,atW x4,atW x5,atW x6,atW x7,atW x8]
 | _ => []
def chanWs : List Int → List Int
 | [x0,x1,x2,x3,x4,x5,x6,x7,x8] => [x0 * 2,x1 * 2,x2 * 2,x3 * 2,plW x4,plW x5,plW x6,plW x7,plW x8]
 | _ => []
def sudogFs : List Int → List Int
 | [x0,x1,x2,x3,x4,x5,x6] => [atW x0,atW x1,x2,atW x3,numW x4,numW x5,atW x6]
 | _ => []
def sudogWs : List Int → List Int
 | [x0,x1,x2,x3,x4,x5,x6] => [plW x0,plW x1,x2,plW x3,x4 * 2,x5 * 2,plW x6]
 | _ => []
def gorFs : List Int → List Int
 | [x0,x1,x2,x3,x4,x5,x6,x7,x8,x9] => [numW x0,numW x1,numW x2,x3,x4,x5,x6,x7,x8,atW x9]
 | _ => []
def gorWs : List Int → List Int
 | [x0,x1,x2,x3,x4,x5,x6,x7,x8,x9] => [x0 * 2,x1 * 2,x2 * 2,x3,x4,x5,x6,x7,x8,plW x9]
 | _ => []
theorem chanOf_lx (x0 x1 x2 x3 x4 x5 x6 x7 x8 : Int) (hb : ∀ x ∈ [x0,x1,x2,x3,x4,x5,x6,x7,x8],-9223372036854775808 ≤ x ∧ x ≤ 9223372036854775807) : CallF (fun _ => Tryz.prog) 191 [.p (.vsl (.lit 9) false [.int .i64 (.sym x0),.int .i64 (.sym x1),.int .i64 (.sym x2),.int .i64 (.sym x3),.int .i64 (.sym x4),.int .i64 (.sym x5),.int .i64 (.sym x6),.int .i64 (.sym x7),.int .i64 (.sym x8)])] [] 0 (fun r h n => (∃ (y0 y1 y2 y3 y4 y5 y6 y7 y8 : Int),r = .agg [i6 y0,i6 y1,i6 y2,i6 y3,i6 y4,i6 y5,i6 y6,i6 y7,i6 y8] ∧ [y0,y1,y2,y3,y4,y5,y6,y7,y8] = chanFs [x0,x1,x2,x3,x4,x5,x6,x7,x8]) ∧ h = [] ∧ n = 0) := by
 simp only [List.forall_mem_cons] at hb
 obtain ⟨b0,b1,b2,b3,b4,b5,b6,b7,b8,_⟩ := hb
 refine callF_of_body tok Tryz.func191 (by kernel_rfl) rfl rfl rfl ?_; conv => cbv
 refine drawn_sound tok (by kernel_rfl) [(3,[34,33,32,30,29,28,26,25,24,22,21,20,18,17,16,14,13,12,10,9,8,6,5,4]),(7,[34,33,32,30,29,28,26,25,24,22,21,20,18,17,16,14,13,12,10,9,8]),(11,[34,33,32,30,29,28,26,25,24,22,21,20,18,17,16,14,13,12]),(15,[34,33,32,30,29,28,26,25,24,22,21,20,18,17,16]),(19,[34,33,32,30,29,28,26,25,24,22,21,20]),(23,[34,33,32,30,29,28,26,25,24]),(27,[34,33,32,30,29,28]),(31,[34,33,32]),(35,[]),(37,[])] [0,1,2,4,5,6,8,9,10,12,13,14,16,17,18,20,21,22,24,25,26,28,29,30,32,33,34,3,7,11,15,19,23,27,31,35,36,37] (by kernel_rfl) ?_; conv => cbv
 refine Need.mk (by simp only [I.val]; omega) ?_
 conv => cbv
 refine Need.mk (by simp only [I.val]; omega) ?_
 conv => cbv
 refine Need.mk (by simp only [I.val]; omega) ?_
 conv => cbv
 refine Need.mk (by simp only [I.val]; omega) ?_
 conv => cbv
 refine Need.mk (by simp only [I.val]; omega) ?_
 conv => cbv
 refine Need.mk (by simp only [I.val]; omega) ?_
 conv => cbv
 refine Need.mk (by simp only [I.val]; omega) ?_
 conv => cbv
 refine Need.mk (by simp only [I.val]; omega) ?_
 conv => cbv
 refine Need.mk (by simp only [I.val]; omega) ?_
 conv => cbv
 refine callF_frame (numV_lx x0 b0) [] rfl trivial rfl rfl (fun r h' n' hrr => ?_)
 obtain ⟨⟨y0,e1,hy0⟩,e2,e3⟩ := hrr
 subst e1 e2 e3
 conv => cbv
 refine callF_frame (numV_lx x1 b1) [] rfl trivial rfl rfl (fun r h' n' hrr => ?_)
 obtain ⟨⟨y1,e1,hy1⟩,e2,e3⟩ := hrr
 subst e1 e2 e3
 conv => cbv
 refine callF_frame (numV_lx x2 b2) [] rfl trivial rfl rfl (fun r h' n' hrr => ?_)
 obtain ⟨⟨y2,e1,hy2⟩,e2,e3⟩ := hrr
 subst e1 e2 e3
 conv => cbv
 refine callF_frame (numV_lx x3 b3) [] rfl trivial rfl rfl (fun r h' n' hrr => ?_)
 obtain ⟨⟨y3,e1,hy3⟩,e2,e3⟩ := hrr
 subst e1 e2 e3
 conv => cbv
 refine callF_frame (atV2_lx x4 b4) [] rfl trivial rfl rfl (fun r h' n' hrr => ?_)
 obtain ⟨⟨y4,e1,hy4⟩,e2,e3⟩ := hrr
 subst e1 e2 e3
 conv => cbv
 refine callF_frame (atV2_lx x5 b5) [] rfl trivial rfl rfl (fun r h' n' hrr => ?_)
 obtain ⟨⟨y5,e1,hy5⟩,e2,e3⟩ := hrr
 subst e1 e2 e3
 conv => cbv
 refine callF_frame (atV2_lx x6 b6) [] rfl trivial rfl rfl (fun r h' n' hrr => ?_)
 obtain ⟨⟨y6,e1,hy6⟩,e2,e3⟩ := hrr
 subst e1 e2 e3
 conv => cbv
 refine callF_frame (atV2_lx x7 b7) [] rfl trivial rfl rfl (fun r h' n' hrr => ?_)
 obtain ⟨⟨y7,e1,hy7⟩,e2,e3⟩ := hrr
 subst e1 e2 e3
 conv => cbv
 refine callF_frame (atV2_lx x8 b8) [] rfl trivial rfl rfl (fun r h' n' hrr => ?_)
 obtain ⟨⟨y8,e1,hy8⟩,e2,e3⟩ := hrr
 subst e1 e2 e3
 conv => cbv
 refine RetF.mk [.agg [i6 y0,i6 y1,i6 y2,i6 y3,i6 y4,i6 y5,i6 y6,i6 y7,i6 y8]] [] 0 (Re.at [] []) rfl ⟨⟨y0,y1,y2,y3,y4,y5,y6,y7,y8,rfl,by simp only [chanFs,hy0,hy1,hy2,hy3,hy4,hy5,hy6,hy7,hy8]⟩,rfl,rfl⟩
theorem sudogOf_lx (x0 x1 x2 x3 x4 x5 x6 : Int) (hb : ∀ x ∈ [x0,x1,x2,x3,x4,x5,x6],-9223372036854775808 ≤ x ∧ x ≤ 9223372036854775807) : CallF (fun _ => Tryz.prog) 192 [.p (.vsl (.lit 7) false [.int .i64 (.sym x0),.int .i64 (.sym x1),.int .i64 (.sym x2),.int .i64 (.sym x3),.int .i64 (.sym x4),.int .i64 (.sym x5),.int .i64 (.sym x6)])] [] 0 (fun r h n => (∃ (y0 y1 y2 y3 y4 y5 y6 : Int),r = .agg [i6 y0,i6 y1,i6 y2,i6 y3,i6 y4,i6 y5,i6 y6] ∧ [y0,y1,y2,y3,y4,y5,y6] = sudogFs [x0,x1,x2,x3,x4,x5,x6]) ∧ h = [] ∧ n = 0) := by
 simp only [List.forall_mem_cons] at hb
 obtain ⟨b0,b1,b2,b3,b4,b5,b6,_⟩ := hb
 refine callF_of_body tok Tryz.func192 (by kernel_rfl) rfl rfl rfl ?_; conv => cbv
 refine drawn_sound tok (by kernel_rfl) [(3,[25,24,23,21,20,19,17,16,15,13,12,11,10,9,8,6,5,4]),(7,[25,24,23,21,20,19,17,16,15,13,12,11,10,9,8]),(14,[25,24,23,21,20,19,17,16,15,10,9,8]),(18,[25,24,23,21,20,19,10,9,8]),(22,[25,24,23,10,9,8]),(26,[10,9,8]),(28,[])] [0,1,2,4,5,6,8,9,10,11,12,13,15,16,17,19,20,21,23,24,25,3,7,14,18,22,26,27,28] (by kernel_rfl) ?_; conv => cbv
 refine Need.mk (by simp only [I.val]; omega) ?_
 conv => cbv
 refine Need.mk (by simp only [I.val]; omega) ?_
 conv => cbv
 refine Need.mk (by simp only [I.val]; omega) ?_
 conv => cbv
 refine Need.mk (by simp only [I.val]; omega) ?_
 conv => cbv
 refine Need.mk (by simp only [I.val]; omega) ?_
 conv => cbv
 refine Need.mk (by simp only [I.val]; omega) ?_
 conv => cbv
 refine Need.mk (by simp only [I.val]; omega) ?_
 conv => cbv
 refine callF_frame (atV2_lx x0 b0) [] rfl trivial rfl rfl (fun r h' n' hrr => ?_)
 obtain ⟨⟨y0,e1,hy0⟩,e2,e3⟩ := hrr
 subst e1 e2 e3
 conv => cbv
 refine callF_frame (atV2_lx x1 b1) [] rfl trivial rfl rfl (fun r h' n' hrr => ?_)
 obtain ⟨⟨y1,e1,hy1⟩,e2,e3⟩ := hrr
 subst e1 e2 e3
 conv => cbv
 refine callF_frame (atV2_lx x3 b3) [] rfl trivial rfl rfl (fun r h' n' hrr => ?_)
 obtain ⟨⟨y3,e1,hy3⟩,e2,e3⟩ := hrr
 subst e1 e2 e3
 conv => cbv
 refine callF_frame (numV_lx x4 b4) [] rfl trivial rfl rfl (fun r h' n' hrr => ?_)
 obtain ⟨⟨y4,e1,hy4⟩,e2,e3⟩ := hrr
 subst e1 e2 e3
 conv => cbv
 refine callF_frame (numV_lx x5 b5) [] rfl trivial rfl rfl (fun r h' n' hrr => ?_)
 obtain ⟨⟨y5,e1,hy5⟩,e2,e3⟩ := hrr
 subst e1 e2 e3
 conv => cbv
 refine callF_frame (atV2_lx x6 b6) [] rfl trivial rfl rfl (fun r h' n' hrr => ?_)
 obtain ⟨⟨y6,e1,hy6⟩,e2,e3⟩ := hrr
 subst e1 e2 e3
 conv => cbv
 refine RetF.mk [.agg [i6 y0,i6 y1,i6 x2,i6 y3,i6 y4,i6 y5,i6 y6]] [] 0 (Re.at [] []) rfl ⟨⟨y0,y1,x2,y3,y4,y5,y6,rfl,by simp only [sudogFs,hy0,hy1,hy3,hy4,hy5,hy6]⟩,rfl,rfl⟩
theorem chanWords_lx (x0 x1 x2 x3 x4 x5 x6 x7 x8 : Int) (hb : ∀ x ∈ [x0,x1,x2,x3,x4,x5,x6,x7,x8],b62 x) : CallF (fun _ => Tryz.prog) 134 [.agg [i6 x0,i6 x1,i6 x2,i6 x3,i6 x4,i6 x5,i6 x6,i6 x7,i6 x8]] [] 0 (fun r h n => (∃ (y0 y1 y2 y3 y4 y5 y6 y7 y8 : Int),r = .p (.vsl (.lit 9) false [.int .i64 (.sym y0),.int .i64 (.sym y1),.int .i64 (.sym y2),.int .i64 (.sym y3),.int .i64 (.sym y4),.int .i64 (.sym y5),.int .i64 (.sym y6),.int .i64 (.sym y7),.int .i64 (.sym y8)]) ∧ [y0,y1,y2,y3,y4,y5,y6,y7,y8] = chanWs [x0,x1,x2,x3,x4,x5,x6,x7,x8]) ∧ h = [] ∧ n = 0) := by
 simp only [List.forall_mem_cons] at hb
 obtain ⟨b0,b1,b2,b3,b4,b5,b6,b7,b8,_⟩ := hb
 refine callF_of_body tok Tryz.func134 (by kernel_rfl) rfl rfl rfl ?_; conv => cbv
 refine drawn_sound tok (by kernel_rfl) [(2,[25,24,22,21,19,18,16,15,13,12,10,9,7,6,4,3]),(5,[25,24,22,21,19,18,16,15,13,12,10,9,7,6]),(8,[25,24,22,21,19,18,16,15,13,12,10,9]),(11,[25,24,22,21,19,18,16,15,13,12]),(14,[25,24,22,21,19,18,16,15]),(17,[25,24,22,21,19,18]),(20,[25,24,22,21]),(23,[25,24]),(26,[]),(27,[])] [0,1,3,4,6,7,9,10,12,13,15,16,18,19,21,22,24,25,2,5,8,11,14,17,20,23,26,27,28] (by kernel_rfl) ?_; conv => cbv
 refine callF_frame (intV_lx x0 b0) [] rfl trivial rfl rfl (fun r h' n' hrr => ?_)
 obtain ⟨⟨y0,e1,hy0⟩,e2,e3⟩ := hrr
 subst e1 e2 e3
 conv => cbv
 refine callF_frame (intV_lx x1 b1) [] rfl trivial rfl rfl (fun r h' n' hrr => ?_)
 obtain ⟨⟨y1,e1,hy1⟩,e2,e3⟩ := hrr
 subst e1 e2 e3
 conv => cbv
 refine callF_frame (intV_lx x2 b2) [] rfl trivial rfl rfl (fun r h' n' hrr => ?_)
 obtain ⟨⟨y2,e1,hy2⟩,e2,e3⟩ := hrr
 subst e1 e2 e3
 conv => cbv
 refine callF_frame (intV_lx x3 b3) [] rfl trivial rfl rfl (fun r h' n' hrr => ?_)
 obtain ⟨⟨y3,e1,hy3⟩,e2,e3⟩ := hrr
 subst e1 e2 e3
 conv => cbv
 refine callF_frame (placeV_lx x4 b4) [] rfl trivial rfl rfl (fun r h' n' hrr => ?_)
 obtain ⟨⟨y4,e1,hy4⟩,e2,e3⟩ := hrr
 subst e1 e2 e3
 conv => cbv
 refine callF_frame (placeV_lx x5 b5) [] rfl trivial rfl rfl (fun r h' n' hrr => ?_)
 obtain ⟨⟨y5,e1,hy5⟩,e2,e3⟩ := hrr
 subst e1 e2 e3
 conv => cbv
 refine callF_frame (placeV_lx x6 b6) [] rfl trivial rfl rfl (fun r h' n' hrr => ?_)
 obtain ⟨⟨y6,e1,hy6⟩,e2,e3⟩ := hrr
 subst e1 e2 e3
 conv => cbv
 refine callF_frame (placeV_lx x7 b7) [] rfl trivial rfl rfl (fun r h' n' hrr => ?_)
 obtain ⟨⟨y7,e1,hy7⟩,e2,e3⟩ := hrr
 subst e1 e2 e3
 conv => cbv
 refine callF_frame (placeV_lx x8 b8) [] rfl trivial rfl rfl (fun r h' n' hrr => ?_)
 obtain ⟨⟨y8,e1,hy8⟩,e2,e3⟩ := hrr
 subst e1 e2 e3
 conv => cbv
 refine RetF.mk [.p (.vsl (.lit 9) false [.int .i64 (.sym y0),.int .i64 (.sym y1),.int .i64 (.sym y2),.int .i64 (.sym y3),.int .i64 (.sym y4),.int .i64 (.sym y5),.int .i64 (.sym y6),.int .i64 (.sym y7),.int .i64 (.sym y8)])] [] 0 (Re.at [] []) rfl ⟨⟨y0,y1,y2,y3,y4,y5,y6,y7,y8,rfl,by simp only [chanWs,hy0,hy1,hy2,hy3,hy4,hy5,hy6,hy7,hy8]⟩,rfl,rfl⟩
end Go.Proofs.YtjfdfbpgckilpaaGreatDoor
namespace Go.LX
open Go
set_option linter.unusedVariables false
set_option maxHeartbeats 32000000
def addE (ops : Array Oper) (p q : Nat) : Array Oper := ops.modify q fun o => { o with after := o.after.push ⟨p,.data⟩ }
section
variable {P : Program} {Q : Exit → Act → World → Prop} {ops : Array Oper} {K K1 K2 : Act → World → Prop} {a : Act} {w : World} {p q i : Nat}
theorem addE_get (ops : Array Oper) (p q i : Nat) : (addE ops p q)[i]? = (ops[i]?).map fun o => if q = i then { o with after := o.after.push ⟨p,.data⟩ } else o := by
 unfold addE
 rw [Array.getElem?_modify]
 by_cases h : q = i
 ·simp [h]
 ·simp [h]
theorem addE_size : (addE ops p q).size = ops.size := by unfold addE; exact Array.size_modify
theorem addE_yielded (t : Array Value) : yielded (addE ops p q) t = yielded ops t := by
 funext j
 unfold yielded
 have : ((addE ops p q)[j]?).bind (·.dst) = (ops[j]?).bind (·.dst) := by
  rw [addE_get]
  cases ops[j]? with
  | none => rfl
  | some o => simp only [Option.map_some,Option.bind_some]; split <;> rfl
 rw [this]
theorem wpOp_addE (h : wpOp P (addE ops p q) Q i K a w) : wpOp P ops Q i K a w := by
 unfold wpOp at h ⊢
 rw [addE_get,addE_yielded] at h
 cases ho : ops[i]? with
 | none => rw [ho] at h; exact h
 | some o =>
  rw [ho] at h
  simp only [Option.map_some] at h ⊢
  by_cases e : q = i
  ·rw [if_pos e] at h
   exact h
  ·rw [if_neg e] at h; exact h
def NoE (P : Program) (s : Sem Next) : Prop := ∀ w,(∀ f args w',s.run P w ≠ .ok (.enter f args) w') ∧ ∀ r args w',s.run P w ≠ .ok (.row r args) w'
theorem NoE.v (s : Sem Value) : NoE P (do pure (Next.value (← s))) := fun w => by
 rw [Sem.run_bind]
 cases s.run P w <;> exact ⟨fun _ _ _ h => (by cases h),fun _ _ _ h => (by cases h)⟩
theorem NoE.u (s : Sem Unit) : NoE P (do s; pure Next.skip) := fun w => by
 rw [Sem.run_bind]
 cases s.run P w <;> exact ⟨fun _ _ _ h => (by cases h),fun _ _ _ h => (by cases h)⟩
theorem NoE.pu (x : Value) : NoE P (pure (Next.value x)) := fun w => ⟨fun _ _ _ h => (by cases h),fun _ _ _ h => (by cases h)⟩
theorem NoE.bind {α : Type} {s : Sem α} {f : α → Sem Next} (h : ∀ x,NoE P (f x)) : NoE P (s >>= f) := fun w => by
 rw [Sem.run_bind]
 cases s.run P w with
 | ok v w' => exact h v w'
 | halt x w' => exact ⟨fun _ _ _ h => (by cases h),fun _ _ _ h => (by cases h)⟩
theorem NoE.halt (x : Halt) : NoE P (Sem.halt x) := fun w => ⟨fun _ _ _ h => (by cases h),fun _ _ _ h => (by cases h)⟩
theorem NoE.deref : NoE P (runtimePanic .nilDeref : Sem Next) := by
 unfold runtimePanic
 exact NoE.bind fun p => NoE.halt _
theorem nilCheck_ne (x : Operand) (dst : Option Nat) (ty : TypeId) (pos : String) (after : Array Edge) (guard : Option (Nat × Bool)) (ρ : Operand → Value) : NoE P (execOp ρ ⟨dst,.nilCheck x,ty,pos,after,guard⟩) := by
 unfold execOp
 dsimp only
 repeat' (first | exact NoE.deref | exact NoE.pu _ | exact NoE.halt _ | split | (refine NoE.bind fun _ => ?_))
def simpleOp (o : Oper) : Bool :=
 match o.op with
 | .move _ => true
 | .assign _ => true
 | .alloc _ => true
 | .box _ _ => true
 | .build _ _ => true
 | .buildSlice _ _ _ => true
 | .load _ _ => true
 | .nilCheck _ => true
 | .store _ _ _ => true
 | .binOp _ _ _ _ _ => true
 | .unOp _ _ _ => true
 | .convert _ _ _ => true
 | .makeInterface _ _ => true
 | .slice _ _ _ _ _ => true
 | .fieldAddr _ _ _ => true
 | .field _ _ _ => true
 | .indexAddr _ _ _ => true
 | .index _ _ _ => true
 | .extract _ _ => true
 | .call c => match c.callee with
  | .builtin b => match b with
   | .append => true
   | _ => false
  | _ => false
 | _ => false
theorem append_ne {c : Call} (hc : c.callee = .builtin .append) (dst : Option Nat) (ty : TypeId) (pos : String) (after : Array Edge) (guard : Option (Nat × Bool)) (ρ : Operand → Value) : NoE P (execOp ρ ⟨dst,.call c,ty,pos,after,guard⟩) := by
 intro w
 have key : ∃ cs,(execOp ρ ⟨dst,.call c,ty,pos,after,guard⟩).run P w = (builtin .append c.argTypes ty cs (c.args.map ρ)).run P w := by
  unfold execOp
  simp [resolve,hc,invoke]
  exact ⟨_,rfl⟩
 obtain ⟨cs,key⟩ := key
 rw [key]
 exact NoE.v _ w
theorem simple_ne {o : Oper} (h : simpleOp o = true) (ρ : Operand → Value) : NoE P (execOp ρ o) := by
 obtain ⟨dst,op,ty,pos,after,guard⟩ := o
 cases op
 case call c =>
  simp only [simpleOp] at h
  split at h
  ·rename_i b hc
   split at h
   ·exact append_ne hc _ _ _ _ _ _
   ·cases h
  ·cases h
 case nilCheck x => exact nilCheck_ne x _ _ _ _ _ _
 all_goals simp only [simpleOp,Bool.false_eq_true] at h
 all_goals (unfold execOp; first | exact NoE.pu _ | exact NoE.v _ | exact NoE.u _)
theorem wp_and {o : Oper} (hne : NoE P (execOp a.eval o)) (h1 : o.wp P a w K1 Q) (h2 : o.wp P a w K2 Q) : o.wp P a w (fun a w => K1 a w ∧ K2 a w) Q := by
 unfold Oper.wp at *
 have hn := hne w
 generalize (execOp a.eval o).run P w = r at *
 cases r with
 | ok n w' =>
  cases n <;> simp only [Oper.upon] at h1 h2 ⊢ <;> first | exact ⟨h1,h2⟩ | exact absurd rfl (hn.1 _ _ _) | exact absurd rfl (hn.2 _ _ _) | exact h1
 | halt x w' => cases x <;> simp only [Oper.upon] at h1 ⊢ <;> exact h1
theorem wpOp_and (hne : ∀ o,ops[i]? = some o → simpleOp o = true) (h1 : wpOp P ops Q i K1 a w) (h2 : wpOp P ops Q i K2 a w) : wpOp P ops Q i (fun a w => K1 a w ∧ K2 a w) a w := by
 unfold wpOp at *
 cases ho : ops[i]? with
 | none => rw [ho] at h1 h2; exact ⟨h1,h2⟩
 | some o =>
  rw [ho] at h1 h2
  dsimp only at h1 h2 ⊢
  split
  ·rename_i hw
   rw [if_pos hw] at h1 h2
   rcases h1 with h1 | h1
   ·rcases h2 with h2 | h2
    ·exact .inl (wp_and (simple_ne (hne o ho) _) h1 h2)
    ·exact .inr h2
   ·exact .inr h1
  ·rename_i hw
   rw [if_neg hw] at h1 h2
   exact ⟨h1,h2⟩
theorem ready_sub {listed : Array Bool} (h : i ∈ Region.ready .any (addE ops p q) listed) : i ∈ Region.ready .any ops listed := by
 obtain ⟨h1,o,ho,h2⟩ := mem_ready.1 h
 rw [addE_get] at ho
 cases e : ops[i]? with
 | none => rw [e] at ho; cases ho
 | some o' =>
  rw [e] at ho
  simp only [Option.map_some,Option.some.injEq] at ho
  refine mem_ready.2 ⟨h1,o',e,fun ed hed hb => h2 ed ?_ hb⟩
  rw [← ho]
  split
  ·exact Array.mem_push.2 (.inl hed)
  ·exact hed
theorem ready_sup {listed : Array Bool} (h : i ∈ Region.ready .any ops listed) (hp : i = q → listed.getD p false = true) : i ∈ Region.ready .any (addE ops p q) listed := by
 obtain ⟨h1,o,ho,h2⟩ := mem_ready.1 h
 refine mem_ready.2 ⟨h1,_,by rw [addE_get,ho]; rfl,fun ed hed hb => ?_⟩
 split at hed
 ·rename_i hq
  rcases Array.mem_push.1 hed with hed | hed
  ·exact h2 ed hed hb
  ·rw [hed]; exact hp hq.symm
 ·exact h2 ed hed hb
theorem getD_keep {listed : Array Bool} (h : listed.getD p false = true) : (listed.setIfInBounds i true).getD p false = true := by
 rw [Array.getD_eq_getD_getElem?,Array.getElem?_setIfInBounds]
 rw [Array.getD_eq_getD_getElem?] at h
 split
 ·rename_i e
  split
  ·rfl
  ·rename_i hlt
   subst e
   rw [Array.getElem?_eq_none (by omega)] at h; cases h
 ·exact h
theorem any_done : ∀ (fuel : Nat) (listed : Array Bool) (a : Act) (w : World),listed.getD p false = true → wpAny P .any (addE ops p q) Q fuel listed a w → wpAny P .any ops Q fuel listed a w := by
 intro fuel
 induction fuel with
 | zero =>
  intro listed a w hp h
  refine ⟨List.eq_nil_iff_forall_not_mem.2 fun j hj => ?_,h.2⟩
  have := ready_sup (p := p) (q := q) hj (fun _ => hp)
  rw [h.1] at this; cases this
 | succ fuel ih =>
  intro listed a w hp h
  refine ⟨fun hr => h.1 (List.eq_nil_iff_forall_not_mem.2 fun j hj => ?_),fun i hi => ?_⟩
  ·have := ready_sub hj
   rw [hr] at this; cases this
  ·exact wpOp_mono (fun a w h => ih _ a w (getD_keep hp) h) (wpOp_addE (h.2 i (ready_sup hi fun _ => hp)))
def splitOK (ops : Array Oper) (p q : Nat) : Bool :=
 p != q && Nat.blt p ops.size && Nat.blt q ops.size && (List.range ops.size).all fun i => i == p || i == q || simpleOp (opAt ops i) || reach ops ops.size p i || reach ops ops.size q i
theorem any_split (hs : splitOK ops p q = true) : ∀ (fuel : Nat) (listed : Array Bool) (a : Act) (w : World),listed.size = ops.size → Closed ops listed → listed.getD p true = false → listed.getD q true = false →
  wpAny P .any (addE ops p q) Q fuel listed a w → wpAny P .any (addE ops q p) Q fuel listed a w → wpAny P .any ops Q fuel listed a w := by
 simp only [splitOK,Bool.and_eq_true,bne_iff_ne,ne_eq,List.all_eq_true,List.mem_range,Bool.or_eq_true,beq_iff_eq] at hs
 obtain ⟨⟨⟨hpq,hp⟩,hq⟩,hall⟩ := hs
 have hp : p < ops.size := Nat.le_of_ble_eq_true hp
 have hq : q < ops.size := Nat.le_of_ble_eq_true hq
 intro fuel
 induction fuel with
 | zero =>
  intro listed a w hsz hcl hlp hlq h1 h2
  refine ⟨List.eq_nil_iff_forall_not_mem.2 fun j hj => ?_,h1.2⟩
  by_cases e : j = q
  ·have := ready_sup (p := q) (q := p) hj (fun e2 => absurd (e2.symm.trans e) hpq)
   rw [h2.1] at this; cases this
  ·have := ready_sup (p := p) (q := q) hj (fun e2 => absurd e2 e)
   rw [h1.1] at this; cases this
 | succ fuel ih =>
  intro listed a w hsz hcl hlp hlq h1 h2
  refine ⟨fun hr => h1.1 (List.eq_nil_iff_forall_not_mem.2 fun j hj => ?_),fun i hi => ?_⟩
  ·have := ready_sub hj
   rw [hr] at this; cases this
  ·obtain ⟨hun,o,ho,haft⟩ := mem_ready.1 hi
   have hlt : i < ops.size := (Array.getElem?_eq_some_iff.1 ho).1
   have hset : ∀ {k : Nat},k < ops.size → (listed.setIfInBounds k true).getD k false = true := by
    intro k hk
    rw [Array.getD_eq_getD_getElem?,Array.getElem?_setIfInBounds_self_of_lt (by omega)]; rfl
   by_cases e1 : i = p
   ·subst e1
    exact wpOp_mono (fun a w h => any_done _ _ a w (hset hp) h) (wpOp_addE (h1.2 i (ready_sup hi fun e => absurd e hpq)))
   ·by_cases e2 : i = q
    ·subst e2
     exact wpOp_mono (fun a w h => any_done _ _ a w (hset hq) h) (wpOp_addE (h2.2 i (ready_sup hi fun e => absurd e e1)))
    ·have hsim : simpleOp o = true := by
      have hat : opAt ops i = o := by simp [opAt,ho]
      rcases hall i hlt with (((h | h) | h) | h) | h
      ·exact absurd h e1
      ·exact absurd h e2
      ·rw [hat] at h; exact h
      ·have := reach_listed hcl _ i o ho h haft
       rw [getD_tf (by rw [hsz]; exact hp) true false,this] at hlp; cases hlp
      ·have := reach_listed hcl _ i o ho h haft
       rw [getD_tf (by rw [hsz]; exact hq) true false,this] at hlq; cases hlq
     have hcl' : Closed ops (listed.setIfInBounds i true) := by
      intro j oj hoj hj e hee hb
      by_cases hji : i = j
      ·subst hji
       rw [ho] at hoj; cases hoj
       exact getD_set_true (haft e hee hb)
      ·rw [getD_set_ne _ hji] at hj
       exact getD_set_true (hcl j oj hoj hj e hee hb)
     refine wpOp_mono (fun a w h => ?_) (wpOp_and (fun o' ho' => by rw [ho] at ho'; cases ho'; exact hsim) (wpOp_addE (h1.2 i (ready_sup hi fun e => absurd e e2))) (wpOp_addE (h2.2 i (ready_sup hi fun e => absurd e e1))))
     exact ih _ a w (by simp [hsz]) hcl' (by rw [getD_set_ne _ e1]; exact hlp) (by rw [getD_set_ne _ e2]; exact hlq) h.1 h.2
end
end Go.LX
namespace Go.LX
open Go
set_option maxHeartbeats 32000000
section
variable {P : Program} {T : TT} {K : LS → Prop}
def DrawAny (P : Program) (ops : Array Oper) (s : LS) (K : LS → Prop) : Prop :=
 ∀ c a w Q,St c s a w → (∀ a' w',Post K c w a' w' → Q Exit.normal a' w') → wpAny P .any ops Q ops.size (Array.replicate ops.size false) a w
theorem rep_get (n i : Nat) : (Array.replicate n false).getD i false = false := by
 rw [Array.getD_eq_getD_getElem?,Array.getElem?_replicate]
 split <;> rfl
theorem rep_get' {n i : Nat} (h : i < n) : (Array.replicate n false).getD i true = false := by
 rw [Array.getD_eq_getD_getElem?,Array.getElem?_replicate,if_pos h]; rfl
theorem drawF_of_any (hm : P.follows .mixedOrders = true) {ops : Unit → Array Oper} {s : LS} (h : DrawAny P (ops ()) s K) : DrawF (fun _ => P) ops s K := by
 refine .mk fun c a w t Q hs hQ => ?_
 simp only [Region.schedule,hm,Bool.true_or,if_true]
 exact wpAny_sound (ops ()).size t _ a w (h c a w Q hs fun a' w' hp => hQ a' w' (let ⟨c',s',hK,hs',he⟩ := hp; ⟨c',s',hK,hs',he⟩))
theorem any_of_drawn (hT : TOK P T) (F : List (Nat × List Nat)) (order : List Nat) {ops : Array Oper} {s : LS} (hd : drawnOK ops F order = true) (h : lopsG (fun _ => P) (fun _ => T) ops F order s K) : DrawAny P ops s K := by
 intro c a w Q hs hQ
 have hd' := hd
 simp only [drawnOK,Bool.and_eq_true] at hd'
 obtain ⟨hpw,_,hed⟩ := orderOK_spec hd'.1
 have hlt : ∀ j ∈ order,j < ops.size := fun j hj => by
  obtain ⟨l1,l2,e⟩ := List.append_of_mem hj
  obtain ⟨o,ho,_⟩ := hed l1 j l2 e
  exact (Array.getElem?_eq_some_iff.1 ho).1
 have hun : unlO order (Array.replicate ops.size false) = order := by
  unfold unlO
  rw [List.filter_eq_self]
  intro j hj
  rw [rep_get' (hlt j hj)]; rfl
 have hnd : order.Nodup := hpw.imp fun h => h.1
 have hlen : order.length = ops.size := by
  have h1 : order.Perm (List.range ops.size) := by
   rw [List.perm_ext_iff_of_nodup hnd List.nodup_range]
   intro j
   rw [List.mem_range]
   exact ⟨hlt j,fun hj => by have := List.all_eq_true.1 hd'.2 j (List.mem_range.2 hj); simpa using this⟩
  simpa using h1.length_eq
 refine anyO_sound (K := K) hT hd (c0 := c) (w0 := w) (fun a' w' hp => hQ a' w' hp) ops.size _ (by simp) ?_ (by rw [hun]; exact hlen) (Ext.refl hs.hr) hs ?_
 ·intro q o _ hq
  rw [rep_get] at hq; cases hq
 ·rw [hun]; exact h
theorem drawAny_split (p q : Nat) {ops : Array Oper} {s : LS} (hs : splitOK ops p q = true) (h1 : DrawAny P (addE ops p q) s K) (h2 : DrawAny P (addE ops q p) s K) : DrawAny P ops s K := by
 intro c a w Q hst hQ
 have hb : p < ops.size ∧ q < ops.size := by
  simp only [splitOK,Bool.and_eq_true] at hs
  exact ⟨Nat.le_of_ble_eq_true hs.1.1.2,Nat.le_of_ble_eq_true hs.1.2⟩
 have e1 := h1 c a w Q hst hQ
 have e2 := h2 c a w Q hst hQ
 rw [addE_size] at e1 e2
 refine any_split hs ops.size _ a w (by simp) (fun k o _ hk => ?_) (rep_get' hb.1) (rep_get' hb.2) e1 e2
 rw [rep_get] at hk; cases hk
end
end Go.LX
namespace Go.LX
open Go
set_option linter.unusedVariables false
set_option maxHeartbeats 32000000
inductive QuietF (P : Unit → Program) (f : Nat) (args : List LV) (K : LV → Prop) : Prop
 | mk (u : LV) (hq : ∀ h n,CallF P f args h n fun r h' n' => r = u ∧ h' = h ∧ n' = n) (hk : K u)
section
variable {P : Unit → Program} {T : Unit → TT} {o : Oper} {s : LS}
def quietL (P : Unit → Program) (o : Oper) (s : LS) (L : LS → Prop) : Prop :=
 match o.guard,o.op with
 | none,.call c => match c.callee with
  | .value (.func f) => QuietF P f (eva s c.args.toList) fun u => L (s.put o.dst u)
  | _ => False
 | _,_ => False
def cA (ops : Array Oper) (qs : List Nat) (p : Nat) : Bool := isA (opAt ops p) || qs.contains p
def headQ (P : Unit → Program) (T : Unit → TT) (ops : Array Oper) (i : Nat) (s : LS) (L : LS → Prop) : Prop :=
 match isA (opAt ops i) with
 | true => stepL P T ops.toList (opAt ops i) s L
 | false => quietL P (opAt ops i) s L
theorem head_x {ops : Array Oper} {i : Nat} {L : LS → Prop} (h : headQ P T ops i s L) : ∃ u,L (s.put (opAt ops i).dst u) ∧ (∀ s',AgreeS ops (opAt ops i) s s' → ∀ L' : LS → Prop,L' (s'.put (opAt ops i).dst u) → headQ P T ops i s' L') ∧ GivesS P T ops (opAt ops i) s u := by
 unfold headQ at h
 split at h
 ·rename_i hA
  obtain ⟨u,h1,h2⟩ := step_x hA h
  refine ⟨u,h1,fun s' ha L' hL => ?_,h2⟩
  unfold headQ
  rw [hA]
  exact h2 s' ha L' hL
 ·rename_i hA
  generalize hoo : opAt ops i = o at *
  unfold quietL at h
  split at h
  ·rename_i c hg ho
   split at h
   ·rename_i f hc
    cases h with
    | mk u hq hk =>
     have hev : ∀ s',AgreeS ops o s s' → eva s' c.args.toList = eva s c.args.toList := fun s' ha => eva_agree _ fun x hx => (agree_of ha).2 x (by
      have hx : x ∈ c.args := by simpa using hx
      rw [ho]
      simp [Op.operands,Call.operands,hc,hx])
     refine ⟨u,hk,fun s' ha L' hL => ?_,fun s' ha L' hL => ?_⟩
     ·unfold headQ
      rw [hoo,hA]
      dsimp only
      unfold quietL
      rw [hg,ho]
      dsimp only
      rw [hc]
      dsimp only
      rw [hev s' ha]
      exact .mk u hq hL
     ·unfold stepL
      rw [hg]
      dsimp only [yes]
      unfold lop
      rw [ho]
      dsimp only
      rw [hc]
      dsimp only [ev]
      rw [hev s' ha]
      refine (hq s'.h s'.n).mono fun r h' n' ⟨e1,e2,e3⟩ => ?_
      subst e1 e2 e3
      exact hL
   ·exact h.elim
  ·exact h.elim
def lopsQ (P : Unit → Program) (T : Unit → TT) (ops : Array Oper) (qs : List Nat) (F : List (Nat × List Nat)) : List Nat → LS → (LS → Prop) → Prop
 | [],s,K => K s
 | i :: l,s,K => match cA ops qs i with
  | true => headQ P T ops i s fun s1 => lopsQ P T ops qs F l s1 K
  | false => stepL P T ops.toList (opAt ops i) s fun s1 => keptB ops (look F i) s s1 ∧ lopsQ P T ops qs F l s1 K
def pairQ (ops : Array Oper) (qs : List Nat) (F : List (Nat × List Nat)) (p q : Nat) : Bool :=
 p != q && (reach ops ops.size p q || (cA ops qs p && (opAt ops p).apart ops (opAt ops q) && (cA ops qs q || (look F q).contains p))) && (!(F.any fun e => e.2.contains p && e.2.contains q) || match (opAt ops q).dst with
  | some d => !cA ops qs p || !cA ops qs q || !((opAt ops p).looksAt ops).contains d
  | none => true)
def PairQ (ops : Array Oper) (qs : List Nat) (F : List (Nat × List Nat)) (p q : Nat) : Prop := p ≠ q ∧ (reach ops ops.size p q = true ∨ (cA ops qs p = true ∧ (opAt ops p).apart ops (opAt ops q) = true ∧ (cA ops qs q = true ∨ p ∈ look F q))) ∧ (∀ i,p ∈ look F i → q ∈ look F i → cA ops qs p = true → cA ops qs q = true → ∀ d,(opAt ops q).dst = some d → d ∉ (opAt ops p).looksAt ops)
theorem pairQ_spec {ops : Array Oper} {qs : List Nat} {F : List (Nat × List Nat)} {p q : Nat} (h : pairQ ops qs F p q = true) : PairQ ops qs F p q := by
 simp only [pairQ,Bool.and_eq_true,Bool.or_eq_true,bne_iff_ne,ne_eq] at h
 obtain ⟨⟨h1,h2⟩,h3⟩ := h
 refine ⟨h1,h2.imp id (fun h => ⟨h.1.1,h.1.2,h.2.imp id (fun h => by simpa using h)⟩),fun i hpi hqi hp hq d hd => ?_⟩
 rw [look_any hpi hqi,hd,hp,hq] at h3
 simpa using h3
theorem frontQ {ops : Array Oper} {qs : List Nat} {F : List (Nat × List Nat)} {i : Nat} {l2 : List Nat} {K : LS → Prop} (hki : known ops i) :
  ∀ (l1 gh : List Nat) {s : LS},(∀ p ∈ l1,known ops p ∧ (∀ d,(opAt ops p).dst = some d → d ∉ (opAt ops p).looksAt ops)) → (∀ p ∈ l1,PairQ ops qs F p i ∧ reach ops ops.size p i = false) → l1.Pairwise (PairQ ops qs F) → (∀ p ∈ gh,p ∈ look F i ∧ cA ops qs p = true ∧ ∀ q ∈ l1,PairQ ops qs F p q) →
   lopsQ P T ops qs F (l1 ++ i :: l2) s K → (cA ops qs i = true → headQ P T ops i s fun s1 => lopsQ P T ops qs F (l1 ++ l2) s1 K) ∧ (cA ops qs i = false → stepL P T ops.toList (opAt ops i) s fun s1 => (∀ p ∈ gh,keptL (rds (opAt ops p) s) s s1) ∧ lopsQ P T ops qs F (l1 ++ l2) s1 K)
 | [],gh,s,_,_,_,hgh,h => by
  rw [List.nil_append,lopsQ] at h
  split at h
  ·rename_i hA
   exact ⟨fun _ => h,fun e => (by rw [hA] at e; cases e)⟩
  ·rename_i hA
   exact ⟨fun e => (by rw [hA] at e; cases e),fun _ => stepL_m hki h fun s1 h1 => ⟨fun p hp => keptB_get h1.1 p (hgh p hp).1,h1.2⟩⟩
 | p :: l1,gh,s,hk,hi,hpw,hdn,h => by
  obtain ⟨hkp,hself⟩ := hk p List.mem_cons_self
  obtain ⟨⟨hpi1,hpi2,hpi3⟩,hnr⟩ := hi p List.mem_cons_self
  rw [List.pairwise_cons] at hpw
  obtain ⟨hA,hap,hfl⟩ : cA ops qs p = true ∧ (opAt ops p).apart ops (opAt ops i) = true ∧ (cA ops qs i = true ∨ p ∈ look F i) := by
   rcases hpi2 with e | e
   ·rw [hnr] at e; cases e
   ·exact e
  obtain ⟨a1,a2,a3⟩ := Oper.apart_spec hap
  rw [List.cons_append,lopsQ] at h
  rw [hA] at h
  dsimp only at h
  obtain ⟨u,h1,hg,_⟩ := head_x h
  have next : ∀ {s1 : LS},AgreeS ops (opAt ops p) s s1 → lopsQ P T ops qs F (l1 ++ l2) (s1.put (opAt ops p).dst u) K → lopsQ P T ops qs F (p :: l1 ++ l2) s1 K := by
   intro s1 hag h2
   rw [List.cons_append,lopsQ,hA]
   exact hg s1 hag _ h2
  have hkl : ∀ q ∈ l1,known ops q ∧ (∀ d,(opAt ops q).dst = some d → d ∉ (opAt ops q).looksAt ops) := fun q hq => hk q (List.mem_cons_of_mem _ hq)
  have hil : ∀ q ∈ l1,PairQ ops qs F q i ∧ reach ops ops.size q i = false := fun q hq => hi q (List.mem_cons_of_mem _ hq)
  refine ⟨fun hAi => ?_,fun hnA => ?_⟩
  ·have ih := (frontQ hki l1 [] hkl hil hpw.2 (fun q hq => (by cases hq)) h1).1 hAi
   obtain ⟨v,h4,h5,_⟩ := head_x ih
   refine h5 s ⟨fun _ _ => by rw [put_h],fun t ht => (tget_put _ _ _ (fun e => a1 t e ht)).symm⟩ _ ?_
   refine next ⟨fun _ _ => by rw [put_h],fun t ht => tget_put _ _ _ (fun e => a3 t e ht)⟩ ?_
   rw [← put_comm _ _ _ _ a2]
   exact h4
  ·have hX : isX (opAt ops i) = true := hki.resolve_right (fun e => by unfold cA at hnA; rw [e] at hnA; cases hnA)
   have hpf : p ∈ look F i := hfl.resolve_left (fun e => by rw [hnA] at e; cases e)
   have ih := (frontQ hki l1 (p :: gh) hkl hil hpw.2 (fun q hq => by
    rcases List.mem_cons.1 hq with rfl | hq
    ·exact ⟨hpf,hA,hpw.1⟩
    ·exact ⟨(hdn q hq).1,(hdn q hq).2.1,fun r hr => (hdn q hq).2.2 r (List.mem_cons_of_mem _ hr)⟩) h1).2 hnA
   have h3 := step_slot hX a1 a2 ih
   refine stepL_m (.inl hX) h3 fun s1 ⟨h4,h5,h6⟩ => ?_
   have hkp2 := h5 p List.mem_cons_self
   rw [rds_put hself] at hkp2
   refine ⟨fun q hq => ?_,next ⟨fun b hb => ?_,fun t ht => h4 t fun e => a3 t e ht⟩ h6⟩
   ·have e := h5 q (List.mem_cons_of_mem _ hq)
    rw [rds_put (((hdn q hq).2.2 p List.mem_cons_self).2.2 i (hdn q hq).1 hpf (hdn q hq).2.1 hA)] at e
    refine keptL_mk fun b hb => ?_
    have := keptL_get e b hb
    rwa [put_h,put_h] at this
   ·have := keptL_get hkp2 b hb
    rwa [put_h,put_h] at this
end
def orderQ (ops : Array Oper) (qs : List Nat) (F : List (Nat × List Nat)) : List Nat → List Nat → Bool
 | _,[] => true
 | pre,q :: l => edgesOK ops pre q && selfOK ops q && l.all (fun r => pairQ ops qs F q r) && orderQ ops qs F (q :: pre) l
def drawnQ (ops : Array Oper) (qs : List Nat) (F : List (Nat × List Nat)) (order : List Nat) : Bool := orderQ ops qs F [] order && (List.range ops.size).all (fun j => order.contains j)
section
variable {P : Program} {T : TT} {K : LS → Prop}
theorem orderQ_spec {ops : Array Oper} {qs : List Nat} {F : List (Nat × List Nat)} : ∀ {l pre : List Nat},orderQ ops qs F pre l = true → l.Pairwise (PairQ ops qs F) ∧ (∀ q ∈ l,known ops q ∧ (∀ d,(opAt ops q).dst = some d → d ∉ (opAt ops q).looksAt ops)) ∧
  ∀ l1 q l2,l = l1 ++ q :: l2 → ∃ o,ops[q]? = some o ∧ ∀ e ∈ o.after,Region.binds .any e = true → e.on ∈ pre ∨ e.on ∈ l1
 | [],pre,_ => ⟨.nil,fun q hq => (by cases hq),fun l1 q l2 h => (by cases l1 <;> cases h)⟩
 | r :: l,pre,h => by
  simp only [orderQ,Bool.and_eq_true] at h
  obtain ⟨⟨⟨h1,h2⟩,h3⟩,h4⟩ := h
  obtain ⟨k1,k2,k3⟩ := orderQ_spec h4
  refine ⟨List.pairwise_cons.2 ⟨fun q hq => pairQ_spec (List.all_eq_true.1 h3 q hq),k1⟩,fun q hq => ?_,fun l1 q l2 e => ?_⟩
  ·rcases List.mem_cons.1 hq with rfl | hq
   ·exact selfOK_spec h2
   ·exact k2 q hq
  ·cases l1 with
   | nil =>
    cases e
    unfold edgesOK at h1
    split at h1
    ·rename_i o ho
     refine ⟨o,ho,fun e he hb => .inl ?_⟩
     have := Array.all_eq_true_iff_forall_mem.1 h1 e he
     simpa [hb] using this
    ·cases h1
   | cons x l1 =>
    cases e
    obtain ⟨o,ho,h5⟩ := k3 l1 q l2 rfl
    refine ⟨o,ho,fun e he hb => ?_⟩
    rcases h5 e he hb with h | h
    ·rcases List.mem_cons.1 h with h | h
     ·exact .inr (by rw [h]; exact List.mem_cons_self)
     ·exact .inl h
    ·exact .inr (List.mem_cons_of_mem _ h)
theorem anyQ_sound (hT : TOK P T) {ops : Array Oper} {qs : List Nat} {F : List (Nat × List Nat)} {order : List Nat} (hd : drawnQ ops qs F order = true) {c0 : Ctx} {w0 : World} {Q : Exit → Act → World → Prop} (hQ : ∀ a' w',Post K c0 w0 a' w' → Q .normal a' w') :
  ∀ (fuel : Nat) (listed : Array Bool) {s : LS} {c : Ctx} {a : Act} {w : World},listed.size = ops.size → Closed ops listed → (unlO order listed).length = fuel → Ext c0 w0 c w → St c s a w →
  lopsQ (fun _ => P) (fun _ => T) ops qs F (unlO order listed) s K → wpAny P .any ops Q fuel listed a w := by
 simp only [drawnQ,Bool.and_eq_true,List.all_eq_true,List.mem_range] at hd
 obtain ⟨hpw,hkn,hed⟩ := orderQ_spec hd.1
 have hall : ∀ j,j < ops.size → j ∈ order := fun j hj => by simpa using hd.2 j hj
 have mem_unl : ∀ {listed : Array Bool} {j : Nat},j ∈ unlO order listed ↔ j ∈ order ∧ listed.getD j true = false := by
  intro listed j
  simp [unlO,List.mem_filter]
 have at_ : ∀ {j o},ops[j]? = some o → opAt ops j = o := by
  intro j o ho
  simp [opAt,ho]
 have hlt_ : ∀ {listed : Array Bool} {j : Nat},listed.size = ops.size → listed.getD j true = false → j < ops.size := by
  intro listed j hsz h
  rcases Nat.lt_or_ge j ops.size with h1 | h1
  ·exact h1
  ·rw [Array.getD_eq_getD_getElem?,Array.getElem?_eq_none (by omega)] at h; cases h
 intro fuel
 induction fuel with
 | zero =>
  intro listed s c a w hsz hcl hlen he hs h
  have h0 : unlO order listed = [] := List.eq_nil_of_length_eq_zero hlen
  refine ⟨List.eq_nil_iff_forall_not_mem.2 fun j hj => ?_,?_⟩
  ·obtain ⟨h1,o,h2,_⟩ := mem_ready.1 hj
   have : j ∈ unlO order listed := mem_unl.2 ⟨hall j (Array.getElem?_eq_some_iff.1 h2).1,h1⟩
   rw [h0] at this; cases this
  ·rw [h0] at h
   exact hQ _ _ ⟨c,s,h,hs,he⟩
 | succ fuel ih =>
  intro listed s c a w hsz hcl hlen he hs h
  refine ⟨fun hr => ?_,fun i hi => ?_⟩
  ·exfalso
   cases hu : unlO order listed with
   | nil => rw [hu] at hlen; cases hlen
   | cons i0 rest =>
    obtain ⟨l1,l2,e1,e2,e3,e4⟩ := List.filter_eq_cons_iff.1 hu
    have hun : listed.getD i0 true = false := by simpa using e3
    obtain ⟨o,ho,h5⟩ := hed l1 i0 l2 e1
    have : i0 ∈ Region.ready .any ops listed := by
     refine mem_ready.2 ⟨hun,o,ho,fun e hee hb => ?_⟩
     rcases h5 e hee hb with h6 | h6
     ·cases h6
     ·have h7 := e2 _ h6
      have h8 : listed.getD e.on true = true := by simpa using h7
      rcases Nat.lt_or_ge e.on listed.size with h9 | h9
      ·rw [getD_tf h9 false true]; exact h8
      ·exfalso
       obtain ⟨m1,m2,hm⟩ := List.append_of_mem h6
       obtain ⟨o2,ho2,_⟩ := hed m1 e.on (m2 ++ i0 :: l2) (by rw [e1,hm]; simp)
       have := (Array.getElem?_eq_some_iff.1 ho2).1
       omega
    rw [hr] at this; cases this
  ·obtain ⟨hun,o,ho,haft⟩ := mem_ready.1 hi
   have hlt : i < ops.size := (Array.getElem?_eq_some_iff.1 ho).1
   have hiu : i ∈ unlO order listed := mem_unl.2 ⟨hall i hlt,hun⟩
   obtain ⟨l1,l2,hl⟩ := List.append_of_mem hiu
   have hpu : (unlO order listed).Pairwise (PairQ ops qs F) := hpw.filter _
   have hku : ∀ q ∈ unlO order listed,known ops q ∧ (∀ d,(opAt ops q).dst = some d → d ∉ (opAt ops q).looksAt ops) := fun q hq => hkn q (mem_unl.1 hq).1
   rw [hl] at hpu hku h
   rw [List.pairwise_append] at hpu
   obtain ⟨hp1,hp2,hp3⟩ := hpu
   rw [List.pairwise_cons] at hp2
   have hrest : unlO order (listed.setIfInBounds i true) = l1 ++ l2 := by
    have e1 : unlO order (listed.setIfInBounds i true) = (unlO order listed).filter (· != i) := by
     unfold unlO
     rw [List.filter_filter]
     refine List.filter_congr fun j hj => ?_
     by_cases e : i = j
     ·subst e
      rw [Array.getD_eq_getD_getElem?,Array.getElem?_setIfInBounds_self_of_lt (by omega)]
      simp
     ·rw [getD_set_ne _ e]
      have : (j != i) = true := by simp; omega
      rw [this]; simp
    rw [e1,hl,List.filter_append,List.filter_cons_of_neg (by simp)]
    congr 1
    ·rw [List.filter_eq_self]
     intro p hp
     have := (hp3 p hp i List.mem_cons_self).1
     simpa using this
    ·rw [List.filter_eq_self]
     intro p hp
     have := (hp2.1 p hp).1
     have : p ≠ i := fun e => this e.symm
     simpa using this
   have hf := frontQ (ops := ops) (F := F) (i := i) (l2 := l2) (hku i (by simp)).1 l1 [] (fun p hp => hku p (by simp [hp])) (fun p hp => ⟨hp3 p hp i List.mem_cons_self,by
    cases e : reach ops ops.size p i with
    | false => rfl
    | true =>
     exfalso
     have h1 := reach_listed hcl _ i o ho e haft
     have hpm : p ∈ unlO order listed := by rw [hl]; simp [hp]
     have h2 := (mem_unl.1 hpm).2
     rw [getD_tf (by rw [hsz]; exact hlt_ hsz h2) true false,h1] at h2; cases h2⟩) hp1 (fun p hp => (by cases hp)) h
   rw [← hrest] at hf
   have hsz' : (listed.setIfInBounds i true).size = ops.size := by simp [hsz]
   have hcl' : Closed ops (listed.setIfInBounds i true) := by
    intro q oq hoq hq e hee hb
    by_cases hqi : i = q
    ·subst hqi
     rw [ho] at hoq; cases hoq
     exact getD_set_true (haft e hee hb)
    ·rw [getD_set_ne _ hqi] at hq
     exact getD_set_true (hcl q oq hoq hq e hee hb)
   have hlen' : (unlO order (listed.setIfInBounds i true)).length = fuel := by
    rw [hrest]
    rw [hl] at hlen
    simp at hlen ⊢; omega
   have hgo : ∀ (R : LS → Prop),stepL (fun _ => P) (fun _ => T) ops.toList o s R → (∀ s1,R s1 → lopsQ (fun _ => P) (fun _ => T) ops qs F (unlO order (listed.setIfInBounds i true)) s1 K) → wpOp P ops Q i (fun a' w' => wpAny P .any ops Q fuel (listed.setIfInBounds i true) a' w') a w := by
    intro R hf hR
    unfold wpOp
    rw [ho]
    dsimp only
    unfold stepL at hf
    split at hf
    ·rename_i cb hy
     have hw := yes_sound hs hy
     cases cb with
     | true =>
      rw [if_pos hw]
      left
      refine Oper.wp_mono (fun a' w' hp => ?_) (lop_sound (Q := Q) hT hs hf)
      obtain ⟨c',s',hK,hs',he'⟩ := hp
      exact ih _ hsz' hcl' hlen' (he.trans he') hs' (hR _ hK)
     | false =>
      rw [if_neg (by rw [hw]; simp)]
      exact ih _ hsz' hcl' hlen' he (hs.put .nul _) (hR _ hf)
    ·exact hf.elim
   cases hcA : cA ops qs i with
   | true =>
    obtain ⟨u,h1,_,h3⟩ := head_x (hf.1 hcA)
    rw [at_ ho] at h1 h3
    refine hgo _ (h3 s ⟨fun _ _ => rfl,fun _ _ => rfl⟩ (fun s1 => s1 = s.put o.dst u) rfl) fun s1 e => ?_
    rw [e]; exact h1
   | false =>
    have h3 := hf.2 hcA
    rw [at_ ho] at h3
    exact hgo _ h3 fun s1 h => h.2
theorem quiet_sound (hT : TOK P T) (hm : P.follows .mixedOrders = true) (qs : List Nat) (F : List (Nat × List Nat)) (order : List Nat) {ops : Unit → Array Oper} {s : LS} (hd : drawnQ (ops ()) qs F order = true) (h : lopsQ (fun _ => P) (fun _ => T) (ops ()) qs F order s K) : DrawF (fun _ => P) ops s K := by
 refine .mk fun c a w t Q hs hQ => ?_
 generalize ops () = ops at *
 simp only [Region.schedule,hm,Bool.true_or,if_true]
 have hget : ∀ i,(Array.replicate ops.size false).getD i false = false := by
  intro i
  rw [Array.getD_eq_getD_getElem?,Array.getElem?_replicate]
  split <;> rfl
 have hd' := hd
 simp only [drawnQ,Bool.and_eq_true] at hd'
 obtain ⟨hpw,_,hed⟩ := orderQ_spec hd'.1
 have hlt : ∀ j ∈ order,j < ops.size := fun j hj => by
  obtain ⟨l1,l2,e⟩ := List.append_of_mem hj
  obtain ⟨o,ho,_⟩ := hed l1 j l2 e
  exact (Array.getElem?_eq_some_iff.1 ho).1
 have hun : unlO order (Array.replicate ops.size false) = order := by
  unfold unlO
  rw [List.filter_eq_self]
  intro j hj
  have := hlt j hj
  rw [Array.getD_eq_getD_getElem?,Array.getElem?_replicate,if_pos this]; rfl
 have hnd : order.Nodup := hpw.imp fun h => h.1
 have hlen : order.length = ops.size := by
  have h1 : order.Perm (List.range ops.size) := by
   rw [List.perm_ext_iff_of_nodup hnd List.nodup_range]
   intro j
   rw [List.mem_range]
   exact ⟨hlt j,fun hj => by have := List.all_eq_true.1 hd'.2 j (List.mem_range.2 hj); simpa using this⟩
  simpa using h1.length_eq
 refine wpAny_sound ops.size t _ a w (anyQ_sound (K := K) hT hd (c0 := c) (w0 := w) (fun a' w' hp => hQ a' w' ?_) ops.size _ (by simp) ?_ (by rw [hun]; exact hlen) (Ext.refl hs.hr) hs ?_)
 ·obtain ⟨c',s',hK,hs',he⟩ := hp
  exact ⟨c',s',hK,hs',he⟩
 ·intro q o _ hq
  rw [hget] at hq; cases hq
 ·rw [hun]; exact h
end
end Go.LX
namespace Go.Proofs.YtjfdfbpgckilpaaGreatDoor
open Go Go.LX
set_option maxRecDepth 100000
set_option linter.unusedVariables false
set_option linter.unusedSimpArgs false
set_option maxHeartbeats 32000000
theorem quiet_int {P : Unit → Program} {f : Nat} {args : List LV} {y E : Int} (hc : CallF P f args [] 0 fun r h n => (∃ x : Int,r = .p (.int .i64 (.sym x)) ∧ x = E) ∧ h = [] ∧ n = 0) (hy : y = E) (ha : okVs [] args = true) {args' : List LV} (ha' : ∀ n,args' = renVs [] 0 n args := by intro n; rfl) : ∀ h n,CallF P f args' h n fun r h' n' => r = .p (.int .i64 (.sym y)) ∧ h' = h ∧ n' = n := by
 intro h n
 refine callF_frame hc [] rfl trivial (ha' n) ha (fun r h' n' hrr => ?_)
 obtain ⟨⟨x,e1,hx⟩,e2,e3⟩ := hrr
 subst e1 e2 e3
 exact ⟨by rw [hy,← hx]; rfl,rfl,rfl⟩
theorem gorOf_lx (x0 x1 x2 x3 x4 x5 x6 x7 x8 x9 : Int) (hb : ∀ x ∈ [x0,x1,x2,x3,x4,x5,x6,x7,x8,x9],-9223372036854775808 ≤ x ∧ x ≤ 9223372036854775807) : CallF (fun _ => Tryz.prog) 193 [.p (.vsl (.lit 10) false [.int .i64 (.sym x0),.int .i64 (.sym x1),.int .i64 (.sym x2),.int .i64 (.sym x3),.int .i64 (.sym x4),.int .i64 (.sym x5),.int .i64 (.sym x6),.int .i64 (.sym x7),.int .i64 (.sym x8),.int .i64 (.sym x9)])] [] 0 (fun r h n => (∃ (y0 y1 y2 y3 y4 y5 y6 y7 y8 y9 : Int),r = .agg [i6 y0,i6 y1,i6 y2,i6 y3,i6 y4,i6 y5,i6 y6,i6 y7,i6 y8,i6 y9] ∧ [y0,y1,y2,y3,y4,y5,y6,y7,y8,y9] = gorFs [x0,x1,x2,x3,x4,x5,x6,x7,x8,x9]) ∧ h = [] ∧ n = 0) := by
 simp only [List.forall_mem_cons] at hb
 obtain ⟨b0,b1,b2,b3,b4,b5,b6,b7,b8,b9,_⟩ := hb
 refine callF_of_body tok Tryz.func193 (by kernel_rfl) rfl rfl rfl ?_; conv => cbv
 obtain ⟨y0,hy0⟩ : ∃ y,y = numW x0 := ⟨_,rfl⟩
 obtain ⟨y1,hy1⟩ : ∃ y,y = numW x1 := ⟨_,rfl⟩
 obtain ⟨y2,hy2⟩ : ∃ y,y = numW x2 := ⟨_,rfl⟩
 obtain ⟨y9,hy9⟩ : ∃ y,y = atW x9 := ⟨_,rfl⟩
 refine quiet_sound tok (by kernel_rfl) [3,7,11,15] [(17,[16,15,14,13,12,11,10,9,8,7,6,5,4,3,2,1,0]),(18,[])] [0,1,2,3,4,5,6,7,8,9,10,11,12,13,14,15,16,17,18] (by kernel_rfl) ?_; conv => cbv
 refine Need.mk (by simp only [I.val]; omega) ?_
 conv => cbv
 refine QuietF.mk (.p (.int .i64 (.sym y0))) (quiet_int (numV_lx x0 b0) hy0 rfl) ?_
 conv => cbv
 refine Need.mk (by simp only [I.val]; omega) ?_
 conv => cbv
 refine QuietF.mk (.p (.int .i64 (.sym y1))) (quiet_int (numV_lx x1 b1) hy1 rfl) ?_
 conv => cbv
 refine Need.mk (by simp only [I.val]; omega) ?_
 conv => cbv
 refine QuietF.mk (.p (.int .i64 (.sym y2))) (quiet_int (numV_lx x2 b2) hy2 rfl) ?_
 conv => cbv
 refine Need.mk (by simp only [I.val]; omega) ?_
 conv => cbv
 refine QuietF.mk (.p (.int .i64 (.sym y9))) (quiet_int (atV2_lx x9 b9) hy9 rfl) ?_
 conv => cbv
 refine drawn_sound tok (by kernel_rfl) [(4,[])] [0,1,2,3,4] (by kernel_rfl) ?_; conv => cbv
 refine Need.mk (by simp only [I.val]; omega) ?_
 conv => cbv
 refine Upd.mk fun l2 hl2 => ?_
 have hl2 : l2 = [.int .i64 (.sym x3),.int .i64 (.sym x4),.int .i64 (.sym x5),.int .i64 (.sym x6),.int .i64 (.sym x7),.int .i64 (.sym x8),.int .i64 (.sym x9)] := hl2
 conv => cbv
 refine Sum.mk fun z hz => ?_
 have hz : z = 7 := hz
 conv => cbv
 refine Need.mk (by show (6 : Int) ≤ z; omega) ?_
 conv => cbv
 refine Cell.mk (.int .i64 (.sym x3)) (by rw [hl2]; rfl) ?_
 conv => cbv
 refine Cell.mk (.int .i64 (.sym x4)) (by rw [hl2]; rfl) ?_
 conv => cbv
 refine Cell.mk (.int .i64 (.sym x5)) (by rw [hl2]; rfl) ?_
 conv => cbv
 refine Cell.mk (.int .i64 (.sym x6)) (by rw [hl2]; rfl) ?_
 conv => cbv
 refine Cell.mk (.int .i64 (.sym x7)) (by rw [hl2]; rfl) ?_
 conv => cbv
 refine Cell.mk (.int .i64 (.sym x8)) (by rw [hl2]; rfl) ?_
 conv => cbv
 refine RetF.mk [.agg [i6 y0,i6 y1,i6 y2,i6 x3,i6 x4,i6 x5,i6 x6,i6 x7,i6 x8,i6 y9]] [] 0 (Re.at [] []) rfl ⟨⟨y0,y1,y2,x3,x4,x5,x6,x7,x8,y9,rfl,by simp only [gorFs,hy0,hy1,hy2,hy9]⟩,rfl,rfl⟩
theorem gorWords_lx (x0 x1 x2 x3 x4 x5 x6 x7 x8 x9 : Int) (hb : ∀ x ∈ [x0,x1,x2,x9],b62 x) : CallF (fun _ => Tryz.prog) 138 [.agg [i6 x0,i6 x1,i6 x2,i6 x3,i6 x4,i6 x5,i6 x6,i6 x7,i6 x8,i6 x9]] [] 0 (fun r h n => (∃ (y0 y1 y2 y3 y4 y5 y6 y7 y8 y9 : Int),r = .p (.vsl (.lit 10) false [.int .i64 (.sym y0),.int .i64 (.sym y1),.int .i64 (.sym y2),.int .i64 (.sym y3),.int .i64 (.sym y4),.int .i64 (.sym y5),.int .i64 (.sym y6),.int .i64 (.sym y7),.int .i64 (.sym y8),.int .i64 (.sym y9)]) ∧ [y0,y1,y2,y3,y4,y5,y6,y7,y8,y9] = gorWs [x0,x1,x2,x3,x4,x5,x6,x7,x8,x9]) ∧ h = [] ∧ n = 0) := by
 simp only [List.forall_mem_cons] at hb
 obtain ⟨b0,b1,b2,b9,_⟩ := hb
 refine callF_of_body tok Tryz.func138 (by kernel_rfl) rfl rfl rfl ?_; conv => cbv
 refine drawn_sound tok (by kernel_rfl) [(2,[7,6,4,3]),(5,[7,6]),(8,[]),(9,[])] [0,1,3,4,6,7,2,5,8,9,10] (by kernel_rfl) ?_; conv => cbv
 refine callF_frame (intV_lx x0 b0) [] rfl trivial rfl rfl (fun r h' n' hrr => ?_)
 obtain ⟨⟨y0,e1,hy0⟩,e2,e3⟩ := hrr
 subst e1 e2 e3
 conv => cbv
 refine callF_frame (intV_lx x1 b1) [] rfl trivial rfl rfl (fun r h' n' hrr => ?_)
 obtain ⟨⟨y1,e1,hy1⟩,e2,e3⟩ := hrr
 subst e1 e2 e3
 conv => cbv
 refine callF_frame (intV_lx x2 b2) [] rfl trivial rfl rfl (fun r h' n' hrr => ?_)
 obtain ⟨⟨y2,e1,hy2⟩,e2,e3⟩ := hrr
 subst e1 e2 e3
 conv => cbv
 refine Room.new ⟨rfl,by simp [I.val],by simp [I.val]⟩ ?_
 conv => cbv
 refine callF_frame (placeV_lx x9 b9) [] rfl trivial rfl rfl (fun r h' n' hrr => ?_)
 obtain ⟨⟨y9,e1,hy9⟩,e2,e3⟩ := hrr
 subst e1 e2 e3
 conv => cbv
 refine Room.new rfl ?_
 conv => cbv
 refine Room.new ⟨rfl,by simp [I.val],by simp [I.val]⟩ ?_
 conv => cbv
 refine RetF.mk [.p (.vsl (.lit 10) false [.int .i64 (.sym y0),.int .i64 (.sym y1),.int .i64 (.sym y2),.int .i64 (.sym x3),.int .i64 (.sym x4),.int .i64 (.sym x5),.int .i64 (.sym x6),.int .i64 (.sym x7),.int .i64 (.sym x8),.int .i64 (.sym y9)])] [] 0 (Re.at [] []) rfl ⟨⟨y0,y1,y2,x3,x4,x5,x6,x7,x8,y9,rfl,by simp only [gorWs,hy0,hy1,hy2,hy9]⟩,rfl,rfl⟩
end Go.Proofs.YtjfdfbpgckilpaaGreatDoor
namespace Go.Proofs.YtjfdfbpgckilpaaGreatDoor
open Go.RowKit
open Go Go.LX
set_option maxRecDepth 100000
set_option linter.unusedVariables false
set_option linter.unusedSimpArgs false
set_option maxHeartbeats 32000000
theorem bd_size : (Tryz.prog.info? 269).map (·.size) = some 2 := by kernel_rfl
theorem bd_lies : liesAt Tryz.prog Tryz.prog.depth 269 (2 / Tryz.prog.cellsOf 269) 0 269 1 = true := by kernel_rfl
theorem bd_byte : Tryz.prog.cellsOf 5 = 1 := by kernel_rfl
theorem copyCheck_fresh (b : Nat) (w : World) (h0 : w.cell? ⟨b,0,none⟩ = some (.pointer none)) (hsh : w.shape? b = some (269,2)) (hfz : w.frozen? ⟨b,0,none⟩ = false) :
  Calls Tryz.prog 242 #[.pointer (some ⟨b,0,none⟩)] w fun e w' => e = .returned (.tuple #[]) ∧ w' = w.setCell ⟨b,0,none⟩ (.pointer (some ⟨b,0,none⟩)) := by
 obtain ⟨j,hj,hjs⟩ := Option.map_eq_some_iff.1 bd_size
 go_enter Tryz.func242,Tryz.ntmps242
 go_wp2
 rw [Lib.run_to_unsafe w ⟨b,0,none⟩ Tryz.underlying266 Tryz.underlying307 hj (by rw [hjs]; decide) hsh (Nat.zero_lt_succ 1)]
 simp only [Result.andThen]
 rw [Oper.upon_value]
 go_wp2
 rw [run_callFunc_extern Tryz.func255 (by kernel_rfl) (by kernel_rfl) (by kernel_rfl) (e := Extern.AbiNoEscape.same) (by kernel_rfl)]
 rw [Lib.run_noEscape]
 simp only [Result.andThen]
 rw [Oper.upon_value]
 go_wp2
 rw [Lib.run_from_unsafe w ⟨b,0,none⟩ Tryz.underlying307 Tryz.underlying266 hj hsh bd_lies]
 simp only [Result.andThen]
 rw [Oper.upon_value]
 go_wp2
 go_end0
 exact ⟨rfl,rfl⟩
theorem copyCheck_used (b : Nat) (w : World) (h0 : w.cell? ⟨b,0,none⟩ = some (.pointer (some ⟨b,0,none⟩))) :
  Calls Tryz.prog 242 #[.pointer (some ⟨b,0,none⟩)] w fun e w' => e = .returned (.tuple #[]) ∧ w' = w := by
 obtain ⟨j,hj,_⟩ := Option.map_eq_some_iff.1 bd_size
 go_enter Tryz.func242,Tryz.ntmps242
 go_wp2
 rw [Lib.run_neq_ptr_same w _ Tryz.underlying266 hj]
 go_wp2
 go_end0
 exact ⟨rfl,rfl⟩
theorem arg1 {c : Ctx} {w : World} {u : LV} {xs : Array Value} (hl : [u].length = xs.size) (hrel : ∀ (i : Nat) (v : LV),[u][i]? = some v → LR c w v (xs.getD i Go.undef)) : ∃ x,xs = #[x] ∧ LR c w u x := by
 have h0 := hrel 0 u rfl
 rcases xs with ⟨l⟩
 match l,hl with
 | [x],_ => exact ⟨x,rfl,h0⟩
theorem ptr_live {c : Ctx} {w : World} {b : Nat} {m : Nat} {x : Value} (hm : c.m b = some (some m)) (hx : LR c w (.ptr b (.lit 0)) x) : x = .pointer (some ⟨m,0,none⟩) := by
 cases hx with
 | ptr _ _ r k hm' ho =>
  rw [hm] at hm'; cases hm'
  have : k = 0 := by simp only [I.val] at ho; omega
  rw [this]
 | goneP _ _ _ hm' _ => rw [hm] at hm'; cases hm'
theorem copyCheck_lx (v : LV) (B : LB) : CallF (fun _ => Tryz.prog) 242 [.ptr 0 (.lit 0)] [(0,.bld 269 [v]),(1,B)] 2 (fun r h n => r = .tup [] ∧ h = [(0,.bld 269 [v]),(1,B)] ∧ n = 2) := by
 refine .mk ⟨_,_,Tryz.func242,by kernel_rfl,rfl⟩ fun c w xs hr hN hl hrel => ?_
 obtain ⟨x,rfl,hx⟩ := arg1 hl hrel
 obtain ⟨m,hm,hB⟩ := hr.live 0 _ rfl
 cases m with
 | none => exact hB.elim
 | some r =>
  have hx := ptr_live hm hx
  subst hx
  have hB0 := hB
  obtain ⟨cur,hg,hsz,h0,hc⟩ := hB
  have hsz : cur.size = 2 := hsz
  have hc0 : w.cell? ⟨r,0,none⟩ = some (cur.getD 0 Go.undef) := by
   simp only [World.cell?,hg]
   rw [Array.getD_eq_getD_getElem?,Array.getElem?_eq_getElem (by omega : 0 < cur.size)]; rfl
  rcases h0 with h0 | h0
  ·rw [h0] at hc0
   refine (copyCheck_fresh r w hc0 (by simp only [World.shape?,hg,hsz]) (by simp [World.frozen?,hg])).mono ?_
   rintro e w' ⟨rfl,rfl⟩
   have hg' : (w.setCell ⟨r,0,none⟩ (.pointer (some ⟨r,0,none⟩))).heap[r]? = some (.cells (cur.setIfInBounds 0 (.pointer (some ⟨r,0,none⟩))) 269 (0,0)) := by
    simp [World.setCell,Array.getElem?_modify,hg]
   have ht : Turn w (w.setCell ⟨r,0,none⟩ (.pointer (some ⟨r,0,none⟩))) r := by
    refine ⟨rfl,rfl,rfl,by simp [World.setCell],fun k hk => ?_,?_⟩
    ·have hk' : ¬ r = k := fun h => hk h.symm
     simp [World.setCell,Array.getElem?_modify,hk']
    ·simp only [World.shape?,hg,hg',Array.size_setIfInBounds]
   have hB' : BR c (w.setCell ⟨r,0,none⟩ (.pointer (some ⟨r,0,none⟩))) (.bld 269 [v]) (some r) := by
    refine ⟨_,hg',by rw [Array.size_setIfInBounds]; exact hsz,.inr ?_,fun j u hu => ?_⟩
    ·simp [Array.getD_eq_getD_getElem?,hsz]
    ·have := (hc j u hu).ext hr.fresh (Ext.turn hr hm ht)
     rw [Array.getD_eq_getD_getElem?,Array.getElem?_setIfInBounds,if_neg (by omega),← Array.getD_eq_getD_getElem?]
     exact this
   exact ⟨c,.tup [],_,_,_,rfl,⟨rfl,rfl,rfl⟩,hr.turn rfl hm ht hB',hN,.tup _ _ rfl (fun j u hu => by simp at hu),Ext.turn hr hm ht⟩
  ·rw [h0] at hc0
   refine (copyCheck_used r w hc0).mono ?_
   rintro e w' ⟨rfl,rfl⟩
   exact ⟨c,.tup [],_,_,_,rfl,⟨rfl,rfl,rfl⟩,hr,hN,.tup _ _ rfl (fun j u hu => by simp at hu),Ext.refl hr⟩
theorem bd_mixed : Tryz.prog.follows .mixedOrders = true := by kernel_rfl
theorem string_some (b g cap : Nat) (p : Value) (cur : Array Value) (l : List UInt8) (w : World) (h0 : l ≠ []) (hbk : w.heap[b]? = some (.cells #[p,.slice (some ⟨g,0,none⟩) l.length cap] 269 (0,0)))
  (hg : w.heap[g]? = some (.cells cur 5 (0,0))) (hn : l.length ≤ cap) (hcm : cap ≤ maxLen) (hcs : cap ≤ cur.size) (hcell : ∀ j x,l[j]? = some x → w.cell? ((⟨g,0,none⟩ : Addr).add j) = some (.int .u8 x.toNat)) :
  Calls Tryz.prog 225 #[.pointer (some ⟨b,0,none⟩)] w fun e w' => e = .returned (.string ⟨l.toArray⟩) ∧ w' = w.drew.freeze ⟨g,0,none⟩ l.length := by
 have hl0 : l.length ≠ 0 := by simpa using h0
 have c1 : w.drew.cell? ⟨b,1,none⟩ = some (.slice (some ⟨g,0,none⟩) l.length cap) := by
  have : w.drew.heap[b]? = some (.cells #[p,.slice (some ⟨g,0,none⟩) l.length cap] 269 (0,0)) := hbk
  rw [Lib.cell_of_heap this]; rfl
 have hSD : (Builtin.unsafeSliceData_ #[267] 296 #[.slice (some ⟨g,0,none⟩) l.length cap]).run Tryz.prog w.drew = .ok (.pointer (some ⟨g,0,none⟩)) w.drew :=
  Lib.run_unsafeSliceData_row _ _ _ _ _ _ (by omega)
 have hUS : (Builtin.unsafeString_ #[296,3] 9 #[.pointer (some ⟨g,0,none⟩),.int .i64 l.length]).run Tryz.prog w.drew = .ok (.string ⟨l.toArray⟩) (w.drew.freeze ⟨g,0,none⟩ l.length) := by
  refine Lib.run_unsafeString_row w.drew 296 3 9 5 Tryz.underlying296 bd_byte g cur.size (by have hg' : w.drew.heap[g]? = some (.cells cur 5 (0,0)) := hg; simp [World.shape?,hg']) l h0 (by omega) (by unfold maxLen at hcm; omega) ?_
  intro j x hx
  exact hcell j x hx
 have mixed := bd_mixed
 go_enter Tryz.func225,Tryz.ntmps225
 go_wp2
 go_region_o
 all_goals (go_wp2; go_ret; exact ⟨rfl,rfl⟩)
theorem string_us (W : World) (q : Option Addr) : (Builtin.unsafeString_ #[296,3] 9 #[.pointer q,.int .i64 0]).run Tryz.prog W = .ok (.string .empty) W :=
 Lib.run_unsafeString_none W _ _ _ q
theorem string_nil (b : Nat) (p : Value) (w : World) (hbk : w.heap[b]? = some (.cells #[p,.slice none 0 0] 269 (0,0))) :
  Calls Tryz.prog 225 #[.pointer (some ⟨b,0,none⟩)] w fun e w' => e = .returned (.string ⟨#[]⟩) ∧ w' = w.drew := by
 have hUS := string_us
 have c1 : w.drew.cell? ⟨b,1,none⟩ = some (.slice none 0 0) := by
  have : w.drew.heap[b]? = some (.cells #[p,.slice none 0 0] 269 (0,0)) := hbk
  rw [Lib.cell_of_heap this]; rfl
 have hSD : (Builtin.unsafeSliceData_ #[267] 296 #[.slice none 0 0]).run Tryz.prog w.drew = .ok (.pointer none) w.drew := rfl
 have mixed := bd_mixed
 go_enter Tryz.func225,Tryz.ntmps225
 go_wp2
 go_region_o
 all_goals (go_wp2; go_ret; exact ⟨rfl,rfl⟩)
theorem string_room (b g cap : Nat) (p : Value) (w : World) (hc0 : cap ≠ 0) (hbk : w.heap[b]? = some (.cells #[p,.slice (some ⟨g,0,none⟩) 0 cap] 269 (0,0))) :
  Calls Tryz.prog 225 #[.pointer (some ⟨b,0,none⟩)] w fun e w' => e = .returned (.string ⟨#[]⟩) ∧ w' = w.drew := by
 have hUS := string_us
 have c1 : w.drew.cell? ⟨b,1,none⟩ = some (.slice (some ⟨g,0,none⟩) 0 cap) := by
  have : w.drew.heap[b]? = some (.cells #[p,.slice (some ⟨g,0,none⟩) 0 cap] 269 (0,0)) := hbk
  rw [Lib.cell_of_heap this]; rfl
 have hSD : (Builtin.unsafeSliceData_ #[267] 296 #[.slice (some ⟨g,0,none⟩) 0 cap]).run Tryz.prog w.drew = .ok (.pointer (some ⟨g,0,none⟩)) w.drew :=
  Lib.run_unsafeSliceData_row _ _ _ _ _ _ hc0
 clear hc0
 have mixed := bd_mixed
 go_enter Tryz.func225,Tryz.ntmps225
 go_wp2
 go_region_o
 all_goals (go_wp2; go_ret; exact ⟨rfl,rfl⟩)
theorem string_noroom (b g : Nat) (p : Value) (cur : Array Value) (w : World) (hbk : w.heap[b]? = some (.cells #[p,.slice (some ⟨g,0,none⟩) 0 0] 269 (0,0))) (hg : w.heap[g]? = some (.cells cur 5 (0,0))) :
  Calls Tryz.prog 225 #[.pointer (some ⟨b,0,none⟩)] w fun e w' => e = .returned (.string ⟨#[]⟩) ∧ w' = w.drew.alloc (.view ⟨g,0,none⟩ 5) := by
 have hUS := string_us
 have hlt : b < w.heap.size := by
  rcases Nat.lt_or_ge b w.heap.size with h' | h'
  ·exact h'
  ·simp [Array.getElem?_eq_none h'] at hbk
 have c1 : w.drew.cell? ⟨b,1,none⟩ = some (.slice (some ⟨g,0,none⟩) 0 0) := by
  have : w.drew.heap[b]? = some (.cells #[p,.slice (some ⟨g,0,none⟩) 0 0] 269 (0,0)) := hbk
  rw [Lib.cell_of_heap this]; rfl
 have hSD : (Builtin.unsafeSliceData_ #[267] 296 #[.slice (some ⟨g,0,none⟩) 0 0]).run Tryz.prog w.drew = .ok (.pointer (some ⟨w.drew.heap.size,0,none⟩)) (w.drew.alloc (.view ⟨g,0,none⟩ 5)) :=
  Lib.run_unsafeSliceData_zero w.drew _ _ 5 Tryz.underlying296 ⟨g,0,none⟩ 0 (5,cur.size) (by have hg' : w.drew.heap[g]? = some (.cells cur 5 (0,0)) := hg; simp [World.shape?,hg'])
 have c2 : (w.drew.alloc (.view ⟨g,0,none⟩ 5)).cell? ⟨b,1,none⟩ = some (.slice (some ⟨g,0,none⟩) 0 0) := by
  have : (w.drew.alloc (.view ⟨g,0,none⟩ 5)).heap[b]? = _ := (Lib.alloc_old w.drew _ b hlt).trans hbk
  rw [Lib.cell_of_heap this]; rfl
 have c3 : w.cell? ⟨b,1,none⟩ = some (.slice (some ⟨g,0,none⟩) 0 0) := by rw [Lib.cell_of_heap hbk]; rfl
 have mixed := bd_mixed
 go_enter Tryz.func225,Tryz.ntmps225
 go_wp2
 go_region_o
 all_goals (go_wp2; go_ret; exact ⟨rfl,rfl⟩)
theorem string_lx (j : Int) (L : List PV) (z : ByteArray) (hL : L = bytesPV z) (hj : j = z.size) :
  CallF (fun _ => Tryz.prog) 225 [.ptr 0 (.lit 0)] [(0,.bld 269 [.sl 1 5 1 (.lit 0) (.sym j)]),hpP 1 L] 2
   (fun r h n => r = .p (.str fun _ => z) ∧ h = [(0,.bld 269 [.p (.vsl (.sym j) true L)])] ∧ n = 2) := by
 refine .mk ⟨_,_,Tryz.func225,by kernel_rfl,rfl⟩ fun c w xs hr hN hl hrel => ?_
 obtain ⟨x,rfl,hx⟩ := arg1 hl hrel
 obtain ⟨m,hm,hB⟩ := hr.live 0 _ rfl
 obtain ⟨m1,hm1,hB1⟩ := hr.live 1 _ rfl
 cases m with
 | none => exact hB.elim
 | some r =>
  have hx := ptr_live hm hx
  subst hx
  obtain ⟨cur,hg,hsz,h0,hc⟩ := hB
  have hsz : cur.size = 2 := hsz
  have hc1 := hc 0 _ rfl
  obtain ⟨p,v,rfl⟩ : ∃ p v,cur = #[p,v] := by
   rcases cur with ⟨l⟩
   match l,hsz with
   | [p,v],_ => exact ⟨p,v,rfl⟩
  have hc1 : LR c w (.sl 1 5 1 (.lit 0) (.sym j)) v := hc1
  have hlen : L.length = z.size := by rw [hL,bytesPV,List.length_map,Array.length_toList]; rfl
  have fin : ∀ (w' : World),Ext c w (c.drop 1) w' → (w'.heap[r]? = w.heap[r]?) → LR (c.drop 1) w' (.p (.vsl (.sym j) true L)) v →
    ∃ (c' : Ctx) (rv : LV) (vv : Value) (h' : LH) (n' : Nat),Ending.returned (Value.string z) = .returned vv ∧ (rv = .p (.str fun _ => z) ∧ h' = [(0,LB.bld 269 [.p (.vsl (.sym j) true L)])] ∧ n' = 2) ∧ HR c' w' h' ∧ c'.N = n' ∧ LR c' w' rv vv ∧ Ext c w c' w' := by
   intro w' he hh hv
   have hd := hr.drop 1
   have e0 : ∀ b,b ≠ 1 → (c.drop 1).m b = c.m b := fun b hb => if_neg hb
   have e1 : (c.drop 1).m 1 = none := by simp [Ctx.drop]
   refine ⟨c.drop 1,.p (.str fun _ => z),.string z,_,2,rfl,⟨rfl,rfl,rfl⟩,?_,hN,.p _ _ (.str _),he⟩
   refine hr.step he (.inl rfl) (fun b hb => ?_) (fun b => ?_) (fun b B hb => .inr ?_)
   ·by_cases e : b = 1
    ·rw [e]; exact e1
    ·rw [e0 b e]; exact hr.fresh b hb
   ·by_cases e : b = 1
    ·exact .inr (.inl (by rw [e]; exact e1))
    ·exact .inl (e0 b e)
   ·rw [hget_cons] at hb
    by_cases e : 0 = b
    ·rw [if_pos e] at hb; cases hb
     subst e
     refine ⟨some r,(e0 0 (by decide)).trans hm,_,hh.trans hg,rfl,h0,fun j u hu => ?_⟩
     rcases j with _ | j
     ·simp at hu; subst hu; exact hv
     ·simp at hu
    ·rw [if_neg e] at hb; cases hb
  have drewE : Ext c w (c.drop 1) w.drew := (Ext.drop hr 1).trans (hr.drop 1 |>.same (w' := w.drew) rfl rfl rfl rfl).1
  have empty : z.size = 0 → z = ⟨#[]⟩ := fun h => by
   cases z with | mk d => have : d = #[] := Array.eq_empty_of_size_eq_zero h; rw [this]
  have hnM : ∀ r1,c.m 1 = some (some r1) → ¬ (c.drop 1).mut r1 := by
   rintro r1 h1 (hX | ⟨b,hb⟩)
   ·exact hr.noX 1 r1 h1 hX
   ·by_cases e : b = 1
    ·rw [e] at hb; have : (c.drop 1).m 1 = none := by simp [Ctx.drop]
     rw [this] at hb; cases hb
    ·have e0 : (c.drop 1).m b = c.m b := if_neg e
     rw [e0] at hb
     exact e (hr.inj b 1 r1 hb h1)
  cases hc1 with
  | goneS _ _ _ _ _ _ _ _ hm' _ => rw [hm1] at hm'; cases hm'
  | slz _ _ _ _ _ _ _ _ _ ho' _ _ h0' => exfalso; simp only [I.val] at ho'; omega
  | slv _ _ _ _ _ hm' ho' hn' =>
   simp only [I.val] at hn'
   have hz := empty (by omega)
   refine (string_nil r p w hg).mono ?_
   rintro e w' ⟨rfl,rfl⟩
   rw [← hz]
   exact fin _ drewE rfl (.p _ _ (.vsl0 _ _ _ _ _ hn' (Nat.zero_le _)))
  | sl _ _ _ _ _ g o k cp tot hm' ho' hn' hk' hcp hs' ht' =>
   rw [hm1] at hm'; cases hm'
   obtain ⟨cur,ty,hgg,hle,hrel⟩ := hB1
   simp only [I.val] at ho' hn'
   have ho0 : o = 0 := by omega
   subst ho0
   have hsh : ty = 5 ∧ cur.size = tot := by
    rw [World.shape?,hgg] at hs'
    cases hs'; exact ⟨rfl,rfl⟩
   obtain ⟨rfl,rfl⟩ := hsh
   have hkz : k = z.size := by omega
   have hgr : r ≠ g := fun e => by
    rw [e] at hm
    have := hr.inj 0 1 g hm hm1
    cases this
   by_cases hk0 : k = 0
   ·subst hk0
    have hz := empty (by omega)
    by_cases hcp0 : cp = 0
    ·subst hcp0
     refine (string_noroom r g p cur w hg hgg).mono ?_
     rintro e w' ⟨rfl,rfl⟩
     rw [← hz]
     have hlt : r < w.heap.size := hr.lt 0 r hm
     have he : Ext c w (c.drop 1) (w.drew.alloc (.view ⟨g,0,none⟩ 5)) := by
      refine ⟨rfl,rfl,rfl,by simp,rfl,Nat.le_refl _,drewE.old,fun b r hb h => ?_,fun r hr' _ => heap_alloc_old w.drew _ hr',fun b r' hb h => ?_⟩
      ·rcases drewE.new b r hb h with h1 | h1
       ·exact .inl h1
       ·exact .inr h1
      ·have h2 : c.m b = some (some r') := by
        rcases drewE.old b hb with e | e
        ·rw [← e]; exact h
        ·rw [e] at h; cases h
       simp only [World.shape?]
       rw [heap_alloc_old w.drew _ (hr.lt b r' h2)]; rfl
     exact fin _ he (heap_alloc_old w.drew _ hlt) (.p _ _ (.vsl0 _ _ _ _ _ hn' (Nat.zero_le _)))
    ·refine (string_room r g cp p w hcp0 hg).mono ?_
     rintro e w' ⟨rfl,rfl⟩
     rw [← hz]
     exact fin _ drewE rfl (.p _ _ (.vsl0 _ _ _ _ _ hn' hcp))
   ·have hll : z.data.toList.length = k := by rw [Array.length_toList]; exact hkz.symm
    have hcur : ∀ (j : Nat) (x : UInt8),z.data.toList[j]? = some x → cur[j]? = some (Value.int .u8 x.toNat) := by
     intro j x hx
     have hLj : L[j]? = some (.int .u8 (.sym x.toNat)) := by rw [hL,bytesPV,List.getElem?_map,hx]; rfl
     have h1 := hrel j _ hLj
     have hjl : j < L.length := (List.getElem?_eq_some_iff.1 hLj).1
     rw [Array.getD_eq_getD_getElem?,Array.getElem?_eq_getElem (by omega : j < cur.size)] at h1
     rw [Array.getElem?_eq_getElem (by omega : j < cur.size)]
     generalize cur[j] = q at h1
     have h1 : PR c.mut w (.int .u8 (.sym x.toNat)) q := h1
     cases h1 with | int _ _ m hm => rw [← hm]; rfl
    have hs1 := string_some r g cp p cur z.data.toList w (by intro h; rw [h] at hll; simp at hll; omega) (by rw [hll]; exact hg) hgg (by omega) hcp (by omega) (fun j x hx => by
     rw [add_lit]
     simp only [World.cell?,hgg,Nat.zero_add]
     simpa using hcur j x hx)
    refine hs1.mono ?_
    rintro e w' ⟨rfl,rfl⟩
    have hfg : (w.drew.freeze ⟨g,0,none⟩ z.data.toList.length).heap[g]? = some (.cells cur 5 (0,k)) := by
     have hgg' : w.drew.heap[g]? = some (.cells cur 5 (0,0)) := hgg
     rw [hll]; simp [World.freeze,hk0,Array.getElem?_modify,hgg']
    have hfo : ∀ i,i ≠ g → (w.drew.freeze ⟨g,0,none⟩ z.data.toList.length).heap[i]? = w.heap[i]? := by
     intro i hi
     have hi' : ¬ g = i := fun h => hi h.symm
     rw [hll]; simp [World.freeze,hk0,Array.getElem?_modify,hi']; rfl
    have hfs : (w.drew.freeze ⟨g,0,none⟩ z.data.toList.length).heap.size = w.heap.size := by rw [hll]; simp [World.freeze,hk0]
    have he : Ext c w (c.drop 1) (w.drew.freeze ⟨g,0,none⟩ z.data.toList.length) := by
     refine ⟨by rw [hll]; simp [World.freeze,hk0] <;> rfl,by rw [hll]; simp [World.freeze,hk0] <;> rfl,by rw [hll]; simp [World.freeze,hk0] <;> rfl,by rw [hfs]; exact Nat.le_refl _,rfl,Nat.le_refl _,drewE.old,drewE.new,fun i hi ho => hfo i fun e => ho (by rw [e]; exact ⟨1,hm1⟩),fun b r' hb h => ?_⟩
     have hrg : r' ≠ g := fun e => by
      rw [e] at h
      exact hnM g hm1 (.inr ⟨b,h⟩)
     simp only [World.shape?,hfo r' hrg]
    refine fin _ he (hfo r hgr) (.p _ _ (.vsl _ _ _ ⟨g,0,none⟩ k cp (fun j => cur.getD j Go.undef) hn' rfl (hnM g hm1) (by rw [hfs]; exact hr.lt 1 g hm1) hk' hcp (fun j u hu => ?_) (fun j u hu => (hrel j u hu).ext hr.fresh he)))
    have hjl : j < L.length := (List.getElem?_eq_some_iff.1 hu).1
    rw [add_lit]
    simp only [World.cell?,hfg,Nat.zero_add]
    rw [Array.getD_eq_getD_getElem?,Array.getElem?_eq_getElem (by omega : j < cur.size)]; rfl
end Go.Proofs.YtjfdfbpgckilpaaGreatDoor
namespace Go.Proofs.YtjfdfbpgckilpaaGreatDoor
open Go Go.LX
set_option maxRecDepth 100000
set_option linter.unusedVariables false
set_option maxHeartbeats 32000000
theorem bytesPV_append (a b : ByteArray) : bytesPV (a ++ b) = bytesPV a ++ bytesPV b := by
 have : (a ++ b).data.toList = a.data.toList ++ b.data.toList := by rw [ByteArray.data_append,Array.toList_append]
 rw [bytesPV,bytesPV,bytesPV,this,List.map_append]
theorem bytesPV_length (a : ByteArray) : (bytesPV a).length = a.size := by rw [bytesPV,List.length_map,Array.length_toList]; rfl
end Go.Proofs.YtjfdfbpgckilpaaGreatDoor
namespace Go.Proofs.YtjfdfbpgckilpaaGreatDoor
open Go Go.LX
set_option maxRecDepth 100000
set_option linter.unusedVariables false
set_option maxHeartbeats 32000000
theorem appendRune_lx (j cc : Int) (L : List PV) (z : ByteArray) (hL : L = bytesPV z) (hj : j = z.size) (h0 : 0 ≤ cc) (h1 : cc ≤ 127) (hm : z.size + 1 ≤ 140737488355328) :
  CallF (fun _ => Tryz.prog) 243 [.sl 0 5 1 (.lit 0) (.sym j),.p (.int .i32 (.sym cc))] [hpP 0 L] 1
   (fun r h n => ∃ (k : Int) (L' : List PV),r = .sl 1 5 1 (.lit 0) (.sym k) ∧ h = [hpP 1 L'] ∧ n = 2 ∧ L' = bytesPV (z ++ ⟨#[cc.toNat.toUInt8]⟩) ∧ k = (z.size : Int) + 1) := by
 refine callF_of_body tok Tryz.func243 (by kernel_rfl) rfl rfl rfl ?_; conv => cbv
 refine Fit.mk (show (0 : Int) ≤ cc by omega) (show cc ≤ 4294967295 by omega) fun u hu => ?_
 have hu : u = cc := hu
 conv => cbv
 refine Br.mk (fun _ => ?_) (fun hc => absurd (show u ≤ 127 by omega) hc)
 conv => cbv
 refine Fit.mk (show (0 : Int) ≤ cc by omega) (show cc ≤ 255 by omega) fun v hv => ?_
 have hv : v = cc := hv
 conv => cbv
 refine Room.new rfl ?_
 conv => cbv
 refine Room.new ⟨by rw [hL,bytesPV_length]; show ((z.size : Nat) : Int) = j * 1; omega,by show (j + 1) * 1 ≤ 140737488355328; omega,by show j + 1 ≤ 9223372036854775807; omega⟩ ?_
 conv => cbv
 refine Upd.mk fun L2 hL2 => ?_
 have hL2 : L2 = L ++ [.int .u8 (.sym v)] := hL2
 conv => cbv
 refine Sum.mk fun k hk => ?_
 have hk : k = j + 1 := hk
 have hk2 : k = (z.size : Int) + 1 := by rw [hk,hj]
 conv => cbv
 refine RetF.mk [.sl 1 5 1 (.lit 0) (.sym k)] [hpP 1 L2] 2 (Re.at [(2,1)] []) rfl ⟨k,L2,rfl,rfl,rfl,?_,hk2⟩
 have hb : ((cc.toNat.toUInt8).toNat : Int) = v := by
  have : cc.toNat.toUInt8.toNat = cc.toNat := by rw [Nat.toUInt8,UInt8.toNat_ofNat']; omega
  omega
 rw [hL2,hL,bytesPV_append]
 show _ = bytesPV z ++ [PV.int .u8 (.sym ((cc.toNat.toUInt8).toNat : Int))]
 rw [hb]
theorem writeRune_lx (j cc : Int) (L : List PV) (z : ByteArray) (hL : L = bytesPV z) (hj : j = z.size) (h0 : 0 ≤ cc) (h1 : cc ≤ 127) (hm : z.size + 1 ≤ 140737488355328) :
  CallF (fun _ => Tryz.prog) 224 [.ptr 0 (.lit 0),.p (.int .i32 (.sym cc))] [(0,.bld 269 [.sl 1 5 1 (.lit 0) (.sym j)]),hpP 1 L] 2
   (fun r h n => ∃ (m k : Int) (L' : List PV),r = .tup [i6 m,.p .nilif] ∧ h = [hpP 2 L',(0,.bld 269 [.sl 2 5 1 (.lit 0) (.sym k)])] ∧ n = 3 ∧ L' = bytesPV (z ++ ⟨#[cc.toNat.toUInt8]⟩) ∧ k = (z ++ ⟨#[cc.toNat.toUInt8]⟩).size) := by
 refine callF_of_body tok Tryz.func224 (by kernel_rfl) rfl rfl rfl ?_; conv => cbv
 refine cfr (copyCheck_lx (.sl 1 5 1 (.lit 0) (.sym j)) (.pure true L)) [(0,0),(1,1)] (fun r h' n' ⟨e1,e2,e3⟩ => ?_)
 subst e1 e2 e3
 conv => cbv
 refine callF_frame (appendRune_lx j cc L z hL hj h0 h1 hm) [(0,1)] rfl (by simp [hmapOk,nget,hget,renB,okB]) rfl rfl (fun r h' n' ⟨k,L2,e1,e2,e3,hL2,hk⟩ => ?_)
 subst e1 e2 e3
 conv => cbv
 refine Fit.mk (show (-9223372036854775808 : Int) ≤ k - j by omega) (show k - j ≤ 9223372036854775807 by omega) fun m hm2 => ?_
 conv => cbv
 have hk2 : k = (z ++ ⟨#[cc.toNat.toUInt8]⟩ : ByteArray).size := by rw [ByteArray.size_append,hk]; rfl
 refine RetF.mk [i6 m,.p .nilif] [hpP 2 L2,(0,.bld 269 [.sl 2 5 1 (.lit 0) (.sym k)])] 3 (Re.at [(0,0),(2,2)] []) rfl ⟨m,k,L2,rfl,rfl,rfl,hL2,hk2⟩
end Go.Proofs.YtjfdfbpgckilpaaGreatDoor
namespace Go.Proofs
open Go.Shelf
set_option maxHeartbeats 32000000
def Tryz.laysM171_ren : Go.Shelf.Ren := ⟨fun | 171 => 182 | 243 => 227 | 246 => 249 | 283 => 261 | 284 => 262 | 285 => 263 | 286 => 264 | 129 => 222 | 317 => 273 | 318 => 274 | 319 => 275 | 320 => 276 | 337 => 281 | 338 => 282 | n => n,fun | 3 => 3 | 9 => 9 | 2 => 2 | 4 => 4 | 171 => 313 | 0 => 0 | 53 => 265 | 37 => 267 | 5 => 5 | 173 => 315 | 212 => 326 | 51 => 263 | 20 => 20 | 213 => 327 | 46 => 23 | 232 => 339 | 233 => 340 | n => n,fun | 17 => 0 | 18 => 4 | 19 => 5 | n => n⟩
theorem Tryz.laysM171 : Go.Proofs.LaysM.n171 Tryz.prog Tryz.laysM171_ren := {
 mixed := by kernel_rfl
 f129 := Tryz.func222.trans (congrArg some (by kernel_rfl))
 f171 := Tryz.func182.trans (congrArg some (by kernel_rfl))
 f243 := Tryz.func227.trans (congrArg some (by kernel_rfl))
 f246 := Tryz.func249.trans (congrArg some (by kernel_rfl))
 f283 := Tryz.func261.trans (congrArg some (by kernel_rfl))
 f284 := Tryz.func262.trans (congrArg some (by kernel_rfl))
 f285 := Tryz.func263.trans (congrArg some (by kernel_rfl))
 f286 := Tryz.func264.trans (congrArg some (by kernel_rfl))
 f317 := Tryz.func273.trans (congrArg some (by kernel_rfl))
 f318 := Tryz.func274.trans (congrArg some (by kernel_rfl))
 f319 := Tryz.func275.trans (congrArg some (by kernel_rfl))
 f320 := Tryz.func276.trans (congrArg some (by kernel_rfl))
 f337 := Tryz.func281.trans (congrArg some (by kernel_rfl))
 f338 := Tryz.func282.trans (congrArg some (by kernel_rfl))
 t0 := Tryz.underlying0
 a0 := Tryz.isAgg0
 z0 := Tryz.sizeOf0
 v0 := Tryz.zeroValue0
 t2 := Tryz.underlying2
 a2 := Tryz.isAgg2
 z2 := Tryz.sizeOf2
 v2 := Tryz.zeroValue2
 t3 := Tryz.underlying3
 a3 := Tryz.isAgg3
 z3 := Tryz.sizeOf3
 v3 := Tryz.zeroValue3
 t4 := Tryz.underlying4
 a4 := Tryz.isAgg4
 z4 := Tryz.sizeOf4
 v4 := Tryz.zeroValue4
 t5 := Tryz.underlying5
 a5 := Tryz.isAgg5
 z5 := Tryz.sizeOf5
 v5 := Tryz.zeroValue5
 t9 := Tryz.underlying9
 a9 := Tryz.isAgg9
 z9 := Tryz.sizeOf9
 v9 := Tryz.zeroValue9
 t20 := Tryz.underlying20
 a20 := Tryz.isAgg20
 z20 := Tryz.sizeOf20
 v20 := Tryz.zeroValue20
 t37 := Tryz.underlying267
 a37 := Tryz.isAgg267
 z37 := Tryz.sizeOf267
 v37 := Tryz.zeroValue267
 t46 := Tryz.underlying23
 a46 := Tryz.isAgg23
 z46 := Tryz.sizeOf23
 v46 := Tryz.zeroValue23
 t51 := Tryz.underlying263
 a51 := Tryz.isAgg263
 z51 := Tryz.sizeOf263
 v51 := Tryz.zeroValue263
 t53 := Tryz.underlying265
 a53 := Tryz.isAgg265
 z53 := Tryz.sizeOf265
 v53 := Tryz.zeroValue265
 t171 := Tryz.underlying313
 a171 := Tryz.isAgg313
 z171 := Tryz.sizeOf313
 v171 := Tryz.zeroValue313
 t173 := Tryz.underlying315
 a173 := Tryz.isAgg315
 z173 := Tryz.sizeOf315
 v173 := Tryz.zeroValue315
 t212 := Tryz.underlying326
 a212 := Tryz.isAgg326
 z212 := Tryz.sizeOf326
 v212 := Tryz.zeroValue326
 t213 := Tryz.underlying327
 a213 := Tryz.isAgg327
 z213 := Tryz.sizeOf327
 t232 := Tryz.underlying339
 a232 := Tryz.isAgg339
 z232 := Tryz.sizeOf339
 v232 := Tryz.zeroValue339
 t233 := Tryz.underlying340
 a233 := Tryz.isAgg340
 z233 := Tryz.sizeOf340
 v233 := Tryz.zeroValue340
 g17 := by kernel_rfl
 g18 := by kernel_rfl
 g19 := by kernel_rfl
 i0 := by kernel_rfl
 i2 := by kernel_rfl
 i3 := by kernel_rfl
 i4 := by kernel_rfl
 i5 := by kernel_rfl
 i9 := by kernel_rfl
 i20 := by kernel_rfl
 i37 := by kernel_rfl
 i46 := by kernel_rfl
 i51 := by kernel_rfl
 i53 := by kernel_rfl
 i171 := by kernel_rfl
 i173 := by kernel_rfl
 i212 := by kernel_rfl
 i232 := by kernel_rfl
 i233 := by kernel_rfl
 m17 := by kernel_rfl
 m18 := by kernel_rfl
 m19 := by kernel_rfl }
open Go.RowKit Go.Sort Go.Lib in
theorem Tryz.strconv_Itoa (n : Int) (h0 : -9223372036854775808 ≤ n) (h1 : n ≤ 9223372036854775807) (w : World) (htab : Lib.TabIs Tryz.prog w "internal/strconv.uint64pow10" .u64 Lib.pow10Tab) :
  Calls Tryz.prog 182 #[.int .i64 n] w fun e w' => e = .returned (.string ⟨(Lib.itoa n).toArray⟩) ∧ ∃ k os,w' = grow (w.drewN k) os := Any.strconv_Itoa Tryz.laysM171 n h0 h1 w htab
def Tryz.laysC172_ren : Go.Shelf.Ren := ⟨fun | 172 => 229 | 244 => 251 | 245 => 252 | 247 => 266 | 279 => 267 | 280 => 268 | 281 => 269 | 282 => 270 | 287 => 278 | 316 => 279 | 171 => 182 | 205 => 280 | 321 => 283 | 322 => 284 | 243 => 227 | 246 => 249 | 283 => 261 | 284 => 262 | 285 => 263 | 286 => 264 | 129 => 222 | 317 => 273 | 318 => 274 | 319 => 275 | 320 => 276 | 337 => 281 | 338 => 282 | n => n,fun | 9 => 9 | 3 => 3 | 75 => 271 | 76 => 272 | 4 => 4 | 5 => 5 | 167 => 317 | 37 => 267 | 0 => 0 | 85 => 318 | 2 => 2 | 168 => 320 | 53 => 265 | 175 => 328 | 46 => 23 | 210 => 332 | 127 => 296 | 145 => 338 | 143 => 336 | 21 => 21 | 171 => 313 | 173 => 315 | 212 => 326 | 51 => 263 | 20 => 20 | 213 => 327 | 232 => 339 | 233 => 340 | 80 => 274 | n => n,fun | 15 => 1 | 16 => 2 | 17 => 0 | 18 => 4 | 19 => 5 | n => n⟩
theorem Tryz.laysC172 : Go.Proofs.LaysC.n172 Tryz.prog Tryz.laysC172_ren := {
 mixed := by kernel_rfl
 f129 := Tryz.func222.trans (congrArg some (by kernel_rfl))
 f171 := Tryz.func182.trans (congrArg some (by kernel_rfl))
 f172 := Tryz.func229.trans (congrArg some (by kernel_rfl))
 f205 := Tryz.func280.trans (congrArg some (by kernel_rfl))
 f243 := Tryz.func227.trans (congrArg some (by kernel_rfl))
 f244 := Tryz.func251.trans (congrArg some (by kernel_rfl))
 f245 := Tryz.func252.trans (congrArg some (by kernel_rfl))
 f246 := Tryz.func249.trans (congrArg some (by kernel_rfl))
 f247 := Tryz.func266.trans (congrArg some (by kernel_rfl))
 f279 := Tryz.func267.trans (congrArg some (by kernel_rfl))
 f280 := Tryz.func268.trans (congrArg some (by kernel_rfl))
 f281 := Tryz.func269.trans (congrArg some (by kernel_rfl))
 f282 := Tryz.func270.trans (congrArg some (by kernel_rfl))
 f283 := Tryz.func261.trans (congrArg some (by kernel_rfl))
 f284 := Tryz.func262.trans (congrArg some (by kernel_rfl))
 f285 := Tryz.func263.trans (congrArg some (by kernel_rfl))
 f286 := Tryz.func264.trans (congrArg some (by kernel_rfl))
 f287 := Tryz.func278.trans (congrArg some (by kernel_rfl))
 f316 := Tryz.func279.trans (congrArg some (by kernel_rfl))
 f317 := Tryz.func273.trans (congrArg some (by kernel_rfl))
 f318 := Tryz.func274.trans (congrArg some (by kernel_rfl))
 f319 := Tryz.func275.trans (congrArg some (by kernel_rfl))
 f320 := Tryz.func276.trans (congrArg some (by kernel_rfl))
 f321 := Tryz.func283.trans (congrArg some (by kernel_rfl))
 f322 := Tryz.func284.trans (congrArg some (by kernel_rfl))
 f337 := Tryz.func281.trans (congrArg some (by kernel_rfl))
 f338 := Tryz.func282.trans (congrArg some (by kernel_rfl))
 t0 := Tryz.underlying0
 a0 := Tryz.isAgg0
 z0 := Tryz.sizeOf0
 v0 := Tryz.zeroValue0
 t2 := Tryz.underlying2
 a2 := Tryz.isAgg2
 z2 := Tryz.sizeOf2
 v2 := Tryz.zeroValue2
 t3 := Tryz.underlying3
 a3 := Tryz.isAgg3
 z3 := Tryz.sizeOf3
 v3 := Tryz.zeroValue3
 t4 := Tryz.underlying4
 a4 := Tryz.isAgg4
 z4 := Tryz.sizeOf4
 v4 := Tryz.zeroValue4
 t5 := Tryz.underlying5
 a5 := Tryz.isAgg5
 z5 := Tryz.sizeOf5
 v5 := Tryz.zeroValue5
 t9 := Tryz.underlying9
 a9 := Tryz.isAgg9
 z9 := Tryz.sizeOf9
 v9 := Tryz.zeroValue9
 t20 := Tryz.underlying20
 a20 := Tryz.isAgg20
 z20 := Tryz.sizeOf20
 v20 := Tryz.zeroValue20
 t21 := Tryz.underlying21
 a21 := Tryz.isAgg21
 z21 := Tryz.sizeOf21
 v21 := Tryz.zeroValue21
 t37 := Tryz.underlying267
 a37 := Tryz.isAgg267
 z37 := Tryz.sizeOf267
 v37 := Tryz.zeroValue267
 t46 := Tryz.underlying23
 a46 := Tryz.isAgg23
 z46 := Tryz.sizeOf23
 v46 := Tryz.zeroValue23
 t51 := Tryz.underlying263
 a51 := Tryz.isAgg263
 z51 := Tryz.sizeOf263
 v51 := Tryz.zeroValue263
 t53 := Tryz.underlying265
 a53 := Tryz.isAgg265
 z53 := Tryz.sizeOf265
 v53 := Tryz.zeroValue265
 t75 := Tryz.underlying271
 a75 := Tryz.isAgg271
 z75 := Tryz.sizeOf271
 v75 := Tryz.zeroValue271
 t76 := Tryz.underlying272
 a76 := Tryz.isAgg272
 z76 := Tryz.sizeOf272
 v76 := Tryz.zeroValue272
 t85 := Tryz.underlying318
 a85 := Tryz.isAgg318
 z85 := Tryz.sizeOf318
 v85 := Tryz.zeroValue318
 t127 := Tryz.underlying296
 a127 := Tryz.isAgg296
 z127 := Tryz.sizeOf296
 v127 := Tryz.zeroValue296
 t143 := Tryz.underlying336
 a143 := Tryz.isAgg336
 z143 := Tryz.sizeOf336
 v143 := Tryz.zeroValue336
 t145 := Tryz.underlying338
 a145 := Tryz.isAgg338
 z145 := Tryz.sizeOf338
 v145 := Tryz.zeroValue338
 t167 := Tryz.underlying317
 a167 := Tryz.isAgg317
 z167 := Tryz.sizeOf317
 v167 := Tryz.zeroValue317
 t168 := Tryz.underlying320
 a168 := Tryz.isAgg320
 z168 := Tryz.sizeOf320
 v168 := Tryz.zeroValue320
 t171 := Tryz.underlying313
 a171 := Tryz.isAgg313
 z171 := Tryz.sizeOf313
 v171 := Tryz.zeroValue313
 t173 := Tryz.underlying315
 a173 := Tryz.isAgg315
 z173 := Tryz.sizeOf315
 v173 := Tryz.zeroValue315
 t175 := Tryz.underlying328
 a175 := Tryz.isAgg328
 z175 := Tryz.sizeOf328
 v175 := Tryz.zeroValue328
 t210 := Tryz.underlying332
 a210 := Tryz.isAgg332
 z210 := Tryz.sizeOf332
 v210 := Tryz.zeroValue332
 t212 := Tryz.underlying326
 a212 := Tryz.isAgg326
 z212 := Tryz.sizeOf326
 v212 := Tryz.zeroValue326
 t213 := Tryz.underlying327
 a213 := Tryz.isAgg327
 z213 := Tryz.sizeOf327
 t232 := Tryz.underlying339
 a232 := Tryz.isAgg339
 z232 := Tryz.sizeOf339
 v232 := Tryz.zeroValue339
 t233 := Tryz.underlying340
 a233 := Tryz.isAgg340
 z233 := Tryz.sizeOf340
 v233 := Tryz.zeroValue340
 g15 := by kernel_rfl
 g16 := by kernel_rfl
 g17 := by kernel_rfl
 g18 := by kernel_rfl
 g19 := by kernel_rfl
 t80 := Tryz.underlying274
 a80 := Tryz.isAgg274
 z80 := Tryz.sizeOf274
 v80 := Tryz.zeroValue274
 i0 := by kernel_rfl
 i2 := by kernel_rfl
 i3 := by kernel_rfl
 i4 := by kernel_rfl
 i5 := by kernel_rfl
 i9 := by kernel_rfl
 i20 := by kernel_rfl
 i21 := by kernel_rfl
 i37 := by kernel_rfl
 i46 := by kernel_rfl
 i51 := by kernel_rfl
 i53 := by kernel_rfl
 i75 := by kernel_rfl
 i76 := by kernel_rfl
 i80 := by kernel_rfl
 i85 := by kernel_rfl
 i127 := by kernel_rfl
 i143 := by kernel_rfl
 i145 := by kernel_rfl
 i167 := by kernel_rfl
 i168 := by kernel_rfl
 i171 := by kernel_rfl
 i173 := by kernel_rfl
 i175 := by kernel_rfl
 i210 := by kernel_rfl
 i212 := by kernel_rfl
 i232 := by kernel_rfl
 i233 := by kernel_rfl
 m15 := by kernel_rfl
 m16 := by kernel_rfl
 m17 := by kernel_rfl
 m18 := by kernel_rfl
 m19 := by kernel_rfl
 c0 := by kernel_rfl
 c2 := by kernel_rfl
 c3 := by kernel_rfl
 c4 := by kernel_rfl
 c5 := by kernel_rfl
 c9 := by kernel_rfl
 c20 := by kernel_rfl
 c21 := by kernel_rfl
 c37 := by kernel_rfl
 c46 := by kernel_rfl
 c51 := by kernel_rfl
 c53 := by kernel_rfl
 c75 := by kernel_rfl
 c76 := by kernel_rfl
 c80 := by kernel_rfl
 c85 := by kernel_rfl
 c127 := by kernel_rfl
 c143 := by kernel_rfl
 c145 := by kernel_rfl
 c167 := by kernel_rfl
 c168 := by kernel_rfl
 c171 := by kernel_rfl
 c173 := by kernel_rfl
 c175 := by kernel_rfl
 c210 := by kernel_rfl
 c212 := by kernel_rfl
 c213 := by kernel_rfl
 c232 := by kernel_rfl
 c233 := by kernel_rfl }
open Go.RowKit in
theorem Tryz.strconv_Atoi_ok (s : ByteArray) (hmax : s.size ≤ 9223372036854775806) (v : Int) (h : Lib.atoiAll s.data.toList = .ok v) (w : World) :
  Calls Tryz.prog 229 #[.string s] w fun e w' => e = .returned (.tuple #[.int .i64 v,.nilIface]) ∧ (w' = w ∨ ∃ t,w' = Lib.bytesWorld w 5 t) := Any.strconv_Atoi_ok Tryz.laysC172 s hmax v h w
def Tryz.lays102_ren : Go.Shelf.Ren := ⟨fun | 102 => 250 | 209 => 265 | 207 => 277 | n => n,fun | 9 => 9 | 4 => 4 | 3 => 3 | n => n,fun | n => n⟩
theorem Tryz.lays102 : Go.Proofs.Lays.n102 Tryz.prog Tryz.lays102_ren := {
 mixed := by kernel_rfl
 f102 := Tryz.func250.trans (congrArg some (by kernel_rfl))
 f207 := Tryz.func277.trans (congrArg some (by kernel_rfl))
 f209 := Tryz.func265.trans (congrArg some (by kernel_rfl))
 t3 := Tryz.underlying3
 a3 := Tryz.isAgg3
 z3 := Tryz.sizeOf3
 v3 := Tryz.zeroValue3
 t4 := Tryz.underlying4
 a4 := Tryz.isAgg4
 z4 := Tryz.sizeOf4
 v4 := Tryz.zeroValue4
 t9 := Tryz.underlying9
 a9 := Tryz.isAgg9
 z9 := Tryz.sizeOf9
 v9 := Tryz.zeroValue9 }
open Go.RowKit Go.Lib in
theorem Tryz.strings_TrimSuffix (s p : ByteArray) (w : World) (hs : s.size ≤ 9223372036854775807) :
  Calls Tryz.prog 250 #[.string s,.string p] w fun e w' => e = .returned (.string ⟨(Lib.trimSuffix s.data.toList p.data.toList).toArray⟩) ∧ w' = w := Any.strings_TrimSuffix Tryz.lays102 s p w hs
def Tryz.lays105_ren : Go.Shelf.Ren := ⟨fun | 105 => 226 | 212 => 244 | 99 => 245 | 165 => 246 | 166 => 247 | 170 => 248 | 169 => 225 | 263 => 257 | 264 => 258 | 206 => 259 | 240 => 242 | 241 => 260 | 276 => 255 | 277 => 272 | n => n,fun | 9 => 9 | 3 => 3 | 4 => 4 | 20 => 20 | 0 => 0 | 46 => 23 | 109 => 297 | 5 => 5 | 72 => 269 | 76 => 272 | 51 => 263 | 146 => 309 | 53 => 265 | 148 => 311 | 70 => 266 | 37 => 267 | 75 => 271 | 127 => 296 | 164 => 307 | 80 => 274 | n => n,fun | n => n⟩
theorem Tryz.lays105 : Go.Proofs.Lays.n105 Tryz.prog Tryz.lays105_ren := {
 mixed := by kernel_rfl
 f99 := Tryz.func245.trans (congrArg some (by kernel_rfl))
 f105 := Tryz.func226.trans (congrArg some (by kernel_rfl))
 f165 := Tryz.func246.trans (congrArg some (by kernel_rfl))
 f166 := Tryz.func247.trans (congrArg some (by kernel_rfl))
 f169 := Tryz.func225.trans (congrArg some (by kernel_rfl))
 f170 := Tryz.func248.trans (congrArg some (by kernel_rfl))
 f206 := Tryz.func259.trans (congrArg some (by kernel_rfl))
 f212 := Tryz.func244.trans (congrArg some (by kernel_rfl))
 f240 := Tryz.func242.trans (congrArg some (by kernel_rfl))
 f241 := Tryz.func260.trans (congrArg some (by kernel_rfl))
 f263 := Tryz.func257.trans (congrArg some (by kernel_rfl))
 f264 := Tryz.func258.trans (congrArg some (by kernel_rfl))
 f276 := Tryz.func255.trans (congrArg some (by kernel_rfl))
 f277 := Tryz.func272.trans (congrArg some (by kernel_rfl))
 t0 := Tryz.underlying0
 a0 := Tryz.isAgg0
 z0 := Tryz.sizeOf0
 v0 := Tryz.zeroValue0
 t3 := Tryz.underlying3
 a3 := Tryz.isAgg3
 z3 := Tryz.sizeOf3
 v3 := Tryz.zeroValue3
 t4 := Tryz.underlying4
 a4 := Tryz.isAgg4
 z4 := Tryz.sizeOf4
 v4 := Tryz.zeroValue4
 t5 := Tryz.underlying5
 a5 := Tryz.isAgg5
 z5 := Tryz.sizeOf5
 v5 := Tryz.zeroValue5
 t9 := Tryz.underlying9
 a9 := Tryz.isAgg9
 z9 := Tryz.sizeOf9
 v9 := Tryz.zeroValue9
 t20 := Tryz.underlying20
 a20 := Tryz.isAgg20
 z20 := Tryz.sizeOf20
 v20 := Tryz.zeroValue20
 t37 := Tryz.underlying267
 a37 := Tryz.isAgg267
 z37 := Tryz.sizeOf267
 v37 := Tryz.zeroValue267
 t46 := Tryz.underlying23
 a46 := Tryz.isAgg23
 z46 := Tryz.sizeOf23
 v46 := Tryz.zeroValue23
 t51 := Tryz.underlying263
 a51 := Tryz.isAgg263
 z51 := Tryz.sizeOf263
 v51 := Tryz.zeroValue263
 t53 := Tryz.underlying265
 a53 := Tryz.isAgg265
 z53 := Tryz.sizeOf265
 v53 := Tryz.zeroValue265
 t70 := Tryz.underlying266
 a70 := Tryz.isAgg266
 z70 := Tryz.sizeOf266
 v70 := Tryz.zeroValue266
 t72 := Tryz.underlying269
 a72 := Tryz.isAgg269
 z72 := Tryz.sizeOf269
 v72 := Tryz.zeroValue269
 t75 := Tryz.underlying271
 a75 := Tryz.isAgg271
 z75 := Tryz.sizeOf271
 v75 := Tryz.zeroValue271
 t76 := Tryz.underlying272
 a76 := Tryz.isAgg272
 z76 := Tryz.sizeOf272
 v76 := Tryz.zeroValue272
 t109 := Tryz.underlying297
 a109 := Tryz.isAgg297
 z109 := Tryz.sizeOf297
 v109 := Tryz.zeroValue297
 t127 := Tryz.underlying296
 a127 := Tryz.isAgg296
 z127 := Tryz.sizeOf296
 v127 := Tryz.zeroValue296
 t146 := Tryz.underlying309
 a146 := Tryz.isAgg309
 z146 := Tryz.sizeOf309
 v146 := Tryz.zeroValue309
 t148 := Tryz.underlying311
 a148 := Tryz.isAgg311
 z148 := Tryz.sizeOf311
 v148 := Tryz.zeroValue311
 t164 := Tryz.underlying307
 a164 := Tryz.isAgg307
 z164 := Tryz.sizeOf307
 v164 := Tryz.zeroValue307 }
theorem Tryz.Builder_Extra_105 : Builder.Extra Tryz.prog Tryz.lays105_ren := {
 sizeBuilder := by kernel_rfl
 liesBuilder := by kernel_rfl
 t5 := Tryz.underlying5
 a5 := Tryz.isAgg5
 z5 := Tryz.sizeOf5
 v5 := Tryz.zeroValue5
 infoByte := by kernel_rfl
 cellsByte := by kernel_rfl
 sizeByte := by kernel_rfl
 neB5 := by decide }
open Go.RowKit Go.Lib in
theorem Tryz.strings_Repeat (s : ByteArray) (c : Nat) (w : World) (hc : c ≤ 9223372036854775807) (hlen : s.size * c ≤ 140737488355328) :
  Calls Tryz.prog 226 #[.string s,.int .i64 c] w fun e w' => e = .returned (.string ⟨(Lib.repeatL s.data.toList c).toArray⟩) ∧ Below w.heap.size w w' := Any.strings_Repeat Tryz.lays105 Tryz.Builder_Extra_105 s c w hc hlen
end Go.Proofs
namespace Go.Proofs.YtjfdfbpgckilpaaGreatDoor
open Go Go.LX
set_option maxRecDepth 100000
set_option linter.unusedVariables false
set_option linter.unusedSimpArgs false
set_option maxHeartbeats 32000000
theorem dec_at (l : List UInt8) (hl : ∀ c ∈ l,c.toNat < 128) (i : Nat) (c : UInt8) (h : l[i]? = some c) : Utf8.decode ⟨l.toArray⟩ i = (c.toNat,1) := by
 have hi := (List.getElem?_eq_some_iff.1 h).1
 have hc : l[i] = c := (List.getElem?_eq_some_iff.1 h).2
 have hsz : i < (ByteArray.mk l.toArray).size := by show i < l.toArray.size; simpa using hi
 have hg : (ByteArray.mk l.toArray)[i]'hsz = c := by show l.toArray[i]'_ = c; simpa using hc
 have := decode_ascii ⟨l.toArray⟩ i hsz (by rw [hg]; exact hl c (List.mem_of_getElem? h))
 rw [this,hg]
def wordsOf (c : Int) : Int := if c = 0 then 4 else if c = 1 then 8 else if c = 2 then 16 else if c = 3 then 32 else 0
def slotsOf (c : Int) : Nat := if c = 0 then 8 else if c = 1 then 4 else if c = 2 then 2 else if c = 3 then 1 else 0
theorem words_lx (c w : Int) (hw : w = wordsOf c) : CallF (fun _ => Tryz.prog) 68 [i6 c] [] 0 (fun r h n => r = .p (.int .i64 (.sym w)) ∧ h = [] ∧ n = 0) := by
 obtain ⟨Z,hZ⟩ : ∃ Z : List UInt8,Z = [4,8,16,32] := ⟨_,rfl⟩
 refine callF_of_body tok Tryz.func68 (by kernel_rfl) rfl rfl rfl ?_; conv => cbv
 refine LoopF.mk (fun k s => ∃ pos : Int,s = ⟨.p (.int .i64 (.sym c)) :: .undef :: .undef :: .undef :: .undef :: .ptr 0 (.lit 0) :: undefs 9,[(0,.iter (fun _ => ⟨#[4,8,16,32]⟩) (.sym pos))],1⟩ ∧ 0 ≤ pos ∧ pos ≤ 4 ∧ (c < 0 ∨ pos ≤ c) ∧ k = (4 - pos).toNat) 4 _
  (Re.at [(0,0)] []) ⟨0,rfl,by omega,by omega,by omega,by omega⟩ ?_
 rintro k s ⟨pos,rfl,h0,h4,hno,hk⟩
 conv => cbv
 by_cases hend : pos = 4
 ·have hw0 : w = 0 := by
   rw [hw,wordsOf,if_neg (by omega),if_neg (by omega),if_neg (by omega),if_neg (by omega)]
  refine NextS.over (by show (4 : Int) ≤ pos; omega) ?_
  conv => cbv
  refine RetF.mk [i6 w] [] 0 (Re.at [] []) rfl ⟨rfl,rfl,rfl⟩
 ·obtain ⟨x,hx⟩ : ∃ x,([4,8,16,32] : List UInt8)[pos.toNat]? = some x := ⟨_,List.getElem?_eq_getElem (by simp; omega)⟩
  have hd := dec_at [4,8,16,32] (by decide) pos.toNat x hx
  have hxw : c = pos → (x.toNat : Int) = w := by
   intro e
   have : pos = 0 ∨ pos = 1 ∨ pos = 2 ∨ pos = 3 := by omega
   rcases this with e2 | e2 | e2 | e2 <;> (rw [e2] at hx; rw [hw,e,e2]; have hx := Option.some.inj hx; rw [← hx]; decide)
  refine NextS.more (by show pos < (4 : Int); omega) ?_
  intro r p' hr hp
  have hr : r = (x.toNat : Int) := by
   have : r = ((Utf8.decode ⟨#[4,8,16,32]⟩ pos.toNat).1 : Int) := hr
   rw [this,hd]
  have hp : p' = pos + 1 := by
   have : p' = pos + ((Utf8.decode ⟨#[4,8,16,32]⟩ pos.toNat).2 : Int) := hp
   rw [this,hd]; rfl
  have hx256 : x.toNat < 256 := x.toNat_lt
  obtain ⟨k',rfl⟩ : ∃ k',k = k' + 1 := ⟨k - 1,by omega⟩
  conv => cbv
  refine Br.mk (fun g => ?_) (fun g => ?_)
  ·have g : pos = c := g
   conv => cbv
   refine Fit.mk (by show (-9223372036854775808 : Int) ≤ r; omega) (by show r ≤ 9223372036854775807; omega) fun q hq => ?_
   have hq : q = r := hq
   have hqw : q = w := by rw [hq,hr]; exact hxw g.symm
   conv => cbv
   refine RetF.mk [i6 w] [] 0 (Re.at [] []) rfl ⟨rfl,rfl,rfl⟩
  ·have g : ¬ pos = c := g
   conv => cbv
   refine Again.mk k' _ (Nat.lt_succ_self _) (Re.at [(0,0)] []) ⟨p',rfl,by omega,by omega,by omega,by omega⟩
def mkB (l : List Bool) : List UInt8 := l.map fun b => if b then 120 else 46
theorem mkB_low (l : List Bool) : ∀ c ∈ mkB l,c.toNat < 128 := by
 intro c hc
 obtain ⟨b,_,rfl⟩ := List.mem_map.1 hc
 cases b <;> decide
theorem mk_size (l : List UInt8) : (ByteArray.mk l.toArray).size = l.length := by show l.toArray.size = _; simp
theorem mkB_length (l : List Bool) : (mkB l).length = l.length := List.length_map _
theorem firstUnused_lx (l : List Bool) (z : ByteArray) (hz : z = ⟨(mkB l).toArray⟩) (hl : l.length ≤ 100) : CallF (fun _ => Tryz.prog) 179 [.p (.str fun _ => z)] [] 0
  (fun r h n => (∃ (v : Int) (b : Bool),r = .tup [i6 v,.p (.bool b)] ∧ ((b = true ∧ ∃ i : Nat,v = i ∧ l[i]? = some false ∧ ∀ j,j < i → l[j]? = some true) ∨ (b = false ∧ v = 0 ∧ false ∉ l))) ∧ h = [] ∧ n = 0) := by
 refine callF_of_body tok Tryz.func179 (by kernel_rfl) rfl rfl rfl ?_; conv => cbv
 obtain ⟨N,hN⟩ : ∃ N : Int,N = l.length := ⟨_,rfl⟩
 refine LoopF.mk (fun k s => ∃ (pos : Int),s = ⟨.p (.str fun _ => z) :: .undef :: .undef :: .undef :: .undef :: .undef :: .undef :: .ptr 0 (.lit 0) :: undefs 7,[(0,.iter (fun _ => z) (.sym pos))],1⟩ ∧ 0 ≤ pos ∧ pos ≤ N ∧ (∀ j : Nat,(j : Int) < pos → l[j]? = some true) ∧ k = (N - pos).toNat) N.toNat _
  (Re.at [(0,0)] []) ⟨0,rfl,by omega,by omega,fun j hj => absurd hj (by omega),by omega⟩ ?_
 rintro k s ⟨pos,rfl,h0,h1,hinv,hk⟩
 have hzs : (z.size : Int) = N := by rw [hz,mk_size,mkB_length,hN]
 conv => cbv
 by_cases hend : pos = N
 ·refine NextS.over (by show (z.size : Int) ≤ pos; omega) ?_
  conv => cbv
  refine RetF.mk [i6 0,.p (.bool false)] [] 0 (Re.at [] []) rfl ⟨⟨0,false,rfl,.inr ⟨rfl,rfl,fun h => ?_⟩⟩,rfl,rfl⟩
  obtain ⟨j,hj⟩ := List.getElem?_of_mem h
  have := (List.getElem?_eq_some_iff.1 hj).1
  rw [hinv j (by omega)] at hj
  cases hj
 ·obtain ⟨b,hb⟩ : ∃ b,l[pos.toNat]? = some b := ⟨_,List.getElem?_eq_getElem (by omega)⟩
  have hx : (mkB l)[pos.toNat]? = some (if b then 120 else 46) := by rw [mkB,List.getElem?_map,hb]; rfl
  have hd := dec_at (mkB l) (mkB_low l) pos.toNat _ hx
  rw [← hz] at hd
  refine NextS.more (by show pos < (z.size : Int); omega) ?_
  intro r p' hr hp
  have hr : r = (if b then 120 else 46) := by
   have : r = ((Utf8.decode z pos.toNat).1 : Int) := hr
   rw [this,hd]; cases b <;> rfl
  have hp : p' = pos + 1 := by
   have : p' = pos + ((Utf8.decode z pos.toNat).2 : Int) := hp
   rw [this,hd]; rfl
  obtain ⟨k',rfl⟩ : ∃ k',k = k' + 1 := ⟨k - 1,by omega⟩
  conv => cbv
  refine Br.mk (fun g => ?_) (fun g => ?_)
  ·have g : r = 46 := g
   have hbf : b = false := by
    cases b with
    | false => rfl
    | true => simp at hr; omega
   conv => cbv
   refine RetF.mk [i6 pos,.p (.bool true)] [] 0 (Re.at [] []) rfl ⟨⟨pos,true,rfl,.inl ⟨rfl,pos.toNat,(Int.toNat_of_nonneg h0).symm,by rw [hb,hbf],fun j hj => hinv j (by omega)⟩⟩,rfl,rfl⟩
  ·have g : ¬ r = 46 := g
   have hbt : b = true := by
    cases b with
    | true => rfl
    | false => simp at hr; omega
   have hinv2 : ∀ j : Nat,(j : Int) < p' → l[j]? = some true := fun j hj => by
    by_cases e : (j : Int) = pos
    ·rw [show j = pos.toNat by omega,hb,hbt]
    ·exact hinv j (by omega)
   conv => cbv
   refine Again.mk k' _ (Nat.lt_succ_self _) (Re.at [(0,0)] []) ⟨p',rfl,by omega,by omega,hinv2,by omega⟩
theorem countUsed_lx (l : List Bool) (z : ByteArray) (hz : z = ⟨(mkB l).toArray⟩) (hl : l.length ≤ 100) : CallF (fun _ => Tryz.prog) 176 [.p (.str fun _ => z)] [] 0
  (fun r h n => (∃ v : Int,r = .p (.int .i64 (.sym v)) ∧ v = l.count true) ∧ h = [] ∧ n = 0) := by
 refine callF_of_body tok Tryz.func176 (by kernel_rfl) rfl rfl rfl ?_; conv => cbv
 obtain ⟨N,hN⟩ : ∃ N : Int,N = l.length := ⟨_,rfl⟩
 refine LoopF.mk (fun k s => ∃ (pos cnt : Int),s = ⟨.p (.str fun _ => z) :: .undef :: .undef :: .p (.int .i64 (.sym cnt)) :: .undef :: .undef :: .undef :: .ptr 0 (.lit 0) :: undefs 8,[(0,.iter (fun _ => z) (.sym pos))],1⟩ ∧ 0 ≤ pos ∧ pos ≤ N ∧ cnt = (l.take pos.toNat).count true ∧ k = (N - pos).toNat) N.toNat _
  (Re.at [(0,0)] []) ⟨0,0,rfl,by omega,by omega,by simp,by omega⟩ ?_
 rintro k s ⟨pos,cnt,rfl,h0,h1,hinv,hk⟩
 have hzs : (z.size : Int) = N := by rw [hz,mk_size,mkB_length,hN]
 conv => cbv
 by_cases hend : pos = N
 ·refine NextS.over (by show (z.size : Int) ≤ pos; omega) ?_
  conv => cbv
  refine RetF.mk [i6 cnt] [] 0 (Re.at [] []) rfl ⟨⟨cnt,rfl,?_⟩,rfl,rfl⟩
  rw [hinv,List.take_of_length_le (by omega)]
 ·obtain ⟨b,hb⟩ : ∃ b,l[pos.toNat]? = some b := ⟨_,List.getElem?_eq_getElem (by omega)⟩
  have hx : (mkB l)[pos.toNat]? = some (if b then 120 else 46) := by rw [mkB,List.getElem?_map,hb]; rfl
  have hd := dec_at (mkB l) (mkB_low l) pos.toNat _ hx
  rw [← hz] at hd
  refine NextS.more (by show pos < (z.size : Int); omega) ?_
  intro r p' hr hp
  have hr : r = (if b then 120 else 46) := by
   have : r = ((Utf8.decode z pos.toNat).1 : Int) := hr
   rw [this,hd]; cases b <;> rfl
  have hp : p' = pos + 1 := by
   have : p' = pos + ((Utf8.decode z pos.toNat).2 : Int) := hp
   rw [this,hd]; rfl
  obtain ⟨k',rfl⟩ : ∃ k',k = k' + 1 := ⟨k - 1,by omega⟩
  conv => cbv
  refine Br.mk (fun g => ?_) (fun g => ?_)
  ·have g : r = 120 := g
   have hbt : b = true := by
    cases b with
    | true => rfl
    | false => simp at hr; omega
   have hcl := List.count_le_length (a := true) (l := l.take pos.toNat)
   have htl : (l.take pos.toNat).length ≤ 100 := by rw [List.length_take]; omega
   conv => cbv
   refine Fit.mk (by show (-9223372036854775808 : Int) ≤ cnt + 1; omega) (by show cnt + 1 ≤ 9223372036854775807; omega) fun c2 hc2 => ?_
   have hc2 : c2 = cnt + 1 := hc2
   have q : c2 = (l.take p'.toNat).count true := by
    rw [show p'.toNat = pos.toNat + 1 by omega,List.take_add_one,hb,hbt,List.count_append,hc2,hinv]; simp
   conv => cbv
   refine Again.mk k' _ (Nat.lt_succ_self _) (Re.at [(0,0)] []) ⟨p',c2,rfl,by omega,by omega,q,by omega⟩
  ·have g : ¬ r = 120 := g
   have hbf : b = false := by
    cases b with
    | false => rfl
    | true => simp at hr; omega
   have q : cnt = (l.take p'.toNat).count true := by
    rw [show p'.toNat = pos.toNat + 1 by omega,List.take_add_one,hb,hbf,List.count_append,hinv]; simp
   conv => cbv
   refine Again.mk k' _ (Nat.lt_succ_self _) (Re.at [(0,0)] []) ⟨p',cnt,rfl,by omega,by omega,q,by omega⟩
theorem slots_lx (c k : Int) (hk : k = slotsOf c) : CallF (fun _ => Tryz.prog) 66 [i6 c] [] 0 (fun r h n => r = .p (.int .i64 (.sym k)) ∧ h = [] ∧ n = 0) := by
 obtain ⟨w,hw⟩ : ∃ w,w = wordsOf c := ⟨_,rfl⟩
 refine callF_of_body tok Tryz.func66 (by kernel_rfl) rfl rfl rfl ?_; conv => cbv
 refine callF_frame (words_lx c w hw) [] rfl trivial rfl rfl (fun r h' n' ⟨e1,e2,e3⟩ => ?_)
 subst e1 e2 e3
 conv => cbv
 have hk2 : k = (if w = 0 then 0 else (32 : Int).tdiv w) := by
  rw [hk,hw,slotsOf,wordsOf]
  by_cases h0 : c = 0
  ·rw [if_pos h0,if_pos h0]; rfl
  ·by_cases h1 : c = 1
   ·rw [if_neg h0,if_pos h1,if_neg h0,if_pos h1]; rfl
   ·by_cases h2 : c = 2
    ·rw [if_neg h0,if_neg h1,if_pos h2,if_neg h0,if_neg h1,if_pos h2]; rfl
    ·by_cases h3 : c = 3
     ·rw [if_neg h0,if_neg h1,if_neg h2,if_pos h3,if_neg h0,if_neg h1,if_neg h2,if_pos h3]; rfl
     ·rw [if_neg h0,if_neg h1,if_neg h2,if_neg h3,if_neg h0,if_neg h1,if_neg h2,if_neg h3]; rfl
 have hk8 : 0 ≤ k ∧ k ≤ 8 := by
  rw [hk]; unfold slotsOf; split
  ·omega
  ·split
   ·omega
   ·split
    ·omega
    ·split <;> omega
 refine Br.mk (fun g => ?_) (fun g => ?_)
 ·have g : w = 0 := g
  rw [if_pos g] at hk2
  conv => cbv
  refine RetF.mk [i6 k] [] 0 (Re.at [] []) rfl ⟨rfl,rfl,rfl⟩
 ·have g : ¬ w = 0 := g
  rw [if_neg g] at hk2
  conv => cbv
  refine Need.mk (show w ≠ 0 from g) ?_
  conv => cbv
  refine Fit.mk (by show (-9223372036854775808 : Int) ≤ Int.tdiv 32 w; omega) (by show Int.tdiv 32 w ≤ 9223372036854775807; omega) fun q hq => ?_
  have hq : q = Int.tdiv 32 w := hq
  have hqk : q = k := by rw [hq,hk2]
  conv => cbv
  refine RetF.mk [i6 k] [] 0 (Re.at [] []) rfl ⟨rfl,rfl,rfl⟩
end Go.Proofs.YtjfdfbpgckilpaaGreatDoor
namespace Go.Proofs.YtjfdfbpgckilpaaGreatDoor
open Go Go.LX
set_option maxRecDepth 100000
set_option linter.unusedVariables false
set_option linter.unusedSimpArgs false
set_option maxHeartbeats 32000000
abbrev Rw := Int × List Bool
def rpv : List Rw → List PV
 | [] => []
 | (c,l) :: R => .int .i64 (.sym c) :: .str (fun _ => ⟨(mkB l).toArray⟩) :: rpv R
theorem rpv_length : ∀ R : List Rw,(rpv R).length = 2 * R.length
 | [] => rfl
 | (c,l) :: R => by simp [rpv,rpv_length R]; omega
theorem rpv_get : ∀ (R : List Rw) (i : Nat) (e : Rw),R[i]? = some e → (rpv R)[2 * i]? = some (.int .i64 (.sym e.1)) ∧ (rpv R)[2 * i + 1]? = some (.str fun _ => ⟨(mkB e.2).toArray⟩)
 | [],i,e,h => by simp at h
 | (c,l) :: R,0,e,h => by simp at h; subst h; exact ⟨rfl,rfl⟩
 | (c,l) :: R,i + 1,e,h => by
  have := rpv_get R i e (by simpa using h)
  rw [show 2 * (i + 1) = 2 * i + 1 + 1 by omega]
  simpa [rpv] using this
theorem repeatL_dot : ∀ k,Lib.repeatL [46] k = mkB (List.replicate k false)
 | 0 => rfl
 | k + 1 => by rw [Lib.repeatL,repeatL_dot k,List.replicate_succ]; rfl
theorem repeat_lx (k : Nat) (z : ByteArray) (hz : z = ⟨(mkB (List.replicate k false)).toArray⟩) (hk : k ≤ 100) :
  CallF (fun _ => Tryz.prog) 226 [.p (.str fun _ => ⟨#[46]⟩),i6 k] [] 0 (fun r h n => r = .p (.str fun _ => z) ∧ h = [] ∧ n = 0) := by
 refine callF_calls (K := fun r => r = .p (.str fun _ => z)) ⟨_,_,Tryz.func226,by kernel_rfl,rfl⟩ fun c w xs hr hN hl hrel => ?_
 have h0 := hrel 0 _ rfl
 have h1 := hrel 1 _ rfl
 obtain ⟨x,y,rfl⟩ : ∃ x y,xs = #[x,y] := by
  rcases xs with ⟨l⟩
  match l,hl with
  | [x,y],_ => exact ⟨x,y,rfl⟩
 have hx : x = .string ⟨#[46]⟩ := LR.inv_str h0
 have hy : y = .int .i64 k := LR.inv_int h1
 subst hx hy
 refine (Tryz.strings_Repeat ⟨#[46]⟩ k w (by omega) (by show 1 * k ≤ _; omega)).mono fun e w' ⟨he,hw⟩ => ?_
 have hzz : (⟨(Lib.repeatL [46] k).toArray⟩ : ByteArray) = z := by rw [hz,repeatL_dot]
 have he : e = .returned (.string ⟨(Lib.repeatL [46] k).toArray⟩) := he
 rw [hzz] at he
 exact ⟨_,_,he,rfl,hw,fun c' => .p _ _ (.str _)⟩
theorem unusedRow_lx (c : Int) (z : ByteArray) (hz : z = ⟨(mkB (List.replicate (slotsOf c) false)).toArray⟩) : CallF (fun _ => Tryz.prog) 178 [i6 c] [] 0 (fun r h n => r = .agg [i6 c,.p (.str fun _ => z)] ∧ h = [] ∧ n = 0) := by
 obtain ⟨k,hk⟩ : ∃ k : Int,k = slotsOf c := ⟨_,rfl⟩
 have hk8 : slotsOf c ≤ 8 := by
  unfold slotsOf; split
  ·omega
  ·split
   ·omega
   ·split
    ·omega
    ·split <;> omega
 refine callF_of_body tok Tryz.func178 (by kernel_rfl) rfl rfl rfl ?_; conv => cbv
 refine callF_frame (slots_lx c k hk) [] rfl trivial rfl rfl (fun r h' n' ⟨e1,e2,e3⟩ => ?_)
 subst e1 e2 e3
 obtain ⟨q,hq⟩ : ∃ q,q = slotsOf c := ⟨_,rfl⟩
 rw [← hq] at hk hk8 hz
 subst hk
 conv => cbv
 refine callF_frame (repeat_lx q z hz (by omega)) [] rfl trivial rfl rfl (fun r h' n' ⟨e1,e2,e3⟩ => ?_)
 subst e1 e2 e3
 conv => cbv
 refine RetF.mk [.agg [i6 c,.p (.str fun _ => z)]] [] 0 (Re.at [] []) rfl ⟨rfl,rfl,rfl⟩
theorem rpv_zero : ∀ k,pvles (repsP [.int .i64 (.lit 0),.str fun _ => ⟨#[]⟩] k) (rpv (List.replicate k (0,[])))
 | 0 => trivial
 | k + 1 => by
  rw [repsP,List.replicate_succ,rpv]
  exact ⟨by simp [pvle,I.val],SEq.mk rfl,rpv_zero k⟩
theorem spanNew_lx (n : Int) (h2 : 2 ≤ n) (h8 : n ≤ 128) (L : List PV) (hL : L = rpv (List.replicate n.toNat (0,[]))) : CallF (fun _ => Tryz.prog) 116 [i6 n] [] 0
  (fun r h m => r = .tup [.ptr 0 (.lit 0),.p (.int .i64 (.lit 0))] ∧ h = [hpC 0 1 179 2 n,hpP 1 L] ∧ m = 2) := by
 refine callF_of_body tok Tryz.func116 (by kernel_rfl) rfl rfl rfl ?_; conv => cbv
 refine Br.mk (fun g1 => ?_) (fun g1 => ?_)
 ·have gf : False := by have g1 : n < 2 := g1; omega
  cases gf
 ·conv => cbv
  refine Br.mk (fun g2 => ?_) (fun g2 => ?_)
  ·have gf : False := by have g2 : 128 < n := g2; omega
   cases gf
  ·conv => cbv
   refine Need.mk ⟨by show 0 ≤ n; omega,Int.le_refl _,by show n * 24 ≤ 140737488355328; omega,by show n ≤ 9223372036854775807; omega⟩ ?_
   conv => cbv
   refine Upd.mk fun L0 hL0 => ?_
   have hle : pvles L0 L := by
    have hL0 : L0 = repsP [.int .i64 (.lit 0),.str fun _ => ⟨#[]⟩] n.toNat := hL0
    rw [hL0,hL]; exact rpv_zero _
   clear hL0 hL
   unfold pvles at hle
   conv => cbv
   refine RetF.mk [.ptr 0 (.lit 0),.p (.int .i64 (.lit 0))] [hpC 0 1 179 2 n,hpP 1 L] 2 (Re.at [(1,0),(0,1)] []) rfl ⟨rfl,rfl,rfl⟩
theorem rpv_upd : ∀ (R : List Rw) (i : Nat) (c : Int) (l l2 : List Bool),R[i]? = some (c,l) → updL (rpv R) (2 * i + 1) [.str fun _ => ⟨(mkB l2).toArray⟩] = rpv (R.set i (c,l2))
 | [],i,c,l,l2,h => by simp at h
 | (c1,l1) :: R,0,c,l,l2,h => by
  simp at h
  obtain ⟨rfl,rfl⟩ := h
  rfl
 | (c1,l1) :: R,i + 1,c,l,l2,h => by
  have ih := rpv_upd R i c l l2 (by simpa using h)
  simp only [updL] at ih ⊢
  rw [List.set_cons_succ,rpv,rpv,← ih,show 2 * (i + 1) + 1 = 2 * i + 1 + 1 + 1 by omega,List.set_cons_succ,List.set_cons_succ]
theorem mark_lx (R : List Rw) (n i j sg cl : Int) (l : List Bool) (L : List PV) (hL : L = rpv R) (hn : n = R.length) (hi0 : 0 ≤ i) (hi : R[i.toNat]? = some (cl,l)) (hll : l.length ≤ 8) (hR : R.length ≤ 1000) (b : Bool) (hs : sg = if b then 120 else 46) :
  CallF (fun _ => Tryz.prog) 175 [.ptr 0 (.lit 0),i6 i,i6 j,.p (.int .i32 (.sym sg))] [hpC 0 1 179 2 n,hpP 1 L] 2
   (fun r h n' => ∃ L' : List PV,r = .tup [] ∧ h = [hpC 0 1 179 2 n,hpP 1 L'] ∧ n' = 2 ∧ L' = rpv (R.set i.toNat (cl,if 0 ≤ j then l.set j.toNat b else l))) := by
 have hiR : i.toNat < R.length := (List.getElem?_eq_some_iff.1 hi).1
 obtain ⟨y,hy⟩ : ∃ y : ByteArray,y = ⟨(mkB l).toArray⟩ := ⟨_,rfl⟩
 obtain ⟨c1,c2⟩ := rpv_get R i.toNat _ hi
 dsimp only at c1 c2
 rw [← hL] at c1 c2
 rw [← hy] at c2
 refine callF_of_body tok Tryz.func175 (by kernel_rfl) rfl rfl rfl ?_; conv => cbv
 refine Need.mk ⟨hi0,by show i < n; omega⟩ ?_
 conv => cbv
 refine Sum.mk fun w hw => ?_
 have hw : w = i * 2 := hw
 conv => cbv
 refine Sum.mk fun a ha => ?_
 have ha : a = w + 1 := ha
 conv => cbv
 refine Cell.at a _ c2 (by simp [I.val]) (by omega) ?_
 conv => cbv
 obtain ⟨l2,hl2⟩ : ∃ l2,l2 = (if 0 ≤ j then l.set j.toNat b else l) := ⟨_,rfl⟩
 have hl2l : l2.length = l.length := by rw [hl2]; split <;> simp
 obtain ⟨N,hN⟩ : ∃ N : Int,N = l.length := ⟨_,rfl⟩
 have hys : (y.size : Int) = N := by rw [hy,mk_size,mkB_length,hN]
 have hsg : 0 ≤ sg ∧ sg ≤ 127 ∧ sg.toNat.toUInt8 = (if b then 120 else 46) := by cases b <;> simp at hs <;> subst hs <;> decide
 refine LoopF.mk (fun k s => ∃ (pos q : Int) (M : List PV) (t : ByteArray),s = ⟨.ptr 0 (.lit 0) :: .p (.int .i64 (.sym i)) :: .p (.int .i64 (.sym j)) :: .p (.int .i32 (.sym sg)) :: (undefs 4 ++ .ptr 2 (.lit 0) :: (undefs 10 ++ .ptr 3 (.lit 0) :: undefs 18)),[(3,.iter (fun _ => y) (.sym pos)),(2,.bld 269 [.sl 4 5 1 (.lit 0) (.sym q)]),hpP 4 M,hpC 0 1 179 2 n,hpP 1 L],5⟩ ∧ 0 ≤ pos ∧ pos ≤ N ∧ M = bytesPV t ∧ q = t.size ∧ t = ⟨(mkB (l2.take pos.toNat)).toArray⟩ ∧ k = (N - pos).toNat) N.toNat _
  (Re.at [(0,0),(1,1),(2,2),(3,3)] [4]) ⟨0,0,[],⟨#[]⟩,rfl,by omega,by omega,rfl,rfl,rfl,by omega⟩ ?_
 rintro k s ⟨pos,q,M,t,rfl,h0,h1,hM,hq,ht,hk⟩
 have hts : t.size ≤ 8 := by rw [ht,mk_size,mkB_length,List.length_take]; omega
 conv => cbv
 by_cases hend : pos = N
 ·refine NextS.over (by show (y.size : Int) ≤ pos; omega) ?_
  conv => cbv
  refine drawn_sound tok (by kernel_rfl) [(5,[4,3,2,1,0]),(8,[])] [0,1,2,3,4,5,6,7,8] (by kernel_rfl) ?_; conv => cbv
  refine cfr (string_lx q M t hM hq) [(0,2),(1,4)] (fun r h' n' ⟨e1,e2,e3⟩ => ?_)
  subst e1 e2 e3
  conv => cbv
  refine Need.mk ⟨hi0,by show i < n; omega⟩ ?_
  conv => cbv
  refine Sum.mk fun w2 hw2 => ?_
  have hw2 : w2 = i * 2 := hw2
  conv => cbv
  refine Sum.mk fun a2 ha2 => ?_
  have ha2 : a2 = w2 + 1 := ha2
  have hLl : L.length = 2 * R.length := by rw [hL,rpv_length]
  conv => cbv
  refine Need.mk (by show a2 + ((1 : Nat) : Int) ≤ (L.length : Int); omega) ?_
  conv => cbv
  refine Upd.mk fun L2 hL2 => ?_
  have hL2 : L2 = updL L a2.toNat [.str fun _ => t] := hL2
  have q1 : L2 = rpv (R.set i.toNat (cl,l2)) := by
   have ht2 : t = ⟨(mkB l2).toArray⟩ := by rw [ht,List.take_of_length_le (by omega)]
   rw [hL2,hL,show a2.toNat = 2 * i.toNat + 1 by omega,ht2]
   exact rpv_upd R i.toNat cl l l2 hi
  rw [hl2] at q1
  clear hL2
  conv => cbv
  refine RetF.mk [] [hpC 0 1 179 2 n,hpP 1 L2] 2 (Re.at [(0,0),(1,1)] []) rfl ⟨L2,rfl,rfl,rfl,q1⟩
 ·obtain ⟨x,hb⟩ : ∃ x,l[pos.toNat]? = some x := ⟨_,List.getElem?_eq_getElem (by omega)⟩
  have hx : (mkB l)[pos.toNat]? = some (if x then 120 else 46) := by rw [mkB,List.getElem?_map,hb]; rfl
  have hd := dec_at (mkB l) (mkB_low l) pos.toNat _ hx
  rw [← hy] at hd
  refine NextS.more (by show pos < (y.size : Int); omega) ?_
  intro r p' hr hp
  have hr : r = (if x then 120 else 46) := by
   have : r = ((Utf8.decode y pos.toNat).1 : Int) := hr
   rw [this,hd]; cases x <;> rfl
  have hp : p' = pos + 1 := by
   have : p' = pos + ((Utf8.decode y pos.toNat).2 : Int) := hp
   rw [this,hd]; rfl
  have hrg : 0 ≤ r ∧ r ≤ 127 ∧ r.toNat.toUInt8 = (if x then 120 else 46) := by cases x <;> simp at hr <;> subst hr <;> decide
  have hnx : ∀ (v : Bool),l2[pos.toNat]? = some v → t ++ ⟨#[if v then 120 else 46]⟩ = ⟨(mkB (l2.take p'.toNat)).toArray⟩ := by
   intro v hv
   rw [show p'.toNat = pos.toNat + 1 by omega,List.take_add_one,hv,ht]
   apply ByteArray.ext
   apply Array.ext'
   simp [ByteArray.data_append,mkB]
  obtain ⟨k',rfl⟩ : ∃ k',k = k' + 1 := ⟨k - 1,by omega⟩
  conv => cbv
  refine Br.mk (fun g => ?_) (fun g => ?_)
  ·have g : pos = j := g
   have hv : l2[pos.toNat]? = some b := by
    rw [hl2,if_pos (by omega),← g,List.getElem?_set_self (by omega)]
   have hn2 := hnx b hv
   rw [← hsg.2.2] at hn2
   conv => cbv
   refine cfr (writeRune_lx q sg M t hM hq hsg.1 hsg.2.1 (by omega)) [(0,2),(1,4)] (fun r h' n' ⟨m2,k2,L2,e1,e2,e3,hL2,hk2⟩ => ?_)
   subst e1 e2 e3
   conv => cbv
   refine Again.mk k' _ (Nat.lt_succ_self _) (Re.at [(0,0),(1,1),(2,2),(3,3),(5,4)] []) ⟨p',k2,L2,_,rfl,by omega,by omega,hL2,hk2,hn2,by omega⟩
  ·have g : ¬ pos = j := g
   have hv : l2[pos.toNat]? = some x := by
    rw [hl2]
    split
    ·rw [List.getElem?_set_ne (by omega)]; exact hb
    ·exact hb
   have hn2 := hnx x hv
   rw [← hrg.2.2] at hn2
   conv => cbv
   refine cfr (writeRune_lx q r M t hM hq hrg.1 hrg.2.1 (by omega)) [(0,2),(1,4)] (fun r h' n' ⟨m2,k2,L2,e1,e2,e3,hL2,hk2⟩ => ?_)
   subst e1 e2 e3
   conv => cbv
   refine Again.mk k' _ (Nat.lt_succ_self _) (Re.at [(0,0),(1,1),(2,2),(3,3),(5,4)] []) ⟨p',k2,L2,_,rfl,by omega,by omega,hL2,hk2,hn2,by omega⟩
theorem rpv_upd2 : ∀ (R : List Rw) (i : Nat) (c : Int) (l2 : List Bool) (z : ByteArray),z = ⟨(mkB l2).toArray⟩ → i < R.length → updL (rpv R) (2 * i) [.int .i64 (.sym c),.str fun _ => z] = rpv (R.set i (c,l2))
 | [],i,c,l2,z,_,h => by simp at h
 | (c1,l1) :: R,0,c,l2,z,hz,_ => by subst hz; rfl
 | (c1,l1) :: R,i + 1,c,l2,z,hz,h => by
  have ih := rpv_upd2 R i c l2 z hz (by simpa using h)
  simp only [updL] at ih ⊢
  rw [List.set_cons_succ,rpv,rpv,← ih]
  rfl
inductive Alloced (R : List Rw) (c : Int) : Int → Int → Bool → List Rw → Prop
 | no (h : slotsOf c = 0) : Alloced R c 0 0 false R
 | old (i s : Nat) (l : List Bool) (h0 : slotsOf c ≠ 0) (hi : R[i]? = some (c,l)) (hs : l[s]? = some false) (h1 : ∀ j,j < s → l[j]? = some true) (h2 : ∀ (j : Nat),j < i → ∀ (m : List Bool),R[j]? = some (c,m) → false ∉ m) : Alloced R c i s true (R.set i (c,l.set s true))
 | fresh (i : Nat) (d : Int) (h0 : slotsOf c ≠ 0) (h2 : ∀ (j : Nat) (m : List Bool),R[j]? = some (c,m) → false ∉ m) (hi : R[i]? = some (d,[])) (h3 : ∀ (j : Nat),j < i → ∀ (d' : Int),R[j]? ≠ some (d',[])) : Alloced R c i 0 true (R.set i (c,(List.replicate (slotsOf c) false).set 0 true))
 | full (h0 : slotsOf c ≠ 0) (h2 : ∀ (j : Nat) (m : List Bool),R[j]? = some (c,m) → false ∉ m) (h3 : ∀ (j : Nat) (d' : Int),R[j]? ≠ some (d',[])) : Alloced R c 0 0 false R
theorem mkB_nil (l : List Bool) : (⟨(mkB l).toArray⟩ : ByteArray) = ⟨#[]⟩ ↔ l = [] := by
 constructor
 ·intro h
  have h2 : (mkB l).toArray = #[] := congrArg ByteArray.data h
  have h3 : mkB l = [] := by simpa using h2
  exact List.map_eq_nil_iff.1 h3
 ·rintro rfl; rfl
theorem alloc_lx (R : List Rw) (n c : Int) (L : List PV) (hL : L = rpv R) (hn : n = R.length) (hR : R.length ≤ 1000) (hm : ∀ e ∈ R,e.2.length ≤ 8) :
  CallF (fun _ => Tryz.prog) 119 [.ptr 0 (.lit 0),i6 c] [hpC 0 1 179 2 n,hpP 1 L] 2
   (fun r h n' => ∃ (i s : Int) (b : Bool) (L' : List PV) (R' : List Rw),r = .tup [i6 i,i6 s,.p (.bool b)] ∧ h = [hpC 0 1 179 2 n,hpP 1 L'] ∧ n' = 2 ∧ L' = rpv R' ∧ Alloced R c i s b R') := by
 obtain ⟨z,hz⟩ : ∃ z : ByteArray,z = ⟨(mkB (List.replicate (slotsOf c) false)).toArray⟩ := ⟨_,rfl⟩
 have hz0 : z = ⟨#[]⟩ ↔ slotsOf c = 0 := by rw [hz,mkB_nil]; simp
 refine callF_of_body tok Tryz.func119 (by kernel_rfl) rfl rfl rfl ?_; conv => cbv
 refine callF_frame (unusedRow_lx c z hz) [] rfl trivial rfl rfl (fun r h' n' ⟨e1,e2,e3⟩ => ?_)
 subst e1 e2 e3
 conv => cbv
 refine Br.mk (fun g => ?_) (fun g => ?_)
 ·have h0 := hz0.1 g
  conv => cbv
  refine RetF.mk [i6 0,i6 0,.p (.bool false)] [hpC 0 1 179 2 n,hpP 1 L] 2 (Re.at [(0,0),(1,1)] []) rfl ⟨0,0,false,L,R,rfl,rfl,rfl,hL,.no h0⟩
 ·have h0 : slotsOf c ≠ 0 := fun h => g (hz0.2 h)
  conv => cbv
  refine LoopF.mk (fun k s => ∃ i : Int,s = ⟨.ptr 0 (.lit 0) :: .p (.int .i64 (.sym c)) :: (undefs 5 ++ .ptr 2 (.lit 0) :: (undefs 18 ++ .sl 1 179 2 (.lit 0) (.sym n) :: .p (.int .i64 (.sym n)) :: .p (.int .i64 (.sym i)) :: undefs 49)),[(2,.pure false [.int .i64 (.sym c),.str fun _ => z]),hpC 0 1 179 2 n,hpP 1 L],3⟩ ∧ 0 ≤ i ∧ i ≤ n ∧ (∀ (j : Nat),(j : Int) < i → ∀ (m : List Bool),R[j]? = some (c,m) → false ∉ m) ∧ k = (n - i).toNat) n.toNat _
   (Re.at [(0,0),(1,1),(2,2)] []) ⟨0,rfl,by omega,by omega,fun j hj => absurd hj (by omega),by omega⟩ ?_
  rintro k s ⟨i,rfl,hi0,hi1,hno,hk⟩
  conv => cbv
  refine Br.mk (fun gi => ?_) (fun gi => ?_)
  ·have gi : i < n := gi
   obtain ⟨⟨d,m⟩,he⟩ : ∃ e,R[i.toNat]? = some e := ⟨_,List.getElem?_eq_getElem (by omega)⟩
   have hml : m.length ≤ 8 := hm _ (List.mem_of_getElem? he)
   obtain ⟨y,hy⟩ : ∃ y : ByteArray,y = ⟨(mkB m).toArray⟩ := ⟨_,rfl⟩
   obtain ⟨c1,c2⟩ := rpv_get R i.toNat _ he
   dsimp only at c1 c2
   rw [← hL] at c1 c2
   rw [← hy] at c2
   obtain ⟨k',rfl⟩ : ∃ k',k = k' + 1 := ⟨k - 1,by omega⟩
   conv => cbv
   refine Need.mk ⟨hi0,gi⟩ ?_
   conv => cbv
   refine Sum.mk fun w hw => ?_
   have hw : w = i * 2 := hw
   conv => cbv
   refine Cell.at (w + 0) _ c1 rfl (by omega) ?_
   conv => cbv
   refine Cell.at (w + 1) _ c2 rfl (by omega) ?_
   conv => cbv
   refine callF_val (firstUnused_lx m y hy (by omega)) (by simp [ales,ale,renVs,renV,pvle_refl]) rfl (fun r ⟨v,b,hr,_⟩ => by subst hr; rfl) (fun r hrr => ?_)
   obtain ⟨v,b,hr,hb⟩ := hrr
   subst hr
   cases b with
   | true =>
    obtain ⟨q,hv,hq,hq2⟩ : ∃ q : Nat,v = q ∧ m[q]? = some false ∧ ∀ j,j < q → m[j]? = some true := by
     rcases hb with ⟨_,h⟩ | ⟨h,_⟩
     ·exact h
     ·cases h
    clear hb
    conv => cbv
    refine Br.mk (fun gd => ?_) (fun gd => ?_)
    ·have gd : d = c := gd
     obtain ⟨L9,hL9⟩ : ∃ L9,L9 = rpv (R.set i.toNat (d,if 0 ≤ v then m.set v.toNat true else m)) := ⟨_,rfl⟩
     have hset : (if 0 ≤ v then m.set v.toNat true else m) = m.set q true := by rw [if_pos (by omega),show v.toNat = q by omega]
     rw [hset] at hL9
     have hAl : Alloced R c i v true (R.set i.toNat (d,m.set q true)) := by
      have := Alloced.old (R := R) (c := c) i.toNat q m h0 (gd ▸ he) hq hq2 (fun j hj m' hm' => hno j (by omega) m' hm')
      rw [gd,show i = (i.toNat : Int) by omega,hv]; exact this
     conv => cbv
     refine CallF.le (args0 := [.ptr 0 (.lit 0),i6 i,i6 v,.p (.int .i32 (.sym 120))]) (cfr (mark_lx R n i v 120 d m L hL hn hi0 he hml hR true rfl) [(0,0),(1,1)] (fun r h' n' hrr => ?_)) (by simp [ales,ale,pvle,I.val])
     obtain ⟨L2,e1,e2,e3,hL2⟩ := hrr
     rw [hset] at hL2
     subst e1 e2 e3
     conv => cbv
     refine RetF.mk [i6 i,i6 v,.p (.bool true)] [hpC 0 1 179 2 n,hpP 1 L2] 2 (Re.at [(0,0),(1,1)] []) rfl ⟨i,v,true,L2,_,rfl,rfl,rfl,hL2,hAl⟩
    ·have gd : ¬ d = c := gd
     conv => cbv
     refine Fit.mk (by show (-9223372036854775808 : Int) ≤ i + 1; omega) (by show i + 1 ≤ 9223372036854775807; omega) fun i2 hi2 => ?_
     have hi2 : i2 = i + 1 := hi2
     have hno2 : ∀ (j : Nat),(j : Int) < i2 → ∀ (m : List Bool),R[j]? = some (c,m) → false ∉ m := fun j hj m' hm' => by
      by_cases e : (j : Int) = i
      ·rw [show j = i.toNat by omega,he] at hm'
       have hm' := Option.some.inj hm'
       exact absurd (congrArg Prod.fst hm') gd
      ·exact hno j (by omega) m' hm'
     have q1 : 0 ≤ i2 := by omega
     have q2 : i2 ≤ n := by omega
     have q3 : k' = (n - i2).toNat := by omega
     clear hk hi2
     conv => cbv
     refine Again.mk k' _ (Nat.lt_succ_self _) (Re.at [(0,0),(1,1),(2,2)] []) ⟨i2,rfl,q1,q2,hno2,q3⟩
   | false =>
    have hfn : false ∉ m := by
     rcases hb with ⟨h,_⟩ | ⟨_,_,h⟩
     ·cases h
     ·exact h
    clear hb
    conv => cbv
    refine Fit.mk (by show (-9223372036854775808 : Int) ≤ i + 1; omega) (by show i + 1 ≤ 9223372036854775807; omega) fun i2 hi2 => ?_
    have hi2 : i2 = i + 1 := hi2
    have hno2 : ∀ (j : Nat),(j : Int) < i2 → ∀ (m : List Bool),R[j]? = some (c,m) → false ∉ m := fun j hj m' hm' => by
     by_cases e : (j : Int) = i
     ·rw [show j = i.toNat by omega,he] at hm'
      have hm' := Option.some.inj hm'
      have h2 : m = m' := congrArg Prod.snd hm'; rw [← h2]; exact hfn
     ·exact hno j (by omega) m' hm'
    have q1 : 0 ≤ i2 := by omega
    have q2 : i2 ≤ n := by omega
    have q3 : k' = (n - i2).toNat := by omega
    clear hk hi2
    conv => cbv
    refine Again.mk k' _ (Nat.lt_succ_self _) (Re.at [(0,0),(1,1),(2,2)] []) ⟨i2,rfl,q1,q2,hno2,q3⟩
  ·have gi : ¬ i < n := gi
   have hall : ∀ (j : Nat) (m : List Bool),R[j]? = some (c,m) → false ∉ m := fun j m' hm' => hno j (by have := (List.getElem?_eq_some_iff.1 hm').1; omega) m' hm'
   clear hno hk hi0 hi1 gi
   conv => cbv
   refine LoopF.mk (fun k s => ∃ i : Int,s = ⟨.ptr 0 (.lit 0) :: .p (.int .i64 (.sym c)) :: (undefs 5 ++ .ptr 2 (.lit 0) :: (undefs 48 ++ .sl 1 179 2 (.lit 0) (.sym n) :: .p (.int .i64 (.sym n)) :: .p (.int .i64 (.sym i)) :: undefs 19)),[(2,.pure false [.int .i64 (.sym c),.str fun _ => z]),hpC 0 1 179 2 n,hpP 1 L],3⟩ ∧ 0 ≤ i ∧ i ≤ n ∧ (∀ (j : Nat),(j : Int) < i → ∀ (d : Int),R[j]? ≠ some (d,[])) ∧ k = (n - i).toNat) n.toNat _
    (Re.at [(0,0),(1,1),(2,2)] []) ⟨0,rfl,by omega,by omega,fun j hj => absurd hj (by omega),by omega⟩ ?_
   rintro k s ⟨i,rfl,hi0,hi1,hno,hk⟩
   conv => cbv
   refine Br.mk (fun gi => ?_) (fun gi => ?_)
   ·have gi : i < n := gi
    obtain ⟨⟨d,m⟩,he⟩ : ∃ e,R[i.toNat]? = some e := ⟨_,List.getElem?_eq_getElem (by omega)⟩
    have hml : m.length ≤ 8 := hm _ (List.mem_of_getElem? he)
    obtain ⟨y,hy⟩ : ∃ y : ByteArray,y = ⟨(mkB m).toArray⟩ := ⟨_,rfl⟩
    obtain ⟨c1,c2⟩ := rpv_get R i.toNat _ he
    dsimp only at c1 c2
    rw [← hL] at c1 c2
    rw [← hy] at c2
    obtain ⟨k',rfl⟩ : ∃ k',k = k' + 1 := ⟨k - 1,by omega⟩
    conv => cbv
    refine Need.mk ⟨hi0,gi⟩ ?_
    conv => cbv
    refine Sum.mk fun w hw => ?_
    have hw : w = i * 2 := hw
    conv => cbv
    refine Cell.at (w + 0) _ c1 rfl (by omega) ?_
    conv => cbv
    refine Cell.at (w + 1) _ c2 rfl (by omega) ?_
    conv => cbv
    refine Br.mk (fun gm => ?_) (fun gm => ?_)
    ·have hm0 : m = [] := (mkB_nil m).1 (hy.symm.trans gm)
     subst hm0
     obtain ⟨RR,hRR⟩ : ∃ RR,RR = R.set i.toNat (c,List.replicate (slotsOf c) false) := ⟨_,rfl⟩
     have hRl : RR.length = R.length := by rw [hRR,List.length_set]
     have hiR : i.toNat < R.length := by omega
     have hRi : RR[i.toNat]? = some (c,List.replicate (slotsOf c) false) := by rw [hRR,List.getElem?_set_self hiR]
     have hs8 : (List.replicate (slotsOf c) false).length ≤ 8 := by
      rw [List.length_replicate]
      unfold slotsOf; split
      ·omega
      ·split
       ·omega
       ·split
        ·omega
        ·split <;> omega
     have hAl : Alloced R c i 0 true (RR.set i.toNat (c,(List.replicate (slotsOf c) false).set 0 true)) := by
      have := Alloced.fresh (R := R) (c := c) i.toNat d h0 hall he (fun j hj d' => hno j (by omega) d')
      rw [hRR,List.set_set,show i = (i.toNat : Int) by omega]; exact this
     have hLl : L.length = 2 * R.length := by rw [hL,rpv_length]
     conv => cbv
     refine drawn_sound tok (by kernel_rfl) [(7,[])] [0,1,2,3,4,5,6,7] (by kernel_rfl) ?_; conv => cbv
     refine Need.mk ⟨hi0,gi⟩ ?_
     conv => cbv
     refine Sum.mk fun w2 hw2 => ?_
     have hw2 : w2 = i * 2 := hw2
     conv => cbv
     refine Need.mk (by show w2 + ((2 : Nat) : Int) ≤ (L.length : Int); omega) ?_
     conv => cbv
     refine Upd.mk fun L2 hL2 => ?_
     have hL2 : L2 = updL L w2.toNat [.int .i64 (.sym c),.str fun _ => z] := hL2
     have hL2 : L2 = rpv RR := by rw [hL2,hL,show w2.toNat = 2 * i.toNat by omega,hRR]; exact rpv_upd2 R i.toNat c _ z hz hiR
     have hn2 : n = RR.length := by omega
     have hRR2 : RR.length ≤ 1000 := by omega
     conv => cbv
     refine CallF.le (args0 := [.ptr 0 (.lit 0),i6 i,i6 0,.p (.int .i32 (.sym 120))]) (cfr (mark_lx RR n i 0 120 c _ L2 hL2 hn2 hi0 hRi hs8 hRR2 true rfl) [(0,0),(1,1)] (fun r h' n' hrr => ?_)) (by simp [ales,ale,pvle,I.val])
     obtain ⟨L3,e1,e2,e3,hL3⟩ := hrr
     rw [if_pos (Int.le_refl 0)] at hL3
     subst e1 e2 e3
     conv => cbv
     refine RetF.mk [i6 i,i6 0,.p (.bool true)] [hpC 0 1 179 2 n,hpP 1 L3] 2 (Re.at [(0,0),(1,1)] []) rfl ⟨i,0,true,L3,_,rfl,rfl,rfl,hL3,hAl⟩
    ·have hmn : m ≠ [] := fun h => gm (hy.trans ((mkB_nil m).2 h))
     conv => cbv
     refine Fit.mk (by show (-9223372036854775808 : Int) ≤ i + 1; omega) (by show i + 1 ≤ 9223372036854775807; omega) fun i2 hi2 => ?_
     have hi2 : i2 = i + 1 := hi2
     have hno2 : ∀ (j : Nat),(j : Int) < i2 → ∀ (d : Int),R[j]? ≠ some (d,[]) := fun j hj d' hm' => by
      by_cases e : (j : Int) = i
      ·rw [show j = i.toNat by omega,he] at hm'
       exact hmn (congrArg Prod.snd (Option.some.inj hm'))
      ·exact hno j (by omega) d' hm'
     have q1 : 0 ≤ i2 := by omega
     have q2 : i2 ≤ n := by omega
     have q3 : k' = (n - i2).toNat := by omega
     clear hk hi2
     conv => cbv
     refine Again.mk k' _ (Nat.lt_succ_self _) (Re.at [(0,0),(1,1),(2,2)] []) ⟨i2,rfl,q1,q2,hno2,q3⟩
   ·have gi : ¬ i < n := gi
    have hall2 : ∀ (j : Nat) (d' : Int),R[j]? ≠ some (d',[]) := fun j d' hm' => hno j (by have := (List.getElem?_eq_some_iff.1 hm').1; omega) d' hm'
    conv => cbv
    refine RetF.mk [i6 0,i6 0,.p (.bool false)] [hpC 0 1 179 2 n,hpP 1 L] 2 (Re.at [(0,0),(1,1)] []) rfl ⟨0,0,false,L,R,rfl,rfl,rfl,hL,.full h0 hall hall2⟩
end Go.Proofs.YtjfdfbpgckilpaaGreatDoor
