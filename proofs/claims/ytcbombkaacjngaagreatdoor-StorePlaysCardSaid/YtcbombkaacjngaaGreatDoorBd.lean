/-
  The ground of the proof, part 4: the calculus and what is proved with it.
-/
import Derived.Test.YtcbombkaacjngaaGreatDoorRows
import Derived.Test.YtcbombkaacjngaaGreatDoorBc
import Derived.Shelf.Strings.BuilderK
import Derived.Shelf.Lay
import Derived.WalkKit
import Derived.ProofKit
import Derived.Handy
import Derived.Outline
import Derived.WalkSpells
import Derived.WalkSmall
import Derived.OneCell
import Derived.Shelf.Strings.Builder1
import Derived.Shelf.Strings.Builder2
import Derived.Shelf.Strings.BuilderF
import Derived.Shelf.LaysM
import Derived.Shelf.Strconv.Itoa3
import Derived.Shelf.LaysC
import Derived.Shelf.Strconv.AtoiAll
import Derived.Shelf.Strings.Prefix
import Derived.Shelf.Strings.Repeat
import Derived.Ground.Names2Prog
import Derived.Shelf.Slices.Clone
import Derived.Test.YtcbombkaacjngaaGreatDoorProg
import Derived.Laws.RangeAny
import Derived.Lib.Repeat
namespace Go.Proofs.YtcbombkaacjngaaGreatDoor
open Go.LX
set_option maxHeartbeats 32000000
def T : TT := [
 (2,⟨1,8,[.int .i64 (.lit 0)],.int .i64⟩),
 (3,⟨1,8,[.int .i64 (.lit 0)],.int .i64⟩),
 (4,⟨1,1,[.bool false],.bool⟩),
 (5,⟨1,1,[.int .u8 (.lit 0)],.int .u8⟩),
 (7,⟨4,24,[.int .i64 (.lit 0),.int .i64 (.lit 0),.bool false,.int .u8 (.lit 0)],.struct [(0,2),(1,3),(2,4),(3,6)]⟩),
 (9,⟨1,16,[.str fun _ => ⟨#[]⟩],.str⟩),
 (12,⟨1,8,[.int .u64 (.lit 0)],.int .u64⟩),
 (13,⟨2,24,[.str fun _ => ⟨#[]⟩,.int .u64 (.lit 0)],.struct [(0,9),(1,12)]⟩),
 (15,⟨1,8,[.nilp],.ptr 358⟩),
 (16,⟨1,8,[.nilp],.ptr 361⟩),
 (17,⟨1,8,[.nilp],.ptr 368⟩),
 (18,⟨1,8,[.nilp],.struct [(0,17)]⟩),
 (20,⟨1,16,[.nilif],.iface⟩),
 (21,⟨1,4,[.int .i32 (.lit 0)],.int .i32⟩),
 (22,⟨3,24,[.int .i64 (.lit 0),.int .i64 (.lit 0),.int .i64 (.lit 0)],.struct [(0,3),(1,3),(2,3)]⟩),
 (23,⟨3,24,[.int .i64 (.lit 0),.int .i64 (.lit 0),.int .i64 (.lit 0)],.struct [(0,3),(1,3),(2,3)]⟩),
 (24,⟨1,24,[.nils],.slice 37⟩),
 (26,⟨1,8,[.nilp],.ptr 104⟩),
 (27,⟨1,8,[.int .i64 (.lit 0)],.int .i64⟩),
 (30,⟨1,8,[.nilp],.ptr 47⟩),
 (34,⟨1,24,[.nils],.slice 3⟩),
 (35,⟨1,24,[.nils],.slice 111⟩),
 (36,⟨5,56,[.int .i64 (.lit 0),.int .i64 (.lit 0),.int .i64 (.lit 0),.int .i64 (.lit 0),.nils],.struct [(0,3),(1,3),(2,3),(3,3),(4,35)]⟩),
 (37,⟨5,56,[.int .i64 (.lit 0),.int .i64 (.lit 0),.int .i64 (.lit 0),.int .i64 (.lit 0),.nils],.struct [(0,3),(1,3),(2,3),(3,3),(4,35)]⟩),
 (39,⟨4,48,[.int .i64 (.lit 0),.int .i64 (.lit 0),.nils,.bool false],.struct [(0,3),(1,3),(2,34),(3,4)]⟩),
 (40,⟨4,48,[.int .i64 (.lit 0),.int .i64 (.lit 0),.nils,.bool false],.struct [(0,3),(1,3),(2,34),(3,4)]⟩),
 (41,⟨1,24,[.nils],.slice 40⟩),
 (45,⟨1,8,[.nilp],.ptr 72⟩),
 (46,⟨4,32,[.nilp,.int .i64 (.lit 0),.int .i64 (.lit 0),.int .i64 (.lit 0)],.struct [(0,45),(1,23)]⟩),
 (47,⟨4,32,[.nilp,.int .i64 (.lit 0),.int .i64 (.lit 0),.int .i64 (.lit 0)],.struct [(0,45),(1,23)]⟩),
 (49,⟨1,8,[.int .u64 (.lit 0)],.int .u64⟩),
 (50,⟨1,8,[.nilp],.ptr 151⟩),
 (59,⟨1,24,[.nils],.slice 63⟩),
 (60,⟨1,8,[.nilp],.ptr 67⟩),
 (62,⟨6,48,[.int .i64 (.lit 0),.int .i64 (.lit 0),.int .i64 (.lit 0),.int .i64 (.lit 0),.int .i64 (.lit 0),.bool false],.struct [(0,3),(1,3),(2,3),(3,3),(4,3),(5,4)]⟩),
 (63,⟨6,48,[.int .i64 (.lit 0),.int .i64 (.lit 0),.int .i64 (.lit 0),.int .i64 (.lit 0),.int .i64 (.lit 0),.bool false],.struct [(0,3),(1,3),(2,3),(3,3),(4,3),(5,4)]⟩),
 (65,⟨1,24,[.nils],.slice 4⟩),
 (66,⟨4,64,[.nilp,.nilp,.nils,.nils],.struct [(0,50),(1,45),(2,34),(3,34)]⟩),
 (67,⟨4,64,[.nilp,.nilp,.nils,.nils],.struct [(0,50),(1,45),(2,34),(3,34)]⟩),
 (69,⟨1,8,[.nilp],.ptr 127⟩),
 (70,⟨1,8,[.nilp],.ptr 154⟩),
 (71,⟨6,64,[.nilp,.nils,.nilp,.int .i64 (.lit 0),.int .i64 (.lit 0),.int .i64 (.lit 0)],.struct [(0,69),(1,34),(2,70),(3,3),(4,3),(5,3)]⟩),
 (72,⟨6,64,[.nilp,.nils,.nilp,.int .i64 (.lit 0),.int .i64 (.lit 0),.int .i64 (.lit 0)],.struct [(0,69),(1,34),(2,70),(3,3),(4,3),(5,3)]⟩),
 (78,⟨1,24,[.nils],.slice 170⟩),
 (79,⟨1,24,[.nils],.slice 83⟩),
 (80,⟨1,8,[.nilp],.ptr 92⟩),
 (82,⟨4,32,[.int .i64 (.lit 0),.int .i64 (.lit 0),.int .i64 (.lit 0),.int .i64 (.lit 0)],.struct [(0,3),(1,3),(2,3),(3,3)]⟩),
 (83,⟨4,32,[.int .i64 (.lit 0),.int .i64 (.lit 0),.int .i64 (.lit 0),.int .i64 (.lit 0)],.struct [(0,3),(1,3),(2,3),(3,3)]⟩),
 (84,⟨6,48,[.int .i64 (.lit 0),.int .i64 (.lit 0),.int .i64 (.lit 0),.int .i64 (.lit 0),.int .i64 (.lit 0),.int .i64 (.lit 0)],.arr 6 3⟩),
 (85,⟨10,80,[.int .i64 (.lit 0),.int .i64 (.lit 0),.int .i64 (.lit 0),.int .i64 (.lit 0),.int .i64 (.lit 0),.int .i64 (.lit 0),.int .i64 (.lit 0),.int .i64 (.lit 0),.int .i64 (.lit 0),.int .i64 (.lit 0)],.struct [(0,3),(1,3),(2,3),(3,84),(9,3)]⟩),
 (86,⟨10,80,[.int .i64 (.lit 0),.int .i64 (.lit 0),.int .i64 (.lit 0),.int .i64 (.lit 0),.int .i64 (.lit 0),.int .i64 (.lit 0),.int .i64 (.lit 0),.int .i64 (.lit 0),.int .i64 (.lit 0),.int .i64 (.lit 0)],.struct [(0,3),(1,3),(2,3),(3,84),(9,3)]⟩),
 (91,⟨4,64,[.nilp,.nilp,.nils,.nils],.struct [(0,50),(1,45),(2,34),(3,34)]⟩),
 (92,⟨4,64,[.nilp,.nilp,.nils,.nils],.struct [(0,50),(1,45),(2,34),(3,34)]⟩),
 (103,⟨3,24,[.nilp,.int .i64 (.lit 0),.int .i64 (.lit 0)],.struct [(0,50),(1,3),(2,3)]⟩),
 (104,⟨3,24,[.nilp,.int .i64 (.lit 0),.int .i64 (.lit 0)],.struct [(0,50),(1,3),(2,3)]⟩),
 (108,⟨1,8,[.nilp],.ptr 193⟩),
 (110,⟨2,16,[.int .i64 (.lit 0),.int .i64 (.lit 0)],.struct [(0,3),(1,3)]⟩),
 (111,⟨2,16,[.int .i64 (.lit 0),.int .i64 (.lit 0)],.struct [(0,3),(1,3)]⟩),
 (125,⟨1,8,[.nilp],.ptr 202⟩),
 (126,⟨2,32,[.nilp,.nils],.struct [(0,125),(1,34)]⟩),
 (127,⟨2,32,[.nilp,.nils],.struct [(0,125),(1,34)]⟩),
 (133,⟨9,72,[.int .i64 (.lit 0),.int .i64 (.lit 0),.int .i64 (.lit 0),.int .i64 (.lit 0),.int .i64 (.lit 0),.int .i64 (.lit 0),.int .i64 (.lit 0),.int .i64 (.lit 0),.int .i64 (.lit 0)],.struct [(0,3),(1,3),(2,3),(3,3),(4,3),(5,3),(6,3),(7,3),(8,3)]⟩),
 (134,⟨9,72,[.int .i64 (.lit 0),.int .i64 (.lit 0),.int .i64 (.lit 0),.int .i64 (.lit 0),.int .i64 (.lit 0),.int .i64 (.lit 0),.int .i64 (.lit 0),.int .i64 (.lit 0),.int .i64 (.lit 0)],.struct [(0,3),(1,3),(2,3),(3,3),(4,3),(5,3),(6,3),(7,3),(8,3)]⟩),
 (141,⟨7,56,[.int .i64 (.lit 0),.int .i64 (.lit 0),.int .i64 (.lit 0),.int .i64 (.lit 0),.int .i64 (.lit 0),.int .i64 (.lit 0),.int .i64 (.lit 0)],.struct [(0,3),(1,3),(2,3),(3,3),(4,3),(5,3),(6,3)]⟩),
 (142,⟨7,56,[.int .i64 (.lit 0),.int .i64 (.lit 0),.int .i64 (.lit 0),.int .i64 (.lit 0),.int .i64 (.lit 0),.int .i64 (.lit 0),.int .i64 (.lit 0)],.struct [(0,3),(1,3),(2,3),(3,3),(4,3),(5,3),(6,3)]⟩),
 (149,⟨1,8,[.nilp],.ptr 224⟩),
 (150,⟨6,64,[.nilp,.nilp,.nils,.int .i64 (.lit 0),.int .i64 (.lit 0),.int .i64 (.lit 0)],.struct [(0,108),(1,149),(2,34),(3,3),(4,3),(5,3)]⟩),
 (151,⟨6,64,[.nilp,.nilp,.nils,.int .i64 (.lit 0),.int .i64 (.lit 0),.int .i64 (.lit 0)],.struct [(0,108),(1,149),(2,34),(3,3),(4,3),(5,3)]⟩),
 (153,⟨2,32,[.nils,.bool false],.struct [(0,34),(1,4)]⟩),
 (154,⟨2,32,[.nils,.bool false],.struct [(0,34),(1,4)]⟩),
 (156,⟨0,0,[],.struct []⟩),
 (157,⟨0,0,[],.struct []⟩),
 (159,⟨10,80,[.int .i64 (.lit 0),.int .i64 (.lit 0),.int .i64 (.lit 0),.int .i64 (.lit 0),.int .i64 (.lit 0),.int .i64 (.lit 0),.int .i64 (.lit 0),.int .i64 (.lit 0),.int .i64 (.lit 0),.int .i64 (.lit 0)],.struct [(0,3),(1,134)]⟩),
 (160,⟨10,80,[.int .i64 (.lit 0),.int .i64 (.lit 0),.int .i64 (.lit 0),.int .i64 (.lit 0),.int .i64 (.lit 0),.int .i64 (.lit 0),.int .i64 (.lit 0),.int .i64 (.lit 0),.int .i64 (.lit 0),.int .i64 (.lit 0)],.struct [(0,3),(1,134)]⟩),
 (169,⟨5,40,[.int .i64 (.lit 0),.int .i64 (.lit 0),.int .i64 (.lit 0),.int .i64 (.lit 0),.bool false],.struct [(0,3),(1,3),(2,3),(3,3),(4,4)]⟩),
 (170,⟨5,40,[.int .i64 (.lit 0),.int .i64 (.lit 0),.int .i64 (.lit 0),.int .i64 (.lit 0),.bool false],.struct [(0,3),(1,3),(2,3),(3,3),(4,4)]⟩),
 (174,⟨0,0,[],.struct []⟩),
 (186,⟨2,16,[.int .i64 (.lit 0),.int .i64 (.lit 0)],.struct [(0,3),(1,3)]⟩),
 (187,⟨2,16,[.int .i64 (.lit 0),.int .i64 (.lit 0)],.struct [(0,3),(1,3)]⟩),
 (191,⟨1,8,[.nilp],.ptr 268⟩),
 (192,⟨2,32,[.nilp,.nils],.struct [(0,191),(1,34)]⟩),
 (193,⟨2,32,[.nilp,.nils],.struct [(0,191),(1,34)]⟩),
 (198,⟨1,24,[.nils],.slice 9⟩),
 (200,⟨1,24,[.nils],.slice 203⟩),
 (201,⟨2,48,[.nils,.nils],.struct [(0,34),(1,200)]⟩),
 (202,⟨2,48,[.nils,.nils],.struct [(0,34),(1,200)]⟩),
 (203,⟨8,8,[.bool false,.bool false,.bool false,.bool false,.bool false,.bool false,.bool false,.bool false],.arr 8 4⟩),
 (223,⟨2,24,[.str fun _ => ⟨#[]⟩,.bool false],.struct [(0,9),(1,4)]⟩),
 (224,⟨2,24,[.str fun _ => ⟨#[]⟩,.bool false],.struct [(0,9),(1,4)]⟩),
 (226,⟨2,16,[.int .i64 (.lit 0),.int .i64 (.lit 0)],.struct [(0,3),(1,3)]⟩),
 (227,⟨2,16,[.int .i64 (.lit 0),.int .i64 (.lit 0)],.struct [(0,3),(1,3)]⟩),
 (232,⟨0,0,[],.struct []⟩),
 (233,⟨1,8,[.nilm],.map 3 156⟩),
 (242,⟨1,8,[.int .i64 (.lit 0)],.struct [(0,3)]⟩),
 (243,⟨1,8,[.int .i64 (.lit 0)],.struct [(0,3)]⟩),
 (244,⟨1,8,[.int .i64 (.lit 0)],.struct [(0,3)]⟩),
 (245,⟨0,0,[],.struct []⟩),
 (249,⟨1,8,[.int .i64 (.lit 0)],.int .i64⟩),
 (253,⟨4,32,[.int .i64 (.lit 0),.int .i64 (.lit 0),.int .i64 (.lit 0),.int .i64 (.lit 0)],.struct [(0,3),(1,3),(2,3),(3,3)]⟩),
 (254,⟨4,32,[.int .i64 (.lit 0),.int .i64 (.lit 0),.int .i64 (.lit 0),.int .i64 (.lit 0)],.struct [(0,3),(1,3),(2,3),(3,3)]⟩),
 (263,⟨0,0,[],.struct []⟩),
 (266,⟨1,24,[.nils],.slice 270⟩),
 (267,⟨1,24,[.nils],.struct [(0,266)]⟩),
 (268,⟨1,24,[.nils],.struct [(0,266)]⟩),
 (269,⟨2,24,[.int .i64 (.lit 0),.str fun _ => ⟨#[]⟩],.struct [(0,3),(1,9)]⟩),
 (270,⟨2,24,[.int .i64 (.lit 0),.str fun _ => ⟨#[]⟩],.struct [(0,3),(1,9)]⟩),
 (272,⟨1,8,[.int .i64 (.lit 0)],.struct [(0,3)]⟩),
 (273,⟨1,8,[.int .i64 (.lit 0)],.struct [(0,3)]⟩),
 (278,⟨1,8,[.int .i64 (.lit 0)],.struct [(0,27)]⟩),
 (279,⟨1,8,[.int .i64 (.lit 0)],.struct [(0,27)]⟩),
 (281,⟨0,0,[],.struct []⟩),
 (283,⟨1,8,[.int .i64 (.lit 0)],.int .i64⟩),
 (284,⟨0,0,[],.struct []⟩),
 (285,⟨0,0,[],.struct []⟩),
 (286,⟨0,0,[],.struct []⟩),
 (293,⟨1,16,[.nilif],.iface⟩),
 (294,⟨1,16,[.nilif],.iface⟩),
 (297,⟨0,0,[],.struct []⟩),
 (305,⟨1,8,[.nilp],.ptr 308⟩),
 (306,⟨1,24,[.nils],.slice 5⟩),
 (307,⟨2,32,[.nilp,.nils],.struct [(0,305),(1,306)]⟩),
 (308,⟨2,32,[.nilp,.nils],.struct [(0,305),(1,306)]⟩),
 (314,⟨24,24,[.int .u8 (.lit 0),.int .u8 (.lit 0),.int .u8 (.lit 0),.int .u8 (.lit 0),.int .u8 (.lit 0),.int .u8 (.lit 0),.int .u8 (.lit 0),.int .u8 (.lit 0),.int .u8 (.lit 0),.int .u8 (.lit 0),.int .u8 (.lit 0),.int .u8 (.lit 0),.int .u8 (.lit 0),.int .u8 (.lit 0),.int .u8 (.lit 0),.int .u8 (.lit 0),.int .u8 (.lit 0),.int .u8 (.lit 0),.int .u8 (.lit 0),.int .u8 (.lit 0),.int .u8 (.lit 0),.int .u8 (.lit 0),.int .u8 (.lit 0),.int .u8 (.lit 0)],.arr 24 5⟩),
 (315,⟨1,8,[.int .u64 (.lit 0)],.int .u64⟩),
 (323,⟨1,8,[.nilp],.ptr 340⟩),
 (327,⟨1,8,[.nilp],.ptr 5⟩),
 (332,⟨20,160,[.int .u64 (.lit 0),.int .u64 (.lit 0),.int .u64 (.lit 0),.int .u64 (.lit 0),.int .u64 (.lit 0),.int .u64 (.lit 0),.int .u64 (.lit 0),.int .u64 (.lit 0),.int .u64 (.lit 0),.int .u64 (.lit 0),.int .u64 (.lit 0),.int .u64 (.lit 0),.int .u64 (.lit 0),.int .u64 (.lit 0),.int .u64 (.lit 0),.int .u64 (.lit 0),.int .u64 (.lit 0),.int .u64 (.lit 0),.int .u64 (.lit 0),.int .u64 (.lit 0)],.arr 20 315⟩),
 (333,⟨1,4,[.int .u32 (.lit 0)],.int .u32⟩),
 (334,⟨65,65,[.int .u8 (.lit 0),.int .u8 (.lit 0),.int .u8 (.lit 0),.int .u8 (.lit 0),.int .u8 (.lit 0),.int .u8 (.lit 0),.int .u8 (.lit 0),.int .u8 (.lit 0),.int .u8 (.lit 0),.int .u8 (.lit 0),.int .u8 (.lit 0),.int .u8 (.lit 0),.int .u8 (.lit 0),.int .u8 (.lit 0),.int .u8 (.lit 0),.int .u8 (.lit 0),.int .u8 (.lit 0),.int .u8 (.lit 0),.int .u8 (.lit 0),.int .u8 (.lit 0),.int .u8 (.lit 0),.int .u8 (.lit 0),.int .u8 (.lit 0),.int .u8 (.lit 0),.int .u8 (.lit 0),.int .u8 (.lit 0),.int .u8 (.lit 0),.int .u8 (.lit 0),.int .u8 (.lit 0),.int .u8 (.lit 0),.int .u8 (.lit 0),.int .u8 (.lit 0),.int .u8 (.lit 0),.int .u8 (.lit 0),.int .u8 (.lit 0),.int .u8 (.lit 0),.int .u8 (.lit 0),.int .u8 (.lit 0),.int .u8 (.lit 0),.int .u8 (.lit 0),.int .u8 (.lit 0),.int .u8 (.lit 0),.int .u8 (.lit 0),.int .u8 (.lit 0),.int .u8 (.lit 0),.int .u8 (.lit 0),.int .u8 (.lit 0),.int .u8 (.lit 0),.int .u8 (.lit 0),.int .u8 (.lit 0),.int .u8 (.lit 0),.int .u8 (.lit 0),.int .u8 (.lit 0),.int .u8 (.lit 0),.int .u8 (.lit 0),.int .u8 (.lit 0),.int .u8 (.lit 0),.int .u8 (.lit 0),.int .u8 (.lit 0),.int .u8 (.lit 0),.int .u8 (.lit 0),.int .u8 (.lit 0),.int .u8 (.lit 0),.int .u8 (.lit 0),.int .u8 (.lit 0)],.arr 65 5⟩),
 (339,⟨3,48,[.str fun _ => ⟨#[]⟩,.str fun _ => ⟨#[]⟩,.nilif],.struct [(0,9),(1,9),(2,294)]⟩),
 (340,⟨3,48,[.str fun _ => ⟨#[]⟩,.str fun _ => ⟨#[]⟩,.nilif],.struct [(0,9),(1,9),(2,294)]⟩),
 (351,⟨1,8,[.nilp],.ptr 353⟩),
 (352,⟨1,16,[.str fun _ => ⟨#[]⟩],.struct [(0,9)]⟩),
 (353,⟨1,16,[.str fun _ => ⟨#[]⟩],.struct [(0,9)]⟩),
 (355,⟨32,32,[.int .u8 (.lit 0),.int .u8 (.lit 0),.int .u8 (.lit 0),.int .u8 (.lit 0),.int .u8 (.lit 0),.int .u8 (.lit 0),.int .u8 (.lit 0),.int .u8 (.lit 0),.int .u8 (.lit 0),.int .u8 (.lit 0),.int .u8 (.lit 0),.int .u8 (.lit 0),.int .u8 (.lit 0),.int .u8 (.lit 0),.int .u8 (.lit 0),.int .u8 (.lit 0),.int .u8 (.lit 0),.int .u8 (.lit 0),.int .u8 (.lit 0),.int .u8 (.lit 0),.int .u8 (.lit 0),.int .u8 (.lit 0),.int .u8 (.lit 0),.int .u8 (.lit 0),.int .u8 (.lit 0),.int .u8 (.lit 0),.int .u8 (.lit 0),.int .u8 (.lit 0),.int .u8 (.lit 0),.int .u8 (.lit 0),.int .u8 (.lit 0),.int .u8 (.lit 0)],.arr 32 5⟩),
 (356,⟨64,64,[.int .u8 (.lit 0),.int .u8 (.lit 0),.int .u8 (.lit 0),.int .u8 (.lit 0),.int .u8 (.lit 0),.int .u8 (.lit 0),.int .u8 (.lit 0),.int .u8 (.lit 0),.int .u8 (.lit 0),.int .u8 (.lit 0),.int .u8 (.lit 0),.int .u8 (.lit 0),.int .u8 (.lit 0),.int .u8 (.lit 0),.int .u8 (.lit 0),.int .u8 (.lit 0),.int .u8 (.lit 0),.int .u8 (.lit 0),.int .u8 (.lit 0),.int .u8 (.lit 0),.int .u8 (.lit 0),.int .u8 (.lit 0),.int .u8 (.lit 0),.int .u8 (.lit 0),.int .u8 (.lit 0),.int .u8 (.lit 0),.int .u8 (.lit 0),.int .u8 (.lit 0),.int .u8 (.lit 0),.int .u8 (.lit 0),.int .u8 (.lit 0),.int .u8 (.lit 0),.int .u8 (.lit 0),.int .u8 (.lit 0),.int .u8 (.lit 0),.int .u8 (.lit 0),.int .u8 (.lit 0),.int .u8 (.lit 0),.int .u8 (.lit 0),.int .u8 (.lit 0),.int .u8 (.lit 0),.int .u8 (.lit 0),.int .u8 (.lit 0),.int .u8 (.lit 0),.int .u8 (.lit 0),.int .u8 (.lit 0),.int .u8 (.lit 0),.int .u8 (.lit 0),.int .u8 (.lit 0),.int .u8 (.lit 0),.int .u8 (.lit 0),.int .u8 (.lit 0),.int .u8 (.lit 0),.int .u8 (.lit 0),.int .u8 (.lit 0),.int .u8 (.lit 0),.int .u8 (.lit 0),.int .u8 (.lit 0),.int .u8 (.lit 0),.int .u8 (.lit 0),.int .u8 (.lit 0),.int .u8 (.lit 0),.int .u8 (.lit 0),.int .u8 (.lit 0)],.arr 64 5⟩),
 (357,⟨4,40,[.nilp,.nilp,.nilp,.str fun _ => ⟨#[]⟩],.struct [(0,17),(1,17),(2,17),(3,9)]⟩),
 (359,⟨0,0,[],.arr 0 16⟩),
 (360,⟨0,0,[],.struct [(0,359)]⟩),
 (367,⟨11,48,[.int .u64 (.lit 0),.int .u64 (.lit 0),.int .u32 (.lit 0),.int .u8 (.lit 0),.int .u8 (.lit 0),.int .u8 (.lit 0),.int .u8 (.lit 0),.nilfn,.nilp,.int .i32 (.lit 0),.int .i32 (.lit 0)],.struct [(0,12),(1,12),(2,333),(3,362),(4,5),(5,5),(6,363),(7,364),(8,327),(9,365),(10,366)]⟩)]
theorem tok : TOK Tryz.prog T := teqs_ok (by kernel_rfl)
end Go.Proofs.YtcbombkaacjngaaGreatDoor
namespace Go.Proofs.YtcbombkaacjngaaGreatDoor
open Go.RowKit
open Go Go.LX
set_option maxRecDepth 100000
set_option linter.unusedVariables false
set_option linter.unusedSimpArgs false
set_option maxHeartbeats 32000000
theorem bd_size : (Tryz.prog.info? 308).map (·.size) = some 2 := by kernel_rfl
theorem bd_lies : liesAt Tryz.prog Tryz.prog.depth 308 (2 / Tryz.prog.cellsOf 308) 0 308 1 = true := by kernel_rfl
theorem bd_byte : Tryz.prog.cellsOf 5 = 1 := by kernel_rfl
theorem copyCheck_fresh (b : Nat) (w : World) (h0 : w.cell? ⟨b,0,none⟩ = some (.pointer none)) (hsh : w.shape? b = some (308,2)) (hfz : w.frozen? ⟨b,0,none⟩ = false) :
  Calls Tryz.prog 262 #[.pointer (some ⟨b,0,none⟩)] w fun e w' => e = .returned (.tuple #[]) ∧ w' = w.setCell ⟨b,0,none⟩ (.pointer (some ⟨b,0,none⟩)) := by
 obtain ⟨j,hj,hjs⟩ := Option.map_eq_some_iff.1 bd_size
 go_enter Tryz.func262,Tryz.ntmps262
 go_wp2
 rw [Lib.run_to_unsafe w ⟨b,0,none⟩ Tryz.underlying305 Tryz.underlying342 hj (by rw [hjs]; decide) hsh (Nat.zero_lt_succ 1)]
 simp only [Result.andThen]
 rw [Oper.upon_value]
 go_wp2
 rw [run_callFunc_extern Tryz.func278 (by kernel_rfl) (by kernel_rfl) (by kernel_rfl) (e := Extern.AbiNoEscape.same) (by kernel_rfl)]
 rw [Lib.run_noEscape]
 simp only [Result.andThen]
 rw [Oper.upon_value]
 go_wp2
 rw [Lib.run_from_unsafe w ⟨b,0,none⟩ Tryz.underlying342 Tryz.underlying305 hj hsh bd_lies]
 simp only [Result.andThen]
 rw [Oper.upon_value]
 go_wp2
 go_end0
 exact ⟨rfl,rfl⟩
theorem copyCheck_used (b : Nat) (w : World) (h0 : w.cell? ⟨b,0,none⟩ = some (.pointer (some ⟨b,0,none⟩))) :
  Calls Tryz.prog 262 #[.pointer (some ⟨b,0,none⟩)] w fun e w' => e = .returned (.tuple #[]) ∧ w' = w := by
 obtain ⟨j,hj,_⟩ := Option.map_eq_some_iff.1 bd_size
 go_enter Tryz.func262,Tryz.ntmps262
 go_wp2
 rw [Lib.run_neq_ptr_same w _ Tryz.underlying305 hj]
 go_wp2
 go_end0
 exact ⟨rfl,rfl⟩
theorem arg1 {c : Ctx} {w : World} {u : LV} {xs : Array Value} (hl : [u].length = xs.size) (hrel : ∀ (i : Nat) (v : LV),[u][i]? = some v → LR c w v (xs.getD i Go.undef)) : ∃ x,xs = #[x] ∧ LR c w u x := by
 have h0 := hrel 0 u rfl
 rcases xs with ⟨l⟩
 match l,hl with
 | [x],_ => exact ⟨x,rfl,h0⟩
theorem ptr_live {c : Ctx} {w : World} {b : Nat} {m : Nat} {x : Value} (hm : c.m b = some (some m)) (hx : LR c w (.ptr b (.lit 0)) x) : x = .pointer (some ⟨m,0,none⟩) := by
 cases hx with
 | ptr _ _ r k hm' ho =>
  rw [hm] at hm'; cases hm'
  have : k = 0 := by simp only [I.val] at ho; omega
  rw [this]
 | goneP _ _ _ hm' _ => rw [hm] at hm'; cases hm'
theorem copyCheck_lx (v : LV) (B : LB) : CallF (fun _ => Tryz.prog) 262 [.ptr 0 (.lit 0)] [(0,.bld 308 [v]),(1,B)] 2 (fun r h n => r = .tup [] ∧ h = [(0,.bld 308 [v]),(1,B)] ∧ n = 2) := by
 refine .mk ⟨_,_,Tryz.func262,by kernel_rfl,rfl⟩ fun c w xs hr hN hl hrel => ?_
 obtain ⟨x,rfl,hx⟩ := arg1 hl hrel
 obtain ⟨m,hm,hB⟩ := hr.live 0 _ rfl
 cases m with
 | none => exact hB.elim
 | some r =>
  have hx := ptr_live hm hx
  subst hx
  have hB0 := hB
  obtain ⟨cur,hg,hsz,h0,hc⟩ := hB
  have hsz : cur.size = 2 := hsz
  have hc0 : w.cell? ⟨r,0,none⟩ = some (cur.getD 0 Go.undef) := by
   simp only [World.cell?,hg]
   rw [Array.getD_eq_getD_getElem?,Array.getElem?_eq_getElem (by omega : 0 < cur.size)]; rfl
  rcases h0 with h0 | h0
  ·rw [h0] at hc0
   refine (copyCheck_fresh r w hc0 (by simp only [World.shape?,hg,hsz]) (by simp [World.frozen?,hg])).mono ?_
   rintro e w' ⟨rfl,rfl⟩
   have hg' : (w.setCell ⟨r,0,none⟩ (.pointer (some ⟨r,0,none⟩))).heap[r]? = some (.cells (cur.setIfInBounds 0 (.pointer (some ⟨r,0,none⟩))) 308 (0,0)) := by
    simp [World.setCell,Array.getElem?_modify,hg]
   have ht : Turn w (w.setCell ⟨r,0,none⟩ (.pointer (some ⟨r,0,none⟩))) r := by
    refine ⟨rfl,rfl,rfl,by simp [World.setCell],fun k hk => ?_,?_⟩
    ·have hk' : ¬ r = k := fun h => hk h.symm
     simp [World.setCell,Array.getElem?_modify,hk']
    ·simp only [World.shape?,hg,hg',Array.size_setIfInBounds]
   have hB' : BR c (w.setCell ⟨r,0,none⟩ (.pointer (some ⟨r,0,none⟩))) (.bld 308 [v]) (some r) := by
    refine ⟨_,hg',by rw [Array.size_setIfInBounds]; exact hsz,.inr ?_,fun j u hu => ?_⟩
    ·simp [Array.getD_eq_getD_getElem?,hsz]
    ·have := (hc j u hu).ext hr.fresh (Ext.turn hr hm ht)
     rw [Array.getD_eq_getD_getElem?,Array.getElem?_setIfInBounds,if_neg (by omega),← Array.getD_eq_getD_getElem?]
     exact this
   exact ⟨c,.tup [],_,_,_,rfl,⟨rfl,rfl,rfl⟩,hr.turn rfl hm ht hB',hN,.tup _ _ rfl (fun j u hu => by simp at hu),Ext.turn hr hm ht⟩
  ·rw [h0] at hc0
   refine (copyCheck_used r w hc0).mono ?_
   rintro e w' ⟨rfl,rfl⟩
   exact ⟨c,.tup [],_,_,_,rfl,⟨rfl,rfl,rfl⟩,hr,hN,.tup _ _ rfl (fun j u hu => by simp at hu),Ext.refl hr⟩
theorem bd_mixed : Tryz.prog.follows .mixedOrders = true := by kernel_rfl
theorem string_some (b g cap : Nat) (p : Value) (cur : Array Value) (l : List UInt8) (w : World) (h0 : l ≠ []) (hbk : w.heap[b]? = some (.cells #[p,.slice (some ⟨g,0,none⟩) l.length cap] 308 (0,0)))
  (hg : w.heap[g]? = some (.cells cur 5 (0,0))) (hn : l.length ≤ cap) (hcm : cap ≤ maxLen) (hcs : cap ≤ cur.size) (hcell : ∀ j x,l[j]? = some x → w.cell? ((⟨g,0,none⟩ : Addr).add j) = some (.int .u8 x.toNat)) :
  Calls Tryz.prog 249 #[.pointer (some ⟨b,0,none⟩)] w fun e w' => e = .returned (.string ⟨l.toArray⟩) ∧ w' = w.drew.freeze ⟨g,0,none⟩ l.length := by
 have hl0 : l.length ≠ 0 := by simpa using h0
 have c1 : w.drew.cell? ⟨b,1,none⟩ = some (.slice (some ⟨g,0,none⟩) l.length cap) := by
  have : w.drew.heap[b]? = some (.cells #[p,.slice (some ⟨g,0,none⟩) l.length cap] 308 (0,0)) := hbk
  rw [Lib.cell_of_heap this]; rfl
 have hSD : (Builtin.unsafeSliceData_ #[306] 327 #[.slice (some ⟨g,0,none⟩) l.length cap]).run Tryz.prog w.drew = .ok (.pointer (some ⟨g,0,none⟩)) w.drew :=
  Lib.run_unsafeSliceData_row _ _ _ _ _ _ (by omega)
 have hUS : (Builtin.unsafeString_ #[327,3] 9 #[.pointer (some ⟨g,0,none⟩),.int .i64 l.length]).run Tryz.prog w.drew = .ok (.string ⟨l.toArray⟩) (w.drew.freeze ⟨g,0,none⟩ l.length) := by
  refine Lib.run_unsafeString_row w.drew 327 3 9 5 Tryz.underlying327 bd_byte g cur.size (by have hg' : w.drew.heap[g]? = some (.cells cur 5 (0,0)) := hg; simp [World.shape?,hg']) l h0 (by omega) (by unfold maxLen at hcm; omega) ?_
  intro j x hx
  exact hcell j x hx
 have mixed := bd_mixed
 go_enter Tryz.func249,Tryz.ntmps249
 go_wp2
 go_region_o
 all_goals (go_wp2; go_ret; exact ⟨rfl,rfl⟩)
theorem string_us (W : World) (q : Option Addr) : (Builtin.unsafeString_ #[327,3] 9 #[.pointer q,.int .i64 0]).run Tryz.prog W = .ok (.string .empty) W :=
 Lib.run_unsafeString_none W _ _ _ q
theorem string_nil (b : Nat) (p : Value) (w : World) (hbk : w.heap[b]? = some (.cells #[p,.slice none 0 0] 308 (0,0))) :
  Calls Tryz.prog 249 #[.pointer (some ⟨b,0,none⟩)] w fun e w' => e = .returned (.string ⟨#[]⟩) ∧ w' = w.drew := by
 have hUS := string_us
 have c1 : w.drew.cell? ⟨b,1,none⟩ = some (.slice none 0 0) := by
  have : w.drew.heap[b]? = some (.cells #[p,.slice none 0 0] 308 (0,0)) := hbk
  rw [Lib.cell_of_heap this]; rfl
 have hSD : (Builtin.unsafeSliceData_ #[306] 327 #[.slice none 0 0]).run Tryz.prog w.drew = .ok (.pointer none) w.drew := rfl
 have mixed := bd_mixed
 go_enter Tryz.func249,Tryz.ntmps249
 go_wp2
 go_region_o
 all_goals (go_wp2; go_ret; exact ⟨rfl,rfl⟩)
theorem string_room (b g cap : Nat) (p : Value) (w : World) (hc0 : cap ≠ 0) (hbk : w.heap[b]? = some (.cells #[p,.slice (some ⟨g,0,none⟩) 0 cap] 308 (0,0))) :
  Calls Tryz.prog 249 #[.pointer (some ⟨b,0,none⟩)] w fun e w' => e = .returned (.string ⟨#[]⟩) ∧ w' = w.drew := by
 have hUS := string_us
 have c1 : w.drew.cell? ⟨b,1,none⟩ = some (.slice (some ⟨g,0,none⟩) 0 cap) := by
  have : w.drew.heap[b]? = some (.cells #[p,.slice (some ⟨g,0,none⟩) 0 cap] 308 (0,0)) := hbk
  rw [Lib.cell_of_heap this]; rfl
 have hSD : (Builtin.unsafeSliceData_ #[306] 327 #[.slice (some ⟨g,0,none⟩) 0 cap]).run Tryz.prog w.drew = .ok (.pointer (some ⟨g,0,none⟩)) w.drew :=
  Lib.run_unsafeSliceData_row _ _ _ _ _ _ hc0
 clear hc0
 have mixed := bd_mixed
 go_enter Tryz.func249,Tryz.ntmps249
 go_wp2
 go_region_o
 all_goals (go_wp2; go_ret; exact ⟨rfl,rfl⟩)
theorem string_noroom (b g : Nat) (p : Value) (cur : Array Value) (w : World) (hbk : w.heap[b]? = some (.cells #[p,.slice (some ⟨g,0,none⟩) 0 0] 308 (0,0))) (hg : w.heap[g]? = some (.cells cur 5 (0,0))) :
  Calls Tryz.prog 249 #[.pointer (some ⟨b,0,none⟩)] w fun e w' => e = .returned (.string ⟨#[]⟩) ∧ w' = w.drew.alloc (.view ⟨g,0,none⟩ 5) := by
 have hUS := string_us
 have hlt : b < w.heap.size := by
  rcases Nat.lt_or_ge b w.heap.size with h' | h'
  ·exact h'
  ·simp [Array.getElem?_eq_none h'] at hbk
 have c1 : w.drew.cell? ⟨b,1,none⟩ = some (.slice (some ⟨g,0,none⟩) 0 0) := by
  have : w.drew.heap[b]? = some (.cells #[p,.slice (some ⟨g,0,none⟩) 0 0] 308 (0,0)) := hbk
  rw [Lib.cell_of_heap this]; rfl
 have hSD : (Builtin.unsafeSliceData_ #[306] 327 #[.slice (some ⟨g,0,none⟩) 0 0]).run Tryz.prog w.drew = .ok (.pointer (some ⟨w.drew.heap.size,0,none⟩)) (w.drew.alloc (.view ⟨g,0,none⟩ 5)) :=
  Lib.run_unsafeSliceData_zero w.drew _ _ 5 Tryz.underlying327 ⟨g,0,none⟩ 0 (5,cur.size) (by have hg' : w.drew.heap[g]? = some (.cells cur 5 (0,0)) := hg; simp [World.shape?,hg'])
 have c2 : (w.drew.alloc (.view ⟨g,0,none⟩ 5)).cell? ⟨b,1,none⟩ = some (.slice (some ⟨g,0,none⟩) 0 0) := by
  have : (w.drew.alloc (.view ⟨g,0,none⟩ 5)).heap[b]? = _ := (Lib.alloc_old w.drew _ b hlt).trans hbk
  rw [Lib.cell_of_heap this]; rfl
 have c3 : w.cell? ⟨b,1,none⟩ = some (.slice (some ⟨g,0,none⟩) 0 0) := by rw [Lib.cell_of_heap hbk]; rfl
 have mixed := bd_mixed
 go_enter Tryz.func249,Tryz.ntmps249
 go_wp2
 go_region_o
 all_goals (go_wp2; go_ret; exact ⟨rfl,rfl⟩)
theorem string_lx (j : Int) (L : List PV) (z : ByteArray) (hL : L = bytesPV z) (hj : j = z.size) :
  CallF (fun _ => Tryz.prog) 249 [.ptr 0 (.lit 0)] [(0,.bld 308 [.sl 1 5 1 (.lit 0) (.sym j)]),hpP 1 L] 2
   (fun r h n => r = .p (.str fun _ => z) ∧ h = [(0,.bld 308 [.p (.vsl (.sym j) true L)])] ∧ n = 2) := by
 refine .mk ⟨_,_,Tryz.func249,by kernel_rfl,rfl⟩ fun c w xs hr hN hl hrel => ?_
 obtain ⟨x,rfl,hx⟩ := arg1 hl hrel
 obtain ⟨m,hm,hB⟩ := hr.live 0 _ rfl
 obtain ⟨m1,hm1,hB1⟩ := hr.live 1 _ rfl
 cases m with
 | none => exact hB.elim
 | some r =>
  have hx := ptr_live hm hx
  subst hx
  obtain ⟨cur,hg,hsz,h0,hc⟩ := hB
  have hsz : cur.size = 2 := hsz
  have hc1 := hc 0 _ rfl
  obtain ⟨p,v,rfl⟩ : ∃ p v,cur = #[p,v] := by
   rcases cur with ⟨l⟩
   match l,hsz with
   | [p,v],_ => exact ⟨p,v,rfl⟩
  have hc1 : LR c w (.sl 1 5 1 (.lit 0) (.sym j)) v := hc1
  have hlen : L.length = z.size := by rw [hL,bytesPV,List.length_map,Array.length_toList]; rfl
  have fin : ∀ (w' : World),Ext c w (c.drop 1) w' → (w'.heap[r]? = w.heap[r]?) → LR (c.drop 1) w' (.p (.vsl (.sym j) true L)) v →
    ∃ (c' : Ctx) (rv : LV) (vv : Value) (h' : LH) (n' : Nat),Ending.returned (Value.string z) = .returned vv ∧ (rv = .p (.str fun _ => z) ∧ h' = [(0,LB.bld 308 [.p (.vsl (.sym j) true L)])] ∧ n' = 2) ∧ HR c' w' h' ∧ c'.N = n' ∧ LR c' w' rv vv ∧ Ext c w c' w' := by
   intro w' he hh hv
   have hd := hr.drop 1
   have e0 : ∀ b,b ≠ 1 → (c.drop 1).m b = c.m b := fun b hb => if_neg hb
   have e1 : (c.drop 1).m 1 = none := by simp [Ctx.drop]
   refine ⟨c.drop 1,.p (.str fun _ => z),.string z,_,2,rfl,⟨rfl,rfl,rfl⟩,?_,hN,.p _ _ (.str _),he⟩
   refine hr.step he (.inl rfl) (fun b hb => ?_) (fun b => ?_) (fun b B hb => .inr ?_)
   ·by_cases e : b = 1
    ·rw [e]; exact e1
    ·rw [e0 b e]; exact hr.fresh b hb
   ·by_cases e : b = 1
    ·exact .inr (.inl (by rw [e]; exact e1))
    ·exact .inl (e0 b e)
   ·rw [hget_cons] at hb
    by_cases e : 0 = b
    ·rw [if_pos e] at hb; cases hb
     subst e
     refine ⟨some r,(e0 0 (by decide)).trans hm,_,hh.trans hg,rfl,h0,fun j u hu => ?_⟩
     rcases j with _ | j
     ·simp at hu; subst hu; exact hv
     ·simp at hu
    ·rw [if_neg e] at hb; cases hb
  have drewE : Ext c w (c.drop 1) w.drew := (Ext.drop hr 1).trans (hr.drop 1 |>.same (w' := w.drew) rfl rfl rfl rfl).1
  have empty : z.size = 0 → z = ⟨#[]⟩ := fun h => by
   cases z with | mk d => have : d = #[] := Array.eq_empty_of_size_eq_zero h; rw [this]
  have hnM : ∀ r1,c.m 1 = some (some r1) → ¬ (c.drop 1).mut r1 := by
   rintro r1 h1 (hX | ⟨b,hb⟩)
   ·exact hr.noX 1 r1 h1 hX
   ·by_cases e : b = 1
    ·rw [e] at hb; have : (c.drop 1).m 1 = none := by simp [Ctx.drop]
     rw [this] at hb; cases hb
    ·have e0 : (c.drop 1).m b = c.m b := if_neg e
     rw [e0] at hb
     exact e (hr.inj b 1 r1 hb h1)
  cases hc1 with
  | goneS _ _ _ _ _ _ _ _ hm' _ => rw [hm1] at hm'; cases hm'
  | slz _ _ _ _ _ _ _ _ _ ho' _ _ h0' => exfalso; simp only [I.val] at ho'; omega
  | slv _ _ _ _ _ hm' ho' hn' =>
   simp only [I.val] at hn'
   have hz := empty (by omega)
   refine (string_nil r p w hg).mono ?_
   rintro e w' ⟨rfl,rfl⟩
   rw [← hz]
   exact fin _ drewE rfl (.p _ _ (.vsl0 _ _ _ _ _ hn' (Nat.zero_le _)))
  | sl _ _ _ _ _ g o k cp tot hm' ho' hn' hk' hcp hs' ht' =>
   rw [hm1] at hm'; cases hm'
   obtain ⟨cur,ty,hgg,hle,hrel⟩ := hB1
   simp only [I.val] at ho' hn'
   have ho0 : o = 0 := by omega
   subst ho0
   have hsh : ty = 5 ∧ cur.size = tot := by
    rw [World.shape?,hgg] at hs'
    cases hs'; exact ⟨rfl,rfl⟩
   obtain ⟨rfl,rfl⟩ := hsh
   have hkz : k = z.size := by omega
   have hgr : r ≠ g := fun e => by
    rw [e] at hm
    have := hr.inj 0 1 g hm hm1
    cases this
   by_cases hk0 : k = 0
   ·subst hk0
    have hz := empty (by omega)
    by_cases hcp0 : cp = 0
    ·subst hcp0
     refine (string_noroom r g p cur w hg hgg).mono ?_
     rintro e w' ⟨rfl,rfl⟩
     rw [← hz]
     have hlt : r < w.heap.size := hr.lt 0 r hm
     have he : Ext c w (c.drop 1) (w.drew.alloc (.view ⟨g,0,none⟩ 5)) := by
      refine ⟨rfl,rfl,rfl,by simp,rfl,Nat.le_refl _,drewE.old,fun b r hb h => ?_,fun r hr' _ => heap_alloc_old w.drew _ hr',fun b r' hb h => ?_⟩
      ·rcases drewE.new b r hb h with h1 | h1
       ·exact .inl h1
       ·exact .inr h1
      ·have h2 : c.m b = some (some r') := by
        rcases drewE.old b hb with e | e
        ·rw [← e]; exact h
        ·rw [e] at h; cases h
       simp only [World.shape?]
       rw [heap_alloc_old w.drew _ (hr.lt b r' h2)]; rfl
     exact fin _ he (heap_alloc_old w.drew _ hlt) (.p _ _ (.vsl0 _ _ _ _ _ hn' (Nat.zero_le _)))
    ·refine (string_room r g cp p w hcp0 hg).mono ?_
     rintro e w' ⟨rfl,rfl⟩
     rw [← hz]
     exact fin _ drewE rfl (.p _ _ (.vsl0 _ _ _ _ _ hn' hcp))
   ·have hll : z.data.toList.length = k := by rw [Array.length_toList]; exact hkz.symm
    have hcur : ∀ (j : Nat) (x : UInt8),z.data.toList[j]? = some x → cur[j]? = some (Value.int .u8 x.toNat) := by
     intro j x hx
     have hLj : L[j]? = some (.int .u8 (.sym x.toNat)) := by rw [hL,bytesPV,List.getElem?_map,hx]; rfl
     have h1 := hrel j _ hLj
     have hjl : j < L.length := (List.getElem?_eq_some_iff.1 hLj).1
     rw [Array.getD_eq_getD_getElem?,Array.getElem?_eq_getElem (by omega : j < cur.size)] at h1
     rw [Array.getElem?_eq_getElem (by omega : j < cur.size)]
     generalize cur[j] = q at h1
     have h1 : PR c.mut w (.int .u8 (.sym x.toNat)) q := h1
     cases h1 with | int _ _ m hm => rw [← hm]; rfl
    have hs1 := string_some r g cp p cur z.data.toList w (by intro h; rw [h] at hll; simp at hll; omega) (by rw [hll]; exact hg) hgg (by omega) hcp (by omega) (fun j x hx => by
     rw [add_lit]
     simp only [World.cell?,hgg,Nat.zero_add]
     simpa using hcur j x hx)
    refine hs1.mono ?_
    rintro e w' ⟨rfl,rfl⟩
    have hfg : (w.drew.freeze ⟨g,0,none⟩ z.data.toList.length).heap[g]? = some (.cells cur 5 (0,k)) := by
     have hgg' : w.drew.heap[g]? = some (.cells cur 5 (0,0)) := hgg
     rw [hll]; simp [World.freeze,hk0,Array.getElem?_modify,hgg']
    have hfo : ∀ i,i ≠ g → (w.drew.freeze ⟨g,0,none⟩ z.data.toList.length).heap[i]? = w.heap[i]? := by
     intro i hi
     have hi' : ¬ g = i := fun h => hi h.symm
     rw [hll]; simp [World.freeze,hk0,Array.getElem?_modify,hi']; rfl
    have hfs : (w.drew.freeze ⟨g,0,none⟩ z.data.toList.length).heap.size = w.heap.size := by rw [hll]; simp [World.freeze,hk0]
    have he : Ext c w (c.drop 1) (w.drew.freeze ⟨g,0,none⟩ z.data.toList.length) := by
     refine ⟨by rw [hll]; simp [World.freeze,hk0] <;> rfl,by rw [hll]; simp [World.freeze,hk0] <;> rfl,by rw [hll]; simp [World.freeze,hk0] <;> rfl,by rw [hfs]; exact Nat.le_refl _,rfl,Nat.le_refl _,drewE.old,drewE.new,fun i hi ho => hfo i fun e => ho (by rw [e]; exact ⟨1,hm1⟩),fun b r' hb h => ?_⟩
     have hrg : r' ≠ g := fun e => by
      rw [e] at h
      exact hnM g hm1 (.inr ⟨b,h⟩)
     simp only [World.shape?,hfo r' hrg]
    refine fin _ he (hfo r hgr) (.p _ _ (.vsl _ _ _ ⟨g,0,none⟩ k cp (fun j => cur.getD j Go.undef) hn' rfl (hnM g hm1) (by rw [hfs]; exact hr.lt 1 g hm1) hk' hcp (fun j u hu => ?_) (fun j u hu => (hrel j u hu).ext hr.fresh he)))
    have hjl : j < L.length := (List.getElem?_eq_some_iff.1 hu).1
    rw [add_lit]
    simp only [World.cell?,hfg,Nat.zero_add]
    rw [Array.getD_eq_getD_getElem?,Array.getElem?_eq_getElem (by omega : j < cur.size)]; rfl
end Go.Proofs.YtcbombkaacjngaaGreatDoor
namespace Go.Proofs.YtcbombkaacjngaaGreatDoor
open Go Go.LX
set_option maxRecDepth 100000
set_option linter.unusedVariables false
set_option maxHeartbeats 32000000
theorem bytesPV_append (a b : ByteArray) : bytesPV (a ++ b) = bytesPV a ++ bytesPV b := by
 have : (a ++ b).data.toList = a.data.toList ++ b.data.toList := by rw [ByteArray.data_append,Array.toList_append]
 rw [bytesPV,bytesPV,bytesPV,this,List.map_append]
theorem bytesPV_length (a : ByteArray) : (bytesPV a).length = a.size := by rw [bytesPV,List.length_map,Array.length_toList]; rfl
end Go.Proofs.YtcbombkaacjngaaGreatDoor
namespace Go.Proofs.YtcbombkaacjngaaGreatDoor
open Go Go.LX
set_option maxRecDepth 100000
set_option linter.unusedVariables false
set_option maxHeartbeats 32000000
theorem appendRune_lx (j cc : Int) (L : List PV) (z : ByteArray) (hL : L = bytesPV z) (hj : j = z.size) (h0 : 0 ≤ cc) (h1 : cc ≤ 127) (hm : z.size + 1 ≤ 140737488355328) :
  CallF (fun _ => Tryz.prog) 263 [.sl 0 5 1 (.lit 0) (.sym j),.p (.int .i32 (.sym cc))] [hpP 0 L] 1
   (fun r h n => ∃ (k : Int) (L' : List PV),r = .sl 1 5 1 (.lit 0) (.sym k) ∧ h = [hpP 1 L'] ∧ n = 2 ∧ L' = bytesPV (z ++ ⟨#[cc.toNat.toUInt8]⟩) ∧ k = (z.size : Int) + 1) := by
 refine callF_of_body tok Tryz.func263 (by kernel_rfl) rfl rfl rfl ?_; conv => cbv
 refine Fit.mk (show (0 : Int) ≤ cc by omega) (show cc ≤ 4294967295 by omega) fun u hu => ?_
 have hu : u = cc := hu
 conv => cbv
 refine Br.mk (fun _ => ?_) (fun hc => absurd (show u ≤ 127 by omega) hc)
 conv => cbv
 refine Fit.mk (show (0 : Int) ≤ cc by omega) (show cc ≤ 255 by omega) fun v hv => ?_
 have hv : v = cc := hv
 conv => cbv
 refine Room.new rfl ?_
 conv => cbv
 refine Room.new ⟨by rw [hL,bytesPV_length]; show ((z.size : Nat) : Int) = j * 1; omega,by show (j + 1) * 1 ≤ 140737488355328; omega,by show j + 1 ≤ 9223372036854775807; omega⟩ ?_
 conv => cbv
 refine Upd.mk fun L2 hL2 => ?_
 have hL2 : L2 = L ++ [.int .u8 (.sym v)] := hL2
 conv => cbv
 refine Sum.mk fun k hk => ?_
 have hk : k = j + 1 := hk
 have hk2 : k = (z.size : Int) + 1 := by rw [hk,hj]
 conv => cbv
 refine RetF.mk [.sl 1 5 1 (.lit 0) (.sym k)] [hpP 1 L2] 2 (Re.at [(2,1)] []) rfl ⟨k,L2,rfl,rfl,rfl,?_,hk2⟩
 have hb : ((cc.toNat.toUInt8).toNat : Int) = v := by
  have : cc.toNat.toUInt8.toNat = cc.toNat := by rw [Nat.toUInt8,UInt8.toNat_ofNat']; omega
  omega
 rw [hL2,hL,bytesPV_append]
 show _ = bytesPV z ++ [PV.int .u8 (.sym ((cc.toNat.toUInt8).toNat : Int))]
 rw [hb]
theorem writeRune_lx (j cc : Int) (L : List PV) (z : ByteArray) (hL : L = bytesPV z) (hj : j = z.size) (h0 : 0 ≤ cc) (h1 : cc ≤ 127) (hm : z.size + 1 ≤ 140737488355328) :
  CallF (fun _ => Tryz.prog) 248 [.ptr 0 (.lit 0),.p (.int .i32 (.sym cc))] [(0,.bld 308 [.sl 1 5 1 (.lit 0) (.sym j)]),hpP 1 L] 2
   (fun r h n => ∃ (m k : Int) (L' : List PV),r = .tup [i6 m,.p .nilif] ∧ h = [hpP 2 L',(0,.bld 308 [.sl 2 5 1 (.lit 0) (.sym k)])] ∧ n = 3 ∧ L' = bytesPV (z ++ ⟨#[cc.toNat.toUInt8]⟩) ∧ k = (z ++ ⟨#[cc.toNat.toUInt8]⟩).size) := by
 refine callF_of_body tok Tryz.func248 (by kernel_rfl) rfl rfl rfl ?_; conv => cbv
 refine cfr (copyCheck_lx (.sl 1 5 1 (.lit 0) (.sym j)) (.pure true L)) [(0,0),(1,1)] (fun r h' n' ⟨e1,e2,e3⟩ => ?_)
 subst e1 e2 e3
 conv => cbv
 refine callF_frame (appendRune_lx j cc L z hL hj h0 h1 hm) [(0,1)] rfl (by simp [hmapOk,nget,hget,renB,okB]) rfl rfl (fun r h' n' ⟨k,L2,e1,e2,e3,hL2,hk⟩ => ?_)
 subst e1 e2 e3
 conv => cbv
 refine Fit.mk (show (-9223372036854775808 : Int) ≤ k - j by omega) (show k - j ≤ 9223372036854775807 by omega) fun m hm2 => ?_
 conv => cbv
 have hk2 : k = (z ++ ⟨#[cc.toNat.toUInt8]⟩ : ByteArray).size := by rw [ByteArray.size_append,hk]; rfl
 refine RetF.mk [i6 m,.p .nilif] [hpP 2 L2,(0,.bld 308 [.sl 2 5 1 (.lit 0) (.sym k)])] 3 (Re.at [(0,0),(2,2)] []) rfl ⟨m,k,L2,rfl,rfl,rfl,hL2,hk2⟩
end Go.Proofs.YtcbombkaacjngaaGreatDoor
namespace Go.Proofs
open Go.Shelf
set_option maxHeartbeats 32000000
def Tryz.laysM171_ren : Go.Shelf.Ren := ⟨fun | 171 => 219 | 243 => 235 | 246 => 244 | 283 => 252 | 284 => 253 | 285 => 254 | 286 => 255 | 129 => 270 | 317 => 269 | 318 => 271 | 319 => 272 | 320 => 273 | 337 => 284 | 338 => 285 | n => n,fun | 3 => 3 | 9 => 9 | 2 => 2 | 4 => 4 | 171 => 314 | 0 => 0 | 53 => 315 | 37 => 306 | 5 => 5 | 173 => 318 | 212 => 332 | 51 => 333 | 20 => 20 | 213 => 334 | 46 => 49 | 232 => 355 | 233 => 356 | n => n,fun | 17 => 0 | 18 => 3 | 19 => 4 | n => n⟩
theorem Tryz.laysM171 : Go.Proofs.LaysM.n171 Tryz.prog Tryz.laysM171_ren := {
 mixed := by kernel_rfl
 f129 := Tryz.func270.trans (congrArg some (by kernel_rfl))
 f171 := Tryz.func219.trans (congrArg some (by kernel_rfl))
 f243 := Tryz.func235.trans (congrArg some (by kernel_rfl))
 f246 := Tryz.func244.trans (congrArg some (by kernel_rfl))
 f283 := Tryz.func252.trans (congrArg some (by kernel_rfl))
 f284 := Tryz.func253.trans (congrArg some (by kernel_rfl))
 f285 := Tryz.func254.trans (congrArg some (by kernel_rfl))
 f286 := Tryz.func255.trans (congrArg some (by kernel_rfl))
 f317 := Tryz.func269.trans (congrArg some (by kernel_rfl))
 f318 := Tryz.func271.trans (congrArg some (by kernel_rfl))
 f319 := Tryz.func272.trans (congrArg some (by kernel_rfl))
 f320 := Tryz.func273.trans (congrArg some (by kernel_rfl))
 f337 := Tryz.func284.trans (congrArg some (by kernel_rfl))
 f338 := Tryz.func285.trans (congrArg some (by kernel_rfl))
 t0 := Tryz.underlying0
 a0 := Tryz.isAgg0
 z0 := Tryz.sizeOf0
 v0 := Tryz.zeroValue0
 t2 := Tryz.underlying2
 a2 := Tryz.isAgg2
 z2 := Tryz.sizeOf2
 v2 := Tryz.zeroValue2
 t3 := Tryz.underlying3
 a3 := Tryz.isAgg3
 z3 := Tryz.sizeOf3
 v3 := Tryz.zeroValue3
 t4 := Tryz.underlying4
 a4 := Tryz.isAgg4
 z4 := Tryz.sizeOf4
 v4 := Tryz.zeroValue4
 t5 := Tryz.underlying5
 a5 := Tryz.isAgg5
 z5 := Tryz.sizeOf5
 v5 := Tryz.zeroValue5
 t9 := Tryz.underlying9
 a9 := Tryz.isAgg9
 z9 := Tryz.sizeOf9
 v9 := Tryz.zeroValue9
 t20 := Tryz.underlying20
 a20 := Tryz.isAgg20
 z20 := Tryz.sizeOf20
 v20 := Tryz.zeroValue20
 t37 := Tryz.underlying306
 a37 := Tryz.isAgg306
 z37 := Tryz.sizeOf306
 v37 := Tryz.zeroValue306
 t46 := Tryz.underlying49
 a46 := Tryz.isAgg49
 z46 := Tryz.sizeOf49
 v46 := Tryz.zeroValue49
 t51 := Tryz.underlying333
 a51 := Tryz.isAgg333
 z51 := Tryz.sizeOf333
 v51 := Tryz.zeroValue333
 t53 := Tryz.underlying315
 a53 := Tryz.isAgg315
 z53 := Tryz.sizeOf315
 v53 := Tryz.zeroValue315
 t171 := Tryz.underlying314
 a171 := Tryz.isAgg314
 z171 := Tryz.sizeOf314
 v171 := Tryz.zeroValue314
 t173 := Tryz.underlying318
 a173 := Tryz.isAgg318
 z173 := Tryz.sizeOf318
 v173 := Tryz.zeroValue318
 t212 := Tryz.underlying332
 a212 := Tryz.isAgg332
 z212 := Tryz.sizeOf332
 v212 := Tryz.zeroValue332
 t213 := Tryz.underlying334
 a213 := Tryz.isAgg334
 z213 := Tryz.sizeOf334
 t232 := Tryz.underlying355
 a232 := Tryz.isAgg355
 z232 := Tryz.sizeOf355
 v232 := Tryz.zeroValue355
 t233 := Tryz.underlying356
 a233 := Tryz.isAgg356
 z233 := Tryz.sizeOf356
 v233 := Tryz.zeroValue356
 g17 := by kernel_rfl
 g18 := by kernel_rfl
 g19 := by kernel_rfl
 i0 := by kernel_rfl
 i2 := by kernel_rfl
 i3 := by kernel_rfl
 i4 := by kernel_rfl
 i5 := by kernel_rfl
 i9 := by kernel_rfl
 i20 := by kernel_rfl
 i37 := by kernel_rfl
 i46 := by kernel_rfl
 i51 := by kernel_rfl
 i53 := by kernel_rfl
 i171 := by kernel_rfl
 i173 := by kernel_rfl
 i212 := by kernel_rfl
 i232 := by kernel_rfl
 i233 := by kernel_rfl
 m17 := by kernel_rfl
 m18 := by kernel_rfl
 m19 := by kernel_rfl }
open Go.RowKit Go.Sort Go.Lib in
theorem Tryz.strconv_Itoa (n : Int) (h0 : -9223372036854775808 ≤ n) (h1 : n ≤ 9223372036854775807) (w : World) (htab : Lib.TabIs Tryz.prog w "internal/strconv.uint64pow10" .u64 Lib.pow10Tab) :
  Calls Tryz.prog 219 #[.int .i64 n] w fun e w' => e = .returned (.string ⟨(Lib.itoa n).toArray⟩) ∧ ∃ k os,w' = grow (w.drewN k) os := Any.strconv_Itoa Tryz.laysM171 n h0 h1 w htab
def Tryz.laysC172_ren : Go.Shelf.Ren := ⟨fun | 172 => 237 | 244 => 246 | 245 => 247 | 247 => 257 | 279 => 258 | 280 => 259 | 281 => 260 | 282 => 261 | 287 => 275 | 316 => 276 | 171 => 219 | 205 => 277 | 321 => 286 | 322 => 287 | 243 => 235 | 246 => 244 | 283 => 252 | 284 => 253 | 285 => 254 | 286 => 255 | 129 => 270 | 317 => 269 | 318 => 271 | 319 => 272 | 320 => 273 | 337 => 284 | 338 => 285 | n => n,fun | 9 => 9 | 3 => 3 | 75 => 294 | 76 => 295 | 4 => 4 | 5 => 5 | 167 => 320 | 37 => 306 | 0 => 0 | 85 => 321 | 2 => 2 | 168 => 323 | 53 => 315 | 175 => 336 | 46 => 49 | 210 => 340 | 127 => 327 | 145 => 353 | 143 => 351 | 21 => 21 | 171 => 314 | 173 => 318 | 212 => 332 | 51 => 333 | 20 => 20 | 213 => 334 | 232 => 355 | 233 => 356 | 80 => 310 | n => n,fun | 15 => 1 | 16 => 2 | 17 => 0 | 18 => 3 | 19 => 4 | n => n⟩
theorem Tryz.laysC172 : Go.Proofs.LaysC.n172 Tryz.prog Tryz.laysC172_ren := {
 mixed := by kernel_rfl
 f129 := Tryz.func270.trans (congrArg some (by kernel_rfl))
 f171 := Tryz.func219.trans (congrArg some (by kernel_rfl))
 f172 := Tryz.func237.trans (congrArg some (by kernel_rfl))
 f205 := Tryz.func277.trans (congrArg some (by kernel_rfl))
 f243 := Tryz.func235.trans (congrArg some (by kernel_rfl))
 f244 := Tryz.func246.trans (congrArg some (by kernel_rfl))
 f245 := Tryz.func247.trans (congrArg some (by kernel_rfl))
 f246 := Tryz.func244.trans (congrArg some (by kernel_rfl))
 f247 := Tryz.func257.trans (congrArg some (by kernel_rfl))
 f279 := Tryz.func258.trans (congrArg some (by kernel_rfl))
 f280 := Tryz.func259.trans (congrArg some (by kernel_rfl))
 f281 := Tryz.func260.trans (congrArg some (by kernel_rfl))
 f282 := Tryz.func261.trans (congrArg some (by kernel_rfl))
 f283 := Tryz.func252.trans (congrArg some (by kernel_rfl))
 f284 := Tryz.func253.trans (congrArg some (by kernel_rfl))
 f285 := Tryz.func254.trans (congrArg some (by kernel_rfl))
 f286 := Tryz.func255.trans (congrArg some (by kernel_rfl))
 f287 := Tryz.func275.trans (congrArg some (by kernel_rfl))
 f316 := Tryz.func276.trans (congrArg some (by kernel_rfl))
 f317 := Tryz.func269.trans (congrArg some (by kernel_rfl))
 f318 := Tryz.func271.trans (congrArg some (by kernel_rfl))
 f319 := Tryz.func272.trans (congrArg some (by kernel_rfl))
 f320 := Tryz.func273.trans (congrArg some (by kernel_rfl))
 f321 := Tryz.func286.trans (congrArg some (by kernel_rfl))
 f322 := Tryz.func287.trans (congrArg some (by kernel_rfl))
 f337 := Tryz.func284.trans (congrArg some (by kernel_rfl))
 f338 := Tryz.func285.trans (congrArg some (by kernel_rfl))
 t0 := Tryz.underlying0
 a0 := Tryz.isAgg0
 z0 := Tryz.sizeOf0
 v0 := Tryz.zeroValue0
 t2 := Tryz.underlying2
 a2 := Tryz.isAgg2
 z2 := Tryz.sizeOf2
 v2 := Tryz.zeroValue2
 t3 := Tryz.underlying3
 a3 := Tryz.isAgg3
 z3 := Tryz.sizeOf3
 v3 := Tryz.zeroValue3
 t4 := Tryz.underlying4
 a4 := Tryz.isAgg4
 z4 := Tryz.sizeOf4
 v4 := Tryz.zeroValue4
 t5 := Tryz.underlying5
 a5 := Tryz.isAgg5
 z5 := Tryz.sizeOf5
 v5 := Tryz.zeroValue5
 t9 := Tryz.underlying9
 a9 := Tryz.isAgg9
 z9 := Tryz.sizeOf9
 v9 := Tryz.zeroValue9
 t20 := Tryz.underlying20
 a20 := Tryz.isAgg20
 z20 := Tryz.sizeOf20
 v20 := Tryz.zeroValue20
 t21 := Tryz.underlying21
 a21 := Tryz.isAgg21
 z21 := Tryz.sizeOf21
 v21 := Tryz.zeroValue21
 t37 := Tryz.underlying306
 a37 := Tryz.isAgg306
 z37 := Tryz.sizeOf306
 v37 := Tryz.zeroValue306
 t46 := Tryz.underlying49
 a46 := Tryz.isAgg49
 z46 := Tryz.sizeOf49
 v46 := Tryz.zeroValue49
 t51 := Tryz.underlying333
 a51 := Tryz.isAgg333
 z51 := Tryz.sizeOf333
 v51 := Tryz.zeroValue333
 t53 := Tryz.underlying315
 a53 := Tryz.isAgg315
 z53 := Tryz.sizeOf315
 v53 := Tryz.zeroValue315
 t75 := Tryz.underlying294
 a75 := Tryz.isAgg294
 z75 := Tryz.sizeOf294
 v75 := Tryz.zeroValue294
 t76 := Tryz.underlying295
 a76 := Tryz.isAgg295
 z76 := Tryz.sizeOf295
 v76 := Tryz.zeroValue295
 t85 := Tryz.underlying321
 a85 := Tryz.isAgg321
 z85 := Tryz.sizeOf321
 v85 := Tryz.zeroValue321
 t127 := Tryz.underlying327
 a127 := Tryz.isAgg327
 z127 := Tryz.sizeOf327
 v127 := Tryz.zeroValue327
 t143 := Tryz.underlying351
 a143 := Tryz.isAgg351
 z143 := Tryz.sizeOf351
 v143 := Tryz.zeroValue351
 t145 := Tryz.underlying353
 a145 := Tryz.isAgg353
 z145 := Tryz.sizeOf353
 v145 := Tryz.zeroValue353
 t167 := Tryz.underlying320
 a167 := Tryz.isAgg320
 z167 := Tryz.sizeOf320
 v167 := Tryz.zeroValue320
 t168 := Tryz.underlying323
 a168 := Tryz.isAgg323
 z168 := Tryz.sizeOf323
 v168 := Tryz.zeroValue323
 t171 := Tryz.underlying314
 a171 := Tryz.isAgg314
 z171 := Tryz.sizeOf314
 v171 := Tryz.zeroValue314
 t173 := Tryz.underlying318
 a173 := Tryz.isAgg318
 z173 := Tryz.sizeOf318
 v173 := Tryz.zeroValue318
 t175 := Tryz.underlying336
 a175 := Tryz.isAgg336
 z175 := Tryz.sizeOf336
 v175 := Tryz.zeroValue336
 t210 := Tryz.underlying340
 a210 := Tryz.isAgg340
 z210 := Tryz.sizeOf340
 v210 := Tryz.zeroValue340
 t212 := Tryz.underlying332
 a212 := Tryz.isAgg332
 z212 := Tryz.sizeOf332
 v212 := Tryz.zeroValue332
 t213 := Tryz.underlying334
 a213 := Tryz.isAgg334
 z213 := Tryz.sizeOf334
 t232 := Tryz.underlying355
 a232 := Tryz.isAgg355
 z232 := Tryz.sizeOf355
 v232 := Tryz.zeroValue355
 t233 := Tryz.underlying356
 a233 := Tryz.isAgg356
 z233 := Tryz.sizeOf356
 v233 := Tryz.zeroValue356
 g15 := by kernel_rfl
 g16 := by kernel_rfl
 g17 := by kernel_rfl
 g18 := by kernel_rfl
 g19 := by kernel_rfl
 t80 := Tryz.underlying310
 a80 := Tryz.isAgg310
 z80 := Tryz.sizeOf310
 v80 := Tryz.zeroValue310
 i0 := by kernel_rfl
 i2 := by kernel_rfl
 i3 := by kernel_rfl
 i4 := by kernel_rfl
 i5 := by kernel_rfl
 i9 := by kernel_rfl
 i20 := by kernel_rfl
 i21 := by kernel_rfl
 i37 := by kernel_rfl
 i46 := by kernel_rfl
 i51 := by kernel_rfl
 i53 := by kernel_rfl
 i75 := by kernel_rfl
 i76 := by kernel_rfl
 i80 := by kernel_rfl
 i85 := by kernel_rfl
 i127 := by kernel_rfl
 i143 := by kernel_rfl
 i145 := by kernel_rfl
 i167 := by kernel_rfl
 i168 := by kernel_rfl
 i171 := by kernel_rfl
 i173 := by kernel_rfl
 i175 := by kernel_rfl
 i210 := by kernel_rfl
 i212 := by kernel_rfl
 i232 := by kernel_rfl
 i233 := by kernel_rfl
 m15 := by kernel_rfl
 m16 := by kernel_rfl
 m17 := by kernel_rfl
 m18 := by kernel_rfl
 m19 := by kernel_rfl
 c0 := by kernel_rfl
 c2 := by kernel_rfl
 c3 := by kernel_rfl
 c4 := by kernel_rfl
 c5 := by kernel_rfl
 c9 := by kernel_rfl
 c20 := by kernel_rfl
 c21 := by kernel_rfl
 c37 := by kernel_rfl
 c46 := by kernel_rfl
 c51 := by kernel_rfl
 c53 := by kernel_rfl
 c75 := by kernel_rfl
 c76 := by kernel_rfl
 c80 := by kernel_rfl
 c85 := by kernel_rfl
 c127 := by kernel_rfl
 c143 := by kernel_rfl
 c145 := by kernel_rfl
 c167 := by kernel_rfl
 c168 := by kernel_rfl
 c171 := by kernel_rfl
 c173 := by kernel_rfl
 c175 := by kernel_rfl
 c210 := by kernel_rfl
 c212 := by kernel_rfl
 c213 := by kernel_rfl
 c232 := by kernel_rfl
 c233 := by kernel_rfl }
open Go.RowKit in
theorem Tryz.strconv_Atoi_ok (s : ByteArray) (hmax : s.size ≤ 9223372036854775806) (v : Int) (h : Lib.atoiAll s.data.toList = .ok v) (w : World) :
  Calls Tryz.prog 237 #[.string s] w fun e w' => e = .returned (.tuple #[.int .i64 v,.nilIface]) ∧ (w' = w ∨ ∃ t,w' = Lib.bytesWorld w 5 t) := Any.strconv_Atoi_ok Tryz.laysC172 s hmax v h w
def Tryz.lays102_ren : Go.Shelf.Ren := ⟨fun | 102 => 245 | 209 => 256 | 207 => 274 | n => n,fun | 9 => 9 | 4 => 4 | 3 => 3 | n => n,fun | n => n⟩
theorem Tryz.lays102 : Go.Proofs.Lays.n102 Tryz.prog Tryz.lays102_ren := {
 mixed := by kernel_rfl
 f102 := Tryz.func245.trans (congrArg some (by kernel_rfl))
 f207 := Tryz.func274.trans (congrArg some (by kernel_rfl))
 f209 := Tryz.func256.trans (congrArg some (by kernel_rfl))
 t3 := Tryz.underlying3
 a3 := Tryz.isAgg3
 z3 := Tryz.sizeOf3
 v3 := Tryz.zeroValue3
 t4 := Tryz.underlying4
 a4 := Tryz.isAgg4
 z4 := Tryz.sizeOf4
 v4 := Tryz.zeroValue4
 t9 := Tryz.underlying9
 a9 := Tryz.isAgg9
 z9 := Tryz.sizeOf9
 v9 := Tryz.zeroValue9 }
open Go.RowKit Go.Lib in
theorem Tryz.strings_TrimSuffix (s p : ByteArray) (w : World) (hs : s.size ≤ 9223372036854775807) :
  Calls Tryz.prog 245 #[.string s,.string p] w fun e w' => e = .returned (.string ⟨(Lib.trimSuffix s.data.toList p.data.toList).toArray⟩) ∧ w' = w := Any.strings_TrimSuffix Tryz.lays102 s p w hs
def Tryz.lays105_ren : Go.Shelf.Ren := ⟨fun | 105 => 251 | 212 => 264 | 99 => 265 | 165 => 266 | 166 => 267 | 170 => 268 | 169 => 249 | 263 => 280 | 264 => 281 | 206 => 282 | 240 => 262 | 241 => 283 | 276 => 278 | 277 => 288 | n => n,fun | 9 => 9 | 3 => 3 | 4 => 4 | 20 => 20 | 0 => 0 | 46 => 49 | 109 => 328 | 5 => 5 | 72 => 308 | 76 => 295 | 51 => 333 | 146 => 344 | 53 => 315 | 148 => 346 | 70 => 305 | 37 => 306 | 75 => 294 | 127 => 327 | 164 => 342 | 80 => 310 | n => n,fun | n => n⟩
theorem Tryz.lays105 : Go.Proofs.Lays.n105 Tryz.prog Tryz.lays105_ren := {
 mixed := by kernel_rfl
 f99 := Tryz.func265.trans (congrArg some (by kernel_rfl))
 f105 := Tryz.func251.trans (congrArg some (by kernel_rfl))
 f165 := Tryz.func266.trans (congrArg some (by kernel_rfl))
 f166 := Tryz.func267.trans (congrArg some (by kernel_rfl))
 f169 := Tryz.func249.trans (congrArg some (by kernel_rfl))
 f170 := Tryz.func268.trans (congrArg some (by kernel_rfl))
 f206 := Tryz.func282.trans (congrArg some (by kernel_rfl))
 f212 := Tryz.func264.trans (congrArg some (by kernel_rfl))
 f240 := Tryz.func262.trans (congrArg some (by kernel_rfl))
 f241 := Tryz.func283.trans (congrArg some (by kernel_rfl))
 f263 := Tryz.func280.trans (congrArg some (by kernel_rfl))
 f264 := Tryz.func281.trans (congrArg some (by kernel_rfl))
 f276 := Tryz.func278.trans (congrArg some (by kernel_rfl))
 f277 := Tryz.func288.trans (congrArg some (by kernel_rfl))
 t0 := Tryz.underlying0
 a0 := Tryz.isAgg0
 z0 := Tryz.sizeOf0
 v0 := Tryz.zeroValue0
 t3 := Tryz.underlying3
 a3 := Tryz.isAgg3
 z3 := Tryz.sizeOf3
 v3 := Tryz.zeroValue3
 t4 := Tryz.underlying4
 a4 := Tryz.isAgg4
 z4 := Tryz.sizeOf4
 v4 := Tryz.zeroValue4
 t5 := Tryz.underlying5
 a5 := Tryz.isAgg5
 z5 := Tryz.sizeOf5
 v5 := Tryz.zeroValue5
 t9 := Tryz.underlying9
 a9 := Tryz.isAgg9
 z9 := Tryz.sizeOf9
 v9 := Tryz.zeroValue9
 t20 := Tryz.underlying20
 a20 := Tryz.isAgg20
 z20 := Tryz.sizeOf20
 v20 := Tryz.zeroValue20
 t37 := Tryz.underlying306
 a37 := Tryz.isAgg306
 z37 := Tryz.sizeOf306
 v37 := Tryz.zeroValue306
 t46 := Tryz.underlying49
 a46 := Tryz.isAgg49
 z46 := Tryz.sizeOf49
 v46 := Tryz.zeroValue49
 t51 := Tryz.underlying333
 a51 := Tryz.isAgg333
 z51 := Tryz.sizeOf333
 v51 := Tryz.zeroValue333
 t53 := Tryz.underlying315
 a53 := Tryz.isAgg315
 z53 := Tryz.sizeOf315
 v53 := Tryz.zeroValue315
 t70 := Tryz.underlying305
 a70 := Tryz.isAgg305
 z70 := Tryz.sizeOf305
 v70 := Tryz.zeroValue305
 t72 := Tryz.underlying308
 a72 := Tryz.isAgg308
 z72 := Tryz.sizeOf308
 v72 := Tryz.zeroValue308
 t75 := Tryz.underlying294
 a75 := Tryz.isAgg294
 z75 := Tryz.sizeOf294
 v75 := Tryz.zeroValue294
 t76 := Tryz.underlying295
 a76 := Tryz.isAgg295
 z76 := Tryz.sizeOf295
 v76 := Tryz.zeroValue295
 t109 := Tryz.underlying328
 a109 := Tryz.isAgg328
 z109 := Tryz.sizeOf328
 v109 := Tryz.zeroValue328
 t127 := Tryz.underlying327
 a127 := Tryz.isAgg327
 z127 := Tryz.sizeOf327
 v127 := Tryz.zeroValue327
 t146 := Tryz.underlying344
 a146 := Tryz.isAgg344
 z146 := Tryz.sizeOf344
 v146 := Tryz.zeroValue344
 t148 := Tryz.underlying346
 a148 := Tryz.isAgg346
 z148 := Tryz.sizeOf346
 v148 := Tryz.zeroValue346
 t164 := Tryz.underlying342
 a164 := Tryz.isAgg342
 z164 := Tryz.sizeOf342
 v164 := Tryz.zeroValue342 }
theorem Tryz.Builder_Extra_105 : Builder.Extra Tryz.prog Tryz.lays105_ren := {
 sizeBuilder := by kernel_rfl
 liesBuilder := by kernel_rfl
 t5 := Tryz.underlying5
 a5 := Tryz.isAgg5
 z5 := Tryz.sizeOf5
 v5 := Tryz.zeroValue5
 infoByte := by kernel_rfl
 cellsByte := by kernel_rfl
 sizeByte := by kernel_rfl
 neB5 := by decide }
open Go.RowKit Go.Lib in
theorem Tryz.strings_Repeat (s : ByteArray) (c : Nat) (w : World) (hc : c ≤ 9223372036854775807) (hlen : s.size * c ≤ 140737488355328) :
  Calls Tryz.prog 251 #[.string s,.int .i64 c] w fun e w' => e = .returned (.string ⟨(Lib.repeatL s.data.toList c).toArray⟩) ∧ Below w.heap.size w w' := Any.strings_Repeat Tryz.lays105 Tryz.Builder_Extra_105 s c w hc hlen
end Go.Proofs
namespace Go.Proofs.YtcbombkaacjngaaGreatDoor
open Go Go.LX
set_option maxRecDepth 100000
set_option linter.unusedVariables false
set_option linter.unusedSimpArgs false
set_option maxHeartbeats 32000000
theorem dec_at (l : List UInt8) (hl : ∀ c ∈ l,c.toNat < 128) (i : Nat) (c : UInt8) (h : l[i]? = some c) : Utf8.decode ⟨l.toArray⟩ i = (c.toNat,1) := by
 have hi := (List.getElem?_eq_some_iff.1 h).1
 have hc : l[i] = c := (List.getElem?_eq_some_iff.1 h).2
 have hsz : i < (ByteArray.mk l.toArray).size := by show i < l.toArray.size; simpa using hi
 have hg : (ByteArray.mk l.toArray)[i]'hsz = c := by show l.toArray[i]'_ = c; simpa using hc
 have := decode_ascii ⟨l.toArray⟩ i hsz (by rw [hg]; exact hl c (List.mem_of_getElem? h))
 rw [this,hg]
def wordsOf (c : Int) : Int := if c = 0 then 4 else if c = 1 then 8 else if c = 2 then 16 else if c = 3 then 32 else 0
def slotsOf (c : Int) : Nat := if c = 0 then 8 else if c = 1 then 4 else if c = 2 then 2 else if c = 3 then 1 else 0
theorem words_lx (c w : Int) (hw : w = wordsOf c) : CallF (fun _ => Tryz.prog) 146 [i6 c] [] 0 (fun r h n => r = .p (.int .i64 (.sym w)) ∧ h = [] ∧ n = 0) := by
 obtain ⟨Z,hZ⟩ : ∃ Z : List UInt8,Z = [4,8,16,32] := ⟨_,rfl⟩
 refine callF_of_body tok Tryz.func146 (by kernel_rfl) rfl rfl rfl ?_; conv => cbv
 refine LoopF.mk (fun k s => ∃ pos : Int,s = ⟨.p (.int .i64 (.sym c)) :: .undef :: .undef :: .undef :: .undef :: .ptr 0 (.lit 0) :: undefs 9,[(0,.iter (fun _ => ⟨#[4,8,16,32]⟩) (.sym pos))],1⟩ ∧ 0 ≤ pos ∧ pos ≤ 4 ∧ (c < 0 ∨ pos ≤ c) ∧ k = (4 - pos).toNat) 4 _
  (Re.at [(0,0)] []) ⟨0,rfl,by omega,by omega,by omega,by omega⟩ ?_
 rintro k s ⟨pos,rfl,h0,h4,hno,hk⟩
 conv => cbv
 by_cases hend : pos = 4
 ·have hw0 : w = 0 := by
   rw [hw,wordsOf,if_neg (by omega),if_neg (by omega),if_neg (by omega),if_neg (by omega)]
  refine NextS.over (by show (4 : Int) ≤ pos; omega) ?_
  conv => cbv
  refine RetF.mk [i6 w] [] 0 (Re.at [] []) rfl ⟨rfl,rfl,rfl⟩
 ·obtain ⟨x,hx⟩ : ∃ x,([4,8,16,32] : List UInt8)[pos.toNat]? = some x := ⟨_,List.getElem?_eq_getElem (by simp; omega)⟩
  have hd := dec_at [4,8,16,32] (by decide) pos.toNat x hx
  have hxw : c = pos → (x.toNat : Int) = w := by
   intro e
   have : pos = 0 ∨ pos = 1 ∨ pos = 2 ∨ pos = 3 := by omega
   rcases this with e2 | e2 | e2 | e2 <;> (rw [e2] at hx; rw [hw,e,e2]; have hx := Option.some.inj hx; rw [← hx]; decide)
  refine NextS.more (by show pos < (4 : Int); omega) ?_
  intro r p' hr hp
  have hr : r = (x.toNat : Int) := by
   have : r = ((Utf8.decode ⟨#[4,8,16,32]⟩ pos.toNat).1 : Int) := hr
   rw [this,hd]
  have hp : p' = pos + 1 := by
   have : p' = pos + ((Utf8.decode ⟨#[4,8,16,32]⟩ pos.toNat).2 : Int) := hp
   rw [this,hd]; rfl
  have hx256 : x.toNat < 256 := x.toNat_lt
  obtain ⟨k',rfl⟩ : ∃ k',k = k' + 1 := ⟨k - 1,by omega⟩
  conv => cbv
  refine Br.mk (fun g => ?_) (fun g => ?_)
  ·have g : pos = c := g
   conv => cbv
   refine Fit.mk (by show (-9223372036854775808 : Int) ≤ r; omega) (by show r ≤ 9223372036854775807; omega) fun q hq => ?_
   have hq : q = r := hq
   have hqw : q = w := by rw [hq,hr]; exact hxw g.symm
   conv => cbv
   refine RetF.mk [i6 w] [] 0 (Re.at [] []) rfl ⟨rfl,rfl,rfl⟩
  ·have g : ¬ pos = c := g
   conv => cbv
   refine Again.mk k' _ (Nat.lt_succ_self _) (Re.at [(0,0)] []) ⟨p',rfl,by omega,by omega,by omega,by omega⟩
def mkB (l : List Bool) : List UInt8 := l.map fun b => if b then 120 else 46
theorem mkB_low (l : List Bool) : ∀ c ∈ mkB l,c.toNat < 128 := by
 intro c hc
 obtain ⟨b,_,rfl⟩ := List.mem_map.1 hc
 cases b <;> decide
theorem mk_size (l : List UInt8) : (ByteArray.mk l.toArray).size = l.length := by show l.toArray.size = _; simp
theorem mkB_length (l : List Bool) : (mkB l).length = l.length := List.length_map _
theorem firstUnused_lx (l : List Bool) (z : ByteArray) (hz : z = ⟨(mkB l).toArray⟩) (hl : l.length ≤ 100) : CallF (fun _ => Tryz.prog) 241 [.p (.str fun _ => z)] [] 0
  (fun r h n => (∃ (v : Int) (b : Bool),r = .tup [i6 v,.p (.bool b)] ∧ ((b = true ∧ ∃ i : Nat,v = i ∧ l[i]? = some false ∧ ∀ j,j < i → l[j]? = some true) ∨ (b = false ∧ v = 0 ∧ false ∉ l))) ∧ h = [] ∧ n = 0) := by
 refine callF_of_body tok Tryz.func241 (by kernel_rfl) rfl rfl rfl ?_; conv => cbv
 obtain ⟨N,hN⟩ : ∃ N : Int,N = l.length := ⟨_,rfl⟩
 refine LoopF.mk (fun k s => ∃ (pos : Int),s = ⟨.p (.str fun _ => z) :: .undef :: .undef :: .undef :: .undef :: .undef :: .undef :: .ptr 0 (.lit 0) :: undefs 7,[(0,.iter (fun _ => z) (.sym pos))],1⟩ ∧ 0 ≤ pos ∧ pos ≤ N ∧ (∀ j : Nat,(j : Int) < pos → l[j]? = some true) ∧ k = (N - pos).toNat) N.toNat _
  (Re.at [(0,0)] []) ⟨0,rfl,by omega,by omega,fun j hj => absurd hj (by omega),by omega⟩ ?_
 rintro k s ⟨pos,rfl,h0,h1,hinv,hk⟩
 have hzs : (z.size : Int) = N := by rw [hz,mk_size,mkB_length,hN]
 conv => cbv
 by_cases hend : pos = N
 ·refine NextS.over (by show (z.size : Int) ≤ pos; omega) ?_
  conv => cbv
  refine RetF.mk [i6 0,.p (.bool false)] [] 0 (Re.at [] []) rfl ⟨⟨0,false,rfl,.inr ⟨rfl,rfl,fun h => ?_⟩⟩,rfl,rfl⟩
  obtain ⟨j,hj⟩ := List.getElem?_of_mem h
  have := (List.getElem?_eq_some_iff.1 hj).1
  rw [hinv j (by omega)] at hj
  cases hj
 ·obtain ⟨b,hb⟩ : ∃ b,l[pos.toNat]? = some b := ⟨_,List.getElem?_eq_getElem (by omega)⟩
  have hx : (mkB l)[pos.toNat]? = some (if b then 120 else 46) := by rw [mkB,List.getElem?_map,hb]; rfl
  have hd := dec_at (mkB l) (mkB_low l) pos.toNat _ hx
  rw [← hz] at hd
  refine NextS.more (by show pos < (z.size : Int); omega) ?_
  intro r p' hr hp
  have hr : r = (if b then 120 else 46) := by
   have : r = ((Utf8.decode z pos.toNat).1 : Int) := hr
   rw [this,hd]; cases b <;> rfl
  have hp : p' = pos + 1 := by
   have : p' = pos + ((Utf8.decode z pos.toNat).2 : Int) := hp
   rw [this,hd]; rfl
  obtain ⟨k',rfl⟩ : ∃ k',k = k' + 1 := ⟨k - 1,by omega⟩
  conv => cbv
  refine Br.mk (fun g => ?_) (fun g => ?_)
  ·have g : r = 46 := g
   have hbf : b = false := by
    cases b with
    | false => rfl
    | true => simp at hr; omega
   conv => cbv
   refine RetF.mk [i6 pos,.p (.bool true)] [] 0 (Re.at [] []) rfl ⟨⟨pos,true,rfl,.inl ⟨rfl,pos.toNat,(Int.toNat_of_nonneg h0).symm,by rw [hb,hbf],fun j hj => hinv j (by omega)⟩⟩,rfl,rfl⟩
  ·have g : ¬ r = 46 := g
   have hbt : b = true := by
    cases b with
    | true => rfl
    | false => simp at hr; omega
   have hinv2 : ∀ j : Nat,(j : Int) < p' → l[j]? = some true := fun j hj => by
    by_cases e : (j : Int) = pos
    ·rw [show j = pos.toNat by omega,hb,hbt]
    ·exact hinv j (by omega)
   conv => cbv
   refine Again.mk k' _ (Nat.lt_succ_self _) (Re.at [(0,0)] []) ⟨p',rfl,by omega,by omega,hinv2,by omega⟩
theorem countUsed_lx (l : List Bool) (z : ByteArray) (hz : z = ⟨(mkB l).toArray⟩) (hl : l.length ≤ 100) : CallF (fun _ => Tryz.prog) 208 [.p (.str fun _ => z)] [] 0
  (fun r h n => (∃ v : Int,r = .p (.int .i64 (.sym v)) ∧ v = l.count true) ∧ h = [] ∧ n = 0) := by
 refine callF_of_body tok Tryz.func208 (by kernel_rfl) rfl rfl rfl ?_; conv => cbv
 obtain ⟨N,hN⟩ : ∃ N : Int,N = l.length := ⟨_,rfl⟩
 refine LoopF.mk (fun k s => ∃ (pos cnt : Int),s = ⟨.p (.str fun _ => z) :: .undef :: .undef :: .p (.int .i64 (.sym cnt)) :: .undef :: .undef :: .undef :: .ptr 0 (.lit 0) :: undefs 8,[(0,.iter (fun _ => z) (.sym pos))],1⟩ ∧ 0 ≤ pos ∧ pos ≤ N ∧ cnt = (l.take pos.toNat).count true ∧ k = (N - pos).toNat) N.toNat _
  (Re.at [(0,0)] []) ⟨0,0,rfl,by omega,by omega,by simp,by omega⟩ ?_
 rintro k s ⟨pos,cnt,rfl,h0,h1,hinv,hk⟩
 have hzs : (z.size : Int) = N := by rw [hz,mk_size,mkB_length,hN]
 conv => cbv
 by_cases hend : pos = N
 ·refine NextS.over (by show (z.size : Int) ≤ pos; omega) ?_
  conv => cbv
  refine RetF.mk [i6 cnt] [] 0 (Re.at [] []) rfl ⟨⟨cnt,rfl,?_⟩,rfl,rfl⟩
  rw [hinv,List.take_of_length_le (by omega)]
 ·obtain ⟨b,hb⟩ : ∃ b,l[pos.toNat]? = some b := ⟨_,List.getElem?_eq_getElem (by omega)⟩
  have hx : (mkB l)[pos.toNat]? = some (if b then 120 else 46) := by rw [mkB,List.getElem?_map,hb]; rfl
  have hd := dec_at (mkB l) (mkB_low l) pos.toNat _ hx
  rw [← hz] at hd
  refine NextS.more (by show pos < (z.size : Int); omega) ?_
  intro r p' hr hp
  have hr : r = (if b then 120 else 46) := by
   have : r = ((Utf8.decode z pos.toNat).1 : Int) := hr
   rw [this,hd]; cases b <;> rfl
  have hp : p' = pos + 1 := by
   have : p' = pos + ((Utf8.decode z pos.toNat).2 : Int) := hp
   rw [this,hd]; rfl
  obtain ⟨k',rfl⟩ : ∃ k',k = k' + 1 := ⟨k - 1,by omega⟩
  conv => cbv
  refine Br.mk (fun g => ?_) (fun g => ?_)
  ·have g : r = 120 := g
   have hbt : b = true := by
    cases b with
    | true => rfl
    | false => simp at hr; omega
   have hcl := List.count_le_length (a := true) (l := l.take pos.toNat)
   have htl : (l.take pos.toNat).length ≤ 100 := by rw [List.length_take]; omega
   conv => cbv
   refine Fit.mk (by show (-9223372036854775808 : Int) ≤ cnt + 1; omega) (by show cnt + 1 ≤ 9223372036854775807; omega) fun c2 hc2 => ?_
   have hc2 : c2 = cnt + 1 := hc2
   have q : c2 = (l.take p'.toNat).count true := by
    rw [show p'.toNat = pos.toNat + 1 by omega,List.take_add_one,hb,hbt,List.count_append,hc2,hinv]; simp
   conv => cbv
   refine Again.mk k' _ (Nat.lt_succ_self _) (Re.at [(0,0)] []) ⟨p',c2,rfl,by omega,by omega,q,by omega⟩
  ·have g : ¬ r = 120 := g
   have hbf : b = false := by
    cases b with
    | false => rfl
    | true => simp at hr; omega
   have q : cnt = (l.take p'.toNat).count true := by
    rw [show p'.toNat = pos.toNat + 1 by omega,List.take_add_one,hb,hbf,List.count_append,hinv]; simp
   conv => cbv
   refine Again.mk k' _ (Nat.lt_succ_self _) (Re.at [(0,0)] []) ⟨p',cnt,rfl,by omega,by omega,q,by omega⟩
theorem slots_lx (c k : Int) (hk : k = slotsOf c) : CallF (fun _ => Tryz.prog) 151 [i6 c] [] 0 (fun r h n => r = .p (.int .i64 (.sym k)) ∧ h = [] ∧ n = 0) := by
 obtain ⟨w,hw⟩ : ∃ w,w = wordsOf c := ⟨_,rfl⟩
 refine callF_of_body tok Tryz.func151 (by kernel_rfl) rfl rfl rfl ?_; conv => cbv
 refine callF_frame (words_lx c w hw) [] rfl trivial rfl rfl (fun r h' n' ⟨e1,e2,e3⟩ => ?_)
 subst e1 e2 e3
 conv => cbv
 have hk2 : k = (if w = 0 then 0 else (32 : Int).tdiv w) := by
  rw [hk,hw,slotsOf,wordsOf]
  by_cases h0 : c = 0
  ·rw [if_pos h0,if_pos h0]; rfl
  ·by_cases h1 : c = 1
   ·rw [if_neg h0,if_pos h1,if_neg h0,if_pos h1]; rfl
   ·by_cases h2 : c = 2
    ·rw [if_neg h0,if_neg h1,if_pos h2,if_neg h0,if_neg h1,if_pos h2]; rfl
    ·by_cases h3 : c = 3
     ·rw [if_neg h0,if_neg h1,if_neg h2,if_pos h3,if_neg h0,if_neg h1,if_neg h2,if_pos h3]; rfl
     ·rw [if_neg h0,if_neg h1,if_neg h2,if_neg h3,if_neg h0,if_neg h1,if_neg h2,if_neg h3]; rfl
 have hk8 : 0 ≤ k ∧ k ≤ 8 := by
  rw [hk]; unfold slotsOf; split
  ·omega
  ·split
   ·omega
   ·split
    ·omega
    ·split <;> omega
 refine Br.mk (fun g => ?_) (fun g => ?_)
 ·have g : w = 0 := g
  rw [if_pos g] at hk2
  conv => cbv
  refine RetF.mk [i6 k] [] 0 (Re.at [] []) rfl ⟨rfl,rfl,rfl⟩
 ·have g : ¬ w = 0 := g
  rw [if_neg g] at hk2
  conv => cbv
  refine Need.mk (show w ≠ 0 from g) ?_
  conv => cbv
  refine Fit.mk (by show (-9223372036854775808 : Int) ≤ Int.tdiv 32 w; omega) (by show Int.tdiv 32 w ≤ 9223372036854775807; omega) fun q hq => ?_
  have hq : q = Int.tdiv 32 w := hq
  have hqk : q = k := by rw [hq,hk2]
  conv => cbv
  refine RetF.mk [i6 k] [] 0 (Re.at [] []) rfl ⟨rfl,rfl,rfl⟩
end Go.Proofs.YtcbombkaacjngaaGreatDoor
namespace Go.Proofs.YtcbombkaacjngaaGreatDoor
open Go Go.LX
set_option maxRecDepth 100000
set_option linter.unusedVariables false
set_option linter.unusedSimpArgs false
set_option maxHeartbeats 32000000
abbrev Rw := Int × List Bool
def rpv : List Rw → List PV
 | [] => []
 | (c,l) :: R => .int .i64 (.sym c) :: .str (fun _ => ⟨(mkB l).toArray⟩) :: rpv R
theorem rpv_length : ∀ R : List Rw,(rpv R).length = 2 * R.length
 | [] => rfl
 | (c,l) :: R => by simp [rpv,rpv_length R]; omega
theorem rpv_get : ∀ (R : List Rw) (i : Nat) (e : Rw),R[i]? = some e → (rpv R)[2 * i]? = some (.int .i64 (.sym e.1)) ∧ (rpv R)[2 * i + 1]? = some (.str fun _ => ⟨(mkB e.2).toArray⟩)
 | [],i,e,h => by simp at h
 | (c,l) :: R,0,e,h => by simp at h; subst h; exact ⟨rfl,rfl⟩
 | (c,l) :: R,i + 1,e,h => by
  have := rpv_get R i e (by simpa using h)
  rw [show 2 * (i + 1) = 2 * i + 1 + 1 by omega]
  simpa [rpv] using this
theorem repeatL_dot : ∀ k,Lib.repeatL [46] k = mkB (List.replicate k false)
 | 0 => rfl
 | k + 1 => by rw [Lib.repeatL,repeatL_dot k,List.replicate_succ]; rfl
theorem repeat_lx (k : Nat) (z : ByteArray) (hz : z = ⟨(mkB (List.replicate k false)).toArray⟩) (hk : k ≤ 100) :
  CallF (fun _ => Tryz.prog) 251 [.p (.str fun _ => ⟨#[46]⟩),i6 k] [] 0 (fun r h n => r = .p (.str fun _ => z) ∧ h = [] ∧ n = 0) := by
 refine callF_calls (K := fun r => r = .p (.str fun _ => z)) ⟨_,_,Tryz.func251,by kernel_rfl,rfl⟩ fun c w xs hr hN hl hrel => ?_
 have h0 := hrel 0 _ rfl
 have h1 := hrel 1 _ rfl
 obtain ⟨x,y,rfl⟩ : ∃ x y,xs = #[x,y] := by
  rcases xs with ⟨l⟩
  match l,hl with
  | [x,y],_ => exact ⟨x,y,rfl⟩
 have hx : x = .string ⟨#[46]⟩ := LR.inv_str h0
 have hy : y = .int .i64 k := LR.inv_int h1
 subst hx hy
 refine (Tryz.strings_Repeat ⟨#[46]⟩ k w (by omega) (by show 1 * k ≤ _; omega)).mono fun e w' ⟨he,hw⟩ => ?_
 have hzz : (⟨(Lib.repeatL [46] k).toArray⟩ : ByteArray) = z := by rw [hz,repeatL_dot]
 have he : e = .returned (.string ⟨(Lib.repeatL [46] k).toArray⟩) := he
 rw [hzz] at he
 exact ⟨_,_,he,rfl,hw,fun c' => .p _ _ (.str _)⟩
theorem unusedRow_lx (c : Int) (z : ByteArray) (hz : z = ⟨(mkB (List.replicate (slotsOf c) false)).toArray⟩) : CallF (fun _ => Tryz.prog) 240 [i6 c] [] 0 (fun r h n => r = .agg [i6 c,.p (.str fun _ => z)] ∧ h = [] ∧ n = 0) := by
 obtain ⟨k,hk⟩ : ∃ k : Int,k = slotsOf c := ⟨_,rfl⟩
 have hk8 : slotsOf c ≤ 8 := by
  unfold slotsOf; split
  ·omega
  ·split
   ·omega
   ·split
    ·omega
    ·split <;> omega
 refine callF_of_body tok Tryz.func240 (by kernel_rfl) rfl rfl rfl ?_; conv => cbv
 refine callF_frame (slots_lx c k hk) [] rfl trivial rfl rfl (fun r h' n' ⟨e1,e2,e3⟩ => ?_)
 subst e1 e2 e3
 obtain ⟨q,hq⟩ : ∃ q,q = slotsOf c := ⟨_,rfl⟩
 rw [← hq] at hk hk8 hz
 subst hk
 conv => cbv
 refine callF_frame (repeat_lx q z hz (by omega)) [] rfl trivial rfl rfl (fun r h' n' ⟨e1,e2,e3⟩ => ?_)
 subst e1 e2 e3
 conv => cbv
 refine RetF.mk [.agg [i6 c,.p (.str fun _ => z)]] [] 0 (Re.at [] []) rfl ⟨rfl,rfl,rfl⟩
theorem rpv_zero : ∀ k,pvles (repsP [.int .i64 (.lit 0),.str fun _ => ⟨#[]⟩] k) (rpv (List.replicate k (0,[])))
 | 0 => trivial
 | k + 1 => by
  rw [repsP,List.replicate_succ,rpv]
  exact ⟨by simp [pvle,I.val],SEq.mk rfl,rpv_zero k⟩
theorem spanNew_lx (n : Int) (h2 : 2 ≤ n) (h8 : n ≤ 128) (L : List PV) (hL : L = rpv (List.replicate n.toNat (0,[]))) : CallF (fun _ => Tryz.prog) 202 [i6 n] [] 0
  (fun r h m => r = .tup [.ptr 0 (.lit 0),.p (.int .i64 (.lit 0))] ∧ h = [hpC 0 1 270 2 n,hpP 1 L] ∧ m = 2) := by
 refine callF_of_body tok Tryz.func202 (by kernel_rfl) rfl rfl rfl ?_; conv => cbv
 refine Br.mk (fun g1 => ?_) (fun g1 => ?_)
 ·have gf : False := by have g1 : n < 2 := g1; omega
  cases gf
 ·conv => cbv
  refine Br.mk (fun g2 => ?_) (fun g2 => ?_)
  ·have gf : False := by have g2 : 128 < n := g2; omega
   cases gf
  ·conv => cbv
   refine Need.mk ⟨by show 0 ≤ n; omega,Int.le_refl _,by show n * 24 ≤ 140737488355328; omega,by show n ≤ 9223372036854775807; omega⟩ ?_
   conv => cbv
   refine Upd.mk fun L0 hL0 => ?_
   have hle : pvles L0 L := by
    have hL0 : L0 = repsP [.int .i64 (.lit 0),.str fun _ => ⟨#[]⟩] n.toNat := hL0
    rw [hL0,hL]; exact rpv_zero _
   clear hL0 hL
   unfold pvles at hle
   conv => cbv
   refine RetF.mk [.ptr 0 (.lit 0),.p (.int .i64 (.lit 0))] [hpC 0 1 270 2 n,hpP 1 L] 2 (Re.at [(1,0),(0,1)] []) rfl ⟨rfl,rfl,rfl⟩
theorem rpv_upd : ∀ (R : List Rw) (i : Nat) (c : Int) (l l2 : List Bool),R[i]? = some (c,l) → updL (rpv R) (2 * i + 1) [.str fun _ => ⟨(mkB l2).toArray⟩] = rpv (R.set i (c,l2))
 | [],i,c,l,l2,h => by simp at h
 | (c1,l1) :: R,0,c,l,l2,h => by
  simp at h
  obtain ⟨rfl,rfl⟩ := h
  rfl
 | (c1,l1) :: R,i + 1,c,l,l2,h => by
  have ih := rpv_upd R i c l l2 (by simpa using h)
  simp only [updL] at ih ⊢
  rw [List.set_cons_succ,rpv,rpv,← ih,show 2 * (i + 1) + 1 = 2 * i + 1 + 1 + 1 by omega,List.set_cons_succ,List.set_cons_succ]
theorem mark_lx (R : List Rw) (n i j sg cl : Int) (l : List Bool) (L : List PV) (hL : L = rpv R) (hn : n = R.length) (hi0 : 0 ≤ i) (hi : R[i.toNat]? = some (cl,l)) (hll : l.length ≤ 8) (hR : R.length ≤ 1000) (b : Bool) (hs : sg = if b then 120 else 46) :
  CallF (fun _ => Tryz.prog) 238 [.ptr 0 (.lit 0),i6 i,i6 j,.p (.int .i32 (.sym sg))] [hpC 0 1 270 2 n,hpP 1 L] 2
   (fun r h n' => ∃ L' : List PV,r = .tup [] ∧ h = [hpC 0 1 270 2 n,hpP 1 L'] ∧ n' = 2 ∧ L' = rpv (R.set i.toNat (cl,if 0 ≤ j then l.set j.toNat b else l))) := by
 have hiR : i.toNat < R.length := (List.getElem?_eq_some_iff.1 hi).1
 obtain ⟨y,hy⟩ : ∃ y : ByteArray,y = ⟨(mkB l).toArray⟩ := ⟨_,rfl⟩
 obtain ⟨c1,c2⟩ := rpv_get R i.toNat _ hi
 dsimp only at c1 c2
 rw [← hL] at c1 c2
 rw [← hy] at c2
 refine callF_of_body tok Tryz.func238 (by kernel_rfl) rfl rfl rfl ?_; conv => cbv
 refine Need.mk ⟨hi0,by show i < n; omega⟩ ?_
 conv => cbv
 refine Sum.mk fun w hw => ?_
 have hw : w = i * 2 := hw
 conv => cbv
 refine Sum.mk fun a ha => ?_
 have ha : a = w + 1 := ha
 conv => cbv
 refine Cell.at a _ c2 (by simp [I.val]) (by omega) ?_
 conv => cbv
 obtain ⟨l2,hl2⟩ : ∃ l2,l2 = (if 0 ≤ j then l.set j.toNat b else l) := ⟨_,rfl⟩
 have hl2l : l2.length = l.length := by rw [hl2]; split <;> simp
 obtain ⟨N,hN⟩ : ∃ N : Int,N = l.length := ⟨_,rfl⟩
 have hys : (y.size : Int) = N := by rw [hy,mk_size,mkB_length,hN]
 have hsg : 0 ≤ sg ∧ sg ≤ 127 ∧ sg.toNat.toUInt8 = (if b then 120 else 46) := by cases b <;> simp at hs <;> subst hs <;> decide
 refine LoopF.mk (fun k s => ∃ (pos q : Int) (M : List PV) (t : ByteArray),s = ⟨.ptr 0 (.lit 0) :: .p (.int .i64 (.sym i)) :: .p (.int .i64 (.sym j)) :: .p (.int .i32 (.sym sg)) :: (undefs 4 ++ .ptr 2 (.lit 0) :: (undefs 10 ++ .ptr 3 (.lit 0) :: undefs 18)),[(3,.iter (fun _ => y) (.sym pos)),(2,.bld 308 [.sl 4 5 1 (.lit 0) (.sym q)]),hpP 4 M,hpC 0 1 270 2 n,hpP 1 L],5⟩ ∧ 0 ≤ pos ∧ pos ≤ N ∧ M = bytesPV t ∧ q = t.size ∧ t = ⟨(mkB (l2.take pos.toNat)).toArray⟩ ∧ k = (N - pos).toNat) N.toNat _
  (Re.at [(0,0),(1,1),(2,2),(3,3)] [4]) ⟨0,0,[],⟨#[]⟩,rfl,by omega,by omega,rfl,rfl,rfl,by omega⟩ ?_
 rintro k s ⟨pos,q,M,t,rfl,h0,h1,hM,hq,ht,hk⟩
 have hts : t.size ≤ 8 := by rw [ht,mk_size,mkB_length,List.length_take]; omega
 conv => cbv
 by_cases hend : pos = N
 ·refine NextS.over (by show (y.size : Int) ≤ pos; omega) ?_
  conv => cbv
  refine drawn_sound tok (by kernel_rfl) [(5,[4,3,2,1,0]),(8,[])] [0,1,2,3,4,5,6,7,8] (by kernel_rfl) ?_; conv => cbv
  refine cfr (string_lx q M t hM hq) [(0,2),(1,4)] (fun r h' n' ⟨e1,e2,e3⟩ => ?_)
  subst e1 e2 e3
  conv => cbv
  refine Need.mk ⟨hi0,by show i < n; omega⟩ ?_
  conv => cbv
  refine Sum.mk fun w2 hw2 => ?_
  have hw2 : w2 = i * 2 := hw2
  conv => cbv
  refine Sum.mk fun a2 ha2 => ?_
  have ha2 : a2 = w2 + 1 := ha2
  have hLl : L.length = 2 * R.length := by rw [hL,rpv_length]
  conv => cbv
  refine Need.mk (by show a2 + ((1 : Nat) : Int) ≤ (L.length : Int); omega) ?_
  conv => cbv
  refine Upd.mk fun L2 hL2 => ?_
  have hL2 : L2 = updL L a2.toNat [.str fun _ => t] := hL2
  have q1 : L2 = rpv (R.set i.toNat (cl,l2)) := by
   have ht2 : t = ⟨(mkB l2).toArray⟩ := by rw [ht,List.take_of_length_le (by omega)]
   rw [hL2,hL,show a2.toNat = 2 * i.toNat + 1 by omega,ht2]
   exact rpv_upd R i.toNat cl l l2 hi
  rw [hl2] at q1
  clear hL2
  conv => cbv
  refine RetF.mk [] [hpC 0 1 270 2 n,hpP 1 L2] 2 (Re.at [(0,0),(1,1)] []) rfl ⟨L2,rfl,rfl,rfl,q1⟩
 ·obtain ⟨x,hb⟩ : ∃ x,l[pos.toNat]? = some x := ⟨_,List.getElem?_eq_getElem (by omega)⟩
  have hx : (mkB l)[pos.toNat]? = some (if x then 120 else 46) := by rw [mkB,List.getElem?_map,hb]; rfl
  have hd := dec_at (mkB l) (mkB_low l) pos.toNat _ hx
  rw [← hy] at hd
  refine NextS.more (by show pos < (y.size : Int); omega) ?_
  intro r p' hr hp
  have hr : r = (if x then 120 else 46) := by
   have : r = ((Utf8.decode y pos.toNat).1 : Int) := hr
   rw [this,hd]; cases x <;> rfl
  have hp : p' = pos + 1 := by
   have : p' = pos + ((Utf8.decode y pos.toNat).2 : Int) := hp
   rw [this,hd]; rfl
  have hrg : 0 ≤ r ∧ r ≤ 127 ∧ r.toNat.toUInt8 = (if x then 120 else 46) := by cases x <;> simp at hr <;> subst hr <;> decide
  have hnx : ∀ (v : Bool),l2[pos.toNat]? = some v → t ++ ⟨#[if v then 120 else 46]⟩ = ⟨(mkB (l2.take p'.toNat)).toArray⟩ := by
   intro v hv
   rw [show p'.toNat = pos.toNat + 1 by omega,List.take_add_one,hv,ht]
   apply ByteArray.ext
   apply Array.ext'
   simp [ByteArray.data_append,mkB]
  obtain ⟨k',rfl⟩ : ∃ k',k = k' + 1 := ⟨k - 1,by omega⟩
  conv => cbv
  refine Br.mk (fun g => ?_) (fun g => ?_)
  ·have g : pos = j := g
   have hv : l2[pos.toNat]? = some b := by
    rw [hl2,if_pos (by omega),← g,List.getElem?_set_self (by omega)]
   have hn2 := hnx b hv
   rw [← hsg.2.2] at hn2
   conv => cbv
   refine cfr (writeRune_lx q sg M t hM hq hsg.1 hsg.2.1 (by omega)) [(0,2),(1,4)] (fun r h' n' ⟨m2,k2,L2,e1,e2,e3,hL2,hk2⟩ => ?_)
   subst e1 e2 e3
   conv => cbv
   refine Again.mk k' _ (Nat.lt_succ_self _) (Re.at [(0,0),(1,1),(2,2),(3,3),(5,4)] []) ⟨p',k2,L2,_,rfl,by omega,by omega,hL2,hk2,hn2,by omega⟩
  ·have g : ¬ pos = j := g
   have hv : l2[pos.toNat]? = some x := by
    rw [hl2]
    split
    ·rw [List.getElem?_set_ne (by omega)]; exact hb
    ·exact hb
   have hn2 := hnx x hv
   rw [← hrg.2.2] at hn2
   conv => cbv
   refine cfr (writeRune_lx q r M t hM hq hrg.1 hrg.2.1 (by omega)) [(0,2),(1,4)] (fun r h' n' ⟨m2,k2,L2,e1,e2,e3,hL2,hk2⟩ => ?_)
   subst e1 e2 e3
   conv => cbv
   refine Again.mk k' _ (Nat.lt_succ_self _) (Re.at [(0,0),(1,1),(2,2),(3,3),(5,4)] []) ⟨p',k2,L2,_,rfl,by omega,by omega,hL2,hk2,hn2,by omega⟩
theorem rpv_upd2 : ∀ (R : List Rw) (i : Nat) (c : Int) (l2 : List Bool) (z : ByteArray),z = ⟨(mkB l2).toArray⟩ → i < R.length → updL (rpv R) (2 * i) [.int .i64 (.sym c),.str fun _ => z] = rpv (R.set i (c,l2))
 | [],i,c,l2,z,_,h => by simp at h
 | (c1,l1) :: R,0,c,l2,z,hz,_ => by subst hz; rfl
 | (c1,l1) :: R,i + 1,c,l2,z,hz,h => by
  have ih := rpv_upd2 R i c l2 z hz (by simpa using h)
  simp only [updL] at ih ⊢
  rw [List.set_cons_succ,rpv,rpv,← ih]
  rfl
inductive Alloced (R : List Rw) (c : Int) : Int → Int → Bool → List Rw → Prop
 | no (h : slotsOf c = 0) : Alloced R c 0 0 false R
 | old (i s : Nat) (l : List Bool) (h0 : slotsOf c ≠ 0) (hi : R[i]? = some (c,l)) (hs : l[s]? = some false) (h1 : ∀ j,j < s → l[j]? = some true) (h2 : ∀ (j : Nat),j < i → ∀ (m : List Bool),R[j]? = some (c,m) → false ∉ m) : Alloced R c i s true (R.set i (c,l.set s true))
 | fresh (i : Nat) (d : Int) (h0 : slotsOf c ≠ 0) (h2 : ∀ (j : Nat) (m : List Bool),R[j]? = some (c,m) → false ∉ m) (hi : R[i]? = some (d,[])) (h3 : ∀ (j : Nat),j < i → ∀ (d' : Int),R[j]? ≠ some (d',[])) : Alloced R c i 0 true (R.set i (c,(List.replicate (slotsOf c) false).set 0 true))
 | full (h0 : slotsOf c ≠ 0) (h2 : ∀ (j : Nat) (m : List Bool),R[j]? = some (c,m) → false ∉ m) (h3 : ∀ (j : Nat) (d' : Int),R[j]? ≠ some (d',[])) : Alloced R c 0 0 false R
theorem mkB_nil (l : List Bool) : (⟨(mkB l).toArray⟩ : ByteArray) = ⟨#[]⟩ ↔ l = [] := by
 constructor
 ·intro h
  have h2 : (mkB l).toArray = #[] := congrArg ByteArray.data h
  have h3 : mkB l = [] := by simpa using h2
  exact List.map_eq_nil_iff.1 h3
 ·rintro rfl; rfl
theorem alloc_lx (R : List Rw) (n c : Int) (L : List PV) (hL : L = rpv R) (hn : n = R.length) (hR : R.length ≤ 1000) (hm : ∀ e ∈ R,e.2.length ≤ 8) :
  CallF (fun _ => Tryz.prog) 227 [.ptr 0 (.lit 0),i6 c] [hpC 0 1 270 2 n,hpP 1 L] 2
   (fun r h n' => ∃ (i s : Int) (b : Bool) (L' : List PV) (R' : List Rw),r = .tup [i6 i,i6 s,.p (.bool b)] ∧ h = [hpC 0 1 270 2 n,hpP 1 L'] ∧ n' = 2 ∧ L' = rpv R' ∧ Alloced R c i s b R') := by
 obtain ⟨z,hz⟩ : ∃ z : ByteArray,z = ⟨(mkB (List.replicate (slotsOf c) false)).toArray⟩ := ⟨_,rfl⟩
 have hz0 : z = ⟨#[]⟩ ↔ slotsOf c = 0 := by rw [hz,mkB_nil]; simp
 refine callF_of_body tok Tryz.func227 (by kernel_rfl) rfl rfl rfl ?_; conv => cbv
 refine callF_frame (unusedRow_lx c z hz) [] rfl trivial rfl rfl (fun r h' n' ⟨e1,e2,e3⟩ => ?_)
 subst e1 e2 e3
 conv => cbv
 refine Br.mk (fun g => ?_) (fun g => ?_)
 ·have h0 := hz0.1 g
  conv => cbv
  refine RetF.mk [i6 0,i6 0,.p (.bool false)] [hpC 0 1 270 2 n,hpP 1 L] 2 (Re.at [(0,0),(1,1)] []) rfl ⟨0,0,false,L,R,rfl,rfl,rfl,hL,.no h0⟩
 ·have h0 : slotsOf c ≠ 0 := fun h => g (hz0.2 h)
  conv => cbv
  refine LoopF.mk (fun k s => ∃ i : Int,s = ⟨.ptr 0 (.lit 0) :: .p (.int .i64 (.sym c)) :: (undefs 5 ++ .ptr 2 (.lit 0) :: (undefs 18 ++ .sl 1 270 2 (.lit 0) (.sym n) :: .p (.int .i64 (.sym n)) :: .p (.int .i64 (.sym i)) :: undefs 49)),[(2,.pure false [.int .i64 (.sym c),.str fun _ => z]),hpC 0 1 270 2 n,hpP 1 L],3⟩ ∧ 0 ≤ i ∧ i ≤ n ∧ (∀ (j : Nat),(j : Int) < i → ∀ (m : List Bool),R[j]? = some (c,m) → false ∉ m) ∧ k = (n - i).toNat) n.toNat _
   (Re.at [(0,0),(1,1),(2,2)] []) ⟨0,rfl,by omega,by omega,fun j hj => absurd hj (by omega),by omega⟩ ?_
  rintro k s ⟨i,rfl,hi0,hi1,hno,hk⟩
  conv => cbv
  refine Br.mk (fun gi => ?_) (fun gi => ?_)
  ·have gi : i < n := gi
   obtain ⟨⟨d,m⟩,he⟩ : ∃ e,R[i.toNat]? = some e := ⟨_,List.getElem?_eq_getElem (by omega)⟩
   have hml : m.length ≤ 8 := hm _ (List.mem_of_getElem? he)
   obtain ⟨y,hy⟩ : ∃ y : ByteArray,y = ⟨(mkB m).toArray⟩ := ⟨_,rfl⟩
   obtain ⟨c1,c2⟩ := rpv_get R i.toNat _ he
   dsimp only at c1 c2
   rw [← hL] at c1 c2
   rw [← hy] at c2
   obtain ⟨k',rfl⟩ : ∃ k',k = k' + 1 := ⟨k - 1,by omega⟩
   conv => cbv
   refine Need.mk ⟨hi0,gi⟩ ?_
   conv => cbv
   refine Sum.mk fun w hw => ?_
   have hw : w = i * 2 := hw
   conv => cbv
   refine Cell.at (w + 0) _ c1 rfl (by omega) ?_
   conv => cbv
   refine Cell.at (w + 1) _ c2 rfl (by omega) ?_
   conv => cbv
   refine callF_val (firstUnused_lx m y hy (by omega)) (by simp [ales,ale,renVs,renV,pvle_refl]) rfl (fun r ⟨v,b,hr,_⟩ => by subst hr; rfl) (fun r hrr => ?_)
   obtain ⟨v,b,hr,hb⟩ := hrr
   subst hr
   cases b with
   | true =>
    obtain ⟨q,hv,hq,hq2⟩ : ∃ q : Nat,v = q ∧ m[q]? = some false ∧ ∀ j,j < q → m[j]? = some true := by
     rcases hb with ⟨_,h⟩ | ⟨h,_⟩
     ·exact h
     ·cases h
    clear hb
    conv => cbv
    refine Br.mk (fun gd => ?_) (fun gd => ?_)
    ·have gd : d = c := gd
     obtain ⟨L9,hL9⟩ : ∃ L9,L9 = rpv (R.set i.toNat (d,if 0 ≤ v then m.set v.toNat true else m)) := ⟨_,rfl⟩
     have hset : (if 0 ≤ v then m.set v.toNat true else m) = m.set q true := by rw [if_pos (by omega),show v.toNat = q by omega]
     rw [hset] at hL9
     have hAl : Alloced R c i v true (R.set i.toNat (d,m.set q true)) := by
      have := Alloced.old (R := R) (c := c) i.toNat q m h0 (gd ▸ he) hq hq2 (fun j hj m' hm' => hno j (by omega) m' hm')
      rw [gd,show i = (i.toNat : Int) by omega,hv]; exact this
     conv => cbv
     refine CallF.le (args0 := [.ptr 0 (.lit 0),i6 i,i6 v,.p (.int .i32 (.sym 120))]) (cfr (mark_lx R n i v 120 d m L hL hn hi0 he hml hR true rfl) [(0,0),(1,1)] (fun r h' n' hrr => ?_)) (by simp [ales,ale,pvle,I.val])
     obtain ⟨L2,e1,e2,e3,hL2⟩ := hrr
     rw [hset] at hL2
     subst e1 e2 e3
     conv => cbv
     refine RetF.mk [i6 i,i6 v,.p (.bool true)] [hpC 0 1 270 2 n,hpP 1 L2] 2 (Re.at [(0,0),(1,1)] []) rfl ⟨i,v,true,L2,_,rfl,rfl,rfl,hL2,hAl⟩
    ·have gd : ¬ d = c := gd
     conv => cbv
     refine Fit.mk (by show (-9223372036854775808 : Int) ≤ i + 1; omega) (by show i + 1 ≤ 9223372036854775807; omega) fun i2 hi2 => ?_
     have hi2 : i2 = i + 1 := hi2
     have hno2 : ∀ (j : Nat),(j : Int) < i2 → ∀ (m : List Bool),R[j]? = some (c,m) → false ∉ m := fun j hj m' hm' => by
      by_cases e : (j : Int) = i
      ·rw [show j = i.toNat by omega,he] at hm'
       have hm' := Option.some.inj hm'
       exact absurd (congrArg Prod.fst hm') gd
      ·exact hno j (by omega) m' hm'
     have q1 : 0 ≤ i2 := by omega
     have q2 : i2 ≤ n := by omega
     have q3 : k' = (n - i2).toNat := by omega
     clear hk hi2
     conv => cbv
     refine Again.mk k' _ (Nat.lt_succ_self _) (Re.at [(0,0),(1,1),(2,2)] []) ⟨i2,rfl,q1,q2,hno2,q3⟩
   | false =>
    have hfn : false ∉ m := by
     rcases hb with ⟨h,_⟩ | ⟨_,_,h⟩
     ·cases h
     ·exact h
    clear hb
    conv => cbv
    refine Fit.mk (by show (-9223372036854775808 : Int) ≤ i + 1; omega) (by show i + 1 ≤ 9223372036854775807; omega) fun i2 hi2 => ?_
    have hi2 : i2 = i + 1 := hi2
    have hno2 : ∀ (j : Nat),(j : Int) < i2 → ∀ (m : List Bool),R[j]? = some (c,m) → false ∉ m := fun j hj m' hm' => by
     by_cases e : (j : Int) = i
     ·rw [show j = i.toNat by omega,he] at hm'
      have hm' := Option.some.inj hm'
      have h2 : m = m' := congrArg Prod.snd hm'; rw [← h2]; exact hfn
     ·exact hno j (by omega) m' hm'
    have q1 : 0 ≤ i2 := by omega
    have q2 : i2 ≤ n := by omega
    have q3 : k' = (n - i2).toNat := by omega
    clear hk hi2
    conv => cbv
    refine Again.mk k' _ (Nat.lt_succ_self _) (Re.at [(0,0),(1,1),(2,2)] []) ⟨i2,rfl,q1,q2,hno2,q3⟩
  ·have gi : ¬ i < n := gi
   have hall : ∀ (j : Nat) (m : List Bool),R[j]? = some (c,m) → false ∉ m := fun j m' hm' => hno j (by have := (List.getElem?_eq_some_iff.1 hm').1; omega) m' hm'
   clear hno hk hi0 hi1 gi
   conv => cbv
   refine LoopF.mk (fun k s => ∃ i : Int,s = ⟨.ptr 0 (.lit 0) :: .p (.int .i64 (.sym c)) :: (undefs 5 ++ .ptr 2 (.lit 0) :: (undefs 48 ++ .sl 1 270 2 (.lit 0) (.sym n) :: .p (.int .i64 (.sym n)) :: .p (.int .i64 (.sym i)) :: undefs 19)),[(2,.pure false [.int .i64 (.sym c),.str fun _ => z]),hpC 0 1 270 2 n,hpP 1 L],3⟩ ∧ 0 ≤ i ∧ i ≤ n ∧ (∀ (j : Nat),(j : Int) < i → ∀ (d : Int),R[j]? ≠ some (d,[])) ∧ k = (n - i).toNat) n.toNat _
    (Re.at [(0,0),(1,1),(2,2)] []) ⟨0,rfl,by omega,by omega,fun j hj => absurd hj (by omega),by omega⟩ ?_
   rintro k s ⟨i,rfl,hi0,hi1,hno,hk⟩
   conv => cbv
   refine Br.mk (fun gi => ?_) (fun gi => ?_)
   ·have gi : i < n := gi
    obtain ⟨⟨d,m⟩,he⟩ : ∃ e,R[i.toNat]? = some e := ⟨_,List.getElem?_eq_getElem (by omega)⟩
    have hml : m.length ≤ 8 := hm _ (List.mem_of_getElem? he)
    obtain ⟨y,hy⟩ : ∃ y : ByteArray,y = ⟨(mkB m).toArray⟩ := ⟨_,rfl⟩
    obtain ⟨c1,c2⟩ := rpv_get R i.toNat _ he
    dsimp only at c1 c2
    rw [← hL] at c1 c2
    rw [← hy] at c2
    obtain ⟨k',rfl⟩ : ∃ k',k = k' + 1 := ⟨k - 1,by omega⟩
    conv => cbv
    refine Need.mk ⟨hi0,gi⟩ ?_
    conv => cbv
    refine Sum.mk fun w hw => ?_
    have hw : w = i * 2 := hw
    conv => cbv
    refine Cell.at (w + 0) _ c1 rfl (by omega) ?_
    conv => cbv
    refine Cell.at (w + 1) _ c2 rfl (by omega) ?_
    conv => cbv
    refine Br.mk (fun gm => ?_) (fun gm => ?_)
    ·have hm0 : m = [] := (mkB_nil m).1 (hy.symm.trans gm)
     subst hm0
     obtain ⟨RR,hRR⟩ : ∃ RR,RR = R.set i.toNat (c,List.replicate (slotsOf c) false) := ⟨_,rfl⟩
     have hRl : RR.length = R.length := by rw [hRR,List.length_set]
     have hiR : i.toNat < R.length := by omega
     have hRi : RR[i.toNat]? = some (c,List.replicate (slotsOf c) false) := by rw [hRR,List.getElem?_set_self hiR]
     have hs8 : (List.replicate (slotsOf c) false).length ≤ 8 := by
      rw [List.length_replicate]
      unfold slotsOf; split
      ·omega
      ·split
       ·omega
       ·split
        ·omega
        ·split <;> omega
     have hAl : Alloced R c i 0 true (RR.set i.toNat (c,(List.replicate (slotsOf c) false).set 0 true)) := by
      have := Alloced.fresh (R := R) (c := c) i.toNat d h0 hall he (fun j hj d' => hno j (by omega) d')
      rw [hRR,List.set_set,show i = (i.toNat : Int) by omega]; exact this
     have hLl : L.length = 2 * R.length := by rw [hL,rpv_length]
     conv => cbv
     refine drawn_sound tok (by kernel_rfl) [(7,[])] [0,1,2,3,4,5,6,7] (by kernel_rfl) ?_; conv => cbv
     refine Need.mk ⟨hi0,gi⟩ ?_
     conv => cbv
     refine Sum.mk fun w2 hw2 => ?_
     have hw2 : w2 = i * 2 := hw2
     conv => cbv
     refine Need.mk (by show w2 + ((2 : Nat) : Int) ≤ (L.length : Int); omega) ?_
     conv => cbv
     refine Upd.mk fun L2 hL2 => ?_
     have hL2 : L2 = updL L w2.toNat [.int .i64 (.sym c),.str fun _ => z] := hL2
     have hL2 : L2 = rpv RR := by rw [hL2,hL,show w2.toNat = 2 * i.toNat by omega,hRR]; exact rpv_upd2 R i.toNat c _ z hz hiR
     have hn2 : n = RR.length := by omega
     have hRR2 : RR.length ≤ 1000 := by omega
     conv => cbv
     refine CallF.le (args0 := [.ptr 0 (.lit 0),i6 i,i6 0,.p (.int .i32 (.sym 120))]) (cfr (mark_lx RR n i 0 120 c _ L2 hL2 hn2 hi0 hRi hs8 hRR2 true rfl) [(0,0),(1,1)] (fun r h' n' hrr => ?_)) (by simp [ales,ale,pvle,I.val])
     obtain ⟨L3,e1,e2,e3,hL3⟩ := hrr
     rw [if_pos (Int.le_refl 0)] at hL3
     subst e1 e2 e3
     conv => cbv
     refine RetF.mk [i6 i,i6 0,.p (.bool true)] [hpC 0 1 270 2 n,hpP 1 L3] 2 (Re.at [(0,0),(1,1)] []) rfl ⟨i,0,true,L3,_,rfl,rfl,rfl,hL3,hAl⟩
    ·have hmn : m ≠ [] := fun h => gm (hy.trans ((mkB_nil m).2 h))
     conv => cbv
     refine Fit.mk (by show (-9223372036854775808 : Int) ≤ i + 1; omega) (by show i + 1 ≤ 9223372036854775807; omega) fun i2 hi2 => ?_
     have hi2 : i2 = i + 1 := hi2
     have hno2 : ∀ (j : Nat),(j : Int) < i2 → ∀ (d : Int),R[j]? ≠ some (d,[]) := fun j hj d' hm' => by
      by_cases e : (j : Int) = i
      ·rw [show j = i.toNat by omega,he] at hm'
       exact hmn (congrArg Prod.snd (Option.some.inj hm'))
      ·exact hno j (by omega) d' hm'
     have q1 : 0 ≤ i2 := by omega
     have q2 : i2 ≤ n := by omega
     have q3 : k' = (n - i2).toNat := by omega
     clear hk hi2
     conv => cbv
     refine Again.mk k' _ (Nat.lt_succ_self _) (Re.at [(0,0),(1,1),(2,2)] []) ⟨i2,rfl,q1,q2,hno2,q3⟩
   ·have gi : ¬ i < n := gi
    have hall2 : ∀ (j : Nat) (d' : Int),R[j]? ≠ some (d',[]) := fun j d' hm' => hno j (by have := (List.getElem?_eq_some_iff.1 hm').1; omega) d' hm'
    conv => cbv
    refine RetF.mk [i6 0,i6 0,.p (.bool false)] [hpC 0 1 270 2 n,hpP 1 L] 2 (Re.at [(0,0),(1,1)] []) rfl ⟨0,0,false,L,R,rfl,rfl,rfl,hL,.full h0 hall hall2⟩
end Go.Proofs.YtcbombkaacjngaaGreatDoor
namespace Go.LX
open Go
set_option linter.unusedVariables false
set_option maxHeartbeats 32000000
def addE (ops : Array Oper) (p q : Nat) : Array Oper := ops.modify q fun o => { o with after := o.after.push ⟨p,.data⟩ }
section
variable {P : Program} {Q : Exit → Act → World → Prop} {ops : Array Oper} {K K1 K2 : Act → World → Prop} {a : Act} {w : World} {p q i : Nat}
theorem addE_get (ops : Array Oper) (p q i : Nat) : (addE ops p q)[i]? = (ops[i]?).map fun o => if q = i then { o with after := o.after.push ⟨p,.data⟩ } else o := by
 unfold addE
 rw [Array.getElem?_modify]
 by_cases h : q = i
 ·simp [h]
 ·simp [h]
theorem addE_size : (addE ops p q).size = ops.size := by unfold addE; exact Array.size_modify
theorem addE_yielded (t : Array Value) : yielded (addE ops p q) t = yielded ops t := by
 funext j
 unfold yielded
 have : ((addE ops p q)[j]?).bind (·.dst) = (ops[j]?).bind (·.dst) := by
  rw [addE_get]
  cases ops[j]? with
  | none => rfl
  | some o => simp only [Option.map_some,Option.bind_some]; split <;> rfl
 rw [this]
theorem wpOp_addE (h : wpOp P (addE ops p q) Q i K a w) : wpOp P ops Q i K a w := by
 unfold wpOp at h ⊢
 rw [addE_get,addE_yielded] at h
 cases ho : ops[i]? with
 | none => rw [ho] at h; exact h
 | some o =>
  rw [ho] at h
  simp only [Option.map_some] at h ⊢
  by_cases e : q = i
  ·rw [if_pos e] at h
   exact h
  ·rw [if_neg e] at h; exact h
def NoE (P : Program) (s : Sem Next) : Prop := ∀ w,(∀ f args w',s.run P w ≠ .ok (.enter f args) w') ∧ ∀ r args w',s.run P w ≠ .ok (.row r args) w'
theorem NoE.v (s : Sem Value) : NoE P (do pure (Next.value (← s))) := fun w => by
 rw [Sem.run_bind]
 cases s.run P w <;> exact ⟨fun _ _ _ h => (by cases h),fun _ _ _ h => (by cases h)⟩
theorem NoE.u (s : Sem Unit) : NoE P (do s; pure Next.skip) := fun w => by
 rw [Sem.run_bind]
 cases s.run P w <;> exact ⟨fun _ _ _ h => (by cases h),fun _ _ _ h => (by cases h)⟩
theorem NoE.pu (x : Value) : NoE P (pure (Next.value x)) := fun w => ⟨fun _ _ _ h => (by cases h),fun _ _ _ h => (by cases h)⟩
theorem NoE.bind {α : Type} {s : Sem α} {f : α → Sem Next} (h : ∀ x,NoE P (f x)) : NoE P (s >>= f) := fun w => by
 rw [Sem.run_bind]
 cases s.run P w with
 | ok v w' => exact h v w'
 | halt x w' => exact ⟨fun _ _ _ h => (by cases h),fun _ _ _ h => (by cases h)⟩
theorem NoE.halt (x : Halt) : NoE P (Sem.halt x) := fun w => ⟨fun _ _ _ h => (by cases h),fun _ _ _ h => (by cases h)⟩
theorem NoE.deref : NoE P (runtimePanic .nilDeref : Sem Next) := by
 unfold runtimePanic
 exact NoE.bind fun p => NoE.halt _
theorem nilCheck_ne (x : Operand) (dst : Option Nat) (ty : TypeId) (pos : String) (after : Array Edge) (guard : Option (Nat × Bool)) (ρ : Operand → Value) : NoE P (execOp ρ ⟨dst,.nilCheck x,ty,pos,after,guard⟩) := by
 unfold execOp
 dsimp only
 repeat' (first | exact NoE.deref | exact NoE.pu _ | exact NoE.halt _ | split | (refine NoE.bind fun _ => ?_))
def simpleOp (o : Oper) : Bool :=
 match o.op with
 | .move _ => true
 | .assign _ => true
 | .alloc _ => true
 | .box _ _ => true
 | .build _ _ => true
 | .buildSlice _ _ _ => true
 | .load _ _ => true
 | .nilCheck _ => true
 | .store _ _ _ => true
 | .binOp _ _ _ _ _ => true
 | .unOp _ _ _ => true
 | .convert _ _ _ => true
 | .makeInterface _ _ => true
 | .slice _ _ _ _ _ => true
 | .fieldAddr _ _ _ => true
 | .field _ _ _ => true
 | .indexAddr _ _ _ => true
 | .index _ _ _ => true
 | .extract _ _ => true
 | .call c => match c.callee with
  | .builtin b => match b with
   | .append => true
   | _ => false
  | _ => false
 | _ => false
theorem append_ne {c : Call} (hc : c.callee = .builtin .append) (dst : Option Nat) (ty : TypeId) (pos : String) (after : Array Edge) (guard : Option (Nat × Bool)) (ρ : Operand → Value) : NoE P (execOp ρ ⟨dst,.call c,ty,pos,after,guard⟩) := by
 intro w
 have key : ∃ cs,(execOp ρ ⟨dst,.call c,ty,pos,after,guard⟩).run P w = (builtin .append c.argTypes ty cs (c.args.map ρ)).run P w := by
  unfold execOp
  simp [resolve,hc,invoke]
  exact ⟨_,rfl⟩
 obtain ⟨cs,key⟩ := key
 rw [key]
 exact NoE.v _ w
theorem simple_ne {o : Oper} (h : simpleOp o = true) (ρ : Operand → Value) : NoE P (execOp ρ o) := by
 obtain ⟨dst,op,ty,pos,after,guard⟩ := o
 cases op
 case call c =>
  simp only [simpleOp] at h
  split at h
  ·rename_i b hc
   split at h
   ·exact append_ne hc _ _ _ _ _ _
   ·cases h
  ·cases h
 case nilCheck x => exact nilCheck_ne x _ _ _ _ _ _
 all_goals simp only [simpleOp,Bool.false_eq_true] at h
 all_goals (unfold execOp; first | exact NoE.pu _ | exact NoE.v _ | exact NoE.u _)
theorem wp_and {o : Oper} (hne : NoE P (execOp a.eval o)) (h1 : o.wp P a w K1 Q) (h2 : o.wp P a w K2 Q) : o.wp P a w (fun a w => K1 a w ∧ K2 a w) Q := by
 unfold Oper.wp at *
 have hn := hne w
 generalize (execOp a.eval o).run P w = r at *
 cases r with
 | ok n w' =>
  cases n <;> simp only [Oper.upon] at h1 h2 ⊢ <;> first | exact ⟨h1,h2⟩ | exact absurd rfl (hn.1 _ _ _) | exact absurd rfl (hn.2 _ _ _) | exact h1
 | halt x w' => cases x <;> simp only [Oper.upon] at h1 ⊢ <;> exact h1
theorem wpOp_and (hne : ∀ o,ops[i]? = some o → simpleOp o = true) (h1 : wpOp P ops Q i K1 a w) (h2 : wpOp P ops Q i K2 a w) : wpOp P ops Q i (fun a w => K1 a w ∧ K2 a w) a w := by
 unfold wpOp at *
 cases ho : ops[i]? with
 | none => rw [ho] at h1 h2; exact ⟨h1,h2⟩
 | some o =>
  rw [ho] at h1 h2
  dsimp only at h1 h2 ⊢
  split
  ·rename_i hw
   rw [if_pos hw] at h1 h2
   rcases h1 with h1 | h1
   ·rcases h2 with h2 | h2
    ·exact .inl (wp_and (simple_ne (hne o ho) _) h1 h2)
    ·exact .inr h2
   ·exact .inr h1
  ·rename_i hw
   rw [if_neg hw] at h1 h2
   exact ⟨h1,h2⟩
theorem ready_sub {listed : Array Bool} (h : i ∈ Region.ready .any (addE ops p q) listed) : i ∈ Region.ready .any ops listed := by
 obtain ⟨h1,o,ho,h2⟩ := mem_ready.1 h
 rw [addE_get] at ho
 cases e : ops[i]? with
 | none => rw [e] at ho; cases ho
 | some o' =>
  rw [e] at ho
  simp only [Option.map_some,Option.some.injEq] at ho
  refine mem_ready.2 ⟨h1,o',e,fun ed hed hb => h2 ed ?_ hb⟩
  rw [← ho]
  split
  ·exact Array.mem_push.2 (.inl hed)
  ·exact hed
theorem ready_sup {listed : Array Bool} (h : i ∈ Region.ready .any ops listed) (hp : i = q → listed.getD p false = true) : i ∈ Region.ready .any (addE ops p q) listed := by
 obtain ⟨h1,o,ho,h2⟩ := mem_ready.1 h
 refine mem_ready.2 ⟨h1,_,by rw [addE_get,ho]; rfl,fun ed hed hb => ?_⟩
 split at hed
 ·rename_i hq
  rcases Array.mem_push.1 hed with hed | hed
  ·exact h2 ed hed hb
  ·rw [hed]; exact hp hq.symm
 ·exact h2 ed hed hb
theorem getD_keep {listed : Array Bool} (h : listed.getD p false = true) : (listed.setIfInBounds i true).getD p false = true := by
 rw [Array.getD_eq_getD_getElem?,Array.getElem?_setIfInBounds]
 rw [Array.getD_eq_getD_getElem?] at h
 split
 ·rename_i e
  split
  ·rfl
  ·rename_i hlt
   subst e
   rw [Array.getElem?_eq_none (by omega)] at h; cases h
 ·exact h
theorem any_done : ∀ (fuel : Nat) (listed : Array Bool) (a : Act) (w : World),listed.getD p false = true → wpAny P .any (addE ops p q) Q fuel listed a w → wpAny P .any ops Q fuel listed a w := by
 intro fuel
 induction fuel with
 | zero =>
  intro listed a w hp h
  refine ⟨List.eq_nil_iff_forall_not_mem.2 fun j hj => ?_,h.2⟩
  have := ready_sup (p := p) (q := q) hj (fun _ => hp)
  rw [h.1] at this; cases this
 | succ fuel ih =>
  intro listed a w hp h
  refine ⟨fun hr => h.1 (List.eq_nil_iff_forall_not_mem.2 fun j hj => ?_),fun i hi => ?_⟩
  ·have := ready_sub hj
   rw [hr] at this; cases this
  ·exact wpOp_mono (fun a w h => ih _ a w (getD_keep hp) h) (wpOp_addE (h.2 i (ready_sup hi fun _ => hp)))
def splitOK (ops : Array Oper) (p q : Nat) : Bool :=
 p != q && Nat.blt p ops.size && Nat.blt q ops.size && (List.range ops.size).all fun i => i == p || i == q || simpleOp (opAt ops i) || reach ops ops.size p i || reach ops ops.size q i
theorem any_split (hs : splitOK ops p q = true) : ∀ (fuel : Nat) (listed : Array Bool) (a : Act) (w : World),listed.size = ops.size → Closed ops listed → listed.getD p true = false → listed.getD q true = false →
  wpAny P .any (addE ops p q) Q fuel listed a w → wpAny P .any (addE ops q p) Q fuel listed a w → wpAny P .any ops Q fuel listed a w := by
 simp only [splitOK,Bool.and_eq_true,bne_iff_ne,ne_eq,List.all_eq_true,List.mem_range,Bool.or_eq_true,beq_iff_eq] at hs
 obtain ⟨⟨⟨hpq,hp⟩,hq⟩,hall⟩ := hs
 have hp : p < ops.size := Nat.le_of_ble_eq_true hp
 have hq : q < ops.size := Nat.le_of_ble_eq_true hq
 intro fuel
 induction fuel with
 | zero =>
  intro listed a w hsz hcl hlp hlq h1 h2
  refine ⟨List.eq_nil_iff_forall_not_mem.2 fun j hj => ?_,h1.2⟩
  by_cases e : j = q
  ·have := ready_sup (p := q) (q := p) hj (fun e2 => absurd (e2.symm.trans e) hpq)
   rw [h2.1] at this; cases this
  ·have := ready_sup (p := p) (q := q) hj (fun e2 => absurd e2 e)
   rw [h1.1] at this; cases this
 | succ fuel ih =>
  intro listed a w hsz hcl hlp hlq h1 h2
  refine ⟨fun hr => h1.1 (List.eq_nil_iff_forall_not_mem.2 fun j hj => ?_),fun i hi => ?_⟩
  ·have := ready_sub hj
   rw [hr] at this; cases this
  ·obtain ⟨hun,o,ho,haft⟩ := mem_ready.1 hi
   have hlt : i < ops.size := (Array.getElem?_eq_some_iff.1 ho).1
   have hset : ∀ {k : Nat},k < ops.size → (listed.setIfInBounds k true).getD k false = true := by
    intro k hk
    rw [Array.getD_eq_getD_getElem?,Array.getElem?_setIfInBounds_self_of_lt (by omega)]; rfl
   by_cases e1 : i = p
   ·subst e1
    exact wpOp_mono (fun a w h => any_done _ _ a w (hset hp) h) (wpOp_addE (h1.2 i (ready_sup hi fun e => absurd e hpq)))
   ·by_cases e2 : i = q
    ·subst e2
     exact wpOp_mono (fun a w h => any_done _ _ a w (hset hq) h) (wpOp_addE (h2.2 i (ready_sup hi fun e => absurd e e1)))
    ·have hsim : simpleOp o = true := by
      have hat : opAt ops i = o := by simp [opAt,ho]
      rcases hall i hlt with (((h | h) | h) | h) | h
      ·exact absurd h e1
      ·exact absurd h e2
      ·rw [hat] at h; exact h
      ·have := reach_listed hcl _ i o ho h haft
       rw [getD_tf (by rw [hsz]; exact hp) true false,this] at hlp; cases hlp
      ·have := reach_listed hcl _ i o ho h haft
       rw [getD_tf (by rw [hsz]; exact hq) true false,this] at hlq; cases hlq
     have hcl' : Closed ops (listed.setIfInBounds i true) := by
      intro j oj hoj hj e hee hb
      by_cases hji : i = j
      ·subst hji
       rw [ho] at hoj; cases hoj
       exact getD_set_true (haft e hee hb)
      ·rw [getD_set_ne _ hji] at hj
       exact getD_set_true (hcl j oj hoj hj e hee hb)
     refine wpOp_mono (fun a w h => ?_) (wpOp_and (fun o' ho' => by rw [ho] at ho'; cases ho'; exact hsim) (wpOp_addE (h1.2 i (ready_sup hi fun e => absurd e e2))) (wpOp_addE (h2.2 i (ready_sup hi fun e => absurd e e1))))
     exact ih _ a w (by simp [hsz]) hcl' (by rw [getD_set_ne _ e1]; exact hlp) (by rw [getD_set_ne _ e2]; exact hlq) h.1 h.2
end
end Go.LX
namespace Go.LX
open Go
set_option maxHeartbeats 32000000
section
variable {P : Program} {T : TT} {K : LS → Prop}
def DrawAny (P : Program) (ops : Array Oper) (s : LS) (K : LS → Prop) : Prop :=
 ∀ c a w Q,St c s a w → (∀ a' w',Post K c w a' w' → Q Exit.normal a' w') → wpAny P .any ops Q ops.size (Array.replicate ops.size false) a w
theorem rep_get (n i : Nat) : (Array.replicate n false).getD i false = false := by
 rw [Array.getD_eq_getD_getElem?,Array.getElem?_replicate]
 split <;> rfl
theorem rep_get' {n i : Nat} (h : i < n) : (Array.replicate n false).getD i true = false := by
 rw [Array.getD_eq_getD_getElem?,Array.getElem?_replicate,if_pos h]; rfl
theorem drawF_of_any (hm : P.follows .mixedOrders = true) {ops : Unit → Array Oper} {s : LS} (h : DrawAny P (ops ()) s K) : DrawF (fun _ => P) ops s K := by
 refine .mk fun c a w t Q hs hQ => ?_
 simp only [Region.schedule,hm,Bool.true_or,if_true]
 exact wpAny_sound (ops ()).size t _ a w (h c a w Q hs fun a' w' hp => hQ a' w' (let ⟨c',s',hK,hs',he⟩ := hp; ⟨c',s',hK,hs',he⟩))
theorem any_of_drawn (hT : TOK P T) (F : List (Nat × List Nat)) (order : List Nat) {ops : Array Oper} {s : LS} (hd : drawnOK ops F order = true) (h : lopsG (fun _ => P) (fun _ => T) ops F order s K) : DrawAny P ops s K := by
 intro c a w Q hs hQ
 have hd' := hd
 simp only [drawnOK,Bool.and_eq_true] at hd'
 obtain ⟨hpw,_,hed⟩ := orderOK_spec hd'.1
 have hlt : ∀ j ∈ order,j < ops.size := fun j hj => by
  obtain ⟨l1,l2,e⟩ := List.append_of_mem hj
  obtain ⟨o,ho,_⟩ := hed l1 j l2 e
  exact (Array.getElem?_eq_some_iff.1 ho).1
 have hun : unlO order (Array.replicate ops.size false) = order := by
  unfold unlO
  rw [List.filter_eq_self]
  intro j hj
  rw [rep_get' (hlt j hj)]; rfl
 have hnd : order.Nodup := hpw.imp fun h => h.1
 have hlen : order.length = ops.size := by
  have h1 : order.Perm (List.range ops.size) := by
   rw [List.perm_ext_iff_of_nodup hnd List.nodup_range]
   intro j
   rw [List.mem_range]
   exact ⟨hlt j,fun hj => by have := List.all_eq_true.1 hd'.2 j (List.mem_range.2 hj); simpa using this⟩
  simpa using h1.length_eq
 refine anyO_sound (K := K) hT hd (c0 := c) (w0 := w) (fun a' w' hp => hQ a' w' hp) ops.size _ (by simp) ?_ (by rw [hun]; exact hlen) (Ext.refl hs.hr) hs ?_
 ·intro q o _ hq
  rw [rep_get] at hq; cases hq
 ·rw [hun]; exact h
theorem drawAny_split (p q : Nat) {ops : Array Oper} {s : LS} (hs : splitOK ops p q = true) (h1 : DrawAny P (addE ops p q) s K) (h2 : DrawAny P (addE ops q p) s K) : DrawAny P ops s K := by
 intro c a w Q hst hQ
 have hb : p < ops.size ∧ q < ops.size := by
  simp only [splitOK,Bool.and_eq_true] at hs
  exact ⟨Nat.le_of_ble_eq_true hs.1.1.2,Nat.le_of_ble_eq_true hs.1.2⟩
 have e1 := h1 c a w Q hst hQ
 have e2 := h2 c a w Q hst hQ
 rw [addE_size] at e1 e2
 refine any_split hs ops.size _ a w (by simp) (fun k o _ hk => ?_) (rep_get' hb.1) (rep_get' hb.2) e1 e2
 rw [rep_get] at hk; cases hk
end
end Go.LX
namespace Go.Proofs.YtcbombkaacjngaaGreatDoor
open Go Go.LX
set_option maxRecDepth 100000
set_option linter.unusedVariables false
set_option linter.unusedSimpArgs false
set_option maxHeartbeats 32000000
theorem has_lx (n i : Int) (L : List PV) (hi0 : 0 ≤ i) (hin : i < n) : CallF (fun _ => Tryz.prog) 213 [.ptr 0 (.lit 0),i6 i] [hpC 0 1 270 2 n,hpP 1 L] 2 (fun r h n' => r = .p (.bool true) ∧ h = [hpC 0 1 270 2 n,hpP 1 L] ∧ n' = 2) := by
 refine callF_of_body tok Tryz.func213 (by kernel_rfl) rfl rfl rfl ?_; conv => cbv
 refine Br.mk (fun g => ?_) (fun g => ?_)
 case refine_2 =>
  have gf : False := g hi0
  cases gf
 conv => cbv
 refine Br.mk (fun g => ?_) (fun g => ?_)
 case refine_2 =>
  have gf : False := g hin
  cases gf
 conv => cbv
 refine RetF.mk [.p (.bool true)] [hpC 0 1 270 2 n,hpP 1 L] 2 (Re.at [(0,0),(1,1)] []) rfl ⟨rfl,rfl,rfl⟩
theorem class_lx (R : List Rw) (n i d : Int) (m : List Bool) (L : List PV) (hL : L = rpv R) (hn : n = R.length) (hi0 : 0 ≤ i) (hi : R[i.toNat]? = some (d,m)) (hm : m ≠ []) : CallF (fun _ => Tryz.prog) 150 [.ptr 0 (.lit 0),i6 i] [hpC 0 1 270 2 n,hpP 1 L] 2
  (fun r h n' => r = .p (.int .i64 (.sym d)) ∧ h = [hpC 0 1 270 2 n,hpP 1 L] ∧ n' = 2) := by
 have hiR : i.toNat < R.length := (List.getElem?_eq_some_iff.1 hi).1
 obtain ⟨y,hy⟩ : ∃ y : ByteArray,y = ⟨(mkB m).toArray⟩ := ⟨_,rfl⟩
 obtain ⟨c1,c2⟩ := rpv_get R i.toNat _ hi
 dsimp only at c1 c2
 rw [← hL] at c1 c2
 rw [← hy] at c2
 have hyn : ¬ y = ⟨#[]⟩ := fun h => hm ((mkB_nil m).1 (hy.symm.trans h))
 refine callF_of_body tok Tryz.func150 (by kernel_rfl) rfl rfl rfl ?_; conv => cbv
 refine cfr (has_lx n i L hi0 (by omega)) [(0,0),(1,1)] (fun r h' n' ⟨e1,e2,e3⟩ => ?_)
 subst e1 e2 e3
 conv => cbv
 refine Need.mk ⟨hi0,by show i < n; omega⟩ ?_
 conv => cbv
 refine Sum.mk fun w hw => ?_
 have hw : w = i * 2 := hw
 conv => cbv
 refine Sum.mk fun a ha => ?_
 have ha : a = w + 1 := ha
 conv => cbv
 refine Cell.at a _ c2 (by simp [I.val]) (by omega) ?_
 conv => cbv
 refine Br.mk (fun g => ?_) (fun g => ?_)
 case refine_1 =>
  have gf : False := hyn g
  cases gf
 conv => cbv
 refine Need.mk ⟨hi0,by show i < n; omega⟩ ?_
 conv => cbv
 refine Sum.mk fun w2 hw2 => ?_
 have hw2 : w2 = i * 2 := hw2
 conv => cbv
 refine Cell.at w2 _ c1 (by simp [I.val]) (by omega) ?_
 conv => cbv
 refine RetF.mk [i6 d] [hpC 0 1 270 2 n,hpP 1 L] 2 (Re.at [(0,0),(1,1)] []) rfl ⟨rfl,rfl,rfl⟩
theorem used_lx (R : List Rw) (n i j d : Int) (m : List Bool) (L : List PV) (hL : L = rpv R) (hn : n = R.length) (hi0 : 0 ≤ i) (hi : R[i.toNat]? = some (d,m)) (b : Bool) (hj0 : 0 ≤ j) (hj : m[j.toNat]? = some b) : CallF (fun _ => Tryz.prog) 152 [.ptr 0 (.lit 0),i6 i,i6 j] [hpC 0 1 270 2 n,hpP 1 L] 2
  (fun r h n' => r = .p (.bool b) ∧ h = [hpC 0 1 270 2 n,hpP 1 L] ∧ n' = 2) := by
 have hiR : i.toNat < R.length := (List.getElem?_eq_some_iff.1 hi).1
 obtain ⟨y,hy⟩ : ∃ y : ByteArray,y = ⟨(mkB m).toArray⟩ := ⟨_,rfl⟩
 obtain ⟨c1,c2⟩ := rpv_get R i.toNat _ hi
 dsimp only at c1 c2
 rw [← hL] at c1 c2
 rw [← hy] at c2
 refine callF_of_body tok Tryz.func152 (by kernel_rfl) rfl rfl rfl ?_; conv => cbv
 refine cfr (has_lx n i L hi0 (by omega)) [(0,0),(1,1)] (fun r h' n' ⟨e1,e2,e3⟩ => ?_)
 subst e1 e2 e3
 conv => cbv
 refine Need.mk ⟨hi0,by show i < n; omega⟩ ?_
 conv => cbv
 refine Sum.mk fun w hw => ?_
 have hw : w = i * 2 := hw
 conv => cbv
 refine Sum.mk fun a ha => ?_
 have ha : a = w + 1 := ha
 conv => cbv
 refine Cell.at a _ c2 (by simp [I.val]) (by omega) ?_
 conv => cbv
 obtain ⟨N,hN⟩ : ∃ N : Int,N = m.length := ⟨_,rfl⟩
 have hjN : j < N := by have := (List.getElem?_eq_some_iff.1 hj).1; omega
 have hys : (y.size : Int) = N := by rw [hy,mk_size,mkB_length,hN]
 refine LoopF.mk (fun k s => ∃ pos : Int,s = ⟨.ptr 0 (.lit 0) :: .p (.int .i64 (.sym i)) :: .p (.int .i64 (.sym j)) :: (undefs 18 ++ .ptr 2 (.lit 0) :: undefs 9),[(2,.iter (fun _ => y) (.sym pos)),hpC 0 1 270 2 n,hpP 1 L],3⟩ ∧ 0 ≤ pos ∧ pos ≤ j ∧ k = (N - pos).toNat) N.toNat _
  (Re.at [(0,0),(1,1),(2,2)] []) ⟨0,rfl,by omega,hj0,by omega⟩ ?_
 rintro k s ⟨pos,rfl,h0,h1,hk⟩
 obtain ⟨x,hb⟩ : ∃ x,m[pos.toNat]? = some x := ⟨_,List.getElem?_eq_getElem (by omega)⟩
 have hx : (mkB m)[pos.toNat]? = some (if x then 120 else 46) := by rw [mkB,List.getElem?_map,hb]; rfl
 have hd := dec_at (mkB m) (mkB_low m) pos.toNat _ hx
 rw [← hy] at hd
 obtain ⟨k',rfl⟩ : ∃ k',k = k' + 1 := ⟨k - 1,by omega⟩
 conv => cbv
 refine NextS.more (by show pos < (y.size : Int); omega) ?_
 intro r p' hr hp
 have hr : r = (if x then 120 else 46) := by
  have : r = ((Utf8.decode y pos.toNat).1 : Int) := hr
  rw [this,hd]; cases x <;> rfl
 have hp : p' = pos + 1 := by
  have : p' = pos + ((Utf8.decode y pos.toNat).2 : Int) := hp
  rw [this,hd]; rfl
 conv => cbv
 refine Br.mk (fun g => ?_) (fun g => ?_)
 ·have g : pos = j := g
  have hxb : x = b := by rw [g] at hb; rw [hb] at hj; exact Option.some.inj hj
  conv => cbv
  refine Br.mk (fun g2 => ?_) (fun g2 => ?_)
  ·have g2 : r = 120 := g2
   have hbt : true = b := by
    cases b with
    | true => rfl
    | false => rw [hxb] at hr; simp at hr; omega
   subst hbt
   conv => cbv
   refine RetF.mk [.p (.bool true)] [hpC 0 1 270 2 n,hpP 1 L] 2 (Re.at [(0,0),(1,1)] []) rfl ⟨rfl,rfl,rfl⟩
  ·have g2 : ¬ r = 120 := g2
   have hbf : false = b := by
    cases b with
    | false => rfl
    | true => rw [hxb] at hr; simp at hr; omega
   subst hbf
   conv => cbv
   refine RetF.mk [.p (.bool false)] [hpC 0 1 270 2 n,hpP 1 L] 2 (Re.at [(0,0),(1,1)] []) rfl ⟨rfl,rfl,rfl⟩
 ·have g : ¬ pos = j := g
  conv => cbv
  refine Again.mk k' _ (Nat.lt_succ_self _) (Re.at [(0,0),(1,1),(2,2)] []) ⟨p',rfl,by omega,by omega,by omega⟩
theorem wordsOf_bd (c : Int) : 0 ≤ wordsOf c ∧ wordsOf c ≤ 32 := by
 unfold wordsOf; split
 ·omega
 ·split
  ·omega
  ·split
   ·omega
   ·split <;> omega
theorem wordsS_lx (R : List Rw) (n : Int) (L : List PV) (hL : L = rpv R) (hn : n = R.length) (hR : R.length ≤ 1000) (hm : ∀ e ∈ R,e.2.length ≤ 8) (v : Int) (hv : v = (R.map fun e => (e.2.count true : Int) * wordsOf e.1).sum) : CallF (fun _ => Tryz.prog) 138 [.ptr 0 (.lit 0)] [hpC 0 1 270 2 n,hpP 1 L] 2
  (fun r h n' => r = .p (.int .i64 (.sym v)) ∧ h = [hpC 0 1 270 2 n,hpP 1 L] ∧ n' = 2) := by
 obtain ⟨f,hf⟩ : ∃ f : Nat → Int,∀ k,f k = ((R.take k).map fun e => (e.2.count true : Int) * wordsOf e.1).sum := ⟨_,fun _ => rfl⟩
 refine callF_of_body tok Tryz.func138 (by kernel_rfl) rfl rfl rfl ?_; conv => cbv
 refine LoopF.mk (fun k s => ∃ (i acc : Int),s = ⟨.ptr 0 (.lit 0) :: .undef :: .undef :: .p (.int .i64 (.sym acc)) :: (undefs 7 ++ .sl 1 270 2 (.lit 0) (.sym n) :: .p (.int .i64 (.sym n)) :: .p (.int .i64 (.sym i)) :: undefs 14),[hpC 0 1 270 2 n,hpP 1 L],2⟩ ∧ 0 ≤ i ∧ i ≤ n ∧ acc = f i.toNat ∧ 0 ≤ acc ∧ acc ≤ 256 * i ∧ k = (n - i).toNat) n.toNat _
  (Re.at [(0,0),(1,1)] []) ⟨0,0,rfl,by omega,by omega,by rw [hf]; rfl,by omega,by omega,by omega⟩ ?_
 rintro k s ⟨i,acc,rfl,hi0,hi1,hacc,ha0,ha1,hk⟩
 conv => cbv
 refine Br.mk (fun gi => ?_) (fun gi => ?_)
 ·have gi : i < n := gi
  obtain ⟨⟨d,m⟩,he⟩ : ∃ e,R[i.toNat]? = some e := ⟨_,List.getElem?_eq_getElem (by omega)⟩
  have hml : m.length ≤ 8 := hm _ (List.mem_of_getElem? he)
  obtain ⟨y,hy⟩ : ∃ y : ByteArray,y = ⟨(mkB m).toArray⟩ := ⟨_,rfl⟩
  obtain ⟨c1,c2⟩ := rpv_get R i.toNat _ he
  dsimp only at c1 c2
  rw [← hL] at c1 c2
  rw [← hy] at c2
  obtain ⟨k',rfl⟩ : ∃ k',k = k' + 1 := ⟨k - 1,by omega⟩
  obtain ⟨q,hq⟩ : ∃ q,q = wordsOf d := ⟨_,rfl⟩
  have hqb := wordsOf_bd d
  rw [← hq] at hqb
  conv => cbv
  refine Need.mk ⟨hi0,gi⟩ ?_
  conv => cbv
  refine Sum.mk fun w hw => ?_
  have hw : w = i * 2 := hw
  conv => cbv
  refine Cell.at (w + 0) _ c1 rfl (by omega) ?_
  conv => cbv
  refine Cell.at (w + 1) _ c2 rfl (by omega) ?_
  conv => cbv
  refine drawn_sound tok (by kernel_rfl) [(3,[5,4,0]),(6,[0])] [0,1,2,4,5,3,6,7,8,9] (by kernel_rfl) ?_; conv => cbv
  refine callF_val (countUsed_lx m y hy (by omega)) (by simp [ales,ale,renVs,renV,pvle_refl]) rfl (fun r ⟨v,hr,_⟩ => by subst hr; rfl) (fun r hrr => ?_)
  obtain ⟨u,hr,hu⟩ := hrr
  subst hr
  have hu8 : 0 ≤ u ∧ u ≤ 8 := by
   have := List.count_le_length (a := true) (l := m)
   omega
  have hmul0 : 0 ≤ u * q := Int.mul_nonneg hu8.1 hqb.1
  have hmul1 : u * q ≤ 8 * 32 := Int.mul_le_mul hu8.2 hqb.2 hqb.1 (by decide)
  conv => cbv
  refine callF_frame (words_lx d q hq) [] rfl trivial rfl rfl (fun r h' n' ⟨e1,e2,e3⟩ => ?_)
  subst e1 e2 e3
  conv => cbv
  refine Fit.mk (by show (-9223372036854775808 : Int) ≤ u * q; omega) (by show u * q ≤ 9223372036854775807; omega) fun p hp => ?_
  have hp : p = u * q := hp
  conv => cbv
  refine Fit.mk (by show (-9223372036854775808 : Int) ≤ acc + p; omega) (by show acc + p ≤ 9223372036854775807; omega) fun acc2 hac => ?_
  have hac : acc2 = acc + p := hac
  conv => cbv
  refine Fit.mk (by show (-9223372036854775808 : Int) ≤ i + 1; omega) (by show i + 1 ≤ 9223372036854775807; omega) fun i2 hi2 => ?_
  have hi2 : i2 = i + 1 := hi2
  have q1 : acc2 = f i2.toNat := by
   rw [hf,show i2.toNat = i.toNat + 1 by omega,List.take_add_one,he,List.map_append,List.sum_append,hac,hacc,hf,hp,hu,hq]
   simp
  have q2 : 0 ≤ acc2 := by omega
  have q3 : acc2 ≤ 256 * i2 := by omega
  have q4 : 0 ≤ i2 := by omega
  have q5 : i2 ≤ n := by omega
  have q6 : k' = (n - i2).toNat := by omega
  conv => cbv
  refine Again.mk k' _ (Nat.lt_succ_self _) (Re.at [(0,0),(1,1)] []) ⟨i2,acc2,rfl,q4,q5,q1,q2,q3,q6⟩
 ·have gi : ¬ i < n := gi
  have hend : acc = v := by rw [hacc,hf,List.take_of_length_le (by omega),hv]
  conv => cbv
  refine RetF.mk [i6 v] [hpC 0 1 270 2 n,hpP 1 L] 2 (Re.at [(0,0),(1,1)] []) rfl ⟨rfl,rfl,rfl⟩
theorem lenS_lx (n : Int) (L : List PV) : CallF (fun _ => Tryz.prog) 139 [.ptr 0 (.lit 0)] [hpC 0 1 270 2 n,hpP 1 L] 2
  (fun r h n' => r = .p (.int .i64 (.sym n)) ∧ h = [hpC 0 1 270 2 n,hpP 1 L] ∧ n' = 2) := by
 refine callF_of_body tok Tryz.func139 (by kernel_rfl) rfl rfl rfl ?_; conv => cbv
 refine RetF.mk [i6 n] [hpC 0 1 270 2 n,hpP 1 L] 2 (Re.at [(0,0),(1,1)] []) rfl ⟨rfl,rfl,rfl⟩
def R0 : List Rw := [(0,[]),(0,[])]
theorem slots_iff (c : Int) : slotsOf c ≠ 0 ↔ 0 ≤ c ∧ c ≤ 3 := by
 unfold slotsOf
 constructor
 ·intro h
  split at h
  ·omega
  ·split at h
   ·omega
   ·split at h
    ·omega
    ·split at h
     ·omega
     ·exact absurd rfl h
 ·intro h
  split
  ·decide
  ·split
   ·decide
   ·split
    ·decide
    ·split
     ·decide
     ·omega
end Go.Proofs.YtcbombkaacjngaaGreatDoor
namespace Go.Proofs.YtcbombkaacjngaaGreatDoor
open Go Go.LX
set_option maxRecDepth 100000
set_option linter.unusedVariables false
set_option linter.unusedSimpArgs false
set_option maxHeartbeats 32000000
theorem used_no_lx (R : List Rw) (n i j d : Int) (m : List Bool) (L : List PV) (hL : L = rpv R) (hn : n = R.length) (hi0 : 0 ≤ i) (hi : R[i.toNat]? = some (d,m)) (hm : m.length ≤ 8) (hj : 0 ≤ j → m[j.toNat]? ≠ some true) : CallF (fun _ => Tryz.prog) 152 [.ptr 0 (.lit 0),i6 i,i6 j] [hpC 0 1 270 2 n,hpP 1 L] 2
  (fun r h n' => r = .p (.bool false) ∧ h = [hpC 0 1 270 2 n,hpP 1 L] ∧ n' = 2) := by
 have hiR : i.toNat < R.length := (List.getElem?_eq_some_iff.1 hi).1
 obtain ⟨y,hy⟩ : ∃ y : ByteArray,y = ⟨(mkB m).toArray⟩ := ⟨_,rfl⟩
 obtain ⟨c1,c2⟩ := rpv_get R i.toNat _ hi
 dsimp only at c1 c2
 rw [← hL] at c1 c2
 rw [← hy] at c2
 refine callF_of_body tok Tryz.func152 (by kernel_rfl) rfl rfl rfl ?_; conv => cbv
 refine cfr (has_lx n i L hi0 (by omega)) [(0,0),(1,1)] (fun r h' n' ⟨e1,e2,e3⟩ => ?_)
 subst e1 e2 e3
 conv => cbv
 refine Need.mk ⟨hi0,by show i < n; omega⟩ ?_
 conv => cbv
 refine Sum.mk fun w hw => ?_
 have hw : w = i * 2 := hw
 conv => cbv
 refine Sum.mk fun a ha => ?_
 have ha : a = w + 1 := ha
 conv => cbv
 refine Cell.at a _ c2 (by simp [I.val]) (by omega) ?_
 conv => cbv
 obtain ⟨N,hN⟩ : ∃ N : Int,N = m.length := ⟨_,rfl⟩
 have hys : (y.size : Int) = N := by rw [hy,mk_size,mkB_length,hN]
 refine LoopF.mk (fun k s => ∃ pos : Int,s = ⟨.ptr 0 (.lit 0) :: .p (.int .i64 (.sym i)) :: .p (.int .i64 (.sym j)) :: (undefs 18 ++ .ptr 2 (.lit 0) :: undefs 9),[(2,.iter (fun _ => y) (.sym pos)),hpC 0 1 270 2 n,hpP 1 L],3⟩ ∧ 0 ≤ pos ∧ pos ≤ N ∧ (j < 0 ∨ pos ≤ j) ∧ k = (N - pos).toNat) N.toNat _
  (Re.at [(0,0),(1,1),(2,2)] []) ⟨0,rfl,by omega,by omega,by omega,by omega⟩ ?_
 rintro k s ⟨pos,rfl,h0,h1,hpj,hk⟩
 conv => cbv
 by_cases hend : pos = N
 ·refine NextS.over (by show (y.size : Int) ≤ pos; omega) ?_
  conv => cbv
  refine RetF.mk [.p (.bool false)] [hpC 0 1 270 2 n,hpP 1 L] 2 (Re.at [(0,0),(1,1)] []) rfl ⟨rfl,rfl,rfl⟩
 ·obtain ⟨x,hb⟩ : ∃ x,m[pos.toNat]? = some x := ⟨_,List.getElem?_eq_getElem (by omega)⟩
  have hx : (mkB m)[pos.toNat]? = some (if x then 120 else 46) := by rw [mkB,List.getElem?_map,hb]; rfl
  have hd := dec_at (mkB m) (mkB_low m) pos.toNat _ hx
  rw [← hy] at hd
  obtain ⟨k',rfl⟩ : ∃ k',k = k' + 1 := ⟨k - 1,by omega⟩
  refine NextS.more (by show pos < (y.size : Int); omega) ?_
  intro r p' hr hp
  have hr : r = (if x then 120 else 46) := by
   have : r = ((Utf8.decode y pos.toNat).1 : Int) := hr
   rw [this,hd]; cases x <;> rfl
  have hp : p' = pos + 1 := by
   have : p' = pos + ((Utf8.decode y pos.toNat).2 : Int) := hp
   rw [this,hd]; rfl
  conv => cbv
  refine Br.mk (fun g => ?_) (fun g => ?_)
  ·have g : pos = j := g
   have hxb : x = false := by
    cases x with
    | false => rfl
    | true => exact absurd (by rw [← g]; exact hb) (hj (by omega))
   conv => cbv
   refine Br.mk (fun g2 => ?_) (fun g2 => ?_)
   ·have g2 : r = 120 := g2
    have gf : False := by rw [hxb] at hr; simp at hr; omega
    cases gf
   ·have g2 : ¬ r = 120 := g2
    conv => cbv
    refine RetF.mk [.p (.bool false)] [hpC 0 1 270 2 n,hpP 1 L] 2 (Re.at [(0,0),(1,1)] []) rfl ⟨rfl,rfl,rfl⟩
  ·have g : ¬ pos = j := g
   conv => cbv
   refine Again.mk k' _ (Nat.lt_succ_self _) (Re.at [(0,0),(1,1),(2,2)] []) ⟨p',rfl,by omega,by omega,by omega,by omega⟩
theorem free_no_lx (R : List Rw) (n i j d : Int) (m : List Bool) (L : List PV) (hL : L = rpv R) (hn : n = R.length) (hi0 : 0 ≤ i) (hi : R[i.toNat]? = some (d,m)) (hm : m.length ≤ 8) (hj : 0 ≤ j → m[j.toNat]? ≠ some true) : CallF (fun _ => Tryz.prog) 224 [.ptr 0 (.lit 0),i6 i,i6 j] [hpC 0 1 270 2 n,hpP 1 L] 2
  (fun r h n' => r = .p (.bool false) ∧ h = [hpC 0 1 270 2 n,hpP 1 L] ∧ n' = 2) := by
 refine callF_of_body tok Tryz.func224 (by kernel_rfl) rfl rfl rfl ?_; conv => cbv
 refine cfr (used_no_lx R n i j d m L hL hn hi0 hi hm hj) [(0,0),(1,1)] (fun r h' n' ⟨e1,e2,e3⟩ => ?_)
 subst e1 e2 e3
 conv => cbv
 refine RetF.mk [.p (.bool false)] [hpC 0 1 270 2 n,hpP 1 L] 2 (Re.at [(0,0),(1,1)] []) rfl ⟨rfl,rfl,rfl⟩
theorem pvles_self : ∀ l : List PV,pvles l l
 | [] => trivial
 | x :: l => ⟨pvle_refl x,pvles_self l⟩
theorem rpv_upd0 : ∀ (R : List Rw) (i : Nat),i < R.length → pvles (updL (rpv R) (2 * i) [.int .i64 (.lit 0),.str fun _ => ⟨#[]⟩]) (rpv (R.set i (0,[])))
 | [],i,h => by simp at h
 | (c,l) :: R,0,_ => ⟨by simp [pvle,I.val],SEq.mk rfl,pvles_self _⟩
 | (c,l) :: R,i + 1,h => by
  have ih := rpv_upd0 R i (by simpa using h)
  exact ⟨pvle_refl _,pvle_refl _,ih⟩
def freed (R : List Rw) (i : Nat) (d : Int) (m : List Bool) : List Rw := R.set i (if m.count true = 0 then (0,[]) else (d,m))
theorem free_lx (R R' : List Rw) (n i j d : Int) (m : List Bool) (L : List PV) (hL : L = rpv R) (hn : n = R.length) (hR : R.length ≤ 1000) (hi0 : 0 ≤ i) (hi : R[i.toNat]? = some (d,m)) (hm : m.length ≤ 8) (hj0 : 0 ≤ j) (hj : m[j.toNat]? = some true) (hR' : R' = freed R i.toNat d (m.set j.toNat false)) :
  CallF (fun _ => Tryz.prog) 224 [.ptr 0 (.lit 0),i6 i,i6 j] [hpC 0 1 270 2 n,hpP 1 L] 2
   (fun r h n' => ∃ L' : List PV,r = .p (.bool true) ∧ h = [hpC 0 1 270 2 n,hpP 1 L'] ∧ n' = 2 ∧ L' = rpv R') := by
 have hiR : i.toNat < R.length := (List.getElem?_eq_some_iff.1 hi).1
 obtain ⟨m2,hm2⟩ : ∃ m2,m2 = m.set j.toNat false := ⟨_,rfl⟩
 have hm2l : m2.length ≤ 8 := by rw [hm2,List.length_set]; exact hm
 obtain ⟨R2,hR2⟩ : ∃ R2,R2 = R.set i.toNat (d,m2) := ⟨_,rfl⟩
 have hR2i : R2[i.toNat]? = some (d,m2) := by rw [hR2,List.getElem?_set_self hiR]
 have hR2l : R2.length = R.length := by rw [hR2,List.length_set]
 obtain ⟨y,hy⟩ : ∃ y : ByteArray,y = ⟨(mkB m2).toArray⟩ := ⟨_,rfl⟩
 refine callF_of_body tok Tryz.func224 (by kernel_rfl) rfl rfl rfl ?_; conv => cbv
 refine cfr (used_lx R n i j d m L hL hn hi0 hi true hj0 hj) [(0,0),(1,1)] (fun r h' n' ⟨e1,e2,e3⟩ => ?_)
 subst e1 e2 e3
 conv => cbv
 refine CallF.le (args0 := [.ptr 0 (.lit 0),i6 i,i6 j,.p (.int .i32 (.sym 46))]) (cfr (mark_lx R n i j 46 d m L hL hn hi0 hi hm hR false rfl) [(0,0),(1,1)] (fun r h' n' hrr => ?_)) (by simp [ales,ale,pvle,I.val])
 obtain ⟨L2,e1,e2,e3,hL2⟩ := hrr
 rw [if_pos hj0,← hm2,← hR2] at hL2
 subst e1 e2 e3
 obtain ⟨c1,c2⟩ := rpv_get R2 i.toNat _ hR2i
 dsimp only at c1 c2
 rw [← hL2] at c1 c2
 rw [← hy] at c2
 have hL2l : L2.length = 2 * R.length := by rw [hL2,rpv_length,hR2l]
 conv => cbv
 refine Need.mk ⟨hi0,by show i < n; omega⟩ ?_
 conv => cbv
 refine Sum.mk fun w hw => ?_
 have hw : w = i * 2 := hw
 conv => cbv
 refine Sum.mk fun a ha => ?_
 have ha : a = w + 1 := ha
 conv => cbv
 refine Cell.at a _ c2 (by simp [I.val]) (by omega) ?_
 conv => cbv
 refine callF_val (countUsed_lx m2 y hy (by omega)) (by simp [ales,ale,renVs,renV,pvle_refl]) rfl (fun r ⟨v,hr,_⟩ => by subst hr; rfl) (fun r hrr => ?_)
 obtain ⟨u,hr,hu⟩ := hrr
 subst hr
 conv => cbv
 refine Br.mk (fun g => ?_) (fun g => ?_)
 ·have g : u = 0 := g
  have hq : R' = R2.set i.toNat (0,[]) := by
   rw [hR',freed,← hm2,if_pos (by omega),hR2,List.set_set]
  obtain ⟨L9,hL9⟩ : ∃ L9,L9 = rpv R' := ⟨_,rfl⟩
  conv => cbv
  refine Need.mk ⟨hi0,by show i < n; omega⟩ ?_
  conv => cbv
  refine Sum.mk fun w2 hw2 => ?_
  have hw2 : w2 = i * 2 := hw2
  conv => cbv
  refine Need.mk (by show w2 + ((2 : Nat) : Int) ≤ (L2.length : Int); omega) ?_
  conv => cbv
  refine Upd.mk fun L3 hL3 => ?_
  have hL3 : L3 = updL L2 w2.toNat [.int .i64 (.lit 0),.str fun _ => ⟨#[]⟩] := hL3
  have hle : pvles L3 L9 := by
   rw [hL3,hL2,hL9,hq,show w2.toNat = 2 * i.toNat by omega]
   exact rpv_upd0 R2 i.toNat (by omega)
  clear hL3
  unfold pvles at hle
  conv => cbv
  refine RetF.mk [.p (.bool true)] [hpC 0 1 270 2 n,hpP 1 L9] 2 (Re.at [(0,0),(1,1)] []) rfl ⟨L9,rfl,rfl,rfl,hL9⟩
 ·have g : ¬ u = 0 := g
  have hq : R' = R2 := by rw [hR',freed,← hm2,if_neg (by omega),hR2]
  rw [← hq] at hL2
  conv => cbv
  refine RetF.mk [.p (.bool true)] [hpC 0 1 270 2 n,hpP 1 L2] 2 (Re.at [(0,0),(1,1)] []) rfl ⟨L2,rfl,rfl,rfl,hL2⟩
theorem class_none_lx (R : List Rw) (n i d : Int) (L : List PV) (hL : L = rpv R) (hn : n = R.length) (hi0 : 0 ≤ i) (hi : R[i.toNat]? = some (d,[])) : CallF (fun _ => Tryz.prog) 150 [.ptr 0 (.lit 0),i6 i] [hpC 0 1 270 2 n,hpP 1 L] 2
  (fun r h n' => (∃ v : Int,r = .p (.int .i64 (.sym v)) ∧ v = -1) ∧ h = [hpC 0 1 270 2 n,hpP 1 L] ∧ n' = 2) := by
 have hiR : i.toNat < R.length := (List.getElem?_eq_some_iff.1 hi).1
 obtain ⟨y,hy⟩ : ∃ y : ByteArray,y = ⟨(mkB []).toArray⟩ := ⟨_,rfl⟩
 obtain ⟨c1,c2⟩ := rpv_get R i.toNat _ hi
 dsimp only at c1 c2
 rw [← hL] at c1 c2
 rw [← hy] at c2
 have hyn : y = ⟨#[]⟩ := hy
 refine callF_of_body tok Tryz.func150 (by kernel_rfl) rfl rfl rfl ?_; conv => cbv
 refine cfr (has_lx n i L hi0 (by omega)) [(0,0),(1,1)] (fun r h' n' ⟨e1,e2,e3⟩ => ?_)
 subst e1 e2 e3
 conv => cbv
 refine Need.mk ⟨hi0,by show i < n; omega⟩ ?_
 conv => cbv
 refine Sum.mk fun w hw => ?_
 have hw : w = i * 2 := hw
 conv => cbv
 refine Sum.mk fun a ha => ?_
 have ha : a = w + 1 := ha
 conv => cbv
 refine Cell.at a _ c2 (by simp [I.val]) (by omega) ?_
 conv => cbv
 refine Br.mk (fun g => ?_) (fun g => ?_)
 case refine_2 =>
  have gf : False := g hyn
  cases gf
 conv => cbv
 refine RetF.mk [i6 (-1)] [hpC 0 1 270 2 n,hpP 1 L] 2 (Re.at [(0,0),(1,1)] []) rfl ⟨⟨-1,rfl,rfl⟩,rfl,rfl⟩
end Go.Proofs.YtcbombkaacjngaaGreatDoor
namespace Go.Proofs.YtcbombkaacjngaaGreatDoor
open Go Go.LX
set_option maxRecDepth 100000
set_option linter.unusedVariables false
set_option linter.unusedSimpArgs false
set_option maxHeartbeats 32000000
def clsOf (e : Rw) : Int := if e.2 = [] then -1 else e.1
theorem classA_lx (R : List Rw) (n i v : Int) (e : Rw) (L : List PV) (hL : L = rpv R) (hn : n = R.length) (hi0 : 0 ≤ i) (hi : R[i.toNat]? = some e) (hv : v = clsOf e) : CallF (fun _ => Tryz.prog) 150 [.ptr 0 (.lit 0),i6 i] [hpC 0 1 270 2 n,hpP 1 L] 2
  (fun r h n' => r = .p (.int .i64 (.sym v)) ∧ h = [hpC 0 1 270 2 n,hpP 1 L] ∧ n' = 2) := by
 obtain ⟨d,m⟩ := e
 unfold clsOf at hv
 by_cases hm : m = []
 ·subst hm
  rw [if_pos rfl] at hv
  refine (class_none_lx R n i d L hL hn hi0 hi).mono ?_
  rintro r h n' ⟨⟨v',e1,e2⟩,e3,e4⟩
  exact ⟨by rw [e1,e2,hv],e3,e4⟩
 ·rw [if_neg hm] at hv
  rw [hv]
  exact class_lx R n i d m L hL hn hi0 hi hm
theorem wordsOf_cases (c : Int) : wordsOf c = 0 ∨ wordsOf c = 4 ∨ wordsOf c = 8 ∨ wordsOf c = 16 ∨ wordsOf c = 32 := by
 unfold wordsOf
 split
 ·omega
 ·split
  ·omega
  ·split
   ·omega
   ·split <;> omega
theorem refWords_lx (c w : Int) (h0 : 0 ≤ c) (h3 : c ≤ 3) (hw : w = wordsOf c) : CallF (fun _ => Tryz.prog) 73 [i6 c] [] 0 (fun r h n => r = .p (.int .i64 (.sym w)) ∧ h = [] ∧ n = 0) := by
 refine callF_of_body tok Tryz.func73 (by kernel_rfl) rfl rfl rfl ?_; conv => cbv
 refine Br.mk (fun g => ?_) (fun g => ?_)
 case refine_1 =>
  have gf : False := by have g : c < 0 := g; omega
  cases gf
 conv => cbv
 refine Br.mk (fun g => ?_) (fun g => ?_)
 case refine_1 =>
  have gf : False := by have g : 3 < c := g; omega
  cases gf
 conv => cbv
 refine Need.mk ⟨h0,by show c < 4; omega⟩ ?_
 conv => cbv
 have hc4 : c = 0 ∨ c = 1 ∨ c = 2 ∨ c = 3 := by omega
 rcases hc4 with e | e | e | e
 ·refine Cell.at c 0 (v := .int .i64 (.lit 4)) rfl (by simp [I.val]) (by omega) ?_
  have hw4 : w = 4 := by rw [hw,e]; rfl
  conv => cbv
  refine RetF.mk [i6 w] [] 0 (Re.at [] []) rfl ⟨rfl,rfl,rfl⟩
 ·refine Cell.at c 1 (v := .int .i64 (.lit 8)) rfl (by simp [I.val]) (by omega) ?_
  have hw4 : w = 8 := by rw [hw,e]; rfl
  conv => cbv
  refine RetF.mk [i6 w] [] 0 (Re.at [] []) rfl ⟨rfl,rfl,rfl⟩
 ·refine Cell.at c 2 (v := .int .i64 (.lit 16)) rfl (by simp [I.val]) (by omega) ?_
  have hw4 : w = 16 := by rw [hw,e]; rfl
  conv => cbv
  refine RetF.mk [i6 w] [] 0 (Re.at [] []) rfl ⟨rfl,rfl,rfl⟩
 ·refine Cell.at c 3 (v := .int .i64 (.lit 32)) rfl (by simp [I.val]) (by omega) ?_
  have hw4 : w = 32 := by rw [hw,e]; rfl
  conv => cbv
  refine RetF.mk [i6 w] [] 0 (Re.at [] []) rfl ⟨rfl,rfl,rfl⟩
theorem refSlots_lx (c k : Int) (h0 : 0 ≤ c) (h3 : c ≤ 3) (hk : k = slotsOf c) : CallF (fun _ => Tryz.prog) 242 [i6 c] [] 0 (fun r h n => r = .p (.int .i64 (.sym k)) ∧ h = [] ∧ n = 0) := by
 obtain ⟨w,hw⟩ : ∃ w,w = wordsOf c := ⟨_,rfl⟩
 refine callF_of_body tok Tryz.func242 (by kernel_rfl) rfl rfl rfl ?_; conv => cbv
 refine Br.mk (fun g => ?_) (fun g => ?_)
 case refine_1 =>
  have gf : False := by have g : c < 0 := g; omega
  cases gf
 conv => cbv
 refine Br.mk (fun g => ?_) (fun g => ?_)
 case refine_1 =>
  have gf : False := by have g : 3 < c := g; omega
  cases gf
 conv => cbv
 refine callF_frame (refWords_lx c w h0 h3 hw) [] rfl trivial rfl rfl (fun r h' n' ⟨e1,e2,e3⟩ => ?_)
 subst e1 e2 e3
 conv => cbv
 have hk2 : k = (32 : Int).tdiv w ∧ w ≠ 0 := by
  have : c = 0 ∨ c = 1 ∨ c = 2 ∨ c = 3 := by omega
  rcases this with e | e | e | e <;> (subst e; subst hk; subst hw; decide)
 have hk8 : 0 ≤ k ∧ k ≤ 8 := by
  have : c = 0 ∨ c = 1 ∨ c = 2 ∨ c = 3 := by omega
  rcases this with e | e | e | e <;> (subst e; subst hk; decide)
 refine Need.mk (show w ≠ 0 from hk2.2) ?_
 conv => cbv
 refine Fit.mk (by show (-9223372036854775808 : Int) ≤ Int.tdiv 32 w; omega) (by show Int.tdiv 32 w ≤ 9223372036854775807; omega) fun q hq => ?_
 have hq : q = Int.tdiv 32 w := hq
 have hqk : q = k := by rw [hq,hk2.1]
 conv => cbv
 refine RetF.mk [i6 k] [] 0 (Re.at [] []) rfl ⟨rfl,rfl,rfl⟩
theorem refSlotsA_lx (c k : Int) (hk : k = slotsOf c) : CallF (fun _ => Tryz.prog) 242 [i6 c] [] 0 (fun r h n => r = .p (.int .i64 (.sym k)) ∧ h = [] ∧ n = 0) := by
 by_cases h0 : 0 ≤ c ∧ c ≤ 3
 ·exact refSlots_lx c k h0.1 h0.2 hk
 have hk0 : k = 0 := by
  rw [hk]
  have : slotsOf c = 0 := Classical.byContradiction fun h => h0 ((slots_iff c).1 h)
  rw [this]; rfl
 refine callF_of_body tok Tryz.func242 (by kernel_rfl) rfl rfl rfl ?_; conv => cbv
 refine Br.mk (fun g => ?_) (fun g => ?_)
 ·conv => cbv
  refine RetF.mk [i6 k] [] 0 (Re.at [] []) rfl ⟨rfl,rfl,rfl⟩
 have g : ¬ c < 0 := g
 conv => cbv
 refine Br.mk (fun g => ?_) (fun g => ?_)
 ·conv => cbv
  refine RetF.mk [i6 k] [] 0 (Re.at [] []) rfl ⟨rfl,rfl,rfl⟩
 ·have gf : False := by have g : ¬ 3 < c := g; omega
  cases gf
theorem refWordsA_lx (c w : Int) (hw : w = wordsOf c) : CallF (fun _ => Tryz.prog) 73 [i6 c] [] 0 (fun r h n => r = .p (.int .i64 (.sym w)) ∧ h = [] ∧ n = 0) := by
 by_cases h0 : 0 ≤ c ∧ c ≤ 3
 ·exact refWords_lx c w h0.1 h0.2 hw
 have hk0 : w = 0 := by rw [hw,wordsOf,if_neg (by omega),if_neg (by omega),if_neg (by omega),if_neg (by omega)]
 refine callF_of_body tok Tryz.func73 (by kernel_rfl) rfl rfl rfl ?_; conv => cbv
 refine Br.mk (fun g => ?_) (fun g => ?_)
 ·conv => cbv
  refine RetF.mk [i6 w] [] 0 (Re.at [] []) rfl ⟨rfl,rfl,rfl⟩
 have g : ¬ c < 0 := g
 conv => cbv
 refine Br.mk (fun g => ?_) (fun g => ?_)
 ·conv => cbv
  refine RetF.mk [i6 w] [] 0 (Re.at [] []) rfl ⟨rfl,rfl,rfl⟩
 ·have gf : False := by have g : ¬ 3 < c := g; omega
  cases gf
end Go.Proofs.YtcbombkaacjngaaGreatDoor
namespace Go.Proofs.YtcbombkaacjngaaGreatDoor
open Go Go.LX
set_option maxRecDepth 100000
set_option linter.unusedVariables false
set_option linter.unusedSimpArgs false
set_option maxHeartbeats 32000000
def ofN (n : Int) : Int := if n < 4 then 0 else if n < 8 then 1 else if n < 16 then 2 else 3
inductive OfR (n : Int) : Int → Bool → Prop
 | yes (c : Int) (hc : c = ofN n) (h : 0 ≤ n ∧ n ≤ 31) : OfR n c true
 | no (h : ¬ (0 ≤ n ∧ n ≤ 31)) : OfR n 0 false
theorem of_lx (n : Int) : CallF (fun _ => Tryz.prog) 145 [i6 n] [] 0 (fun r h m => ∃ (c : Int) (b : Bool),r = .tup [i6 c,.p (.bool b)] ∧ h = [] ∧ m = 0 ∧ OfR n c b) := by
 refine callF_of_body tok Tryz.func145 (by kernel_rfl) rfl rfl rfl ?_; conv => cbv
 refine Br.mk (fun g => ?_) (fun g => ?_)
 ·have g : n < 0 := g
  have q : OfR n 0 false := .no (by omega)
  conv => cbv
  refine RetF.mk [i6 0,.p (.bool false)] [] 0 (Re.at [] []) rfl ⟨0,false,rfl,rfl,rfl,q⟩
 ·have g : ¬ n < 0 := g
  conv => cbv
  refine LoopF.mk (fun k s => ∃ pos : Int,s = ⟨.p (.int .i64 (.sym n)) :: (undefs 7 ++ .ptr 0 (.lit 0) :: undefs 9),[(0,.iter (fun _ => ⟨#[4,8,16,32]⟩) (.sym pos))],1⟩ ∧ 0 ≤ pos ∧ pos ≤ 4 ∧ (1 ≤ pos → 4 ≤ n) ∧ (2 ≤ pos → 8 ≤ n) ∧ (3 ≤ pos → 16 ≤ n) ∧ (4 ≤ pos → 32 ≤ n) ∧ k = (4 - pos).toNat) 4 _
   (Re.at [(0,0)] []) ⟨0,rfl,by omega,by omega,by omega,by omega,by omega,by omega,by omega⟩ ?_
  rintro k s ⟨pos,rfl,h0,h4,q1,q2,q3,q4,hk⟩
  conv => cbv
  by_cases hend : pos = 4
  ·have q : OfR n 0 false := .no (by omega)
   refine NextS.over (by show (4 : Int) ≤ pos; omega) ?_
   conv => cbv
   refine RetF.mk [i6 0,.p (.bool false)] [] 0 (Re.at [] []) rfl ⟨0,false,rfl,rfl,rfl,q⟩
  ·obtain ⟨x,hx⟩ : ∃ x,([4,8,16,32] : List UInt8)[pos.toNat]? = some x := ⟨_,List.getElem?_eq_getElem (by simp; omega)⟩
   have hd := dec_at [4,8,16,32] (by decide) pos.toNat x hx
   have hx4 : pos = 0 ∧ x.toNat = 4 ∨ pos = 1 ∧ x.toNat = 8 ∨ pos = 2 ∧ x.toNat = 16 ∨ pos = 3 ∧ x.toNat = 32 := by
    have : pos = 0 ∨ pos = 1 ∨ pos = 2 ∨ pos = 3 := by omega
    rcases this with e2 | e2 | e2 | e2 <;> (rw [e2] at hx; have hx := Option.some.inj hx; rw [← hx]; rw [e2]; decide)
   refine NextS.more (by show pos < (4 : Int); omega) ?_
   intro r p' hr hp
   have hr : r = (x.toNat : Int) := by
    have : r = ((Utf8.decode ⟨#[4,8,16,32]⟩ pos.toNat).1 : Int) := hr
    rw [this,hd]
   have hp : p' = pos + 1 := by
    have : p' = pos + ((Utf8.decode ⟨#[4,8,16,32]⟩ pos.toNat).2 : Int) := hp
    rw [this,hd]; rfl
   obtain ⟨k',rfl⟩ : ∃ k',k = k' + 1 := ⟨k - 1,by omega⟩
   conv => cbv
   refine Fit.mk (by show (-9223372036854775808 : Int) ≤ r; omega) (by show r ≤ 9223372036854775807; omega) fun q hq => ?_
   have hq : q = r := hq
   conv => cbv
   refine Br.mk (fun g => ?_) (fun g => ?_)
   ·have g : n < q := g
    have hc : pos = ofN n := by
     unfold ofN
     rcases hx4 with ⟨e1,e2⟩ | ⟨e1,e2⟩ | ⟨e1,e2⟩ | ⟨e1,e2⟩
     ·rw [if_pos (by omega)]; exact e1
     ·rw [if_neg (by omega),if_pos (by omega)]; exact e1
     ·rw [if_neg (by omega),if_neg (by omega),if_pos (by omega)]; exact e1
     ·rw [if_neg (by omega),if_neg (by omega),if_neg (by omega)]; exact e1
    have qq : OfR n pos true := .yes pos hc (by omega)
    conv => cbv
    refine RetF.mk [i6 pos,.p (.bool true)] [] 0 (Re.at [] []) rfl ⟨pos,true,rfl,rfl,rfl,qq⟩
   ·have g : ¬ n < q := g
    conv => cbv
    refine Again.mk k' _ (Nat.lt_succ_self _) (Re.at [(0,0)] []) ⟨p',rfl,by omega,by omega,by omega,by omega,by omega,by omega,by omega⟩
inductive SlotAt (R : List Rw) (at_ : Int) : Int → Int → Bool → Prop
 | no (h : ∀ (q s : Nat) (e : Rw),R[q]? = some e → wordsOf (clsOf e) ≠ 0 → (s : Int) * wordsOf (clsOf e) < 32 → at_ ≠ 32 * q + s * wordsOf (clsOf e)) : SlotAt R at_ 0 0 false
 | is (q s : Nat) (e : Rw) (he : R[q]? = some e) (hs : wordsOf (clsOf e) ≠ 0) (hlt : (s : Int) * wordsOf (clsOf e) < 32) (hat : at_ = 32 * q + s * wordsOf (clsOf e)) : SlotAt R at_ q s true
theorem slotAt_lx (R : List Rw) (n at_ W : Int) (L D : List PV) (hL : L = rpv R) (hn : n = R.length) (hR : R.length ≤ 1000) (hW : W = 32 * n) : CallF (fun _ => Tryz.prog) 204 [.ptr 0 (.lit 0),i6 at_] [hpB 0 1 3 3 W,hpC 1 2 270 2 n,hpP 2 L,hpP 3 D] 4
  (fun r h n' => ∃ (q s : Int) (b : Bool),r = .tup [i6 q,i6 s,.p (.bool b)] ∧ h = [hpB 0 1 3 3 W,hpC 1 2 270 2 n,hpP 2 L,hpP 3 D] ∧ n' = 4 ∧ SlotAt R at_ q s b) := by
 refine callF_of_body tok Tryz.func204 (by kernel_rfl) rfl rfl rfl ?_; conv => cbv
 refine Br.mk (fun g => ?_) (fun g => ?_)
 ·have g : at_ < 0 := g
  have qq : SlotAt R at_ 0 0 false := .no (fun q s e he hs hlt => by
   have : 0 ≤ (s : Int) * wordsOf (clsOf e) := Int.mul_nonneg (by omega) (wordsOf_bd _).1
   omega)
  conv => cbv
  refine RetF.mk [i6 0,i6 0,.p (.bool false)] [hpB 0 1 3 3 W,hpC 1 2 270 2 n,hpP 2 L,hpP 3 D] 4 (Re.at [(0,0),(1,1),(2,2),(3,3)] []) rfl ⟨0,0,false,rfl,rfl,rfl,qq⟩
 have g : ¬ at_ < 0 := g
 conv => cbv
 refine Br.mk (fun g2 => ?_) (fun g2 => ?_)
 ·have g2 : W ≤ at_ := g2
  have qq : SlotAt R at_ 0 0 false := .no (fun q s e he hs hlt => by
   have := (List.getElem?_eq_some_iff.1 he).1
   omega)
  conv => cbv
  refine RetF.mk [i6 0,i6 0,.p (.bool false)] [hpB 0 1 3 3 W,hpC 1 2 270 2 n,hpP 2 L,hpP 3 D] 4 (Re.at [(0,0),(1,1),(2,2),(3,3)] []) rfl ⟨0,0,false,rfl,rfl,rfl,qq⟩
 have g2 : ¬ W ≤ at_ := g2
 conv => cbv
 have ht : Int.tdiv at_ 32 = at_ / 32 := Int.tdiv_eq_ediv_of_nonneg (by omega)
 refine Fit.mk (by show (-9223372036854775808 : Int) ≤ Int.tdiv at_ 32; omega) (by show Int.tdiv at_ 32 ≤ 9223372036854775807; omega) fun q hq => ?_
 have hq : q = at_ / 32 := (show q = Int.tdiv at_ 32 from hq).trans ht
 clear ht
 conv => cbv
 refine Sum.mk fun z hz => ?_
 have hz : z = at_ % 32 := (show z = Int.tmod at_ 32 from hz).trans (Int.tmod_eq_emod_of_nonneg (by omega))
 obtain ⟨e,he⟩ : ∃ e,R[q.toNat]? = some e := ⟨_,List.getElem?_eq_getElem (by omega)⟩
 obtain ⟨v,hv⟩ : ∃ v,v = clsOf e := ⟨_,rfl⟩
 obtain ⟨w,hw⟩ : ∃ w,w = wordsOf v := ⟨_,rfl⟩
 have hw5 := wordsOf_cases v
 rw [← hw] at hw5
 conv => cbv
 refine cfr (classA_lx R n q v e L hL hn (by omega) he hv) [(0,1),(1,2)] (fun r h' n' ⟨e1,e2,e3⟩ => ?_)
 subst e1 e2 e3
 conv => cbv
 refine callF_frame (words_lx v w hw) [] rfl trivial rfl rfl (fun r h' n' ⟨e1,e2,e3⟩ => ?_)
 subst e1 e2 e3
 conv => cbv
 refine Br.mk (fun g3 => ?_) (fun g3 => ?_)
 ·have g3 : w = 0 := g3
  have qq : SlotAt R at_ 0 0 false := .no (fun q' s' e' he' hs' hlt' hat' => by
   have h0 : 0 ≤ (s' : Int) * wordsOf (clsOf e') := Int.mul_nonneg (by omega) (wordsOf_bd _).1
   have : q' = q.toNat := by omega
   subst this
   rw [he] at he'
   cases he'
   rw [← hv,← hw] at hs'
   exact hs' g3)
  conv => cbv
  refine RetF.mk [i6 0,i6 0,.p (.bool false)] [hpB 0 1 3 3 W,hpC 1 2 270 2 n,hpP 2 L,hpP 3 D] 4 (Re.at [(0,0),(1,1),(2,2),(3,3)] []) rfl ⟨0,0,false,rfl,rfl,rfl,qq⟩
 have g3 : ¬ w = 0 := g3
 conv => cbv
 refine Need.mk g3 ?_
 conv => cbv
 refine Sum.mk fun y hy => ?_
 have hy : y = z % w := (show y = Int.tmod z w from hy).trans (Int.tmod_eq_emod_of_nonneg (by omega))
 conv => cbv
 refine Br.mk (fun g4 => ?_) (fun g4 => ?_)
 ·have g4 : ¬ y = 0 := g4
  have qq : SlotAt R at_ 0 0 false := .no (fun q' s' e' he' hs' hlt' hat' => by
   have h0 : 0 ≤ (s' : Int) * wordsOf (clsOf e') := Int.mul_nonneg (by omega) (wordsOf_bd _).1
   have : q' = q.toNat := by omega
   subst this
   rw [he] at he'
   cases he'
   rw [← hv,← hw] at hat' h0 hlt'
   have : z = s' * w := by omega
   rw [this,Int.mul_emod_left] at hy
   exact g4 hy)
  conv => cbv
  refine RetF.mk [i6 0,i6 0,.p (.bool false)] [hpB 0 1 3 3 W,hpC 1 2 270 2 n,hpP 2 L,hpP 3 D] 4 (Re.at [(0,0),(1,1),(2,2),(3,3)] []) rfl ⟨0,0,false,rfl,rfl,rfl,qq⟩
 have g4 : y = 0 := Classical.byContradiction g4
 have ht : Int.tdiv z w = z / w := Int.tdiv_eq_ediv_of_nonneg (by omega)
 have hwz : w * (z / w) + z % w = z := Int.mul_ediv_add_emod z w
 have hd0 : 0 ≤ z / w := Int.ediv_nonneg (by omega) (by omega)
 obtain ⟨sn,hsn⟩ : ∃ sn : Nat,(sn : Int) = z / w := ⟨(z / w).toNat,by omega⟩
 rw [← hsn] at hwz ht
 have hsb : (sn : Int) ≤ z := by
  have h1 : (1 : Int) * sn ≤ w * sn := Int.mul_le_mul_of_nonneg_right (by omega) (by omega)
  omega
 have qq : SlotAt R at_ q sn true := by
  have hqn : q = (q.toNat : Int) := by omega
  rw [hqn]
  have hmul : (sn : Int) * w = z := by rw [Int.mul_comm]; omega
  refine .is q.toNat sn e he ?_ ?_ ?_
  ·rw [← hv,← hw]; exact g3
  ·rw [← hv,← hw,hmul]; omega
  ·rw [← hv,← hw,hmul]; omega
 clear hwz hd0
 conv => cbv
 refine draw_sound tok (by kernel_rfl) rfl (by kernel_rfl) ?_
 conv => cbv
 refine Need.mk g3 ?_
 conv => cbv
 refine Fit.mk (by show (-9223372036854775808 : Int) ≤ Int.tdiv z w; omega) (by show Int.tdiv z w ≤ 9223372036854775807; omega) fun s0 hs0 => ?_
 have hs0 : s0 = sn := (show s0 = Int.tdiv z w from hs0).trans ht
 rw [← hs0] at qq
 conv => cbv
 refine RetF.mk [i6 q,i6 s0,.p (.bool true)] [hpB 0 1 3 3 W,hpC 1 2 270 2 n,hpP 2 L,hpP 3 D] 4 (Re.at [(0,0),(1,1),(2,2),(3,3)] []) rfl ⟨q,s0,true,rfl,rfl,rfl,qq⟩
end Go.Proofs.YtcbombkaacjngaaGreatDoor
namespace Go.Proofs.YtcbombkaacjngaaGreatDoor
open Go Go.LX
set_option maxRecDepth 100000
set_option linter.unusedVariables false
set_option linter.unusedSimpArgs false
set_option maxHeartbeats 32000000
def ipv (l : List Int) : List PV := l.map fun z => .int .i64 (.sym z)
theorem ipv_get {l : List Int} {i : Nat} {z : Int} (h : l[i]? = some z) : (ipv l)[i]? = some (.int .i64 (.sym z)) := by rw [ipv,List.getElem?_map,h]; rfl
theorem ipv_length (l : List Int) : (ipv l).length = l.length := List.length_map _
def RowsOk (R : List Rw) : Prop := ∀ e ∈ R,e.2.length ≤ 8 ∧ (e.2 ≠ [] → wordsOf e.1 ≠ 0 ∧ e.2.length = slotsOf e.1 ∧ true ∈ e.2)
def IsObj (R : List Rw) (at_ : Int) : Prop := ∃ (q s : Nat) (e : Rw),R[q]? = some e ∧ e.2[s]? = some true ∧ at_ = 32 * q + s * wordsOf e.1
theorem slots_words {c : Int} {s : Nat} (h : wordsOf c ≠ 0) (hs : s < slotsOf c) : (s : Int) * wordsOf c + wordsOf c ≤ 32 := by
 unfold wordsOf at *
 unfold slotsOf at hs
 split at h
 ·rw [if_pos (by assumption)] at hs ⊢; omega
 ·split at h
  ·rw [if_neg (by assumption),if_pos (by assumption)] at hs ⊢; omega
  ·split at h
   ·rw [if_neg (by assumption),if_neg (by assumption),if_pos (by assumption)] at hs ⊢; omega
   ·split at h
    ·rw [if_neg (by assumption),if_neg (by assumption),if_neg (by assumption),if_pos (by assumption)] at hs ⊢; omega
    ·exact absurd rfl h
theorem obj_slot {R : List Rw} (hR : RowsOk R) {at_ : Int} {q s : Int} {b : Bool} (h : SlotAt R at_ q s b) : (b = true ∧ 0 ≤ q ∧ 0 ≤ s ∧ q < R.length ∧ 0 ≤ at_ ∧ at_ < 32 * R.length ∧ ∃ e : Rw,R[q.toNat]? = some e ∧ at_ = 32 * q + s * wordsOf e.1 ∧ (IsObj R at_ ↔ e.2[s.toNat]? = some true)) ∨ (b = false ∧ ¬ IsObj R at_) := by
 cases h with
 | no h =>
  refine .inr ⟨rfl,?_⟩
  rintro ⟨q,s,e,he,hs,hat⟩
  have hne : e.2 ≠ [] := by intro e0; rw [e0] at hs; simp at hs
  have hcl : clsOf e = e.1 := if_neg hne
  obtain ⟨_,hok⟩ := hR e (List.mem_of_getElem? he)
  obtain ⟨h1,h2,_⟩ := hok hne
  have hsl : s < slotsOf e.1 := by have := (List.getElem?_eq_some_iff.1 hs).1; omega
  have := slots_words h1 hsl
  have := (wordsOf_bd e.1).1
  exact h q s e he (by rw [hcl]; exact h1) (by rw [hcl]; omega) (by rw [hcl]; exact hat)
 | is q s e he hs hlt hat =>
  have hne : e.2 ≠ [] := by intro e0; apply hs; rw [clsOf,if_pos e0]; rfl
  have hcl : clsOf e = e.1 := if_neg hne
  rw [hcl] at hs hlt hat
  have hq := (List.getElem?_eq_some_iff.1 he).1
  have h0 : 0 ≤ (s : Int) * wordsOf e.1 := Int.mul_nonneg (by omega) (wordsOf_bd _).1
  refine .inl ⟨rfl,by omega,by omega,by omega,by omega,by omega,e,by simpa using he,by simpa using hat,?_⟩
  constructor
  ·rintro ⟨q',s',e',he',hs',hat'⟩
   have hne' : e'.2 ≠ [] := by intro e0; rw [e0] at hs'; simp at hs'
   obtain ⟨_,hok⟩ := hR e' (List.mem_of_getElem? he')
   obtain ⟨h1,h2,_⟩ := hok hne'
   have hsl : s' < slotsOf e'.1 := by have := (List.getElem?_eq_some_iff.1 hs').1; omega
   have h3 := slots_words h1 hsl
   have h4 := (wordsOf_bd e'.1).1
   have h5 : 0 ≤ (s' : Int) * wordsOf e'.1 := Int.mul_nonneg (by omega) h4
   have h6 : q' = q := by omega
   subst h6
   rw [he] at he'
   cases he'
   have h7 : (s : Int) * wordsOf e.1 = s' * wordsOf e.1 := by omega
   have h8 := Int.eq_of_mul_eq_mul_right h1 h7
   rw [Int.toNat_natCast,show s = s' by omega]; exact hs'
  ·intro h
   exact ⟨q,s,e,he,by simpa using h,hat⟩
inductive Slotted (R : List Rw) (at_ : Int) : Int → Int → Bool → Prop
 | no (q s : Int) (h : ¬ IsObj R at_) : Slotted R at_ q s false
 | off (q s : Int) (e : Rw) (hq0 : 0 ≤ q) (hs0 : 0 ≤ s) (he : R[q.toNat]? = some e) (hu : e.2[s.toNat]? ≠ some true) (h : ¬ IsObj R at_) : Slotted R at_ q s true
 | on (q s : Int) (e : Rw) (hq0 : 0 ≤ q) (hs0 : 0 ≤ s) (he : R[q.toNat]? = some e) (hu : e.2[s.toNat]? = some true) (h : IsObj R at_) (ha0 : 0 ≤ at_) (ha1 : at_ < 32 * R.length) (hat : at_ = 32 * q + s * wordsOf e.1) : Slotted R at_ q s true
theorem slotted {R : List Rw} (hR : RowsOk R) {at_ : Int} {q s : Int} {b : Bool} (h : SlotAt R at_ q s b) : Slotted R at_ q s b := by
 rcases obj_slot hR h with ⟨rfl,h1,h2,h3,h4,h5,e,h6,h7,h8⟩ | ⟨rfl,h1⟩
 ·by_cases hu : e.2[s.toNat]? = some true
  ·exact .on q s e h1 h2 h6 hu (h8.2 hu) h4 h5 h7
  ·exact .off q s e h1 h2 h6 hu (fun h => hu (h8.1 h))
 ·exact .no q s h1
theorem slotB_lx (R : List Rw) (n at_ W : Int) (L D : List PV) (hL : L = rpv R) (hn : n = R.length) (hR : R.length ≤ 1000) (hok : RowsOk R) (hW : W = 32 * n) : CallF (fun _ => Tryz.prog) 204 [.ptr 0 (.lit 0),i6 at_] [hpB 0 1 3 3 W,hpC 1 2 270 2 n,hpP 2 L,hpP 3 D] 4
  (fun r h n' => ∃ (q s : Int) (b : Bool),r = .tup [i6 q,i6 s,.p (.bool b)] ∧ h = [hpB 0 1 3 3 W,hpC 1 2 270 2 n,hpP 2 L,hpP 3 D] ∧ n' = 4 ∧ Slotted R at_ q s b) :=
 (slotAt_lx R n at_ W L D hL hn hR hW).mono fun r h n' ⟨q,s,b,h1,h2,h3,h4⟩ => ⟨q,s,b,h1,h2,h3,slotted hok h4⟩
theorem tdiv16 (x : Int) (h : -9223372036854775808 ≤ x ∧ x ≤ 9223372036854775807) : -9223372036854775808 ≤ Int.tdiv x 16 ∧ Int.tdiv x 16 ≤ 9223372036854775807 := by
 rcases Int.le_total 0 x with h0 | h0
 ·rw [Int.tdiv_eq_ediv_of_nonneg h0]; omega
 ·have : Int.tdiv x 16 = -(Int.tdiv (-x) 16) := by rw [Int.neg_tdiv]; omega
  rw [this,Int.tdiv_eq_ediv_of_nonneg (by omega)]; omega
inductive Looked (R : List Rw) (ws : List Int) (at_ : Int) : LV → Prop
 | no (h : ¬ IsObj R at_) : Looked R ws at_ (.iface 263 (.agg []))
 | is (x k l : Int) (h : IsObj R at_) (h0 : 0 ≤ at_) (hx : ws[at_.toNat]? = some x) (hk : k = Int.tmod x 16) (hl : l = Int.tdiv x 16) : Looked R ws at_ (.iface 187 (.agg [i6 k,i6 l]))
theorem look_lx (R : List Rw) (ws : List Int) (n at_ W : Int) (L D : List PV) (hL : L = rpv R) (hD : D = ipv ws) (hn : n = R.length) (hR : R.length ≤ 1000) (hok : RowsOk R) (hW : W = 32 * n) (hws : (ws.length : Int) = W) (hwb : ∀ x ∈ ws,-9223372036854775808 ≤ x ∧ x ≤ 9223372036854775807) : CallF (fun _ => Tryz.prog) 132 [.ptr 0 (.lit 0),i6 at_] [hpB 0 1 3 3 W,hpC 1 2 270 2 n,hpP 2 L,hpP 3 D] 4
  (fun r h n' => Looked R ws at_ r ∧ h = [hpB 0 1 3 3 W,hpC 1 2 270 2 n,hpP 2 L,hpP 3 D] ∧ n' = 4) := by
 refine callF_of_body tok Tryz.func132 (by kernel_rfl) rfl rfl rfl ?_; conv => cbv
 refine cfr (slotB_lx R n at_ W L D hL hn hR hok hW) [(0,0),(1,1),(2,2),(3,3)] (fun r h' n' hrr => ?_)
 obtain ⟨q,s,b,e1,e2,e3,hS⟩ := hrr
 subst e1 e2 e3
 cases hS with
 | no hno =>
  conv => cbv
  refine RetF.mk [.iface 263 (.agg [])] [hpB 0 1 3 3 W,hpC 1 2 270 2 n,hpP 2 L,hpP 3 D] 4 (Re.at [(0,0),(1,1),(2,2),(3,3)] []) rfl ⟨.no hno,rfl,rfl⟩
 | off e hq0 hs0 he hu hno =>
  conv => cbv
  refine cfr (used_no_lx R n q s e.1 e.2 L hL hn hq0 he (hok e (List.mem_of_getElem? he)).1 (fun _ => hu)) [(0,1),(1,2)] (fun r h' n' ⟨e1,e2,e3⟩ => ?_)
  subst e1 e2 e3
  conv => cbv
  refine RetF.mk [.iface 263 (.agg [])] [hpB 0 1 3 3 W,hpC 1 2 270 2 n,hpP 2 L,hpP 3 D] 4 (Re.at [(0,0),(1,1),(2,2),(3,3)] []) rfl ⟨.no hno,rfl,rfl⟩
 | on e hq0 hs0 he hu hobj ha0 ha1 hat =>
  conv => cbv
  refine cfr (used_lx R n q s e.1 e.2 L hL hn hq0 he true hs0 hu) [(0,1),(1,2)] (fun r h' n' ⟨e1,e2,e3⟩ => ?_)
  subst e1 e2 e3
  conv => cbv
  obtain ⟨x,hx⟩ : ∃ x,ws[at_.toNat]? = some x := ⟨_,List.getElem?_eq_getElem (by omega)⟩
  have hxb := hwb x (List.mem_of_getElem? hx)
  have hc := ipv_get hx
  rw [← hD] at hc
  refine draw_sound tok (by kernel_rfl) rfl (by kernel_rfl) ?_
  conv => cbv
  refine Need.mk ⟨ha0,by show at_ < W; omega⟩ ?_
  conv => cbv
  refine Cell.at at_ _ hc (by simp [I.val]) rfl ?_
  conv => cbv
  refine Sum.mk fun k hk => ?_
  have hk : k = Int.tmod x 16 := hk
  conv => cbv
  refine Need.mk ⟨ha0,by show at_ < W; omega⟩ ?_
  conv => cbv
  refine Cell.at at_ _ hc (by simp [I.val]) rfl ?_
  conv => cbv
  have hl16 := tdiv16 x hxb
  refine Fit.mk (by show (-9223372036854775808 : Int) ≤ Int.tdiv x 16; omega) (by show Int.tdiv x 16 ≤ 9223372036854775807; omega) fun l hl => ?_
  have hl : l = Int.tdiv x 16 := hl
  conv => cbv
  refine RetF.mk [.iface 187 (.agg [i6 k,i6 l])] [hpB 0 1 3 3 W,hpC 1 2 270 2 n,hpP 2 L,hpP 3 D] 4 (Re.at [(0,0),(1,1),(2,2),(3,3)] []) rfl ⟨.is x k l hobj ha0 hx hk hl,rfl,rfl⟩
end Go.Proofs.YtcbombkaacjngaaGreatDoor
namespace Go.Proofs.YtcbombkaacjngaaGreatDoor
open Go Go.LX
set_option maxRecDepth 100000
set_option linter.unusedVariables false
set_option linter.unusedSimpArgs false
set_option maxHeartbeats 32000000
inductive ObjAt (R : List Rw) (at_ w : Int) : Prop
 | mk (q s : Nat) (e : Rw) (he : R[q]? = some e) (hs : e.2[s]? = some true) (hat : at_ = 32 * q + s * wordsOf e.1) (hw : w = wordsOf e.1)
theorem isObj_iff {R : List Rw} {at_ : Int} : IsObj R at_ ↔ ∃ w,ObjAt R at_ w := by
 constructor
 ·rintro ⟨q,s,e,h1,h2,h3⟩; exact ⟨_,q,s,e,h1,h2,h3,rfl⟩
 ·rintro ⟨w,q,s,e,h1,h2,h3,h4⟩; exact ⟨q,s,e,h1,h2,h3⟩
theorem ObjAt.facts {R : List Rw} (hR : RowsOk R) {a w : Int} (h : ObjAt R a w) : 0 ≤ a ∧ a + w ≤ 32 * R.length ∧ (w = 4 ∨ w = 8 ∨ w = 16 ∨ w = 32) ∧ ∃ k : Int,a = k * w := by
 obtain ⟨q,s,e,he,hs,hat,hw⟩ := h
 have hne : e.2 ≠ [] := by intro e0; rw [e0] at hs; simp at hs
 obtain ⟨_,hok⟩ := hR e (List.mem_of_getElem? he)
 obtain ⟨h1,h2,_⟩ := hok hne
 have hsl : s < slotsOf e.1 := by have := (List.getElem?_eq_some_iff.1 hs).1; omega
 have h3 := slots_words h1 hsl
 have h4 := wordsOf_cases e.1
 have h5 : 0 ≤ (s : Int) * wordsOf e.1 := Int.mul_nonneg (by omega) (wordsOf_bd _).1
 have hq := (List.getElem?_eq_some_iff.1 he).1
 rw [← hw] at h1 h3 h4 h5 hat
 refine ⟨by omega,by omega,by omega,?_⟩
 rcases h4 with h4 | h4 | h4 | h4 | h4
 ·exact absurd h4 h1
 ·exact ⟨8 * q + s,by rw [hat,h4]; omega⟩
 ·exact ⟨4 * q + s,by rw [hat,h4]; omega⟩
 ·exact ⟨2 * q + s,by rw [hat,h4]; omega⟩
 ·exact ⟨q + s,by rw [hat,h4]; omega⟩
theorem ObjAt.apart {R : List Rw} (hR : RowsOk R) {a w b v : Int} (h : ObjAt R a w) (k : ObjAt R b v) : (a = b ∧ w = v) ∨ a + w ≤ b ∨ b + v ≤ a := by
 obtain ⟨q,s,e,he,hs,hat,hw⟩ := h
 obtain ⟨q',s',e',he',hs',hat',hw'⟩ := k
 have hne : e.2 ≠ [] := by intro e0; rw [e0] at hs; simp at hs
 have hne' : e'.2 ≠ [] := by intro e0; rw [e0] at hs'; simp at hs'
 obtain ⟨_,hok⟩ := hR e (List.mem_of_getElem? he)
 obtain ⟨_,hok'⟩ := hR e' (List.mem_of_getElem? he')
 obtain ⟨h1,h2,_⟩ := hok hne
 obtain ⟨h1',h2',_⟩ := hok' hne'
 have hsl : s < slotsOf e.1 := by have := (List.getElem?_eq_some_iff.1 hs).1; omega
 have hsl' : s' < slotsOf e'.1 := by have := (List.getElem?_eq_some_iff.1 hs').1; omega
 have h3 := slots_words h1 hsl
 have h3' := slots_words h1' hsl'
 have h5 : 0 ≤ (s : Int) * wordsOf e.1 := Int.mul_nonneg (by omega) (wordsOf_bd _).1
 have h5' : 0 ≤ (s' : Int) * wordsOf e'.1 := Int.mul_nonneg (by omega) (wordsOf_bd _).1
 rcases Nat.lt_trichotomy q q' with hq | hq | hq
 ·exact .inr (.inl (by omega))
 ·subst hq
  rw [he] at he'
  cases he'
  have h6 := wordsOf_cases e.1
  rcases Nat.lt_trichotomy s s' with hss | hss | hss
  ·have : (s : Int) * wordsOf e.1 + wordsOf e.1 ≤ s' * wordsOf e.1 := by
    have := Int.mul_le_mul_of_nonneg_right (show (s : Int) + 1 ≤ s' by omega) (show 0 ≤ wordsOf e.1 by omega)
    rw [Int.add_mul,Int.one_mul] at this; exact this
   exact .inr (.inl (by omega))
  ·subst hss; exact .inl ⟨by omega,by omega⟩
  ·have : (s' : Int) * wordsOf e.1 + wordsOf e.1 ≤ s * wordsOf e.1 := by
    have := Int.mul_le_mul_of_nonneg_right (show (s' : Int) + 1 ≤ s by omega) (show 0 ≤ wordsOf e.1 by omega)
    rw [Int.add_mul,Int.one_mul] at this; exact this
   exact .inr (.inr (by omega))
 ·exact .inr (.inr (by omega))
structure AOk (R : List Rw) (ws : List Int) : Prop where
 rows : RowsOk R
 len : (ws.length : Int) = 32 * R.length
 bd : ∀ x ∈ ws,-9223372036854775808 ≤ x ∧ x ≤ 9223372036854775807
 hdr : ∀ a w,ObjAt R a w → ∃ k l : Int,ws[a.toNat]? = some (k + 16 * l) ∧ 0 ≤ k ∧ k < 16 ∧ 0 ≤ l ∧ l < w
theorem hdr_of {k l : Int} (h0 : 0 ≤ k) (h1 : k < 16) (h2 : 0 ≤ l) : Int.tmod (k + 16 * l) 16 = k ∧ Int.tdiv (k + 16 * l) 16 = l := by
 rw [Int.tmod_eq_emod_of_nonneg (by omega),Int.tdiv_eq_ediv_of_nonneg (by omega)]
 omega
inductive Kept (R : List Rw) (ws : List Int) (at_ : Int) : Int → Int → Prop
 | mk (k l w : Int) (h : ObjAt R at_ w) (hx : ws[at_.toNat]? = some (k + 16 * l)) (h0 : 0 ≤ k) (h1 : k < 16) (h2 : 0 ≤ l) (h3 : l < w) : Kept R ws at_ k l
theorem Kept.of {R : List Rw} {ws : List Int} (hA : AOk R ws) {a : Int} (h : IsObj R a) : ∃ k l,Kept R ws a k l := by
 obtain ⟨w,hw⟩ := isObj_iff.1 h
 obtain ⟨k,l,h1,h2,h3,h4,h5⟩ := hA.hdr a w hw
 exact ⟨k,l,.mk k l w hw h1 h2 h3 h4 h5⟩
inductive Seen (R : List Rw) (ws : List Int) (at_ : Int) : LV → Prop
 | no (h : ¬ IsObj R at_) : Seen R ws at_ (.iface 263 (.agg []))
 | is (k l : Int) (h : Kept R ws at_ k l) : Seen R ws at_ (.iface 187 (.agg [i6 k,i6 l]))
theorem seen {R : List Rw} {ws : List Int} (hA : AOk R ws) {a : Int} {r : LV} (h : Looked R ws a r) : Seen R ws a r := by
 cases h with
 | no h => exact .no h
 | is x k l h h0 hx hk hl =>
  obtain ⟨k',l',h'⟩ := Kept.of hA h
  have h'' := h'
  obtain ⟨w,h1,h2,h3,h4,h5,h6⟩ := h'
  rw [hx] at h2
  have h2 : x = k' + 16 * l' := Option.some.inj h2
  have := hdr_of h3 h4 h5
  rw [h2,this.1] at hk
  rw [h2,this.2] at hl
  rw [hk,hl]
  exact .is k' l' h''
theorem see_lx (R : List Rw) (ws : List Int) (n at_ W : Int) (L D : List PV) (hL : L = rpv R) (hD : D = ipv ws) (hn : n = R.length) (hR : R.length ≤ 1000) (hA : AOk R ws) (hW : W = 32 * n) : CallF (fun _ => Tryz.prog) 132 [.ptr 0 (.lit 0),i6 at_] [hpB 0 1 3 3 W,hpC 1 2 270 2 n,hpP 2 L,hpP 3 D] 4
  (fun r h n' => Seen R ws at_ r ∧ h = [hpB 0 1 3 3 W,hpC 1 2 270 2 n,hpP 2 L,hpP 3 D] ∧ n' = 4) :=
 (look_lx R ws n at_ W L D hL hD hn hR hA.rows hW (by rw [hA.len]; omega) hA.bd).mono fun r h n' ⟨h1,h2,h3⟩ => ⟨seen hA h1,h2,h3⟩
inductive KindR (R : List Rw) (ws : List Int) (at_ : Int) : Int → Prop
 | no (h : ¬ IsObj R at_) : KindR R ws at_ 0
 | is (k l : Int) (h : Kept R ws at_ k l) : KindR R ws at_ k
inductive LenR (R : List Rw) (ws : List Int) (at_ : Int) : Int → Prop
 | no (h : ¬ IsObj R at_) : LenR R ws at_ 0
 | is (k l : Int) (h : Kept R ws at_ k l) : LenR R ws at_ l
theorem kind_lx (R : List Rw) (ws : List Int) (n at_ W : Int) (L D : List PV) (hL : L = rpv R) (hD : D = ipv ws) (hn : n = R.length) (hR : R.length ≤ 1000) (hA : AOk R ws) (hW : W = 32 * n) : CallF (fun _ => Tryz.prog) 55 [.ptr 0 (.lit 0),i6 at_] [hpB 0 1 3 3 W,hpC 1 2 270 2 n,hpP 2 L,hpP 3 D] 4
  (fun r h n' => ∃ v : Int,r = .p (.int .i64 (.sym v)) ∧ h = [hpB 0 1 3 3 W,hpC 1 2 270 2 n,hpP 2 L,hpP 3 D] ∧ n' = 4 ∧ KindR R ws at_ v) := by
 refine callF_of_body tok Tryz.func55 (by kernel_rfl) rfl rfl rfl ?_; conv => cbv
 refine cfr (see_lx R ws n at_ W L D hL hD hn hR hA hW) [(0,0),(1,1),(2,2),(3,3)] (fun r h' n' hrr => ?_)
 obtain ⟨hS,e2,e3⟩ := hrr
 subst e2 e3
 cases hS with
 | no hno =>
  conv => cbv
  refine RetF.mk [i6 0] [hpB 0 1 3 3 W,hpC 1 2 270 2 n,hpP 2 L,hpP 3 D] 4 (Re.at [(0,0),(1,1),(2,2),(3,3)] []) rfl ⟨0,rfl,rfl,rfl,.no hno⟩
 | is k l hk =>
  conv => cbv
  refine RetF.mk [i6 k] [hpB 0 1 3 3 W,hpC 1 2 270 2 n,hpP 2 L,hpP 3 D] 4 (Re.at [(0,0),(1,1),(2,2),(3,3)] []) rfl ⟨k,rfl,rfl,rfl,.is k l hk⟩
theorem len_lx (R : List Rw) (ws : List Int) (n at_ W : Int) (L D : List PV) (hL : L = rpv R) (hD : D = ipv ws) (hn : n = R.length) (hR : R.length ≤ 1000) (hA : AOk R ws) (hW : W = 32 * n) : CallF (fun _ => Tryz.prog) 199 [.ptr 0 (.lit 0),i6 at_] [hpB 0 1 3 3 W,hpC 1 2 270 2 n,hpP 2 L,hpP 3 D] 4
  (fun r h n' => ∃ v : Int,r = .p (.int .i64 (.sym v)) ∧ h = [hpB 0 1 3 3 W,hpC 1 2 270 2 n,hpP 2 L,hpP 3 D] ∧ n' = 4 ∧ LenR R ws at_ v) := by
 refine callF_of_body tok Tryz.func199 (by kernel_rfl) rfl rfl rfl ?_; conv => cbv
 refine cfr (see_lx R ws n at_ W L D hL hD hn hR hA hW) [(0,0),(1,1),(2,2),(3,3)] (fun r h' n' hrr => ?_)
 obtain ⟨hS,e2,e3⟩ := hrr
 subst e2 e3
 cases hS with
 | no hno =>
  conv => cbv
  refine RetF.mk [i6 0] [hpB 0 1 3 3 W,hpC 1 2 270 2 n,hpP 2 L,hpP 3 D] 4 (Re.at [(0,0),(1,1),(2,2),(3,3)] []) rfl ⟨0,rfl,rfl,rfl,.no hno⟩
 | is k l hk =>
  conv => cbv
  refine RetF.mk [i6 l] [hpB 0 1 3 3 W,hpC 1 2 270 2 n,hpP 2 L,hpP 3 D] 4 (Re.at [(0,0),(1,1),(2,2),(3,3)] []) rfl ⟨l,rfl,rfl,rfl,.is k l hk⟩
inductive Judged (R : List Rw) (ws : List Int) (at_ i : Int) : Int → Prop
 | none (h : ¬ IsObj R at_) : Judged R ws at_ i 8
 | arg (k l : Int) (h : Kept R ws at_ k l) (hi : ¬ (0 ≤ i ∧ i < l)) : Judged R ws at_ i 1
 | ok (k l : Int) (h : Kept R ws at_ k l) (hi : 0 ≤ i ∧ i < l) : Judged R ws at_ i 0
theorem judge_lx (i : Int) (R : List Rw) (ws : List Int) (n at_ W : Int) (L D : List PV) (hL : L = rpv R) (hD : D = ipv ws) (hn : n = R.length) (hR : R.length ≤ 1000) (hA : AOk R ws) (hW : W = 32 * n) : CallF (fun _ => Tryz.prog) 134 [.ptr 0 (.lit 0),i6 at_,i6 i] [hpB 0 1 3 3 W,hpC 1 2 270 2 n,hpP 2 L,hpP 3 D] 4
  (fun r h n' => ∃ v : Int,r = .p (.int .i64 (.sym v)) ∧ h = [hpB 0 1 3 3 W,hpC 1 2 270 2 n,hpP 2 L,hpP 3 D] ∧ n' = 4 ∧ Judged R ws at_ i v) := by
 refine callF_of_body tok Tryz.func134 (by kernel_rfl) rfl rfl rfl ?_; conv => cbv
 refine cfr (see_lx R ws n at_ W L D hL hD hn hR hA hW) [(0,0),(1,1),(2,2),(3,3)] (fun r h' n' hrr => ?_)
 obtain ⟨hS,e2,e3⟩ := hrr
 subst e2 e3
 cases hS with
 | no hno =>
  conv => cbv
  refine RetF.mk [i6 8] [hpB 0 1 3 3 W,hpC 1 2 270 2 n,hpP 2 L,hpP 3 D] 4 (Re.at [(0,0),(1,1),(2,2),(3,3)] []) rfl ⟨8,rfl,rfl,rfl,.none hno⟩
 | is k l hk =>
  conv => cbv
  refine Br.mk (fun g => ?_) (fun g => ?_)
  ·have g : i < 0 := g
   conv => cbv
   refine RetF.mk [i6 1] [hpB 0 1 3 3 W,hpC 1 2 270 2 n,hpP 2 L,hpP 3 D] 4 (Re.at [(0,0),(1,1),(2,2),(3,3)] []) rfl ⟨1,rfl,rfl,rfl,.arg k l hk (by omega)⟩
  have g : ¬ i < 0 := g
  conv => cbv
  refine Br.mk (fun g => ?_) (fun g => ?_)
  ·have g : l ≤ i := g
   conv => cbv
   refine RetF.mk [i6 1] [hpB 0 1 3 3 W,hpC 1 2 270 2 n,hpP 2 L,hpP 3 D] 4 (Re.at [(0,0),(1,1),(2,2),(3,3)] []) rfl ⟨1,rfl,rfl,rfl,.arg k l hk (by omega)⟩
  ·have g : ¬ l ≤ i := g
   conv => cbv
   refine RetF.mk [i6 0] [hpB 0 1 3 3 W,hpC 1 2 270 2 n,hpP 2 L,hpP 3 D] 4 (Re.at [(0,0),(1,1),(2,2),(3,3)] []) rfl ⟨0,rfl,rfl,rfl,.ok k l hk (by omega)⟩
inductive Loaded (R : List Rw) (ws : List Int) (at_ i : Int) : Int → Int → Prop
 | none (h : ¬ IsObj R at_) : Loaded R ws at_ i 0 8
 | arg (k l : Int) (h : Kept R ws at_ k l) (hi : ¬ (0 ≤ i ∧ i < l)) : Loaded R ws at_ i 0 1
 | ok (k l x : Int) (h : Kept R ws at_ k l) (hi : 0 ≤ i ∧ i < l) (hx : ws[(at_ + 1 + i).toNat]? = some x) : Loaded R ws at_ i x 0
theorem Kept.bounds {R : List Rw} {ws : List Int} (hA : AOk R ws) {a k l : Int} (h : Kept R ws a k l) : 0 ≤ a ∧ 0 ≤ l ∧ a + 1 + l ≤ 32 * R.length ∧ l < 32 := by
 obtain ⟨w,h1,_,_,_,h2,h3⟩ := h
 obtain ⟨h4,h5,h6,_⟩ := h1.facts hA.rows
 omega
theorem load_lx (i : Int) (R : List Rw) (ws : List Int) (n at_ W : Int) (L D : List PV) (hL : L = rpv R) (hD : D = ipv ws) (hn : n = R.length) (hR : R.length ≤ 1000) (hA : AOk R ws) (hW : W = 32 * n) : CallF (fun _ => Tryz.prog) 153 [.ptr 0 (.lit 0),i6 at_,i6 i] [hpB 0 1 3 3 W,hpC 1 2 270 2 n,hpP 2 L,hpP 3 D] 4
  (fun r h n' => ∃ x e : Int,r = .tup [i6 x,i6 e] ∧ h = [hpB 0 1 3 3 W,hpC 1 2 270 2 n,hpP 2 L,hpP 3 D] ∧ n' = 4 ∧ Loaded R ws at_ i x e) := by
 have hlen := hA.len
 refine callF_of_body tok Tryz.func153 (by kernel_rfl) rfl rfl rfl ?_; conv => cbv
 refine cfr (judge_lx i R ws n at_ W L D hL hD hn hR hA hW) [(0,0),(1,1),(2,2),(3,3)] (fun r h' n' hrr => ?_)
 obtain ⟨v,e1,e2,e3,hJ⟩ := hrr
 subst e1 e2 e3
 cases hJ with
 | none hno =>
  conv => cbv
  refine Br.mk (fun g => ?_) (fun g => ?_)
  case refine_2 =>
   have gf : False := g (by decide)
   cases gf
  conv => cbv
  refine RetF.mk [i6 0,i6 8] [hpB 0 1 3 3 W,hpC 1 2 270 2 n,hpP 2 L,hpP 3 D] 4 (Re.at [(0,0),(1,1),(2,2),(3,3)] []) rfl ⟨0,8,rfl,rfl,rfl,.none hno⟩
 | arg k l hk hi =>
  conv => cbv
  refine Br.mk (fun g => ?_) (fun g => ?_)
  case refine_2 =>
   have gf : False := g (by decide)
   cases gf
  conv => cbv
  refine RetF.mk [i6 0,i6 1] [hpB 0 1 3 3 W,hpC 1 2 270 2 n,hpP 2 L,hpP 3 D] 4 (Re.at [(0,0),(1,1),(2,2),(3,3)] []) rfl ⟨0,1,rfl,rfl,rfl,.arg k l hk hi⟩
 | ok k l hk hi =>
  conv => cbv
  refine Br.mk (fun g => ?_) (fun g => ?_)
  case refine_1 =>
   have gf : False := g rfl
   cases gf
  conv => cbv
  have hb := hk.bounds hA
  obtain ⟨x,hx⟩ : ∃ x,ws[(at_ + 1 + i).toNat]? = some x := ⟨_,List.getElem?_eq_getElem (by omega)⟩
  have hc := ipv_get hx
  rw [← hD] at hc
  refine Fit.mk (by show (-9223372036854775808 : Int) ≤ at_ + 1; omega) (by show at_ + 1 ≤ 9223372036854775807; omega) fun a1 ha1 => ?_
  have ha1 : a1 = at_ + 1 := ha1
  conv => cbv
  refine Fit.mk (by show (-9223372036854775808 : Int) ≤ a1 + i; omega) (by show a1 + i ≤ 9223372036854775807; omega) fun a2 ha2 => ?_
  have ha2 : a2 = a1 + i := ha2
  have ha2 : a2 = at_ + 1 + i := by omega
  conv => cbv
  refine Need.mk ⟨by show 0 ≤ a2; omega,by show a2 < W; omega⟩ ?_
  conv => cbv
  refine Cell.at a2 _ hc (by simp [I.val]) (by omega) ?_
  conv => cbv
  refine RetF.mk [i6 x,i6 0] [hpB 0 1 3 3 W,hpC 1 2 270 2 n,hpP 2 L,hpP 3 D] 4 (Re.at [(0,0),(1,1),(2,2),(3,3)] []) rfl ⟨x,0,rfl,rfl,rfl,.ok k l x hk hi hx⟩
theorem updL_ipv (ws : List Int) (j : Nat) (x : Int) : updL (ipv ws) j [.int .i64 (.sym x)] = ipv (ws.set j x) := by
 show (ipv ws).set j _ = _
 rw [ipv,ipv,List.map_set]
inductive Stored (R : List Rw) (ws : List Int) (at_ i x : Int) : Int → List Int → Prop
 | none (h : ¬ IsObj R at_) : Stored R ws at_ i x 8 ws
 | arg (k l : Int) (h : Kept R ws at_ k l) (hi : ¬ (0 ≤ i ∧ i < l)) : Stored R ws at_ i x 1 ws
 | ok (k l : Int) (h : Kept R ws at_ k l) (hi : 0 ≤ i ∧ i < l) : Stored R ws at_ i x 0 (ws.set (at_ + 1 + i).toNat x)
theorem store_lx (i x : Int) (R : List Rw) (ws : List Int) (n at_ W : Int) (L D : List PV) (hL : L = rpv R) (hD : D = ipv ws) (hn : n = R.length) (hR : R.length ≤ 1000) (hA : AOk R ws) (hW : W = 32 * n) : CallF (fun _ => Tryz.prog) 58 [.ptr 0 (.lit 0),i6 at_,i6 i,i6 x] [hpB 0 1 3 3 W,hpC 1 2 270 2 n,hpP 2 L,hpP 3 D] 4
  (fun r h n' => ∃ (e : Int) (ws' : List Int) (D' : List PV),r = .p (.int .i64 (.sym e)) ∧ h = [hpB 0 1 3 3 W,hpC 1 2 270 2 n,hpP 2 L,hpP 3 D'] ∧ n' = 4 ∧ D' = ipv ws' ∧ Stored R ws at_ i x e ws') := by
 have hlen := hA.len
 have hDl : D.length = ws.length := by rw [hD,ipv_length]
 refine callF_of_body tok Tryz.func58 (by kernel_rfl) rfl rfl rfl ?_; conv => cbv
 refine cfr (judge_lx i R ws n at_ W L D hL hD hn hR hA hW) [(0,0),(1,1),(2,2),(3,3)] (fun r h' n' hrr => ?_)
 obtain ⟨v,e1,e2,e3,hJ⟩ := hrr
 subst e1 e2 e3
 cases hJ with
 | none hno =>
  conv => cbv
  refine Br.mk (fun g => ?_) (fun g => ?_)
  case refine_2 =>
   have gf : False := g (by decide)
   cases gf
  conv => cbv
  refine RetF.mk [i6 8] [hpB 0 1 3 3 W,hpC 1 2 270 2 n,hpP 2 L,hpP 3 D] 4 (Re.at [(0,0),(1,1),(2,2),(3,3)] []) rfl ⟨8,ws,D,rfl,rfl,rfl,hD,.none hno⟩
 | arg k l hk hi =>
  conv => cbv
  refine Br.mk (fun g => ?_) (fun g => ?_)
  case refine_2 =>
   have gf : False := g (by decide)
   cases gf
  conv => cbv
  refine RetF.mk [i6 1] [hpB 0 1 3 3 W,hpC 1 2 270 2 n,hpP 2 L,hpP 3 D] 4 (Re.at [(0,0),(1,1),(2,2),(3,3)] []) rfl ⟨1,ws,D,rfl,rfl,rfl,hD,.arg k l hk hi⟩
 | ok k l hk hi =>
  conv => cbv
  refine Br.mk (fun g => ?_) (fun g => ?_)
  case refine_1 =>
   have gf : False := g rfl
   cases gf
  conv => cbv
  have hb := hk.bounds hA
  refine Fit.mk (by show (-9223372036854775808 : Int) ≤ at_ + 1; omega) (by show at_ + 1 ≤ 9223372036854775807; omega) fun a1 ha1 => ?_
  have ha1 : a1 = at_ + 1 := ha1
  conv => cbv
  refine Fit.mk (by show (-9223372036854775808 : Int) ≤ a1 + i; omega) (by show a1 + i ≤ 9223372036854775807; omega) fun a2 ha2 => ?_
  have ha2 : a2 = a1 + i := ha2
  have ha2 : a2 = at_ + 1 + i := by omega
  conv => cbv
  refine Need.mk ⟨by show 0 ≤ a2; omega,by show a2 < W; omega⟩ ?_
  conv => cbv
  refine Need.mk (by show a2 + ((1 : Nat) : Int) ≤ (D.length : Int); omega) ?_
  conv => cbv
  refine Upd.mk fun D2 hD2 => ?_
  have hD2 : D2 = updL D a2.toNat [.int .i64 (.sym x)] := hD2
  have hD3 : D2 = ipv (ws.set (at_ + 1 + i).toNat x) := by rw [hD2,hD,updL_ipv,ha2]
  clear hD2
  conv => cbv
  refine RetF.mk [i6 0] [hpB 0 1 3 3 W,hpC 1 2 270 2 n,hpP 2 L,hpP 3 D2] 4 (Re.at [(0,0),(1,1),(2,2),(3,3)] []) rfl ⟨0,_,D2,rfl,rfl,rfl,hD3,.ok k l hk hi⟩
end Go.Proofs.YtcbombkaacjngaaGreatDoor
