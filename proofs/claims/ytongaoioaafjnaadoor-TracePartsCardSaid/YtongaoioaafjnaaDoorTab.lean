/-
  The types of this program, as a table that the kernel holds against it.
-/
import Derived.Test.YtongaoioaafjnaaDoorRows
import Derived.Test.YtongaoioaafjnaaDoorLxWarm
namespace Go.Proofs.YtongaoioaafjnaaDoor
open Go.LX
def T : TT := [
  (2, ⟨1, 8, [.int .i64 (.lit 0)], .int .i64⟩),
  (3, ⟨1, 8, [.int .i64 (.lit 0)], .int .i64⟩),
  (4, ⟨1, 1, [.bool false], .bool⟩),
  (5, ⟨1, 1, [.int .u8 (.lit 0)], .int .u8⟩),
  (7, ⟨4, 24, [.int .i64 (.lit 0), .int .i64 (.lit 0), .bool false, .int .u8 (.lit 0)], .struct [(0, 2), (1, 3), (2, 4), (3, 6)]⟩),
  (9, ⟨1, 16, [.str fun _ => ⟨#[]⟩], .str⟩),
  (12, ⟨1, 8, [.int .u64 (.lit 0)], .int .u64⟩),
  (13, ⟨2, 24, [.str fun _ => ⟨#[]⟩, .int .u64 (.lit 0)], .struct [(0, 9), (1, 12)]⟩),
  (15, ⟨1, 8, [.nilp], .ptr 76⟩),
  (16, ⟨1, 8, [.nilp], .ptr 79⟩),
  (17, ⟨1, 8, [.nilp], .ptr 87⟩),
  (18, ⟨1, 8, [.nilp], .struct [(0, 17)]⟩),
  (20, ⟨1, 16, [.nilif], .iface⟩),
  (21, ⟨1, 4, [.int .i32 (.lit 0)], .int .i32⟩),
  (22, ⟨1, 24, [.nils], .slice 28⟩),
  (27, ⟨4, 32, [.int .i64 (.lit 0), .int .i64 (.lit 0), .int .i64 (.lit 0), .bool false], .struct [(0, 3), (1, 3), (2, 3), (3, 4)]⟩),
  (28, ⟨4, 32, [.int .i64 (.lit 0), .int .i64 (.lit 0), .int .i64 (.lit 0), .bool false], .struct [(0, 3), (1, 3), (2, 3), (3, 4)]⟩),
  (29, ⟨1, 24, [.nils], .slice 3⟩),
  (31, ⟨1, 8, [.int .u64 (.lit 0)], .int .u64⟩),
  (34, ⟨2, 24, [.str fun _ => ⟨#[]⟩, .bool false], .struct [(0, 9), (1, 4)]⟩),
  (35, ⟨2, 24, [.str fun _ => ⟨#[]⟩, .bool false], .struct [(0, 9), (1, 4)]⟩),
  (38, ⟨1, 8, [.nilp], .ptr 41⟩),
  (39, ⟨1, 24, [.nils], .slice 5⟩),
  (40, ⟨2, 32, [.nilp, .nils], .struct [(0, 38), (1, 39)]⟩),
  (41, ⟨2, 32, [.nilp, .nils], .struct [(0, 38), (1, 39)]⟩),
  (42, ⟨1, 16, [.str fun _ => ⟨#[]⟩], .struct [(0, 9)]⟩),
  (43, ⟨1, 16, [.str fun _ => ⟨#[]⟩], .struct [(0, 9)]⟩),
  (45, ⟨1, 16, [.nilif], .iface⟩),
  (46, ⟨1, 16, [.nilif], .iface⟩),
  (55, ⟨1, 8, [.nilp], .ptr 5⟩),
  (59, ⟨24, 24, [.int .u8 (.lit 0), .int .u8 (.lit 0), .int .u8 (.lit 0), .int .u8 (.lit 0), .int .u8 (.lit 0), .int .u8 (.lit 0), .int .u8 (.lit 0), .int .u8 (.lit 0), .int .u8 (.lit 0), .int .u8 (.lit 0), .int .u8 (.lit 0), .int .u8 (.lit 0), .int .u8 (.lit 0), .int .u8 (.lit 0), .int .u8 (.lit 0), .int .u8 (.lit 0), .int .u8 (.lit 0), .int .u8 (.lit 0), .int .u8 (.lit 0), .int .u8 (.lit 0), .int .u8 (.lit 0), .int .u8 (.lit 0), .int .u8 (.lit 0), .int .u8 (.lit 0)], .arr 24 5⟩),
  (60, ⟨1, 8, [.int .u64 (.lit 0)], .int .u64⟩),
  (67, ⟨20, 160, [.int .u64 (.lit 0), .int .u64 (.lit 0), .int .u64 (.lit 0), .int .u64 (.lit 0), .int .u64 (.lit 0), .int .u64 (.lit 0), .int .u64 (.lit 0), .int .u64 (.lit 0), .int .u64 (.lit 0), .int .u64 (.lit 0), .int .u64 (.lit 0), .int .u64 (.lit 0), .int .u64 (.lit 0), .int .u64 (.lit 0), .int .u64 (.lit 0), .int .u64 (.lit 0), .int .u64 (.lit 0), .int .u64 (.lit 0), .int .u64 (.lit 0), .int .u64 (.lit 0)], .arr 20 60⟩),
  (68, ⟨1, 4, [.int .u32 (.lit 0)], .int .u32⟩),
  (69, ⟨65, 65, [.int .u8 (.lit 0), .int .u8 (.lit 0), .int .u8 (.lit 0), .int .u8 (.lit 0), .int .u8 (.lit 0), .int .u8 (.lit 0), .int .u8 (.lit 0), .int .u8 (.lit 0), .int .u8 (.lit 0), .int .u8 (.lit 0), .int .u8 (.lit 0), .int .u8 (.lit 0), .int .u8 (.lit 0), .int .u8 (.lit 0), .int .u8 (.lit 0), .int .u8 (.lit 0), .int .u8 (.lit 0), .int .u8 (.lit 0), .int .u8 (.lit 0), .int .u8 (.lit 0), .int .u8 (.lit 0), .int .u8 (.lit 0), .int .u8 (.lit 0), .int .u8 (.lit 0), .int .u8 (.lit 0), .int .u8 (.lit 0), .int .u8 (.lit 0), .int .u8 (.lit 0), .int .u8 (.lit 0), .int .u8 (.lit 0), .int .u8 (.lit 0), .int .u8 (.lit 0), .int .u8 (.lit 0), .int .u8 (.lit 0), .int .u8 (.lit 0), .int .u8 (.lit 0), .int .u8 (.lit 0), .int .u8 (.lit 0), .int .u8 (.lit 0), .int .u8 (.lit 0), .int .u8 (.lit 0), .int .u8 (.lit 0), .int .u8 (.lit 0), .int .u8 (.lit 0), .int .u8 (.lit 0), .int .u8 (.lit 0), .int .u8 (.lit 0), .int .u8 (.lit 0), .int .u8 (.lit 0), .int .u8 (.lit 0), .int .u8 (.lit 0), .int .u8 (.lit 0), .int .u8 (.lit 0), .int .u8 (.lit 0), .int .u8 (.lit 0), .int .u8 (.lit 0), .int .u8 (.lit 0), .int .u8 (.lit 0), .int .u8 (.lit 0), .int .u8 (.lit 0), .int .u8 (.lit 0), .int .u8 (.lit 0), .int .u8 (.lit 0), .int .u8 (.lit 0), .int .u8 (.lit 0)], .arr 65 5⟩),
  (73, ⟨32, 32, [.int .u8 (.lit 0), .int .u8 (.lit 0), .int .u8 (.lit 0), .int .u8 (.lit 0), .int .u8 (.lit 0), .int .u8 (.lit 0), .int .u8 (.lit 0), .int .u8 (.lit 0), .int .u8 (.lit 0), .int .u8 (.lit 0), .int .u8 (.lit 0), .int .u8 (.lit 0), .int .u8 (.lit 0), .int .u8 (.lit 0), .int .u8 (.lit 0), .int .u8 (.lit 0), .int .u8 (.lit 0), .int .u8 (.lit 0), .int .u8 (.lit 0), .int .u8 (.lit 0), .int .u8 (.lit 0), .int .u8 (.lit 0), .int .u8 (.lit 0), .int .u8 (.lit 0), .int .u8 (.lit 0), .int .u8 (.lit 0), .int .u8 (.lit 0), .int .u8 (.lit 0), .int .u8 (.lit 0), .int .u8 (.lit 0), .int .u8 (.lit 0), .int .u8 (.lit 0)], .arr 32 5⟩),
  (74, ⟨64, 64, [.int .u8 (.lit 0), .int .u8 (.lit 0), .int .u8 (.lit 0), .int .u8 (.lit 0), .int .u8 (.lit 0), .int .u8 (.lit 0), .int .u8 (.lit 0), .int .u8 (.lit 0), .int .u8 (.lit 0), .int .u8 (.lit 0), .int .u8 (.lit 0), .int .u8 (.lit 0), .int .u8 (.lit 0), .int .u8 (.lit 0), .int .u8 (.lit 0), .int .u8 (.lit 0), .int .u8 (.lit 0), .int .u8 (.lit 0), .int .u8 (.lit 0), .int .u8 (.lit 0), .int .u8 (.lit 0), .int .u8 (.lit 0), .int .u8 (.lit 0), .int .u8 (.lit 0), .int .u8 (.lit 0), .int .u8 (.lit 0), .int .u8 (.lit 0), .int .u8 (.lit 0), .int .u8 (.lit 0), .int .u8 (.lit 0), .int .u8 (.lit 0), .int .u8 (.lit 0), .int .u8 (.lit 0), .int .u8 (.lit 0), .int .u8 (.lit 0), .int .u8 (.lit 0), .int .u8 (.lit 0), .int .u8 (.lit 0), .int .u8 (.lit 0), .int .u8 (.lit 0), .int .u8 (.lit 0), .int .u8 (.lit 0), .int .u8 (.lit 0), .int .u8 (.lit 0), .int .u8 (.lit 0), .int .u8 (.lit 0), .int .u8 (.lit 0), .int .u8 (.lit 0), .int .u8 (.lit 0), .int .u8 (.lit 0), .int .u8 (.lit 0), .int .u8 (.lit 0), .int .u8 (.lit 0), .int .u8 (.lit 0), .int .u8 (.lit 0), .int .u8 (.lit 0), .int .u8 (.lit 0), .int .u8 (.lit 0), .int .u8 (.lit 0), .int .u8 (.lit 0), .int .u8 (.lit 0), .int .u8 (.lit 0), .int .u8 (.lit 0), .int .u8 (.lit 0)], .arr 64 5⟩),
  (75, ⟨4, 40, [.nilp, .nilp, .nilp, .str fun _ => ⟨#[]⟩], .struct [(0, 17), (1, 17), (2, 17), (3, 9)]⟩),
  (77, ⟨0, 0, [], .arr 0 16⟩),
  (78, ⟨0, 0, [], .struct [(0, 77)]⟩),
  (86, ⟨11, 48, [.int .u64 (.lit 0), .int .u64 (.lit 0), .int .u32 (.lit 0), .int .u8 (.lit 0), .int .u8 (.lit 0), .int .u8 (.lit 0), .int .u8 (.lit 0), .nilfn, .nilp, .int .i32 (.lit 0), .int .i32 (.lit 0)], .struct [(0, 12), (1, 12), (2, 68), (3, 81), (4, 5), (5, 5), (6, 82), (7, 83), (8, 55), (9, 84), (10, 85)]⟩)]
theorem tok : TOK Tryd.prog T := teqs_ok (by kernel_rfl)
end Go.Proofs.YtongaoioaafjnaaDoor
