/-
  The types of this program, as a table that the kernel holds against it.
-/
import Derived.Test.YtocliihimbggjaaRows
import Derived.Test.YtocliihimbggjaaLxWarm
namespace Go.Proofs.Ytocliihimbggjaa
open Go.LX
def T : TT := [
  (2, ⟨1, 8, [.int .i64 (.lit 0)], .int .i64⟩),
  (3, ⟨1, 8, [.int .i64 (.lit 0)], .int .i64⟩),
  (4, ⟨1, 1, [.bool false], .bool⟩),
  (5, ⟨1, 1, [.int .u8 (.lit 0)], .int .u8⟩),
  (7, ⟨4, 24, [.int .i64 (.lit 0), .int .i64 (.lit 0), .bool false, .int .u8 (.lit 0)], .struct [(0, 2), (1, 3), (2, 4), (3, 6)]⟩),
  (9, ⟨1, 16, [.str fun _ => ⟨#[]⟩], .str⟩),
  (12, ⟨1, 8, [.int .u64 (.lit 0)], .int .u64⟩),
  (13, ⟨2, 24, [.str fun _ => ⟨#[]⟩, .int .u64 (.lit 0)], .struct [(0, 9), (1, 12)]⟩),
  (15, ⟨1, 8, [.nilp], .ptr 89⟩),
  (16, ⟨1, 8, [.nilp], .ptr 92⟩),
  (17, ⟨1, 8, [.nilp], .ptr 99⟩),
  (18, ⟨1, 8, [.nilp], .struct [(0, 17)]⟩),
  (20, ⟨1, 16, [.nilif], .iface⟩),
  (21, ⟨1, 4, [.int .i32 (.lit 0)], .int .i32⟩),
  (22, ⟨1, 24, [.nils], .slice 33⟩),
  (23, ⟨1, 8, [.int .u64 (.lit 0)], .int .u64⟩),
  (24, ⟨1, 8, [.nilp], .ptr 50⟩),
  (25, ⟨1, 8, [.int .i64 (.lit 0)], .int .i64⟩),
  (28, ⟨1, 8, [.nilp], .ptr 53⟩),
  (32, ⟨4, 32, [.int .i64 (.lit 0), .int .i64 (.lit 0), .int .i64 (.lit 0), .int .i64 (.lit 0)], .struct [(0, 3), (1, 3), (2, 3), (3, 3)]⟩),
  (33, ⟨4, 32, [.int .i64 (.lit 0), .int .i64 (.lit 0), .int .i64 (.lit 0), .int .i64 (.lit 0)], .struct [(0, 3), (1, 3), (2, 3), (3, 3)]⟩),
  (41, ⟨1, 24, [.nils], .slice 3⟩),
  (43, ⟨1, 24, [.nils], .slice 45⟩),
  (44, ⟨2, 16, [.int .i64 (.lit 0), .int .i64 (.lit 0)], .struct [(0, 3), (1, 3)]⟩),
  (45, ⟨2, 16, [.int .i64 (.lit 0), .int .i64 (.lit 0)], .struct [(0, 3), (1, 3)]⟩),
  (48, ⟨1, 24, [.nils], .slice 58⟩),
  (49, ⟨1, 24, [.nils], .struct [(0, 48)]⟩),
  (50, ⟨1, 24, [.nils], .struct [(0, 48)]⟩),
  (51, ⟨1, 24, [.nils], .slice 54⟩),
  (52, ⟨2, 48, [.nils, .nils], .struct [(0, 41), (1, 51)]⟩),
  (53, ⟨2, 48, [.nils, .nils], .struct [(0, 41), (1, 51)]⟩),
  (54, ⟨8, 8, [.bool false, .bool false, .bool false, .bool false, .bool false, .bool false, .bool false, .bool false], .arr 8 4⟩),
  (57, ⟨2, 24, [.int .i64 (.lit 0), .str fun _ => ⟨#[]⟩], .struct [(0, 3), (1, 9)]⟩),
  (58, ⟨2, 24, [.int .i64 (.lit 0), .str fun _ => ⟨#[]⟩], .struct [(0, 3), (1, 9)]⟩),
  (62, ⟨1, 8, [.nilp], .ptr 65⟩),
  (63, ⟨1, 24, [.nils], .slice 5⟩),
  (64, ⟨2, 32, [.nilp, .nils], .struct [(0, 62), (1, 63)]⟩),
  (65, ⟨2, 32, [.nilp, .nils], .struct [(0, 62), (1, 63)]⟩),
  (66, ⟨1, 16, [.nilif], .iface⟩),
  (67, ⟨1, 16, [.nilif], .iface⟩),
  (73, ⟨1, 8, [.nilp], .ptr 5⟩),
  (81, ⟨1, 4, [.int .u32 (.lit 0)], .int .u32⟩),
  (84, ⟨1, 8, [.int .u64 (.lit 0)], .int .u64⟩),
  (88, ⟨4, 40, [.nilp, .nilp, .nilp, .str fun _ => ⟨#[]⟩], .struct [(0, 17), (1, 17), (2, 17), (3, 9)]⟩),
  (90, ⟨0, 0, [], .arr 0 16⟩),
  (91, ⟨0, 0, [], .struct [(0, 90)]⟩),
  (98, ⟨11, 48, [.int .u64 (.lit 0), .int .u64 (.lit 0), .int .u32 (.lit 0), .int .u8 (.lit 0), .int .u8 (.lit 0), .int .u8 (.lit 0), .int .u8 (.lit 0), .nilfn, .nilp, .int .i32 (.lit 0), .int .i32 (.lit 0)], .struct [(0, 12), (1, 12), (2, 81), (3, 93), (4, 5), (5, 5), (6, 94), (7, 95), (8, 73), (9, 96), (10, 97)]⟩)]
theorem tok : TOK Try.prog T := teqs_ok (by kernel_rfl)
end Go.Proofs.Ytocliihimbggjaa
