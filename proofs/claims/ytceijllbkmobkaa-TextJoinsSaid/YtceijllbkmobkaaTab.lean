/-
  The types of this program, as a table that the kernel holds against it.
-/
import Derived.Test.YtceijllbkmobkaaRows
import Derived.Test.YtceijllbkmobkaaLxWarm
namespace Go.Proofs.Ytceijllbkmobkaa
open Go.LX
def T : TT := [
  (2, ⟨1, 8, [.int .i64 (.lit 0)], .int .i64⟩),
  (3, ⟨1, 8, [.int .i64 (.lit 0)], .int .i64⟩),
  (4, ⟨1, 1, [.bool false], .bool⟩),
  (5, ⟨1, 1, [.int .u8 (.lit 0)], .int .u8⟩),
  (7, ⟨4, 24, [.int .i64 (.lit 0), .int .i64 (.lit 0), .bool false, .int .u8 (.lit 0)], .struct [(0, 2), (1, 3), (2, 4), (3, 6)]⟩),
  (9, ⟨1, 16, [.str fun _ => ⟨#[]⟩], .str⟩),
  (12, ⟨1, 8, [.int .u64 (.lit 0)], .int .u64⟩),
  (13, ⟨2, 24, [.str fun _ => ⟨#[]⟩, .int .u64 (.lit 0)], .struct [(0, 9), (1, 12)]⟩),
  (15, ⟨1, 8, [.nilp], .ptr 53⟩),
  (16, ⟨1, 8, [.nilp], .ptr 56⟩),
  (17, ⟨1, 8, [.nilp], .ptr 64⟩),
  (18, ⟨1, 8, [.nilp], .struct [(0, 17)]⟩),
  (20, ⟨1, 16, [.nilif], .iface⟩),
  (21, ⟨1, 4, [.int .i32 (.lit 0)], .int .i32⟩),
  (22, ⟨1, 24, [.nils], .slice 9⟩),
  (23, ⟨1, 24, [.nils], .slice 3⟩),
  (24, ⟨1, 24, [.nils], .slice 5⟩),
  (25, ⟨1, 8, [.int .u64 (.lit 0)], .int .u64⟩),
  (26, ⟨1, 8, [.int .i64 (.lit 0)], .int .i64⟩),
  (38, ⟨1, 8, [.nilp], .ptr 40⟩),
  (39, ⟨2, 32, [.nilp, .nils], .struct [(0, 38), (1, 24)]⟩),
  (40, ⟨2, 32, [.nilp, .nils], .struct [(0, 38), (1, 24)]⟩),
  (43, ⟨1, 16, [.nilif], .iface⟩),
  (44, ⟨1, 16, [.nilif], .iface⟩),
  (47, ⟨1, 8, [.nilp], .ptr 5⟩),
  (51, ⟨1, 4, [.int .u32 (.lit 0)], .int .u32⟩),
  (52, ⟨4, 40, [.nilp, .nilp, .nilp, .str fun _ => ⟨#[]⟩], .struct [(0, 17), (1, 17), (2, 17), (3, 9)]⟩),
  (54, ⟨0, 0, [], .arr 0 16⟩),
  (55, ⟨0, 0, [], .struct [(0, 54)]⟩),
  (63, ⟨11, 48, [.int .u64 (.lit 0), .int .u64 (.lit 0), .int .u32 (.lit 0), .int .u8 (.lit 0), .int .u8 (.lit 0), .int .u8 (.lit 0), .int .u8 (.lit 0), .nilfn, .nilp, .int .i32 (.lit 0), .int .i32 (.lit 0)], .struct [(0, 12), (1, 12), (2, 51), (3, 58), (4, 5), (5, 5), (6, 59), (7, 60), (8, 47), (9, 61), (10, 62)]⟩)]
theorem tok : TOK Try.prog T := teqs_ok (by kernel_rfl)
end Go.Proofs.Ytceijllbkmobkaa
