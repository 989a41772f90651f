/-
  Closed facts on the types of this seat's program.
-/
import Derived.Test.YtainopabnnglgaaAxf
import Derived.Test.YtainopabnnglgaaChecked
import Derived.KernelRfl
namespace Go.Proofs.Ytainopabnnglgaa
open Go
theorem mixed : Try.prog.follows .mixedOrders = true := by kernel_rfl
attribute [go_sem] Try.underlying2
@[go_sem] theorem agg2 : aggT Try.prog 2 = some false := by kernel_rfl
@[go_sem] theorem cells2 : Try.prog.cellsOf 2 = 1 := by kernel_rfl
@[go_sem] theorem bytes2 : Try.prog.bytesOf 2 = 8 := by kernel_rfl
@[go_sem] theorem parts2 : eqParts Try.prog 2 = none := by kernel_rfl
@[go_sem] theorem zeroV2 : zero1 Try.prog 2 = some (.int .i64 0) := by kernel_rfl
@[go_sem] theorem zero2 : zeroC Try.prog 2 = some [.int .i64 0] := by kernel_rfl
attribute [go_sem] Try.underlying3
@[go_sem] theorem agg3 : aggT Try.prog 3 = some false := by kernel_rfl
@[go_sem] theorem cells3 : Try.prog.cellsOf 3 = 1 := by kernel_rfl
@[go_sem] theorem bytes3 : Try.prog.bytesOf 3 = 8 := by kernel_rfl
@[go_sem] theorem parts3 : eqParts Try.prog 3 = none := by kernel_rfl
@[go_sem] theorem zeroV3 : zero1 Try.prog 3 = some (.int .i64 0) := by kernel_rfl
@[go_sem] theorem zero3 : zeroC Try.prog 3 = some [.int .i64 0] := by kernel_rfl
attribute [go_sem] Try.underlying4
@[go_sem] theorem agg4 : aggT Try.prog 4 = some false := by kernel_rfl
@[go_sem] theorem cells4 : Try.prog.cellsOf 4 = 1 := by kernel_rfl
@[go_sem] theorem bytes4 : Try.prog.bytesOf 4 = 1 := by kernel_rfl
@[go_sem] theorem parts4 : eqParts Try.prog 4 = none := by kernel_rfl
@[go_sem] theorem zeroV4 : zero1 Try.prog 4 = some (.bool false) := by kernel_rfl
@[go_sem] theorem zero4 : zeroC Try.prog 4 = some [.bool false] := by kernel_rfl
attribute [go_sem] Try.underlying5
@[go_sem] theorem agg5 : aggT Try.prog 5 = some false := by kernel_rfl
@[go_sem] theorem cells5 : Try.prog.cellsOf 5 = 1 := by kernel_rfl
@[go_sem] theorem bytes5 : Try.prog.bytesOf 5 = 1 := by kernel_rfl
@[go_sem] theorem parts5 : eqParts Try.prog 5 = none := by kernel_rfl
@[go_sem] theorem zeroV5 : zero1 Try.prog 5 = some (.int .u8 0) := by kernel_rfl
@[go_sem] theorem zero5 : zeroC Try.prog 5 = some [.int .u8 0] := by kernel_rfl
attribute [go_sem] Try.underlying6
@[go_sem] theorem agg6 : aggT Try.prog 6 = some false := by kernel_rfl
@[go_sem] theorem cells6 : Try.prog.cellsOf 6 = 1 := by kernel_rfl
@[go_sem] theorem bytes6 : Try.prog.bytesOf 6 = 1 := by kernel_rfl
@[go_sem] theorem parts6 : eqParts Try.prog 6 = none := by kernel_rfl
@[go_sem] theorem zeroV6 : zero1 Try.prog 6 = some (.int .u8 0) := by kernel_rfl
@[go_sem] theorem zero6 : zeroC Try.prog 6 = some [.int .u8 0] := by kernel_rfl
@[go_sem] theorem agg7 : aggT Try.prog 7 = some true := by kernel_rfl
@[go_sem] theorem cells7 : Try.prog.cellsOf 7 = 4 := by kernel_rfl
@[go_sem] theorem bytes7 : Try.prog.bytesOf 7 = 24 := by kernel_rfl
@[go_sem] theorem zero7 : zeroC Try.prog 7 = some [.int .i64 0, .int .i64 0, .bool false, .int .u8 0] := by kernel_rfl
@[go_sem] theorem fld7_0 : fld Try.prog 7 0 = some (0, 2) := by kernel_rfl
@[go_sem] theorem fld7_1 : fld Try.prog 7 1 = some (1, 3) := by kernel_rfl
@[go_sem] theorem fld7_2 : fld Try.prog 7 2 = some (2, 4) := by kernel_rfl
@[go_sem] theorem fld7_3 : fld Try.prog 7 3 = some (3, 6) := by kernel_rfl
@[go_sem] theorem lay7 : layOf Try.prog 7 = some [(0, 1), (1, 1), (2, 1), (3, 1)] := by kernel_rfl
@[go_sem] theorem sized7 : sized Try.prog 7 = true := by kernel_rfl
@[go_sem] theorem agg8 : aggT Try.prog 8 = some true := by kernel_rfl
@[go_sem] theorem cells8 : Try.prog.cellsOf 8 = 4 := by kernel_rfl
@[go_sem] theorem bytes8 : Try.prog.bytesOf 8 = 24 := by kernel_rfl
@[go_sem] theorem zero8 : zeroC Try.prog 8 = some [.int .i64 0, .int .i64 0, .bool false, .int .u8 0] := by kernel_rfl
@[go_sem] theorem fld8_0 : fld Try.prog 8 0 = some (0, 2) := by kernel_rfl
@[go_sem] theorem fld8_1 : fld Try.prog 8 1 = some (1, 3) := by kernel_rfl
@[go_sem] theorem fld8_2 : fld Try.prog 8 2 = some (2, 4) := by kernel_rfl
@[go_sem] theorem fld8_3 : fld Try.prog 8 3 = some (3, 6) := by kernel_rfl
@[go_sem] theorem lay8 : layOf Try.prog 8 = some [(0, 1), (1, 1), (2, 1), (3, 1)] := by kernel_rfl
@[go_sem] theorem sized8 : sized Try.prog 8 = true := by kernel_rfl
attribute [go_sem] Try.underlying9
@[go_sem] theorem agg9 : aggT Try.prog 9 = some false := by kernel_rfl
@[go_sem] theorem cells9 : Try.prog.cellsOf 9 = 1 := by kernel_rfl
@[go_sem] theorem bytes9 : Try.prog.bytesOf 9 = 16 := by kernel_rfl
@[go_sem] theorem parts9 : eqParts Try.prog 9 = none := by kernel_rfl
@[go_sem] theorem zeroV9 : zero1 Try.prog 9 = some (.string ⟨#[]⟩) := by kernel_rfl
@[go_sem] theorem zero9 : zeroC Try.prog 9 = some [.string ⟨#[]⟩] := by kernel_rfl
attribute [go_sem] Try.underlying10
@[go_sem] theorem agg10 : aggT Try.prog 10 = some false := by kernel_rfl
@[go_sem] theorem cells10 : Try.prog.cellsOf 10 = 1 := by kernel_rfl
@[go_sem] theorem bytes10 : Try.prog.bytesOf 10 = 16 := by kernel_rfl
@[go_sem] theorem parts10 : eqParts Try.prog 10 = none := by kernel_rfl
@[go_sem] theorem zeroV10 : zero1 Try.prog 10 = some (.string ⟨#[]⟩) := by kernel_rfl
@[go_sem] theorem zero10 : zeroC Try.prog 10 = some [.string ⟨#[]⟩] := by kernel_rfl
attribute [go_sem] Try.underlying11
@[go_sem] theorem agg11 : aggT Try.prog 11 = some false := by kernel_rfl
@[go_sem] theorem cells11 : Try.prog.cellsOf 11 = 1 := by kernel_rfl
@[go_sem] theorem bytes11 : Try.prog.bytesOf 11 = 16 := by kernel_rfl
@[go_sem] theorem parts11 : eqParts Try.prog 11 = none := by kernel_rfl
@[go_sem] theorem zeroV11 : zero1 Try.prog 11 = some (.string ⟨#[]⟩) := by kernel_rfl
@[go_sem] theorem zero11 : zeroC Try.prog 11 = some [.string ⟨#[]⟩] := by kernel_rfl
attribute [go_sem] Try.underlying12
@[go_sem] theorem agg12 : aggT Try.prog 12 = some false := by kernel_rfl
@[go_sem] theorem cells12 : Try.prog.cellsOf 12 = 1 := by kernel_rfl
@[go_sem] theorem bytes12 : Try.prog.bytesOf 12 = 8 := by kernel_rfl
@[go_sem] theorem parts12 : eqParts Try.prog 12 = none := by kernel_rfl
@[go_sem] theorem zeroV12 : zero1 Try.prog 12 = some (.int .u64 0) := by kernel_rfl
@[go_sem] theorem zero12 : zeroC Try.prog 12 = some [.int .u64 0] := by kernel_rfl
@[go_sem] theorem agg13 : aggT Try.prog 13 = some true := by kernel_rfl
@[go_sem] theorem cells13 : Try.prog.cellsOf 13 = 2 := by kernel_rfl
@[go_sem] theorem bytes13 : Try.prog.bytesOf 13 = 24 := by kernel_rfl
@[go_sem] theorem zero13 : zeroC Try.prog 13 = some [.string ⟨#[]⟩, .int .u64 0] := by kernel_rfl
@[go_sem] theorem fld13_0 : fld Try.prog 13 0 = some (0, 9) := by kernel_rfl
@[go_sem] theorem fld13_1 : fld Try.prog 13 1 = some (1, 12) := by kernel_rfl
@[go_sem] theorem lay13 : layOf Try.prog 13 = some [(0, 1), (1, 1)] := by kernel_rfl
@[go_sem] theorem sized13 : sized Try.prog 13 = true := by kernel_rfl
@[go_sem] theorem agg14 : aggT Try.prog 14 = some true := by kernel_rfl
@[go_sem] theorem cells14 : Try.prog.cellsOf 14 = 2 := by kernel_rfl
@[go_sem] theorem bytes14 : Try.prog.bytesOf 14 = 24 := by kernel_rfl
@[go_sem] theorem zero14 : zeroC Try.prog 14 = some [.string ⟨#[]⟩, .int .u64 0] := by kernel_rfl
@[go_sem] theorem fld14_0 : fld Try.prog 14 0 = some (0, 9) := by kernel_rfl
@[go_sem] theorem fld14_1 : fld Try.prog 14 1 = some (1, 12) := by kernel_rfl
@[go_sem] theorem lay14 : layOf Try.prog 14 = some [(0, 1), (1, 1)] := by kernel_rfl
@[go_sem] theorem sized14 : sized Try.prog 14 = true := by kernel_rfl
attribute [go_sem] Try.underlying15
@[go_sem] theorem agg15 : aggT Try.prog 15 = some false := by kernel_rfl
@[go_sem] theorem cells15 : Try.prog.cellsOf 15 = 1 := by kernel_rfl
@[go_sem] theorem bytes15 : Try.prog.bytesOf 15 = 8 := by kernel_rfl
@[go_sem] theorem parts15 : eqParts Try.prog 15 = none := by kernel_rfl
@[go_sem] theorem zeroV15 : zero1 Try.prog 15 = some (.pointer none) := by kernel_rfl
@[go_sem] theorem zero15 : zeroC Try.prog 15 = some [.pointer none] := by kernel_rfl
attribute [go_sem] Try.underlying16
@[go_sem] theorem agg16 : aggT Try.prog 16 = some false := by kernel_rfl
@[go_sem] theorem cells16 : Try.prog.cellsOf 16 = 1 := by kernel_rfl
@[go_sem] theorem bytes16 : Try.prog.bytesOf 16 = 8 := by kernel_rfl
@[go_sem] theorem parts16 : eqParts Try.prog 16 = none := by kernel_rfl
@[go_sem] theorem zeroV16 : zero1 Try.prog 16 = some (.pointer none) := by kernel_rfl
@[go_sem] theorem zero16 : zeroC Try.prog 16 = some [.pointer none] := by kernel_rfl
attribute [go_sem] Try.underlying17
@[go_sem] theorem agg17 : aggT Try.prog 17 = some false := by kernel_rfl
@[go_sem] theorem cells17 : Try.prog.cellsOf 17 = 1 := by kernel_rfl
@[go_sem] theorem bytes17 : Try.prog.bytesOf 17 = 8 := by kernel_rfl
@[go_sem] theorem parts17 : eqParts Try.prog 17 = none := by kernel_rfl
@[go_sem] theorem zeroV17 : zero1 Try.prog 17 = some (.pointer none) := by kernel_rfl
@[go_sem] theorem zero17 : zeroC Try.prog 17 = some [.pointer none] := by kernel_rfl
@[go_sem] theorem agg18 : aggT Try.prog 18 = some true := by kernel_rfl
@[go_sem] theorem cells18 : Try.prog.cellsOf 18 = 1 := by kernel_rfl
@[go_sem] theorem bytes18 : Try.prog.bytesOf 18 = 8 := by kernel_rfl
@[go_sem] theorem zero18 : zeroC Try.prog 18 = some [.pointer none] := by kernel_rfl
@[go_sem] theorem fld18_0 : fld Try.prog 18 0 = some (0, 17) := by kernel_rfl
@[go_sem] theorem lay18 : layOf Try.prog 18 = some [(0, 1)] := by kernel_rfl
@[go_sem] theorem sized18 : sized Try.prog 18 = true := by kernel_rfl
@[go_sem] theorem agg19 : aggT Try.prog 19 = some true := by kernel_rfl
@[go_sem] theorem cells19 : Try.prog.cellsOf 19 = 1 := by kernel_rfl
@[go_sem] theorem bytes19 : Try.prog.bytesOf 19 = 8 := by kernel_rfl
@[go_sem] theorem zero19 : zeroC Try.prog 19 = some [.pointer none] := by kernel_rfl
@[go_sem] theorem fld19_0 : fld Try.prog 19 0 = some (0, 17) := by kernel_rfl
@[go_sem] theorem lay19 : layOf Try.prog 19 = some [(0, 1)] := by kernel_rfl
@[go_sem] theorem sized19 : sized Try.prog 19 = true := by kernel_rfl
@[go_sem] theorem agg20 : aggT Try.prog 20 = some false := by kernel_rfl
@[go_sem] theorem cells20 : Try.prog.cellsOf 20 = 1 := by kernel_rfl
@[go_sem] theorem bytes20 : Try.prog.bytesOf 20 = 16 := by kernel_rfl
@[go_sem] theorem parts20 : eqParts Try.prog 20 = none := by kernel_rfl
@[go_sem] theorem zeroV20 : zero1 Try.prog 20 = some (.nilIface) := by kernel_rfl
@[go_sem] theorem zero20 : zeroC Try.prog 20 = some [.nilIface] := by kernel_rfl
attribute [go_sem] Try.underlying21
@[go_sem] theorem agg21 : aggT Try.prog 21 = some false := by kernel_rfl
@[go_sem] theorem cells21 : Try.prog.cellsOf 21 = 1 := by kernel_rfl
@[go_sem] theorem bytes21 : Try.prog.bytesOf 21 = 4 := by kernel_rfl
@[go_sem] theorem parts21 : eqParts Try.prog 21 = none := by kernel_rfl
@[go_sem] theorem zeroV21 : zero1 Try.prog 21 = some (.int .i32 0) := by kernel_rfl
@[go_sem] theorem zero21 : zeroC Try.prog 21 = some [.int .i32 0] := by kernel_rfl
attribute [go_sem] Try.underlying22
@[go_sem] theorem agg22 : aggT Try.prog 22 = some false := by kernel_rfl
@[go_sem] theorem cells22 : Try.prog.cellsOf 22 = 1 := by kernel_rfl
@[go_sem] theorem bytes22 : Try.prog.bytesOf 22 = 24 := by kernel_rfl
@[go_sem] theorem parts22 : eqParts Try.prog 22 = none := by kernel_rfl
@[go_sem] theorem zeroV22 : zero1 Try.prog 22 = some (.slice none 0 0) := by kernel_rfl
@[go_sem] theorem zero22 : zeroC Try.prog 22 = some [.slice none 0 0] := by kernel_rfl
attribute [go_sem] Try.underlying27
@[go_sem] theorem agg27 : aggT Try.prog 27 = some false := by kernel_rfl
@[go_sem] theorem cells27 : Try.prog.cellsOf 27 = 1 := by kernel_rfl
@[go_sem] theorem bytes27 : Try.prog.bytesOf 27 = 24 := by kernel_rfl
@[go_sem] theorem parts27 : eqParts Try.prog 27 = none := by kernel_rfl
@[go_sem] theorem zeroV27 : zero1 Try.prog 27 = some (.slice none 0 0) := by kernel_rfl
@[go_sem] theorem zero27 : zeroC Try.prog 27 = some [.slice none 0 0] := by kernel_rfl
attribute [go_sem] Try.underlying30
@[go_sem] theorem agg30 : aggT Try.prog 30 = some false := by kernel_rfl
@[go_sem] theorem cells30 : Try.prog.cellsOf 30 = 1 := by kernel_rfl
@[go_sem] theorem bytes30 : Try.prog.bytesOf 30 = 24 := by kernel_rfl
@[go_sem] theorem parts30 : eqParts Try.prog 30 = none := by kernel_rfl
@[go_sem] theorem zeroV30 : zero1 Try.prog 30 = some (.slice none 0 0) := by kernel_rfl
@[go_sem] theorem zero30 : zeroC Try.prog 30 = some [.slice none 0 0] := by kernel_rfl
attribute [go_sem] Try.underlying32
@[go_sem] theorem agg32 : aggT Try.prog 32 = some false := by kernel_rfl
@[go_sem] theorem cells32 : Try.prog.cellsOf 32 = 1 := by kernel_rfl
@[go_sem] theorem bytes32 : Try.prog.bytesOf 32 = 24 := by kernel_rfl
@[go_sem] theorem parts32 : eqParts Try.prog 32 = none := by kernel_rfl
@[go_sem] theorem zeroV32 : zero1 Try.prog 32 = some (.slice none 0 0) := by kernel_rfl
@[go_sem] theorem zero32 : zeroC Try.prog 32 = some [.slice none 0 0] := by kernel_rfl
@[go_sem] theorem agg36 : aggT Try.prog 36 = some true := by kernel_rfl
@[go_sem] theorem cells36 : Try.prog.cellsOf 36 = 2 := by kernel_rfl
@[go_sem] theorem bytes36 : Try.prog.bytesOf 36 = 16 := by kernel_rfl
@[go_sem] theorem parts36 : eqParts Try.prog 36 = some [(0, 3), (1, 3)] := by kernel_rfl
@[go_sem] theorem eqg36 : Try.prog.eqGuardType Try.prog.depth 36 = false := by kernel_rfl
@[go_sem] theorem zero36 : zeroC Try.prog 36 = some [.int .i64 0, .int .i64 0] := by kernel_rfl
@[go_sem] theorem fld36_0 : fld Try.prog 36 0 = some (0, 3) := by kernel_rfl
@[go_sem] theorem fld36_1 : fld Try.prog 36 1 = some (1, 3) := by kernel_rfl
@[go_sem] theorem lay36 : layOf Try.prog 36 = some [(0, 1), (1, 1)] := by kernel_rfl
@[go_sem] theorem sized36 : sized Try.prog 36 = true := by kernel_rfl
@[go_sem] theorem agg37 : aggT Try.prog 37 = some true := by kernel_rfl
@[go_sem] theorem cells37 : Try.prog.cellsOf 37 = 2 := by kernel_rfl
@[go_sem] theorem bytes37 : Try.prog.bytesOf 37 = 16 := by kernel_rfl
@[go_sem] theorem parts37 : eqParts Try.prog 37 = some [(0, 3), (1, 3)] := by kernel_rfl
@[go_sem] theorem eqg37 : Try.prog.eqGuardType Try.prog.depth 37 = false := by kernel_rfl
@[go_sem] theorem zero37 : zeroC Try.prog 37 = some [.int .i64 0, .int .i64 0] := by kernel_rfl
@[go_sem] theorem fld37_0 : fld Try.prog 37 0 = some (0, 3) := by kernel_rfl
@[go_sem] theorem fld37_1 : fld Try.prog 37 1 = some (1, 3) := by kernel_rfl
@[go_sem] theorem lay37 : layOf Try.prog 37 = some [(0, 1), (1, 1)] := by kernel_rfl
@[go_sem] theorem sized37 : sized Try.prog 37 = true := by kernel_rfl
attribute [go_sem] Try.underlying40
@[go_sem] theorem agg40 : aggT Try.prog 40 = some false := by kernel_rfl
@[go_sem] theorem cells40 : Try.prog.cellsOf 40 = 1 := by kernel_rfl
@[go_sem] theorem bytes40 : Try.prog.bytesOf 40 = 24 := by kernel_rfl
@[go_sem] theorem parts40 : eqParts Try.prog 40 = none := by kernel_rfl
@[go_sem] theorem zeroV40 : zero1 Try.prog 40 = some (.slice none 0 0) := by kernel_rfl
@[go_sem] theorem zero40 : zeroC Try.prog 40 = some [.slice none 0 0] := by kernel_rfl
@[go_sem] theorem agg41 : aggT Try.prog 41 = some true := by kernel_rfl
@[go_sem] theorem cells41 : Try.prog.cellsOf 41 = 2 := by kernel_rfl
@[go_sem] theorem bytes41 : Try.prog.bytesOf 41 = 16 := by kernel_rfl
@[go_sem] theorem parts41 : eqParts Try.prog 41 = some [(0, 3), (1, 3)] := by kernel_rfl
@[go_sem] theorem eqg41 : Try.prog.eqGuardType Try.prog.depth 41 = false := by kernel_rfl
@[go_sem] theorem zero41 : zeroC Try.prog 41 = some [.int .i64 0, .int .i64 0] := by kernel_rfl
@[go_sem] theorem fld41_0 : fld Try.prog 41 0 = some (0, 3) := by kernel_rfl
@[go_sem] theorem fld41_1 : fld Try.prog 41 1 = some (1, 3) := by kernel_rfl
@[go_sem] theorem lay41 : layOf Try.prog 41 = some [(0, 1), (1, 1)] := by kernel_rfl
@[go_sem] theorem sized41 : sized Try.prog 41 = true := by kernel_rfl
attribute [go_sem] Try.underlying47
@[go_sem] theorem agg47 : aggT Try.prog 47 = some false := by kernel_rfl
@[go_sem] theorem cells47 : Try.prog.cellsOf 47 = 1 := by kernel_rfl
@[go_sem] theorem bytes47 : Try.prog.bytesOf 47 = 8 := by kernel_rfl
@[go_sem] theorem parts47 : eqParts Try.prog 47 = none := by kernel_rfl
@[go_sem] theorem zeroV47 : zero1 Try.prog 47 = some (.map none) := by kernel_rfl
@[go_sem] theorem zero47 : zeroC Try.prog 47 = some [.map none] := by kernel_rfl
attribute [go_sem] Try.underlying48
@[go_sem] theorem agg48 : aggT Try.prog 48 = some false := by kernel_rfl
@[go_sem] theorem cells48 : Try.prog.cellsOf 48 = 1 := by kernel_rfl
@[go_sem] theorem bytes48 : Try.prog.bytesOf 48 = 8 := by kernel_rfl
@[go_sem] theorem parts48 : eqParts Try.prog 48 = none := by kernel_rfl
@[go_sem] theorem zeroV48 : zero1 Try.prog 48 = some (.pointer none) := by kernel_rfl
@[go_sem] theorem zero48 : zeroC Try.prog 48 = some [.pointer none] := by kernel_rfl
@[go_sem] theorem agg50 : aggT Try.prog 50 = some true := by kernel_rfl
@[go_sem] theorem cells50 : Try.prog.cellsOf 50 = 7 := by kernel_rfl
@[go_sem] theorem bytes50 : Try.prog.bytesOf 50 = 168 := by kernel_rfl
@[go_sem] theorem parts50 : eqParts Try.prog 50 = some [(0, 22), (1, 22), (2, 22), (3, 22), (4, 22), (5, 22), (6, 32)] := by kernel_rfl
@[go_sem] theorem eqg50 : Try.prog.eqGuardType Try.prog.depth 50 = false := by kernel_rfl
@[go_sem] theorem zero50 : zeroC Try.prog 50 = some [.slice none 0 0, .slice none 0 0, .slice none 0 0, .slice none 0 0, .slice none 0 0, .slice none 0 0, .slice none 0 0] := by kernel_rfl
@[go_sem] theorem fld50_0 : fld Try.prog 50 0 = some (0, 22) := by kernel_rfl
@[go_sem] theorem fld50_1 : fld Try.prog 50 1 = some (1, 22) := by kernel_rfl
@[go_sem] theorem fld50_2 : fld Try.prog 50 2 = some (2, 22) := by kernel_rfl
@[go_sem] theorem fld50_3 : fld Try.prog 50 3 = some (3, 22) := by kernel_rfl
@[go_sem] theorem fld50_4 : fld Try.prog 50 4 = some (4, 22) := by kernel_rfl
@[go_sem] theorem fld50_5 : fld Try.prog 50 5 = some (5, 22) := by kernel_rfl
@[go_sem] theorem fld50_6 : fld Try.prog 50 6 = some (6, 32) := by kernel_rfl
@[go_sem] theorem lay50 : layOf Try.prog 50 = some [(0, 1), (1, 1), (2, 1), (3, 1), (4, 1), (5, 1), (6, 1)] := by kernel_rfl
@[go_sem] theorem sized50 : sized Try.prog 50 = true := by kernel_rfl
@[go_sem] theorem agg51 : aggT Try.prog 51 = some true := by kernel_rfl
@[go_sem] theorem cells51 : Try.prog.cellsOf 51 = 7 := by kernel_rfl
@[go_sem] theorem bytes51 : Try.prog.bytesOf 51 = 168 := by kernel_rfl
@[go_sem] theorem parts51 : eqParts Try.prog 51 = some [(0, 22), (1, 22), (2, 22), (3, 22), (4, 22), (5, 22), (6, 32)] := by kernel_rfl
@[go_sem] theorem eqg51 : Try.prog.eqGuardType Try.prog.depth 51 = false := by kernel_rfl
@[go_sem] theorem zero51 : zeroC Try.prog 51 = some [.slice none 0 0, .slice none 0 0, .slice none 0 0, .slice none 0 0, .slice none 0 0, .slice none 0 0, .slice none 0 0] := by kernel_rfl
@[go_sem] theorem fld51_0 : fld Try.prog 51 0 = some (0, 22) := by kernel_rfl
@[go_sem] theorem fld51_1 : fld Try.prog 51 1 = some (1, 22) := by kernel_rfl
@[go_sem] theorem fld51_2 : fld Try.prog 51 2 = some (2, 22) := by kernel_rfl
@[go_sem] theorem fld51_3 : fld Try.prog 51 3 = some (3, 22) := by kernel_rfl
@[go_sem] theorem fld51_4 : fld Try.prog 51 4 = some (4, 22) := by kernel_rfl
@[go_sem] theorem fld51_5 : fld Try.prog 51 5 = some (5, 22) := by kernel_rfl
@[go_sem] theorem fld51_6 : fld Try.prog 51 6 = some (6, 32) := by kernel_rfl
@[go_sem] theorem lay51 : layOf Try.prog 51 = some [(0, 1), (1, 1), (2, 1), (3, 1), (4, 1), (5, 1), (6, 1)] := by kernel_rfl
@[go_sem] theorem sized51 : sized Try.prog 51 = true := by kernel_rfl
@[go_sem] theorem agg56 : aggT Try.prog 56 = some true := by kernel_rfl
@[go_sem] theorem cells56 : Try.prog.cellsOf 56 = 3 := by kernel_rfl
@[go_sem] theorem bytes56 : Try.prog.bytesOf 56 = 72 := by kernel_rfl
@[go_sem] theorem parts56 : eqParts Try.prog 56 = some [(0, 22), (1, 22), (2, 22)] := by kernel_rfl
@[go_sem] theorem eqg56 : Try.prog.eqGuardType Try.prog.depth 56 = false := by kernel_rfl
@[go_sem] theorem zero56 : zeroC Try.prog 56 = some [.slice none 0 0, .slice none 0 0, .slice none 0 0] := by kernel_rfl
@[go_sem] theorem fld56_0 : fld Try.prog 56 0 = some (0, 22) := by kernel_rfl
@[go_sem] theorem fld56_1 : fld Try.prog 56 1 = some (1, 22) := by kernel_rfl
@[go_sem] theorem fld56_2 : fld Try.prog 56 2 = some (2, 22) := by kernel_rfl
@[go_sem] theorem lay56 : layOf Try.prog 56 = some [(0, 1), (1, 1), (2, 1)] := by kernel_rfl
@[go_sem] theorem sized56 : sized Try.prog 56 = true := by kernel_rfl
@[go_sem] theorem agg57 : aggT Try.prog 57 = some true := by kernel_rfl
@[go_sem] theorem cells57 : Try.prog.cellsOf 57 = 3 := by kernel_rfl
@[go_sem] theorem bytes57 : Try.prog.bytesOf 57 = 72 := by kernel_rfl
@[go_sem] theorem parts57 : eqParts Try.prog 57 = some [(0, 22), (1, 22), (2, 22)] := by kernel_rfl
@[go_sem] theorem eqg57 : Try.prog.eqGuardType Try.prog.depth 57 = false := by kernel_rfl
@[go_sem] theorem zero57 : zeroC Try.prog 57 = some [.slice none 0 0, .slice none 0 0, .slice none 0 0] := by kernel_rfl
@[go_sem] theorem fld57_0 : fld Try.prog 57 0 = some (0, 22) := by kernel_rfl
@[go_sem] theorem fld57_1 : fld Try.prog 57 1 = some (1, 22) := by kernel_rfl
@[go_sem] theorem fld57_2 : fld Try.prog 57 2 = some (2, 22) := by kernel_rfl
@[go_sem] theorem lay57 : layOf Try.prog 57 = some [(0, 1), (1, 1), (2, 1)] := by kernel_rfl
@[go_sem] theorem sized57 : sized Try.prog 57 = true := by kernel_rfl
@[go_sem] theorem agg62 : aggT Try.prog 62 = some true := by kernel_rfl
@[go_sem] theorem cells62 : Try.prog.cellsOf 62 = 4 := by kernel_rfl
@[go_sem] theorem bytes62 : Try.prog.bytesOf 62 = 40 := by kernel_rfl
@[go_sem] theorem zero62 : zeroC Try.prog 62 = some [.pointer none, .pointer none, .pointer none, .string ⟨#[]⟩] := by kernel_rfl
@[go_sem] theorem fld62_0 : fld Try.prog 62 0 = some (0, 17) := by kernel_rfl
@[go_sem] theorem fld62_1 : fld Try.prog 62 1 = some (1, 17) := by kernel_rfl
@[go_sem] theorem fld62_2 : fld Try.prog 62 2 = some (2, 17) := by kernel_rfl
@[go_sem] theorem fld62_3 : fld Try.prog 62 3 = some (3, 9) := by kernel_rfl
@[go_sem] theorem lay62 : layOf Try.prog 62 = some [(0, 1), (1, 1), (2, 1), (3, 1)] := by kernel_rfl
@[go_sem] theorem sized62 : sized Try.prog 62 = true := by kernel_rfl
@[go_sem] theorem agg63 : aggT Try.prog 63 = some true := by kernel_rfl
@[go_sem] theorem cells63 : Try.prog.cellsOf 63 = 4 := by kernel_rfl
@[go_sem] theorem bytes63 : Try.prog.bytesOf 63 = 40 := by kernel_rfl
@[go_sem] theorem zero63 : zeroC Try.prog 63 = some [.pointer none, .pointer none, .pointer none, .string ⟨#[]⟩] := by kernel_rfl
@[go_sem] theorem fld63_0 : fld Try.prog 63 0 = some (0, 17) := by kernel_rfl
@[go_sem] theorem fld63_1 : fld Try.prog 63 1 = some (1, 17) := by kernel_rfl
@[go_sem] theorem fld63_2 : fld Try.prog 63 2 = some (2, 17) := by kernel_rfl
@[go_sem] theorem fld63_3 : fld Try.prog 63 3 = some (3, 9) := by kernel_rfl
@[go_sem] theorem lay63 : layOf Try.prog 63 = some [(0, 1), (1, 1), (2, 1), (3, 1)] := by kernel_rfl
@[go_sem] theorem sized63 : sized Try.prog 63 = true := by kernel_rfl
attribute [go_sem] Try.underlying64
@[go_sem] theorem agg64 : aggT Try.prog 64 = some true := by kernel_rfl
@[go_sem] theorem cells64 : Try.prog.cellsOf 64 = 0 := by kernel_rfl
@[go_sem] theorem bytes64 : Try.prog.bytesOf 64 = 0 := by kernel_rfl
@[go_sem] theorem parts64 : eqParts Try.prog 64 = some [] := by kernel_rfl
@[go_sem] theorem eqg64 : Try.prog.eqGuardType Try.prog.depth 64 = false := by kernel_rfl
@[go_sem] theorem zero64 : zeroC Try.prog 64 = some [] := by kernel_rfl
@[go_sem] theorem agg65 : aggT Try.prog 65 = some true := by kernel_rfl
@[go_sem] theorem cells65 : Try.prog.cellsOf 65 = 0 := by kernel_rfl
@[go_sem] theorem bytes65 : Try.prog.bytesOf 65 = 0 := by kernel_rfl
@[go_sem] theorem zero65 : zeroC Try.prog 65 = some [] := by kernel_rfl
@[go_sem] theorem fld65_0 : fld Try.prog 65 0 = some (0, 64) := by kernel_rfl
@[go_sem] theorem lay65 : layOf Try.prog 65 = some [(0, 0)] := by kernel_rfl
@[go_sem] theorem sized65 : sized Try.prog 65 = true := by kernel_rfl
@[go_sem] theorem agg66 : aggT Try.prog 66 = some true := by kernel_rfl
@[go_sem] theorem cells66 : Try.prog.cellsOf 66 = 0 := by kernel_rfl
@[go_sem] theorem bytes66 : Try.prog.bytesOf 66 = 0 := by kernel_rfl
@[go_sem] theorem zero66 : zeroC Try.prog 66 = some [] := by kernel_rfl
@[go_sem] theorem fld66_0 : fld Try.prog 66 0 = some (0, 64) := by kernel_rfl
@[go_sem] theorem lay66 : layOf Try.prog 66 = some [(0, 0)] := by kernel_rfl
@[go_sem] theorem sized66 : sized Try.prog 66 = true := by kernel_rfl
attribute [go_sem] Try.underlying68
@[go_sem] theorem agg68 : aggT Try.prog 68 = some false := by kernel_rfl
@[go_sem] theorem cells68 : Try.prog.cellsOf 68 = 1 := by kernel_rfl
@[go_sem] theorem bytes68 : Try.prog.bytesOf 68 = 4 := by kernel_rfl
@[go_sem] theorem parts68 : eqParts Try.prog 68 = none := by kernel_rfl
@[go_sem] theorem zeroV68 : zero1 Try.prog 68 = some (.int .u32 0) := by kernel_rfl
@[go_sem] theorem zero68 : zeroC Try.prog 68 = some [.int .u32 0] := by kernel_rfl
attribute [go_sem] Try.underlying69
@[go_sem] theorem agg69 : aggT Try.prog 69 = some false := by kernel_rfl
@[go_sem] theorem cells69 : Try.prog.cellsOf 69 = 1 := by kernel_rfl
@[go_sem] theorem bytes69 : Try.prog.bytesOf 69 = 1 := by kernel_rfl
@[go_sem] theorem parts69 : eqParts Try.prog 69 = none := by kernel_rfl
@[go_sem] theorem zeroV69 : zero1 Try.prog 69 = some (.int .u8 0) := by kernel_rfl
@[go_sem] theorem zero69 : zeroC Try.prog 69 = some [.int .u8 0] := by kernel_rfl
attribute [go_sem] Try.underlying70
@[go_sem] theorem agg70 : aggT Try.prog 70 = some false := by kernel_rfl
@[go_sem] theorem cells70 : Try.prog.cellsOf 70 = 1 := by kernel_rfl
@[go_sem] theorem bytes70 : Try.prog.bytesOf 70 = 1 := by kernel_rfl
@[go_sem] theorem parts70 : eqParts Try.prog 70 = none := by kernel_rfl
@[go_sem] theorem zeroV70 : zero1 Try.prog 70 = some (.int .u8 0) := by kernel_rfl
@[go_sem] theorem zero70 : zeroC Try.prog 70 = some [.int .u8 0] := by kernel_rfl
attribute [go_sem] Try.underlying72
@[go_sem] theorem agg72 : aggT Try.prog 72 = some false := by kernel_rfl
@[go_sem] theorem cells72 : Try.prog.cellsOf 72 = 1 := by kernel_rfl
@[go_sem] theorem bytes72 : Try.prog.bytesOf 72 = 8 := by kernel_rfl
@[go_sem] theorem parts72 : eqParts Try.prog 72 = none := by kernel_rfl
@[go_sem] theorem zeroV72 : zero1 Try.prog 72 = some (.pointer none) := by kernel_rfl
@[go_sem] theorem zero72 : zeroC Try.prog 72 = some [.pointer none] := by kernel_rfl
attribute [go_sem] Try.underlying73
@[go_sem] theorem agg73 : aggT Try.prog 73 = some false := by kernel_rfl
@[go_sem] theorem cells73 : Try.prog.cellsOf 73 = 1 := by kernel_rfl
@[go_sem] theorem bytes73 : Try.prog.bytesOf 73 = 4 := by kernel_rfl
@[go_sem] theorem parts73 : eqParts Try.prog 73 = none := by kernel_rfl
@[go_sem] theorem zeroV73 : zero1 Try.prog 73 = some (.int .i32 0) := by kernel_rfl
@[go_sem] theorem zero73 : zeroC Try.prog 73 = some [.int .i32 0] := by kernel_rfl
attribute [go_sem] Try.underlying74
@[go_sem] theorem agg74 : aggT Try.prog 74 = some false := by kernel_rfl
@[go_sem] theorem cells74 : Try.prog.cellsOf 74 = 1 := by kernel_rfl
@[go_sem] theorem bytes74 : Try.prog.bytesOf 74 = 4 := by kernel_rfl
@[go_sem] theorem parts74 : eqParts Try.prog 74 = none := by kernel_rfl
@[go_sem] theorem zeroV74 : zero1 Try.prog 74 = some (.int .i32 0) := by kernel_rfl
@[go_sem] theorem zero74 : zeroC Try.prog 74 = some [.int .i32 0] := by kernel_rfl
@[go_sem] theorem agg75 : aggT Try.prog 75 = some true := by kernel_rfl
@[go_sem] theorem cells75 : Try.prog.cellsOf 75 = 11 := by kernel_rfl
@[go_sem] theorem bytes75 : Try.prog.bytesOf 75 = 48 := by kernel_rfl
@[go_sem] theorem zero75 : zeroC Try.prog 75 = some [.int .u64 0, .int .u64 0, .int .u32 0, .int .u8 0, .int .u8 0, .int .u8 0, .int .u8 0, .nilFunc, .pointer none, .int .i32 0, .int .i32 0] := by kernel_rfl
@[go_sem] theorem fld75_0 : fld Try.prog 75 0 = some (0, 12) := by kernel_rfl
@[go_sem] theorem fld75_1 : fld Try.prog 75 1 = some (1, 12) := by kernel_rfl
@[go_sem] theorem fld75_2 : fld Try.prog 75 2 = some (2, 68) := by kernel_rfl
@[go_sem] theorem fld75_3 : fld Try.prog 75 3 = some (3, 69) := by kernel_rfl
@[go_sem] theorem fld75_4 : fld Try.prog 75 4 = some (4, 5) := by kernel_rfl
@[go_sem] theorem fld75_5 : fld Try.prog 75 5 = some (5, 5) := by kernel_rfl
@[go_sem] theorem fld75_6 : fld Try.prog 75 6 = some (6, 70) := by kernel_rfl
@[go_sem] theorem fld75_7 : fld Try.prog 75 7 = some (7, 71) := by kernel_rfl
@[go_sem] theorem fld75_8 : fld Try.prog 75 8 = some (8, 72) := by kernel_rfl
@[go_sem] theorem fld75_9 : fld Try.prog 75 9 = some (9, 73) := by kernel_rfl
@[go_sem] theorem fld75_10 : fld Try.prog 75 10 = some (10, 74) := by kernel_rfl
@[go_sem] theorem lay75 : layOf Try.prog 75 = some [(0, 1), (1, 1), (2, 1), (3, 1), (4, 1), (5, 1), (6, 1), (7, 1), (8, 1), (9, 1), (10, 1)] := by kernel_rfl
@[go_sem] theorem sized75 : sized Try.prog 75 = true := by kernel_rfl
@[go_sem] theorem agg76 : aggT Try.prog 76 = some true := by kernel_rfl
@[go_sem] theorem cells76 : Try.prog.cellsOf 76 = 11 := by kernel_rfl
@[go_sem] theorem bytes76 : Try.prog.bytesOf 76 = 48 := by kernel_rfl
@[go_sem] theorem zero76 : zeroC Try.prog 76 = some [.int .u64 0, .int .u64 0, .int .u32 0, .int .u8 0, .int .u8 0, .int .u8 0, .int .u8 0, .nilFunc, .pointer none, .int .i32 0, .int .i32 0] := by kernel_rfl
@[go_sem] theorem fld76_0 : fld Try.prog 76 0 = some (0, 12) := by kernel_rfl
@[go_sem] theorem fld76_1 : fld Try.prog 76 1 = some (1, 12) := by kernel_rfl
@[go_sem] theorem fld76_2 : fld Try.prog 76 2 = some (2, 68) := by kernel_rfl
@[go_sem] theorem fld76_3 : fld Try.prog 76 3 = some (3, 69) := by kernel_rfl
@[go_sem] theorem fld76_4 : fld Try.prog 76 4 = some (4, 5) := by kernel_rfl
@[go_sem] theorem fld76_5 : fld Try.prog 76 5 = some (5, 5) := by kernel_rfl
@[go_sem] theorem fld76_6 : fld Try.prog 76 6 = some (6, 70) := by kernel_rfl
@[go_sem] theorem fld76_7 : fld Try.prog 76 7 = some (7, 71) := by kernel_rfl
@[go_sem] theorem fld76_8 : fld Try.prog 76 8 = some (8, 72) := by kernel_rfl
@[go_sem] theorem fld76_9 : fld Try.prog 76 9 = some (9, 73) := by kernel_rfl
@[go_sem] theorem fld76_10 : fld Try.prog 76 10 = some (10, 74) := by kernel_rfl
@[go_sem] theorem lay76 : layOf Try.prog 76 = some [(0, 1), (1, 1), (2, 1), (3, 1), (4, 1), (5, 1), (6, 1), (7, 1), (8, 1), (9, 1), (10, 1)] := by kernel_rfl
@[go_sem] theorem sized76 : sized Try.prog 76 = true := by kernel_rfl
attribute [go_sem] Try.underlying77
@[go_sem] theorem agg77 : aggT Try.prog 77 = some false := by kernel_rfl
@[go_sem] theorem cells77 : Try.prog.cellsOf 77 = 1 := by kernel_rfl
@[go_sem] theorem bytes77 : Try.prog.bytesOf 77 = 8 := by kernel_rfl
@[go_sem] theorem parts77 : eqParts Try.prog 77 = none := by kernel_rfl
@[go_sem] theorem zeroV77 : zero1 Try.prog 77 = some (.pointer none) := by kernel_rfl
@[go_sem] theorem zero77 : zeroC Try.prog 77 = some [.pointer none] := by kernel_rfl
end Go.Proofs.Ytainopabnnglgaa
