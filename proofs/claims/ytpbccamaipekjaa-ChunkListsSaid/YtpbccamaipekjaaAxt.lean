/-
  Closed facts on the types of this seat's program.
-/
import Derived.Test.YtpbccamaipekjaaAxf
import Derived.Test.YtpbccamaipekjaaChecked
import Derived.KernelRfl
namespace Go.Proofs.Ytpbccamaipekjaa
open Go
theorem mixed : Try.prog.follows .mixedOrders = true := by kernel_rfl
attribute [go_sem] Try.underlying2
@[go_sem] theorem agg2 : aggT Try.prog 2 = some false := by kernel_rfl
@[go_sem] theorem cells2 : Try.prog.cellsOf 2 = 1 := by kernel_rfl
@[go_sem] theorem bytes2 : Try.prog.bytesOf 2 = 8 := by kernel_rfl
@[go_sem] theorem parts2 : eqParts Try.prog 2 = none := by kernel_rfl
@[go_sem] theorem zeroV2 : zero1 Try.prog 2 = some (.int .i64 0) := by kernel_rfl
@[go_sem] theorem zero2 : zeroC Try.prog 2 = some [.int .i64 0] := by kernel_rfl
attribute [go_sem] Try.underlying3
@[go_sem] theorem agg3 : aggT Try.prog 3 = some false := by kernel_rfl
@[go_sem] theorem cells3 : Try.prog.cellsOf 3 = 1 := by kernel_rfl
@[go_sem] theorem bytes3 : Try.prog.bytesOf 3 = 8 := by kernel_rfl
@[go_sem] theorem parts3 : eqParts Try.prog 3 = none := by kernel_rfl
@[go_sem] theorem zeroV3 : zero1 Try.prog 3 = some (.int .i64 0) := by kernel_rfl
@[go_sem] theorem zero3 : zeroC Try.prog 3 = some [.int .i64 0] := by kernel_rfl
attribute [go_sem] Try.underlying4
@[go_sem] theorem agg4 : aggT Try.prog 4 = some false := by kernel_rfl
@[go_sem] theorem cells4 : Try.prog.cellsOf 4 = 1 := by kernel_rfl
@[go_sem] theorem bytes4 : Try.prog.bytesOf 4 = 1 := by kernel_rfl
@[go_sem] theorem parts4 : eqParts Try.prog 4 = none := by kernel_rfl
@[go_sem] theorem zeroV4 : zero1 Try.prog 4 = some (.bool false) := by kernel_rfl
@[go_sem] theorem zero4 : zeroC Try.prog 4 = some [.bool false] := by kernel_rfl
attribute [go_sem] Try.underlying5
@[go_sem] theorem agg5 : aggT Try.prog 5 = some false := by kernel_rfl
@[go_sem] theorem cells5 : Try.prog.cellsOf 5 = 1 := by kernel_rfl
@[go_sem] theorem bytes5 : Try.prog.bytesOf 5 = 1 := by kernel_rfl
@[go_sem] theorem parts5 : eqParts Try.prog 5 = none := by kernel_rfl
@[go_sem] theorem zeroV5 : zero1 Try.prog 5 = some (.int .u8 0) := by kernel_rfl
@[go_sem] theorem zero5 : zeroC Try.prog 5 = some [.int .u8 0] := by kernel_rfl
attribute [go_sem] Try.underlying6
@[go_sem] theorem agg6 : aggT Try.prog 6 = some false := by kernel_rfl
@[go_sem] theorem cells6 : Try.prog.cellsOf 6 = 1 := by kernel_rfl
@[go_sem] theorem bytes6 : Try.prog.bytesOf 6 = 1 := by kernel_rfl
@[go_sem] theorem parts6 : eqParts Try.prog 6 = none := by kernel_rfl
@[go_sem] theorem zeroV6 : zero1 Try.prog 6 = some (.int .u8 0) := by kernel_rfl
@[go_sem] theorem zero6 : zeroC Try.prog 6 = some [.int .u8 0] := by kernel_rfl
@[go_sem] theorem agg7 : aggT Try.prog 7 = some true := by kernel_rfl
@[go_sem] theorem cells7 : Try.prog.cellsOf 7 = 4 := by kernel_rfl
@[go_sem] theorem bytes7 : Try.prog.bytesOf 7 = 24 := by kernel_rfl
@[go_sem] theorem zero7 : zeroC Try.prog 7 = some [.int .i64 0, .int .i64 0, .bool false, .int .u8 0] := by kernel_rfl
@[go_sem] theorem fld7_0 : fld Try.prog 7 0 = some (0, 2) := by kernel_rfl
@[go_sem] theorem fld7_1 : fld Try.prog 7 1 = some (1, 3) := by kernel_rfl
@[go_sem] theorem fld7_2 : fld Try.prog 7 2 = some (2, 4) := by kernel_rfl
@[go_sem] theorem fld7_3 : fld Try.prog 7 3 = some (3, 6) := by kernel_rfl
@[go_sem] theorem lay7 : layOf Try.prog 7 = some [(0, 1), (1, 1), (2, 1), (3, 1)] := by kernel_rfl
@[go_sem] theorem sized7 : sized Try.prog 7 = true := by kernel_rfl
@[go_sem] theorem agg8 : aggT Try.prog 8 = some true := by kernel_rfl
@[go_sem] theorem cells8 : Try.prog.cellsOf 8 = 4 := by kernel_rfl
@[go_sem] theorem bytes8 : Try.prog.bytesOf 8 = 24 := by kernel_rfl
@[go_sem] theorem zero8 : zeroC Try.prog 8 = some [.int .i64 0, .int .i64 0, .bool false, .int .u8 0] := by kernel_rfl
@[go_sem] theorem fld8_0 : fld Try.prog 8 0 = some (0, 2) := by kernel_rfl
@[go_sem] theorem fld8_1 : fld Try.prog 8 1 = some (1, 3) := by kernel_rfl
@[go_sem] theorem fld8_2 : fld Try.prog 8 2 = some (2, 4) := by kernel_rfl
@[go_sem] theorem fld8_3 : fld Try.prog 8 3 = some (3, 6) := by kernel_rfl
@[go_sem] theorem lay8 : layOf Try.prog 8 = some [(0, 1), (1, 1), (2, 1), (3, 1)] := by kernel_rfl
@[go_sem] theorem sized8 : sized Try.prog 8 = true := by kernel_rfl
attribute [go_sem] Try.underlying9
@[go_sem] theorem agg9 : aggT Try.prog 9 = some false := by kernel_rfl
@[go_sem] theorem cells9 : Try.prog.cellsOf 9 = 1 := by kernel_rfl
@[go_sem] theorem bytes9 : Try.prog.bytesOf 9 = 16 := by kernel_rfl
@[go_sem] theorem parts9 : eqParts Try.prog 9 = none := by kernel_rfl
@[go_sem] theorem zeroV9 : zero1 Try.prog 9 = some (.string ⟨#[]⟩) := by kernel_rfl
@[go_sem] theorem zero9 : zeroC Try.prog 9 = some [.string ⟨#[]⟩] := by kernel_rfl
attribute [go_sem] Try.underlying10
@[go_sem] theorem agg10 : aggT Try.prog 10 = some false := by kernel_rfl
@[go_sem] theorem cells10 : Try.prog.cellsOf 10 = 1 := by kernel_rfl
@[go_sem] theorem bytes10 : Try.prog.bytesOf 10 = 16 := by kernel_rfl
@[go_sem] theorem parts10 : eqParts Try.prog 10 = none := by kernel_rfl
@[go_sem] theorem zeroV10 : zero1 Try.prog 10 = some (.string ⟨#[]⟩) := by kernel_rfl
@[go_sem] theorem zero10 : zeroC Try.prog 10 = some [.string ⟨#[]⟩] := by kernel_rfl
attribute [go_sem] Try.underlying11
@[go_sem] theorem agg11 : aggT Try.prog 11 = some false := by kernel_rfl
@[go_sem] theorem cells11 : Try.prog.cellsOf 11 = 1 := by kernel_rfl
@[go_sem] theorem bytes11 : Try.prog.bytesOf 11 = 16 := by kernel_rfl
@[go_sem] theorem parts11 : eqParts Try.prog 11 = none := by kernel_rfl
@[go_sem] theorem zeroV11 : zero1 Try.prog 11 = some (.string ⟨#[]⟩) := by kernel_rfl
@[go_sem] theorem zero11 : zeroC Try.prog 11 = some [.string ⟨#[]⟩] := by kernel_rfl
attribute [go_sem] Try.underlying12
@[go_sem] theorem agg12 : aggT Try.prog 12 = some false := by kernel_rfl
@[go_sem] theorem cells12 : Try.prog.cellsOf 12 = 1 := by kernel_rfl
@[go_sem] theorem bytes12 : Try.prog.bytesOf 12 = 8 := by kernel_rfl
@[go_sem] theorem parts12 : eqParts Try.prog 12 = none := by kernel_rfl
@[go_sem] theorem zeroV12 : zero1 Try.prog 12 = some (.int .u64 0) := by kernel_rfl
@[go_sem] theorem zero12 : zeroC Try.prog 12 = some [.int .u64 0] := by kernel_rfl
@[go_sem] theorem agg13 : aggT Try.prog 13 = some true := by kernel_rfl
@[go_sem] theorem cells13 : Try.prog.cellsOf 13 = 2 := by kernel_rfl
@[go_sem] theorem bytes13 : Try.prog.bytesOf 13 = 24 := by kernel_rfl
@[go_sem] theorem zero13 : zeroC Try.prog 13 = some [.string ⟨#[]⟩, .int .u64 0] := by kernel_rfl
@[go_sem] theorem fld13_0 : fld Try.prog 13 0 = some (0, 9) := by kernel_rfl
@[go_sem] theorem fld13_1 : fld Try.prog 13 1 = some (1, 12) := by kernel_rfl
@[go_sem] theorem lay13 : layOf Try.prog 13 = some [(0, 1), (1, 1)] := by kernel_rfl
@[go_sem] theorem sized13 : sized Try.prog 13 = true := by kernel_rfl
@[go_sem] theorem agg14 : aggT Try.prog 14 = some true := by kernel_rfl
@[go_sem] theorem cells14 : Try.prog.cellsOf 14 = 2 := by kernel_rfl
@[go_sem] theorem bytes14 : Try.prog.bytesOf 14 = 24 := by kernel_rfl
@[go_sem] theorem zero14 : zeroC Try.prog 14 = some [.string ⟨#[]⟩, .int .u64 0] := by kernel_rfl
@[go_sem] theorem fld14_0 : fld Try.prog 14 0 = some (0, 9) := by kernel_rfl
@[go_sem] theorem fld14_1 : fld Try.prog 14 1 = some (1, 12) := by kernel_rfl
@[go_sem] theorem lay14 : layOf Try.prog 14 = some [(0, 1), (1, 1)] := by kernel_rfl
@[go_sem] theorem sized14 : sized Try.prog 14 = true := by kernel_rfl
attribute [go_sem] Try.underlying15
@[go_sem] theorem agg15 : aggT Try.prog 15 = some false := by kernel_rfl
@[go_sem] theorem cells15 : Try.prog.cellsOf 15 = 1 := by kernel_rfl
@[go_sem] theorem bytes15 : Try.prog.bytesOf 15 = 8 := by kernel_rfl
@[go_sem] theorem parts15 : eqParts Try.prog 15 = none := by kernel_rfl
@[go_sem] theorem zeroV15 : zero1 Try.prog 15 = some (.pointer none) := by kernel_rfl
@[go_sem] theorem zero15 : zeroC Try.prog 15 = some [.pointer none] := by kernel_rfl
attribute [go_sem] Try.underlying16
@[go_sem] theorem agg16 : aggT Try.prog 16 = some false := by kernel_rfl
@[go_sem] theorem cells16 : Try.prog.cellsOf 16 = 1 := by kernel_rfl
@[go_sem] theorem bytes16 : Try.prog.bytesOf 16 = 8 := by kernel_rfl
@[go_sem] theorem parts16 : eqParts Try.prog 16 = none := by kernel_rfl
@[go_sem] theorem zeroV16 : zero1 Try.prog 16 = some (.pointer none) := by kernel_rfl
@[go_sem] theorem zero16 : zeroC Try.prog 16 = some [.pointer none] := by kernel_rfl
attribute [go_sem] Try.underlying17
@[go_sem] theorem agg17 : aggT Try.prog 17 = some false := by kernel_rfl
@[go_sem] theorem cells17 : Try.prog.cellsOf 17 = 1 := by kernel_rfl
@[go_sem] theorem bytes17 : Try.prog.bytesOf 17 = 8 := by kernel_rfl
@[go_sem] theorem parts17 : eqParts Try.prog 17 = none := by kernel_rfl
@[go_sem] theorem zeroV17 : zero1 Try.prog 17 = some (.pointer none) := by kernel_rfl
@[go_sem] theorem zero17 : zeroC Try.prog 17 = some [.pointer none] := by kernel_rfl
@[go_sem] theorem agg18 : aggT Try.prog 18 = some true := by kernel_rfl
@[go_sem] theorem cells18 : Try.prog.cellsOf 18 = 1 := by kernel_rfl
@[go_sem] theorem bytes18 : Try.prog.bytesOf 18 = 8 := by kernel_rfl
@[go_sem] theorem zero18 : zeroC Try.prog 18 = some [.pointer none] := by kernel_rfl
@[go_sem] theorem fld18_0 : fld Try.prog 18 0 = some (0, 17) := by kernel_rfl
@[go_sem] theorem lay18 : layOf Try.prog 18 = some [(0, 1)] := by kernel_rfl
@[go_sem] theorem sized18 : sized Try.prog 18 = true := by kernel_rfl
@[go_sem] theorem agg19 : aggT Try.prog 19 = some true := by kernel_rfl
@[go_sem] theorem cells19 : Try.prog.cellsOf 19 = 1 := by kernel_rfl
@[go_sem] theorem bytes19 : Try.prog.bytesOf 19 = 8 := by kernel_rfl
@[go_sem] theorem zero19 : zeroC Try.prog 19 = some [.pointer none] := by kernel_rfl
@[go_sem] theorem fld19_0 : fld Try.prog 19 0 = some (0, 17) := by kernel_rfl
@[go_sem] theorem lay19 : layOf Try.prog 19 = some [(0, 1)] := by kernel_rfl
@[go_sem] theorem sized19 : sized Try.prog 19 = true := by kernel_rfl
@[go_sem] theorem agg20 : aggT Try.prog 20 = some false := by kernel_rfl
@[go_sem] theorem cells20 : Try.prog.cellsOf 20 = 1 := by kernel_rfl
@[go_sem] theorem bytes20 : Try.prog.bytesOf 20 = 16 := by kernel_rfl
@[go_sem] theorem parts20 : eqParts Try.prog 20 = none := by kernel_rfl
@[go_sem] theorem zeroV20 : zero1 Try.prog 20 = some (.nilIface) := by kernel_rfl
@[go_sem] theorem zero20 : zeroC Try.prog 20 = some [.nilIface] := by kernel_rfl
attribute [go_sem] Try.underlying21
@[go_sem] theorem agg21 : aggT Try.prog 21 = some false := by kernel_rfl
@[go_sem] theorem cells21 : Try.prog.cellsOf 21 = 1 := by kernel_rfl
@[go_sem] theorem bytes21 : Try.prog.bytesOf 21 = 4 := by kernel_rfl
@[go_sem] theorem parts21 : eqParts Try.prog 21 = none := by kernel_rfl
@[go_sem] theorem zeroV21 : zero1 Try.prog 21 = some (.int .i32 0) := by kernel_rfl
@[go_sem] theorem zero21 : zeroC Try.prog 21 = some [.int .i32 0] := by kernel_rfl
attribute [go_sem] Try.underlying22
@[go_sem] theorem agg22 : aggT Try.prog 22 = some false := by kernel_rfl
@[go_sem] theorem cells22 : Try.prog.cellsOf 22 = 1 := by kernel_rfl
@[go_sem] theorem bytes22 : Try.prog.bytesOf 22 = 24 := by kernel_rfl
@[go_sem] theorem parts22 : eqParts Try.prog 22 = none := by kernel_rfl
@[go_sem] theorem zeroV22 : zero1 Try.prog 22 = some (.slice none 0 0) := by kernel_rfl
@[go_sem] theorem zero22 : zeroC Try.prog 22 = some [.slice none 0 0] := by kernel_rfl
attribute [go_sem] Try.underlying23
@[go_sem] theorem agg23 : aggT Try.prog 23 = some false := by kernel_rfl
@[go_sem] theorem cells23 : Try.prog.cellsOf 23 = 1 := by kernel_rfl
@[go_sem] theorem bytes23 : Try.prog.bytesOf 23 = 24 := by kernel_rfl
@[go_sem] theorem parts23 : eqParts Try.prog 23 = none := by kernel_rfl
@[go_sem] theorem zeroV23 : zero1 Try.prog 23 = some (.slice none 0 0) := by kernel_rfl
@[go_sem] theorem zero23 : zeroC Try.prog 23 = some [.slice none 0 0] := by kernel_rfl
attribute [go_sem] Try.underlying24
@[go_sem] theorem agg24 : aggT Try.prog 24 = some false := by kernel_rfl
@[go_sem] theorem cells24 : Try.prog.cellsOf 24 = 1 := by kernel_rfl
@[go_sem] theorem bytes24 : Try.prog.bytesOf 24 = 24 := by kernel_rfl
@[go_sem] theorem parts24 : eqParts Try.prog 24 = none := by kernel_rfl
@[go_sem] theorem zeroV24 : zero1 Try.prog 24 = some (.slice none 0 0) := by kernel_rfl
@[go_sem] theorem zero24 : zeroC Try.prog 24 = some [.slice none 0 0] := by kernel_rfl
attribute [go_sem] Try.underlying25
@[go_sem] theorem agg25 : aggT Try.prog 25 = some false := by kernel_rfl
@[go_sem] theorem cells25 : Try.prog.cellsOf 25 = 1 := by kernel_rfl
@[go_sem] theorem bytes25 : Try.prog.bytesOf 25 = 8 := by kernel_rfl
@[go_sem] theorem parts25 : eqParts Try.prog 25 = none := by kernel_rfl
@[go_sem] theorem zeroV25 : zero1 Try.prog 25 = some (.int .i64 0) := by kernel_rfl
@[go_sem] theorem zero25 : zeroC Try.prog 25 = some [.int .i64 0] := by kernel_rfl
attribute [go_sem] Try.underlying28
@[go_sem] theorem agg28 : aggT Try.prog 28 = some false := by kernel_rfl
@[go_sem] theorem cells28 : Try.prog.cellsOf 28 = 1 := by kernel_rfl
@[go_sem] theorem bytes28 : Try.prog.bytesOf 28 = 24 := by kernel_rfl
@[go_sem] theorem parts28 : eqParts Try.prog 28 = none := by kernel_rfl
@[go_sem] theorem zeroV28 : zero1 Try.prog 28 = some (.slice none 0 0) := by kernel_rfl
@[go_sem] theorem zero28 : zeroC Try.prog 28 = some [.slice none 0 0] := by kernel_rfl
attribute [go_sem] Try.underlying30
@[go_sem] theorem agg30 : aggT Try.prog 30 = some false := by kernel_rfl
@[go_sem] theorem cells30 : Try.prog.cellsOf 30 = 1 := by kernel_rfl
@[go_sem] theorem bytes30 : Try.prog.bytesOf 30 = 24 := by kernel_rfl
@[go_sem] theorem parts30 : eqParts Try.prog 30 = none := by kernel_rfl
@[go_sem] theorem zeroV30 : zero1 Try.prog 30 = some (.slice none 0 0) := by kernel_rfl
@[go_sem] theorem zero30 : zeroC Try.prog 30 = some [.slice none 0 0] := by kernel_rfl
attribute [go_sem] Try.underlying49
@[go_sem] theorem agg49 : aggT Try.prog 49 = some true := by kernel_rfl
@[go_sem] theorem cells49 : Try.prog.cellsOf 49 = 3 := by kernel_rfl
@[go_sem] theorem bytes49 : Try.prog.bytesOf 49 = 24 := by kernel_rfl
@[go_sem] theorem lay49 : layOf Try.prog 49 = none := by kernel_rfl
@[go_sem] theorem arr49 : arrOf Try.prog 49 = some 1 := by kernel_rfl
@[go_sem] theorem parts49 : eqParts Try.prog 49 = some [(0, 3), (1, 3), (2, 3)] := by kernel_rfl
@[go_sem] theorem eqg49 : Try.prog.eqGuardType Try.prog.depth 49 = false := by kernel_rfl
@[go_sem] theorem zero49 : zeroC Try.prog 49 = some [.int .i64 0, .int .i64 0, .int .i64 0] := by kernel_rfl
attribute [go_sem] Try.underlying51
@[go_sem] theorem agg51 : aggT Try.prog 51 = some false := by kernel_rfl
@[go_sem] theorem cells51 : Try.prog.cellsOf 51 = 1 := by kernel_rfl
@[go_sem] theorem bytes51 : Try.prog.bytesOf 51 = 24 := by kernel_rfl
@[go_sem] theorem parts51 : eqParts Try.prog 51 = none := by kernel_rfl
@[go_sem] theorem zeroV51 : zero1 Try.prog 51 = some (.slice none 0 0) := by kernel_rfl
@[go_sem] theorem zero51 : zeroC Try.prog 51 = some [.slice none 0 0] := by kernel_rfl
attribute [go_sem] Try.underlying54
@[go_sem] theorem agg54 : aggT Try.prog 54 = some false := by kernel_rfl
@[go_sem] theorem cells54 : Try.prog.cellsOf 54 = 1 := by kernel_rfl
@[go_sem] theorem bytes54 : Try.prog.bytesOf 54 = 24 := by kernel_rfl
@[go_sem] theorem parts54 : eqParts Try.prog 54 = none := by kernel_rfl
@[go_sem] theorem zeroV54 : zero1 Try.prog 54 = some (.slice none 0 0) := by kernel_rfl
@[go_sem] theorem zero54 : zeroC Try.prog 54 = some [.slice none 0 0] := by kernel_rfl
@[go_sem] theorem agg59 : aggT Try.prog 59 = some true := by kernel_rfl
@[go_sem] theorem cells59 : Try.prog.cellsOf 59 = 2 := by kernel_rfl
@[go_sem] theorem bytes59 : Try.prog.bytesOf 59 = 16 := by kernel_rfl
@[go_sem] theorem parts59 : eqParts Try.prog 59 = some [(0, 3), (1, 3)] := by kernel_rfl
@[go_sem] theorem eqg59 : Try.prog.eqGuardType Try.prog.depth 59 = false := by kernel_rfl
@[go_sem] theorem zero59 : zeroC Try.prog 59 = some [.int .i64 0, .int .i64 0] := by kernel_rfl
@[go_sem] theorem fld59_0 : fld Try.prog 59 0 = some (0, 3) := by kernel_rfl
@[go_sem] theorem fld59_1 : fld Try.prog 59 1 = some (1, 3) := by kernel_rfl
@[go_sem] theorem lay59 : layOf Try.prog 59 = some [(0, 1), (1, 1)] := by kernel_rfl
@[go_sem] theorem sized59 : sized Try.prog 59 = true := by kernel_rfl
@[go_sem] theorem agg60 : aggT Try.prog 60 = some true := by kernel_rfl
@[go_sem] theorem cells60 : Try.prog.cellsOf 60 = 2 := by kernel_rfl
@[go_sem] theorem bytes60 : Try.prog.bytesOf 60 = 16 := by kernel_rfl
@[go_sem] theorem parts60 : eqParts Try.prog 60 = some [(0, 3), (1, 3)] := by kernel_rfl
@[go_sem] theorem eqg60 : Try.prog.eqGuardType Try.prog.depth 60 = false := by kernel_rfl
@[go_sem] theorem zero60 : zeroC Try.prog 60 = some [.int .i64 0, .int .i64 0] := by kernel_rfl
@[go_sem] theorem fld60_0 : fld Try.prog 60 0 = some (0, 3) := by kernel_rfl
@[go_sem] theorem fld60_1 : fld Try.prog 60 1 = some (1, 3) := by kernel_rfl
@[go_sem] theorem lay60 : layOf Try.prog 60 = some [(0, 1), (1, 1)] := by kernel_rfl
@[go_sem] theorem sized60 : sized Try.prog 60 = true := by kernel_rfl
@[go_sem] theorem agg61 : aggT Try.prog 61 = some true := by kernel_rfl
@[go_sem] theorem cells61 : Try.prog.cellsOf 61 = 7 := by kernel_rfl
@[go_sem] theorem bytes61 : Try.prog.bytesOf 61 = 56 := by kernel_rfl
@[go_sem] theorem parts61 : eqParts Try.prog 61 = some [(0, 4), (1, 60), (3, 60), (5, 60)] := by kernel_rfl
@[go_sem] theorem eqg61 : Try.prog.eqGuardType Try.prog.depth 61 = false := by kernel_rfl
@[go_sem] theorem zero61 : zeroC Try.prog 61 = some [.bool false, .int .i64 0, .int .i64 0, .int .i64 0, .int .i64 0, .int .i64 0, .int .i64 0] := by kernel_rfl
@[go_sem] theorem fld61_0 : fld Try.prog 61 0 = some (0, 4) := by kernel_rfl
@[go_sem] theorem fld61_1 : fld Try.prog 61 1 = some (1, 60) := by kernel_rfl
@[go_sem] theorem fld61_2 : fld Try.prog 61 2 = some (3, 60) := by kernel_rfl
@[go_sem] theorem fld61_3 : fld Try.prog 61 3 = some (5, 60) := by kernel_rfl
@[go_sem] theorem lay61 : layOf Try.prog 61 = some [(0, 1), (1, 2), (3, 2), (5, 2)] := by kernel_rfl
@[go_sem] theorem sized61 : sized Try.prog 61 = true := by kernel_rfl
@[go_sem] theorem agg62 : aggT Try.prog 62 = some true := by kernel_rfl
@[go_sem] theorem cells62 : Try.prog.cellsOf 62 = 7 := by kernel_rfl
@[go_sem] theorem bytes62 : Try.prog.bytesOf 62 = 56 := by kernel_rfl
@[go_sem] theorem parts62 : eqParts Try.prog 62 = some [(0, 4), (1, 60), (3, 60), (5, 60)] := by kernel_rfl
@[go_sem] theorem eqg62 : Try.prog.eqGuardType Try.prog.depth 62 = false := by kernel_rfl
@[go_sem] theorem zero62 : zeroC Try.prog 62 = some [.bool false, .int .i64 0, .int .i64 0, .int .i64 0, .int .i64 0, .int .i64 0, .int .i64 0] := by kernel_rfl
@[go_sem] theorem fld62_0 : fld Try.prog 62 0 = some (0, 4) := by kernel_rfl
@[go_sem] theorem fld62_1 : fld Try.prog 62 1 = some (1, 60) := by kernel_rfl
@[go_sem] theorem fld62_2 : fld Try.prog 62 2 = some (3, 60) := by kernel_rfl
@[go_sem] theorem fld62_3 : fld Try.prog 62 3 = some (5, 60) := by kernel_rfl
@[go_sem] theorem lay62 : layOf Try.prog 62 = some [(0, 1), (1, 2), (3, 2), (5, 2)] := by kernel_rfl
@[go_sem] theorem sized62 : sized Try.prog 62 = true := by kernel_rfl
@[go_sem] theorem agg63 : aggT Try.prog 63 = some true := by kernel_rfl
@[go_sem] theorem cells63 : Try.prog.cellsOf 63 = 2 := by kernel_rfl
@[go_sem] theorem bytes63 : Try.prog.bytesOf 63 = 16 := by kernel_rfl
@[go_sem] theorem parts63 : eqParts Try.prog 63 = some [(0, 3), (1, 3)] := by kernel_rfl
@[go_sem] theorem eqg63 : Try.prog.eqGuardType Try.prog.depth 63 = false := by kernel_rfl
@[go_sem] theorem zero63 : zeroC Try.prog 63 = some [.int .i64 0, .int .i64 0] := by kernel_rfl
@[go_sem] theorem fld63_0 : fld Try.prog 63 0 = some (0, 3) := by kernel_rfl
@[go_sem] theorem fld63_1 : fld Try.prog 63 1 = some (1, 3) := by kernel_rfl
@[go_sem] theorem lay63 : layOf Try.prog 63 = some [(0, 1), (1, 1)] := by kernel_rfl
@[go_sem] theorem sized63 : sized Try.prog 63 = true := by kernel_rfl
@[go_sem] theorem agg64 : aggT Try.prog 64 = some true := by kernel_rfl
@[go_sem] theorem cells64 : Try.prog.cellsOf 64 = 7 := by kernel_rfl
@[go_sem] theorem bytes64 : Try.prog.bytesOf 64 = 56 := by kernel_rfl
@[go_sem] theorem parts64 : eqParts Try.prog 64 = some [(0, 4), (1, 63), (3, 63), (5, 63)] := by kernel_rfl
@[go_sem] theorem eqg64 : Try.prog.eqGuardType Try.prog.depth 64 = false := by kernel_rfl
@[go_sem] theorem zero64 : zeroC Try.prog 64 = some [.bool false, .int .i64 0, .int .i64 0, .int .i64 0, .int .i64 0, .int .i64 0, .int .i64 0] := by kernel_rfl
@[go_sem] theorem fld64_0 : fld Try.prog 64 0 = some (0, 4) := by kernel_rfl
@[go_sem] theorem fld64_1 : fld Try.prog 64 1 = some (1, 63) := by kernel_rfl
@[go_sem] theorem fld64_2 : fld Try.prog 64 2 = some (3, 63) := by kernel_rfl
@[go_sem] theorem fld64_3 : fld Try.prog 64 3 = some (5, 63) := by kernel_rfl
@[go_sem] theorem lay64 : layOf Try.prog 64 = some [(0, 1), (1, 2), (3, 2), (5, 2)] := by kernel_rfl
@[go_sem] theorem sized64 : sized Try.prog 64 = true := by kernel_rfl
@[go_sem] theorem agg65 : aggT Try.prog 65 = some true := by kernel_rfl
@[go_sem] theorem cells65 : Try.prog.cellsOf 65 = 7 := by kernel_rfl
@[go_sem] theorem bytes65 : Try.prog.bytesOf 65 = 56 := by kernel_rfl
@[go_sem] theorem parts65 : eqParts Try.prog 65 = some [(0, 4), (1, 63), (3, 63), (5, 63)] := by kernel_rfl
@[go_sem] theorem eqg65 : Try.prog.eqGuardType Try.prog.depth 65 = false := by kernel_rfl
@[go_sem] theorem zero65 : zeroC Try.prog 65 = some [.bool false, .int .i64 0, .int .i64 0, .int .i64 0, .int .i64 0, .int .i64 0, .int .i64 0] := by kernel_rfl
@[go_sem] theorem fld65_0 : fld Try.prog 65 0 = some (0, 4) := by kernel_rfl
@[go_sem] theorem fld65_1 : fld Try.prog 65 1 = some (1, 63) := by kernel_rfl
@[go_sem] theorem fld65_2 : fld Try.prog 65 2 = some (3, 63) := by kernel_rfl
@[go_sem] theorem fld65_3 : fld Try.prog 65 3 = some (5, 63) := by kernel_rfl
@[go_sem] theorem lay65 : layOf Try.prog 65 = some [(0, 1), (1, 2), (3, 2), (5, 2)] := by kernel_rfl
@[go_sem] theorem sized65 : sized Try.prog 65 = true := by kernel_rfl
attribute [go_sem] Try.underlying70
@[go_sem] theorem agg70 : aggT Try.prog 70 = some true := by kernel_rfl
@[go_sem] theorem cells70 : Try.prog.cellsOf 70 = 3 := by kernel_rfl
@[go_sem] theorem bytes70 : Try.prog.bytesOf 70 = 72 := by kernel_rfl
@[go_sem] theorem lay70 : layOf Try.prog 70 = none := by kernel_rfl
@[go_sem] theorem arr70 : arrOf Try.prog 70 = some 1 := by kernel_rfl
@[go_sem] theorem parts70 : eqParts Try.prog 70 = some [(0, 22), (1, 22), (2, 22)] := by kernel_rfl
@[go_sem] theorem eqg70 : Try.prog.eqGuardType Try.prog.depth 70 = false := by kernel_rfl
@[go_sem] theorem zero70 : zeroC Try.prog 70 = some [.slice none 0 0, .slice none 0 0, .slice none 0 0] := by kernel_rfl
attribute [go_sem] Try.underlying74
@[go_sem] theorem agg74 : aggT Try.prog 74 = some false := by kernel_rfl
@[go_sem] theorem cells74 : Try.prog.cellsOf 74 = 1 := by kernel_rfl
@[go_sem] theorem bytes74 : Try.prog.bytesOf 74 = 24 := by kernel_rfl
@[go_sem] theorem parts74 : eqParts Try.prog 74 = none := by kernel_rfl
@[go_sem] theorem zeroV74 : zero1 Try.prog 74 = some (.slice none 0 0) := by kernel_rfl
@[go_sem] theorem zero74 : zeroC Try.prog 74 = some [.slice none 0 0] := by kernel_rfl
attribute [go_sem] Try.underlying77
@[go_sem] theorem agg77 : aggT Try.prog 77 = some false := by kernel_rfl
@[go_sem] theorem cells77 : Try.prog.cellsOf 77 = 1 := by kernel_rfl
@[go_sem] theorem bytes77 : Try.prog.bytesOf 77 = 24 := by kernel_rfl
@[go_sem] theorem parts77 : eqParts Try.prog 77 = none := by kernel_rfl
@[go_sem] theorem zeroV77 : zero1 Try.prog 77 = some (.slice none 0 0) := by kernel_rfl
@[go_sem] theorem zero77 : zeroC Try.prog 77 = some [.slice none 0 0] := by kernel_rfl
attribute [go_sem] Try.underlying79
@[go_sem] theorem agg79 : aggT Try.prog 79 = some false := by kernel_rfl
@[go_sem] theorem cells79 : Try.prog.cellsOf 79 = 1 := by kernel_rfl
@[go_sem] theorem bytes79 : Try.prog.bytesOf 79 = 24 := by kernel_rfl
@[go_sem] theorem parts79 : eqParts Try.prog 79 = none := by kernel_rfl
@[go_sem] theorem zeroV79 : zero1 Try.prog 79 = some (.slice none 0 0) := by kernel_rfl
@[go_sem] theorem zero79 : zeroC Try.prog 79 = some [.slice none 0 0] := by kernel_rfl
@[go_sem] theorem agg82 : aggT Try.prog 82 = some true := by kernel_rfl
@[go_sem] theorem cells82 : Try.prog.cellsOf 82 = 2 := by kernel_rfl
@[go_sem] theorem bytes82 : Try.prog.bytesOf 82 = 16 := by kernel_rfl
@[go_sem] theorem parts82 : eqParts Try.prog 82 = some [(0, 3), (1, 3)] := by kernel_rfl
@[go_sem] theorem eqg82 : Try.prog.eqGuardType Try.prog.depth 82 = false := by kernel_rfl
@[go_sem] theorem zero82 : zeroC Try.prog 82 = some [.int .i64 0, .int .i64 0] := by kernel_rfl
@[go_sem] theorem fld82_0 : fld Try.prog 82 0 = some (0, 3) := by kernel_rfl
@[go_sem] theorem fld82_1 : fld Try.prog 82 1 = some (1, 3) := by kernel_rfl
@[go_sem] theorem lay82 : layOf Try.prog 82 = some [(0, 1), (1, 1)] := by kernel_rfl
@[go_sem] theorem sized82 : sized Try.prog 82 = true := by kernel_rfl
@[go_sem] theorem agg83 : aggT Try.prog 83 = some true := by kernel_rfl
@[go_sem] theorem cells83 : Try.prog.cellsOf 83 = 2 := by kernel_rfl
@[go_sem] theorem bytes83 : Try.prog.bytesOf 83 = 16 := by kernel_rfl
@[go_sem] theorem parts83 : eqParts Try.prog 83 = some [(0, 3), (1, 3)] := by kernel_rfl
@[go_sem] theorem eqg83 : Try.prog.eqGuardType Try.prog.depth 83 = false := by kernel_rfl
@[go_sem] theorem zero83 : zeroC Try.prog 83 = some [.int .i64 0, .int .i64 0] := by kernel_rfl
@[go_sem] theorem fld83_0 : fld Try.prog 83 0 = some (0, 3) := by kernel_rfl
@[go_sem] theorem fld83_1 : fld Try.prog 83 1 = some (1, 3) := by kernel_rfl
@[go_sem] theorem lay83 : layOf Try.prog 83 = some [(0, 1), (1, 1)] := by kernel_rfl
@[go_sem] theorem sized83 : sized Try.prog 83 = true := by kernel_rfl
@[go_sem] theorem agg85 : aggT Try.prog 85 = some true := by kernel_rfl
@[go_sem] theorem cells85 : Try.prog.cellsOf 85 = 2 := by kernel_rfl
@[go_sem] theorem bytes85 : Try.prog.bytesOf 85 = 16 := by kernel_rfl
@[go_sem] theorem parts85 : eqParts Try.prog 85 = some [(0, 3), (1, 3)] := by kernel_rfl
@[go_sem] theorem eqg85 : Try.prog.eqGuardType Try.prog.depth 85 = false := by kernel_rfl
@[go_sem] theorem zero85 : zeroC Try.prog 85 = some [.int .i64 0, .int .i64 0] := by kernel_rfl
@[go_sem] theorem fld85_0 : fld Try.prog 85 0 = some (0, 3) := by kernel_rfl
@[go_sem] theorem fld85_1 : fld Try.prog 85 1 = some (1, 3) := by kernel_rfl
@[go_sem] theorem lay85 : layOf Try.prog 85 = some [(0, 1), (1, 1)] := by kernel_rfl
@[go_sem] theorem sized85 : sized Try.prog 85 = true := by kernel_rfl
attribute [go_sem] Try.underlying87
@[go_sem] theorem agg87 : aggT Try.prog 87 = some false := by kernel_rfl
@[go_sem] theorem cells87 : Try.prog.cellsOf 87 = 1 := by kernel_rfl
@[go_sem] theorem bytes87 : Try.prog.bytesOf 87 = 24 := by kernel_rfl
@[go_sem] theorem parts87 : eqParts Try.prog 87 = none := by kernel_rfl
@[go_sem] theorem zeroV87 : zero1 Try.prog 87 = some (.slice none 0 0) := by kernel_rfl
@[go_sem] theorem zero87 : zeroC Try.prog 87 = some [.slice none 0 0] := by kernel_rfl
@[go_sem] theorem agg90 : aggT Try.prog 90 = some true := by kernel_rfl
@[go_sem] theorem cells90 : Try.prog.cellsOf 90 = 2 := by kernel_rfl
@[go_sem] theorem bytes90 : Try.prog.bytesOf 90 = 32 := by kernel_rfl
@[go_sem] theorem parts90 : eqParts Try.prog 90 = some [(0, 3), (1, 22)] := by kernel_rfl
@[go_sem] theorem eqg90 : Try.prog.eqGuardType Try.prog.depth 90 = false := by kernel_rfl
@[go_sem] theorem zero90 : zeroC Try.prog 90 = some [.int .i64 0, .slice none 0 0] := by kernel_rfl
@[go_sem] theorem fld90_0 : fld Try.prog 90 0 = some (0, 3) := by kernel_rfl
@[go_sem] theorem fld90_1 : fld Try.prog 90 1 = some (1, 22) := by kernel_rfl
@[go_sem] theorem lay90 : layOf Try.prog 90 = some [(0, 1), (1, 1)] := by kernel_rfl
@[go_sem] theorem sized90 : sized Try.prog 90 = true := by kernel_rfl
@[go_sem] theorem agg91 : aggT Try.prog 91 = some true := by kernel_rfl
@[go_sem] theorem cells91 : Try.prog.cellsOf 91 = 2 := by kernel_rfl
@[go_sem] theorem bytes91 : Try.prog.bytesOf 91 = 32 := by kernel_rfl
@[go_sem] theorem parts91 : eqParts Try.prog 91 = some [(0, 3), (1, 22)] := by kernel_rfl
@[go_sem] theorem eqg91 : Try.prog.eqGuardType Try.prog.depth 91 = false := by kernel_rfl
@[go_sem] theorem zero91 : zeroC Try.prog 91 = some [.int .i64 0, .slice none 0 0] := by kernel_rfl
@[go_sem] theorem fld91_0 : fld Try.prog 91 0 = some (0, 3) := by kernel_rfl
@[go_sem] theorem fld91_1 : fld Try.prog 91 1 = some (1, 22) := by kernel_rfl
@[go_sem] theorem lay91 : layOf Try.prog 91 = some [(0, 1), (1, 1)] := by kernel_rfl
@[go_sem] theorem sized91 : sized Try.prog 91 = true := by kernel_rfl
@[go_sem] theorem agg92 : aggT Try.prog 92 = some true := by kernel_rfl
@[go_sem] theorem cells92 : Try.prog.cellsOf 92 = 2 := by kernel_rfl
@[go_sem] theorem bytes92 : Try.prog.bytesOf 92 = 32 := by kernel_rfl
@[go_sem] theorem parts92 : eqParts Try.prog 92 = some [(0, 3), (1, 22)] := by kernel_rfl
@[go_sem] theorem eqg92 : Try.prog.eqGuardType Try.prog.depth 92 = false := by kernel_rfl
@[go_sem] theorem zero92 : zeroC Try.prog 92 = some [.int .i64 0, .slice none 0 0] := by kernel_rfl
@[go_sem] theorem fld92_0 : fld Try.prog 92 0 = some (0, 3) := by kernel_rfl
@[go_sem] theorem fld92_1 : fld Try.prog 92 1 = some (1, 22) := by kernel_rfl
@[go_sem] theorem lay92 : layOf Try.prog 92 = some [(0, 1), (1, 1)] := by kernel_rfl
@[go_sem] theorem sized92 : sized Try.prog 92 = true := by kernel_rfl
@[go_sem] theorem agg96 : aggT Try.prog 96 = some true := by kernel_rfl
@[go_sem] theorem cells96 : Try.prog.cellsOf 96 = 3 := by kernel_rfl
@[go_sem] theorem bytes96 : Try.prog.bytesOf 96 = 24 := by kernel_rfl
@[go_sem] theorem parts96 : eqParts Try.prog 96 = some [(0, 3), (1, 3), (2, 3)] := by kernel_rfl
@[go_sem] theorem eqg96 : Try.prog.eqGuardType Try.prog.depth 96 = false := by kernel_rfl
@[go_sem] theorem zero96 : zeroC Try.prog 96 = some [.int .i64 0, .int .i64 0, .int .i64 0] := by kernel_rfl
@[go_sem] theorem fld96_0 : fld Try.prog 96 0 = some (0, 3) := by kernel_rfl
@[go_sem] theorem fld96_1 : fld Try.prog 96 1 = some (1, 3) := by kernel_rfl
@[go_sem] theorem fld96_2 : fld Try.prog 96 2 = some (2, 3) := by kernel_rfl
@[go_sem] theorem lay96 : layOf Try.prog 96 = some [(0, 1), (1, 1), (2, 1)] := by kernel_rfl
@[go_sem] theorem sized96 : sized Try.prog 96 = true := by kernel_rfl
@[go_sem] theorem agg97 : aggT Try.prog 97 = some true := by kernel_rfl
@[go_sem] theorem cells97 : Try.prog.cellsOf 97 = 3 := by kernel_rfl
@[go_sem] theorem bytes97 : Try.prog.bytesOf 97 = 24 := by kernel_rfl
@[go_sem] theorem parts97 : eqParts Try.prog 97 = some [(0, 3), (1, 3), (2, 3)] := by kernel_rfl
@[go_sem] theorem eqg97 : Try.prog.eqGuardType Try.prog.depth 97 = false := by kernel_rfl
@[go_sem] theorem zero97 : zeroC Try.prog 97 = some [.int .i64 0, .int .i64 0, .int .i64 0] := by kernel_rfl
@[go_sem] theorem fld97_0 : fld Try.prog 97 0 = some (0, 3) := by kernel_rfl
@[go_sem] theorem fld97_1 : fld Try.prog 97 1 = some (1, 3) := by kernel_rfl
@[go_sem] theorem fld97_2 : fld Try.prog 97 2 = some (2, 3) := by kernel_rfl
@[go_sem] theorem lay97 : layOf Try.prog 97 = some [(0, 1), (1, 1), (2, 1)] := by kernel_rfl
@[go_sem] theorem sized97 : sized Try.prog 97 = true := by kernel_rfl
attribute [go_sem] Try.underlying98
@[go_sem] theorem agg98 : aggT Try.prog 98 = some false := by kernel_rfl
@[go_sem] theorem cells98 : Try.prog.cellsOf 98 = 1 := by kernel_rfl
@[go_sem] theorem bytes98 : Try.prog.bytesOf 98 = 24 := by kernel_rfl
@[go_sem] theorem parts98 : eqParts Try.prog 98 = none := by kernel_rfl
@[go_sem] theorem zeroV98 : zero1 Try.prog 98 = some (.slice none 0 0) := by kernel_rfl
@[go_sem] theorem zero98 : zeroC Try.prog 98 = some [.slice none 0 0] := by kernel_rfl
attribute [go_sem] Try.underlying106
@[go_sem] theorem agg106 : aggT Try.prog 106 = some false := by kernel_rfl
@[go_sem] theorem cells106 : Try.prog.cellsOf 106 = 1 := by kernel_rfl
@[go_sem] theorem bytes106 : Try.prog.bytesOf 106 = 8 := by kernel_rfl
@[go_sem] theorem parts106 : eqParts Try.prog 106 = none := by kernel_rfl
@[go_sem] theorem zeroV106 : zero1 Try.prog 106 = some (.map none) := by kernel_rfl
@[go_sem] theorem zero106 : zeroC Try.prog 106 = some [.map none] := by kernel_rfl
attribute [go_sem] Try.underlying108
@[go_sem] theorem agg108 : aggT Try.prog 108 = some false := by kernel_rfl
@[go_sem] theorem cells108 : Try.prog.cellsOf 108 = 1 := by kernel_rfl
@[go_sem] theorem bytes108 : Try.prog.bytesOf 108 = 8 := by kernel_rfl
@[go_sem] theorem parts108 : eqParts Try.prog 108 = none := by kernel_rfl
@[go_sem] theorem zeroV108 : zero1 Try.prog 108 = some (.pointer none) := by kernel_rfl
@[go_sem] theorem zero108 : zeroC Try.prog 108 = some [.pointer none] := by kernel_rfl
@[go_sem] theorem agg111 : aggT Try.prog 111 = some true := by kernel_rfl
@[go_sem] theorem cells111 : Try.prog.cellsOf 111 = 4 := by kernel_rfl
@[go_sem] theorem bytes111 : Try.prog.bytesOf 111 = 40 := by kernel_rfl
@[go_sem] theorem zero111 : zeroC Try.prog 111 = some [.pointer none, .pointer none, .pointer none, .string ⟨#[]⟩] := by kernel_rfl
@[go_sem] theorem fld111_0 : fld Try.prog 111 0 = some (0, 17) := by kernel_rfl
@[go_sem] theorem fld111_1 : fld Try.prog 111 1 = some (1, 17) := by kernel_rfl
@[go_sem] theorem fld111_2 : fld Try.prog 111 2 = some (2, 17) := by kernel_rfl
@[go_sem] theorem fld111_3 : fld Try.prog 111 3 = some (3, 9) := by kernel_rfl
@[go_sem] theorem lay111 : layOf Try.prog 111 = some [(0, 1), (1, 1), (2, 1), (3, 1)] := by kernel_rfl
@[go_sem] theorem sized111 : sized Try.prog 111 = true := by kernel_rfl
@[go_sem] theorem agg112 : aggT Try.prog 112 = some true := by kernel_rfl
@[go_sem] theorem cells112 : Try.prog.cellsOf 112 = 4 := by kernel_rfl
@[go_sem] theorem bytes112 : Try.prog.bytesOf 112 = 40 := by kernel_rfl
@[go_sem] theorem zero112 : zeroC Try.prog 112 = some [.pointer none, .pointer none, .pointer none, .string ⟨#[]⟩] := by kernel_rfl
@[go_sem] theorem fld112_0 : fld Try.prog 112 0 = some (0, 17) := by kernel_rfl
@[go_sem] theorem fld112_1 : fld Try.prog 112 1 = some (1, 17) := by kernel_rfl
@[go_sem] theorem fld112_2 : fld Try.prog 112 2 = some (2, 17) := by kernel_rfl
@[go_sem] theorem fld112_3 : fld Try.prog 112 3 = some (3, 9) := by kernel_rfl
@[go_sem] theorem lay112 : layOf Try.prog 112 = some [(0, 1), (1, 1), (2, 1), (3, 1)] := by kernel_rfl
@[go_sem] theorem sized112 : sized Try.prog 112 = true := by kernel_rfl
attribute [go_sem] Try.underlying113
@[go_sem] theorem agg113 : aggT Try.prog 113 = some true := by kernel_rfl
@[go_sem] theorem cells113 : Try.prog.cellsOf 113 = 0 := by kernel_rfl
@[go_sem] theorem bytes113 : Try.prog.bytesOf 113 = 0 := by kernel_rfl
@[go_sem] theorem lay113 : layOf Try.prog 113 = none := by kernel_rfl
@[go_sem] theorem arr113 : arrOf Try.prog 113 = some 1 := by kernel_rfl
@[go_sem] theorem parts113 : eqParts Try.prog 113 = some [] := by kernel_rfl
@[go_sem] theorem eqg113 : Try.prog.eqGuardType Try.prog.depth 113 = false := by kernel_rfl
@[go_sem] theorem zero113 : zeroC Try.prog 113 = some [] := by kernel_rfl
@[go_sem] theorem agg114 : aggT Try.prog 114 = some true := by kernel_rfl
@[go_sem] theorem cells114 : Try.prog.cellsOf 114 = 0 := by kernel_rfl
@[go_sem] theorem bytes114 : Try.prog.bytesOf 114 = 0 := by kernel_rfl
@[go_sem] theorem zero114 : zeroC Try.prog 114 = some [] := by kernel_rfl
@[go_sem] theorem fld114_0 : fld Try.prog 114 0 = some (0, 113) := by kernel_rfl
@[go_sem] theorem lay114 : layOf Try.prog 114 = some [(0, 0)] := by kernel_rfl
@[go_sem] theorem sized114 : sized Try.prog 114 = true := by kernel_rfl
@[go_sem] theorem agg115 : aggT Try.prog 115 = some true := by kernel_rfl
@[go_sem] theorem cells115 : Try.prog.cellsOf 115 = 0 := by kernel_rfl
@[go_sem] theorem bytes115 : Try.prog.bytesOf 115 = 0 := by kernel_rfl
@[go_sem] theorem zero115 : zeroC Try.prog 115 = some [] := by kernel_rfl
@[go_sem] theorem fld115_0 : fld Try.prog 115 0 = some (0, 113) := by kernel_rfl
@[go_sem] theorem lay115 : layOf Try.prog 115 = some [(0, 0)] := by kernel_rfl
@[go_sem] theorem sized115 : sized Try.prog 115 = true := by kernel_rfl
attribute [go_sem] Try.underlying116
@[go_sem] theorem agg116 : aggT Try.prog 116 = some false := by kernel_rfl
@[go_sem] theorem cells116 : Try.prog.cellsOf 116 = 1 := by kernel_rfl
@[go_sem] theorem bytes116 : Try.prog.bytesOf 116 = 4 := by kernel_rfl
@[go_sem] theorem parts116 : eqParts Try.prog 116 = none := by kernel_rfl
@[go_sem] theorem zeroV116 : zero1 Try.prog 116 = some (.int .u32 0) := by kernel_rfl
@[go_sem] theorem zero116 : zeroC Try.prog 116 = some [.int .u32 0] := by kernel_rfl
attribute [go_sem] Try.underlying117
@[go_sem] theorem agg117 : aggT Try.prog 117 = some false := by kernel_rfl
@[go_sem] theorem cells117 : Try.prog.cellsOf 117 = 1 := by kernel_rfl
@[go_sem] theorem bytes117 : Try.prog.bytesOf 117 = 1 := by kernel_rfl
@[go_sem] theorem parts117 : eqParts Try.prog 117 = none := by kernel_rfl
@[go_sem] theorem zeroV117 : zero1 Try.prog 117 = some (.int .u8 0) := by kernel_rfl
@[go_sem] theorem zero117 : zeroC Try.prog 117 = some [.int .u8 0] := by kernel_rfl
attribute [go_sem] Try.underlying118
@[go_sem] theorem agg118 : aggT Try.prog 118 = some false := by kernel_rfl
@[go_sem] theorem cells118 : Try.prog.cellsOf 118 = 1 := by kernel_rfl
@[go_sem] theorem bytes118 : Try.prog.bytesOf 118 = 1 := by kernel_rfl
@[go_sem] theorem parts118 : eqParts Try.prog 118 = none := by kernel_rfl
@[go_sem] theorem zeroV118 : zero1 Try.prog 118 = some (.int .u8 0) := by kernel_rfl
@[go_sem] theorem zero118 : zeroC Try.prog 118 = some [.int .u8 0] := by kernel_rfl
attribute [go_sem] Try.underlying120
@[go_sem] theorem agg120 : aggT Try.prog 120 = some false := by kernel_rfl
@[go_sem] theorem cells120 : Try.prog.cellsOf 120 = 1 := by kernel_rfl
@[go_sem] theorem bytes120 : Try.prog.bytesOf 120 = 8 := by kernel_rfl
@[go_sem] theorem parts120 : eqParts Try.prog 120 = none := by kernel_rfl
@[go_sem] theorem zeroV120 : zero1 Try.prog 120 = some (.pointer none) := by kernel_rfl
@[go_sem] theorem zero120 : zeroC Try.prog 120 = some [.pointer none] := by kernel_rfl
attribute [go_sem] Try.underlying121
@[go_sem] theorem agg121 : aggT Try.prog 121 = some false := by kernel_rfl
@[go_sem] theorem cells121 : Try.prog.cellsOf 121 = 1 := by kernel_rfl
@[go_sem] theorem bytes121 : Try.prog.bytesOf 121 = 4 := by kernel_rfl
@[go_sem] theorem parts121 : eqParts Try.prog 121 = none := by kernel_rfl
@[go_sem] theorem zeroV121 : zero1 Try.prog 121 = some (.int .i32 0) := by kernel_rfl
@[go_sem] theorem zero121 : zeroC Try.prog 121 = some [.int .i32 0] := by kernel_rfl
attribute [go_sem] Try.underlying122
@[go_sem] theorem agg122 : aggT Try.prog 122 = some false := by kernel_rfl
@[go_sem] theorem cells122 : Try.prog.cellsOf 122 = 1 := by kernel_rfl
@[go_sem] theorem bytes122 : Try.prog.bytesOf 122 = 4 := by kernel_rfl
@[go_sem] theorem parts122 : eqParts Try.prog 122 = none := by kernel_rfl
@[go_sem] theorem zeroV122 : zero1 Try.prog 122 = some (.int .i32 0) := by kernel_rfl
@[go_sem] theorem zero122 : zeroC Try.prog 122 = some [.int .i32 0] := by kernel_rfl
@[go_sem] theorem agg123 : aggT Try.prog 123 = some true := by kernel_rfl
@[go_sem] theorem cells123 : Try.prog.cellsOf 123 = 11 := by kernel_rfl
@[go_sem] theorem bytes123 : Try.prog.bytesOf 123 = 48 := by kernel_rfl
@[go_sem] theorem zero123 : zeroC Try.prog 123 = some [.int .u64 0, .int .u64 0, .int .u32 0, .int .u8 0, .int .u8 0, .int .u8 0, .int .u8 0, .nilFunc, .pointer none, .int .i32 0, .int .i32 0] := by kernel_rfl
@[go_sem] theorem fld123_0 : fld Try.prog 123 0 = some (0, 12) := by kernel_rfl
@[go_sem] theorem fld123_1 : fld Try.prog 123 1 = some (1, 12) := by kernel_rfl
@[go_sem] theorem fld123_2 : fld Try.prog 123 2 = some (2, 116) := by kernel_rfl
@[go_sem] theorem fld123_3 : fld Try.prog 123 3 = some (3, 117) := by kernel_rfl
@[go_sem] theorem fld123_4 : fld Try.prog 123 4 = some (4, 5) := by kernel_rfl
@[go_sem] theorem fld123_5 : fld Try.prog 123 5 = some (5, 5) := by kernel_rfl
@[go_sem] theorem fld123_6 : fld Try.prog 123 6 = some (6, 118) := by kernel_rfl
@[go_sem] theorem fld123_7 : fld Try.prog 123 7 = some (7, 119) := by kernel_rfl
@[go_sem] theorem fld123_8 : fld Try.prog 123 8 = some (8, 120) := by kernel_rfl
@[go_sem] theorem fld123_9 : fld Try.prog 123 9 = some (9, 121) := by kernel_rfl
@[go_sem] theorem fld123_10 : fld Try.prog 123 10 = some (10, 122) := by kernel_rfl
@[go_sem] theorem lay123 : layOf Try.prog 123 = some [(0, 1), (1, 1), (2, 1), (3, 1), (4, 1), (5, 1), (6, 1), (7, 1), (8, 1), (9, 1), (10, 1)] := by kernel_rfl
@[go_sem] theorem sized123 : sized Try.prog 123 = true := by kernel_rfl
@[go_sem] theorem agg124 : aggT Try.prog 124 = some true := by kernel_rfl
@[go_sem] theorem cells124 : Try.prog.cellsOf 124 = 11 := by kernel_rfl
@[go_sem] theorem bytes124 : Try.prog.bytesOf 124 = 48 := by kernel_rfl
@[go_sem] theorem zero124 : zeroC Try.prog 124 = some [.int .u64 0, .int .u64 0, .int .u32 0, .int .u8 0, .int .u8 0, .int .u8 0, .int .u8 0, .nilFunc, .pointer none, .int .i32 0, .int .i32 0] := by kernel_rfl
@[go_sem] theorem fld124_0 : fld Try.prog 124 0 = some (0, 12) := by kernel_rfl
@[go_sem] theorem fld124_1 : fld Try.prog 124 1 = some (1, 12) := by kernel_rfl
@[go_sem] theorem fld124_2 : fld Try.prog 124 2 = some (2, 116) := by kernel_rfl
@[go_sem] theorem fld124_3 : fld Try.prog 124 3 = some (3, 117) := by kernel_rfl
@[go_sem] theorem fld124_4 : fld Try.prog 124 4 = some (4, 5) := by kernel_rfl
@[go_sem] theorem fld124_5 : fld Try.prog 124 5 = some (5, 5) := by kernel_rfl
@[go_sem] theorem fld124_6 : fld Try.prog 124 6 = some (6, 118) := by kernel_rfl
@[go_sem] theorem fld124_7 : fld Try.prog 124 7 = some (7, 119) := by kernel_rfl
@[go_sem] theorem fld124_8 : fld Try.prog 124 8 = some (8, 120) := by kernel_rfl
@[go_sem] theorem fld124_9 : fld Try.prog 124 9 = some (9, 121) := by kernel_rfl
@[go_sem] theorem fld124_10 : fld Try.prog 124 10 = some (10, 122) := by kernel_rfl
@[go_sem] theorem lay124 : layOf Try.prog 124 = some [(0, 1), (1, 1), (2, 1), (3, 1), (4, 1), (5, 1), (6, 1), (7, 1), (8, 1), (9, 1), (10, 1)] := by kernel_rfl
@[go_sem] theorem sized124 : sized Try.prog 124 = true := by kernel_rfl
attribute [go_sem] Try.underlying125
@[go_sem] theorem agg125 : aggT Try.prog 125 = some false := by kernel_rfl
@[go_sem] theorem cells125 : Try.prog.cellsOf 125 = 1 := by kernel_rfl
@[go_sem] theorem bytes125 : Try.prog.bytesOf 125 = 8 := by kernel_rfl
@[go_sem] theorem parts125 : eqParts Try.prog 125 = none := by kernel_rfl
@[go_sem] theorem zeroV125 : zero1 Try.prog 125 = some (.pointer none) := by kernel_rfl
@[go_sem] theorem zero125 : zeroC Try.prog 125 = some [.pointer none] := by kernel_rfl
end Go.Proofs.Ytpbccamaipekjaa
