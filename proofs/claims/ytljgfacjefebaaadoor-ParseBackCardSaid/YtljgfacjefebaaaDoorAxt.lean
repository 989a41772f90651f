/-
  Closed facts on the types of this seat's program.
-/
import Derived.Test.YtljgfacjefebaaaDoorAxf
import Derived.Test.YtljgfacjefebaaaDoorChecked
import Derived.KernelRfl
namespace Go.Proofs.YtljgfacjefebaaaDoor
open Go
theorem mixed : Tryd.prog.follows .mixedOrders = true := by kernel_rfl
attribute [go_sem] Tryd.underlying2
@[go_sem] theorem agg2 : aggT Tryd.prog 2 = some false := by kernel_rfl
@[go_sem] theorem cells2 : Tryd.prog.cellsOf 2 = 1 := by kernel_rfl
@[go_sem] theorem bytes2 : Tryd.prog.bytesOf 2 = 8 := by kernel_rfl
@[go_sem] theorem parts2 : eqParts Tryd.prog 2 = none := by kernel_rfl
@[go_sem] theorem zeroV2 : zero1 Tryd.prog 2 = some (.int .i64 0) := by kernel_rfl
@[go_sem] theorem zero2 : zeroC Tryd.prog 2 = some [.int .i64 0] := by kernel_rfl
attribute [go_sem] Tryd.underlying3
@[go_sem] theorem agg3 : aggT Tryd.prog 3 = some false := by kernel_rfl
@[go_sem] theorem cells3 : Tryd.prog.cellsOf 3 = 1 := by kernel_rfl
@[go_sem] theorem bytes3 : Tryd.prog.bytesOf 3 = 8 := by kernel_rfl
@[go_sem] theorem parts3 : eqParts Tryd.prog 3 = none := by kernel_rfl
@[go_sem] theorem zeroV3 : zero1 Tryd.prog 3 = some (.int .i64 0) := by kernel_rfl
@[go_sem] theorem zero3 : zeroC Tryd.prog 3 = some [.int .i64 0] := by kernel_rfl
attribute [go_sem] Tryd.underlying4
@[go_sem] theorem agg4 : aggT Tryd.prog 4 = some false := by kernel_rfl
@[go_sem] theorem cells4 : Tryd.prog.cellsOf 4 = 1 := by kernel_rfl
@[go_sem] theorem bytes4 : Tryd.prog.bytesOf 4 = 1 := by kernel_rfl
@[go_sem] theorem parts4 : eqParts Tryd.prog 4 = none := by kernel_rfl
@[go_sem] theorem zeroV4 : zero1 Tryd.prog 4 = some (.bool false) := by kernel_rfl
@[go_sem] theorem zero4 : zeroC Tryd.prog 4 = some [.bool false] := by kernel_rfl
attribute [go_sem] Tryd.underlying5
@[go_sem] theorem agg5 : aggT Tryd.prog 5 = some false := by kernel_rfl
@[go_sem] theorem cells5 : Tryd.prog.cellsOf 5 = 1 := by kernel_rfl
@[go_sem] theorem bytes5 : Tryd.prog.bytesOf 5 = 1 := by kernel_rfl
@[go_sem] theorem parts5 : eqParts Tryd.prog 5 = none := by kernel_rfl
@[go_sem] theorem zeroV5 : zero1 Tryd.prog 5 = some (.int .u8 0) := by kernel_rfl
@[go_sem] theorem zero5 : zeroC Tryd.prog 5 = some [.int .u8 0] := by kernel_rfl
attribute [go_sem] Tryd.underlying6
@[go_sem] theorem agg6 : aggT Tryd.prog 6 = some false := by kernel_rfl
@[go_sem] theorem cells6 : Tryd.prog.cellsOf 6 = 1 := by kernel_rfl
@[go_sem] theorem bytes6 : Tryd.prog.bytesOf 6 = 1 := by kernel_rfl
@[go_sem] theorem parts6 : eqParts Tryd.prog 6 = none := by kernel_rfl
@[go_sem] theorem zeroV6 : zero1 Tryd.prog 6 = some (.int .u8 0) := by kernel_rfl
@[go_sem] theorem zero6 : zeroC Tryd.prog 6 = some [.int .u8 0] := by kernel_rfl
@[go_sem] theorem agg7 : aggT Tryd.prog 7 = some true := by kernel_rfl
@[go_sem] theorem cells7 : Tryd.prog.cellsOf 7 = 4 := by kernel_rfl
@[go_sem] theorem bytes7 : Tryd.prog.bytesOf 7 = 24 := by kernel_rfl
@[go_sem] theorem zero7 : zeroC Tryd.prog 7 = some [.int .i64 0, .int .i64 0, .bool false, .int .u8 0] := by kernel_rfl
@[go_sem] theorem fld7_0 : fld Tryd.prog 7 0 = some (0, 2) := by kernel_rfl
@[go_sem] theorem fld7_1 : fld Tryd.prog 7 1 = some (1, 3) := by kernel_rfl
@[go_sem] theorem fld7_2 : fld Tryd.prog 7 2 = some (2, 4) := by kernel_rfl
@[go_sem] theorem fld7_3 : fld Tryd.prog 7 3 = some (3, 6) := by kernel_rfl
@[go_sem] theorem lay7 : layOf Tryd.prog 7 = some [(0, 1), (1, 1), (2, 1), (3, 1)] := by kernel_rfl
@[go_sem] theorem sized7 : sized Tryd.prog 7 = true := by kernel_rfl
@[go_sem] theorem agg8 : aggT Tryd.prog 8 = some true := by kernel_rfl
@[go_sem] theorem cells8 : Tryd.prog.cellsOf 8 = 4 := by kernel_rfl
@[go_sem] theorem bytes8 : Tryd.prog.bytesOf 8 = 24 := by kernel_rfl
@[go_sem] theorem zero8 : zeroC Tryd.prog 8 = some [.int .i64 0, .int .i64 0, .bool false, .int .u8 0] := by kernel_rfl
@[go_sem] theorem fld8_0 : fld Tryd.prog 8 0 = some (0, 2) := by kernel_rfl
@[go_sem] theorem fld8_1 : fld Tryd.prog 8 1 = some (1, 3) := by kernel_rfl
@[go_sem] theorem fld8_2 : fld Tryd.prog 8 2 = some (2, 4) := by kernel_rfl
@[go_sem] theorem fld8_3 : fld Tryd.prog 8 3 = some (3, 6) := by kernel_rfl
@[go_sem] theorem lay8 : layOf Tryd.prog 8 = some [(0, 1), (1, 1), (2, 1), (3, 1)] := by kernel_rfl
@[go_sem] theorem sized8 : sized Tryd.prog 8 = true := by kernel_rfl
attribute [go_sem] Tryd.underlying9
@[go_sem] theorem agg9 : aggT Tryd.prog 9 = some false := by kernel_rfl
@[go_sem] theorem cells9 : Tryd.prog.cellsOf 9 = 1 := by kernel_rfl
@[go_sem] theorem bytes9 : Tryd.prog.bytesOf 9 = 16 := by kernel_rfl
@[go_sem] theorem parts9 : eqParts Tryd.prog 9 = none := by kernel_rfl
@[go_sem] theorem zeroV9 : zero1 Tryd.prog 9 = some (.string ⟨#[]⟩) := by kernel_rfl
@[go_sem] theorem zero9 : zeroC Tryd.prog 9 = some [.string ⟨#[]⟩] := by kernel_rfl
attribute [go_sem] Tryd.underlying10
@[go_sem] theorem agg10 : aggT Tryd.prog 10 = some false := by kernel_rfl
@[go_sem] theorem cells10 : Tryd.prog.cellsOf 10 = 1 := by kernel_rfl
@[go_sem] theorem bytes10 : Tryd.prog.bytesOf 10 = 16 := by kernel_rfl
@[go_sem] theorem parts10 : eqParts Tryd.prog 10 = none := by kernel_rfl
@[go_sem] theorem zeroV10 : zero1 Tryd.prog 10 = some (.string ⟨#[]⟩) := by kernel_rfl
@[go_sem] theorem zero10 : zeroC Tryd.prog 10 = some [.string ⟨#[]⟩] := by kernel_rfl
attribute [go_sem] Tryd.underlying11
@[go_sem] theorem agg11 : aggT Tryd.prog 11 = some false := by kernel_rfl
@[go_sem] theorem cells11 : Tryd.prog.cellsOf 11 = 1 := by kernel_rfl
@[go_sem] theorem bytes11 : Tryd.prog.bytesOf 11 = 16 := by kernel_rfl
@[go_sem] theorem parts11 : eqParts Tryd.prog 11 = none := by kernel_rfl
@[go_sem] theorem zeroV11 : zero1 Tryd.prog 11 = some (.string ⟨#[]⟩) := by kernel_rfl
@[go_sem] theorem zero11 : zeroC Tryd.prog 11 = some [.string ⟨#[]⟩] := by kernel_rfl
attribute [go_sem] Tryd.underlying12
@[go_sem] theorem agg12 : aggT Tryd.prog 12 = some false := by kernel_rfl
@[go_sem] theorem cells12 : Tryd.prog.cellsOf 12 = 1 := by kernel_rfl
@[go_sem] theorem bytes12 : Tryd.prog.bytesOf 12 = 8 := by kernel_rfl
@[go_sem] theorem parts12 : eqParts Tryd.prog 12 = none := by kernel_rfl
@[go_sem] theorem zeroV12 : zero1 Tryd.prog 12 = some (.int .u64 0) := by kernel_rfl
@[go_sem] theorem zero12 : zeroC Tryd.prog 12 = some [.int .u64 0] := by kernel_rfl
@[go_sem] theorem agg13 : aggT Tryd.prog 13 = some true := by kernel_rfl
@[go_sem] theorem cells13 : Tryd.prog.cellsOf 13 = 2 := by kernel_rfl
@[go_sem] theorem bytes13 : Tryd.prog.bytesOf 13 = 24 := by kernel_rfl
@[go_sem] theorem zero13 : zeroC Tryd.prog 13 = some [.string ⟨#[]⟩, .int .u64 0] := by kernel_rfl
@[go_sem] theorem fld13_0 : fld Tryd.prog 13 0 = some (0, 9) := by kernel_rfl
@[go_sem] theorem fld13_1 : fld Tryd.prog 13 1 = some (1, 12) := by kernel_rfl
@[go_sem] theorem lay13 : layOf Tryd.prog 13 = some [(0, 1), (1, 1)] := by kernel_rfl
@[go_sem] theorem sized13 : sized Tryd.prog 13 = true := by kernel_rfl
@[go_sem] theorem agg14 : aggT Tryd.prog 14 = some true := by kernel_rfl
@[go_sem] theorem cells14 : Tryd.prog.cellsOf 14 = 2 := by kernel_rfl
@[go_sem] theorem bytes14 : Tryd.prog.bytesOf 14 = 24 := by kernel_rfl
@[go_sem] theorem zero14 : zeroC Tryd.prog 14 = some [.string ⟨#[]⟩, .int .u64 0] := by kernel_rfl
@[go_sem] theorem fld14_0 : fld Tryd.prog 14 0 = some (0, 9) := by kernel_rfl
@[go_sem] theorem fld14_1 : fld Tryd.prog 14 1 = some (1, 12) := by kernel_rfl
@[go_sem] theorem lay14 : layOf Tryd.prog 14 = some [(0, 1), (1, 1)] := by kernel_rfl
@[go_sem] theorem sized14 : sized Tryd.prog 14 = true := by kernel_rfl
attribute [go_sem] Tryd.underlying15
@[go_sem] theorem agg15 : aggT Tryd.prog 15 = some false := by kernel_rfl
@[go_sem] theorem cells15 : Tryd.prog.cellsOf 15 = 1 := by kernel_rfl
@[go_sem] theorem bytes15 : Tryd.prog.bytesOf 15 = 8 := by kernel_rfl
@[go_sem] theorem parts15 : eqParts Tryd.prog 15 = none := by kernel_rfl
@[go_sem] theorem zeroV15 : zero1 Tryd.prog 15 = some (.pointer none) := by kernel_rfl
@[go_sem] theorem zero15 : zeroC Tryd.prog 15 = some [.pointer none] := by kernel_rfl
attribute [go_sem] Tryd.underlying16
@[go_sem] theorem agg16 : aggT Tryd.prog 16 = some false := by kernel_rfl
@[go_sem] theorem cells16 : Tryd.prog.cellsOf 16 = 1 := by kernel_rfl
@[go_sem] theorem bytes16 : Tryd.prog.bytesOf 16 = 8 := by kernel_rfl
@[go_sem] theorem parts16 : eqParts Tryd.prog 16 = none := by kernel_rfl
@[go_sem] theorem zeroV16 : zero1 Tryd.prog 16 = some (.pointer none) := by kernel_rfl
@[go_sem] theorem zero16 : zeroC Tryd.prog 16 = some [.pointer none] := by kernel_rfl
attribute [go_sem] Tryd.underlying17
@[go_sem] theorem agg17 : aggT Tryd.prog 17 = some false := by kernel_rfl
@[go_sem] theorem cells17 : Tryd.prog.cellsOf 17 = 1 := by kernel_rfl
@[go_sem] theorem bytes17 : Tryd.prog.bytesOf 17 = 8 := by kernel_rfl
@[go_sem] theorem parts17 : eqParts Tryd.prog 17 = none := by kernel_rfl
@[go_sem] theorem zeroV17 : zero1 Tryd.prog 17 = some (.pointer none) := by kernel_rfl
@[go_sem] theorem zero17 : zeroC Tryd.prog 17 = some [.pointer none] := by kernel_rfl
@[go_sem] theorem agg18 : aggT Tryd.prog 18 = some true := by kernel_rfl
@[go_sem] theorem cells18 : Tryd.prog.cellsOf 18 = 1 := by kernel_rfl
@[go_sem] theorem bytes18 : Tryd.prog.bytesOf 18 = 8 := by kernel_rfl
@[go_sem] theorem zero18 : zeroC Tryd.prog 18 = some [.pointer none] := by kernel_rfl
@[go_sem] theorem fld18_0 : fld Tryd.prog 18 0 = some (0, 17) := by kernel_rfl
@[go_sem] theorem lay18 : layOf Tryd.prog 18 = some [(0, 1)] := by kernel_rfl
@[go_sem] theorem sized18 : sized Tryd.prog 18 = true := by kernel_rfl
@[go_sem] theorem agg19 : aggT Tryd.prog 19 = some true := by kernel_rfl
@[go_sem] theorem cells19 : Tryd.prog.cellsOf 19 = 1 := by kernel_rfl
@[go_sem] theorem bytes19 : Tryd.prog.bytesOf 19 = 8 := by kernel_rfl
@[go_sem] theorem zero19 : zeroC Tryd.prog 19 = some [.pointer none] := by kernel_rfl
@[go_sem] theorem fld19_0 : fld Tryd.prog 19 0 = some (0, 17) := by kernel_rfl
@[go_sem] theorem lay19 : layOf Tryd.prog 19 = some [(0, 1)] := by kernel_rfl
@[go_sem] theorem sized19 : sized Tryd.prog 19 = true := by kernel_rfl
@[go_sem] theorem agg20 : aggT Tryd.prog 20 = some false := by kernel_rfl
@[go_sem] theorem cells20 : Tryd.prog.cellsOf 20 = 1 := by kernel_rfl
@[go_sem] theorem bytes20 : Tryd.prog.bytesOf 20 = 16 := by kernel_rfl
@[go_sem] theorem parts20 : eqParts Tryd.prog 20 = none := by kernel_rfl
@[go_sem] theorem zeroV20 : zero1 Tryd.prog 20 = some (.nilIface) := by kernel_rfl
@[go_sem] theorem zero20 : zeroC Tryd.prog 20 = some [.nilIface] := by kernel_rfl
attribute [go_sem] Tryd.underlying21
@[go_sem] theorem agg21 : aggT Tryd.prog 21 = some false := by kernel_rfl
@[go_sem] theorem cells21 : Tryd.prog.cellsOf 21 = 1 := by kernel_rfl
@[go_sem] theorem bytes21 : Tryd.prog.bytesOf 21 = 4 := by kernel_rfl
@[go_sem] theorem parts21 : eqParts Tryd.prog 21 = none := by kernel_rfl
@[go_sem] theorem zeroV21 : zero1 Tryd.prog 21 = some (.int .i32 0) := by kernel_rfl
@[go_sem] theorem zero21 : zeroC Tryd.prog 21 = some [.int .i32 0] := by kernel_rfl
attribute [go_sem] Tryd.underlying22
@[go_sem] theorem agg22 : aggT Tryd.prog 22 = some false := by kernel_rfl
@[go_sem] theorem cells22 : Tryd.prog.cellsOf 22 = 1 := by kernel_rfl
@[go_sem] theorem bytes22 : Tryd.prog.bytesOf 22 = 24 := by kernel_rfl
@[go_sem] theorem parts22 : eqParts Tryd.prog 22 = none := by kernel_rfl
@[go_sem] theorem zeroV22 : zero1 Tryd.prog 22 = some (.slice none 0 0) := by kernel_rfl
@[go_sem] theorem zero22 : zeroC Tryd.prog 22 = some [.slice none 0 0] := by kernel_rfl
attribute [go_sem] Tryd.underlying25
@[go_sem] theorem agg25 : aggT Tryd.prog 25 = some false := by kernel_rfl
@[go_sem] theorem cells25 : Tryd.prog.cellsOf 25 = 1 := by kernel_rfl
@[go_sem] theorem bytes25 : Tryd.prog.bytesOf 25 = 24 := by kernel_rfl
@[go_sem] theorem parts25 : eqParts Tryd.prog 25 = none := by kernel_rfl
@[go_sem] theorem zeroV25 : zero1 Tryd.prog 25 = some (.slice none 0 0) := by kernel_rfl
@[go_sem] theorem zero25 : zeroC Tryd.prog 25 = some [.slice none 0 0] := by kernel_rfl
attribute [go_sem] Tryd.underlying26
@[go_sem] theorem agg26 : aggT Tryd.prog 26 = some false := by kernel_rfl
@[go_sem] theorem cells26 : Tryd.prog.cellsOf 26 = 1 := by kernel_rfl
@[go_sem] theorem bytes26 : Tryd.prog.bytesOf 26 = 24 := by kernel_rfl
@[go_sem] theorem parts26 : eqParts Tryd.prog 26 = none := by kernel_rfl
@[go_sem] theorem zeroV26 : zero1 Tryd.prog 26 = some (.slice none 0 0) := by kernel_rfl
@[go_sem] theorem zero26 : zeroC Tryd.prog 26 = some [.slice none 0 0] := by kernel_rfl
@[go_sem] theorem agg36 : aggT Tryd.prog 36 = some true := by kernel_rfl
@[go_sem] theorem cells36 : Tryd.prog.cellsOf 36 = 3 := by kernel_rfl
@[go_sem] theorem bytes36 : Tryd.prog.bytesOf 36 = 24 := by kernel_rfl
@[go_sem] theorem parts36 : eqParts Tryd.prog 36 = some [(0, 5), (1, 4), (2, 9)] := by kernel_rfl
@[go_sem] theorem eqg36 : Tryd.prog.eqGuardType Tryd.prog.depth 36 = false := by kernel_rfl
@[go_sem] theorem zero36 : zeroC Tryd.prog 36 = some [.int .u8 0, .bool false, .string ⟨#[]⟩] := by kernel_rfl
@[go_sem] theorem fld36_0 : fld Tryd.prog 36 0 = some (0, 5) := by kernel_rfl
@[go_sem] theorem fld36_1 : fld Tryd.prog 36 1 = some (1, 4) := by kernel_rfl
@[go_sem] theorem fld36_2 : fld Tryd.prog 36 2 = some (2, 9) := by kernel_rfl
@[go_sem] theorem lay36 : layOf Tryd.prog 36 = some [(0, 1), (1, 1), (2, 1)] := by kernel_rfl
@[go_sem] theorem sized36 : sized Tryd.prog 36 = true := by kernel_rfl
@[go_sem] theorem agg37 : aggT Tryd.prog 37 = some true := by kernel_rfl
@[go_sem] theorem cells37 : Tryd.prog.cellsOf 37 = 3 := by kernel_rfl
@[go_sem] theorem bytes37 : Tryd.prog.bytesOf 37 = 24 := by kernel_rfl
@[go_sem] theorem parts37 : eqParts Tryd.prog 37 = some [(0, 5), (1, 4), (2, 9)] := by kernel_rfl
@[go_sem] theorem eqg37 : Tryd.prog.eqGuardType Tryd.prog.depth 37 = false := by kernel_rfl
@[go_sem] theorem zero37 : zeroC Tryd.prog 37 = some [.int .u8 0, .bool false, .string ⟨#[]⟩] := by kernel_rfl
@[go_sem] theorem fld37_0 : fld Tryd.prog 37 0 = some (0, 5) := by kernel_rfl
@[go_sem] theorem fld37_1 : fld Tryd.prog 37 1 = some (1, 4) := by kernel_rfl
@[go_sem] theorem fld37_2 : fld Tryd.prog 37 2 = some (2, 9) := by kernel_rfl
@[go_sem] theorem lay37 : layOf Tryd.prog 37 = some [(0, 1), (1, 1), (2, 1)] := by kernel_rfl
@[go_sem] theorem sized37 : sized Tryd.prog 37 = true := by kernel_rfl
attribute [go_sem] Tryd.underlying39
@[go_sem] theorem agg39 : aggT Tryd.prog 39 = some false := by kernel_rfl
@[go_sem] theorem cells39 : Tryd.prog.cellsOf 39 = 1 := by kernel_rfl
@[go_sem] theorem bytes39 : Tryd.prog.bytesOf 39 = 8 := by kernel_rfl
@[go_sem] theorem parts39 : eqParts Tryd.prog 39 = none := by kernel_rfl
@[go_sem] theorem zeroV39 : zero1 Tryd.prog 39 = some (.int .i64 0) := by kernel_rfl
@[go_sem] theorem zero39 : zeroC Tryd.prog 39 = some [.int .i64 0] := by kernel_rfl
@[go_sem] theorem agg42 : aggT Tryd.prog 42 = some true := by kernel_rfl
@[go_sem] theorem cells42 : Tryd.prog.cellsOf 42 = 3 := by kernel_rfl
@[go_sem] theorem bytes42 : Tryd.prog.bytesOf 42 = 24 := by kernel_rfl
@[go_sem] theorem parts42 : eqParts Tryd.prog 42 = some [(0, 5), (1, 4), (2, 9)] := by kernel_rfl
@[go_sem] theorem eqg42 : Tryd.prog.eqGuardType Tryd.prog.depth 42 = false := by kernel_rfl
@[go_sem] theorem zero42 : zeroC Tryd.prog 42 = some [.int .u8 0, .bool false, .string ⟨#[]⟩] := by kernel_rfl
@[go_sem] theorem fld42_0 : fld Tryd.prog 42 0 = some (0, 5) := by kernel_rfl
@[go_sem] theorem fld42_1 : fld Tryd.prog 42 1 = some (1, 4) := by kernel_rfl
@[go_sem] theorem fld42_2 : fld Tryd.prog 42 2 = some (2, 9) := by kernel_rfl
@[go_sem] theorem lay42 : layOf Tryd.prog 42 = some [(0, 1), (1, 1), (2, 1)] := by kernel_rfl
@[go_sem] theorem sized42 : sized Tryd.prog 42 = true := by kernel_rfl
attribute [go_sem] Tryd.underlying56
@[go_sem] theorem agg56 : aggT Tryd.prog 56 = some false := by kernel_rfl
@[go_sem] theorem cells56 : Tryd.prog.cellsOf 56 = 1 := by kernel_rfl
@[go_sem] theorem bytes56 : Tryd.prog.bytesOf 56 = 8 := by kernel_rfl
@[go_sem] theorem parts56 : eqParts Tryd.prog 56 = none := by kernel_rfl
@[go_sem] theorem zeroV56 : zero1 Tryd.prog 56 = some (.int .u64 0) := by kernel_rfl
@[go_sem] theorem zero56 : zeroC Tryd.prog 56 = some [.int .u64 0] := by kernel_rfl
@[go_sem] theorem agg61 : aggT Tryd.prog 61 = some true := by kernel_rfl
@[go_sem] theorem cells61 : Tryd.prog.cellsOf 61 = 9 := by kernel_rfl
@[go_sem] theorem bytes61 : Tryd.prog.bytesOf 61 = 128 := by kernel_rfl
@[go_sem] theorem parts61 : eqParts Tryd.prog 61 = some [(0, 9), (1, 9), (2, 9), (3, 4), (4, 9), (5, 9), (6, 9), (7, 9), (8, 4)] := by kernel_rfl
@[go_sem] theorem eqg61 : Tryd.prog.eqGuardType Tryd.prog.depth 61 = false := by kernel_rfl
@[go_sem] theorem zero61 : zeroC Tryd.prog 61 = some [.string ⟨#[]⟩, .string ⟨#[]⟩, .string ⟨#[]⟩, .bool false, .string ⟨#[]⟩, .string ⟨#[]⟩, .string ⟨#[]⟩, .string ⟨#[]⟩, .bool false] := by kernel_rfl
@[go_sem] theorem fld61_0 : fld Tryd.prog 61 0 = some (0, 9) := by kernel_rfl
@[go_sem] theorem fld61_1 : fld Tryd.prog 61 1 = some (1, 9) := by kernel_rfl
@[go_sem] theorem fld61_2 : fld Tryd.prog 61 2 = some (2, 9) := by kernel_rfl
@[go_sem] theorem fld61_3 : fld Tryd.prog 61 3 = some (3, 4) := by kernel_rfl
@[go_sem] theorem fld61_4 : fld Tryd.prog 61 4 = some (4, 9) := by kernel_rfl
@[go_sem] theorem fld61_5 : fld Tryd.prog 61 5 = some (5, 9) := by kernel_rfl
@[go_sem] theorem fld61_6 : fld Tryd.prog 61 6 = some (6, 9) := by kernel_rfl
@[go_sem] theorem fld61_7 : fld Tryd.prog 61 7 = some (7, 9) := by kernel_rfl
@[go_sem] theorem fld61_8 : fld Tryd.prog 61 8 = some (8, 4) := by kernel_rfl
@[go_sem] theorem lay61 : layOf Tryd.prog 61 = some [(0, 1), (1, 1), (2, 1), (3, 1), (4, 1), (5, 1), (6, 1), (7, 1), (8, 1)] := by kernel_rfl
@[go_sem] theorem sized61 : sized Tryd.prog 61 = true := by kernel_rfl
@[go_sem] theorem agg62 : aggT Tryd.prog 62 = some true := by kernel_rfl
@[go_sem] theorem cells62 : Tryd.prog.cellsOf 62 = 9 := by kernel_rfl
@[go_sem] theorem bytes62 : Tryd.prog.bytesOf 62 = 128 := by kernel_rfl
@[go_sem] theorem parts62 : eqParts Tryd.prog 62 = some [(0, 9), (1, 9), (2, 9), (3, 4), (4, 9), (5, 9), (6, 9), (7, 9), (8, 4)] := by kernel_rfl
@[go_sem] theorem eqg62 : Tryd.prog.eqGuardType Tryd.prog.depth 62 = false := by kernel_rfl
@[go_sem] theorem zero62 : zeroC Tryd.prog 62 = some [.string ⟨#[]⟩, .string ⟨#[]⟩, .string ⟨#[]⟩, .bool false, .string ⟨#[]⟩, .string ⟨#[]⟩, .string ⟨#[]⟩, .string ⟨#[]⟩, .bool false] := by kernel_rfl
@[go_sem] theorem fld62_0 : fld Tryd.prog 62 0 = some (0, 9) := by kernel_rfl
@[go_sem] theorem fld62_1 : fld Tryd.prog 62 1 = some (1, 9) := by kernel_rfl
@[go_sem] theorem fld62_2 : fld Tryd.prog 62 2 = some (2, 9) := by kernel_rfl
@[go_sem] theorem fld62_3 : fld Tryd.prog 62 3 = some (3, 4) := by kernel_rfl
@[go_sem] theorem fld62_4 : fld Tryd.prog 62 4 = some (4, 9) := by kernel_rfl
@[go_sem] theorem fld62_5 : fld Tryd.prog 62 5 = some (5, 9) := by kernel_rfl
@[go_sem] theorem fld62_6 : fld Tryd.prog 62 6 = some (6, 9) := by kernel_rfl
@[go_sem] theorem fld62_7 : fld Tryd.prog 62 7 = some (7, 9) := by kernel_rfl
@[go_sem] theorem fld62_8 : fld Tryd.prog 62 8 = some (8, 4) := by kernel_rfl
@[go_sem] theorem lay62 : layOf Tryd.prog 62 = some [(0, 1), (1, 1), (2, 1), (3, 1), (4, 1), (5, 1), (6, 1), (7, 1), (8, 1)] := by kernel_rfl
@[go_sem] theorem sized62 : sized Tryd.prog 62 = true := by kernel_rfl
@[go_sem] theorem agg63 : aggT Tryd.prog 63 = some true := by kernel_rfl
@[go_sem] theorem cells63 : Tryd.prog.cellsOf 63 = 3 := by kernel_rfl
@[go_sem] theorem bytes63 : Tryd.prog.bytesOf 63 = 48 := by kernel_rfl
@[go_sem] theorem parts63 : eqParts Tryd.prog 63 = some [(0, 9), (1, 9), (2, 9)] := by kernel_rfl
@[go_sem] theorem eqg63 : Tryd.prog.eqGuardType Tryd.prog.depth 63 = false := by kernel_rfl
@[go_sem] theorem zero63 : zeroC Tryd.prog 63 = some [.string ⟨#[]⟩, .string ⟨#[]⟩, .string ⟨#[]⟩] := by kernel_rfl
@[go_sem] theorem fld63_0 : fld Tryd.prog 63 0 = some (0, 9) := by kernel_rfl
@[go_sem] theorem fld63_1 : fld Tryd.prog 63 1 = some (1, 9) := by kernel_rfl
@[go_sem] theorem fld63_2 : fld Tryd.prog 63 2 = some (2, 9) := by kernel_rfl
@[go_sem] theorem lay63 : layOf Tryd.prog 63 = some [(0, 1), (1, 1), (2, 1)] := by kernel_rfl
@[go_sem] theorem sized63 : sized Tryd.prog 63 = true := by kernel_rfl
@[go_sem] theorem agg64 : aggT Tryd.prog 64 = some true := by kernel_rfl
@[go_sem] theorem cells64 : Tryd.prog.cellsOf 64 = 3 := by kernel_rfl
@[go_sem] theorem bytes64 : Tryd.prog.bytesOf 64 = 48 := by kernel_rfl
@[go_sem] theorem parts64 : eqParts Tryd.prog 64 = some [(0, 9), (1, 9), (2, 9)] := by kernel_rfl
@[go_sem] theorem eqg64 : Tryd.prog.eqGuardType Tryd.prog.depth 64 = false := by kernel_rfl
@[go_sem] theorem zero64 : zeroC Tryd.prog 64 = some [.string ⟨#[]⟩, .string ⟨#[]⟩, .string ⟨#[]⟩] := by kernel_rfl
@[go_sem] theorem fld64_0 : fld Tryd.prog 64 0 = some (0, 9) := by kernel_rfl
@[go_sem] theorem fld64_1 : fld Tryd.prog 64 1 = some (1, 9) := by kernel_rfl
@[go_sem] theorem fld64_2 : fld Tryd.prog 64 2 = some (2, 9) := by kernel_rfl
@[go_sem] theorem lay64 : layOf Tryd.prog 64 = some [(0, 1), (1, 1), (2, 1)] := by kernel_rfl
@[go_sem] theorem sized64 : sized Tryd.prog 64 = true := by kernel_rfl
@[go_sem] theorem agg65 : aggT Tryd.prog 65 = some true := by kernel_rfl
@[go_sem] theorem cells65 : Tryd.prog.cellsOf 65 = 9 := by kernel_rfl
@[go_sem] theorem bytes65 : Tryd.prog.bytesOf 65 = 128 := by kernel_rfl
@[go_sem] theorem parts65 : eqParts Tryd.prog 65 = some [(0, 64), (3, 4), (4, 9), (5, 9), (6, 9), (7, 9), (8, 4)] := by kernel_rfl
@[go_sem] theorem eqg65 : Tryd.prog.eqGuardType Tryd.prog.depth 65 = false := by kernel_rfl
@[go_sem] theorem zero65 : zeroC Tryd.prog 65 = some [.string ⟨#[]⟩, .string ⟨#[]⟩, .string ⟨#[]⟩, .bool false, .string ⟨#[]⟩, .string ⟨#[]⟩, .string ⟨#[]⟩, .string ⟨#[]⟩, .bool false] := by kernel_rfl
@[go_sem] theorem fld65_0 : fld Tryd.prog 65 0 = some (0, 64) := by kernel_rfl
@[go_sem] theorem fld65_1 : fld Tryd.prog 65 1 = some (3, 4) := by kernel_rfl
@[go_sem] theorem fld65_2 : fld Tryd.prog 65 2 = some (4, 9) := by kernel_rfl
@[go_sem] theorem fld65_3 : fld Tryd.prog 65 3 = some (5, 9) := by kernel_rfl
@[go_sem] theorem fld65_4 : fld Tryd.prog 65 4 = some (6, 9) := by kernel_rfl
@[go_sem] theorem fld65_5 : fld Tryd.prog 65 5 = some (7, 9) := by kernel_rfl
@[go_sem] theorem fld65_6 : fld Tryd.prog 65 6 = some (8, 4) := by kernel_rfl
@[go_sem] theorem lay65 : layOf Tryd.prog 65 = some [(0, 3), (3, 1), (4, 1), (5, 1), (6, 1), (7, 1), (8, 1)] := by kernel_rfl
@[go_sem] theorem sized65 : sized Tryd.prog 65 = true := by kernel_rfl
@[go_sem] theorem agg66 : aggT Tryd.prog 66 = some true := by kernel_rfl
@[go_sem] theorem cells66 : Tryd.prog.cellsOf 66 = 9 := by kernel_rfl
@[go_sem] theorem bytes66 : Tryd.prog.bytesOf 66 = 128 := by kernel_rfl
@[go_sem] theorem parts66 : eqParts Tryd.prog 66 = some [(0, 64), (3, 4), (4, 9), (5, 9), (6, 9), (7, 9), (8, 4)] := by kernel_rfl
@[go_sem] theorem eqg66 : Tryd.prog.eqGuardType Tryd.prog.depth 66 = false := by kernel_rfl
@[go_sem] theorem zero66 : zeroC Tryd.prog 66 = some [.string ⟨#[]⟩, .string ⟨#[]⟩, .string ⟨#[]⟩, .bool false, .string ⟨#[]⟩, .string ⟨#[]⟩, .string ⟨#[]⟩, .string ⟨#[]⟩, .bool false] := by kernel_rfl
@[go_sem] theorem fld66_0 : fld Tryd.prog 66 0 = some (0, 64) := by kernel_rfl
@[go_sem] theorem fld66_1 : fld Tryd.prog 66 1 = some (3, 4) := by kernel_rfl
@[go_sem] theorem fld66_2 : fld Tryd.prog 66 2 = some (4, 9) := by kernel_rfl
@[go_sem] theorem fld66_3 : fld Tryd.prog 66 3 = some (5, 9) := by kernel_rfl
@[go_sem] theorem fld66_4 : fld Tryd.prog 66 4 = some (6, 9) := by kernel_rfl
@[go_sem] theorem fld66_5 : fld Tryd.prog 66 5 = some (7, 9) := by kernel_rfl
@[go_sem] theorem fld66_6 : fld Tryd.prog 66 6 = some (8, 4) := by kernel_rfl
@[go_sem] theorem lay66 : layOf Tryd.prog 66 = some [(0, 3), (3, 1), (4, 1), (5, 1), (6, 1), (7, 1), (8, 1)] := by kernel_rfl
@[go_sem] theorem sized66 : sized Tryd.prog 66 = true := by kernel_rfl
attribute [go_sem] Tryd.underlying69
@[go_sem] theorem agg69 : aggT Tryd.prog 69 = some false := by kernel_rfl
@[go_sem] theorem cells69 : Tryd.prog.cellsOf 69 = 1 := by kernel_rfl
@[go_sem] theorem bytes69 : Tryd.prog.bytesOf 69 = 24 := by kernel_rfl
@[go_sem] theorem parts69 : eqParts Tryd.prog 69 = none := by kernel_rfl
@[go_sem] theorem zeroV69 : zero1 Tryd.prog 69 = some (.slice none 0 0) := by kernel_rfl
@[go_sem] theorem zero69 : zeroC Tryd.prog 69 = some [.slice none 0 0] := by kernel_rfl
attribute [go_sem] Tryd.underlying81
@[go_sem] theorem agg81 : aggT Tryd.prog 81 = some false := by kernel_rfl
@[go_sem] theorem cells81 : Tryd.prog.cellsOf 81 = 1 := by kernel_rfl
@[go_sem] theorem bytes81 : Tryd.prog.bytesOf 81 = 8 := by kernel_rfl
@[go_sem] theorem parts81 : eqParts Tryd.prog 81 = none := by kernel_rfl
@[go_sem] theorem zeroV81 : zero1 Tryd.prog 81 = some (.pointer none) := by kernel_rfl
@[go_sem] theorem zero81 : zeroC Tryd.prog 81 = some [.pointer none] := by kernel_rfl
attribute [go_sem] Tryd.underlying82
@[go_sem] theorem agg82 : aggT Tryd.prog 82 = some false := by kernel_rfl
@[go_sem] theorem cells82 : Tryd.prog.cellsOf 82 = 1 := by kernel_rfl
@[go_sem] theorem bytes82 : Tryd.prog.bytesOf 82 = 24 := by kernel_rfl
@[go_sem] theorem parts82 : eqParts Tryd.prog 82 = none := by kernel_rfl
@[go_sem] theorem zeroV82 : zero1 Tryd.prog 82 = some (.slice none 0 0) := by kernel_rfl
@[go_sem] theorem zero82 : zeroC Tryd.prog 82 = some [.slice none 0 0] := by kernel_rfl
@[go_sem] theorem agg83 : aggT Tryd.prog 83 = some true := by kernel_rfl
@[go_sem] theorem cells83 : Tryd.prog.cellsOf 83 = 2 := by kernel_rfl
@[go_sem] theorem bytes83 : Tryd.prog.bytesOf 83 = 32 := by kernel_rfl
@[go_sem] theorem zero83 : zeroC Tryd.prog 83 = some [.pointer none, .slice none 0 0] := by kernel_rfl
@[go_sem] theorem fld83_0 : fld Tryd.prog 83 0 = some (0, 81) := by kernel_rfl
@[go_sem] theorem fld83_1 : fld Tryd.prog 83 1 = some (1, 82) := by kernel_rfl
@[go_sem] theorem lay83 : layOf Tryd.prog 83 = some [(0, 1), (1, 1)] := by kernel_rfl
@[go_sem] theorem sized83 : sized Tryd.prog 83 = true := by kernel_rfl
@[go_sem] theorem agg84 : aggT Tryd.prog 84 = some true := by kernel_rfl
@[go_sem] theorem cells84 : Tryd.prog.cellsOf 84 = 2 := by kernel_rfl
@[go_sem] theorem bytes84 : Tryd.prog.bytesOf 84 = 32 := by kernel_rfl
@[go_sem] theorem zero84 : zeroC Tryd.prog 84 = some [.pointer none, .slice none 0 0] := by kernel_rfl
@[go_sem] theorem fld84_0 : fld Tryd.prog 84 0 = some (0, 81) := by kernel_rfl
@[go_sem] theorem fld84_1 : fld Tryd.prog 84 1 = some (1, 82) := by kernel_rfl
@[go_sem] theorem lay84 : layOf Tryd.prog 84 = some [(0, 1), (1, 1)] := by kernel_rfl
@[go_sem] theorem sized84 : sized Tryd.prog 84 = true := by kernel_rfl
@[go_sem] theorem agg86 : aggT Tryd.prog 86 = some false := by kernel_rfl
@[go_sem] theorem cells86 : Tryd.prog.cellsOf 86 = 1 := by kernel_rfl
@[go_sem] theorem bytes86 : Tryd.prog.bytesOf 86 = 16 := by kernel_rfl
@[go_sem] theorem parts86 : eqParts Tryd.prog 86 = none := by kernel_rfl
@[go_sem] theorem zeroV86 : zero1 Tryd.prog 86 = some (.nilIface) := by kernel_rfl
@[go_sem] theorem zero86 : zeroC Tryd.prog 86 = some [.nilIface] := by kernel_rfl
@[go_sem] theorem agg87 : aggT Tryd.prog 87 = some false := by kernel_rfl
@[go_sem] theorem cells87 : Tryd.prog.cellsOf 87 = 1 := by kernel_rfl
@[go_sem] theorem bytes87 : Tryd.prog.bytesOf 87 = 16 := by kernel_rfl
@[go_sem] theorem parts87 : eqParts Tryd.prog 87 = none := by kernel_rfl
@[go_sem] theorem zeroV87 : zero1 Tryd.prog 87 = some (.nilIface) := by kernel_rfl
@[go_sem] theorem zero87 : zeroC Tryd.prog 87 = some [.nilIface] := by kernel_rfl
@[go_sem] theorem agg95 : aggT Tryd.prog 95 = some true := by kernel_rfl
@[go_sem] theorem cells95 : Tryd.prog.cellsOf 95 = 14 := by kernel_rfl
@[go_sem] theorem bytes95 : Tryd.prog.bytesOf 95 = 192 := by kernel_rfl
@[go_sem] theorem parts95 : eqParts Tryd.prog 95 = some [(0, 9), (1, 3), (2, 3), (3, 5), (4, 66), (13, 25)] := by kernel_rfl
@[go_sem] theorem eqg95 : Tryd.prog.eqGuardType Tryd.prog.depth 95 = false := by kernel_rfl
@[go_sem] theorem zero95 : zeroC Tryd.prog 95 = some [.string ⟨#[]⟩, .int .i64 0, .int .i64 0, .int .u8 0, .string ⟨#[]⟩, .string ⟨#[]⟩, .string ⟨#[]⟩, .bool false, .string ⟨#[]⟩, .string ⟨#[]⟩, .string ⟨#[]⟩, .string ⟨#[]⟩, .bool false, .slice none 0 0] := by kernel_rfl
@[go_sem] theorem fld95_0 : fld Tryd.prog 95 0 = some (0, 9) := by kernel_rfl
@[go_sem] theorem fld95_1 : fld Tryd.prog 95 1 = some (1, 3) := by kernel_rfl
@[go_sem] theorem fld95_2 : fld Tryd.prog 95 2 = some (2, 3) := by kernel_rfl
@[go_sem] theorem fld95_3 : fld Tryd.prog 95 3 = some (3, 5) := by kernel_rfl
@[go_sem] theorem fld95_4 : fld Tryd.prog 95 4 = some (4, 66) := by kernel_rfl
@[go_sem] theorem fld95_5 : fld Tryd.prog 95 5 = some (13, 25) := by kernel_rfl
@[go_sem] theorem lay95 : layOf Tryd.prog 95 = some [(0, 1), (1, 1), (2, 1), (3, 1), (4, 9), (13, 1)] := by kernel_rfl
@[go_sem] theorem sized95 : sized Tryd.prog 95 = true := by kernel_rfl
@[go_sem] theorem agg96 : aggT Tryd.prog 96 = some true := by kernel_rfl
@[go_sem] theorem cells96 : Tryd.prog.cellsOf 96 = 14 := by kernel_rfl
@[go_sem] theorem bytes96 : Tryd.prog.bytesOf 96 = 192 := by kernel_rfl
@[go_sem] theorem parts96 : eqParts Tryd.prog 96 = some [(0, 9), (1, 3), (2, 3), (3, 5), (4, 66), (13, 25)] := by kernel_rfl
@[go_sem] theorem eqg96 : Tryd.prog.eqGuardType Tryd.prog.depth 96 = false := by kernel_rfl
@[go_sem] theorem zero96 : zeroC Tryd.prog 96 = some [.string ⟨#[]⟩, .int .i64 0, .int .i64 0, .int .u8 0, .string ⟨#[]⟩, .string ⟨#[]⟩, .string ⟨#[]⟩, .bool false, .string ⟨#[]⟩, .string ⟨#[]⟩, .string ⟨#[]⟩, .string ⟨#[]⟩, .bool false, .slice none 0 0] := by kernel_rfl
@[go_sem] theorem fld96_0 : fld Tryd.prog 96 0 = some (0, 9) := by kernel_rfl
@[go_sem] theorem fld96_1 : fld Tryd.prog 96 1 = some (1, 3) := by kernel_rfl
@[go_sem] theorem fld96_2 : fld Tryd.prog 96 2 = some (2, 3) := by kernel_rfl
@[go_sem] theorem fld96_3 : fld Tryd.prog 96 3 = some (3, 5) := by kernel_rfl
@[go_sem] theorem fld96_4 : fld Tryd.prog 96 4 = some (4, 66) := by kernel_rfl
@[go_sem] theorem fld96_5 : fld Tryd.prog 96 5 = some (13, 25) := by kernel_rfl
@[go_sem] theorem lay96 : layOf Tryd.prog 96 = some [(0, 1), (1, 1), (2, 1), (3, 1), (4, 9), (13, 1)] := by kernel_rfl
@[go_sem] theorem sized96 : sized Tryd.prog 96 = true := by kernel_rfl
attribute [go_sem] Tryd.underlying107
@[go_sem] theorem agg107 : aggT Tryd.prog 107 = some false := by kernel_rfl
@[go_sem] theorem cells107 : Tryd.prog.cellsOf 107 = 1 := by kernel_rfl
@[go_sem] theorem bytes107 : Tryd.prog.bytesOf 107 = 8 := by kernel_rfl
@[go_sem] theorem parts107 : eqParts Tryd.prog 107 = none := by kernel_rfl
@[go_sem] theorem zeroV107 : zero1 Tryd.prog 107 = some (.pointer none) := by kernel_rfl
@[go_sem] theorem zero107 : zeroC Tryd.prog 107 = some [.pointer none] := by kernel_rfl
attribute [go_sem] Tryd.underlying109
@[go_sem] theorem agg109 : aggT Tryd.prog 109 = some false := by kernel_rfl
@[go_sem] theorem cells109 : Tryd.prog.cellsOf 109 = 1 := by kernel_rfl
@[go_sem] theorem bytes109 : Tryd.prog.bytesOf 109 = 8 := by kernel_rfl
@[go_sem] theorem parts109 : eqParts Tryd.prog 109 = none := by kernel_rfl
@[go_sem] theorem zeroV109 : zero1 Tryd.prog 109 = some (.pointer none) := by kernel_rfl
@[go_sem] theorem zero109 : zeroC Tryd.prog 109 = some [.pointer none] := by kernel_rfl
attribute [go_sem] Tryd.underlying115
@[go_sem] theorem agg115 : aggT Tryd.prog 115 = some false := by kernel_rfl
@[go_sem] theorem cells115 : Tryd.prog.cellsOf 115 = 1 := by kernel_rfl
@[go_sem] theorem bytes115 : Tryd.prog.bytesOf 115 = 24 := by kernel_rfl
@[go_sem] theorem parts115 : eqParts Tryd.prog 115 = none := by kernel_rfl
@[go_sem] theorem zeroV115 : zero1 Tryd.prog 115 = some (.slice none 0 0) := by kernel_rfl
@[go_sem] theorem zero115 : zeroC Tryd.prog 115 = some [.slice none 0 0] := by kernel_rfl
attribute [go_sem] Tryd.underlying116
@[go_sem] theorem agg116 : aggT Tryd.prog 116 = some false := by kernel_rfl
@[go_sem] theorem cells116 : Tryd.prog.cellsOf 116 = 1 := by kernel_rfl
@[go_sem] theorem bytes116 : Tryd.prog.bytesOf 116 = 8 := by kernel_rfl
@[go_sem] theorem parts116 : eqParts Tryd.prog 116 = none := by kernel_rfl
@[go_sem] theorem zeroV116 : zero1 Tryd.prog 116 = some (.int .u64 0) := by kernel_rfl
@[go_sem] theorem zero116 : zeroC Tryd.prog 116 = some [.int .u64 0] := by kernel_rfl
attribute [go_sem] Tryd.underlying120
@[go_sem] theorem agg120 : aggT Tryd.prog 120 = some false := by kernel_rfl
@[go_sem] theorem cells120 : Tryd.prog.cellsOf 120 = 1 := by kernel_rfl
@[go_sem] theorem bytes120 : Tryd.prog.bytesOf 120 = 8 := by kernel_rfl
@[go_sem] theorem parts120 : eqParts Tryd.prog 120 = none := by kernel_rfl
@[go_sem] theorem zeroV120 : zero1 Tryd.prog 120 = some (.pointer none) := by kernel_rfl
@[go_sem] theorem zero120 : zeroC Tryd.prog 120 = some [.pointer none] := by kernel_rfl
attribute [go_sem] Tryd.underlying124
@[go_sem] theorem agg124 : aggT Tryd.prog 124 = some false := by kernel_rfl
@[go_sem] theorem cells124 : Tryd.prog.cellsOf 124 = 1 := by kernel_rfl
@[go_sem] theorem bytes124 : Tryd.prog.bytesOf 124 = 4 := by kernel_rfl
@[go_sem] theorem parts124 : eqParts Tryd.prog 124 = none := by kernel_rfl
@[go_sem] theorem zeroV124 : zero1 Tryd.prog 124 = some (.int .u32 0) := by kernel_rfl
@[go_sem] theorem zero124 : zeroC Tryd.prog 124 = some [.int .u32 0] := by kernel_rfl
attribute [go_sem] Tryd.underlying134
@[go_sem] theorem agg134 : aggT Tryd.prog 134 = some true := by kernel_rfl
@[go_sem] theorem cells134 : Tryd.prog.cellsOf 134 = 256 := by kernel_rfl
@[go_sem] theorem bytes134 : Tryd.prog.bytesOf 134 = 256 := by kernel_rfl
@[go_sem] theorem lay134 : layOf Tryd.prog 134 = none := by kernel_rfl
@[go_sem] theorem arr134 : arrOf Tryd.prog 134 = some 1 := by kernel_rfl
@[go_sem] theorem parts134 : eqParts Tryd.prog 134 = some [(0, 5), (1, 5), (2, 5), (3, 5), (4, 5), (5, 5), (6, 5), (7, 5), (8, 5), (9, 5), (10, 5), (11, 5), (12, 5), (13, 5), (14, 5), (15, 5), (16, 5), (17, 5), (18, 5), (19, 5), (20, 5), (21, 5), (22, 5), (23, 5), (24, 5), (25, 5), (26, 5), (27, 5), (28, 5), (29, 5), (30, 5), (31, 5), (32, 5), (33, 5), (34, 5), (35, 5), (36, 5), (37, 5), (38, 5), (39, 5), (40, 5), (41, 5), (42, 5), (43, 5), (44, 5), (45, 5), (46, 5), (47, 5), (48, 5), (49, 5), (50, 5), (51, 5), (52, 5), (53, 5), (54, 5), (55, 5), (56, 5), (57, 5), (58, 5), (59, 5), (60, 5), (61, 5), (62, 5), (63, 5), (64, 5), (65, 5), (66, 5), (67, 5), (68, 5), (69, 5), (70, 5), (71, 5), (72, 5), (73, 5), (74, 5), (75, 5), (76, 5), (77, 5), (78, 5), (79, 5), (80, 5), (81, 5), (82, 5), (83, 5), (84, 5), (85, 5), (86, 5), (87, 5), (88, 5), (89, 5), (90, 5), (91, 5), (92, 5), (93, 5), (94, 5), (95, 5), (96, 5), (97, 5), (98, 5), (99, 5), (100, 5), (101, 5), (102, 5), (103, 5), (104, 5), (105, 5), (106, 5), (107, 5), (108, 5), (109, 5), (110, 5), (111, 5), (112, 5), (113, 5), (114, 5), (115, 5), (116, 5), (117, 5), (118, 5), (119, 5), (120, 5), (121, 5), (122, 5), (123, 5), (124, 5), (125, 5), (126, 5), (127, 5), (128, 5), (129, 5), (130, 5), (131, 5), (132, 5), (133, 5), (134, 5), (135, 5), (136, 5), (137, 5), (138, 5), (139, 5), (140, 5), (141, 5), (142, 5), (143, 5), (144, 5), (145, 5), (146, 5), (147, 5), (148, 5), (149, 5), (150, 5), (151, 5), (152, 5), (153, 5), (154, 5), (155, 5), (156, 5), (157, 5), (158, 5), (159, 5), (160, 5), (161, 5), (162, 5), (163, 5), (164, 5), (165, 5), (166, 5), (167, 5), (168, 5), (169, 5), (170, 5), (171, 5), (172, 5), (173, 5), (174, 5), (175, 5), (176, 5), (177, 5), (178, 5), (179, 5), (180, 5), (181, 5), (182, 5), (183, 5), (184, 5), (185, 5), (186, 5), (187, 5), (188, 5), (189, 5), (190, 5), (191, 5), (192, 5), (193, 5), (194, 5), (195, 5), (196, 5), (197, 5), (198, 5), (199, 5), (200, 5), (201, 5), (202, 5), (203, 5), (204, 5), (205, 5), (206, 5), (207, 5), (208, 5), (209, 5), (210, 5), (211, 5), (212, 5), (213, 5), (214, 5), (215, 5), (216, 5), (217, 5), (218, 5), (219, 5), (220, 5), (221, 5), (222, 5), (223, 5), (224, 5), (225, 5), (226, 5), (227, 5), (228, 5), (229, 5), (230, 5), (231, 5), (232, 5), (233, 5), (234, 5), (235, 5), (236, 5), (237, 5), (238, 5), (239, 5), (240, 5), (241, 5), (242, 5), (243, 5), (244, 5), (245, 5), (246, 5), (247, 5), (248, 5), (249, 5), (250, 5), (251, 5), (252, 5), (253, 5), (254, 5), (255, 5)] := by kernel_rfl
@[go_sem] theorem eqg134 : Tryd.prog.eqGuardType Tryd.prog.depth 134 = false := by kernel_rfl
@[go_sem] theorem zero134 : zeroC Tryd.prog 134 = some [.int .u8 0, .int .u8 0, .int .u8 0, .int .u8 0, .int .u8 0, .int .u8 0, .int .u8 0, .int .u8 0, .int .u8 0, .int .u8 0, .int .u8 0, .int .u8 0, .int .u8 0, .int .u8 0, .int .u8 0, .int .u8 0, .int .u8 0, .int .u8 0, .int .u8 0, .int .u8 0, .int .u8 0, .int .u8 0, .int .u8 0, .int .u8 0, .int .u8 0, .int .u8 0, .int .u8 0, .int .u8 0, .int .u8 0, .int .u8 0, .int .u8 0, .int .u8 0, .int .u8 0, .int .u8 0, .int .u8 0, .int .u8 0, .int .u8 0, .int .u8 0, .int .u8 0, .int .u8 0, .int .u8 0, .int .u8 0, .int .u8 0, .int .u8 0, .int .u8 0, .int .u8 0, .int .u8 0, .int .u8 0, .int .u8 0, .int .u8 0, .int .u8 0, .int .u8 0, .int .u8 0, .int .u8 0, .int .u8 0, .int .u8 0, .int .u8 0, .int .u8 0, .int .u8 0, .int .u8 0, .int .u8 0, .int .u8 0, .int .u8 0, .int .u8 0, .int .u8 0, .int .u8 0, .int .u8 0, .int .u8 0, .int .u8 0, .int .u8 0, .int .u8 0, .int .u8 0, .int .u8 0, .int .u8 0, .int .u8 0, .int .u8 0, .int .u8 0, .int .u8 0, .int .u8 0, .int .u8 0, .int .u8 0, .int .u8 0, .int .u8 0, .int .u8 0, .int .u8 0, .int .u8 0, .int .u8 0, .int .u8 0, .int .u8 0, .int .u8 0, .int .u8 0, .int .u8 0, .int .u8 0, .int .u8 0, .int .u8 0, .int .u8 0, .int .u8 0, .int .u8 0, .int .u8 0, .int .u8 0, .int .u8 0, .int .u8 0, .int .u8 0, .int .u8 0, .int .u8 0, .int .u8 0, .int .u8 0, .int .u8 0, .int .u8 0, .int .u8 0, .int .u8 0, .int .u8 0, .int .u8 0, .int .u8 0, .int .u8 0, .int .u8 0, .int .u8 0, .int .u8 0, .int .u8 0, .int .u8 0, .int .u8 0, .int .u8 0, .int .u8 0, .int .u8 0, .int .u8 0, .int .u8 0, .int .u8 0, .int .u8 0, .int .u8 0, .int .u8 0, .int .u8 0, .int .u8 0, .int .u8 0, .int .u8 0, .int .u8 0, .int .u8 0, .int .u8 0, .int .u8 0, .int .u8 0, .int .u8 0, .int .u8 0, .int .u8 0, .int .u8 0, .int .u8 0, .int .u8 0, .int .u8 0, .int .u8 0, .int .u8 0, .int .u8 0, .int .u8 0, .int .u8 0, .int .u8 0, .int .u8 0, .int .u8 0, .int .u8 0, .int .u8 0, .int .u8 0, .int .u8 0, .int .u8 0, .int .u8 0, .int .u8 0, .int .u8 0, .int .u8 0, .int .u8 0, .int .u8 0, .int .u8 0, .int .u8 0, .int .u8 0, .int .u8 0, .int .u8 0, .int .u8 0, .int .u8 0, .int .u8 0, .int .u8 0, .int .u8 0, .int .u8 0, .int .u8 0, .int .u8 0, .int .u8 0, .int .u8 0, .int .u8 0, .int .u8 0, .int .u8 0, .int .u8 0, .int .u8 0, .int .u8 0, .int .u8 0, .int .u8 0, .int .u8 0, .int .u8 0, .int .u8 0, .int .u8 0, .int .u8 0, .int .u8 0, .int .u8 0, .int .u8 0, .int .u8 0, .int .u8 0, .int .u8 0, .int .u8 0, .int .u8 0, .int .u8 0, .int .u8 0, .int .u8 0, .int .u8 0, .int .u8 0, .int .u8 0, .int .u8 0, .int .u8 0, .int .u8 0, .int .u8 0, .int .u8 0, .int .u8 0, .int .u8 0, .int .u8 0, .int .u8 0, .int .u8 0, .int .u8 0, .int .u8 0, .int .u8 0, .int .u8 0, .int .u8 0, .int .u8 0, .int .u8 0, .int .u8 0, .int .u8 0, .int .u8 0, .int .u8 0, .int .u8 0, .int .u8 0, .int .u8 0, .int .u8 0, .int .u8 0, .int .u8 0, .int .u8 0, .int .u8 0, .int .u8 0, .int .u8 0, .int .u8 0, .int .u8 0, .int .u8 0, .int .u8 0, .int .u8 0, .int .u8 0, .int .u8 0, .int .u8 0, .int .u8 0, .int .u8 0, .int .u8 0, .int .u8 0, .int .u8 0, .int .u8 0, .int .u8 0, .int .u8 0, .int .u8 0, .int .u8 0] := by kernel_rfl
@[go_sem] theorem agg135 : aggT Tryd.prog 135 = some true := by kernel_rfl
@[go_sem] theorem cells135 : Tryd.prog.cellsOf 135 = 2 := by kernel_rfl
@[go_sem] theorem bytes135 : Tryd.prog.bytesOf 135 = 2 := by kernel_rfl
@[go_sem] theorem zero135 : zeroC Tryd.prog 135 = some [.int .u8 0, .int .u8 0] := by kernel_rfl
@[go_sem] theorem fld135_0 : fld Tryd.prog 135 0 = some (0, 5) := by kernel_rfl
@[go_sem] theorem fld135_1 : fld Tryd.prog 135 1 = some (1, 5) := by kernel_rfl
@[go_sem] theorem lay135 : layOf Tryd.prog 135 = some [(0, 1), (1, 1)] := by kernel_rfl
@[go_sem] theorem sized135 : sized Tryd.prog 135 = true := by kernel_rfl
@[go_sem] theorem agg136 : aggT Tryd.prog 136 = some true := by kernel_rfl
@[go_sem] theorem cells136 : Tryd.prog.cellsOf 136 = 2 := by kernel_rfl
@[go_sem] theorem bytes136 : Tryd.prog.bytesOf 136 = 2 := by kernel_rfl
@[go_sem] theorem zero136 : zeroC Tryd.prog 136 = some [.int .u8 0, .int .u8 0] := by kernel_rfl
@[go_sem] theorem fld136_0 : fld Tryd.prog 136 0 = some (0, 5) := by kernel_rfl
@[go_sem] theorem fld136_1 : fld Tryd.prog 136 1 = some (1, 5) := by kernel_rfl
@[go_sem] theorem lay136 : layOf Tryd.prog 136 = some [(0, 1), (1, 1)] := by kernel_rfl
@[go_sem] theorem sized136 : sized Tryd.prog 136 = true := by kernel_rfl
attribute [go_sem] Tryd.underlying137
@[go_sem] theorem agg137 : aggT Tryd.prog 137 = some true := by kernel_rfl
@[go_sem] theorem cells137 : Tryd.prog.cellsOf 137 = 32 := by kernel_rfl
@[go_sem] theorem bytes137 : Tryd.prog.bytesOf 137 = 32 := by kernel_rfl
@[go_sem] theorem lay137 : layOf Tryd.prog 137 = none := by kernel_rfl
@[go_sem] theorem arr137 : arrOf Tryd.prog 137 = some 2 := by kernel_rfl
@[go_sem] theorem parts137 : eqParts Tryd.prog 137 = some [(0, 136), (2, 136), (4, 136), (6, 136), (8, 136), (10, 136), (12, 136), (14, 136), (16, 136), (18, 136), (20, 136), (22, 136), (24, 136), (26, 136), (28, 136), (30, 136)] := by kernel_rfl
@[go_sem] theorem eqg137 : Tryd.prog.eqGuardType Tryd.prog.depth 137 = false := by kernel_rfl
@[go_sem] theorem zero137 : zeroC Tryd.prog 137 = some [.int .u8 0, .int .u8 0, .int .u8 0, .int .u8 0, .int .u8 0, .int .u8 0, .int .u8 0, .int .u8 0, .int .u8 0, .int .u8 0, .int .u8 0, .int .u8 0, .int .u8 0, .int .u8 0, .int .u8 0, .int .u8 0, .int .u8 0, .int .u8 0, .int .u8 0, .int .u8 0, .int .u8 0, .int .u8 0, .int .u8 0, .int .u8 0, .int .u8 0, .int .u8 0, .int .u8 0, .int .u8 0, .int .u8 0, .int .u8 0, .int .u8 0, .int .u8 0] := by kernel_rfl
@[go_sem] theorem agg138 : aggT Tryd.prog 138 = some true := by kernel_rfl
@[go_sem] theorem cells138 : Tryd.prog.cellsOf 138 = 4 := by kernel_rfl
@[go_sem] theorem bytes138 : Tryd.prog.bytesOf 138 = 40 := by kernel_rfl
@[go_sem] theorem zero138 : zeroC Tryd.prog 138 = some [.pointer none, .pointer none, .pointer none, .string ⟨#[]⟩] := by kernel_rfl
@[go_sem] theorem fld138_0 : fld Tryd.prog 138 0 = some (0, 17) := by kernel_rfl
@[go_sem] theorem fld138_1 : fld Tryd.prog 138 1 = some (1, 17) := by kernel_rfl
@[go_sem] theorem fld138_2 : fld Tryd.prog 138 2 = some (2, 17) := by kernel_rfl
@[go_sem] theorem fld138_3 : fld Tryd.prog 138 3 = some (3, 9) := by kernel_rfl
@[go_sem] theorem lay138 : layOf Tryd.prog 138 = some [(0, 1), (1, 1), (2, 1), (3, 1)] := by kernel_rfl
@[go_sem] theorem sized138 : sized Tryd.prog 138 = true := by kernel_rfl
@[go_sem] theorem agg139 : aggT Tryd.prog 139 = some true := by kernel_rfl
@[go_sem] theorem cells139 : Tryd.prog.cellsOf 139 = 4 := by kernel_rfl
@[go_sem] theorem bytes139 : Tryd.prog.bytesOf 139 = 40 := by kernel_rfl
@[go_sem] theorem zero139 : zeroC Tryd.prog 139 = some [.pointer none, .pointer none, .pointer none, .string ⟨#[]⟩] := by kernel_rfl
@[go_sem] theorem fld139_0 : fld Tryd.prog 139 0 = some (0, 17) := by kernel_rfl
@[go_sem] theorem fld139_1 : fld Tryd.prog 139 1 = some (1, 17) := by kernel_rfl
@[go_sem] theorem fld139_2 : fld Tryd.prog 139 2 = some (2, 17) := by kernel_rfl
@[go_sem] theorem fld139_3 : fld Tryd.prog 139 3 = some (3, 9) := by kernel_rfl
@[go_sem] theorem lay139 : layOf Tryd.prog 139 = some [(0, 1), (1, 1), (2, 1), (3, 1)] := by kernel_rfl
@[go_sem] theorem sized139 : sized Tryd.prog 139 = true := by kernel_rfl
attribute [go_sem] Tryd.underlying140
@[go_sem] theorem agg140 : aggT Tryd.prog 140 = some true := by kernel_rfl
@[go_sem] theorem cells140 : Tryd.prog.cellsOf 140 = 0 := by kernel_rfl
@[go_sem] theorem bytes140 : Tryd.prog.bytesOf 140 = 0 := by kernel_rfl
@[go_sem] theorem lay140 : layOf Tryd.prog 140 = none := by kernel_rfl
@[go_sem] theorem arr140 : arrOf Tryd.prog 140 = some 1 := by kernel_rfl
@[go_sem] theorem parts140 : eqParts Tryd.prog 140 = some [] := by kernel_rfl
@[go_sem] theorem eqg140 : Tryd.prog.eqGuardType Tryd.prog.depth 140 = false := by kernel_rfl
@[go_sem] theorem zero140 : zeroC Tryd.prog 140 = some [] := by kernel_rfl
@[go_sem] theorem agg141 : aggT Tryd.prog 141 = some true := by kernel_rfl
@[go_sem] theorem cells141 : Tryd.prog.cellsOf 141 = 0 := by kernel_rfl
@[go_sem] theorem bytes141 : Tryd.prog.bytesOf 141 = 0 := by kernel_rfl
@[go_sem] theorem zero141 : zeroC Tryd.prog 141 = some [] := by kernel_rfl
@[go_sem] theorem fld141_0 : fld Tryd.prog 141 0 = some (0, 140) := by kernel_rfl
@[go_sem] theorem lay141 : layOf Tryd.prog 141 = some [(0, 0)] := by kernel_rfl
@[go_sem] theorem sized141 : sized Tryd.prog 141 = true := by kernel_rfl
@[go_sem] theorem agg142 : aggT Tryd.prog 142 = some true := by kernel_rfl
@[go_sem] theorem cells142 : Tryd.prog.cellsOf 142 = 0 := by kernel_rfl
@[go_sem] theorem bytes142 : Tryd.prog.bytesOf 142 = 0 := by kernel_rfl
@[go_sem] theorem zero142 : zeroC Tryd.prog 142 = some [] := by kernel_rfl
@[go_sem] theorem fld142_0 : fld Tryd.prog 142 0 = some (0, 140) := by kernel_rfl
@[go_sem] theorem lay142 : layOf Tryd.prog 142 = some [(0, 0)] := by kernel_rfl
@[go_sem] theorem sized142 : sized Tryd.prog 142 = true := by kernel_rfl
attribute [go_sem] Tryd.underlying143
@[go_sem] theorem agg143 : aggT Tryd.prog 143 = some false := by kernel_rfl
@[go_sem] theorem cells143 : Tryd.prog.cellsOf 143 = 1 := by kernel_rfl
@[go_sem] theorem bytes143 : Tryd.prog.bytesOf 143 = 1 := by kernel_rfl
@[go_sem] theorem parts143 : eqParts Tryd.prog 143 = none := by kernel_rfl
@[go_sem] theorem zeroV143 : zero1 Tryd.prog 143 = some (.int .u8 0) := by kernel_rfl
@[go_sem] theorem zero143 : zeroC Tryd.prog 143 = some [.int .u8 0] := by kernel_rfl
attribute [go_sem] Tryd.underlying144
@[go_sem] theorem agg144 : aggT Tryd.prog 144 = some false := by kernel_rfl
@[go_sem] theorem cells144 : Tryd.prog.cellsOf 144 = 1 := by kernel_rfl
@[go_sem] theorem bytes144 : Tryd.prog.bytesOf 144 = 1 := by kernel_rfl
@[go_sem] theorem parts144 : eqParts Tryd.prog 144 = none := by kernel_rfl
@[go_sem] theorem zeroV144 : zero1 Tryd.prog 144 = some (.int .u8 0) := by kernel_rfl
@[go_sem] theorem zero144 : zeroC Tryd.prog 144 = some [.int .u8 0] := by kernel_rfl
attribute [go_sem] Tryd.underlying146
@[go_sem] theorem agg146 : aggT Tryd.prog 146 = some false := by kernel_rfl
@[go_sem] theorem cells146 : Tryd.prog.cellsOf 146 = 1 := by kernel_rfl
@[go_sem] theorem bytes146 : Tryd.prog.bytesOf 146 = 4 := by kernel_rfl
@[go_sem] theorem parts146 : eqParts Tryd.prog 146 = none := by kernel_rfl
@[go_sem] theorem zeroV146 : zero1 Tryd.prog 146 = some (.int .i32 0) := by kernel_rfl
@[go_sem] theorem zero146 : zeroC Tryd.prog 146 = some [.int .i32 0] := by kernel_rfl
attribute [go_sem] Tryd.underlying147
@[go_sem] theorem agg147 : aggT Tryd.prog 147 = some false := by kernel_rfl
@[go_sem] theorem cells147 : Tryd.prog.cellsOf 147 = 1 := by kernel_rfl
@[go_sem] theorem bytes147 : Tryd.prog.bytesOf 147 = 4 := by kernel_rfl
@[go_sem] theorem parts147 : eqParts Tryd.prog 147 = none := by kernel_rfl
@[go_sem] theorem zeroV147 : zero1 Tryd.prog 147 = some (.int .i32 0) := by kernel_rfl
@[go_sem] theorem zero147 : zeroC Tryd.prog 147 = some [.int .i32 0] := by kernel_rfl
@[go_sem] theorem agg148 : aggT Tryd.prog 148 = some true := by kernel_rfl
@[go_sem] theorem cells148 : Tryd.prog.cellsOf 148 = 11 := by kernel_rfl
@[go_sem] theorem bytes148 : Tryd.prog.bytesOf 148 = 48 := by kernel_rfl
@[go_sem] theorem zero148 : zeroC Tryd.prog 148 = some [.int .u64 0, .int .u64 0, .int .u32 0, .int .u8 0, .int .u8 0, .int .u8 0, .int .u8 0, .nilFunc, .pointer none, .int .i32 0, .int .i32 0] := by kernel_rfl
@[go_sem] theorem fld148_0 : fld Tryd.prog 148 0 = some (0, 12) := by kernel_rfl
@[go_sem] theorem fld148_1 : fld Tryd.prog 148 1 = some (1, 12) := by kernel_rfl
@[go_sem] theorem fld148_2 : fld Tryd.prog 148 2 = some (2, 124) := by kernel_rfl
@[go_sem] theorem fld148_3 : fld Tryd.prog 148 3 = some (3, 143) := by kernel_rfl
@[go_sem] theorem fld148_4 : fld Tryd.prog 148 4 = some (4, 5) := by kernel_rfl
@[go_sem] theorem fld148_5 : fld Tryd.prog 148 5 = some (5, 5) := by kernel_rfl
@[go_sem] theorem fld148_6 : fld Tryd.prog 148 6 = some (6, 144) := by kernel_rfl
@[go_sem] theorem fld148_7 : fld Tryd.prog 148 7 = some (7, 145) := by kernel_rfl
@[go_sem] theorem fld148_8 : fld Tryd.prog 148 8 = some (8, 107) := by kernel_rfl
@[go_sem] theorem fld148_9 : fld Tryd.prog 148 9 = some (9, 146) := by kernel_rfl
@[go_sem] theorem fld148_10 : fld Tryd.prog 148 10 = some (10, 147) := by kernel_rfl
@[go_sem] theorem lay148 : layOf Tryd.prog 148 = some [(0, 1), (1, 1), (2, 1), (3, 1), (4, 1), (5, 1), (6, 1), (7, 1), (8, 1), (9, 1), (10, 1)] := by kernel_rfl
@[go_sem] theorem sized148 : sized Tryd.prog 148 = true := by kernel_rfl
@[go_sem] theorem agg149 : aggT Tryd.prog 149 = some true := by kernel_rfl
@[go_sem] theorem cells149 : Tryd.prog.cellsOf 149 = 11 := by kernel_rfl
@[go_sem] theorem bytes149 : Tryd.prog.bytesOf 149 = 48 := by kernel_rfl
@[go_sem] theorem zero149 : zeroC Tryd.prog 149 = some [.int .u64 0, .int .u64 0, .int .u32 0, .int .u8 0, .int .u8 0, .int .u8 0, .int .u8 0, .nilFunc, .pointer none, .int .i32 0, .int .i32 0] := by kernel_rfl
@[go_sem] theorem fld149_0 : fld Tryd.prog 149 0 = some (0, 12) := by kernel_rfl
@[go_sem] theorem fld149_1 : fld Tryd.prog 149 1 = some (1, 12) := by kernel_rfl
@[go_sem] theorem fld149_2 : fld Tryd.prog 149 2 = some (2, 124) := by kernel_rfl
@[go_sem] theorem fld149_3 : fld Tryd.prog 149 3 = some (3, 143) := by kernel_rfl
@[go_sem] theorem fld149_4 : fld Tryd.prog 149 4 = some (4, 5) := by kernel_rfl
@[go_sem] theorem fld149_5 : fld Tryd.prog 149 5 = some (5, 5) := by kernel_rfl
@[go_sem] theorem fld149_6 : fld Tryd.prog 149 6 = some (6, 144) := by kernel_rfl
@[go_sem] theorem fld149_7 : fld Tryd.prog 149 7 = some (7, 145) := by kernel_rfl
@[go_sem] theorem fld149_8 : fld Tryd.prog 149 8 = some (8, 107) := by kernel_rfl
@[go_sem] theorem fld149_9 : fld Tryd.prog 149 9 = some (9, 146) := by kernel_rfl
@[go_sem] theorem fld149_10 : fld Tryd.prog 149 10 = some (10, 147) := by kernel_rfl
@[go_sem] theorem lay149 : layOf Tryd.prog 149 = some [(0, 1), (1, 1), (2, 1), (3, 1), (4, 1), (5, 1), (6, 1), (7, 1), (8, 1), (9, 1), (10, 1)] := by kernel_rfl
@[go_sem] theorem sized149 : sized Tryd.prog 149 = true := by kernel_rfl
end Go.Proofs.YtljgfacjefebaaaDoor
