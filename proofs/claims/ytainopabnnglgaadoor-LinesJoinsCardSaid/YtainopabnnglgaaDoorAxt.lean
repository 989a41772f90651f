/-
  Closed facts on the types of this seat's program.
-/
import Derived.Test.YtainopabnnglgaaDoorAxf
import Derived.Test.YtainopabnnglgaaDoorChecked
import Derived.KernelRfl
namespace Go.Proofs.YtainopabnnglgaaDoor
open Go
theorem mixed : Tryd.prog.follows .mixedOrders = true := by kernel_rfl
attribute [go_sem] Tryd.underlying2
@[go_sem] theorem agg2 : aggT Tryd.prog 2 = some false := by kernel_rfl
@[go_sem] theorem cells2 : Tryd.prog.cellsOf 2 = 1 := by kernel_rfl
@[go_sem] theorem bytes2 : Tryd.prog.bytesOf 2 = 8 := by kernel_rfl
@[go_sem] theorem parts2 : eqParts Tryd.prog 2 = none := by kernel_rfl
@[go_sem] theorem zeroV2 : zero1 Tryd.prog 2 = some (.int .i64 0) := by kernel_rfl
@[go_sem] theorem zero2 : zeroC Tryd.prog 2 = some [.int .i64 0] := by kernel_rfl
attribute [go_sem] Tryd.underlying3
@[go_sem] theorem agg3 : aggT Tryd.prog 3 = some false := by kernel_rfl
@[go_sem] theorem cells3 : Tryd.prog.cellsOf 3 = 1 := by kernel_rfl
@[go_sem] theorem bytes3 : Tryd.prog.bytesOf 3 = 8 := by kernel_rfl
@[go_sem] theorem parts3 : eqParts Tryd.prog 3 = none := by kernel_rfl
@[go_sem] theorem zeroV3 : zero1 Tryd.prog 3 = some (.int .i64 0) := by kernel_rfl
@[go_sem] theorem zero3 : zeroC Tryd.prog 3 = some [.int .i64 0] := by kernel_rfl
attribute [go_sem] Tryd.underlying4
@[go_sem] theorem agg4 : aggT Tryd.prog 4 = some false := by kernel_rfl
@[go_sem] theorem cells4 : Tryd.prog.cellsOf 4 = 1 := by kernel_rfl
@[go_sem] theorem bytes4 : Tryd.prog.bytesOf 4 = 1 := by kernel_rfl
@[go_sem] theorem parts4 : eqParts Tryd.prog 4 = none := by kernel_rfl
@[go_sem] theorem zeroV4 : zero1 Tryd.prog 4 = some (.bool false) := by kernel_rfl
@[go_sem] theorem zero4 : zeroC Tryd.prog 4 = some [.bool false] := by kernel_rfl
attribute [go_sem] Tryd.underlying5
@[go_sem] theorem agg5 : aggT Tryd.prog 5 = some false := by kernel_rfl
@[go_sem] theorem cells5 : Tryd.prog.cellsOf 5 = 1 := by kernel_rfl
@[go_sem] theorem bytes5 : Tryd.prog.bytesOf 5 = 1 := by kernel_rfl
@[go_sem] theorem parts5 : eqParts Tryd.prog 5 = none := by kernel_rfl
@[go_sem] theorem zeroV5 : zero1 Tryd.prog 5 = some (.int .u8 0) := by kernel_rfl
@[go_sem] theorem zero5 : zeroC Tryd.prog 5 = some [.int .u8 0] := by kernel_rfl
attribute [go_sem] Tryd.underlying6
@[go_sem] theorem agg6 : aggT Tryd.prog 6 = some false := by kernel_rfl
@[go_sem] theorem cells6 : Tryd.prog.cellsOf 6 = 1 := by kernel_rfl
@[go_sem] theorem bytes6 : Tryd.prog.bytesOf 6 = 1 := by kernel_rfl
@[go_sem] theorem parts6 : eqParts Tryd.prog 6 = none := by kernel_rfl
@[go_sem] theorem zeroV6 : zero1 Tryd.prog 6 = some (.int .u8 0) := by kernel_rfl
@[go_sem] theorem zero6 : zeroC Tryd.prog 6 = some [.int .u8 0] := by kernel_rfl
@[go_sem] theorem agg7 : aggT Tryd.prog 7 = some true := by kernel_rfl
@[go_sem] theorem cells7 : Tryd.prog.cellsOf 7 = 4 := by kernel_rfl
@[go_sem] theorem bytes7 : Tryd.prog.bytesOf 7 = 24 := by kernel_rfl
@[go_sem] theorem zero7 : zeroC Tryd.prog 7 = some [.int .i64 0, .int .i64 0, .bool false, .int .u8 0] := by kernel_rfl
@[go_sem] theorem fld7_0 : fld Tryd.prog 7 0 = some (0, 2) := by kernel_rfl
@[go_sem] theorem fld7_1 : fld Tryd.prog 7 1 = some (1, 3) := by kernel_rfl
@[go_sem] theorem fld7_2 : fld Tryd.prog 7 2 = some (2, 4) := by kernel_rfl
@[go_sem] theorem fld7_3 : fld Tryd.prog 7 3 = some (3, 6) := by kernel_rfl
@[go_sem] theorem lay7 : layOf Tryd.prog 7 = some [(0, 1), (1, 1), (2, 1), (3, 1)] := by kernel_rfl
@[go_sem] theorem sized7 : sized Tryd.prog 7 = true := by kernel_rfl
@[go_sem] theorem agg8 : aggT Tryd.prog 8 = some true := by kernel_rfl
@[go_sem] theorem cells8 : Tryd.prog.cellsOf 8 = 4 := by kernel_rfl
@[go_sem] theorem bytes8 : Tryd.prog.bytesOf 8 = 24 := by kernel_rfl
@[go_sem] theorem zero8 : zeroC Tryd.prog 8 = some [.int .i64 0, .int .i64 0, .bool false, .int .u8 0] := by kernel_rfl
@[go_sem] theorem fld8_0 : fld Tryd.prog 8 0 = some (0, 2) := by kernel_rfl
@[go_sem] theorem fld8_1 : fld Tryd.prog 8 1 = some (1, 3) := by kernel_rfl
@[go_sem] theorem fld8_2 : fld Tryd.prog 8 2 = some (2, 4) := by kernel_rfl
@[go_sem] theorem fld8_3 : fld Tryd.prog 8 3 = some (3, 6) := by kernel_rfl
@[go_sem] theorem lay8 : layOf Tryd.prog 8 = some [(0, 1), (1, 1), (2, 1), (3, 1)] := by kernel_rfl
@[go_sem] theorem sized8 : sized Tryd.prog 8 = true := by kernel_rfl
attribute [go_sem] Tryd.underlying9
@[go_sem] theorem agg9 : aggT Tryd.prog 9 = some false := by kernel_rfl
@[go_sem] theorem cells9 : Tryd.prog.cellsOf 9 = 1 := by kernel_rfl
@[go_sem] theorem bytes9 : Tryd.prog.bytesOf 9 = 16 := by kernel_rfl
@[go_sem] theorem parts9 : eqParts Tryd.prog 9 = none := by kernel_rfl
@[go_sem] theorem zeroV9 : zero1 Tryd.prog 9 = some (.string ⟨#[]⟩) := by kernel_rfl
@[go_sem] theorem zero9 : zeroC Tryd.prog 9 = some [.string ⟨#[]⟩] := by kernel_rfl
attribute [go_sem] Tryd.underlying10
@[go_sem] theorem agg10 : aggT Tryd.prog 10 = some false := by kernel_rfl
@[go_sem] theorem cells10 : Tryd.prog.cellsOf 10 = 1 := by kernel_rfl
@[go_sem] theorem bytes10 : Tryd.prog.bytesOf 10 = 16 := by kernel_rfl
@[go_sem] theorem parts10 : eqParts Tryd.prog 10 = none := by kernel_rfl
@[go_sem] theorem zeroV10 : zero1 Tryd.prog 10 = some (.string ⟨#[]⟩) := by kernel_rfl
@[go_sem] theorem zero10 : zeroC Tryd.prog 10 = some [.string ⟨#[]⟩] := by kernel_rfl
attribute [go_sem] Tryd.underlying11
@[go_sem] theorem agg11 : aggT Tryd.prog 11 = some false := by kernel_rfl
@[go_sem] theorem cells11 : Tryd.prog.cellsOf 11 = 1 := by kernel_rfl
@[go_sem] theorem bytes11 : Tryd.prog.bytesOf 11 = 16 := by kernel_rfl
@[go_sem] theorem parts11 : eqParts Tryd.prog 11 = none := by kernel_rfl
@[go_sem] theorem zeroV11 : zero1 Tryd.prog 11 = some (.string ⟨#[]⟩) := by kernel_rfl
@[go_sem] theorem zero11 : zeroC Tryd.prog 11 = some [.string ⟨#[]⟩] := by kernel_rfl
attribute [go_sem] Tryd.underlying12
@[go_sem] theorem agg12 : aggT Tryd.prog 12 = some false := by kernel_rfl
@[go_sem] theorem cells12 : Tryd.prog.cellsOf 12 = 1 := by kernel_rfl
@[go_sem] theorem bytes12 : Tryd.prog.bytesOf 12 = 8 := by kernel_rfl
@[go_sem] theorem parts12 : eqParts Tryd.prog 12 = none := by kernel_rfl
@[go_sem] theorem zeroV12 : zero1 Tryd.prog 12 = some (.int .u64 0) := by kernel_rfl
@[go_sem] theorem zero12 : zeroC Tryd.prog 12 = some [.int .u64 0] := by kernel_rfl
@[go_sem] theorem agg13 : aggT Tryd.prog 13 = some true := by kernel_rfl
@[go_sem] theorem cells13 : Tryd.prog.cellsOf 13 = 2 := by kernel_rfl
@[go_sem] theorem bytes13 : Tryd.prog.bytesOf 13 = 24 := by kernel_rfl
@[go_sem] theorem zero13 : zeroC Tryd.prog 13 = some [.string ⟨#[]⟩, .int .u64 0] := by kernel_rfl
@[go_sem] theorem fld13_0 : fld Tryd.prog 13 0 = some (0, 9) := by kernel_rfl
@[go_sem] theorem fld13_1 : fld Tryd.prog 13 1 = some (1, 12) := by kernel_rfl
@[go_sem] theorem lay13 : layOf Tryd.prog 13 = some [(0, 1), (1, 1)] := by kernel_rfl
@[go_sem] theorem sized13 : sized Tryd.prog 13 = true := by kernel_rfl
@[go_sem] theorem agg14 : aggT Tryd.prog 14 = some true := by kernel_rfl
@[go_sem] theorem cells14 : Tryd.prog.cellsOf 14 = 2 := by kernel_rfl
@[go_sem] theorem bytes14 : Tryd.prog.bytesOf 14 = 24 := by kernel_rfl
@[go_sem] theorem zero14 : zeroC Tryd.prog 14 = some [.string ⟨#[]⟩, .int .u64 0] := by kernel_rfl
@[go_sem] theorem fld14_0 : fld Tryd.prog 14 0 = some (0, 9) := by kernel_rfl
@[go_sem] theorem fld14_1 : fld Tryd.prog 14 1 = some (1, 12) := by kernel_rfl
@[go_sem] theorem lay14 : layOf Tryd.prog 14 = some [(0, 1), (1, 1)] := by kernel_rfl
@[go_sem] theorem sized14 : sized Tryd.prog 14 = true := by kernel_rfl
attribute [go_sem] Tryd.underlying15
@[go_sem] theorem agg15 : aggT Tryd.prog 15 = some false := by kernel_rfl
@[go_sem] theorem cells15 : Tryd.prog.cellsOf 15 = 1 := by kernel_rfl
@[go_sem] theorem bytes15 : Tryd.prog.bytesOf 15 = 8 := by kernel_rfl
@[go_sem] theorem parts15 : eqParts Tryd.prog 15 = none := by kernel_rfl
@[go_sem] theorem zeroV15 : zero1 Tryd.prog 15 = some (.pointer none) := by kernel_rfl
@[go_sem] theorem zero15 : zeroC Tryd.prog 15 = some [.pointer none] := by kernel_rfl
attribute [go_sem] Tryd.underlying16
@[go_sem] theorem agg16 : aggT Tryd.prog 16 = some false := by kernel_rfl
@[go_sem] theorem cells16 : Tryd.prog.cellsOf 16 = 1 := by kernel_rfl
@[go_sem] theorem bytes16 : Tryd.prog.bytesOf 16 = 8 := by kernel_rfl
@[go_sem] theorem parts16 : eqParts Tryd.prog 16 = none := by kernel_rfl
@[go_sem] theorem zeroV16 : zero1 Tryd.prog 16 = some (.pointer none) := by kernel_rfl
@[go_sem] theorem zero16 : zeroC Tryd.prog 16 = some [.pointer none] := by kernel_rfl
attribute [go_sem] Tryd.underlying17
@[go_sem] theorem agg17 : aggT Tryd.prog 17 = some false := by kernel_rfl
@[go_sem] theorem cells17 : Tryd.prog.cellsOf 17 = 1 := by kernel_rfl
@[go_sem] theorem bytes17 : Tryd.prog.bytesOf 17 = 8 := by kernel_rfl
@[go_sem] theorem parts17 : eqParts Tryd.prog 17 = none := by kernel_rfl
@[go_sem] theorem zeroV17 : zero1 Tryd.prog 17 = some (.pointer none) := by kernel_rfl
@[go_sem] theorem zero17 : zeroC Tryd.prog 17 = some [.pointer none] := by kernel_rfl
@[go_sem] theorem agg18 : aggT Tryd.prog 18 = some true := by kernel_rfl
@[go_sem] theorem cells18 : Tryd.prog.cellsOf 18 = 1 := by kernel_rfl
@[go_sem] theorem bytes18 : Tryd.prog.bytesOf 18 = 8 := by kernel_rfl
@[go_sem] theorem zero18 : zeroC Tryd.prog 18 = some [.pointer none] := by kernel_rfl
@[go_sem] theorem fld18_0 : fld Tryd.prog 18 0 = some (0, 17) := by kernel_rfl
@[go_sem] theorem lay18 : layOf Tryd.prog 18 = some [(0, 1)] := by kernel_rfl
@[go_sem] theorem sized18 : sized Tryd.prog 18 = true := by kernel_rfl
@[go_sem] theorem agg19 : aggT Tryd.prog 19 = some true := by kernel_rfl
@[go_sem] theorem cells19 : Tryd.prog.cellsOf 19 = 1 := by kernel_rfl
@[go_sem] theorem bytes19 : Tryd.prog.bytesOf 19 = 8 := by kernel_rfl
@[go_sem] theorem zero19 : zeroC Tryd.prog 19 = some [.pointer none] := by kernel_rfl
@[go_sem] theorem fld19_0 : fld Tryd.prog 19 0 = some (0, 17) := by kernel_rfl
@[go_sem] theorem lay19 : layOf Tryd.prog 19 = some [(0, 1)] := by kernel_rfl
@[go_sem] theorem sized19 : sized Tryd.prog 19 = true := by kernel_rfl
@[go_sem] theorem agg20 : aggT Tryd.prog 20 = some false := by kernel_rfl
@[go_sem] theorem cells20 : Tryd.prog.cellsOf 20 = 1 := by kernel_rfl
@[go_sem] theorem bytes20 : Tryd.prog.bytesOf 20 = 16 := by kernel_rfl
@[go_sem] theorem parts20 : eqParts Tryd.prog 20 = none := by kernel_rfl
@[go_sem] theorem zeroV20 : zero1 Tryd.prog 20 = some (.nilIface) := by kernel_rfl
@[go_sem] theorem zero20 : zeroC Tryd.prog 20 = some [.nilIface] := by kernel_rfl
attribute [go_sem] Tryd.underlying21
@[go_sem] theorem agg21 : aggT Tryd.prog 21 = some false := by kernel_rfl
@[go_sem] theorem cells21 : Tryd.prog.cellsOf 21 = 1 := by kernel_rfl
@[go_sem] theorem bytes21 : Tryd.prog.bytesOf 21 = 4 := by kernel_rfl
@[go_sem] theorem parts21 : eqParts Tryd.prog 21 = none := by kernel_rfl
@[go_sem] theorem zeroV21 : zero1 Tryd.prog 21 = some (.int .i32 0) := by kernel_rfl
@[go_sem] theorem zero21 : zeroC Tryd.prog 21 = some [.int .i32 0] := by kernel_rfl
attribute [go_sem] Tryd.underlying22
@[go_sem] theorem agg22 : aggT Tryd.prog 22 = some false := by kernel_rfl
@[go_sem] theorem cells22 : Tryd.prog.cellsOf 22 = 1 := by kernel_rfl
@[go_sem] theorem bytes22 : Tryd.prog.bytesOf 22 = 24 := by kernel_rfl
@[go_sem] theorem parts22 : eqParts Tryd.prog 22 = none := by kernel_rfl
@[go_sem] theorem zeroV22 : zero1 Tryd.prog 22 = some (.slice none 0 0) := by kernel_rfl
@[go_sem] theorem zero22 : zeroC Tryd.prog 22 = some [.slice none 0 0] := by kernel_rfl
attribute [go_sem] Tryd.underlying30
@[go_sem] theorem agg30 : aggT Tryd.prog 30 = some false := by kernel_rfl
@[go_sem] theorem cells30 : Tryd.prog.cellsOf 30 = 1 := by kernel_rfl
@[go_sem] theorem bytes30 : Tryd.prog.bytesOf 30 = 24 := by kernel_rfl
@[go_sem] theorem parts30 : eqParts Tryd.prog 30 = none := by kernel_rfl
@[go_sem] theorem zeroV30 : zero1 Tryd.prog 30 = some (.slice none 0 0) := by kernel_rfl
@[go_sem] theorem zero30 : zeroC Tryd.prog 30 = some [.slice none 0 0] := by kernel_rfl
attribute [go_sem] Tryd.underlying33
@[go_sem] theorem agg33 : aggT Tryd.prog 33 = some false := by kernel_rfl
@[go_sem] theorem cells33 : Tryd.prog.cellsOf 33 = 1 := by kernel_rfl
@[go_sem] theorem bytes33 : Tryd.prog.bytesOf 33 = 24 := by kernel_rfl
@[go_sem] theorem parts33 : eqParts Tryd.prog 33 = none := by kernel_rfl
@[go_sem] theorem zeroV33 : zero1 Tryd.prog 33 = some (.slice none 0 0) := by kernel_rfl
@[go_sem] theorem zero33 : zeroC Tryd.prog 33 = some [.slice none 0 0] := by kernel_rfl
attribute [go_sem] Tryd.underlying37
@[go_sem] theorem agg37 : aggT Tryd.prog 37 = some false := by kernel_rfl
@[go_sem] theorem cells37 : Tryd.prog.cellsOf 37 = 1 := by kernel_rfl
@[go_sem] theorem bytes37 : Tryd.prog.bytesOf 37 = 24 := by kernel_rfl
@[go_sem] theorem parts37 : eqParts Tryd.prog 37 = none := by kernel_rfl
@[go_sem] theorem zeroV37 : zero1 Tryd.prog 37 = some (.slice none 0 0) := by kernel_rfl
@[go_sem] theorem zero37 : zeroC Tryd.prog 37 = some [.slice none 0 0] := by kernel_rfl
attribute [go_sem] Tryd.underlying43
@[go_sem] theorem agg43 : aggT Tryd.prog 43 = some false := by kernel_rfl
@[go_sem] theorem cells43 : Tryd.prog.cellsOf 43 = 1 := by kernel_rfl
@[go_sem] theorem bytes43 : Tryd.prog.bytesOf 43 = 8 := by kernel_rfl
@[go_sem] theorem parts43 : eqParts Tryd.prog 43 = none := by kernel_rfl
@[go_sem] theorem zeroV43 : zero1 Tryd.prog 43 = some (.map none) := by kernel_rfl
@[go_sem] theorem zero43 : zeroC Tryd.prog 43 = some [.map none] := by kernel_rfl
attribute [go_sem] Tryd.underlying47
@[go_sem] theorem agg47 : aggT Tryd.prog 47 = some false := by kernel_rfl
@[go_sem] theorem cells47 : Tryd.prog.cellsOf 47 = 1 := by kernel_rfl
@[go_sem] theorem bytes47 : Tryd.prog.bytesOf 47 = 8 := by kernel_rfl
@[go_sem] theorem parts47 : eqParts Tryd.prog 47 = none := by kernel_rfl
@[go_sem] theorem zeroV47 : zero1 Tryd.prog 47 = some (.pointer none) := by kernel_rfl
@[go_sem] theorem zero47 : zeroC Tryd.prog 47 = some [.pointer none] := by kernel_rfl
attribute [go_sem] Tryd.underlying48
@[go_sem] theorem agg48 : aggT Tryd.prog 48 = some false := by kernel_rfl
@[go_sem] theorem cells48 : Tryd.prog.cellsOf 48 = 1 := by kernel_rfl
@[go_sem] theorem bytes48 : Tryd.prog.bytesOf 48 = 24 := by kernel_rfl
@[go_sem] theorem parts48 : eqParts Tryd.prog 48 = none := by kernel_rfl
@[go_sem] theorem zeroV48 : zero1 Tryd.prog 48 = some (.slice none 0 0) := by kernel_rfl
@[go_sem] theorem zero48 : zeroC Tryd.prog 48 = some [.slice none 0 0] := by kernel_rfl
@[go_sem] theorem agg49 : aggT Tryd.prog 49 = some true := by kernel_rfl
@[go_sem] theorem cells49 : Tryd.prog.cellsOf 49 = 2 := by kernel_rfl
@[go_sem] theorem bytes49 : Tryd.prog.bytesOf 49 = 32 := by kernel_rfl
@[go_sem] theorem zero49 : zeroC Tryd.prog 49 = some [.pointer none, .slice none 0 0] := by kernel_rfl
@[go_sem] theorem fld49_0 : fld Tryd.prog 49 0 = some (0, 47) := by kernel_rfl
@[go_sem] theorem fld49_1 : fld Tryd.prog 49 1 = some (1, 48) := by kernel_rfl
@[go_sem] theorem lay49 : layOf Tryd.prog 49 = some [(0, 1), (1, 1)] := by kernel_rfl
@[go_sem] theorem sized49 : sized Tryd.prog 49 = true := by kernel_rfl
@[go_sem] theorem agg50 : aggT Tryd.prog 50 = some true := by kernel_rfl
@[go_sem] theorem cells50 : Tryd.prog.cellsOf 50 = 2 := by kernel_rfl
@[go_sem] theorem bytes50 : Tryd.prog.bytesOf 50 = 32 := by kernel_rfl
@[go_sem] theorem zero50 : zeroC Tryd.prog 50 = some [.pointer none, .slice none 0 0] := by kernel_rfl
@[go_sem] theorem fld50_0 : fld Tryd.prog 50 0 = some (0, 47) := by kernel_rfl
@[go_sem] theorem fld50_1 : fld Tryd.prog 50 1 = some (1, 48) := by kernel_rfl
@[go_sem] theorem lay50 : layOf Tryd.prog 50 = some [(0, 1), (1, 1)] := by kernel_rfl
@[go_sem] theorem sized50 : sized Tryd.prog 50 = true := by kernel_rfl
@[go_sem] theorem agg52 : aggT Tryd.prog 52 = some false := by kernel_rfl
@[go_sem] theorem cells52 : Tryd.prog.cellsOf 52 = 1 := by kernel_rfl
@[go_sem] theorem bytes52 : Tryd.prog.bytesOf 52 = 16 := by kernel_rfl
@[go_sem] theorem parts52 : eqParts Tryd.prog 52 = none := by kernel_rfl
@[go_sem] theorem zeroV52 : zero1 Tryd.prog 52 = some (.nilIface) := by kernel_rfl
@[go_sem] theorem zero52 : zeroC Tryd.prog 52 = some [.nilIface] := by kernel_rfl
@[go_sem] theorem agg53 : aggT Tryd.prog 53 = some false := by kernel_rfl
@[go_sem] theorem cells53 : Tryd.prog.cellsOf 53 = 1 := by kernel_rfl
@[go_sem] theorem bytes53 : Tryd.prog.bytesOf 53 = 16 := by kernel_rfl
@[go_sem] theorem parts53 : eqParts Tryd.prog 53 = none := by kernel_rfl
@[go_sem] theorem zeroV53 : zero1 Tryd.prog 53 = some (.nilIface) := by kernel_rfl
@[go_sem] theorem zero53 : zeroC Tryd.prog 53 = some [.nilIface] := by kernel_rfl
attribute [go_sem] Tryd.underlying58
@[go_sem] theorem agg58 : aggT Tryd.prog 58 = some false := by kernel_rfl
@[go_sem] theorem cells58 : Tryd.prog.cellsOf 58 = 1 := by kernel_rfl
@[go_sem] theorem bytes58 : Tryd.prog.bytesOf 58 = 8 := by kernel_rfl
@[go_sem] theorem parts58 : eqParts Tryd.prog 58 = none := by kernel_rfl
@[go_sem] theorem zeroV58 : zero1 Tryd.prog 58 = some (.pointer none) := by kernel_rfl
@[go_sem] theorem zero58 : zeroC Tryd.prog 58 = some [.pointer none] := by kernel_rfl
attribute [go_sem] Tryd.underlying60
@[go_sem] theorem agg60 : aggT Tryd.prog 60 = some false := by kernel_rfl
@[go_sem] theorem cells60 : Tryd.prog.cellsOf 60 = 1 := by kernel_rfl
@[go_sem] theorem bytes60 : Tryd.prog.bytesOf 60 = 8 := by kernel_rfl
@[go_sem] theorem parts60 : eqParts Tryd.prog 60 = none := by kernel_rfl
@[go_sem] theorem zeroV60 : zero1 Tryd.prog 60 = some (.int .u64 0) := by kernel_rfl
@[go_sem] theorem zero60 : zeroC Tryd.prog 60 = some [.int .u64 0] := by kernel_rfl
attribute [go_sem] Tryd.underlying63
@[go_sem] theorem agg63 : aggT Tryd.prog 63 = some false := by kernel_rfl
@[go_sem] theorem cells63 : Tryd.prog.cellsOf 63 = 1 := by kernel_rfl
@[go_sem] theorem bytes63 : Tryd.prog.bytesOf 63 = 8 := by kernel_rfl
@[go_sem] theorem parts63 : eqParts Tryd.prog 63 = none := by kernel_rfl
@[go_sem] theorem zeroV63 : zero1 Tryd.prog 63 = some (.pointer none) := by kernel_rfl
@[go_sem] theorem zero63 : zeroC Tryd.prog 63 = some [.pointer none] := by kernel_rfl
attribute [go_sem] Tryd.underlying66
@[go_sem] theorem agg66 : aggT Tryd.prog 66 = some false := by kernel_rfl
@[go_sem] theorem cells66 : Tryd.prog.cellsOf 66 = 1 := by kernel_rfl
@[go_sem] theorem bytes66 : Tryd.prog.bytesOf 66 = 4 := by kernel_rfl
@[go_sem] theorem parts66 : eqParts Tryd.prog 66 = none := by kernel_rfl
@[go_sem] theorem zeroV66 : zero1 Tryd.prog 66 = some (.int .u32 0) := by kernel_rfl
@[go_sem] theorem zero66 : zeroC Tryd.prog 66 = some [.int .u32 0] := by kernel_rfl
attribute [go_sem] Tryd.underlying69
@[go_sem] theorem agg69 : aggT Tryd.prog 69 = some true := by kernel_rfl
@[go_sem] theorem cells69 : Tryd.prog.cellsOf 69 = 256 := by kernel_rfl
@[go_sem] theorem bytes69 : Tryd.prog.bytesOf 69 = 256 := by kernel_rfl
@[go_sem] theorem parts69 : eqParts Tryd.prog 69 = some [(0, 5), (1, 5), (2, 5), (3, 5), (4, 5), (5, 5), (6, 5), (7, 5), (8, 5), (9, 5), (10, 5), (11, 5), (12, 5), (13, 5), (14, 5), (15, 5), (16, 5), (17, 5), (18, 5), (19, 5), (20, 5), (21, 5), (22, 5), (23, 5), (24, 5), (25, 5), (26, 5), (27, 5), (28, 5), (29, 5), (30, 5), (31, 5), (32, 5), (33, 5), (34, 5), (35, 5), (36, 5), (37, 5), (38, 5), (39, 5), (40, 5), (41, 5), (42, 5), (43, 5), (44, 5), (45, 5), (46, 5), (47, 5), (48, 5), (49, 5), (50, 5), (51, 5), (52, 5), (53, 5), (54, 5), (55, 5), (56, 5), (57, 5), (58, 5), (59, 5), (60, 5), (61, 5), (62, 5), (63, 5), (64, 5), (65, 5), (66, 5), (67, 5), (68, 5), (69, 5), (70, 5), (71, 5), (72, 5), (73, 5), (74, 5), (75, 5), (76, 5), (77, 5), (78, 5), (79, 5), (80, 5), (81, 5), (82, 5), (83, 5), (84, 5), (85, 5), (86, 5), (87, 5), (88, 5), (89, 5), (90, 5), (91, 5), (92, 5), (93, 5), (94, 5), (95, 5), (96, 5), (97, 5), (98, 5), (99, 5), (100, 5), (101, 5), (102, 5), (103, 5), (104, 5), (105, 5), (106, 5), (107, 5), (108, 5), (109, 5), (110, 5), (111, 5), (112, 5), (113, 5), (114, 5), (115, 5), (116, 5), (117, 5), (118, 5), (119, 5), (120, 5), (121, 5), (122, 5), (123, 5), (124, 5), (125, 5), (126, 5), (127, 5), (128, 5), (129, 5), (130, 5), (131, 5), (132, 5), (133, 5), (134, 5), (135, 5), (136, 5), (137, 5), (138, 5), (139, 5), (140, 5), (141, 5), (142, 5), (143, 5), (144, 5), (145, 5), (146, 5), (147, 5), (148, 5), (149, 5), (150, 5), (151, 5), (152, 5), (153, 5), (154, 5), (155, 5), (156, 5), (157, 5), (158, 5), (159, 5), (160, 5), (161, 5), (162, 5), (163, 5), (164, 5), (165, 5), (166, 5), (167, 5), (168, 5), (169, 5), (170, 5), (171, 5), (172, 5), (173, 5), (174, 5), (175, 5), (176, 5), (177, 5), (178, 5), (179, 5), (180, 5), (181, 5), (182, 5), (183, 5), (184, 5), (185, 5), (186, 5), (187, 5), (188, 5), (189, 5), (190, 5), (191, 5), (192, 5), (193, 5), (194, 5), (195, 5), (196, 5), (197, 5), (198, 5), (199, 5), (200, 5), (201, 5), (202, 5), (203, 5), (204, 5), (205, 5), (206, 5), (207, 5), (208, 5), (209, 5), (210, 5), (211, 5), (212, 5), (213, 5), (214, 5), (215, 5), (216, 5), (217, 5), (218, 5), (219, 5), (220, 5), (221, 5), (222, 5), (223, 5), (224, 5), (225, 5), (226, 5), (227, 5), (228, 5), (229, 5), (230, 5), (231, 5), (232, 5), (233, 5), (234, 5), (235, 5), (236, 5), (237, 5), (238, 5), (239, 5), (240, 5), (241, 5), (242, 5), (243, 5), (244, 5), (245, 5), (246, 5), (247, 5), (248, 5), (249, 5), (250, 5), (251, 5), (252, 5), (253, 5), (254, 5), (255, 5)] := by kernel_rfl
@[go_sem] theorem eqg69 : Tryd.prog.eqGuardType Tryd.prog.depth 69 = false := by kernel_rfl
@[go_sem] theorem zero69 : zeroC Tryd.prog 69 = some [.int .u8 0, .int .u8 0, .int .u8 0, .int .u8 0, .int .u8 0, .int .u8 0, .int .u8 0, .int .u8 0, .int .u8 0, .int .u8 0, .int .u8 0, .int .u8 0, .int .u8 0, .int .u8 0, .int .u8 0, .int .u8 0, .int .u8 0, .int .u8 0, .int .u8 0, .int .u8 0, .int .u8 0, .int .u8 0, .int .u8 0, .int .u8 0, .int .u8 0, .int .u8 0, .int .u8 0, .int .u8 0, .int .u8 0, .int .u8 0, .int .u8 0, .int .u8 0, .int .u8 0, .int .u8 0, .int .u8 0, .int .u8 0, .int .u8 0, .int .u8 0, .int .u8 0, .int .u8 0, .int .u8 0, .int .u8 0, .int .u8 0, .int .u8 0, .int .u8 0, .int .u8 0, .int .u8 0, .int .u8 0, .int .u8 0, .int .u8 0, .int .u8 0, .int .u8 0, .int .u8 0, .int .u8 0, .int .u8 0, .int .u8 0, .int .u8 0, .int .u8 0, .int .u8 0, .int .u8 0, .int .u8 0, .int .u8 0, .int .u8 0, .int .u8 0, .int .u8 0, .int .u8 0, .int .u8 0, .int .u8 0, .int .u8 0, .int .u8 0, .int .u8 0, .int .u8 0, .int .u8 0, .int .u8 0, .int .u8 0, .int .u8 0, .int .u8 0, .int .u8 0, .int .u8 0, .int .u8 0, .int .u8 0, .int .u8 0, .int .u8 0, .int .u8 0, .int .u8 0, .int .u8 0, .int .u8 0, .int .u8 0, .int .u8 0, .int .u8 0, .int .u8 0, .int .u8 0, .int .u8 0, .int .u8 0, .int .u8 0, .int .u8 0, .int .u8 0, .int .u8 0, .int .u8 0, .int .u8 0, .int .u8 0, .int .u8 0, .int .u8 0, .int .u8 0, .int .u8 0, .int .u8 0, .int .u8 0, .int .u8 0, .int .u8 0, .int .u8 0, .int .u8 0, .int .u8 0, .int .u8 0, .int .u8 0, .int .u8 0, .int .u8 0, .int .u8 0, .int .u8 0, .int .u8 0, .int .u8 0, .int .u8 0, .int .u8 0, .int .u8 0, .int .u8 0, .int .u8 0, .int .u8 0, .int .u8 0, .int .u8 0, .int .u8 0, .int .u8 0, .int .u8 0, .int .u8 0, .int .u8 0, .int .u8 0, .int .u8 0, .int .u8 0, .int .u8 0, .int .u8 0, .int .u8 0, .int .u8 0, .int .u8 0, .int .u8 0, .int .u8 0, .int .u8 0, .int .u8 0, .int .u8 0, .int .u8 0, .int .u8 0, .int .u8 0, .int .u8 0, .int .u8 0, .int .u8 0, .int .u8 0, .int .u8 0, .int .u8 0, .int .u8 0, .int .u8 0, .int .u8 0, .int .u8 0, .int .u8 0, .int .u8 0, .int .u8 0, .int .u8 0, .int .u8 0, .int .u8 0, .int .u8 0, .int .u8 0, .int .u8 0, .int .u8 0, .int .u8 0, .int .u8 0, .int .u8 0, .int .u8 0, .int .u8 0, .int .u8 0, .int .u8 0, .int .u8 0, .int .u8 0, .int .u8 0, .int .u8 0, .int .u8 0, .int .u8 0, .int .u8 0, .int .u8 0, .int .u8 0, .int .u8 0, .int .u8 0, .int .u8 0, .int .u8 0, .int .u8 0, .int .u8 0, .int .u8 0, .int .u8 0, .int .u8 0, .int .u8 0, .int .u8 0, .int .u8 0, .int .u8 0, .int .u8 0, .int .u8 0, .int .u8 0, .int .u8 0, .int .u8 0, .int .u8 0, .int .u8 0, .int .u8 0, .int .u8 0, .int .u8 0, .int .u8 0, .int .u8 0, .int .u8 0, .int .u8 0, .int .u8 0, .int .u8 0, .int .u8 0, .int .u8 0, .int .u8 0, .int .u8 0, .int .u8 0, .int .u8 0, .int .u8 0, .int .u8 0, .int .u8 0, .int .u8 0, .int .u8 0, .int .u8 0, .int .u8 0, .int .u8 0, .int .u8 0, .int .u8 0, .int .u8 0, .int .u8 0, .int .u8 0, .int .u8 0, .int .u8 0, .int .u8 0, .int .u8 0, .int .u8 0, .int .u8 0, .int .u8 0, .int .u8 0, .int .u8 0, .int .u8 0, .int .u8 0, .int .u8 0, .int .u8 0, .int .u8 0, .int .u8 0, .int .u8 0, .int .u8 0, .int .u8 0, .int .u8 0, .int .u8 0, .int .u8 0, .int .u8 0, .int .u8 0] := by kernel_rfl
@[go_sem] theorem agg70 : aggT Tryd.prog 70 = some true := by kernel_rfl
@[go_sem] theorem cells70 : Tryd.prog.cellsOf 70 = 2 := by kernel_rfl
@[go_sem] theorem bytes70 : Tryd.prog.bytesOf 70 = 2 := by kernel_rfl
@[go_sem] theorem zero70 : zeroC Tryd.prog 70 = some [.int .u8 0, .int .u8 0] := by kernel_rfl
@[go_sem] theorem fld70_0 : fld Tryd.prog 70 0 = some (0, 5) := by kernel_rfl
@[go_sem] theorem fld70_1 : fld Tryd.prog 70 1 = some (1, 5) := by kernel_rfl
@[go_sem] theorem lay70 : layOf Tryd.prog 70 = some [(0, 1), (1, 1)] := by kernel_rfl
@[go_sem] theorem sized70 : sized Tryd.prog 70 = true := by kernel_rfl
@[go_sem] theorem agg71 : aggT Tryd.prog 71 = some true := by kernel_rfl
@[go_sem] theorem cells71 : Tryd.prog.cellsOf 71 = 2 := by kernel_rfl
@[go_sem] theorem bytes71 : Tryd.prog.bytesOf 71 = 2 := by kernel_rfl
@[go_sem] theorem zero71 : zeroC Tryd.prog 71 = some [.int .u8 0, .int .u8 0] := by kernel_rfl
@[go_sem] theorem fld71_0 : fld Tryd.prog 71 0 = some (0, 5) := by kernel_rfl
@[go_sem] theorem fld71_1 : fld Tryd.prog 71 1 = some (1, 5) := by kernel_rfl
@[go_sem] theorem lay71 : layOf Tryd.prog 71 = some [(0, 1), (1, 1)] := by kernel_rfl
@[go_sem] theorem sized71 : sized Tryd.prog 71 = true := by kernel_rfl
attribute [go_sem] Tryd.underlying72
@[go_sem] theorem agg72 : aggT Tryd.prog 72 = some true := by kernel_rfl
@[go_sem] theorem cells72 : Tryd.prog.cellsOf 72 = 32 := by kernel_rfl
@[go_sem] theorem bytes72 : Tryd.prog.bytesOf 72 = 32 := by kernel_rfl
@[go_sem] theorem parts72 : eqParts Tryd.prog 72 = some [(0, 71), (2, 71), (4, 71), (6, 71), (8, 71), (10, 71), (12, 71), (14, 71), (16, 71), (18, 71), (20, 71), (22, 71), (24, 71), (26, 71), (28, 71), (30, 71)] := by kernel_rfl
@[go_sem] theorem eqg72 : Tryd.prog.eqGuardType Tryd.prog.depth 72 = false := by kernel_rfl
@[go_sem] theorem zero72 : zeroC Tryd.prog 72 = some [.int .u8 0, .int .u8 0, .int .u8 0, .int .u8 0, .int .u8 0, .int .u8 0, .int .u8 0, .int .u8 0, .int .u8 0, .int .u8 0, .int .u8 0, .int .u8 0, .int .u8 0, .int .u8 0, .int .u8 0, .int .u8 0, .int .u8 0, .int .u8 0, .int .u8 0, .int .u8 0, .int .u8 0, .int .u8 0, .int .u8 0, .int .u8 0, .int .u8 0, .int .u8 0, .int .u8 0, .int .u8 0, .int .u8 0, .int .u8 0, .int .u8 0, .int .u8 0] := by kernel_rfl
@[go_sem] theorem agg73 : aggT Tryd.prog 73 = some true := by kernel_rfl
@[go_sem] theorem cells73 : Tryd.prog.cellsOf 73 = 4 := by kernel_rfl
@[go_sem] theorem bytes73 : Tryd.prog.bytesOf 73 = 40 := by kernel_rfl
@[go_sem] theorem zero73 : zeroC Tryd.prog 73 = some [.pointer none, .pointer none, .pointer none, .string ⟨#[]⟩] := by kernel_rfl
@[go_sem] theorem fld73_0 : fld Tryd.prog 73 0 = some (0, 17) := by kernel_rfl
@[go_sem] theorem fld73_1 : fld Tryd.prog 73 1 = some (1, 17) := by kernel_rfl
@[go_sem] theorem fld73_2 : fld Tryd.prog 73 2 = some (2, 17) := by kernel_rfl
@[go_sem] theorem fld73_3 : fld Tryd.prog 73 3 = some (3, 9) := by kernel_rfl
@[go_sem] theorem lay73 : layOf Tryd.prog 73 = some [(0, 1), (1, 1), (2, 1), (3, 1)] := by kernel_rfl
@[go_sem] theorem sized73 : sized Tryd.prog 73 = true := by kernel_rfl
@[go_sem] theorem agg74 : aggT Tryd.prog 74 = some true := by kernel_rfl
@[go_sem] theorem cells74 : Tryd.prog.cellsOf 74 = 4 := by kernel_rfl
@[go_sem] theorem bytes74 : Tryd.prog.bytesOf 74 = 40 := by kernel_rfl
@[go_sem] theorem zero74 : zeroC Tryd.prog 74 = some [.pointer none, .pointer none, .pointer none, .string ⟨#[]⟩] := by kernel_rfl
@[go_sem] theorem fld74_0 : fld Tryd.prog 74 0 = some (0, 17) := by kernel_rfl
@[go_sem] theorem fld74_1 : fld Tryd.prog 74 1 = some (1, 17) := by kernel_rfl
@[go_sem] theorem fld74_2 : fld Tryd.prog 74 2 = some (2, 17) := by kernel_rfl
@[go_sem] theorem fld74_3 : fld Tryd.prog 74 3 = some (3, 9) := by kernel_rfl
@[go_sem] theorem lay74 : layOf Tryd.prog 74 = some [(0, 1), (1, 1), (2, 1), (3, 1)] := by kernel_rfl
@[go_sem] theorem sized74 : sized Tryd.prog 74 = true := by kernel_rfl
attribute [go_sem] Tryd.underlying75
@[go_sem] theorem agg75 : aggT Tryd.prog 75 = some true := by kernel_rfl
@[go_sem] theorem cells75 : Tryd.prog.cellsOf 75 = 0 := by kernel_rfl
@[go_sem] theorem bytes75 : Tryd.prog.bytesOf 75 = 0 := by kernel_rfl
@[go_sem] theorem parts75 : eqParts Tryd.prog 75 = some [] := by kernel_rfl
@[go_sem] theorem eqg75 : Tryd.prog.eqGuardType Tryd.prog.depth 75 = false := by kernel_rfl
@[go_sem] theorem zero75 : zeroC Tryd.prog 75 = some [] := by kernel_rfl
@[go_sem] theorem agg76 : aggT Tryd.prog 76 = some true := by kernel_rfl
@[go_sem] theorem cells76 : Tryd.prog.cellsOf 76 = 0 := by kernel_rfl
@[go_sem] theorem bytes76 : Tryd.prog.bytesOf 76 = 0 := by kernel_rfl
@[go_sem] theorem zero76 : zeroC Tryd.prog 76 = some [] := by kernel_rfl
@[go_sem] theorem fld76_0 : fld Tryd.prog 76 0 = some (0, 75) := by kernel_rfl
@[go_sem] theorem lay76 : layOf Tryd.prog 76 = some [(0, 0)] := by kernel_rfl
@[go_sem] theorem sized76 : sized Tryd.prog 76 = true := by kernel_rfl
@[go_sem] theorem agg77 : aggT Tryd.prog 77 = some true := by kernel_rfl
@[go_sem] theorem cells77 : Tryd.prog.cellsOf 77 = 0 := by kernel_rfl
@[go_sem] theorem bytes77 : Tryd.prog.bytesOf 77 = 0 := by kernel_rfl
@[go_sem] theorem zero77 : zeroC Tryd.prog 77 = some [] := by kernel_rfl
@[go_sem] theorem fld77_0 : fld Tryd.prog 77 0 = some (0, 75) := by kernel_rfl
@[go_sem] theorem lay77 : layOf Tryd.prog 77 = some [(0, 0)] := by kernel_rfl
@[go_sem] theorem sized77 : sized Tryd.prog 77 = true := by kernel_rfl
attribute [go_sem] Tryd.underlying79
@[go_sem] theorem agg79 : aggT Tryd.prog 79 = some false := by kernel_rfl
@[go_sem] theorem cells79 : Tryd.prog.cellsOf 79 = 1 := by kernel_rfl
@[go_sem] theorem bytes79 : Tryd.prog.bytesOf 79 = 1 := by kernel_rfl
@[go_sem] theorem parts79 : eqParts Tryd.prog 79 = none := by kernel_rfl
@[go_sem] theorem zeroV79 : zero1 Tryd.prog 79 = some (.int .u8 0) := by kernel_rfl
@[go_sem] theorem zero79 : zeroC Tryd.prog 79 = some [.int .u8 0] := by kernel_rfl
attribute [go_sem] Tryd.underlying80
@[go_sem] theorem agg80 : aggT Tryd.prog 80 = some false := by kernel_rfl
@[go_sem] theorem cells80 : Tryd.prog.cellsOf 80 = 1 := by kernel_rfl
@[go_sem] theorem bytes80 : Tryd.prog.bytesOf 80 = 1 := by kernel_rfl
@[go_sem] theorem parts80 : eqParts Tryd.prog 80 = none := by kernel_rfl
@[go_sem] theorem zeroV80 : zero1 Tryd.prog 80 = some (.int .u8 0) := by kernel_rfl
@[go_sem] theorem zero80 : zeroC Tryd.prog 80 = some [.int .u8 0] := by kernel_rfl
attribute [go_sem] Tryd.underlying82
@[go_sem] theorem agg82 : aggT Tryd.prog 82 = some false := by kernel_rfl
@[go_sem] theorem cells82 : Tryd.prog.cellsOf 82 = 1 := by kernel_rfl
@[go_sem] theorem bytes82 : Tryd.prog.bytesOf 82 = 4 := by kernel_rfl
@[go_sem] theorem parts82 : eqParts Tryd.prog 82 = none := by kernel_rfl
@[go_sem] theorem zeroV82 : zero1 Tryd.prog 82 = some (.int .i32 0) := by kernel_rfl
@[go_sem] theorem zero82 : zeroC Tryd.prog 82 = some [.int .i32 0] := by kernel_rfl
attribute [go_sem] Tryd.underlying83
@[go_sem] theorem agg83 : aggT Tryd.prog 83 = some false := by kernel_rfl
@[go_sem] theorem cells83 : Tryd.prog.cellsOf 83 = 1 := by kernel_rfl
@[go_sem] theorem bytes83 : Tryd.prog.bytesOf 83 = 4 := by kernel_rfl
@[go_sem] theorem parts83 : eqParts Tryd.prog 83 = none := by kernel_rfl
@[go_sem] theorem zeroV83 : zero1 Tryd.prog 83 = some (.int .i32 0) := by kernel_rfl
@[go_sem] theorem zero83 : zeroC Tryd.prog 83 = some [.int .i32 0] := by kernel_rfl
@[go_sem] theorem agg84 : aggT Tryd.prog 84 = some true := by kernel_rfl
@[go_sem] theorem cells84 : Tryd.prog.cellsOf 84 = 11 := by kernel_rfl
@[go_sem] theorem bytes84 : Tryd.prog.bytesOf 84 = 48 := by kernel_rfl
@[go_sem] theorem zero84 : zeroC Tryd.prog 84 = some [.int .u64 0, .int .u64 0, .int .u32 0, .int .u8 0, .int .u8 0, .int .u8 0, .int .u8 0, .nilFunc, .pointer none, .int .i32 0, .int .i32 0] := by kernel_rfl
@[go_sem] theorem fld84_0 : fld Tryd.prog 84 0 = some (0, 12) := by kernel_rfl
@[go_sem] theorem fld84_1 : fld Tryd.prog 84 1 = some (1, 12) := by kernel_rfl
@[go_sem] theorem fld84_2 : fld Tryd.prog 84 2 = some (2, 66) := by kernel_rfl
@[go_sem] theorem fld84_3 : fld Tryd.prog 84 3 = some (3, 79) := by kernel_rfl
@[go_sem] theorem fld84_4 : fld Tryd.prog 84 4 = some (4, 5) := by kernel_rfl
@[go_sem] theorem fld84_5 : fld Tryd.prog 84 5 = some (5, 5) := by kernel_rfl
@[go_sem] theorem fld84_6 : fld Tryd.prog 84 6 = some (6, 80) := by kernel_rfl
@[go_sem] theorem fld84_7 : fld Tryd.prog 84 7 = some (7, 81) := by kernel_rfl
@[go_sem] theorem fld84_8 : fld Tryd.prog 84 8 = some (8, 58) := by kernel_rfl
@[go_sem] theorem fld84_9 : fld Tryd.prog 84 9 = some (9, 82) := by kernel_rfl
@[go_sem] theorem fld84_10 : fld Tryd.prog 84 10 = some (10, 83) := by kernel_rfl
@[go_sem] theorem lay84 : layOf Tryd.prog 84 = some [(0, 1), (1, 1), (2, 1), (3, 1), (4, 1), (5, 1), (6, 1), (7, 1), (8, 1), (9, 1), (10, 1)] := by kernel_rfl
@[go_sem] theorem sized84 : sized Tryd.prog 84 = true := by kernel_rfl
@[go_sem] theorem agg85 : aggT Tryd.prog 85 = some true := by kernel_rfl
@[go_sem] theorem cells85 : Tryd.prog.cellsOf 85 = 11 := by kernel_rfl
@[go_sem] theorem bytes85 : Tryd.prog.bytesOf 85 = 48 := by kernel_rfl
@[go_sem] theorem zero85 : zeroC Tryd.prog 85 = some [.int .u64 0, .int .u64 0, .int .u32 0, .int .u8 0, .int .u8 0, .int .u8 0, .int .u8 0, .nilFunc, .pointer none, .int .i32 0, .int .i32 0] := by kernel_rfl
@[go_sem] theorem fld85_0 : fld Tryd.prog 85 0 = some (0, 12) := by kernel_rfl
@[go_sem] theorem fld85_1 : fld Tryd.prog 85 1 = some (1, 12) := by kernel_rfl
@[go_sem] theorem fld85_2 : fld Tryd.prog 85 2 = some (2, 66) := by kernel_rfl
@[go_sem] theorem fld85_3 : fld Tryd.prog 85 3 = some (3, 79) := by kernel_rfl
@[go_sem] theorem fld85_4 : fld Tryd.prog 85 4 = some (4, 5) := by kernel_rfl
@[go_sem] theorem fld85_5 : fld Tryd.prog 85 5 = some (5, 5) := by kernel_rfl
@[go_sem] theorem fld85_6 : fld Tryd.prog 85 6 = some (6, 80) := by kernel_rfl
@[go_sem] theorem fld85_7 : fld Tryd.prog 85 7 = some (7, 81) := by kernel_rfl
@[go_sem] theorem fld85_8 : fld Tryd.prog 85 8 = some (8, 58) := by kernel_rfl
@[go_sem] theorem fld85_9 : fld Tryd.prog 85 9 = some (9, 82) := by kernel_rfl
@[go_sem] theorem fld85_10 : fld Tryd.prog 85 10 = some (10, 83) := by kernel_rfl
@[go_sem] theorem lay85 : layOf Tryd.prog 85 = some [(0, 1), (1, 1), (2, 1), (3, 1), (4, 1), (5, 1), (6, 1), (7, 1), (8, 1), (9, 1), (10, 1)] := by kernel_rfl
@[go_sem] theorem sized85 : sized Tryd.prog 85 = true := by kernel_rfl
end Go.Proofs.YtainopabnnglgaaDoor
