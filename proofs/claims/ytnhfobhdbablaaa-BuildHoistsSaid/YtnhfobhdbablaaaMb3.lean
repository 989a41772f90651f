/-
  Part 3 of what the proof rests on: values that are told, code that is walked, what comes out.
-/
import Derived.Test.YtnhfobhdbablaaaMb2
import Derived.Test.YtnhfobhdbablaaaChecked
import Derived.KernelRfl
import Derived.WalkKit
import Derived.Lib.IndexLaws
import Derived.Lib.Join
import Derived.Shelf.Strings.Builder1
import Derived.Shelf.Strings.Builder2
import Derived.Shelf.Strings.OnBuilder
import Derived.Shelf.Strings.BuilderF
import Derived.Shelf.Strings.Search1
import Derived.Shelf.Strings.Search2
import Derived.Shelf.Strings.Search3
import Derived.Shelf.LaysM
import Derived.Shelf.Strings.Shaped
import Derived.Shelf.Strings.Prefix
import Derived.Shelf.Bits.Mul64
import Derived.Test.YtnhfobhdbablaaaProg
namespace Go.Proofs.Ytnhfobhdbablaaa
open Go
theorem mixed : Try.prog.follows .mixedOrders = true := by kernel_rfl
attribute [go_sem] Try.underlying2
@[go_sem] theorem agg2 : aggT Try.prog 2 = some false := by kernel_rfl
@[go_sem] theorem cells2 : Try.prog.cellsOf 2 = 1 := by kernel_rfl
@[go_sem] theorem bytes2 : Try.prog.bytesOf 2 = 8 := by kernel_rfl
@[go_sem] theorem parts2 : eqParts Try.prog 2 = none := by kernel_rfl
@[go_sem] theorem zeroV2 : zero1 Try.prog 2 = some (.int .i64 0) := by kernel_rfl
@[go_sem] theorem zero2 : zeroC Try.prog 2 = some [.int .i64 0] := by kernel_rfl
attribute [go_sem] Try.underlying3
@[go_sem] theorem agg3 : aggT Try.prog 3 = some false := by kernel_rfl
@[go_sem] theorem cells3 : Try.prog.cellsOf 3 = 1 := by kernel_rfl
@[go_sem] theorem bytes3 : Try.prog.bytesOf 3 = 8 := by kernel_rfl
@[go_sem] theorem parts3 : eqParts Try.prog 3 = none := by kernel_rfl
@[go_sem] theorem zeroV3 : zero1 Try.prog 3 = some (.int .i64 0) := by kernel_rfl
@[go_sem] theorem zero3 : zeroC Try.prog 3 = some [.int .i64 0] := by kernel_rfl
attribute [go_sem] Try.underlying4
@[go_sem] theorem agg4 : aggT Try.prog 4 = some false := by kernel_rfl
@[go_sem] theorem cells4 : Try.prog.cellsOf 4 = 1 := by kernel_rfl
@[go_sem] theorem bytes4 : Try.prog.bytesOf 4 = 1 := by kernel_rfl
@[go_sem] theorem parts4 : eqParts Try.prog 4 = none := by kernel_rfl
@[go_sem] theorem zeroV4 : zero1 Try.prog 4 = some (.bool false) := by kernel_rfl
@[go_sem] theorem zero4 : zeroC Try.prog 4 = some [.bool false] := by kernel_rfl
attribute [go_sem] Try.underlying5
@[go_sem] theorem agg5 : aggT Try.prog 5 = some false := by kernel_rfl
@[go_sem] theorem cells5 : Try.prog.cellsOf 5 = 1 := by kernel_rfl
@[go_sem] theorem bytes5 : Try.prog.bytesOf 5 = 1 := by kernel_rfl
@[go_sem] theorem parts5 : eqParts Try.prog 5 = none := by kernel_rfl
@[go_sem] theorem zeroV5 : zero1 Try.prog 5 = some (.int .u8 0) := by kernel_rfl
@[go_sem] theorem zero5 : zeroC Try.prog 5 = some [.int .u8 0] := by kernel_rfl
attribute [go_sem] Try.underlying6
@[go_sem] theorem agg6 : aggT Try.prog 6 = some false := by kernel_rfl
@[go_sem] theorem cells6 : Try.prog.cellsOf 6 = 1 := by kernel_rfl
@[go_sem] theorem bytes6 : Try.prog.bytesOf 6 = 1 := by kernel_rfl
@[go_sem] theorem parts6 : eqParts Try.prog 6 = none := by kernel_rfl
@[go_sem] theorem zeroV6 : zero1 Try.prog 6 = some (.int .u8 0) := by kernel_rfl
@[go_sem] theorem zero6 : zeroC Try.prog 6 = some [.int .u8 0] := by kernel_rfl
@[go_sem] theorem agg7 : aggT Try.prog 7 = some true := by kernel_rfl
@[go_sem] theorem cells7 : Try.prog.cellsOf 7 = 4 := by kernel_rfl
@[go_sem] theorem bytes7 : Try.prog.bytesOf 7 = 24 := by kernel_rfl
@[go_sem] theorem zero7 : zeroC Try.prog 7 = some [.int .i64 0, .int .i64 0, .bool false, .int .u8 0] := by kernel_rfl
@[go_sem] theorem fld7_0 : fld Try.prog 7 0 = some (0, 2) := by kernel_rfl
@[go_sem] theorem fld7_1 : fld Try.prog 7 1 = some (1, 3) := by kernel_rfl
@[go_sem] theorem fld7_2 : fld Try.prog 7 2 = some (2, 4) := by kernel_rfl
@[go_sem] theorem fld7_3 : fld Try.prog 7 3 = some (3, 6) := by kernel_rfl
@[go_sem] theorem lay7 : layOf Try.prog 7 = some [(0, 1), (1, 1), (2, 1), (3, 1)] := by kernel_rfl
@[go_sem] theorem sized7 : sized Try.prog 7 = true := by kernel_rfl
@[go_sem] theorem agg8 : aggT Try.prog 8 = some true := by kernel_rfl
@[go_sem] theorem cells8 : Try.prog.cellsOf 8 = 4 := by kernel_rfl
@[go_sem] theorem bytes8 : Try.prog.bytesOf 8 = 24 := by kernel_rfl
@[go_sem] theorem zero8 : zeroC Try.prog 8 = some [.int .i64 0, .int .i64 0, .bool false, .int .u8 0] := by kernel_rfl
@[go_sem] theorem fld8_0 : fld Try.prog 8 0 = some (0, 2) := by kernel_rfl
@[go_sem] theorem fld8_1 : fld Try.prog 8 1 = some (1, 3) := by kernel_rfl
@[go_sem] theorem fld8_2 : fld Try.prog 8 2 = some (2, 4) := by kernel_rfl
@[go_sem] theorem fld8_3 : fld Try.prog 8 3 = some (3, 6) := by kernel_rfl
@[go_sem] theorem lay8 : layOf Try.prog 8 = some [(0, 1), (1, 1), (2, 1), (3, 1)] := by kernel_rfl
@[go_sem] theorem sized8 : sized Try.prog 8 = true := by kernel_rfl
attribute [go_sem] Try.underlying9
@[go_sem] theorem agg9 : aggT Try.prog 9 = some false := by kernel_rfl
@[go_sem] theorem cells9 : Try.prog.cellsOf 9 = 1 := by kernel_rfl
@[go_sem] theorem bytes9 : Try.prog.bytesOf 9 = 16 := by kernel_rfl
@[go_sem] theorem parts9 : eqParts Try.prog 9 = none := by kernel_rfl
@[go_sem] theorem zeroV9 : zero1 Try.prog 9 = some (.string ⟨#[]⟩) := by kernel_rfl
@[go_sem] theorem zero9 : zeroC Try.prog 9 = some [.string ⟨#[]⟩] := by kernel_rfl
attribute [go_sem] Try.underlying10
@[go_sem] theorem agg10 : aggT Try.prog 10 = some false := by kernel_rfl
@[go_sem] theorem cells10 : Try.prog.cellsOf 10 = 1 := by kernel_rfl
@[go_sem] theorem bytes10 : Try.prog.bytesOf 10 = 16 := by kernel_rfl
@[go_sem] theorem parts10 : eqParts Try.prog 10 = none := by kernel_rfl
@[go_sem] theorem zeroV10 : zero1 Try.prog 10 = some (.string ⟨#[]⟩) := by kernel_rfl
@[go_sem] theorem zero10 : zeroC Try.prog 10 = some [.string ⟨#[]⟩] := by kernel_rfl
attribute [go_sem] Try.underlying11
@[go_sem] theorem agg11 : aggT Try.prog 11 = some false := by kernel_rfl
@[go_sem] theorem cells11 : Try.prog.cellsOf 11 = 1 := by kernel_rfl
@[go_sem] theorem bytes11 : Try.prog.bytesOf 11 = 16 := by kernel_rfl
@[go_sem] theorem parts11 : eqParts Try.prog 11 = none := by kernel_rfl
@[go_sem] theorem zeroV11 : zero1 Try.prog 11 = some (.string ⟨#[]⟩) := by kernel_rfl
@[go_sem] theorem zero11 : zeroC Try.prog 11 = some [.string ⟨#[]⟩] := by kernel_rfl
attribute [go_sem] Try.underlying12
@[go_sem] theorem agg12 : aggT Try.prog 12 = some false := by kernel_rfl
@[go_sem] theorem cells12 : Try.prog.cellsOf 12 = 1 := by kernel_rfl
@[go_sem] theorem bytes12 : Try.prog.bytesOf 12 = 8 := by kernel_rfl
@[go_sem] theorem parts12 : eqParts Try.prog 12 = none := by kernel_rfl
@[go_sem] theorem zeroV12 : zero1 Try.prog 12 = some (.int .u64 0) := by kernel_rfl
@[go_sem] theorem zero12 : zeroC Try.prog 12 = some [.int .u64 0] := by kernel_rfl
@[go_sem] theorem agg13 : aggT Try.prog 13 = some true := by kernel_rfl
@[go_sem] theorem cells13 : Try.prog.cellsOf 13 = 2 := by kernel_rfl
@[go_sem] theorem bytes13 : Try.prog.bytesOf 13 = 24 := by kernel_rfl
@[go_sem] theorem zero13 : zeroC Try.prog 13 = some [.string ⟨#[]⟩, .int .u64 0] := by kernel_rfl
@[go_sem] theorem fld13_0 : fld Try.prog 13 0 = some (0, 9) := by kernel_rfl
@[go_sem] theorem fld13_1 : fld Try.prog 13 1 = some (1, 12) := by kernel_rfl
@[go_sem] theorem lay13 : layOf Try.prog 13 = some [(0, 1), (1, 1)] := by kernel_rfl
@[go_sem] theorem sized13 : sized Try.prog 13 = true := by kernel_rfl
@[go_sem] theorem agg14 : aggT Try.prog 14 = some true := by kernel_rfl
@[go_sem] theorem cells14 : Try.prog.cellsOf 14 = 2 := by kernel_rfl
@[go_sem] theorem bytes14 : Try.prog.bytesOf 14 = 24 := by kernel_rfl
@[go_sem] theorem zero14 : zeroC Try.prog 14 = some [.string ⟨#[]⟩, .int .u64 0] := by kernel_rfl
@[go_sem] theorem fld14_0 : fld Try.prog 14 0 = some (0, 9) := by kernel_rfl
@[go_sem] theorem fld14_1 : fld Try.prog 14 1 = some (1, 12) := by kernel_rfl
@[go_sem] theorem lay14 : layOf Try.prog 14 = some [(0, 1), (1, 1)] := by kernel_rfl
@[go_sem] theorem sized14 : sized Try.prog 14 = true := by kernel_rfl
attribute [go_sem] Try.underlying15
@[go_sem] theorem agg15 : aggT Try.prog 15 = some false := by kernel_rfl
@[go_sem] theorem cells15 : Try.prog.cellsOf 15 = 1 := by kernel_rfl
@[go_sem] theorem bytes15 : Try.prog.bytesOf 15 = 8 := by kernel_rfl
@[go_sem] theorem parts15 : eqParts Try.prog 15 = none := by kernel_rfl
@[go_sem] theorem zeroV15 : zero1 Try.prog 15 = some (.pointer none) := by kernel_rfl
@[go_sem] theorem zero15 : zeroC Try.prog 15 = some [.pointer none] := by kernel_rfl
attribute [go_sem] Try.underlying16
@[go_sem] theorem agg16 : aggT Try.prog 16 = some false := by kernel_rfl
@[go_sem] theorem cells16 : Try.prog.cellsOf 16 = 1 := by kernel_rfl
@[go_sem] theorem bytes16 : Try.prog.bytesOf 16 = 8 := by kernel_rfl
@[go_sem] theorem parts16 : eqParts Try.prog 16 = none := by kernel_rfl
@[go_sem] theorem zeroV16 : zero1 Try.prog 16 = some (.pointer none) := by kernel_rfl
@[go_sem] theorem zero16 : zeroC Try.prog 16 = some [.pointer none] := by kernel_rfl
attribute [go_sem] Try.underlying17
@[go_sem] theorem agg17 : aggT Try.prog 17 = some false := by kernel_rfl
@[go_sem] theorem cells17 : Try.prog.cellsOf 17 = 1 := by kernel_rfl
@[go_sem] theorem bytes17 : Try.prog.bytesOf 17 = 8 := by kernel_rfl
@[go_sem] theorem parts17 : eqParts Try.prog 17 = none := by kernel_rfl
@[go_sem] theorem zeroV17 : zero1 Try.prog 17 = some (.pointer none) := by kernel_rfl
@[go_sem] theorem zero17 : zeroC Try.prog 17 = some [.pointer none] := by kernel_rfl
@[go_sem] theorem agg18 : aggT Try.prog 18 = some true := by kernel_rfl
@[go_sem] theorem cells18 : Try.prog.cellsOf 18 = 1 := by kernel_rfl
@[go_sem] theorem bytes18 : Try.prog.bytesOf 18 = 8 := by kernel_rfl
@[go_sem] theorem zero18 : zeroC Try.prog 18 = some [.pointer none] := by kernel_rfl
@[go_sem] theorem fld18_0 : fld Try.prog 18 0 = some (0, 17) := by kernel_rfl
@[go_sem] theorem lay18 : layOf Try.prog 18 = some [(0, 1)] := by kernel_rfl
@[go_sem] theorem sized18 : sized Try.prog 18 = true := by kernel_rfl
@[go_sem] theorem agg19 : aggT Try.prog 19 = some true := by kernel_rfl
@[go_sem] theorem cells19 : Try.prog.cellsOf 19 = 1 := by kernel_rfl
@[go_sem] theorem bytes19 : Try.prog.bytesOf 19 = 8 := by kernel_rfl
@[go_sem] theorem zero19 : zeroC Try.prog 19 = some [.pointer none] := by kernel_rfl
@[go_sem] theorem fld19_0 : fld Try.prog 19 0 = some (0, 17) := by kernel_rfl
@[go_sem] theorem lay19 : layOf Try.prog 19 = some [(0, 1)] := by kernel_rfl
@[go_sem] theorem sized19 : sized Try.prog 19 = true := by kernel_rfl
@[go_sem] theorem agg20 : aggT Try.prog 20 = some false := by kernel_rfl
@[go_sem] theorem cells20 : Try.prog.cellsOf 20 = 1 := by kernel_rfl
@[go_sem] theorem bytes20 : Try.prog.bytesOf 20 = 16 := by kernel_rfl
@[go_sem] theorem parts20 : eqParts Try.prog 20 = none := by kernel_rfl
@[go_sem] theorem zeroV20 : zero1 Try.prog 20 = some (.nilIface) := by kernel_rfl
@[go_sem] theorem zero20 : zeroC Try.prog 20 = some [.nilIface] := by kernel_rfl
attribute [go_sem] Try.underlying21
@[go_sem] theorem agg21 : aggT Try.prog 21 = some false := by kernel_rfl
@[go_sem] theorem cells21 : Try.prog.cellsOf 21 = 1 := by kernel_rfl
@[go_sem] theorem bytes21 : Try.prog.bytesOf 21 = 4 := by kernel_rfl
@[go_sem] theorem parts21 : eqParts Try.prog 21 = none := by kernel_rfl
@[go_sem] theorem zeroV21 : zero1 Try.prog 21 = some (.int .i32 0) := by kernel_rfl
@[go_sem] theorem zero21 : zeroC Try.prog 21 = some [.int .i32 0] := by kernel_rfl
attribute [go_sem] Try.underlying22
@[go_sem] theorem agg22 : aggT Try.prog 22 = some true := by kernel_rfl
@[go_sem] theorem cells22 : Try.prog.cellsOf 22 = 3 := by kernel_rfl
@[go_sem] theorem bytes22 : Try.prog.bytesOf 22 = 48 := by kernel_rfl
@[go_sem] theorem lay22 : layOf Try.prog 22 = none := by kernel_rfl
@[go_sem] theorem arr22 : arrOf Try.prog 22 = some 1 := by kernel_rfl
@[go_sem] theorem parts22 : eqParts Try.prog 22 = some [(0, 9), (1, 9), (2, 9)] := by kernel_rfl
@[go_sem] theorem eqg22 : Try.prog.eqGuardType Try.prog.depth 22 = false := by kernel_rfl
@[go_sem] theorem zero22 : zeroC Try.prog 22 = some [.string ⟨#[]⟩, .string ⟨#[]⟩, .string ⟨#[]⟩] := by kernel_rfl
@[go_sem] theorem agg23 : aggT Try.prog 23 = some true := by kernel_rfl
@[go_sem] theorem cells23 : Try.prog.cellsOf 23 = 9 := by kernel_rfl
@[go_sem] theorem bytes23 : Try.prog.bytesOf 23 = 128 := by kernel_rfl
@[go_sem] theorem parts23 : eqParts Try.prog 23 = some [(0, 9), (1, 9), (2, 9), (3, 4), (4, 9), (5, 9), (6, 9), (7, 9), (8, 4)] := by kernel_rfl
@[go_sem] theorem eqg23 : Try.prog.eqGuardType Try.prog.depth 23 = false := by kernel_rfl
@[go_sem] theorem zero23 : zeroC Try.prog 23 = some [.string ⟨#[]⟩, .string ⟨#[]⟩, .string ⟨#[]⟩, .bool false, .string ⟨#[]⟩, .string ⟨#[]⟩, .string ⟨#[]⟩, .string ⟨#[]⟩, .bool false] := by kernel_rfl
@[go_sem] theorem fld23_0 : fld Try.prog 23 0 = some (0, 9) := by kernel_rfl
@[go_sem] theorem fld23_1 : fld Try.prog 23 1 = some (1, 9) := by kernel_rfl
@[go_sem] theorem fld23_2 : fld Try.prog 23 2 = some (2, 9) := by kernel_rfl
@[go_sem] theorem fld23_3 : fld Try.prog 23 3 = some (3, 4) := by kernel_rfl
@[go_sem] theorem fld23_4 : fld Try.prog 23 4 = some (4, 9) := by kernel_rfl
@[go_sem] theorem fld23_5 : fld Try.prog 23 5 = some (5, 9) := by kernel_rfl
@[go_sem] theorem fld23_6 : fld Try.prog 23 6 = some (6, 9) := by kernel_rfl
@[go_sem] theorem fld23_7 : fld Try.prog 23 7 = some (7, 9) := by kernel_rfl
@[go_sem] theorem fld23_8 : fld Try.prog 23 8 = some (8, 4) := by kernel_rfl
@[go_sem] theorem lay23 : layOf Try.prog 23 = some [(0, 1), (1, 1), (2, 1), (3, 1), (4, 1), (5, 1), (6, 1), (7, 1), (8, 1)] := by kernel_rfl
@[go_sem] theorem sized23 : sized Try.prog 23 = true := by kernel_rfl
@[go_sem] theorem agg24 : aggT Try.prog 24 = some true := by kernel_rfl
@[go_sem] theorem cells24 : Try.prog.cellsOf 24 = 9 := by kernel_rfl
@[go_sem] theorem bytes24 : Try.prog.bytesOf 24 = 128 := by kernel_rfl
@[go_sem] theorem parts24 : eqParts Try.prog 24 = some [(0, 9), (1, 9), (2, 9), (3, 4), (4, 9), (5, 9), (6, 9), (7, 9), (8, 4)] := by kernel_rfl
@[go_sem] theorem eqg24 : Try.prog.eqGuardType Try.prog.depth 24 = false := by kernel_rfl
@[go_sem] theorem zero24 : zeroC Try.prog 24 = some [.string ⟨#[]⟩, .string ⟨#[]⟩, .string ⟨#[]⟩, .bool false, .string ⟨#[]⟩, .string ⟨#[]⟩, .string ⟨#[]⟩, .string ⟨#[]⟩, .bool false] := by kernel_rfl
@[go_sem] theorem fld24_0 : fld Try.prog 24 0 = some (0, 9) := by kernel_rfl
@[go_sem] theorem fld24_1 : fld Try.prog 24 1 = some (1, 9) := by kernel_rfl
@[go_sem] theorem fld24_2 : fld Try.prog 24 2 = some (2, 9) := by kernel_rfl
@[go_sem] theorem fld24_3 : fld Try.prog 24 3 = some (3, 4) := by kernel_rfl
@[go_sem] theorem fld24_4 : fld Try.prog 24 4 = some (4, 9) := by kernel_rfl
@[go_sem] theorem fld24_5 : fld Try.prog 24 5 = some (5, 9) := by kernel_rfl
@[go_sem] theorem fld24_6 : fld Try.prog 24 6 = some (6, 9) := by kernel_rfl
@[go_sem] theorem fld24_7 : fld Try.prog 24 7 = some (7, 9) := by kernel_rfl
@[go_sem] theorem fld24_8 : fld Try.prog 24 8 = some (8, 4) := by kernel_rfl
@[go_sem] theorem lay24 : layOf Try.prog 24 = some [(0, 1), (1, 1), (2, 1), (3, 1), (4, 1), (5, 1), (6, 1), (7, 1), (8, 1)] := by kernel_rfl
@[go_sem] theorem sized24 : sized Try.prog 24 = true := by kernel_rfl
attribute [go_sem] Try.underlying26
@[go_sem] theorem agg26 : aggT Try.prog 26 = some false := by kernel_rfl
@[go_sem] theorem cells26 : Try.prog.cellsOf 26 = 1 := by kernel_rfl
@[go_sem] theorem bytes26 : Try.prog.bytesOf 26 = 24 := by kernel_rfl
@[go_sem] theorem parts26 : eqParts Try.prog 26 = none := by kernel_rfl
@[go_sem] theorem zeroV26 : zero1 Try.prog 26 = some (.slice none 0 0) := by kernel_rfl
@[go_sem] theorem zero26 : zeroC Try.prog 26 = some [.slice none 0 0] := by kernel_rfl
attribute [go_sem] Try.underlying28
@[go_sem] theorem agg28 : aggT Try.prog 28 = some false := by kernel_rfl
@[go_sem] theorem cells28 : Try.prog.cellsOf 28 = 1 := by kernel_rfl
@[go_sem] theorem bytes28 : Try.prog.bytesOf 28 = 24 := by kernel_rfl
@[go_sem] theorem parts28 : eqParts Try.prog 28 = none := by kernel_rfl
@[go_sem] theorem zeroV28 : zero1 Try.prog 28 = some (.slice none 0 0) := by kernel_rfl
@[go_sem] theorem zero28 : zeroC Try.prog 28 = some [.slice none 0 0] := by kernel_rfl
@[go_sem] theorem agg29 : aggT Try.prog 29 = some true := by kernel_rfl
@[go_sem] theorem cells29 : Try.prog.cellsOf 29 = 3 := by kernel_rfl
@[go_sem] theorem bytes29 : Try.prog.bytesOf 29 = 72 := by kernel_rfl
@[go_sem] theorem parts29 : eqParts Try.prog 29 = some [(0, 28), (1, 28), (2, 28)] := by kernel_rfl
@[go_sem] theorem eqg29 : Try.prog.eqGuardType Try.prog.depth 29 = false := by kernel_rfl
@[go_sem] theorem zero29 : zeroC Try.prog 29 = some [.slice none 0 0, .slice none 0 0, .slice none 0 0] := by kernel_rfl
@[go_sem] theorem fld29_0 : fld Try.prog 29 0 = some (0, 28) := by kernel_rfl
@[go_sem] theorem fld29_1 : fld Try.prog 29 1 = some (1, 28) := by kernel_rfl
@[go_sem] theorem fld29_2 : fld Try.prog 29 2 = some (2, 28) := by kernel_rfl
@[go_sem] theorem lay29 : layOf Try.prog 29 = some [(0, 1), (1, 1), (2, 1)] := by kernel_rfl
@[go_sem] theorem sized29 : sized Try.prog 29 = true := by kernel_rfl
@[go_sem] theorem agg30 : aggT Try.prog 30 = some true := by kernel_rfl
@[go_sem] theorem cells30 : Try.prog.cellsOf 30 = 3 := by kernel_rfl
@[go_sem] theorem bytes30 : Try.prog.bytesOf 30 = 72 := by kernel_rfl
@[go_sem] theorem parts30 : eqParts Try.prog 30 = some [(0, 28), (1, 28), (2, 28)] := by kernel_rfl
@[go_sem] theorem eqg30 : Try.prog.eqGuardType Try.prog.depth 30 = false := by kernel_rfl
@[go_sem] theorem zero30 : zeroC Try.prog 30 = some [.slice none 0 0, .slice none 0 0, .slice none 0 0] := by kernel_rfl
@[go_sem] theorem fld30_0 : fld Try.prog 30 0 = some (0, 28) := by kernel_rfl
@[go_sem] theorem fld30_1 : fld Try.prog 30 1 = some (1, 28) := by kernel_rfl
@[go_sem] theorem fld30_2 : fld Try.prog 30 2 = some (2, 28) := by kernel_rfl
@[go_sem] theorem lay30 : layOf Try.prog 30 = some [(0, 1), (1, 1), (2, 1)] := by kernel_rfl
@[go_sem] theorem sized30 : sized Try.prog 30 = true := by kernel_rfl
attribute [go_sem] Try.underlying31
@[go_sem] theorem agg31 : aggT Try.prog 31 = some false := by kernel_rfl
@[go_sem] theorem cells31 : Try.prog.cellsOf 31 = 1 := by kernel_rfl
@[go_sem] theorem bytes31 : Try.prog.bytesOf 31 = 24 := by kernel_rfl
@[go_sem] theorem parts31 : eqParts Try.prog 31 = none := by kernel_rfl
@[go_sem] theorem zeroV31 : zero1 Try.prog 31 = some (.slice none 0 0) := by kernel_rfl
@[go_sem] theorem zero31 : zeroC Try.prog 31 = some [.slice none 0 0] := by kernel_rfl
@[go_sem] theorem agg35 : aggT Try.prog 35 = some true := by kernel_rfl
@[go_sem] theorem cells35 : Try.prog.cellsOf 35 = 3 := by kernel_rfl
@[go_sem] theorem bytes35 : Try.prog.bytesOf 35 = 72 := by kernel_rfl
@[go_sem] theorem parts35 : eqParts Try.prog 35 = some [(0, 28), (1, 28), (2, 28)] := by kernel_rfl
@[go_sem] theorem eqg35 : Try.prog.eqGuardType Try.prog.depth 35 = false := by kernel_rfl
@[go_sem] theorem zero35 : zeroC Try.prog 35 = some [.slice none 0 0, .slice none 0 0, .slice none 0 0] := by kernel_rfl
@[go_sem] theorem fld35_0 : fld Try.prog 35 0 = some (0, 28) := by kernel_rfl
@[go_sem] theorem fld35_1 : fld Try.prog 35 1 = some (1, 28) := by kernel_rfl
@[go_sem] theorem fld35_2 : fld Try.prog 35 2 = some (2, 28) := by kernel_rfl
@[go_sem] theorem lay35 : layOf Try.prog 35 = some [(0, 1), (1, 1), (2, 1)] := by kernel_rfl
@[go_sem] theorem sized35 : sized Try.prog 35 = true := by kernel_rfl
attribute [go_sem] Try.underlying37
@[go_sem] theorem agg37 : aggT Try.prog 37 = some false := by kernel_rfl
@[go_sem] theorem cells37 : Try.prog.cellsOf 37 = 1 := by kernel_rfl
@[go_sem] theorem bytes37 : Try.prog.bytesOf 37 = 24 := by kernel_rfl
@[go_sem] theorem parts37 : eqParts Try.prog 37 = none := by kernel_rfl
@[go_sem] theorem zeroV37 : zero1 Try.prog 37 = some (.slice none 0 0) := by kernel_rfl
@[go_sem] theorem zero37 : zeroC Try.prog 37 = some [.slice none 0 0] := by kernel_rfl
attribute [go_sem] Try.underlying39
@[go_sem] theorem agg39 : aggT Try.prog 39 = some false := by kernel_rfl
@[go_sem] theorem cells39 : Try.prog.cellsOf 39 = 1 := by kernel_rfl
@[go_sem] theorem bytes39 : Try.prog.bytesOf 39 = 24 := by kernel_rfl
@[go_sem] theorem parts39 : eqParts Try.prog 39 = none := by kernel_rfl
@[go_sem] theorem zeroV39 : zero1 Try.prog 39 = some (.slice none 0 0) := by kernel_rfl
@[go_sem] theorem zero39 : zeroC Try.prog 39 = some [.slice none 0 0] := by kernel_rfl
attribute [go_sem] Try.underlying40
@[go_sem] theorem agg40 : aggT Try.prog 40 = some false := by kernel_rfl
@[go_sem] theorem cells40 : Try.prog.cellsOf 40 = 1 := by kernel_rfl
@[go_sem] theorem bytes40 : Try.prog.bytesOf 40 = 24 := by kernel_rfl
@[go_sem] theorem parts40 : eqParts Try.prog 40 = none := by kernel_rfl
@[go_sem] theorem zeroV40 : zero1 Try.prog 40 = some (.slice none 0 0) := by kernel_rfl
@[go_sem] theorem zero40 : zeroC Try.prog 40 = some [.slice none 0 0] := by kernel_rfl
attribute [go_sem] Try.underlying41
@[go_sem] theorem agg41 : aggT Try.prog 41 = some false := by kernel_rfl
@[go_sem] theorem cells41 : Try.prog.cellsOf 41 = 1 := by kernel_rfl
@[go_sem] theorem bytes41 : Try.prog.bytesOf 41 = 8 := by kernel_rfl
@[go_sem] theorem parts41 : eqParts Try.prog 41 = none := by kernel_rfl
@[go_sem] theorem zeroV41 : zero1 Try.prog 41 = some (.int .i64 0) := by kernel_rfl
@[go_sem] theorem zero41 : zeroC Try.prog 41 = some [.int .i64 0] := by kernel_rfl
@[go_sem] theorem agg44 : aggT Try.prog 44 = some true := by kernel_rfl
@[go_sem] theorem cells44 : Try.prog.cellsOf 44 = 3 := by kernel_rfl
@[go_sem] theorem bytes44 : Try.prog.bytesOf 44 = 48 := by kernel_rfl
@[go_sem] theorem parts44 : eqParts Try.prog 44 = some [(0, 9), (1, 9), (2, 9)] := by kernel_rfl
@[go_sem] theorem eqg44 : Try.prog.eqGuardType Try.prog.depth 44 = false := by kernel_rfl
@[go_sem] theorem zero44 : zeroC Try.prog 44 = some [.string ⟨#[]⟩, .string ⟨#[]⟩, .string ⟨#[]⟩] := by kernel_rfl
@[go_sem] theorem fld44_0 : fld Try.prog 44 0 = some (0, 9) := by kernel_rfl
@[go_sem] theorem fld44_1 : fld Try.prog 44 1 = some (1, 9) := by kernel_rfl
@[go_sem] theorem fld44_2 : fld Try.prog 44 2 = some (2, 9) := by kernel_rfl
@[go_sem] theorem lay44 : layOf Try.prog 44 = some [(0, 1), (1, 1), (2, 1)] := by kernel_rfl
@[go_sem] theorem sized44 : sized Try.prog 44 = true := by kernel_rfl
@[go_sem] theorem agg45 : aggT Try.prog 45 = some true := by kernel_rfl
@[go_sem] theorem cells45 : Try.prog.cellsOf 45 = 3 := by kernel_rfl
@[go_sem] theorem bytes45 : Try.prog.bytesOf 45 = 48 := by kernel_rfl
@[go_sem] theorem parts45 : eqParts Try.prog 45 = some [(0, 9), (1, 9), (2, 9)] := by kernel_rfl
@[go_sem] theorem eqg45 : Try.prog.eqGuardType Try.prog.depth 45 = false := by kernel_rfl
@[go_sem] theorem zero45 : zeroC Try.prog 45 = some [.string ⟨#[]⟩, .string ⟨#[]⟩, .string ⟨#[]⟩] := by kernel_rfl
@[go_sem] theorem fld45_0 : fld Try.prog 45 0 = some (0, 9) := by kernel_rfl
@[go_sem] theorem fld45_1 : fld Try.prog 45 1 = some (1, 9) := by kernel_rfl
@[go_sem] theorem fld45_2 : fld Try.prog 45 2 = some (2, 9) := by kernel_rfl
@[go_sem] theorem lay45 : layOf Try.prog 45 = some [(0, 1), (1, 1), (2, 1)] := by kernel_rfl
@[go_sem] theorem sized45 : sized Try.prog 45 = true := by kernel_rfl
@[go_sem] theorem agg56 : aggT Try.prog 56 = some true := by kernel_rfl
@[go_sem] theorem cells56 : Try.prog.cellsOf 56 = 2 := by kernel_rfl
@[go_sem] theorem bytes56 : Try.prog.bytesOf 56 = 16 := by kernel_rfl
@[go_sem] theorem parts56 : eqParts Try.prog 56 = some [(0, 3), (1, 3)] := by kernel_rfl
@[go_sem] theorem eqg56 : Try.prog.eqGuardType Try.prog.depth 56 = false := by kernel_rfl
@[go_sem] theorem zero56 : zeroC Try.prog 56 = some [.int .i64 0, .int .i64 0] := by kernel_rfl
@[go_sem] theorem fld56_0 : fld Try.prog 56 0 = some (0, 3) := by kernel_rfl
@[go_sem] theorem fld56_1 : fld Try.prog 56 1 = some (1, 3) := by kernel_rfl
@[go_sem] theorem lay56 : layOf Try.prog 56 = some [(0, 1), (1, 1)] := by kernel_rfl
@[go_sem] theorem sized56 : sized Try.prog 56 = true := by kernel_rfl
@[go_sem] theorem agg57 : aggT Try.prog 57 = some true := by kernel_rfl
@[go_sem] theorem cells57 : Try.prog.cellsOf 57 = 2 := by kernel_rfl
@[go_sem] theorem bytes57 : Try.prog.bytesOf 57 = 16 := by kernel_rfl
@[go_sem] theorem parts57 : eqParts Try.prog 57 = some [(0, 3), (1, 3)] := by kernel_rfl
@[go_sem] theorem eqg57 : Try.prog.eqGuardType Try.prog.depth 57 = false := by kernel_rfl
@[go_sem] theorem zero57 : zeroC Try.prog 57 = some [.int .i64 0, .int .i64 0] := by kernel_rfl
@[go_sem] theorem fld57_0 : fld Try.prog 57 0 = some (0, 3) := by kernel_rfl
@[go_sem] theorem fld57_1 : fld Try.prog 57 1 = some (1, 3) := by kernel_rfl
@[go_sem] theorem lay57 : layOf Try.prog 57 = some [(0, 1), (1, 1)] := by kernel_rfl
@[go_sem] theorem sized57 : sized Try.prog 57 = true := by kernel_rfl
@[go_sem] theorem agg58 : aggT Try.prog 58 = some true := by kernel_rfl
@[go_sem] theorem cells58 : Try.prog.cellsOf 58 = 7 := by kernel_rfl
@[go_sem] theorem bytes58 : Try.prog.bytesOf 58 = 56 := by kernel_rfl
@[go_sem] theorem parts58 : eqParts Try.prog 58 = some [(0, 4), (1, 57), (3, 57), (5, 57)] := by kernel_rfl
@[go_sem] theorem eqg58 : Try.prog.eqGuardType Try.prog.depth 58 = false := by kernel_rfl
@[go_sem] theorem zero58 : zeroC Try.prog 58 = some [.bool false, .int .i64 0, .int .i64 0, .int .i64 0, .int .i64 0, .int .i64 0, .int .i64 0] := by kernel_rfl
@[go_sem] theorem fld58_0 : fld Try.prog 58 0 = some (0, 4) := by kernel_rfl
@[go_sem] theorem fld58_1 : fld Try.prog 58 1 = some (1, 57) := by kernel_rfl
@[go_sem] theorem fld58_2 : fld Try.prog 58 2 = some (3, 57) := by kernel_rfl
@[go_sem] theorem fld58_3 : fld Try.prog 58 3 = some (5, 57) := by kernel_rfl
@[go_sem] theorem lay58 : layOf Try.prog 58 = some [(0, 1), (1, 2), (3, 2), (5, 2)] := by kernel_rfl
@[go_sem] theorem sized58 : sized Try.prog 58 = true := by kernel_rfl
@[go_sem] theorem agg59 : aggT Try.prog 59 = some true := by kernel_rfl
@[go_sem] theorem cells59 : Try.prog.cellsOf 59 = 7 := by kernel_rfl
@[go_sem] theorem bytes59 : Try.prog.bytesOf 59 = 56 := by kernel_rfl
@[go_sem] theorem parts59 : eqParts Try.prog 59 = some [(0, 4), (1, 57), (3, 57), (5, 57)] := by kernel_rfl
@[go_sem] theorem eqg59 : Try.prog.eqGuardType Try.prog.depth 59 = false := by kernel_rfl
@[go_sem] theorem zero59 : zeroC Try.prog 59 = some [.bool false, .int .i64 0, .int .i64 0, .int .i64 0, .int .i64 0, .int .i64 0, .int .i64 0] := by kernel_rfl
@[go_sem] theorem fld59_0 : fld Try.prog 59 0 = some (0, 4) := by kernel_rfl
@[go_sem] theorem fld59_1 : fld Try.prog 59 1 = some (1, 57) := by kernel_rfl
@[go_sem] theorem fld59_2 : fld Try.prog 59 2 = some (3, 57) := by kernel_rfl
@[go_sem] theorem fld59_3 : fld Try.prog 59 3 = some (5, 57) := by kernel_rfl
@[go_sem] theorem lay59 : layOf Try.prog 59 = some [(0, 1), (1, 2), (3, 2), (5, 2)] := by kernel_rfl
@[go_sem] theorem sized59 : sized Try.prog 59 = true := by kernel_rfl
@[go_sem] theorem agg61 : aggT Try.prog 61 = some true := by kernel_rfl
@[go_sem] theorem cells61 : Try.prog.cellsOf 61 = 9 := by kernel_rfl
@[go_sem] theorem bytes61 : Try.prog.bytesOf 61 = 128 := by kernel_rfl
@[go_sem] theorem parts61 : eqParts Try.prog 61 = some [(0, 45), (3, 4), (4, 9), (5, 9), (6, 9), (7, 9), (8, 4)] := by kernel_rfl
@[go_sem] theorem eqg61 : Try.prog.eqGuardType Try.prog.depth 61 = false := by kernel_rfl
@[go_sem] theorem zero61 : zeroC Try.prog 61 = some [.string ⟨#[]⟩, .string ⟨#[]⟩, .string ⟨#[]⟩, .bool false, .string ⟨#[]⟩, .string ⟨#[]⟩, .string ⟨#[]⟩, .string ⟨#[]⟩, .bool false] := by kernel_rfl
@[go_sem] theorem fld61_0 : fld Try.prog 61 0 = some (0, 45) := by kernel_rfl
@[go_sem] theorem fld61_1 : fld Try.prog 61 1 = some (3, 4) := by kernel_rfl
@[go_sem] theorem fld61_2 : fld Try.prog 61 2 = some (4, 9) := by kernel_rfl
@[go_sem] theorem fld61_3 : fld Try.prog 61 3 = some (5, 9) := by kernel_rfl
@[go_sem] theorem fld61_4 : fld Try.prog 61 4 = some (6, 9) := by kernel_rfl
@[go_sem] theorem fld61_5 : fld Try.prog 61 5 = some (7, 9) := by kernel_rfl
@[go_sem] theorem fld61_6 : fld Try.prog 61 6 = some (8, 4) := by kernel_rfl
@[go_sem] theorem lay61 : layOf Try.prog 61 = some [(0, 3), (3, 1), (4, 1), (5, 1), (6, 1), (7, 1), (8, 1)] := by kernel_rfl
@[go_sem] theorem sized61 : sized Try.prog 61 = true := by kernel_rfl
@[go_sem] theorem agg62 : aggT Try.prog 62 = some true := by kernel_rfl
@[go_sem] theorem cells62 : Try.prog.cellsOf 62 = 9 := by kernel_rfl
@[go_sem] theorem bytes62 : Try.prog.bytesOf 62 = 128 := by kernel_rfl
@[go_sem] theorem parts62 : eqParts Try.prog 62 = some [(0, 45), (3, 4), (4, 9), (5, 9), (6, 9), (7, 9), (8, 4)] := by kernel_rfl
@[go_sem] theorem eqg62 : Try.prog.eqGuardType Try.prog.depth 62 = false := by kernel_rfl
@[go_sem] theorem zero62 : zeroC Try.prog 62 = some [.string ⟨#[]⟩, .string ⟨#[]⟩, .string ⟨#[]⟩, .bool false, .string ⟨#[]⟩, .string ⟨#[]⟩, .string ⟨#[]⟩, .string ⟨#[]⟩, .bool false] := by kernel_rfl
@[go_sem] theorem fld62_0 : fld Try.prog 62 0 = some (0, 45) := by kernel_rfl
@[go_sem] theorem fld62_1 : fld Try.prog 62 1 = some (3, 4) := by kernel_rfl
@[go_sem] theorem fld62_2 : fld Try.prog 62 2 = some (4, 9) := by kernel_rfl
@[go_sem] theorem fld62_3 : fld Try.prog 62 3 = some (5, 9) := by kernel_rfl
@[go_sem] theorem fld62_4 : fld Try.prog 62 4 = some (6, 9) := by kernel_rfl
@[go_sem] theorem fld62_5 : fld Try.prog 62 5 = some (7, 9) := by kernel_rfl
@[go_sem] theorem fld62_6 : fld Try.prog 62 6 = some (8, 4) := by kernel_rfl
@[go_sem] theorem lay62 : layOf Try.prog 62 = some [(0, 3), (3, 1), (4, 1), (5, 1), (6, 1), (7, 1), (8, 1)] := by kernel_rfl
@[go_sem] theorem sized62 : sized Try.prog 62 = true := by kernel_rfl
attribute [go_sem] Try.underlying66
@[go_sem] theorem agg66 : aggT Try.prog 66 = some false := by kernel_rfl
@[go_sem] theorem cells66 : Try.prog.cellsOf 66 = 1 := by kernel_rfl
@[go_sem] theorem bytes66 : Try.prog.bytesOf 66 = 24 := by kernel_rfl
@[go_sem] theorem parts66 : eqParts Try.prog 66 = none := by kernel_rfl
@[go_sem] theorem zeroV66 : zero1 Try.prog 66 = some (.slice none 0 0) := by kernel_rfl
@[go_sem] theorem zero66 : zeroC Try.prog 66 = some [.slice none 0 0] := by kernel_rfl
attribute [go_sem] Try.underlying79
@[go_sem] theorem agg79 : aggT Try.prog 79 = some false := by kernel_rfl
@[go_sem] theorem cells79 : Try.prog.cellsOf 79 = 1 := by kernel_rfl
@[go_sem] theorem bytes79 : Try.prog.bytesOf 79 = 24 := by kernel_rfl
@[go_sem] theorem parts79 : eqParts Try.prog 79 = none := by kernel_rfl
@[go_sem] theorem zeroV79 : zero1 Try.prog 79 = some (.slice none 0 0) := by kernel_rfl
@[go_sem] theorem zero79 : zeroC Try.prog 79 = some [.slice none 0 0] := by kernel_rfl
attribute [go_sem] Try.underlying81
@[go_sem] theorem agg81 : aggT Try.prog 81 = some false := by kernel_rfl
@[go_sem] theorem cells81 : Try.prog.cellsOf 81 = 1 := by kernel_rfl
@[go_sem] theorem bytes81 : Try.prog.bytesOf 81 = 24 := by kernel_rfl
@[go_sem] theorem parts81 : eqParts Try.prog 81 = none := by kernel_rfl
@[go_sem] theorem zeroV81 : zero1 Try.prog 81 = some (.slice none 0 0) := by kernel_rfl
@[go_sem] theorem zero81 : zeroC Try.prog 81 = some [.slice none 0 0] := by kernel_rfl
attribute [go_sem] Try.underlying84
@[go_sem] theorem agg84 : aggT Try.prog 84 = some false := by kernel_rfl
@[go_sem] theorem cells84 : Try.prog.cellsOf 84 = 1 := by kernel_rfl
@[go_sem] theorem bytes84 : Try.prog.bytesOf 84 = 24 := by kernel_rfl
@[go_sem] theorem parts84 : eqParts Try.prog 84 = none := by kernel_rfl
@[go_sem] theorem zeroV84 : zero1 Try.prog 84 = some (.slice none 0 0) := by kernel_rfl
@[go_sem] theorem zero84 : zeroC Try.prog 84 = some [.slice none 0 0] := by kernel_rfl
@[go_sem] theorem agg86 : aggT Try.prog 86 = some true := by kernel_rfl
@[go_sem] theorem cells86 : Try.prog.cellsOf 86 = 2 := by kernel_rfl
@[go_sem] theorem bytes86 : Try.prog.bytesOf 86 = 16 := by kernel_rfl
@[go_sem] theorem parts86 : eqParts Try.prog 86 = some [(0, 3), (1, 3)] := by kernel_rfl
@[go_sem] theorem eqg86 : Try.prog.eqGuardType Try.prog.depth 86 = false := by kernel_rfl
@[go_sem] theorem zero86 : zeroC Try.prog 86 = some [.int .i64 0, .int .i64 0] := by kernel_rfl
@[go_sem] theorem fld86_0 : fld Try.prog 86 0 = some (0, 3) := by kernel_rfl
@[go_sem] theorem fld86_1 : fld Try.prog 86 1 = some (1, 3) := by kernel_rfl
@[go_sem] theorem lay86 : layOf Try.prog 86 = some [(0, 1), (1, 1)] := by kernel_rfl
@[go_sem] theorem sized86 : sized Try.prog 86 = true := by kernel_rfl
@[go_sem] theorem agg87 : aggT Try.prog 87 = some true := by kernel_rfl
@[go_sem] theorem cells87 : Try.prog.cellsOf 87 = 7 := by kernel_rfl
@[go_sem] theorem bytes87 : Try.prog.bytesOf 87 = 56 := by kernel_rfl
@[go_sem] theorem parts87 : eqParts Try.prog 87 = some [(0, 4), (1, 86), (3, 86), (5, 86)] := by kernel_rfl
@[go_sem] theorem eqg87 : Try.prog.eqGuardType Try.prog.depth 87 = false := by kernel_rfl
@[go_sem] theorem zero87 : zeroC Try.prog 87 = some [.bool false, .int .i64 0, .int .i64 0, .int .i64 0, .int .i64 0, .int .i64 0, .int .i64 0] := by kernel_rfl
@[go_sem] theorem fld87_0 : fld Try.prog 87 0 = some (0, 4) := by kernel_rfl
@[go_sem] theorem fld87_1 : fld Try.prog 87 1 = some (1, 86) := by kernel_rfl
@[go_sem] theorem fld87_2 : fld Try.prog 87 2 = some (3, 86) := by kernel_rfl
@[go_sem] theorem fld87_3 : fld Try.prog 87 3 = some (5, 86) := by kernel_rfl
@[go_sem] theorem lay87 : layOf Try.prog 87 = some [(0, 1), (1, 2), (3, 2), (5, 2)] := by kernel_rfl
@[go_sem] theorem sized87 : sized Try.prog 87 = true := by kernel_rfl
@[go_sem] theorem agg88 : aggT Try.prog 88 = some true := by kernel_rfl
@[go_sem] theorem cells88 : Try.prog.cellsOf 88 = 7 := by kernel_rfl
@[go_sem] theorem bytes88 : Try.prog.bytesOf 88 = 56 := by kernel_rfl
@[go_sem] theorem parts88 : eqParts Try.prog 88 = some [(0, 4), (1, 86), (3, 86), (5, 86)] := by kernel_rfl
@[go_sem] theorem eqg88 : Try.prog.eqGuardType Try.prog.depth 88 = false := by kernel_rfl
@[go_sem] theorem zero88 : zeroC Try.prog 88 = some [.bool false, .int .i64 0, .int .i64 0, .int .i64 0, .int .i64 0, .int .i64 0, .int .i64 0] := by kernel_rfl
@[go_sem] theorem fld88_0 : fld Try.prog 88 0 = some (0, 4) := by kernel_rfl
@[go_sem] theorem fld88_1 : fld Try.prog 88 1 = some (1, 86) := by kernel_rfl
@[go_sem] theorem fld88_2 : fld Try.prog 88 2 = some (3, 86) := by kernel_rfl
@[go_sem] theorem fld88_3 : fld Try.prog 88 3 = some (5, 86) := by kernel_rfl
@[go_sem] theorem lay88 : layOf Try.prog 88 = some [(0, 1), (1, 2), (3, 2), (5, 2)] := by kernel_rfl
@[go_sem] theorem sized88 : sized Try.prog 88 = true := by kernel_rfl
@[go_sem] theorem agg115 : aggT Try.prog 115 = some true := by kernel_rfl
@[go_sem] theorem cells115 : Try.prog.cellsOf 115 = 2 := by kernel_rfl
@[go_sem] theorem bytes115 : Try.prog.bytesOf 115 = 16 := by kernel_rfl
@[go_sem] theorem parts115 : eqParts Try.prog 115 = some [(0, 3), (1, 3)] := by kernel_rfl
@[go_sem] theorem eqg115 : Try.prog.eqGuardType Try.prog.depth 115 = false := by kernel_rfl
@[go_sem] theorem zero115 : zeroC Try.prog 115 = some [.int .i64 0, .int .i64 0] := by kernel_rfl
@[go_sem] theorem fld115_0 : fld Try.prog 115 0 = some (0, 3) := by kernel_rfl
@[go_sem] theorem fld115_1 : fld Try.prog 115 1 = some (1, 3) := by kernel_rfl
@[go_sem] theorem lay115 : layOf Try.prog 115 = some [(0, 1), (1, 1)] := by kernel_rfl
@[go_sem] theorem sized115 : sized Try.prog 115 = true := by kernel_rfl
@[go_sem] theorem agg116 : aggT Try.prog 116 = some true := by kernel_rfl
@[go_sem] theorem cells116 : Try.prog.cellsOf 116 = 2 := by kernel_rfl
@[go_sem] theorem bytes116 : Try.prog.bytesOf 116 = 16 := by kernel_rfl
@[go_sem] theorem parts116 : eqParts Try.prog 116 = some [(0, 3), (1, 3)] := by kernel_rfl
@[go_sem] theorem eqg116 : Try.prog.eqGuardType Try.prog.depth 116 = false := by kernel_rfl
@[go_sem] theorem zero116 : zeroC Try.prog 116 = some [.int .i64 0, .int .i64 0] := by kernel_rfl
@[go_sem] theorem fld116_0 : fld Try.prog 116 0 = some (0, 3) := by kernel_rfl
@[go_sem] theorem fld116_1 : fld Try.prog 116 1 = some (1, 3) := by kernel_rfl
@[go_sem] theorem lay116 : layOf Try.prog 116 = some [(0, 1), (1, 1)] := by kernel_rfl
@[go_sem] theorem sized116 : sized Try.prog 116 = true := by kernel_rfl
attribute [go_sem] Try.underlying122
@[go_sem] theorem agg122 : aggT Try.prog 122 = some false := by kernel_rfl
@[go_sem] theorem cells122 : Try.prog.cellsOf 122 = 1 := by kernel_rfl
@[go_sem] theorem bytes122 : Try.prog.bytesOf 122 = 8 := by kernel_rfl
@[go_sem] theorem parts122 : eqParts Try.prog 122 = none := by kernel_rfl
@[go_sem] theorem zeroV122 : zero1 Try.prog 122 = some (.pointer none) := by kernel_rfl
@[go_sem] theorem zero122 : zeroC Try.prog 122 = some [.pointer none] := by kernel_rfl
attribute [go_sem] Try.underlying123
@[go_sem] theorem agg123 : aggT Try.prog 123 = some false := by kernel_rfl
@[go_sem] theorem cells123 : Try.prog.cellsOf 123 = 1 := by kernel_rfl
@[go_sem] theorem bytes123 : Try.prog.bytesOf 123 = 24 := by kernel_rfl
@[go_sem] theorem parts123 : eqParts Try.prog 123 = none := by kernel_rfl
@[go_sem] theorem zeroV123 : zero1 Try.prog 123 = some (.slice none 0 0) := by kernel_rfl
@[go_sem] theorem zero123 : zeroC Try.prog 123 = some [.slice none 0 0] := by kernel_rfl
@[go_sem] theorem agg124 : aggT Try.prog 124 = some true := by kernel_rfl
@[go_sem] theorem cells124 : Try.prog.cellsOf 124 = 2 := by kernel_rfl
@[go_sem] theorem bytes124 : Try.prog.bytesOf 124 = 32 := by kernel_rfl
@[go_sem] theorem zero124 : zeroC Try.prog 124 = some [.pointer none, .slice none 0 0] := by kernel_rfl
@[go_sem] theorem fld124_0 : fld Try.prog 124 0 = some (0, 122) := by kernel_rfl
@[go_sem] theorem fld124_1 : fld Try.prog 124 1 = some (1, 123) := by kernel_rfl
@[go_sem] theorem lay124 : layOf Try.prog 124 = some [(0, 1), (1, 1)] := by kernel_rfl
@[go_sem] theorem sized124 : sized Try.prog 124 = true := by kernel_rfl
@[go_sem] theorem agg125 : aggT Try.prog 125 = some true := by kernel_rfl
@[go_sem] theorem cells125 : Try.prog.cellsOf 125 = 2 := by kernel_rfl
@[go_sem] theorem bytes125 : Try.prog.bytesOf 125 = 32 := by kernel_rfl
@[go_sem] theorem zero125 : zeroC Try.prog 125 = some [.pointer none, .slice none 0 0] := by kernel_rfl
@[go_sem] theorem fld125_0 : fld Try.prog 125 0 = some (0, 122) := by kernel_rfl
@[go_sem] theorem fld125_1 : fld Try.prog 125 1 = some (1, 123) := by kernel_rfl
@[go_sem] theorem lay125 : layOf Try.prog 125 = some [(0, 1), (1, 1)] := by kernel_rfl
@[go_sem] theorem sized125 : sized Try.prog 125 = true := by kernel_rfl
@[go_sem] theorem agg126 : aggT Try.prog 126 = some false := by kernel_rfl
@[go_sem] theorem cells126 : Try.prog.cellsOf 126 = 1 := by kernel_rfl
@[go_sem] theorem bytes126 : Try.prog.bytesOf 126 = 16 := by kernel_rfl
@[go_sem] theorem parts126 : eqParts Try.prog 126 = none := by kernel_rfl
@[go_sem] theorem zeroV126 : zero1 Try.prog 126 = some (.nilIface) := by kernel_rfl
@[go_sem] theorem zero126 : zeroC Try.prog 126 = some [.nilIface] := by kernel_rfl
@[go_sem] theorem agg127 : aggT Try.prog 127 = some false := by kernel_rfl
@[go_sem] theorem cells127 : Try.prog.cellsOf 127 = 1 := by kernel_rfl
@[go_sem] theorem bytes127 : Try.prog.bytesOf 127 = 16 := by kernel_rfl
@[go_sem] theorem parts127 : eqParts Try.prog 127 = none := by kernel_rfl
@[go_sem] theorem zeroV127 : zero1 Try.prog 127 = some (.nilIface) := by kernel_rfl
@[go_sem] theorem zero127 : zeroC Try.prog 127 = some [.nilIface] := by kernel_rfl
attribute [go_sem] Try.underlying131
@[go_sem] theorem agg131 : aggT Try.prog 131 = some false := by kernel_rfl
@[go_sem] theorem cells131 : Try.prog.cellsOf 131 = 1 := by kernel_rfl
@[go_sem] theorem bytes131 : Try.prog.bytesOf 131 = 8 := by kernel_rfl
@[go_sem] theorem parts131 : eqParts Try.prog 131 = none := by kernel_rfl
@[go_sem] theorem zeroV131 : zero1 Try.prog 131 = some (.int .u64 0) := by kernel_rfl
@[go_sem] theorem zero131 : zeroC Try.prog 131 = some [.int .u64 0] := by kernel_rfl
attribute [go_sem] Try.underlying136
@[go_sem] theorem agg136 : aggT Try.prog 136 = some false := by kernel_rfl
@[go_sem] theorem cells136 : Try.prog.cellsOf 136 = 1 := by kernel_rfl
@[go_sem] theorem bytes136 : Try.prog.bytesOf 136 = 8 := by kernel_rfl
@[go_sem] theorem parts136 : eqParts Try.prog 136 = none := by kernel_rfl
@[go_sem] theorem zeroV136 : zero1 Try.prog 136 = some (.pointer none) := by kernel_rfl
@[go_sem] theorem zero136 : zeroC Try.prog 136 = some [.pointer none] := by kernel_rfl
attribute [go_sem] Try.underlying137
@[go_sem] theorem agg137 : aggT Try.prog 137 = some false := by kernel_rfl
@[go_sem] theorem cells137 : Try.prog.cellsOf 137 = 1 := by kernel_rfl
@[go_sem] theorem bytes137 : Try.prog.bytesOf 137 = 4 := by kernel_rfl
@[go_sem] theorem parts137 : eqParts Try.prog 137 = none := by kernel_rfl
@[go_sem] theorem zeroV137 : zero1 Try.prog 137 = some (.int .u32 0) := by kernel_rfl
@[go_sem] theorem zero137 : zeroC Try.prog 137 = some [.int .u32 0] := by kernel_rfl
attribute [go_sem] Try.underlying140
@[go_sem] theorem agg140 : aggT Try.prog 140 = some false := by kernel_rfl
@[go_sem] theorem cells140 : Try.prog.cellsOf 140 = 1 := by kernel_rfl
@[go_sem] theorem bytes140 : Try.prog.bytesOf 140 = 8 := by kernel_rfl
@[go_sem] theorem parts140 : eqParts Try.prog 140 = none := by kernel_rfl
@[go_sem] theorem zeroV140 : zero1 Try.prog 140 = some (.int .u64 0) := by kernel_rfl
@[go_sem] theorem zero140 : zeroC Try.prog 140 = some [.int .u64 0] := by kernel_rfl
attribute [go_sem] Try.underlying144
@[go_sem] theorem agg144 : aggT Try.prog 144 = some false := by kernel_rfl
@[go_sem] theorem cells144 : Try.prog.cellsOf 144 = 1 := by kernel_rfl
@[go_sem] theorem bytes144 : Try.prog.bytesOf 144 = 8 := by kernel_rfl
@[go_sem] theorem parts144 : eqParts Try.prog 144 = none := by kernel_rfl
@[go_sem] theorem zeroV144 : zero1 Try.prog 144 = some (.pointer none) := by kernel_rfl
@[go_sem] theorem zero144 : zeroC Try.prog 144 = some [.pointer none] := by kernel_rfl
@[go_sem] theorem agg150 : aggT Try.prog 150 = some true := by kernel_rfl
@[go_sem] theorem cells150 : Try.prog.cellsOf 150 = 4 := by kernel_rfl
@[go_sem] theorem bytes150 : Try.prog.bytesOf 150 = 40 := by kernel_rfl
@[go_sem] theorem zero150 : zeroC Try.prog 150 = some [.pointer none, .pointer none, .pointer none, .string ⟨#[]⟩] := by kernel_rfl
@[go_sem] theorem fld150_0 : fld Try.prog 150 0 = some (0, 17) := by kernel_rfl
@[go_sem] theorem fld150_1 : fld Try.prog 150 1 = some (1, 17) := by kernel_rfl
@[go_sem] theorem fld150_2 : fld Try.prog 150 2 = some (2, 17) := by kernel_rfl
@[go_sem] theorem fld150_3 : fld Try.prog 150 3 = some (3, 9) := by kernel_rfl
@[go_sem] theorem lay150 : layOf Try.prog 150 = some [(0, 1), (1, 1), (2, 1), (3, 1)] := by kernel_rfl
@[go_sem] theorem sized150 : sized Try.prog 150 = true := by kernel_rfl
@[go_sem] theorem agg151 : aggT Try.prog 151 = some true := by kernel_rfl
@[go_sem] theorem cells151 : Try.prog.cellsOf 151 = 4 := by kernel_rfl
@[go_sem] theorem bytes151 : Try.prog.bytesOf 151 = 40 := by kernel_rfl
@[go_sem] theorem zero151 : zeroC Try.prog 151 = some [.pointer none, .pointer none, .pointer none, .string ⟨#[]⟩] := by kernel_rfl
@[go_sem] theorem fld151_0 : fld Try.prog 151 0 = some (0, 17) := by kernel_rfl
@[go_sem] theorem fld151_1 : fld Try.prog 151 1 = some (1, 17) := by kernel_rfl
@[go_sem] theorem fld151_2 : fld Try.prog 151 2 = some (2, 17) := by kernel_rfl
@[go_sem] theorem fld151_3 : fld Try.prog 151 3 = some (3, 9) := by kernel_rfl
@[go_sem] theorem lay151 : layOf Try.prog 151 = some [(0, 1), (1, 1), (2, 1), (3, 1)] := by kernel_rfl
@[go_sem] theorem sized151 : sized Try.prog 151 = true := by kernel_rfl
attribute [go_sem] Try.underlying152
@[go_sem] theorem agg152 : aggT Try.prog 152 = some true := by kernel_rfl
@[go_sem] theorem cells152 : Try.prog.cellsOf 152 = 0 := by kernel_rfl
@[go_sem] theorem bytes152 : Try.prog.bytesOf 152 = 0 := by kernel_rfl
@[go_sem] theorem lay152 : layOf Try.prog 152 = none := by kernel_rfl
@[go_sem] theorem arr152 : arrOf Try.prog 152 = some 1 := by kernel_rfl
@[go_sem] theorem parts152 : eqParts Try.prog 152 = some [] := by kernel_rfl
@[go_sem] theorem eqg152 : Try.prog.eqGuardType Try.prog.depth 152 = false := by kernel_rfl
@[go_sem] theorem zero152 : zeroC Try.prog 152 = some [] := by kernel_rfl
@[go_sem] theorem agg153 : aggT Try.prog 153 = some true := by kernel_rfl
@[go_sem] theorem cells153 : Try.prog.cellsOf 153 = 0 := by kernel_rfl
@[go_sem] theorem bytes153 : Try.prog.bytesOf 153 = 0 := by kernel_rfl
@[go_sem] theorem zero153 : zeroC Try.prog 153 = some [] := by kernel_rfl
@[go_sem] theorem fld153_0 : fld Try.prog 153 0 = some (0, 152) := by kernel_rfl
@[go_sem] theorem lay153 : layOf Try.prog 153 = some [(0, 0)] := by kernel_rfl
@[go_sem] theorem sized153 : sized Try.prog 153 = true := by kernel_rfl
@[go_sem] theorem agg154 : aggT Try.prog 154 = some true := by kernel_rfl
@[go_sem] theorem cells154 : Try.prog.cellsOf 154 = 0 := by kernel_rfl
@[go_sem] theorem bytes154 : Try.prog.bytesOf 154 = 0 := by kernel_rfl
@[go_sem] theorem zero154 : zeroC Try.prog 154 = some [] := by kernel_rfl
@[go_sem] theorem fld154_0 : fld Try.prog 154 0 = some (0, 152) := by kernel_rfl
@[go_sem] theorem lay154 : layOf Try.prog 154 = some [(0, 0)] := by kernel_rfl
@[go_sem] theorem sized154 : sized Try.prog 154 = true := by kernel_rfl
attribute [go_sem] Try.underlying155
@[go_sem] theorem agg155 : aggT Try.prog 155 = some false := by kernel_rfl
@[go_sem] theorem cells155 : Try.prog.cellsOf 155 = 1 := by kernel_rfl
@[go_sem] theorem bytes155 : Try.prog.bytesOf 155 = 1 := by kernel_rfl
@[go_sem] theorem parts155 : eqParts Try.prog 155 = none := by kernel_rfl
@[go_sem] theorem zeroV155 : zero1 Try.prog 155 = some (.int .u8 0) := by kernel_rfl
@[go_sem] theorem zero155 : zeroC Try.prog 155 = some [.int .u8 0] := by kernel_rfl
attribute [go_sem] Try.underlying156
@[go_sem] theorem agg156 : aggT Try.prog 156 = some false := by kernel_rfl
@[go_sem] theorem cells156 : Try.prog.cellsOf 156 = 1 := by kernel_rfl
@[go_sem] theorem bytes156 : Try.prog.bytesOf 156 = 1 := by kernel_rfl
@[go_sem] theorem parts156 : eqParts Try.prog 156 = none := by kernel_rfl
@[go_sem] theorem zeroV156 : zero1 Try.prog 156 = some (.int .u8 0) := by kernel_rfl
@[go_sem] theorem zero156 : zeroC Try.prog 156 = some [.int .u8 0] := by kernel_rfl
attribute [go_sem] Try.underlying158
@[go_sem] theorem agg158 : aggT Try.prog 158 = some false := by kernel_rfl
@[go_sem] theorem cells158 : Try.prog.cellsOf 158 = 1 := by kernel_rfl
@[go_sem] theorem bytes158 : Try.prog.bytesOf 158 = 4 := by kernel_rfl
@[go_sem] theorem parts158 : eqParts Try.prog 158 = none := by kernel_rfl
@[go_sem] theorem zeroV158 : zero1 Try.prog 158 = some (.int .i32 0) := by kernel_rfl
@[go_sem] theorem zero158 : zeroC Try.prog 158 = some [.int .i32 0] := by kernel_rfl
attribute [go_sem] Try.underlying159
@[go_sem] theorem agg159 : aggT Try.prog 159 = some false := by kernel_rfl
@[go_sem] theorem cells159 : Try.prog.cellsOf 159 = 1 := by kernel_rfl
@[go_sem] theorem bytes159 : Try.prog.bytesOf 159 = 4 := by kernel_rfl
@[go_sem] theorem parts159 : eqParts Try.prog 159 = none := by kernel_rfl
@[go_sem] theorem zeroV159 : zero1 Try.prog 159 = some (.int .i32 0) := by kernel_rfl
@[go_sem] theorem zero159 : zeroC Try.prog 159 = some [.int .i32 0] := by kernel_rfl
@[go_sem] theorem agg160 : aggT Try.prog 160 = some true := by kernel_rfl
@[go_sem] theorem cells160 : Try.prog.cellsOf 160 = 11 := by kernel_rfl
@[go_sem] theorem bytes160 : Try.prog.bytesOf 160 = 48 := by kernel_rfl
@[go_sem] theorem zero160 : zeroC Try.prog 160 = some [.int .u64 0, .int .u64 0, .int .u32 0, .int .u8 0, .int .u8 0, .int .u8 0, .int .u8 0, .nilFunc, .pointer none, .int .i32 0, .int .i32 0] := by kernel_rfl
@[go_sem] theorem fld160_0 : fld Try.prog 160 0 = some (0, 12) := by kernel_rfl
@[go_sem] theorem fld160_1 : fld Try.prog 160 1 = some (1, 12) := by kernel_rfl
@[go_sem] theorem fld160_2 : fld Try.prog 160 2 = some (2, 137) := by kernel_rfl
@[go_sem] theorem fld160_3 : fld Try.prog 160 3 = some (3, 155) := by kernel_rfl
@[go_sem] theorem fld160_4 : fld Try.prog 160 4 = some (4, 5) := by kernel_rfl
@[go_sem] theorem fld160_5 : fld Try.prog 160 5 = some (5, 5) := by kernel_rfl
@[go_sem] theorem fld160_6 : fld Try.prog 160 6 = some (6, 156) := by kernel_rfl
@[go_sem] theorem fld160_7 : fld Try.prog 160 7 = some (7, 157) := by kernel_rfl
@[go_sem] theorem fld160_8 : fld Try.prog 160 8 = some (8, 136) := by kernel_rfl
@[go_sem] theorem fld160_9 : fld Try.prog 160 9 = some (9, 158) := by kernel_rfl
@[go_sem] theorem fld160_10 : fld Try.prog 160 10 = some (10, 159) := by kernel_rfl
@[go_sem] theorem lay160 : layOf Try.prog 160 = some [(0, 1), (1, 1), (2, 1), (3, 1), (4, 1), (5, 1), (6, 1), (7, 1), (8, 1), (9, 1), (10, 1)] := by kernel_rfl
@[go_sem] theorem sized160 : sized Try.prog 160 = true := by kernel_rfl
@[go_sem] theorem agg161 : aggT Try.prog 161 = some true := by kernel_rfl
@[go_sem] theorem cells161 : Try.prog.cellsOf 161 = 11 := by kernel_rfl
@[go_sem] theorem bytes161 : Try.prog.bytesOf 161 = 48 := by kernel_rfl
@[go_sem] theorem zero161 : zeroC Try.prog 161 = some [.int .u64 0, .int .u64 0, .int .u32 0, .int .u8 0, .int .u8 0, .int .u8 0, .int .u8 0, .nilFunc, .pointer none, .int .i32 0, .int .i32 0] := by kernel_rfl
@[go_sem] theorem fld161_0 : fld Try.prog 161 0 = some (0, 12) := by kernel_rfl
@[go_sem] theorem fld161_1 : fld Try.prog 161 1 = some (1, 12) := by kernel_rfl
@[go_sem] theorem fld161_2 : fld Try.prog 161 2 = some (2, 137) := by kernel_rfl
@[go_sem] theorem fld161_3 : fld Try.prog 161 3 = some (3, 155) := by kernel_rfl
@[go_sem] theorem fld161_4 : fld Try.prog 161 4 = some (4, 5) := by kernel_rfl
@[go_sem] theorem fld161_5 : fld Try.prog 161 5 = some (5, 5) := by kernel_rfl
@[go_sem] theorem fld161_6 : fld Try.prog 161 6 = some (6, 156) := by kernel_rfl
@[go_sem] theorem fld161_7 : fld Try.prog 161 7 = some (7, 157) := by kernel_rfl
@[go_sem] theorem fld161_8 : fld Try.prog 161 8 = some (8, 136) := by kernel_rfl
@[go_sem] theorem fld161_9 : fld Try.prog 161 9 = some (9, 158) := by kernel_rfl
@[go_sem] theorem fld161_10 : fld Try.prog 161 10 = some (10, 159) := by kernel_rfl
@[go_sem] theorem lay161 : layOf Try.prog 161 = some [(0, 1), (1, 1), (2, 1), (3, 1), (4, 1), (5, 1), (6, 1), (7, 1), (8, 1), (9, 1), (10, 1)] := by kernel_rfl
@[go_sem] theorem sized161 : sized Try.prog 161 = true := by kernel_rfl
end Go.Proofs.Ytnhfobhdbablaaa
namespace Go.Proofs.Ytnhfobhdbablaaa
theorem gd_lt {α : Type} (l : List α) (d : α) {k : Nat} (h : k < l.length) : l.getD k d = l[k] := by simp [List.getD, h]
section
variable {α : Type} [DecidableEq α]
/-- How many are the same at the beginning. -/
def ahd : List α → List α → Nat
  | x :: a, y :: b => if x = y then ahd a b + 1 else 0
  | _, _ => 0
/-- How many are the same at the end. -/
def bhd (a b : List α) : Nat := ahd a.reverse b.reverse

theorem ahd_le : ∀ (a b : List α), ahd a b ≤ a.length ∧ ahd a b ≤ b.length
  | [], _ => by simp [ahd]
  | _ :: _, [] => by simp [ahd]
  | x :: a, y :: b => by
    unfold ahd
    have := ahd_le a b
    split <;> simp <;> omega
theorem ahd_nil (a : List α) : ahd a [] = 0 := by cases a <;> rfl
/-- So many, and no more. -/
theorem ahd_eq (d : α) : ∀ (n : Nat) (a b : List α), n ≤ a.length → n ≤ b.length → (∀ k, k < n → a.getD k d = b.getD k d) → (n < a.length → n < b.length → a.getD n d ≠ b.getD n d) → n = ahd a b
  | 0, [], _, _, _, _, _ => rfl
  | 0, _ :: _, [], _, _, _, _ => rfl
  | 0, x :: a, y :: b, _, _, _, h => by
    have := h (by simp) (by simp)
    simp only [List.getD_cons_zero] at this
    unfold ahd
    rw [if_neg this]
  | n + 1, x :: a, y :: b, h1, h2, h3, h4 => by
    have e : x = y := by simpa using h3 0 (by omega)
    unfold ahd
    rw [if_pos e]
    simp only [List.length_cons] at h1 h2 h4
    have := ahd_eq d n a b (by omega) (by omega) (fun k hk => by simpa using h3 (k + 1) (by omega)) fun p q => by simpa using h4 (by omega) (by omega)
    omega
theorem ahd_spec (d : α) : ∀ (a b : List α), (∀ k, k < ahd a b → a.getD k d = b.getD k d) ∧ (ahd a b < a.length → ahd a b < b.length → a.getD (ahd a b) d ≠ b.getD (ahd a b) d)
  | [], b => by simp [ahd]
  | _ :: _, [] => by simp [ahd]
  | x :: a, y :: b => by
    unfold ahd
    split
    · rename_i e
      subst e
      obtain ⟨h1, h2⟩ := ahd_spec d a b
      refine ⟨fun k hk => ?_, fun p q => ?_⟩
      · cases k with
        | zero => rfl
        | succ k => simpa using h1 k (by omega)
      · simp only [List.length_cons] at p q
        simpa using h2 (by omega) (by omega)
    · rename_i e
      exact ⟨fun k hk => by omega, fun _ _ => by simpa using e⟩
omit [DecidableEq α] in
theorem getD_rev (d : α) (a : List α) {k : Nat} (h : k < a.length) : a.reverse.getD k d = a.getD (a.length - 1 - k) d := by
  rw [gd_lt _ _ (by simpa using h), gd_lt _ _ (by omega)]
  simp
theorem bhd_eq (d : α) (n : Nat) (a b : List α) (h1 : n ≤ a.length) (h2 : n ≤ b.length) (h3 : ∀ k, k < n → a.getD (a.length - 1 - k) d = b.getD (b.length - 1 - k) d)
    (h4 : n < a.length → n < b.length → a.getD (a.length - 1 - n) d ≠ b.getD (b.length - 1 - n) d) : n = bhd a b := by
  refine ahd_eq d n _ _ (by simpa using h1) (by simpa using h2) (fun k hk => ?_) fun p q => ?_
  · rw [getD_rev d a (by omega), getD_rev d b (by omega)]; exact h3 k hk
  · simp only [List.length_reverse] at p q
    rw [getD_rev d a p, getD_rev d b q]; exact h4 p q
theorem bhd_le (a b : List α) : bhd a b ≤ a.length ∧ bhd a b ≤ b.length := by
  have := ahd_le a.reverse b.reverse
  simpa [bhd] using this
theorem bhd_spec (d : α) (a b : List α) : (∀ k, k < bhd a b → a.getD (a.length - 1 - k) d = b.getD (b.length - 1 - k) d) ∧
    (bhd a b < a.length → bhd a b < b.length → a.getD (a.length - 1 - bhd a b) d ≠ b.getD (b.length - 1 - bhd a b) d) := by
  obtain ⟨h1, h2⟩ := ahd_spec d a.reverse b.reverse
  obtain ⟨l1, l2⟩ := bhd_le a b
  refine ⟨fun k hk => ?_, fun p q => ?_⟩
  · rw [← getD_rev d a (by omega), ← getD_rev d b (by omega)]; exact h1 k hk
  · rw [← getD_rev d a p, ← getD_rev d b q]; exact h2 (by simpa [bhd] using p) (by simpa [bhd] using q)
theorem ahd_self : ∀ (a : List α), ahd a a = a.length
  | [] => rfl
  | x :: a => by unfold ahd; simp [ahd_self a]
/-- All of both is the same. -/
theorem ahd_all {a b : List α} (h : a.length = b.length) (e : ahd a b = a.length) : a = b := by
  cases a with
  | nil => cases b with
    | nil => rfl
    | cons _ _ => simp at h
  | cons x a' =>
    refine List.ext_getElem h fun i h1 h2 => ?_
    have := (ahd_spec x (x :: a') b).1 i (by omega)
    rwa [gd_lt _ _ h1, gd_lt _ _ h2] at this
omit [DecidableEq α] in
theorem list_ext_getD (d : α) {a b : List α} (h : a.length = b.length) (e : ∀ k, k < a.length → a.getD k d = b.getD k d) : a = b := by
  refine List.ext_getElem h fun i h1 h2 => ?_
  have := e i h1
  rwa [gd_lt _ _ h1, gd_lt _ _ h2] at this
/-- At the end, of what is left of each. -/
theorem bhd_drop (d : α) (a b : List α) (n m : Nat) (ha : n ≤ a.length) (hb : n ≤ b.length) (h1 : n + m ≤ a.length) (h2 : n + m ≤ b.length)
    (h3 : ∀ k, k < m → a.getD (a.length - 1 - k) d = b.getD (b.length - 1 - k) d)
    (h4 : n + m < a.length → n + m < b.length → a.getD (a.length - 1 - m) d ≠ b.getD (b.length - 1 - m) d) : m = bhd (a.drop n) (b.drop n) := by
  have key : ∀ (l : List α) (k : Nat), n ≤ l.length → n + k < l.length → (l.drop n).getD (l.length - n - 1 - k) d = l.getD (l.length - 1 - k) d := fun l k hl hk => by
    simp only [List.getD, List.getElem?_drop]
    rw [show n + (l.length - n - 1 - k) = l.length - 1 - k by omega]
  refine bhd_eq d m _ _ (by simp; omega) (by simp; omega) (fun k hk => ?_) fun p q => ?_
  · simp only [List.length_drop]
    rw [key a k ha (by omega), key b k hb (by omega)]
    exact h3 k hk
  · simp only [List.length_drop] at p q ⊢
    rw [key a m ha (by omega), key b m hb (by omega)]
    exact h4 (by omega) (by omega)
end
end Go.Proofs.Ytnhfobhdbablaaa
set_option linter.unusedSimpArgs false
set_option maxRecDepth 100000
namespace Go.Proofs.Ytnhfobhdbablaaa
open Go
attribute [local irreducible] AW AVle ASle RowLe

def sSameI : Spec := Spec.f2 (kL eI) (kL eI) (fun a b => a.length < 1000000000 ∧ b.length < 1000000000) (fun a b => kB.enc (decide (a = b)))
def sSameS : Spec := Spec.f2 (kL eS) (kL eS) (fun a b => a.length < 1000000000 ∧ b.length < 1000000000) (fun a b => kB.enc (decide (a = b)))
theorem okSameS : SpecOK Try.prog 20 sSameS := by
  refine SpecOK.f2 Try.func20 rfl (by decide) Try.results20 Try.ntmps20 (by decide) fun a b hd => ?_
  have hΓ : GOK Try.prog (gam []) := GOK.nil
  refine AW.of hΓ mixed [] _ _ _ rfl ?_
  simp only [go_sem]
  refine ⟨fun h e => h (by rw [e]), fun hl => ?_⟩
  have hl' : a.length = b.length := by omega
  refine AW.round (α := { i : Nat // i ≤ a.length ∧ ∀ k, k < i → a.getD k [] = b.getD k [] }) (fun i => ⟨[(0, sL eS a), (1, sL eS b), (5, .val (.int .i64 i.1))], [], 26, 0, 0, []⟩) (fun i => a.length - i.1) ⟨0, by simp⟩ ?_ ?_
  · simp only [go_sem]
  · rintro ⟨i, hi, hk⟩
    refine AW.of hΓ mixed [] _ _ _ rfl ?_
    simp only [go_sem]
    refine ⟨fun h => ⟨by omega, by omega, fun h1 e => h1 (by rw [e]), fun h1 => ⟨by omega, ⟨i + 1, by omega, fun k hk' => ?_⟩, by simp, by simp; omega⟩⟩, fun h => ?_⟩
    · rcases Nat.lt_or_ge k i with h | h
      · exact hk k h
      · obtain rfl : k = i := by omega
        simpa using h1
    · exact list_ext_getD [] hl' fun k hk' => hk k (by omega)

end Go.Proofs.Ytnhfobhdbablaaa
set_option linter.unusedSimpArgs false
set_option maxRecDepth 100000
namespace Go.Proofs.Ytnhfobhdbablaaa
open Go
attribute [local irreducible] AW AVle ASle RowLe

/-! ### int -/

def sAheadI : Spec := Spec.f2 (kL eI) (kL eI) (fun a b => a.length < 1000000000 ∧ b.length < 1000000000) (fun a b => kI.enc (ahd a b))
def sBehindI : Spec := Spec.f2 (kL eI) (kL eI) (fun a b => a.length < 1000000000 ∧ b.length < 1000000000) (fun a b => kI.enc (bhd a b))
def sEndsI : Spec := Spec.f2 (kL eI) (kL eI) (fun a b => a.length < 1000000000 ∧ b.length < 1000000000) (fun a b => tu2 (kI.enc (ahd a b)) (kI.enc (bhd (a.drop (ahd a b)) (b.drop (ahd a b)))))
def sEqI : Spec := Spec.f2 (kL eI) (kL eI) (fun a b => a.length < 1000000000 ∧ b.length < 1000000000) (fun a b => kB.enc (decide (a = b)))
def sRefEndsI : Spec := Spec.f2 (kL eI) (kL eI) (fun a b => a.length < 1000000000 ∧ b.length < 1000000000) (fun a b => tu2 (kI.enc (ahd a b)) (kI.enc (bhd (a.drop (ahd a b)) (b.drop (ahd a b)))))
/-! ### string -/

def sAheadS : Spec := Spec.f2 (kL eS) (kL eS) (fun a b => a.length < 1000000000 ∧ b.length < 1000000000) (fun a b => kI.enc (ahd a b))
theorem idleAheadS : Idle Try.prog 90 := idle_recover Try.func90 (by decide) rfl rfl
theorem okAheadS : SpecOK Try.prog 80 sAheadS := by
  refine SpecOK.f2D idleAheadS Try.func80 rfl (by decide) Try.results80 Try.ntmps80 (by decide) fun a b hd => ?_
  have hΓ : GOK Try.prog (gam []) := GOK.nil
  refine AW.of hΓ mixed [] _ _ _ rfl ?_
  simp only [go_sem]
  refine AW.round (α := { i : Nat // i ≤ a.length ∧ i ≤ b.length ∧ ∀ k, k < i → a.getD k [] = b.getD k [] }) (fun i => ⟨[(0, sL eS a), (1, sL eS b), (4, .val (.int .i64 i.1))], [], 29, 0, 0, [⟨.fn (.func 90) #[], #[]⟩]⟩) (fun i => a.length - i.1) ⟨0, by simp⟩ ?_ ?_
  · simp only [go_sem]
  · rintro ⟨i, hi, hb, hk⟩
    refine AW.of hΓ mixed [] _ _ _ rfl ?_
    simp only [go_sem]
    repeat' (first | refine And.intro ?_ ?_ | intro h)
    all_goals (try omega)
    · refine ⟨⟨i + 1, by omega, by omega, fun k hk' => ?_⟩, by simp, by simp; omega⟩
      rcases Nat.lt_or_ge k i with h' | h'
      · exact hk k h'
      · obtain rfl : k = i := by omega
        exact h.2
    · exact congrArg _ (ahd_eq [] i a b hi hb hk fun p q => h ⟨by omega, by omega⟩)

def sBehindS : Spec := Spec.f2 (kL eS) (kL eS) (fun a b => a.length < 1000000000 ∧ b.length < 1000000000) (fun a b => kI.enc (bhd a b))
theorem idleBehindS : Idle Try.prog 91 := idle_recover Try.func91 (by decide) rfl rfl
theorem okBehindS : SpecOK Try.prog 81 sBehindS := by
  refine SpecOK.f2D idleBehindS Try.func81 rfl (by decide) Try.results81 Try.ntmps81 (by decide) fun a b hd => ?_
  have hΓ : GOK Try.prog (gam []) := GOK.nil
  refine AW.of hΓ mixed [] _ _ _ rfl ?_
  simp only [go_sem]
  refine AW.round (α := { i : Nat // i ≤ a.length ∧ i ≤ b.length ∧ ∀ k, k < i → a.getD (a.length - 1 - k) [] = b.getD (b.length - 1 - k) [] }) (fun i => ⟨[(0, sL eS a), (1, sL eS b), (4, .val (.int .i64 i.1))], [], 37, 0, 0, [⟨.fn (.func 91) #[], #[]⟩]⟩) (fun i => a.length - i.1) ⟨0, by simp⟩ ?_ ?_
  · simp only [go_sem]
  · rintro ⟨i, hi, hb, hk⟩
    refine AW.of hΓ mixed [] _ _ _ rfl ?_
    simp only [go_sem]
    have e1 : (↑i : Int) < ↑a.length → ((a.length : Int) - 1 - i).toNat = a.length - 1 - i := fun h => by omega
    have e2 : (↑i : Int) < ↑b.length → ((b.length : Int) - 1 - i).toNat = b.length - 1 - i := fun h => by omega
    repeat' (first | refine And.intro ?_ ?_ | intro h)
    all_goals (try omega)
    · refine ⟨⟨i + 1, by omega, by omega, fun k hk' => ?_⟩, by simp, by simp; omega⟩
      rcases Nat.lt_or_ge k i with h' | h'
      · exact hk k h'
      · obtain rfl : k = i := by omega
        have := h.2
        rwa [e1 h.1.1, e2 h.1.2] at this
    · refine congrArg _ (bhd_eq [] i a b hi hb hk fun p q => ?_)
      have := h ⟨by omega, by omega⟩
      rwa [e1 (by omega), e2 (by omega)] at this

def sEndsS : Spec := Spec.f2 (kL eS) (kL eS) (fun a b => a.length < 1000000000 ∧ b.length < 1000000000) (fun a b => tu2 (kI.enc (ahd a b)) (kI.enc (bhd (a.drop (ahd a b)) (b.drop (ahd a b)))))
theorem okEndsS : SpecOK Try.prog 55 sEndsS := by
  refine SpecOK.f2 Try.func55 rfl (by decide) Try.results55 Try.ntmps55 (by decide) fun a b hd => ?_
  have hΓ : GOK Try.prog (gam [(80, sAheadS), (81, sBehindS)]) := .cons okAheadS (.cons okBehindS .nil)
  refine AW.of hΓ mixed [] _ _ _ rfl ?_
  have h1 := ahd_le a b
  have p1 : (List.range (a.length - ahd a b)).map (fun i => a.getD (ahd a b + i) []) = a.drop (ahd a b) := by rw [part_eq a [] (by omega), List.take_of_length_le (by simp)]
  have p2 : (List.range (b.length - ahd a b)).map (fun i => b.getD (ahd a b + i) []) = b.drop (ahd a b) := by rw [part_eq b [] (by omega), List.take_of_length_le (by simp)]
  simp only [go_sem, sAheadS, sBehindS, p1, p2, List.length_drop]
  omega
def sEqS : Spec := Spec.f2 (kL eS) (kL eS) (fun a b => a.length < 1000000000 ∧ b.length < 1000000000) (fun a b => kB.enc (decide (a = b)))
theorem okEqS : SpecOK Try.prog 74 sEqS := by
  refine SpecOK.f2 Try.func74 rfl (by decide) Try.results74 Try.ntmps74 (by decide) fun a b hd => ?_
  have hΓ : GOK Try.prog (gam [(80, sAheadS)]) := .cons okAheadS .nil
  refine AW.of hΓ mixed [] _ _ _ rfl ?_
  simp only [go_sem, sAheadS]
  refine ⟨fun _ => hd, ?_⟩
  rw [Bool.eq_iff_iff]
  simp only [Bool.and_eq_true, decide_eq_true_eq]
  refine ⟨fun h => ahd_all (by omega) (by omega), fun h => ?_⟩
  subst h
  rw [ahd_self]
  exact ⟨rfl, rfl⟩

def sRefEndsS : Spec := Spec.f2 (kL eS) (kL eS) (fun a b => a.length < 1000000000 ∧ b.length < 1000000000) (fun a b => tu2 (kI.enc (ahd a b)) (kI.enc (bhd (a.drop (ahd a b)) (b.drop (ahd a b)))))
theorem okRefEndsS : SpecOK Try.prog 26 sRefEndsS := by
  refine SpecOK.f2 Try.func26 rfl (by decide) Try.results26 Try.ntmps26 (by decide) fun a b hd => ?_
  have hΓ : GOK Try.prog (gam []) := GOK.nil
  refine AW.of hΓ mixed [] _ _ _ rfl ?_
  simp only [go_sem]
  refine AW.round (α := { i : Nat // i ≤ a.length ∧ i ≤ b.length ∧ ∀ k, k < i → a.getD k [] = b.getD k [] }) (fun i => ⟨[(0, sL eS a), (1, sL eS b), (6, .val (.int .i64 i.1)), (7, .val (.int .i64 0))], [], 68, 0, 0, []⟩) (fun i => a.length - i.1) ⟨0, by simp⟩ ?_ ?_
  · simp only [go_sem]
  · rintro ⟨i, hi, hb, hk⟩
    refine AW.of hΓ mixed [] _ _ _ rfl ?_
    simp only [go_sem]
    repeat' (first | refine And.intro ?_ ?_ | intro h)
    all_goals (try omega)
    · refine ⟨⟨i + 1, by omega, by omega, fun k hk' => ?_⟩, by simp, by simp; omega⟩
      rcases Nat.lt_or_ge k i with h' | h'
      · exact hk k h'
      · obtain rfl : k = i := by omega
        exact h.2
    obtain rfl := ahd_eq [] i a b hi hb hk fun p q => h ⟨by omega, by omega⟩
    generalize hn : ahd a b = n at *
    refine AW.round (α := { m : Nat // n + m ≤ a.length ∧ n + m ≤ b.length ∧ ∀ k, k < m → a.getD (a.length - 1 - k) [] = b.getD (b.length - 1 - k) [] }) (fun m => ⟨[(0, sL eS a), (1, sL eS b), (6, .val (.int .i64 n)), (7, .val (.int .i64 m.1))], [], 68, 0, 0, []⟩) (fun m => a.length - m.1) ⟨0, by simpa using hi, by simpa using hb, by simp⟩ ?_ ?_
    · simp only [go_sem]
    · rintro ⟨m, ha', hb', hm⟩
      refine AW.of hΓ mixed [] _ _ _ rfl ?_
      simp only [go_sem]
      have e1 : (n : Int) + m < ↑a.length → ((a.length : Int) - 1 - m).toNat = a.length - 1 - m := fun h => by omega
      have e2 : (n : Int) + m < ↑b.length → ((b.length : Int) - 1 - m).toNat = b.length - 1 - m := fun h => by omega
      repeat' (first | refine And.intro ?_ ?_ | intro h)
      all_goals (try omega)
      · refine ⟨⟨m + 1, by omega, by omega, fun k hk' => ?_⟩, by simp, by simp; omega⟩
        rcases Nat.lt_or_ge k m with h' | h'
        · exact hm k h'
        · obtain rfl : k = m := by omega
          have := h.2
          rwa [e1 h.1.1, e2 h.1.2] at this
      · refine congrArg _ (bhd_drop [] a b n m hi hb ha' hb' hm fun p q => ?_)
        have := h ⟨by omega, by omega⟩
        rwa [e1 (by omega), e2 (by omega)] at this
end Go.Proofs.Ytnhfobhdbablaaa
namespace Go.Proofs.Ytnhfobhdbablaaa
open Go
/-- A text's lines, each with its end. -/
def splitL : List UInt8 → List (List UInt8)
  | [] => []
  | c :: r => if c = 10 then [c] :: splitL r else match splitL r with
    | [] => [[c]]
    | l :: ls => (c :: l) :: ls
/-- The pieces that end behind each line's end; the last one doesn't. -/
def spA : List UInt8 → List (List UInt8)
  | [] => [[]]
  | c :: r => if c = 10 then [c] :: spA r else match spA r with
    | [] => [[c]]
    | l :: ls => (c :: l) :: ls
theorem spA_ne (s : List UInt8) : spA s ≠ [] := by
  cases s with
  | nil => simp [spA]
  | cons c r =>
    unfold spA
    split
    · simp
    · split <;> simp
theorem splitL_cut : ∀ (p r : List UInt8), (10 : UInt8) ∉ p → splitL (p ++ 10 :: r) = (p ++ [10]) :: splitL r
  | [], r, _ => by simp [splitL]
  | c :: p, r, h => by
    simp only [List.mem_cons, not_or] at h
    rw [List.cons_append, splitL, if_neg (Ne.symm h.1), splitL_cut p r h.2]
    rfl
theorem splitL_one : ∀ (p : List UInt8), (10 : UInt8) ∉ p → p ≠ [] → splitL p = [p]
  | [], _, h => absurd rfl h
  | [c], h, _ => by
    simp only [List.mem_cons, List.not_mem_nil, or_false] at h
    simp [splitL, Ne.symm h]
  | c :: d :: p, h, _ => by
    simp only [List.mem_cons, not_or] at h
    rw [splitL, if_neg (Ne.symm h.1), splitL_one (d :: p) (by simp only [List.mem_cons, not_or]; exact h.2) (by simp)]
theorem spA_cut : ∀ (p r : List UInt8), (10 : UInt8) ∉ p → spA (p ++ 10 :: r) = (p ++ [10]) :: spA r
  | [], r, _ => by simp [spA]
  | c :: p, r, h => by
    simp only [List.mem_cons, not_or] at h
    rw [List.cons_append, spA, if_neg (Ne.symm h.1), spA_cut p r h.2]
    rfl
theorem spA_one : ∀ (p : List UInt8), (10 : UInt8) ∉ p → spA p = [p]
  | [], _ => rfl
  | c :: p, h => by
    simp only [List.mem_cons, not_or] at h
    rw [spA, if_neg (Ne.symm h.1), spA_one p h.2]
/-- Where the first end is, if there is one. -/
theorem idx_cases (x : List UInt8) : (Lib.indexByte x 10 = -1 ∧ (10 : UInt8) ∉ x) ∨ ∃ p r, x = p ++ 10 :: r ∧ (10 : UInt8) ∉ p ∧ Lib.indexByte x 10 = p.length := by
  rcases Int.lt_or_le (Lib.indexByte x 10) 0 with h | h
  · have := Lib.indexByte_ge x 10
    have e : Lib.indexByte x 10 = -1 := by omega
    refine .inl ⟨e, fun hm => ?_⟩
    obtain ⟨k, hk, hx⟩ := List.mem_iff_getElem.1 hm
    exact Lib.indexByte_none e k (by rw [List.getElem?_eq_getElem hk, hx])
  · obtain ⟨o, ho⟩ := Int.eq_ofNat_of_zero_le h
    obtain ⟨h1, h2⟩ := Lib.indexByte_some (o := o) ho
    obtain ⟨hl, hx⟩ := List.getElem?_eq_some_iff.1 h1
    refine .inr ⟨x.take o, x.drop (o + 1), ?_, fun hm => ?_, ?_⟩
    · conv => lhs; rw [← List.take_append_drop o x]
      rw [List.drop_eq_getElem_cons hl, hx]
    · obtain ⟨k, hk, hk'⟩ := List.mem_iff_getElem.1 hm
      have hk2 : k < o := by simp at hk; omega
      refine h2 k hk2 ?_
      rw [List.getElem_take] at hk'
      rw [List.getElem?_eq_getElem (by omega), hk']
    · rw [ho, List.length_take]
      have : min o x.length = o := by omega
      rw [this]
theorem splitL_nil_iff (s : List UInt8) : splitL s = [] ↔ s = [] := by
  cases s with
  | nil => simp [splitL]
  | cons c r =>
    unfold splitL
    split
    · simp
    · split <;> simp
theorem spA_split : ∀ (s : List UInt8), (spA s = splitL s ++ [[]]) ∨ (spA s = splitL s ∧ ∀ l ∈ splitL s, l ≠ [])
  | [] => .inl rfl
  | c :: r => by
    have ih := spA_split r
    unfold spA splitL
    by_cases h : c = 10
    · rw [if_pos h, if_pos h]
      rcases ih with e | ⟨e, hl⟩
      · exact .inl (by rw [e]; rfl)
      · refine .inr ⟨by rw [e], ?_⟩
        intro l hm
        rcases List.mem_cons.1 hm with rfl | hm
        · simp
        · exact hl l hm
    · rw [if_neg h, if_neg h]
      rcases ih with e | ⟨e, hl⟩
      · rw [e]
        cases hs : splitL r with
        | nil => exact .inr ⟨rfl, by simp⟩
        | cons l ls => exact .inl rfl
      · rw [e]
        refine .inr ⟨rfl, ?_⟩
        cases hs : splitL r with
        | nil => simp
        | cons l ls =>
          rw [hs] at hl
          intro x hm
          rcases List.mem_cons.1 hm with rfl | hm
          · simp
          · exact hl x (List.mem_cons_of_mem _ hm)
theorem splitL_ne : ∀ (s : List UInt8), ∀ l ∈ splitL s, l ≠ []
  | [] => by simp [splitL]
  | c :: r => by
    have ih := splitL_ne r
    unfold splitL
    split
    · intro l hm
      rcases List.mem_cons.1 hm with rfl | hm
      · simp
      · exact ih l hm
    · split
      · simp
      · rename_i l ls hs
        rw [hs] at ih
        intro x hm
        rcases List.mem_cons.1 hm with rfl | hm
        · simp
        · exact ih x (List.mem_cons_of_mem _ hm)
theorem splitL_flat : ∀ (s : List UInt8), (splitL s).flatten = s
  | [] => rfl
  | c :: r => by
    have ih := splitL_flat r
    unfold splitL
    split
    · simp [ih]
    · split
      · rename_i hs
        rw [hs] at ih
        simp at ih
        simp [ih]
      · rename_i l ls hs
        rw [hs] at ih
        simp only [List.flatten_cons] at ih ⊢
        simp [ih]
theorem splitL_append : ∀ (n : Nat) (a b : List UInt8), a.length ≤ n → (a = [] ∨ a.getLast? = some 10) → splitL (a ++ b) = splitL a ++ splitL b
  | n, a, b, hn, h => by
    rcases idx_cases a with ⟨_, hno⟩ | ⟨p, r, rfl, hp, _⟩
    · rcases h with rfl | h
      · rfl
      · exact absurd (List.mem_of_getLast? h) hno
    · cases n with
      | zero => simp at hn
      | succ n =>
        rw [List.append_assoc, List.cons_append, splitL_cut p _ hp, splitL_cut p r hp, List.cons_append]
        congr 1
        refine splitL_append n r b (by simp at hn; omega) ?_
        rcases h with h | h
        · simp at h
        · cases r with
          | nil => exact .inl rfl
          | cons c r => rw [List.getLast?_append, List.getLast?_cons_cons] at h; exact .inr (by simpa using h)
theorem splitL_len (s : List UInt8) : (splitL s).length ≤ s.length := by
  have h : ∀ l : List (List UInt8), (∀ x ∈ l, x ≠ []) → l.length ≤ l.flatten.length := by
    intro l
    induction l with
    | nil => simp
    | cons x l ih =>
      intro hx
      have h1 := ih fun y hy => hx y (List.mem_cons_of_mem _ hy)
      have h2 : 0 < x.length := List.length_pos_iff.2 (hx x (List.mem_cons_self ..))
      simp only [List.length_cons, List.flatten_cons, List.length_append]
      omega
  have := h (splitL s) (splitL_ne s)
  rwa [splitL_flat] at this
/-- One line. -/
def oneL (x : List UInt8) : Bool := decide ((splitL x).length = 1)
/-- Has it its end? -/
def endsL (x : List UInt8) : Bool := decide (x.getLast? = some 10)
/-- A text's lines, perhaps. -/
def wholeL : List (List UInt8) → Bool
  | [] => true
  | [x] => oneL x
  | x :: y :: r => oneL x && endsL x && wholeL (y :: r)
theorem wholeL_iff : ∀ (l : List (List UInt8)), wholeL l = true ↔ ∀ i, i < l.length → oneL (l.getD i []) = true ∧ (i + 1 < l.length → endsL (l.getD i []) = true)
  | [] => by simp [wholeL]
  | [x] => by
    unfold wholeL
    constructor
    · intro h i hi
      have : i = 0 := by simp at hi; omega
      subst this
      exact ⟨h, fun h => by simp at h⟩
    · intro h
      exact (h 0 (by simp)).1
  | x :: y :: r => by
    unfold wholeL
    rw [Bool.and_eq_true, Bool.and_eq_true, wholeL_iff (y :: r)]
    constructor
    · rintro ⟨⟨h1, h2⟩, h3⟩ i hi
      cases i with
      | zero => exact ⟨h1, fun _ => h2⟩
      | succ i =>
        have := h3 i (by simpa using hi)
        simp only [List.getD_cons_succ]
        exact ⟨this.1, fun h => this.2 (by simpa using h)⟩
    · intro h
      refine ⟨⟨(h 0 (by simp)).1, (h 0 (by simp)).2 (by simp)⟩, fun i hi => ?_⟩
      have := h (i + 1) (by simpa using hi)
      simp only [List.getD_cons_succ] at this
      exact ⟨this.1, fun h => this.2 (by simpa using h)⟩
theorem wholeL_split : ∀ (l : List (List UInt8)), wholeL l = true → splitL l.flatten = l
  | [], _ => rfl
  | [x], h => by
    simp only [wholeL, oneL, decide_eq_true_eq] at h
    simp only [List.flatten_cons, List.flatten_nil, List.append_nil]
    have hf := splitL_flat x
    match hs : splitL x, h with
    | [y], _ => rw [hs] at hf; simp at hf; rw [hf]
  | x :: y :: r, h => by
    simp only [wholeL, oneL, endsL, Bool.and_eq_true, decide_eq_true_eq] at h
    obtain ⟨⟨h1, h2⟩, h3⟩ := h
    rw [List.flatten_cons, splitL_append x.length x _ (Nat.le_refl _) (.inr h2), wholeL_split (y :: r) h3]
    have hf := splitL_flat x
    match hs : splitL x, h1 with
    | [z], _ => rw [hs] at hf; simp at hf; rw [hf]; rfl
theorem oneL_cut (p r : List UInt8) (hp : (10 : UInt8) ∉ p) : oneL (p ++ 10 :: r) = decide (r = []) := by
  unfold oneL
  rw [splitL_cut p r hp]
  simp [splitL_nil_iff]
theorem oneL_no (p : List UInt8) (hp : (10 : UInt8) ∉ p) : oneL p = decide (p ≠ []) := by
  unfold oneL
  by_cases h : p = []
  · subst h; rfl
  · rw [splitL_one p hp h]; simp [h]
theorem endsL_no (p : List UInt8) (hp : (10 : UInt8) ∉ p) : endsL p = false := by
  unfold endsL
  rw [decide_eq_false_iff_not]
  exact fun h => hp (List.mem_of_getLast? h)
theorem wholeL_splitL : ∀ (n : Nat) (s : List UInt8), s.length ≤ n → wholeL (splitL s) = true
  | n, s, hn => by
    rcases idx_cases s with ⟨_, hno⟩ | ⟨p, r, rfl, hp, _⟩
    · cases s with
      | nil => rfl
      | cons c s => rw [splitL_one _ hno (by simp)]; simp [wholeL, oneL_no _ hno]
    · cases n with
      | zero => simp at hn
      | succ n =>
        rw [splitL_cut p r hp]
        have ih := wholeL_splitL n r (by simp at hn; omega)
        have h1 : oneL (p ++ [10]) = true := by rw [oneL_cut p [] hp]; rfl
        cases hs : splitL r with
        | nil => exact h1
        | cons x l =>
          rw [hs] at ih
          simp [wholeL, h1, ih, endsL]
/-- How often a sign stands at a line's beginning. -/
def runL : List UInt8 → Nat
  | [] => 0
  | c :: r => if c = 60 ∨ c = 124 ∨ c = 61 ∨ c = 62 then 1 + (r.takeWhile (· == c)).length else 0
def longL (l : List (List UInt8)) : Nat := l.foldl (fun n x => max n (runL x)) 0
theorem runL_le (x : List UInt8) : runL x ≤ x.length := by
  cases x with
  | nil => simp [runL]
  | cons c r =>
    have := (List.takeWhile_sublist (· == c) (l := r)).length_le
    rw [runL, List.length_cons]
    split
    · omega
    · omega
theorem takeWhile_at (c : UInt8) : ∀ (r : List UInt8) (n : Nat), n ≤ r.length → (∀ k, k < n → r.getD k 0 = c) → (n < r.length → r.getD n 0 ≠ c) → (r.takeWhile (· == c)).length = n
  | [], n, h, _, _ => by simp at h; simp [h]
  | x :: r, 0, _, _, h => by
    have := h (by simp)
    simp at this
    simp [this]
  | x :: r, n + 1, h, hk, hn => by
    have h0 := hk 0 (by omega)
    simp at h0
    subst h0
    rw [List.takeWhile_cons, if_pos (by simp), List.length_cons]
    rw [takeWhile_at x r n (by simpa using h) (fun k hk' => by simpa using hk (k + 1) (by omega)) (fun hl => by simpa using hn (by simpa using hl))]
/-- A number for each text, where it is met first. -/
def numL : List (List UInt8) → List (List UInt8) → List (List UInt8) × List Int
  | ks, [] => (ks, [])
  | ks, x :: l => ((numL (if x ∈ ks then ks else ks ++ [x]) l).1, (ks.idxOf x : Int) :: (numL (if x ∈ ks then ks else ks ++ [x]) l).2)
def numF : List (List UInt8) → List (List (List UInt8)) → List (List Int)
  | _, [] => []
  | ks, f :: fs => (numL ks f).2 :: numF (numL ks f).1 fs
theorem numL_len : ∀ (ks l : List (List UInt8)), (numL ks l).2.length = l.length
  | _, [] => rfl
  | ks, x :: l => by simp [numL, numL_len _ l]
theorem numF_len : ∀ (ks : List (List UInt8)) (fs : List (List (List UInt8))), (numF ks fs).length = fs.length
  | _, [] => rfl
  | ks, f :: fs => by simp [numF, numF_len _ fs]
theorem numL_app : ∀ (ks l m : List (List UInt8)), numL ks (l ++ m) = ((numL (numL ks l).1 m).1, (numL ks l).2 ++ (numL (numL ks l).1 m).2)
  | ks, [], m => by simp [numL]
  | ks, x :: l, m => by simp [numL, numL_app _ l m]
theorem numF_app : ∀ (ks : List (List UInt8)) (fs gs : List (List (List UInt8))), numF ks (fs ++ gs) = numF ks fs ++ numF (fs.foldl (fun k f => (numL k f).1) ks) gs
  | ks, [], gs => rfl
  | ks, f :: fs, gs => by simp [numF, numF_app _ fs gs]
theorem numL_ks : ∀ (ks l : List (List UInt8)), (numL ks l).1.length ≤ ks.length + l.length
  | ks, [] => by simp [numL]
  | ks, x :: l => by
    have := numL_ks (if x ∈ ks then ks else ks ++ [x]) l
    simp only [numL, List.length_cons]
    split at this <;> simp at this ⊢ <;> split <;> simp_all <;> omega
end Go.Proofs.Ytnhfobhdbablaaa
set_option linter.unusedVariables false
namespace Go.Proofs.Ytnhfobhdbablaaa
/-- May a Step of a kind stand right behind one of another? (-1: behind none.) -/
def followsB (x y : Int) : Bool := decide (x ≠ y) && !(decide (x = 2) && decide (y = 1))
def stepOK (s : Int × List (List UInt8)) : Bool := decide (0 ≤ s.1 ∧ s.1 ≤ 2 ∧ s.2.length ≠ 0)
def rightE : Int → List (Int × List (List UInt8)) → Bool
  | _, [] => true
  | k, s :: l => stepOK s && (followsB k s.1 && rightE s.1 l)
/-- What a script leads from (1), and to (2). -/
def sideL (side : Int) (l : List (Int × List (List UInt8))) : List (List UInt8) := l.flatMap fun s => if s.1 = 0 ∨ s.1 = side then s.2 else []
def lessL (kind : Int) (l : List (Int × List (List UInt8))) : List (List UInt8) := l.flatMap fun s => if s.1 = kind then [] else s.2
def countL (kind : Int) (l : List (Int × List (List UInt8))) : Nat := (l.flatMap fun s => if s.1 = kind then s.2 else []).length
def turnK (k : Int) : Int := if k = 1 then 2 else if k = 2 then 1 else k
def turnS (s : Int × List (List UInt8)) : Int × List (List UInt8) := (turnK s.1, s.2)
def backL : List (Int × List (List UInt8)) → List (Int × List (List UInt8))
  | [] => []
  | [s] => [turnS s]
  | s :: t :: l => if s.1 = 1 ∧ t.1 = 2 then turnS t :: turnS s :: backL l else turnS s :: backL (t :: l)
/-- Some texts come to a script. -/
def putL (l : List (Int × List (List UInt8))) (k : Int) (ts : List (List UInt8)) : List (Int × List (List UInt8)) :=
  if ts.length = 0 then l else match l.getLast? with
    | some s => if s.1 = k then l.dropLast ++ [(k, s.2 ++ ts)] else l ++ [(k, ts)]
    | none => [(k, ts)]
end Go.Proofs.Ytnhfobhdbablaaa
set_option linter.unusedSimpArgs false
set_option linter.unusedVariables false
set_option maxRecDepth 100000
set_option maxHeartbeats 2000000
namespace Go.Proofs.Ytnhfobhdbablaaa
open Go
attribute [local irreducible] AW AVle ASle RowLe
theorem st_sz : (eP eI (eL eS)).sz = 2 := rfl
theorem st_d : (eP eI (eL eS)).dflt = ((0 : Int), ([] : List (List UInt8))) := rfl
theorem sp0 (s : Int × List (List UInt8)) : (eP eI (eL eS)).enc s 0 = .val (.int .i64 s.1) := rfl
theorem sp1 (s : Int × List (List UInt8)) : (eP eI (eL eS)).enc s 1 = sL eS s.2 := rfl
theorem stC20 (c d : Nat → AV) : stC c 0 2 d 0 = d 0 := rfl
theorem stC21 (c d : Nat → AV) : stC c 0 2 d 1 = d 1 := rfl
def sFollows : Spec := Spec.f2 kI kI (fun _ _ => True) (fun x y => kB.enc (followsB x y))
theorem countL_snoc (k : Int) (l : List (Int × List (List UInt8))) (s : Int × List (List UInt8)) : countL k (l ++ [s]) = countL k l + if s.1 = k then s.2.length else 0 := by
  unfold countL
  rw [List.flatMap_append, List.length_append]
  by_cases h : s.1 = k <;> simp [h]
theorem countL_le {l : List (Int × List (List UInt8))} {m : Nat} (h : ∀ s ∈ l, s.2.length ≤ m) (k : Int) : countL k l ≤ l.length * m := by
  induction l with
  | nil => simp [countL]
  | cons s l ih =>
    have h1 := h s (List.mem_cons_self ..)
    have h2 := ih fun t ht => h t (List.mem_cons_of_mem _ ht)
    have e : countL k (s :: l) = (if s.1 = k then s.2.length else 0) + countL k l := by
      unfold countL
      rw [List.flatMap_cons, List.length_append]
      by_cases h : s.1 = k <;> simp [h]
    rw [e, List.length_cons, Nat.succ_mul]
    split <;> omega
theorem take_snocE {α : Type} (l : List α) (d : α) {i : Nat} (h : i < l.length) : l.take (i + 1) = l.take i ++ [l.getD i d] := by
  rw [List.take_succ_eq_append_getElem h, gd_lt l d h]
def sCountsE : Spec := Spec.f1 (kL (eP eI (eL eS))) (fun l => l.length < 10000 ∧ ∀ s ∈ l, s.2.length ≤ 10000) (fun l => tu3 (kI.enc (countL 0 l)) (kI.enc (countL 1 l)) (kI.enc (countL 2 l)))
def sEqualS : Spec := Spec.f2 (kL eS) (kL eS) (fun a b => a.length < 1000000000 ∧ b.length < 1000000000) (fun a b => kB.enc (decide (a = b)))
def sCloneS : MSpec := fun args hp top nx K => ∃ x l, args = [x] ∧ AVle x (sL eS l) ∧ l.length < 1000000000 ∧ ∀ ver nx', nx ≤ ver → ver < nx' → K (.ow top ver l.length) (updR hp top (rowL ver 9 eS l)) (top + 1) nx'
theorem okCloneS : MethOK Try.prog 88 sCloneS := by
  refine MethOK.mk Try.func88 rfl (by decide) Try.results88 Try.ntmps88 ?_
  rintro args hp top nx K ⟨x, l, rfl, hx, hl, hK⟩
  have hΓ : GOK Try.prog (gam []) := GOK.nil
  refine ⟨Nat.le_of_ble_eq_true rfl, ?_⟩
  refine AW.le (stM_le (.cons hx .nil)) ?_
  refine AW.of hΓ mixed [2, 99999] _ _ _ rfl ?_
  simp only [go_sem]
  refine ⟨fun h0 => ?_, ?_⟩
  · refine AW.adopt 2 9 1 (fun i => eS.enc (l.getD i [])) rfl ?_
    refine AW.of hΓ mixed [] _ _ _ rfl ?_
    simp only [go_sem]
    obtain rfl := List.length_eq_zero_iff.1 h0
    exact hK nx (nx + 1) (Nat.le_refl _) (Nat.lt_succ_self _)
  · exact ⟨by omega, hK nx (nx + 1) (Nat.le_refl _) (Nat.lt_succ_self _)⟩
def sRightE : Spec := Spec.f1 (kL (eP eI (eL eS))) (fun l => l.length < 10000 ∧ ∀ s ∈ l, s.2.length ≤ 10000) (fun l => kB.enc (rightE (-1) l))
def lastK (l : List (Int × List (List UInt8))) : Nat → Int
  | 0 => -1
  | i + 1 => (l.getD i (0, [])).1
theorem lessL_snoc (k : Int) (l : List (Int × List (List UInt8))) (s : Int × List (List UInt8)) : lessL k (l ++ [s]) = lessL k l ++ if s.1 = k then [] else s.2 := by
  unfold lessL
  rw [List.flatMap_append]
  by_cases h : s.1 = k <;> simp [h]
theorem lessL_le {l : List (Int × List (List UInt8))} {m : Nat} (h : ∀ s ∈ l, s.2.length ≤ m) (k : Int) : (lessL k l).length ≤ l.length * m := by
  induction l with
  | nil => simp [lessL]
  | cons s l ih =>
    have h1 := h s (List.mem_cons_self ..)
    have h2 := ih fun t ht => h t (List.mem_cons_of_mem _ ht)
    have e : lessL k (s :: l) = (if s.1 = k then [] else s.2) ++ lessL k l := by
      unfold lessL
      rw [List.flatMap_cons]
    rw [e, List.length_append, List.length_cons, Nat.succ_mul]
    by_cases hk : s.1 = k
    · rw [if_pos hk, List.length_nil]; omega
    · rw [if_neg hk]; omega
def sApplyE : Spec := Spec.f2 (kL (eP eI (eL eS))) (kL eS) (fun l a => l.length < 10000 ∧ (∀ s ∈ l, s.2.length ≤ 10000) ∧ a.length < 1000000000) (fun l a => if lessL 2 l = a then tu2 (sL eS (lessL 1 l)) (kI.enc 0) else tu2 .em (kI.enc 12))
def sRefRightE : Spec := Spec.f1 (kL (eP eI (eL eS))) (fun l => l.length < 10000 ∧ ∀ s ∈ l, s.2.length ≤ 10000) (fun l => kB.enc (rightE (-1) l))
theorem cells_ag (m : Nat) (c : Nat → AV) : cellsAV (.ag m c) = some (m, c) := rfl
theorem kA_st (s : Int × List (List UInt8)) : (kA (eP eI (eL eS))).enc s = .ag 2 ((eP eI (eL eS)).enc s) := rfl
def sTurnedE : Spec := Spec.f1 (kA (eP eI (eL eS))) (fun s => s.2.length ≤ 10000) (fun s => (kA (eP eI (eL eS))).enc (turnS s))
end Go.Proofs.Ytnhfobhdbablaaa
set_option linter.unusedSimpArgs false
set_option linter.unusedVariables false
set_option maxRecDepth 100000
set_option maxHeartbeats 2000000
namespace Go.Proofs.Ytnhfobhdbablaaa
open Go
attribute [local irreducible] AW AVle ASle RowLe
def sSameE : Spec := Spec.f2 (kL (eP eI (eL eS))) (kL (eP eI (eL eS))) (fun a b => a.length < 10000 ∧ b.length < 10000 ∧ (∀ s ∈ a, s.2.length ≤ 10000) ∧ (∀ s ∈ b, s.2.length ≤ 10000)) (fun a b => kB.enc (decide (a = b)))
def sSideE : Spec := Spec.f2 (kL (eP eI (eL eS))) kI (fun l k => l.length < 10000 ∧ (∀ s ∈ l, s.2.length ≤ 10000)) (fun l k => sL eS (sideL k l))
theorem sideL_snoc (k : Int) (l : List (Int × List (List UInt8))) (s : Int × List (List UInt8)) : sideL k (l ++ [s]) = sideL k l ++ if s.1 = 0 ∨ s.1 = k then s.2 else [] := by
  unfold sideL
  rw [List.flatMap_append]
  by_cases h : s.1 = 0 ∨ s.1 = k <;> simp [h]
theorem sideL_le {l : List (Int × List (List UInt8))} {m : Nat} (h : ∀ s ∈ l, s.2.length ≤ m) (k : Int) : (sideL k l).length ≤ l.length * m := by
  induction l with
  | nil => simp [sideL]
  | cons s l ih =>
    have h1 := h s (List.mem_cons_self ..)
    have h2 := ih fun t ht => h t (List.mem_cons_of_mem _ ht)
    have e : sideL k (s :: l) = (if s.1 = 0 ∨ s.1 = k then s.2 else []) ++ sideL k l := by
      unfold sideL
      rw [List.flatMap_cons]
    rw [e, List.length_append, List.length_cons, Nat.succ_mul]
    by_cases hk : s.1 = 0 ∨ s.1 = k
    · rw [if_pos hk]; omega
    · rw [if_neg hk, List.length_nil]; omega
end Go.Proofs.Ytnhfobhdbablaaa
set_option linter.unusedSimpArgs false
set_option linter.unusedVariables false
set_option maxRecDepth 100000
set_option maxHeartbeats 2000000
namespace Go.Proofs.Ytnhfobhdbablaaa
open Go
attribute [local irreducible] AW AVle ASle RowLe
theorem backL_two {l : List (Int × List (List UInt8))} {i : Nat} (h : i + 1 < l.length) (h1 : (l.getD i (0, [])).1 = 1) (h2 : (l.getD (i + 1) (0, [])).1 = 2) :
    backL (l.drop i) = [turnS (l.getD (i + 1) (0, [])), turnS (l.getD i (0, []))] ++ backL (l.drop (i + 2)) := by
  rw [List.drop_eq_getElem_cons (show i < l.length by omega), List.drop_eq_getElem_cons h, ← gd_lt l (0, []) (show i < l.length by omega), ← gd_lt l (0, []) h, backL, if_pos ⟨h1, h2⟩]
  rfl
theorem backL_one {l : List (Int × List (List UInt8))} {i : Nat} (h : i < l.length) (h1 : ¬ (i + 1 < l.length ∧ (l.getD i (0, [])).1 = 1 ∧ (l.getD (i + 1) (0, [])).1 = 2)) :
    backL (l.drop i) = [turnS (l.getD i (0, []))] ++ backL (l.drop (i + 1)) := by
  rw [List.drop_eq_getElem_cons h, ← gd_lt l (0, []) h]
  by_cases h2 : i + 1 < l.length
  · rw [List.drop_eq_getElem_cons h2, ← gd_lt l (0, []) h2, backL, if_neg (fun hh => h1 ⟨h2, hh⟩)]
    rfl
  · rw [List.drop_eq_nil_of_le (by omega)]
    rfl
theorem vwO_sp (s : Int × List (List UInt8)) : vwO (.ag 2 ((eP eI (eL eS)).enc s)) = false := rfl
theorem dec_st (hp : Nat → Row) (s : Int × List (List UInt8)) : (kA (eP eI (eL eS))).dec (.ag 2 fun j => if j < 2 then vw0 hp ((eP eI (eL eS)).enc s j) else .any) = s := by
  show (s.1, gL eS (sL eS s.2)) = s
  rw [gL_sL]
theorem ok_st (hp : Nat → Row) (s : Int × List (List UInt8)) : (kA (eP eI (eL eS))).ok (.ag 2 fun j => if j < 2 then vw0 hp ((eP eI (eL eS)).enc s j) else .any) = True := by
  refine eq_true ?_
  unfold Kd.ok
  rw [dec_st]
  refine AVle.ag fun j hj => ?_
  match j, hj with
  | 0, _ => exact AVle.refl _
  | 1, _ => exact AVle.refl _
def sBackE : Spec := Spec.f1 (kL (eP eI (eL eS))) (fun l => l.length < 10000 ∧ (∀ s ∈ l, s.2.length ≤ 10000)) (fun l => sL (eP eI (eL eS)) (backL l))
end Go.Proofs.Ytnhfobhdbablaaa
set_option linter.unusedSimpArgs false
set_option linter.unusedVariables false
set_option maxRecDepth 100000
set_option maxHeartbeats 2000000
namespace Go.Proofs.Ytnhfobhdbablaaa
open Go
attribute [local irreducible] AW AVle ASle RowLe
theorem vwO0_sp0 (s : Int × List (List UInt8)) : vwO0 ((eP eI (eL eS)).enc s 0) = false := rfl
theorem vwO0_sp1 (s : Int × List (List UInt8)) : vwO0 ((eP eI (eL eS)).enc s 1) = false := rfl
def sumL (l : List (Int × List (List UInt8))) : Nat := (l.map fun s => s.2.length).sum
theorem sumL_snoc (l : List (Int × List (List UInt8))) (s : Int × List (List UInt8)) : sumL (l ++ [s]) = sumL l + s.2.length := by simp [sumL]
theorem sumL_take (l : List (Int × List (List UInt8))) (i : Nat) : sumL (l.take i) ≤ sumL l := by
  have h : sumL (l.take i ++ l.drop i) = sumL (l.take i) + sumL (l.drop i) := by
    unfold sumL
    rw [List.map_append, List.sum_append]
  rw [List.take_append_drop] at h
  omega
theorem sumL_mem {l : List (Int × List (List UInt8))} {s : Int × List (List UInt8)} (h : s ∈ l) : s.2.length ≤ sumL l := by
  induction l with
  | nil => cases h
  | cons t l ih =>
    rcases List.mem_cons.1 h with rfl | h
    · simp [sumL]
    · have := ih h
      simp only [sumL, List.map_cons, List.sum_cons] at *
      omega
theorem sumL_bnd {m : Nat} : ∀ {l : List (Int × List (List UInt8))}, (∀ s ∈ l, s.2.length ≤ m) → sumL l ≤ l.length * m
  | [], _ => by simp [sumL]
  | s :: l, h => by
    have h1 := h s (List.mem_cons_self ..)
    have h2 := sumL_bnd fun x hx => h x (List.mem_cons_of_mem s hx)
    have e : sumL (s :: l) = s.2.length + sumL l := by simp [sumL]
    rw [e, List.length_cons, Nat.succ_mul]
    omega
def sFewE : Spec := Spec.f1 (kL (eP eI (eL eS))) (fun l => l.length ≤ 140737488351232 ∧ ∀ s ∈ l, s.2.length ≤ 140737488351232) (fun l => kB.enc (decide (l.length ≤ 100) && decide (sumL l ≤ 300)))
def sToE : Spec := Spec.f1 (kL (eP eI (eL eS))) (fun l => l.length < 10000 ∧ ∀ s ∈ l, s.2.length ≤ 10000) (fun l => sL (eP eI (eL eS)) l)
theorem turnK_tab {k : Int} (h : 0 ≤ k) (h2 : k ≤ 2) : [(0 : Int), 2, 1].getD k.toNat 0 = turnK k := by
  obtain rfl | rfl | rfl : k = 0 ∨ k = 1 ∨ k = 2 := by omega
  all_goals rfl
def sFromE : Spec := Spec.f1 (kL (eP eI (eL eS))) (fun l => l.length < 10000 ∧ ∀ s ∈ l, s.2.length ≤ 10000) (fun l => sL (eP eI (eL eS)) l)
def sRefBackE : Spec := Spec.f1 (kL (eP eI (eL eS))) (fun l => l.length < 10000 ∧ ∀ s ∈ l, s.2.length ≤ 10000 ∧ 0 ≤ s.1 ∧ s.1 ≤ 2) (fun l => sL (eP eI (eL eS)) (backL l))
end Go.Proofs.Ytnhfobhdbablaaa
set_option linter.unusedSimpArgs false
set_option linter.unusedVariables false
set_option maxRecDepth 100000
set_option maxHeartbeats 2000000
namespace Go.Proofs.Ytnhfobhdbablaaa
open Go
attribute [local irreducible] AW AVle ASle RowLe
def lastT (l : List (Int × List (List UInt8))) : List (List UInt8) := (l.getD (l.length - 1) (0, [])).2
def stepC (l : List (Int × List (List UInt8))) (tv : Nat) : Nat → Nat → AV := fun i j => if i + 1 = l.length ∧ j = 1 then .ow 1 tv (lastT l).length else (eP eI (eL eS)).enc (l.getD i (0, [])) j
theorem lastT_snoc (m : List (Int × List (List UInt8))) (s : Int × List (List UInt8)) : lastT (m ++ [s]) = s.2 := by simp [lastT, List.getD]
theorem snoc_get (m : List (Int × List (List UInt8))) (s : Int × List (List UInt8)) : (m ++ [s]).getD m.length (0, []) = s := by simp [List.getD]
theorem snoc_lt {m : List (Int × List (List UInt8))} {s : Int × List (List UInt8)} {i : Nat} (h : i < m.length) : (m ++ [s]).getD i (0, []) = m.getD i (0, []) := by simp [List.getD, List.getElem?_append_left h]
theorem stepC0 (l : List (Int × List (List UInt8))) (tv i : Nat) : stepC l tv i 0 = .val (.int .i64 (l.getD i (0, [])).1) := by
  unfold stepC
  rw [if_neg (fun h => absurd h.2 (by decide))]
  rfl
theorem stepC1 (m : List (Int × List (List UInt8))) (s : Int × List (List UInt8)) (tv : Nat) : stepC (m ++ [s]) tv m.length 1 = .ow 1 tv s.2.length := by
  unfold stepC
  rw [if_pos ⟨by simp, rfl⟩, lastT_snoc]
theorem stepC_lt {l : List (Int × List (List UInt8))} {tv i j : Nat} (h : i + 1 < l.length) : stepC l tv i j = (eP eI (eL eS)).enc (l.getD i (0, [])) j := by
  unfold stepC
  rw [if_neg (fun hh => by omega)]
theorem putL_nil (l : List (Int × List (List UInt8))) (k : Int) : putL l k [] = l := by rfl
theorem putL_first {k : Int} {ts : List (List UInt8)} (h : ts.length ≠ 0) : putL [] k ts = [(k, ts)] := by
  unfold putL
  rw [if_neg h]
  rfl
theorem putL_same {m : List (Int × List (List UInt8))} {s : Int × List (List UInt8)} {k : Int} {ts : List (List UInt8)} (h : ts.length ≠ 0) (hk : s.1 = k) : putL (m ++ [s]) k ts = m ++ [(k, s.2 ++ ts)] := by
  unfold putL
  rw [if_neg h]
  simp [hk]
theorem putL_new {m : List (Int × List (List UInt8))} {s : Int × List (List UInt8)} {k : Int} {ts : List (List UInt8)} (h : ts.length ≠ 0) (hk : ¬ s.1 = k) : putL (m ++ [s]) k ts = m ++ [s] ++ [(k, ts)] := by
  unfold putL
  rw [if_neg h]
  simp [hk]
theorem stepC_same {m : List (Int × List (List UInt8))} {s : Int × List (List UInt8)} {k : Int} {ts : List (List UInt8)} {tv nx : Nat} (hk : s.1 = k) : ∀ i, i < m.length + 1 → ∀ j, j < 2 →
    AVle (stE (stepC (m ++ [s]) tv) m.length 1 1 (fun _ => AV.ow 1 nx (s.2.length + ts.length)) i j) (stepC (m ++ [(k, s.2 ++ ts)]) nx i j) := fun i hi j hj => by
  simp only [stE]
  by_cases e : i = m.length
  · subst e
    match j, hj with
    | 0, _ =>
      rw [if_neg (by omega), stepC0, stepC0, snoc_get, snoc_get, hk]
      exact AVle.refl _
    | 1, _ =>
      rw [if_pos (by omega), stepC1]
      simp only [List.length_append]
      exact AVle.refl _
  · rw [if_neg (fun h => e h.1), stepC_lt (by simp; omega), stepC_lt (by simp; omega), snoc_lt (by omega), snoc_lt (by omega)]
    exact AVle.refl _
theorem stepC_first {k : Int} {ts : List (List UInt8)} {c d : Nat → Nat → AV} {v : Nat} (h0 : d 0 0 = .val (.int .i64 k)) (h1 : d 0 1 = .ow 2 v ts.length) : ∀ i, i < 1 → ∀ j, j < 2 → AVle (apC 0 c d i j) (stepC [(k, ts)] v i j) := fun i hi j hj => by
  obtain rfl : i = 0 := by omega
  show AVle (d 0 j) _
  match j, hj with
  | 0, _ =>
    rw [h0, stepC0]
    exact AVle.refl _
  | 1, _ =>
    rw [h1, show stepC [(k, ts)] v 0 1 = _ from stepC1 [] (k, ts) v]
    exact AVle.ow
theorem stepC_new {m : List (Int × List (List UInt8))} {s : Int × List (List UInt8)} {k : Int} {ts : List (List UInt8)} {d : Nat → Nat → AV} {tv v : Nat} (h0 : d 0 0 = .val (.int .i64 k)) (h1 : d 0 1 = .ow 2 v ts.length) :
    ∀ i, i < m.length + 1 + 1 → ∀ j, j < 2 → AVle (fz 1 tv (lastT (m ++ [s])).length 1 (fun i => eS.enc ((lastT (m ++ [s])).getD i [])) (apC (m.length + 1) (stepC (m ++ [s]) tv) d i j)) (stepC (m ++ [s] ++ [(k, ts)]) v i j) := fun i hi j hj => by
  rw [lastT_snoc]
  simp only [apC]
  by_cases e : i < m.length + 1
  · rw [if_pos e, stepC_lt (l := m ++ [s] ++ [(k, ts)]) (by simp; omega), snoc_lt (m := m ++ [s]) (by simp; omega)]
    by_cases e2 : i = m.length
    · subst e2
      rw [snoc_get]
      match j, hj with
      | 0, _ =>
        rw [stepC0, snoc_get]
        exact AVle.refl _
      | 1, _ =>
        rw [stepC1]
        simp only [fz, and_self, if_true, Nat.le_refl]
        exact AVle.refl _
    · rw [stepC_lt (by simp; omega)]
      match j, hj with
      | 0, _ => exact AVle.refl _
      | 1, _ => exact AVle.refl _
  · obtain rfl : i = m.length + 1 := by omega
    rw [if_neg (by omega), Nat.sub_self]
    match j, hj with
    | 0, _ =>
      rw [h0, stepC0]
      simp only [fz]
      rw [show (m ++ [s] ++ [(k, ts)]).getD (m.length + 1) (0, []) = (k, ts) by simp [List.getD]]
      exact AVle.refl _
    | 1, _ =>
      rw [h1, show stepC (m ++ [s] ++ [(k, ts)]) v (m.length + 1) 1 = _ by simpa using stepC1 (m ++ [s]) (k, ts) v]
      simp only [fz]
      exact AVle.ow
end Go.Proofs.Ytnhfobhdbablaaa
namespace Go.Proofs.Ytnhfobhdbablaaa
def rgt (a b : List Int) : Int → Int → List (Int × Int) → Bool
  | _, _, [] => true
  | u, v, p :: l => decide (u < p.1 ∧ v < p.2 ∧ p.1 < a.length ∧ p.2 < b.length ∧ a.getD p.1.toNat 0 = b.getD p.2.toNat 0) && rgt a b p.1 p.2 l
end Go.Proofs.Ytnhfobhdbablaaa
set_option linter.unusedSimpArgs false
set_option linter.unusedVariables false
set_option maxRecDepth 100000
set_option maxHeartbeats 2000000
namespace Go.Proofs.Ytnhfobhdbablaaa
open Go
attribute [local irreducible] AW AVle ASle RowLe
theorem pp_sz : (eP eI eI).sz = 2 := rfl
theorem pp0 (p : Int × Int) : (eP eI eI).enc p 0 = .val (.int .i64 p.1) := rfl
theorem pp1 (p : Int × Int) : (eP eI eI).enc p 1 = .val (.int .i64 p.2) := rfl
theorem take_snocG {α : Type} (l : List α) (d : α) {i : Nat} (h : i < l.length) : l.take (i + 1) = l.take i ++ [l.getD i d] := by
  rw [List.take_succ_eq_append_getElem h, gd_lt l d h]
theorem cap_le {α : Type} (E : El α) (l : List α) {d : α} {m n : Nat} {s : Nat} (hs : s = E.sz) (hd : d = E.dflt) (hn : n = min l.length m) : AVle (.sn n s fun i => E.enc (l.getD i d)) (sL E (l.take m)) := by
  subst hs hd hn
  exact vw_row rfl rfl (by rw [List.take_eq_take_iff]; omega) (by omega)
theorem capped {α : Type} (l : List α) (m : Nat) : ∃ L, l.take m = L ∧ L.length ≤ m := ⟨_, rfl, by rw [List.length_take]; omega⟩
theorem zC_10 : zC [Value.int .i64 0, Value.int .i64 0] 0 = .val (.int .i64 0) := rfl
theorem zC_11 : zC [Value.int .i64 0, Value.int .i64 0] 1 = .val (.int .i64 0) := rfl
def sLcsTo : Spec := Spec.f1 (kL (eP eI eI)) (fun l => l.length < 100000000) (fun l => sL (eP eI eI) l)
def sLcsFrom : Spec := Spec.f1 (kL (eP eI eI)) (fun l => l.length < 100000000) (fun l => sL (eP eI eI) l)
def sLcsRight : Spec := Spec.f3 (kL eI) (kL eI) (kL (eP eI eI)) (fun a b l => a.length < 100000000 ∧ b.length < 100000000 ∧ l.length < 100000000) (fun a b l => kB.enc (rgt a b (-1) (-1) l))
theorem pp_d : (eP eI eI).dflt = ((0 : Int), (0 : Int)) := rfl
def lastP (l : List (Int × Int)) : Nat → Int × Int
  | 0 => (-1, -1)
  | i + 1 => l.getD i (0, 0)
def sLcsRefRight : Spec := Spec.f3 (kL eI) (kL eI) (kL (eP eI eI)) (fun a b l => a.length < 100000000 ∧ b.length < 100000000 ∧ l.length < 100000000) (fun a b l => kB.enc (rgt a b (-1) (-1) l))
end Go.Proofs.Ytnhfobhdbablaaa
set_option linter.unusedSimpArgs false
set_option linter.unusedVariables false
set_option maxRecDepth 100000
namespace Go.Proofs.Ytnhfobhdbablaaa
open Go
attribute [local irreducible] AW AVle ASle RowLe
/-! ### Number -/
def sNumber : Spec := Spec.f1 (kL (eL eS)) (fun l => l.length ≤ 1000000 ∧ ∀ f ∈ l, f.length ≤ 1000000) (fun l => sL (eL eI) (numF [] l))
theorem numF_snoc (ks : List (List UInt8)) (fs : List (List (List UInt8))) (f : List (List UInt8)) : numF ks (fs ++ [f]) = numF ks fs ++ [(numL (fs.foldl (fun k f => (numL k f).1) ks) f).2] := by
  rw [numF_app]; rfl
theorem take_snoc {α : Type} (l : List α) (d : α) {i : Nat} (h : i < l.length) : l.take (i + 1) = l.take i ++ [l.getD i d] := by
  rw [List.take_add_one, gd_lt _ _ h]; simp [h]
theorem numL_snoc (ks f : List (List UInt8)) {k : Nat} (h : k < f.length) : numL ks (f.take (k + 1)) =
    (if f.getD k [] ∈ (numL ks (f.take k)).1 then (numL ks (f.take k)).1 else (numL ks (f.take k)).1 ++ [f.getD k []], (numL ks (f.take k)).2 ++ [((numL ks (f.take k)).1.idxOf (f.getD k []) : Int)]) := by
  rw [take_snoc f [] h, numL_app]
  simp [numL]
theorem idx_at : ∀ (ks : List (List UInt8)) (x : List UInt8) (n : Nat), n ≤ ks.length → (∀ m, m < n → ks.getD m [] ≠ x) → (n < ks.length → ks.getD n [] = x) → n = ks.idxOf x
  | [], x, n, h, _, _ => by simp at h; simp [h]
  | y :: ks, x, 0, _, _, h => by
    have : y = x := by simpa using h (by simp)
    subst this
    simp
  | y :: ks, x, n + 1, h, hm, hn => by
    have h0 : y ≠ x := by simpa using hm 0 (by omega)
    have ih := idx_at ks x n (by simpa using h) (fun m h' => by simpa using hm (m + 1) (by omega)) fun hl => by simpa using hn (by simpa using hl)
    have hb : (y == x) = false := by simpa using h0
    rw [List.idxOf_cons, hb, ih]
    rfl
def sRefNumber : Spec := Spec.f1 (kL (eL eS)) (fun l => l.length ≤ 1000000 ∧ ∀ f ∈ l, f.length ≤ 1000000) (fun l => sL (eL eI) (numF [] l))
theorem okRefNumber : SpecOK Try.prog 36 sRefNumber := by
  refine SpecOK.f1 Try.func36 rfl (by decide) Try.results36 Try.ntmps36 (by decide) fun fs ⟨hl, hf⟩ => ?_
  have hΓ : GOK Try.prog (gam []) := GOK.nil
  refine AW.of hΓ mixed [] _ _ _ rfl ?_
  simp only [go_sem]
  refine AW.adopt 3 9 1 (fun _ _ => .any) rfl ?_
  refine AW.adopt 4 66 1 (fun _ _ => .any) rfl ?_
  refine AW.round (α := { x : Nat × Nat × Nat × Nat // x.1 ≤ fs.length ∧ x.2.1 < x.2.2.2 ∧ x.2.2.1 < x.2.2.2 ∧ ((fs.take x.1).foldl (fun k f => (numL k f).1) []).length ≤ x.1 * 1000000 })
    (fun x => ⟨[(0, sL (eL eS) fs), (3, .ow 0 x.1.2.1 ((fs.take x.1.1).foldl (fun k f => (numL k f).1) []).length), (4, .ow 1 x.1.2.2.1 x.1.1), (5, .val (.int .i64 x.1.1))],
      [(0, rowL x.1.2.1 9 eS ((fs.take x.1.1).foldl (fun k f => (numL k f).1) [])), (1, rowL x.1.2.2.1 66 (eL eI) (numF [] (fs.take x.1.1)))], 67, 2, x.1.2.2.2, []⟩) (fun x => fs.length - x.1.1) ⟨(0, 0, 1, 2), by simp⟩ ?_ ?_
  · simp only [go_sem]
    exact ⟨rfl, row_nil rfl, row_nil rfl⟩
  · rintro ⟨⟨i, v, u, nx⟩, hi, hv, hu, hks⟩
    simp only at hi hv hu hks
    refine AW.of hΓ mixed [7] _ _ _ rfl ?_
    simp only [go_sem]
    refine ⟨fun hil => ?_, fun hil => ?_⟩
    · have hlt : i < fs.length := by omega
      have hfi := hf _ (gd_lt fs [] hlt ▸ List.getElem_mem hlt)
      generalize hfe : fs.getD i [] = f at *
      obtain ⟨ks0, hke⟩ : ∃ ks0, (fs.take i).foldl (fun k f => (numL k f).1) [] = ks0 := ⟨_, rfl⟩
      have hks0 := hks
      rw [hke] at hks0
      refine AW.adopt 6 3 1 (fun _ _ => .any) rfl ?_
      refine AW.to (fun x : { x : Nat × Nat // nx < x.2 ∧ x.1 < x.2 } => Sh.st ⟨[(0, sL (eL eS) fs), (3, .ow 0 x.1.1 (numL ks0 f).1.length), (4, .ow 1 u i), (5, .val (.int .i64 i)), (6, sL eI (numL ks0 f).2)],
        [(0, rowL x.1.1 9 eS (numL ks0 f).1), (1, rowL u 66 (eL eI) (numF [] (fs.take i)))], 67, 3, x.1.2, []⟩) ?_ ?_
      · refine AW.block (AW.round (α := { x : Nat × Nat × Nat × Nat // x.1 ≤ f.length ∧ x.2.1 < x.2.2.2 ∧ x.2.2.1 < x.2.2.2 ∧ nx < x.2.2.2 })
          (fun x => ⟨[(0, sL (eL eS) fs), (3, .ow 0 x.1.2.1 (numL ks0 (f.take x.1.1)).1.length), (4, .ow 1 u i), (5, .val (.int .i64 i)), (6, .ow 2 x.1.2.2.1 x.1.1), (7, .val (.int .i64 x.1.1))],
          [(0, rowL x.1.2.1 9 eS (numL ks0 (f.take x.1.1)).1), (1, rowL u 66 (eL eI) (numF [] (fs.take i))), (2, rowL x.1.2.2.1 3 eI (numL ks0 (f.take x.1.1)).2)], 67, 3, x.1.2.2.2, []⟩) (fun x => f.length - x.1.1) ⟨(0, v, nx, nx + 1), by simp; omega⟩ ?_ ?_)
        · simp only [go_sem, hke]
          exact ⟨rfl, by simpa [numL] using RowLe.refl _, RowLe.refl _, row_nil rfl⟩
        · rintro ⟨⟨k, v', w, nx'⟩, hk, hv', hw, hnx⟩
          simp only at hk hv' hw hnx
          have hlen : (numL ks0 (f.take k)).2.length = k := by rw [numL_len]; simp; omega
          have hkl : (numL ks0 (f.take k)).1.length ≤ ks0.length + k := by
            have := numL_ks ks0 (f.take k)
            simp at this; omega
          by_cases hkf : k < f.length
          · have hs := numL_snoc ks0 f hkf
            have hkc : (k : Int) < f.length := by omega
            generalize hx : f.getD k [] = x at *
            refine AW.of hΓ mixed [10] _ _ _ rfl ?_
            simp only [go_sem, hkc, hx, hfe]
            generalize hks' : (numL ks0 (f.take k)).1 = ks at *
            generalize hns' : (numL ks0 (f.take k)).2 = ns at *
            have hidx : ks.idxOf x ≤ ks.length := List.idxOf_le_length
            refine ⟨by omega, ?_⟩
            refine AW.seqTo (fun _ : Unit => Sh.st ⟨[(0, sL (eL eS) fs), (3, .ow 0 v' ks.length), (4, .ow 1 u i), (5, .val (.int .i64 i)), (6, .ow 2 w k), (7, .val (.int .i64 k)), (8, .val (.int .i64 (ks.idxOf x)))],
              [(0, rowL v' 9 eS ks), (1, rowL u 66 (eL eI) (numF [] (fs.take i))), (2, rowL w 3 eI ns)], 67, 3, nx', []⟩) ?_ ?_
            · refine AW.block (AW.round (α := { n : Nat // n ≤ ks.length ∧ ∀ m, m < n → ks.getD m [] ≠ x })
                (fun n => ⟨[(0, sL (eL eS) fs), (3, .ow 0 v' ks.length), (4, .ow 1 u i), (5, .val (.int .i64 i)), (6, .ow 2 w k), (7, .val (.int .i64 k)), (8, .val (.int .i64 n.1))],
                [(0, rowL v' 9 eS ks), (1, rowL u 66 (eL eI) (numF [] (fs.take i))), (2, rowL w 3 eI ns)], 67, 3, nx', []⟩) (fun n => ks.length - n.1) ⟨0, Nat.zero_le _, fun m h => absurd h (Nat.not_lt_zero _)⟩ ?_ ?_)
              · simp only [go_sem]
                exact ⟨RowLe.refl _, RowLe.refl _, RowLe.refl _⟩
              · rintro ⟨n, hn, hm⟩
                refine AW.of hΓ mixed [99999] _ _ _ rfl ?_
                simp only [go_sem, hx, hfe]
                refine ⟨fun _ => by omega, fun _ => by omega, fun _ => by omega, fun _ => by omega, fun h => ?_, fun h => ?_⟩
                · refine ⟨by omega, ⟨n + 1, by omega, fun m hm' => ?_⟩, ⟨by dsimp only; omega, RowLe.refl _, RowLe.refl _, RowLe.refl _⟩, by dsimp only; omega⟩
                  rcases Nat.lt_or_ge m n with h' | h'
                  · exact hm m h'
                  · obtain rfl : m = n := by omega
                    exact h.2
                · have hne : n = ks.idxOf x := idx_at ks x n hn hm fun hl => Decidable.not_not.1 (h (by omega))
                  refine ⟨(), toFits ?_⟩
                  simp only [go_sem]
                  exact ⟨by omega, RowLe.refl _, RowLe.refl _, RowLe.refl _⟩
            · intro _
              by_cases hb : x ∈ ks
              · have hlt : ks.idxOf x < ks.length := List.idxOf_lt_length_of_mem hb
                have hne : ¬ ((ks.idxOf x : Int) = ks.length) := by omega
                rw [if_pos hb] at hs
                refine AW.of hΓ mixed [99999] _ _ _ rfl ?_
                simp only [go_sem, hne, hx, hfe]
                refine ⟨⟨by omega, by omega⟩, by omega, ⟨(k + 1, v', nx', nx' + 1), by dsimp only; omega, by dsimp only; omega, by dsimp only; omega, by dsimp only; omega⟩, ⟨Nat.le_refl _, ⟨⟨rfl, by dsimp only; rw [hs]⟩, ⟨rfl, rfl⟩, by dsimp only; omega⟩, ?_, RowLe.refl _, ?_⟩, by dsimp only; omega⟩
                · dsimp only; rw [hs]; exact RowLe.refl _
                · dsimp only; rw [hs]; exact row_app1 rfl rfl hlen.symm rfl rfl fun _ _ => AVle.refl _
              · have heq : ks.idxOf x = ks.length := List.idxOf_eq_length hb
                rw [if_neg hb] at hs
                refine AW.of hΓ mixed [99999] _ _ _ rfl ?_
                simp only [go_sem, heq, hx, hfe]
                refine ⟨by omega, by omega, by omega, ⟨by omega, by omega⟩, by omega, ⟨(k + 1, nx', nx' + 1, nx' + 1 + 1), by dsimp only; omega, by dsimp only; omega, by dsimp only; omega, by dsimp only; omega⟩, ⟨Nat.le_refl _, ⟨⟨rfl, by dsimp only; rw [hs]; simp⟩, ⟨rfl, rfl⟩, by dsimp only; omega⟩, ?_, RowLe.refl _, ?_⟩, by dsimp only; omega⟩
                · dsimp only; rw [hs]; exact row_app1 rfl rfl rfl rfl (by simp) fun _ _ => AVle.refl _
                · dsimp only; rw [hs, heq]; exact row_app1 rfl rfl hlen.symm rfl rfl fun _ _ => AVle.refl _
          · obtain rfl : k = f.length := by omega
            refine AW.of hΓ mixed [10] _ _ _ rfl ?_
            simp only [go_sem, hfe]
            have hlf : (numL ks0 f).2.length = f.length := numL_len ks0 f
            refine ⟨by omega, ⟨(v', nx'), hnx, hv'⟩, ASle.trans (ASle.freeze 2 w 3 1 _ _ rfl fun _ _ _ _ => rfl) (toFits ?_)⟩
            simp only [go_sem, hlf]
            exact ⟨vw_all rfl rfl hlf.symm, RowLe.refl _, RowLe.refl _⟩
      · rintro ⟨⟨v', nx'⟩, hnx, hvn⟩
        simp only at hnx hvn
        simp only [go_sem]
        have hft : fs.take (i + 1) = fs.take i ++ [f] := by rw [take_snoc fs [] hlt, hfe]
        have hfo : (fs.take (i + 1)).foldl (fun k f => (numL k f).1) [] = (numL ks0 f).1 := by rw [hft, List.foldl_append, hke]; rfl
        have hkl := numL_ks ks0 f
        refine ⟨⟨by rw [numF_len]; simp; omega, by omega⟩, by omega, ⟨(i + 1, v', nx', nx' + 1), by dsimp only; omega, by dsimp only; omega, by dsimp only; omega, by dsimp only; rw [hfo]; omega⟩, ⟨Nat.le_refl _, ⟨⟨rfl, by dsimp only; rw [hfo]⟩, ⟨rfl, rfl⟩, by dsimp only; omega⟩, ?_, ?_⟩, by dsimp only; omega⟩
        · dsimp only
          rw [hfo]
          exact RowLe.refl _
        · dsimp only
          rw [hft, numF_snoc, hke]
          exact row_app1 rfl rfl (by rw [numF_len]; simp; omega) rfl (by simp [numF_len]) fun _ _ => AVle.refl _
    · obtain rfl : i = fs.length := by omega
      refine ⟨by rw [numF_len]; simp, ?_⟩
      rw [List.take_length]
      exact vw_all rfl rfl (by rw [numF_len])
end Go.Proofs.Ytnhfobhdbablaaa
set_option linter.unusedSimpArgs false
set_option linter.unusedVariables false
set_option maxRecDepth 100000
set_option maxHeartbeats 2000000
namespace Go.Proofs.Ytnhfobhdbablaaa
open Go
attribute [local irreducible] AW AVle ASle RowLe
theorem two_row {hp : Nat → Row} {r s : Row} (h : RowLe (hp 0) r) (h2 : RowLe (hp 1) s) : ∀ (i q : Nat), [0, 1][i]? = some q → RowLe (hp q) (rws [(0, r), (1, s)] i) := by
  intro i q hq
  match i with
  | 0 =>
    simp only [List.getElem?_cons_zero, Option.some.injEq] at hq
    subst hq
    exact h
  | 1 =>
    simp only [List.getElem?_cons_succ, List.getElem?_cons_zero, Option.some.injEq] at hq
    subst hq
    exact h2
  | i + 2 => simp at hq
theorem stepC_fz (l : List (Int × List (List UInt8))) (tv : Nat) : ∀ i, i < l.length → ∀ j, j < 2 → AVle (fz 1 tv (lastT l).length 1 (fun i => eS.enc ((lastT l).getD i [])) (stepC l tv i j)) ((eP eI (eL eS)).enc (l.getD i (0, [])) j) := by
  rcases l.eq_nil_or_concat with rfl | ⟨m, s, rfl⟩
  · exact fun i hi => absurd hi (Nat.not_lt_zero _)
  · rw [List.concat_eq_append, lastT_snoc]
    intro i hi j hj
    by_cases e2 : i = m.length
    · subst e2
      rw [snoc_get]
      match j, hj with
      | 0, _ =>
        rw [stepC0, snoc_get]
        exact AVle.refl _
      | 1, _ =>
        rw [stepC1]
        simp only [fz, and_self, if_true, Nat.le_refl]
        exact AVle.refl _
    · have hi2 : i + 1 < (m ++ [s]).length := by simp at hi ⊢; omega
      rw [stepC_lt hi2]
      match j, hj with
      | 0, _ => exact AVle.refl _
      | 1, _ => exact AVle.refl _
/-- A list's part. -/
def cutL {α : Type} (a : List α) (i j : Nat) : List α := (a.take j).drop i
/-- The script of the pairs that are left, behind what stands already. -/
def ofG (a b : List (List UInt8)) : List (Int × Int) → Nat → Nat → List (Int × List (List UInt8)) → List (Int × List (List UInt8))
  | [], i, k, s => putL (putL s 1 (a.drop i)) 2 (b.drop k)
  | p :: l, i, k, s => ofG a b l (p.1.toNat + 1) (p.2.toNat + 1) (putL (putL (putL s 1 (cutL a i p.1.toNat)) 2 (cutL b k p.2.toNat)) 0 (cutL a p.1.toNat (p.1.toNat + 1)))
theorem putL_len (l : List (Int × List (List UInt8))) (k : Int) (ts : List (List UInt8)) : (putL l k ts).length ≤ l.length + 1 := by
  by_cases h : ts.length = 0
  · unfold putL
    rw [if_pos h]
    omega
  · rcases l.eq_nil_or_concat with rfl | ⟨m, s, rfl⟩
    · rw [putL_first h]; simp
    · rw [List.concat_eq_append]
      by_cases hk : s.1 = k
      · rw [putL_same h hk]; simp
      · rw [putL_new h hk]; simp
theorem putL_sum (l : List (Int × List (List UInt8))) (k : Int) (ts : List (List UInt8)) : sumL (putL l k ts) = sumL l + ts.length := by
  by_cases h : ts.length = 0
  · unfold putL
    rw [if_pos h]
    omega
  · rcases l.eq_nil_or_concat with rfl | ⟨m, s, rfl⟩
    · rw [putL_first h]; simp [sumL]
    · rw [List.concat_eq_append]
      by_cases hk : s.1 = k
      · rw [putL_same h hk, sumL_snoc, sumL_snoc]; simp; omega
      · rw [putL_new h hk, sumL_snoc]
theorem lastT_le (l : List (Int × List (List UInt8))) : (lastT l).length ≤ sumL l := by
  rcases l.eq_nil_or_concat with rfl | ⟨m, s, rfl⟩
  · simp [lastT]
  · rw [List.concat_eq_append, lastT_snoc, sumL_snoc]
    omega
theorem cutL_len {α : Type} (a : List α) {i j : Nat} (h : j ≤ a.length) : (cutL a i j).length = j - i := by simp [cutL]; omega
theorem cutL_end {α : Type} (a : List α) (i : Nat) : cutL a i a.length = a.drop i := by simp [cutL]
theorem cut_map {a : List (List UInt8)} {i j : Nat} (h : j ≤ a.length) : cutL a i j = (List.range (j - i)).map fun t => a.getD (i + t) [] := by
  refine list_ext_getD [] (by rw [cutL_len a h]; simp) fun t ht => ?_
  rw [cutL_len a h] at ht
  simp [cutL, List.getD, ht, List.getElem?_take, show i + t < j by omega]
theorem cut_le {a : List (List UInt8)} {i j : Nat} (h : j ≤ a.length) : AVle (.sn (j - i) 1 fun t => eS.enc (a.getD (i + t) [])) (sL eS (cutL a i j)) :=
  sn_le (E := eS) (j - i) (fun t => a.getD (i + t) []) _ (cut_map h)
def numA (a b : List (List UInt8)) : List Int := (numF [] [a, b]).getD 0 []
def numB (a b : List (List UInt8)) : List Int := (numF [] [a, b]).getD 1 []
theorem numA_len (a b : List (List UInt8)) : (numA a b).length = a.length := by
  simp [numA, numF, numL_len]
theorem numB_len (a b : List (List UInt8)) : (numB a b).length = b.length := by
  simp [numB, numF, numL_len]
def sOfE : Spec := Spec.f3 (kL eS) (kL eS) (kL (eP eI eI)) (fun a b l => a.length ≤ 1000000 ∧ b.length ≤ 1000000 ∧ l.length < 100000000)
  (fun a b l => if rgt (numA a b) (numB a b) (-1) (-1) l then tu2 (sL (eP eI (eL eS)) (ofG a b l 0 0 [])) (kI.enc 0) else tu2 .em (kI.enc 12))
end Go.Proofs.Ytnhfobhdbablaaa
set_option linter.unusedSimpArgs false
set_option linter.unusedVariables false
set_option maxRecDepth 100000
set_option maxHeartbeats 2000000
namespace Go.Proofs.Ytnhfobhdbablaaa
open Go
attribute [local irreducible] AW AVle ASle RowLe
abbrev Sp := Int × Int
abbrev Ck := Bool × Sp × Sp × Sp
abbrev Pl := Int × Int × Int
abbrev eSp : El Sp := eP eI eI
abbrev eCk : El Ck := eP eB (eP eSp (eP eSp eSp))
abbrev ePl : El Pl := eP eI (eP eI eI)
theorem sp_le {a b : Int} {c : Nat → AV} (h0 : c 0 = .val (.int .i64 a)) (h1 : c 1 = .val (.int .i64 b)) : AVle (.ag 2 c) (.ag 2 (eSp.enc (a, b))) := AVle.ag fun j hj => AVle.of_eq (match j, hj with
  | 0, _ => h0
  | 1, _ => h1)
theorem pl_le {a b d : Int} {c : Nat → AV} (h0 : c 0 = .val (.int .i64 a)) (h1 : c 1 = .val (.int .i64 b)) (h2 : c 2 = .val (.int .i64 d)) : AVle (.ag 3 c) (.ag 3 (ePl.enc (a, b, d))) := AVle.ag fun j hj => AVle.of_eq (match j, hj with
  | 0, _ => h0
  | 1, _ => h1
  | 2, _ => h2)
theorem ck_le {s : Bool} {b1 b2 l1 l2 r1 r2 : Int} {c : Nat → AV} (h0 : c 0 = .val (.bool s)) (h1 : c 1 = .val (.int .i64 b1)) (h2 : c 2 = .val (.int .i64 b2)) (h3 : c 3 = .val (.int .i64 l1)) (h4 : c 4 = .val (.int .i64 l2)) (h5 : c 5 = .val (.int .i64 r1)) (h6 : c 6 = .val (.int .i64 r2)) :
    AVle (.ag 7 c) (.ag 7 (eCk.enc (s, (b1, b2), (l1, l2), r1, r2))) := AVle.ag fun j hj => AVle.of_eq (match j, hj with
  | 0, _ => h0
  | 1, _ => h1
  | 2, _ => h2
  | 3, _ => h3
  | 4, _ => h4
  | 5, _ => h5
  | 6, _ => h6)
def lenS (s : Sp) : Int := if s.2 ≤ s.1 then 0 else s.2 - s.1
def sLenK : Spec := Spec.f1 (kA eSp) (fun s => s.2 ≤ s.1 ∨ s.2 - s.1 ≤ 9223372036854775807) (fun s => kI.enc (lenS s))
def cutS (s : Sp) (l : List (List UInt8)) : List (List UInt8) := if s.1 < 0 ∨ (l.length : Int) < s.2 ∨ s.2 < s.1 then [] else cutL l s.1.toNat s.2.toNat
theorem cutS_le (s : Sp) (l : List (List UInt8)) : (cutS s l).length ≤ l.length := by
  unfold cutS
  by_cases h : s.1 < 0 ∨ (l.length : Int) < s.2 ∨ s.2 < s.1
  · rw [if_pos h]; simp
  · rw [if_neg h, cutL_len l (by omega)]; omega
def sCutK : Spec := Spec.f2 (kA eSp) (kL eS) (fun s l => l.length < 100000000) (fun s l => sL eS (cutS s l))
theorem okCutK : SpecOK Try.prog 73 sCutK := by
  refine SpecOK.f2 Try.func73 rfl (by decide) Try.results73 Try.ntmps73 (by decide) fun s l hl => ?_
  have hΓ : GOK Try.prog (gam [(88, sCloneS)]) := (.cons okCloneS .nil)
  obtain ⟨f, t⟩ := s
  unfold cutS
  refine AW.of hΓ mixed [] _ _ _ rfl ?_
  simp only [go_sem, sCloneS]
  refine ⟨fun h => by simp [h], fun h => by simp [h], fun h => ?_, fun h => ?_⟩
  · simp only [Bool.or_eq_true, decide_eq_true_eq, or_assoc] at h
    rw [if_pos h]
    exact AVle.em_sn
  · simp only [Bool.or_eq_false_iff, decide_eq_false_iff_not] at h
    refine ⟨by omega, _, cutL l f.toNat t.toNat, rfl, cut_le (by omega), by rw [cutL_len l (by omega)]; omega, fun ver nx' _ _ => ?_⟩
    rw [if_neg (by omega)]
    exact AVle.refl _
def sRefCutK : Spec := Spec.f2 (kA eSp) (kL eS) (fun s l => l.length < 100000000) (fun s l => sL eS (cutS s l))
theorem okRefCutK : SpecOK Try.prog 49 sRefCutK := by
  refine SpecOK.f2 Try.func49 rfl (by decide) Try.results49 Try.ntmps49 (by decide) fun s l hl => ?_
  have hΓ : GOK Try.prog (gam []) := GOK.nil
  obtain ⟨f, t⟩ := s
  unfold cutS
  refine AW.of hΓ mixed [] _ _ _ rfl ?_
  simp only [go_sem]
  refine ⟨fun h => by simp [h], fun h => by simp [h], fun h => ?_, fun h => ?_⟩
  · simp only [Bool.or_eq_true, decide_eq_true_eq, or_assoc] at h
    rw [if_pos h]
    exact AVle.em_sn
  · simp only [Bool.or_eq_false_iff, decide_eq_false_iff_not] at h
    rw [if_neg (by omega)]
    exact ⟨by omega, cut_le (by omega)⟩
def sSpanK : Spec := Spec.f1 (kA eSp) (fun _ => True) (fun s => (kA eSp).enc s)
def turnC (c : Ck) : Ck := (c.1, c.2.1, c.2.2.2, c.2.2.1)
def sTurnedK : Spec := Spec.f1 (kA eCk) (fun _ => True) (fun c => (kA eCk).enc (turnC c))
def btw (p q : Pl) : Ck := (false, (p.1, q.1), (p.2.1, q.2.1), (p.2.2, q.2.2))
def sBetween : Spec := Spec.f2 (kA ePl) (kA ePl) (fun _ _ => True) (fun p q => (kA eCk).enc (btw p q))
def nextP (p : Pl) : Pl := (p.1 + 1, p.2.1 + 1, p.2.2 + 1)
def okPl (p : Pl) : Prop := (-9223372036854775808 ≤ p.1 ∧ p.1 < 9223372036854775807) ∧ (-9223372036854775808 ≤ p.2.1 ∧ p.2.1 < 9223372036854775807) ∧ -9223372036854775808 ≤ p.2.2 ∧ p.2.2 < 9223372036854775807
def sNextP : Spec := Spec.f1 (kA ePl) okPl (fun p => (kA ePl).enc (nextP p))
def sOneK : Spec := Spec.f1 (kA eCk) (fun _ => True) (fun c => (kA eCk).enc c)
def sToK : Spec := Spec.f1 (kA eCk) (fun _ => True) (fun c => (kA eCk).enc c)
theorem okToK : SpecOK Try.prog 39 sToK := by
  refine SpecOK.f1 Try.func39 rfl (by decide) Try.results39 Try.ntmps39 (by decide) fun c _ => ?_
  have hΓ : GOK Try.prog (gam []) := GOK.nil
  obtain ⟨s, ⟨b1, b2⟩, ⟨l1, l2⟩, r1, r2⟩ := c
  refine AW.of hΓ mixed [] _ _ _ rfl ?_
  simp only [go_sem]
  exact ck_le rfl rfl rfl rfl rfl rfl rfl
def smallN (n : Int) : Int := if 60 < n then n.tmod 61 else max n (-1)
def sSmallK : Spec := Spec.f1 kI (fun n => -9223372036854775808 ≤ n ∧ n ≤ 9223372036854775807) (fun n => kI.enc (smallN n))
def classK (c : Ck) (b l r : List (List UInt8)) : Int := if c.1 = true then 0 else if cutS c.2.2.1 l = cutS c.2.1 b then 2 else if cutS c.2.2.2 r = cutS c.2.1 b then 1 else if cutS c.2.2.1 l = cutS c.2.2.2 r then 3 else 4
def sClassK : Spec := Spec.f4 (kA eCk) (kL eS) (kL eS) (kL eS) (fun c b l r => b.length < 100000000 ∧ l.length < 100000000 ∧ r.length < 100000000) (fun c b l r => kI.enc (classK c b l r))
theorem okClassK : SpecOK Try.prog 43 sClassK := by
  refine SpecOK.f4 Try.func43 rfl (by decide) Try.results43 Try.ntmps43 (by decide) fun c b l r ⟨hb, hl, hr⟩ => ?_
  have hΓ : GOK Try.prog (gam [(73, sCutK), (74, sEqS)]) := (.cons okCutK (.cons okEqS .nil))
  obtain ⟨s, ⟨b1, b2⟩, ⟨l1, l2⟩, r1, r2⟩ := c
  unfold classK
  dsimp only
  have g1 := cutS_le (b1, b2) b
  have g2 := cutS_le (l1, l2) l
  have g3 := cutS_le (r1, r2) r
  refine AW.of hΓ mixed [] _ _ _ rfl ?_
  simp only [go_sem, sCutK, sEqS]
  refine ⟨fun h => by rw [if_pos h], fun h => ⟨hb, hl, hr, by omega, fun h1 => by simp [h, h1], fun h1 => ⟨by omega, fun h2 => by simp [h, h1, h2], fun h2 => ⟨by omega, fun h3 => ?_, fun h3 => ?_⟩⟩⟩⟩
  · rw [if_neg (by simp [h]), if_neg h1, if_neg h2, if_pos h3]
  · rw [if_neg (by simp [h]), if_neg h1, if_neg h2, if_neg h3]
def sRefClassK : Spec := Spec.f4 (kA eCk) (kL eS) (kL eS) (kL eS) (fun c b l r => b.length < 100000000 ∧ l.length < 100000000 ∧ r.length < 100000000) (fun c b l r => kI.enc (classK c b l r))
theorem okRefClassK : SpecOK Try.prog 23 sRefClassK := by
  refine SpecOK.f4 Try.func23 rfl (by decide) Try.results23 Try.ntmps23 (by decide) fun c b l r ⟨hb, hl, hr⟩ => ?_
  have hΓ : GOK Try.prog (gam [(49, sRefCutK), (20, sSameS)]) := (.cons okRefCutK (.cons okSameS .nil))
  obtain ⟨s, ⟨b1, b2⟩, ⟨l1, l2⟩, r1, r2⟩ := c
  unfold classK
  dsimp only
  have g1 := cutS_le (b1, b2) b
  have g2 := cutS_le (l1, l2) l
  have g3 := cutS_le (r1, r2) r
  refine AW.of hΓ mixed [] _ _ _ rfl ?_
  simp only [go_sem, sRefCutK, sSameS]
  refine ⟨hb, hl, hr, fun h => by rw [if_pos h], fun h => ⟨by omega, fun h1 => by simp [h, h1], fun h1 => ?_⟩⟩
  have h1' : ¬ cutS (l1, l2) l = cutS (b1, b2) b := fun e => h1 e.symm
  refine ⟨by omega, fun h2 => by rw [if_neg (by simp [h]), if_neg h1', if_pos h2.symm], fun h2 => ?_⟩
  have h2' : ¬ cutS (r1, r2) r = cutS (b1, b2) b := fun e => h2 e.symm
  refine ⟨by omega, fun h3 => ?_, fun h3 => ?_⟩
  · rw [if_neg (by simp [h]), if_neg h1', if_neg h2', if_pos h3]
  · rw [if_neg (by simp [h]), if_neg h1', if_neg h2', if_neg h3]
end Go.Proofs.Ytnhfobhdbablaaa
set_option linter.unusedSimpArgs false
set_option linter.unusedVariables false
set_option maxRecDepth 100000
set_option maxHeartbeats 2000000
namespace Go.Proofs.Ytnhfobhdbablaaa
open Go
attribute [local irreducible] AW AVle ASle RowLe
/-- Do pairs rise, behind these, and are all within? -/
def riseB (a b : Int) : Int → Int → List (Int × Int) → Bool
  | _, _, [] => true
  | u, v, p :: l => decide (u < p.1 ∧ v < p.2 ∧ p.1 < a ∧ p.2 < b) && riseB a b p.1 p.2 l
def sRises : Spec := Spec.f3 (kL (eP eI eI)) kI kI (fun l a b => l.length < 100000000) (fun l a b => kB.enc (riseB a b (-1) (-1) l))
def sRefRises : Spec := Spec.f3 kI kI (kL (eP eI eI)) (fun a b l => l.length < 100000000) (fun a b l => kB.enc (riseB a b (-1) (-1) l))
theorem okRefRises : SpecOK Try.prog 69 sRefRises := by
  refine SpecOK.f3 Try.func69 rfl (by decide) Try.results69 Try.ntmps69 (by decide) fun a b l hl => ?_
  have hΓ : GOK Try.prog (gam []) := GOK.nil
  refine AW.of hΓ mixed [] _ _ _ rfl ?_
  simp only [go_sem, pp_sz]
  refine AW.round (α := { x : Nat × Nat // x.1 ≤ l.length ∧ riseB a b (-1) (-1) l = riseB a b (lastP l x.1).1 (lastP l x.1).2 (l.drop x.1) ∧ -1 ≤ (lastP l x.1).1 ∧ -1 ≤ (lastP l x.1).2 })
    (fun x => ⟨[(0, .val (.int .i64 a)), (1, .val (.int .i64 b)), (2, sL (eP eI eI) l), (7, .val (.int .i64 x.1.1))], [], 65, 0, x.1.2, []⟩) (fun x => l.length - x.1.1) ⟨(0, 0), Nat.zero_le _, rfl, Int.le_refl _, Int.le_refl _⟩ ?_ ?_
  · simp only [go_sem]
  · rintro ⟨⟨i, nx⟩, hi, hr, hu, hv⟩
    simp only at hi hr hu hv
    obtain ⟨u, v, huv⟩ : ∃ u v, lastP l i = (u, v) := ⟨_, _, rfl⟩
    rw [huv] at hr hu hv
    dsimp only at hr hu hv
    refine AW.of hΓ mixed [4, 99999] _ _ _ rfl ?_
    simp only [go_sem, pp_sz]
    refine ⟨fun hlt => ?_, fun hge => ?_⟩
    · obtain ⟨x, y, hxy⟩ : ∃ x y, l.getD i (0, 0) = (x, y) := ⟨_, _, rfl⟩
      have hd : l.drop i = (x, y) :: l.drop (i + 1) := by
        rw [List.drop_eq_getElem_cons (by omega), ← gd_lt l (0, 0) (by omega), hxy]
      rw [hd, riseB] at hr
      dsimp only at hr
      refine ⟨by omega, ?_⟩
      refine AW.cut ⟨[(0, .val (.int .i64 a)), (1, .val (.int .i64 b)), (2, sL (eP eI eI) l), (7, .val (.int .i64 i)), (8, .pt 0 nx 0)], [(0, .box nx 116 2 fun j => if j = 0 then .val (.int .i64 x) else .val (.int .i64 y))], 65, 1, nx + 1, []⟩ ?_ ?_
      · simp only [go_sem]
        refine RowLe.box fun j hj => AVle.of_eq ?_
        match j, hj with
        | 0, _ => show (eP eI eI).enc (l.getD i (0, 0)) 0 = _; rw [hxy]; rfl
        | 1, _ => show (eP eI eI).enc (l.getD i (0, 0)) 1 = _; rw [hxy]; rfl
      · by_cases c : 0 ≤ x ∧ x < a ∧ 0 ≤ y ∧ y < b
        · obtain ⟨c1, c2, c3, c4⟩ := c
          have c5 : ¬ a ≤ x := by omega
          have c6 : ¬ b ≤ y := by omega
          have c7 : ¬ x < 0 := by omega
          have c8 : ¬ y < 0 := by omega
          obtain ⟨g1, g2, hg⟩ : ∃ g1 g2, l.getD ((i : Int) - 1).toNat (0, 0) = (g1, g2) := ⟨_, _, rfl⟩
          have hk : 0 < i → g1 = u ∧ g2 = v := fun h0 => by
            cases i with
            | zero => omega
            | succ i =>
              have h1 : l.getD i (0, 0) = (u, v) := huv
              rw [show ((i + 1 : Nat) : Int) - 1 = (i : Nat) by omega, Int.toNat_natCast, h1] at hg
              exact ⟨(Prod.mk.inj hg).1.symm, (Prod.mk.inj hg).2.symm⟩
          have hz : i = 0 → u = -1 ∧ v = -1 := fun h0 => by
            subst h0
            exact ⟨(Prod.mk.inj huv).1.symm, (Prod.mk.inj huv).2.symm⟩
          refine AW.of hΓ mixed [99999] _ _ _ rfl ?_
          simp only [go_sem, c1, c2, c3, c4, c5, c6, c7, c8, decide_true, decide_false, Bool.or_false, Bool.not_false, Bool.false_or, true_and, forall_const, pp0, pp1, pp_sz, pp_d, hg]
          have hl1 : lastP l (i + 1) = (x, y) := hxy
          refine ⟨fun _ => by omega, fun _ => by omega, fun _ => by omega, fun _ => by omega, fun h0 h1 => by rw [decide_eq_true h0, decide_eq_false h1]; rfl, fun ⟨h0, h1⟩ => ?_, fun h1 => ⟨by omega, ⟨(i + 1, nx + 1), by dsimp only; omega, ?_, by dsimp only; rw [hl1]; dsimp only; omega, by dsimp only; rw [hl1]; dsimp only; omega⟩, ⟨Nat.le_refl _, by dsimp only; omega⟩, by dsimp only; omega⟩⟩
          · simp only [Bool.or_eq_true, decide_eq_true_eq] at h1
            have := hk (by omega)
            rw [hr, decide_eq_false (by omega), Bool.false_and]
          · simp only [Bool.or_eq_false_iff, decide_eq_false_iff_not] at h1
            dsimp only
            rw [hl1, hr, decide_eq_true, Bool.true_and]
            rcases Nat.eq_zero_or_pos i with h0 | h0
            · have := hz h0; omega
            · have := hk h0; have := h1 (by omega); omega
        · have d : (decide (x < 0) || decide (a ≤ x) || decide (y < 0) || decide (b ≤ y)) = true := by
            cases h : (decide (x < 0) || decide (a ≤ x) || decide (y < 0) || decide (b ≤ y)) with
            | true => rfl
            | false =>
              simp only [Bool.or_eq_false_iff, decide_eq_false_iff_not] at h
              omega
          have hr2 : riseB a b (-1) (-1) l = false := by
            rw [hr, decide_eq_false (fun h => c ⟨by omega, h.2.2.1, by omega, h.2.2.2⟩), Bool.false_and]
          refine AW.of hΓ mixed [6, 99999] _ _ _ rfl ?_
          simp only [go_sem]
          refine ⟨fun h => by simp [h], fun h => by rw [h]; rfl, fun h => by rw [h]; rfl, fun h => by rw [d] at h; exact absurd h.1 (by decide), fun h => by rw [d] at h; exact absurd h.1 (by decide), fun h => by rw [d] at h; exact absurd h.1.1 (by decide), fun h => by rw [d] at h; exact absurd h.1.1 (by decide),
            fun h => by rw [d] at h; exact absurd h.1 (by decide), fun h => by rw [d] at h; exact absurd h (by decide), fun h => by rw [d] at h; exact absurd h (by decide), fun _ => ?_, fun h => by rw [d, Bool.true_or] at h; exact absurd h (by decide)⟩
          refine AW.of hΓ mixed [] _ _ _ rfl ?_
          simp only [go_sem]
          exact hr2.symm
    · obtain rfl : i = l.length := by omega
      rw [List.drop_length] at hr
      exact hr.symm
/-- What a place is matched with. -/
def atL : List (Int × Int) → Int → Int
  | [], _ => -1
  | p :: l, x => if p.1 = x then p.2 else atL l x
def sAtL : Spec := Spec.f2 (kL (eP eI eI)) kI (fun l x => l.length < 100000000) (fun l x => kI.enc (atL l x))
theorem okAtL : SpecOK Try.prog 70 sAtL := by
  refine SpecOK.f2 Try.func70 rfl (by decide) Try.results70 Try.ntmps70 (by decide) fun l x hl => ?_
  have hΓ : GOK Try.prog (gam []) := GOK.nil
  refine AW.of hΓ mixed [] _ _ _ rfl ?_
  simp only [go_sem, pp_sz]
  refine AW.round (α := { y : Nat × Nat // y.1 ≤ l.length ∧ atL l x = atL (l.drop y.1) x })
    (fun y => ⟨[(0, sL (eP eI eI) l), (1, .val (.int .i64 x)), (5, .val (.int .i64 y.1.1))], [], 24, 0, y.1.2, []⟩) (fun y => l.length - y.1.1) ⟨(0, 0), Nat.zero_le _, rfl⟩ ?_ ?_
  · simp only [go_sem]
  · rintro ⟨⟨i, nx⟩, hi, hr⟩
    simp only at hi hr
    refine AW.of hΓ mixed [99999] _ _ _ rfl ?_
    simp only [go_sem, pp_sz, pp_d, pp0, pp1]
    refine ⟨fun hlt => ?_, fun hge => ?_⟩
    · have hd : l.drop i = l.getD i (0, 0) :: l.drop (i + 1) := by
        rw [List.drop_eq_getElem_cons (by omega), ← gd_lt l (0, 0) (by omega)]
      rw [hd, atL] at hr
      refine ⟨by omega, fun h => ⟨by omega, ?_⟩, fun h => ⟨by omega, ⟨(i + 1, nx), by dsimp only; omega, ?_⟩, ⟨Nat.le_refl _, by dsimp only; omega⟩, by dsimp only; omega⟩⟩
      · rw [hr, if_pos h]
      · rw [if_neg h] at hr
        exact hr
    · obtain rfl : i = l.length := by omega
      rw [List.drop_length] at hr
      exact hr.symm
end Go.Proofs.Ytnhfobhdbablaaa
set_option linter.unusedSimpArgs false
set_option linter.unusedVariables false
set_option maxRecDepth 100000
set_option maxHeartbeats 2000000
namespace Go.Proofs.Ytnhfobhdbablaaa
open Go
attribute [local irreducible] AW AVle ASle RowLe
def bothF : List (Int × Int) → List (Int × Int) → List Pl
  | [], _ => []
  | _ :: _, [] => []
  | p :: l, q :: r => if p.1 < q.1 then bothF l (q :: r) else if q.1 < p.1 then bothF (p :: l) r else (p.1, p.2, q.2) :: bothF l r
  termination_by l r => l.length + r.length
theorem both_nil (l : List (Int × Int)) : bothF l [] = [] := by cases l <;> simp [bothF]
theorem both_nil' (r : List (Int × Int)) : bothF [] r = [] := by simp [bothF]
def sBoth : Spec := Spec.f2 (kL (eP eI eI)) (kL (eP eI eI)) (fun l r => l.length < 100000000 ∧ r.length < 100000000) (fun l r => sL ePl (bothF l r))
theorem ckEq (x y : Ck) : (decide (x.1 = y.1) && (decide (x.2.1.1 = y.2.1.1) && decide (x.2.1.2 = y.2.1.2) && (decide (x.2.2.1.1 = y.2.2.1.1) && decide (x.2.2.1.2 = y.2.2.1.2) && (decide (x.2.2.2.1 = y.2.2.2.1) && decide (x.2.2.2.2 = y.2.2.2.2))))) = decide (x = y) := by
  obtain ⟨s, ⟨b1, b2⟩, ⟨l1, l2⟩, r1, r2⟩ := x
  obtain ⟨s', ⟨b1', b2'⟩, ⟨l1', l2'⟩, r1', r2'⟩ := y
  rw [Bool.eq_iff_iff]
  simp only [Bool.and_eq_true, decide_eq_true_eq, Prod.mk.injEq]
def sSameK : Spec := Spec.f2 (kL eCk) (kL eCk) (fun a b => a.length < 1000000000 ∧ b.length < 1000000000) (fun a b => kB.enc (decide (a = b)))
def sFromK : Spec := Spec.f1 (kL eCk) (fun l => l.length < 100000000) (fun l => sL eCk l)
end Go.Proofs.Ytnhfobhdbablaaa
set_option linter.unusedSimpArgs false
set_option linter.unusedVariables false
namespace Go.Proofs.Ytnhfobhdbablaaa
open Go
theorem ASle.still {st : AS} (s q v e m : Nat) (c : Nat → AV) (hs : st.fr s = .pt q v 0) (hrow : st.hp q = .box v e m c) (hfl : ∀ j, j < m → (c j).flat = true) :
    ASle st ⟨updA st.fr s (.ps m c), updR st.hp q .dead, st.sz, st.top, st.nx, st.df⟩ := by
  intro ct η a w h
  have hver : ∀ p u, (updR st.hp q .dead p).ver = some u → (st.hp p).ver = some u ∧ p ≠ q := fun p u hv => by
    by_cases e : p = q
    · subst e; rw [updR_at] at hv; cases hv
    · rw [updR_ne _ _ e] at hv; exact ⟨hv, e⟩
  have hblk : ∀ p b, (updR st.hp q .dead p).blk η = some b → (st.hp p).blk η = some b ∧ p ≠ q := fun p b hb => by
    by_cases e : p = q
    · subst e; rw [updR_at] at hb; cases hb
    · rw [updR_ne _ _ e] at hb; exact ⟨hb, e⟩
  have hL : ∀ b, Lset ct η (updR st.hp q .dead) b → Lset ct η st.hp b := by
    rintro b (hl | ⟨p, hp⟩)
    · exact .inl hl
    · exact .inr ⟨p, (hblk p b hp).1⟩
  have less : ∀ {x u}, Rep w η (Lset ct η st.hp) x u → Rep w η (Lset ct η (updR st.hp q .dead)) x u := fun h => Rep.less (fun b _ hb => hL b hb) h
  have lessN : ∀ {x u}, Rep w noEnv (Lset ct η st.hp) x u → Rep w noEnv (Lset ct η (updR st.hp q .dead)) x u := fun h => Rep.less (fun b _ hb => hL b hb) h
  refine ⟨η, ⟨⟨h.hs.fr, h.hs.lx, fun p => ?_, fun p p' u hp hq => h.hs.vers p p' u (hver p u hp).1 (hver p' u hq).1, fun p u hp => h.hs.bnd p u (hver p u hp).1,
    fun p p' b hp hq => h.hs.disj p p' b (hblk p b hp).1 (hblk p' b hq).1, fun p b hp => h.hs.own p b (hblk p b hp).1, h.hs.fresh, h.hs.env⟩, fun p hp => ?_, h.size,
    fun t => ?_, h.defs⟩⟩
  · show RowOK w η (Lset ct η (updR st.hp q .dead)) (if p = q then .dead else st.hp p)
    by_cases e : p = q
    · rw [if_pos e]; trivial
    · rw [if_neg e]
      exact RowOK.less hL (h.hs.rows p)
  · show (if p = q then Row.dead else st.hp p) = .dead
    by_cases e : p = q
    · rw [if_pos e]
    · rw [if_neg e]
      exact h.dead p hp
  · by_cases et : t = s
    · subst et
      show Rep w η (Lset ct η (updR st.hp q .dead)) (if t = t then .ps m c else st.fr t) _
      rw [if_pos rfl]
      have hr := h.slots t
      rw [hs] at hr
      obtain ⟨g, cap, hη, hv⟩ := hr
      have hrr := h.hs.rows q
      rw [hrow] at hrr
      obtain ⟨b, cur, hg, hh, hsz, hc⟩ := hrr (some g) cap hη
      have hg : g = b := Option.some.inj hg
      subst hg
      have hbk : (st.hp q).blk η = some g := by rw [hrow]; simp [Row.blk, Row.ver, hη]
      refine ⟨g, 0, hv, fun _ => ?_, fun j hj => ?_⟩
      · rintro (hl | ⟨p', hp'⟩)
        · exact (h.hs.own q g hbk).2.1 hl
        · obtain ⟨h1, h2⟩ := hblk p' g hp'
          exact h2 (h.hs.disj p' q g h1 hbk)
      · obtain ⟨u, hu, h1, hrep⟩ := hc j hj
        exact ⟨u, by rw [cell_heap hh, Nat.zero_add]; exact hu, h1, lessN (flat_rep (hfl j hj) hrep)⟩
    · show Rep w η (Lset ct η (updR st.hp q .dead)) (if t = s then .ps m c else st.fr t) _
      rw [if_neg et]
      exact less (h.slots t)
theorem AW.still {P : Program} {x : Code} {Q : Exit → AS → Prop} {st : AS} (s q v e m : Nat) (c : Nat → AV) (hs : st.fr s = .pt q v 0) (hrow : st.hp q = .box v e m c) (hfl : ∀ j, j < m → (c j).flat = true)
    (k : AW P x Q ⟨updA st.fr s (.ps m c), updR st.hp q .dead, st.sz, st.top, st.nx, st.df⟩) : AW P x Q st := AW.le (ASle.still s q v e m c hs hrow hfl) k
/-! ### five and six parameters -/
section
variable {α β γ δ ε ζ : Type}
def Spec.f5 (A : Kd α) (B : Kd β) (C : Kd γ) (D : Kd δ) (E : Kd ε) (dom : α → β → γ → δ → ε → Prop) (out : α → β → γ → δ → ε → AV) : Spec where
  pre | [x, y, z, u, v] => A.ok x ∧ B.ok y ∧ C.ok z ∧ D.ok u ∧ E.ok v ∧ dom (A.dec x) (B.dec y) (C.dec z) (D.dec u) (E.dec v)
      | _ => False
  res | [x, y, z, u, v] => out (A.dec x) (B.dec y) (C.dec z) (D.dec u) (E.dec v)
      | _ => .any
def Spec.f6 (A : Kd α) (B : Kd β) (C : Kd γ) (D : Kd δ) (E : Kd ε) (F : Kd ζ) (dom : α → β → γ → δ → ε → ζ → Prop) (out : α → β → γ → δ → ε → ζ → AV) : Spec where
  pre | [x, y, z, u, v, w] => A.ok x ∧ B.ok y ∧ C.ok z ∧ D.ok u ∧ E.ok v ∧ F.ok w ∧ dom (A.dec x) (B.dec y) (C.dec z) (D.dec u) (E.dec v) (F.dec w)
      | _ => False
  res | [x, y, z, u, v, w] => out (A.dec x) (B.dec y) (C.dec z) (D.dec u) (E.dec v) (F.dec w)
      | _ => .any
variable {P : Program} {f : FuncId} {fn : Func} {code : Code} {l : List ResultVar}
theorem SpecOK.f5 {A : Kd α} {B : Kd β} {C : Kd γ} {D : Kd δ} {E : Kd ε} {dom : α → β → γ → δ → ε → Prop} {out : α → β → γ → δ → ε → AV} (hf : P.funcs[f]? = some fn) (hb : fn.body = some code) (hn : (fn.name == "runtime.NumGoroutine") = false) (hl : fn.results = l.toArray) {n : Nat} (ht : fn.ntmps = n) (hm : 5 ≤ n)
    (h : ∀ a b c d e, dom a b c d e → AW P code (retQ P l (out a b c d e)) (st0 n [A.enc a, B.enc b, C.enc c, D.enc d, E.enc e])) : SpecOK P f (Spec.f5 A B C D E dom out) := by
  subst ht
  refine SpecOK.mk hf hb hn hl fun args hp => ?_
  match args, hp with
  | [x, y, z, u, v], hp => exact ⟨hm, AW.le (st0_le (.cons hp.1 (.cons hp.2.1 (.cons hp.2.2.1 (.cons hp.2.2.2.1 (.cons hp.2.2.2.2.1 .nil)))))) (h _ _ _ _ _ hp.2.2.2.2.2)⟩
theorem SpecOK.f6 {A : Kd α} {B : Kd β} {C : Kd γ} {D : Kd δ} {E : Kd ε} {F : Kd ζ} {dom : α → β → γ → δ → ε → ζ → Prop} {out : α → β → γ → δ → ε → ζ → AV} (hf : P.funcs[f]? = some fn) (hb : fn.body = some code) (hn : (fn.name == "runtime.NumGoroutine") = false) (hl : fn.results = l.toArray) {n : Nat} (ht : fn.ntmps = n) (hm : 6 ≤ n)
    (h : ∀ a b c d e g, dom a b c d e g → AW P code (retQ P l (out a b c d e g)) (st0 n [A.enc a, B.enc b, C.enc c, D.enc d, E.enc e, F.enc g])) : SpecOK P f (Spec.f6 A B C D E F dom out) := by
  subst ht
  refine SpecOK.mk hf hb hn hl fun args hp => ?_
  match args, hp with
  | [x, y, z, u, v, w], hp => exact ⟨hm, AW.le (st0_le (.cons hp.1 (.cons hp.2.1 (.cons hp.2.2.1 (.cons hp.2.2.2.1 (.cons hp.2.2.2.2.1 (.cons hp.2.2.2.2.2.1 .nil))))))) (h _ _ _ _ _ _ hp.2.2.2.2.2.2)⟩
end
attribute [go_sem] Spec.f5 Spec.f6
end Go.Proofs.Ytnhfobhdbablaaa
set_option linter.unusedSimpArgs false
set_option linter.unusedVariables false
set_option maxRecDepth 100000
set_option maxHeartbeats 2000000
namespace Go.Proofs.Ytnhfobhdbablaaa
open Go
attribute [local irreducible] AW AVle ASle RowLe
/-- The chunks up to behind a place. -/
def stretchF (l : List Ck) (p : Pl) : List Ck :=
  match l.getLast? with
  | some c => if c.1 = true then l.dropLast ++ [(true, (c.2.1.1, p.1 + 1), (c.2.2.1.1, p.2.1 + 1), (c.2.2.2.1, p.2.2 + 1))] else l ++ [(true, (p.1, p.1 + 1), (p.2.1, p.2.1 + 1), (p.2.2, p.2.2 + 1))]
  | none => l ++ [(true, (p.1, p.1 + 1), (p.2.1, p.2.1 + 1), (p.2.2, p.2.2 + 1))]
theorem stretch_snoc (m : List Ck) (c : Ck) (p : Pl) : stretchF (m ++ [c]) p = if c.1 = true then m ++ [(true, (c.2.1.1, p.1 + 1), (c.2.2.1.1, p.2.1 + 1), (c.2.2.2.1, p.2.2 + 1))] else m ++ [c] ++ [(true, (p.1, p.1 + 1), (p.2.1, p.2.1 + 1), (p.2.2, p.2.2 + 1))] := by
  simp [stretchF]
theorem stretch_nil (p : Pl) : stretchF [] p = [(true, (p.1, p.1 + 1), (p.2.1, p.2.1 + 1), (p.2.2, p.2.2 + 1))] := rfl
theorem snocD {α : Type} (m : List α) (c d : α) : (m ++ [c]).getD m.length d = c := by simp [List.getD]
def sStretch0 : MSpec := fun args hp top nx K => ∃ (l : List Ck) (v : Nat) (p : Pl), args = [.ow 0 v l.length, (kA ePl).enc p] ∧ hp = rws [(0, rowL v 88 eCk l)] ∧ top = 1 ∧ l.length < 100000000 ∧ okPl p ∧
  ∀ v' nx', (v' = v ∨ nx ≤ v') → nx ≤ nx' → K (.ow 0 v' (stretchF l p).length) (rws [(0, rowL v' 88 eCk (stretchF l p))]) 1 nx'
end Go.Proofs.Ytnhfobhdbablaaa
set_option linter.unusedSimpArgs false
set_option linter.unusedVariables false
set_option maxRecDepth 100000
set_option maxHeartbeats 2000000
namespace Go.Proofs.Ytnhfobhdbablaaa
open Go
attribute [local irreducible] AW AVle ASle RowLe
def sStretch : MSpec := framed sStretch0
theorem stretch_go {l : List Ck} {v q n : Nat} {p : Pl} {x : AV} {hp : Nat → Row} {top nx : Nat} {K : AV → (Nat → Row) → Nat → Nat → Prop} (hn : n = l.length) (hx : AVle x ((kA ePl).enc p)) (hr : RowLe (hp q) (rowL v 88 eCk l)) (ht : q < top) (hl : l.length < 100000000) (hp0 : okPl p)
    (hK : ∀ v' nx', nx ≤ nx' → K (.ow q v' (stretchF l p).length) (updR hp q (rowL v' 88 eCk (stretchF l p))) top nx') : sStretch [.ow q v n, x] hp top nx K := by
  subst hn
  have hver : (hp q).ver = some v := hr.vers.symm
  refine ⟨[q], [.ow 0 v l.length, (kA ePl).enc p], rws [(0, rowL v 88 eCk l)], by simp, by simpa using ht, .cons AVle.ow (.cons hx .nil), one_row hr, fun i hi => rws_top (top := 1) (by simp) i (by simpa using hi), l, v, p, rfl, rfl, rfl, hl, hp0, fun v' nx' h1 h3 => ?_⟩
  refine ⟨.ow q v' (stretchF l p).length, _, AVle.ow, fun i r hr => ?_, fun r hr => ?_, fun r hr w hw => ?_, hK v' nx' h3⟩
  · cases i with
    | zero =>
      simp only [List.getElem?_cons_zero, Option.some.injEq] at hr
      subst hr
      rw [updR_at]
      exact RowLe.refl _
    | succ i => simp at hr
  · rw [updR_ne _ _ (by simpa using hr)]
  · simp only [List.mem_singleton] at hr
    subst hr
    rw [updR_at] at hw
    have : some v' = some w := hw
    obtain rfl := Option.some.inj this
    rcases h1 with rfl | h1
    · exact .inl hver
    · exact .inr h1
theorem plEq (p1 p2 p3 t1 t2 t3 : Int) : (decide (p1 = t1) && (decide (p2 = t2) && decide (p3 = t3))) = decide (((p1, p2, p3) : Pl) = (t1, t2, t3)) := by
  rw [Bool.eq_iff_iff]
  simp only [Bool.and_eq_true, decide_eq_true_eq, Prod.mk.injEq]
theorem row_ck {l : List Ck} {v n : Nat} {c : Ck} (hn : n = l.length) : RowLe (.sl v 88 7 (n + 1) (apC n (fun i => eCk.enc (l.getD i eCk.dflt)) fun i => [eCk.enc c].getD i fun _ => .any)) (.sl v 88 7 (l ++ [c]).length fun i => eCk.enc ((l ++ [c]).getD i eCk.dflt)) :=
  row_app1 (E := eCk) rfl rfl hn rfl (by simp) fun j hj => AVle.refl _
/-- The chunks of the places that are left, behind what stands already. -/
def ofK (ends : Pl) : List Pl → List Ck → Pl → List Ck
  | [], s, t => if t = ends then s else s ++ [btw t ends]
  | p :: M, s, t => ofK ends M (stretchF (if p = t then s else s ++ [btw t p]) p) (nextP p)
theorem rise_mem {a b : Int} : ∀ {l : List (Int × Int)} {u v : Int}, riseB a b u v l = true → ∀ p ∈ l, u < p.1 ∧ v < p.2 ∧ p.1 < a ∧ p.2 < b
  | q :: l, u, v, h, p, hp => by
    rw [riseB, Bool.and_eq_true, decide_eq_true_eq] at h
    rcases List.mem_cons.1 hp with rfl | hp
    · exact h.1
    · have := rise_mem h.2 p hp
      omega
theorem both_mem : ∀ (n : Nat) (l r : List (Int × Int)), l.length + r.length ≤ n → ∀ x ∈ bothF l r, ∃ p ∈ l, ∃ q ∈ r, p.1 = q.1 ∧ x = (p.1, p.2, q.2)
  | _, [], r, _, x, hx => by rw [both_nil'] at hx; cases hx
  | _, p :: l, [], _, x, hx => by rw [both_nil] at hx; cases hx
  | 0, _ :: _, _ :: _, h, _, _ => by simp at h
  | n + 1, p :: l, q :: r, h, x, hx => by
    simp only [List.length_cons] at h
    rw [bothF] at hx
    by_cases c : p.1 < q.1
    · rw [if_pos c] at hx
      obtain ⟨p', hp, q', hq, e⟩ := both_mem n l (q :: r) (by simp only [List.length_cons]; omega) x hx
      exact ⟨p', List.mem_cons_of_mem _ hp, q', hq, e⟩
    · rw [if_neg c] at hx
      by_cases c2 : q.1 < p.1
      · rw [if_pos c2] at hx
        obtain ⟨p', hp, q', hq, e⟩ := both_mem n (p :: l) r (by simp only [List.length_cons]; omega) x hx
        exact ⟨p', hp, q', List.mem_cons_of_mem _ hq, e⟩
      · rw [if_neg c2] at hx
        rcases List.mem_cons.1 hx with rfl | hx
        · exact ⟨p, List.mem_cons_self .., q, List.mem_cons_self .., by omega, rfl⟩
        · obtain ⟨p', hp, q', hq, e⟩ := both_mem n l r (by omega) x hx
          exact ⟨p', List.mem_cons_of_mem _ hp, q', List.mem_cons_of_mem _ hq, e⟩
theorem both_len : ∀ (n : Nat) (l r : List (Int × Int)), l.length + r.length ≤ n → (bothF l r).length ≤ l.length
  | _, [], r, _ => by rw [both_nil']; simp
  | _, p :: l, [], _ => by rw [both_nil]; simp
  | 0, _ :: _, _ :: _, h => by simp at h
  | n + 1, p :: l, q :: r, h => by
    simp only [List.length_cons] at h
    rw [bothF]
    by_cases c : p.1 < q.1
    · rw [if_pos c]
      have := both_len n l (q :: r) (by simp only [List.length_cons]; omega)
      simp only [List.length_cons]; omega
    · rw [if_neg c]
      by_cases c2 : q.1 < p.1
      · rw [if_pos c2]
        exact both_len n (p :: l) r (by simp only [List.length_cons]; omega)
      · rw [if_neg c2]
        have := both_len n l r (by omega)
        simp only [List.length_cons]; omega
theorem stretch_len (l : List Ck) (p : Pl) : (stretchF l p).length ≤ l.length + 1 := by
  rcases l.eq_nil_or_concat with rfl | ⟨m, c, rfl⟩
  · simp [stretch_nil]
  · rw [List.concat_eq_append, stretch_snoc]
    by_cases h : c.1 = true
    · rw [if_pos h]; simp
    · rw [if_neg h]; simp
/-- May there be chunks of these? -/
def fitK (a b c : Int) (l r : List (Int × Int)) : Bool := decide (0 ≤ a ∧ 0 ≤ b ∧ 0 ≤ c) && (riseB a b (-1) (-1) l && riseB a c (-1) (-1) r)
def sOfK : Spec := Spec.f5 kI kI kI (kL (eP eI eI)) (kL (eP eI eI)) (fun a b c l r => a < 100000000 ∧ b < 100000000 ∧ c < 100000000 ∧ l.length < 10000000 ∧ r.length < 10000000)
  (fun a b c l r => if fitK a b c l r then tu2 (sL eCk (ofK (a, b, c) (bothF l r) [] (0, 0, 0))) (kI.enc 0) else tu2 .em (kI.enc 12))
end Go.Proofs.Ytnhfobhdbablaaa
set_option linter.unusedSimpArgs false
set_option linter.unusedVariables false
namespace Go.Proofs.Ytnhfobhdbablaaa
theorem at_skip {p : Int × Int} {l : List (Int × Int)} {x : Int} (h : p.1 ≠ x) : atL (p :: l) x = atL l x := by rw [atL, if_neg h]
theorem at_head {p : Int × Int} {l : List (Int × Int)} : atL (p :: l) p.1 = p.2 := by rw [atL, if_pos rfl]
theorem rise_tail {a b u v : Int} {p : Int × Int} {l : List (Int × Int)} (h : riseB a b u v (p :: l) = true) : (u < p.1 ∧ v < p.2 ∧ p.1 < a ∧ p.2 < b) ∧ riseB a b p.1 p.2 l = true := by
  rw [riseB, Bool.and_eq_true, decide_eq_true_eq] at h
  exact h
/-- What a place is matched with lies within. -/
theorem at_in {a b : Int} : ∀ {l : List (Int × Int)} {u v : Int}, riseB a b u v l = true → ∀ x, atL l x ≠ -1 → u < x ∧ x < a ∧ v < atL l x ∧ atL l x < b
  | [], _, _, _, x, hx => absurd rfl hx
  | p :: l, u, v, h, x, hx => by
    obtain ⟨h1, h2⟩ := rise_tail h
    by_cases e : p.1 = x
    · subst e
      rw [at_head] at hx ⊢
      omega
    · rw [at_skip e] at hx ⊢
      have := at_in h2 x hx
      omega
theorem at_low {a b : Int} {l : List (Int × Int)} {u v : Int} (h : riseB a b u v l = true) {x : Int} (hx : x ≤ u) : atL l x = -1 := by
  by_cases e : atL l x = -1
  · exact e
  · have := at_in h x e
    omega
theorem at_mono {a b : Int} : ∀ {l : List (Int × Int)} {u v : Int}, riseB a b u v l = true → ∀ x y, x < y → atL l x ≠ -1 → atL l y ≠ -1 → atL l x < atL l y
  | [], _, _, _, x, _, _, hx, _ => absurd rfl hx
  | p :: l, u, v, h, x, y, hxy, hx, hy => by
    obtain ⟨h1, h2⟩ := rise_tail h
    by_cases e : p.1 = x
    · subst e
      rw [at_skip (x := y) (show p.1 ≠ y by omega)] at hy ⊢
      rw [at_head]
      exact (at_in h2 y hy).2.2.1
    · rw [at_skip e] at hx ⊢
      by_cases e2 : p.1 = y
      · have := at_in h2 x hx
        omega
      · rw [at_skip e2] at hy ⊢
        exact at_mono h2 x y hxy hx hy
/-- The place of all three lists there. -/
def fP (l r : List (Int × Int)) (x : Nat) : Option Pl := if atL l x = -1 ∨ atL r x = -1 then none else some ((x : Int), atL l x, atL r x)
def mF (l r : List (Int × Int)) : Nat → Nat → List Pl
  | 0, _ => []
  | n + 1, o => (fP l r o).toList ++ mF l r n (o + 1)
theorem mF_congr {l r l' r' : List (Int × Int)} : ∀ (n o : Nat), (∀ x, o ≤ x → fP l r x = fP l' r' x) → mF l r n o = mF l' r' n o
  | 0, _, _ => rfl
  | n + 1, o, h => by rw [mF, mF, h o (Nat.le_refl _), mF_congr n (o + 1) fun x hx => h x (by omega)]
theorem mF_none {l r : List (Int × Int)} {n o : Nat} (h : fP l r o = none) : mF l r (n + 1) o = mF l r n (o + 1) := by rw [mF, h]; rfl
theorem mF_some {l r : List (Int × Int)} {n o : Nat} {p : Pl} (h : fP l r o = some p) : mF l r (n + 1) o = p :: mF l r n (o + 1) := by rw [mF, h]; rfl
theorem both_mF {b c : Int} : ∀ (n o : Nat) (l r : List (Int × Int)) (u v : Int), riseB ((o + n : Nat) : Int) b ((o : Int) - 1) u l = true → riseB ((o + n : Nat) : Int) c ((o : Int) - 1) v r = true → -1 ≤ u → -1 ≤ v → bothF l r = mF l r n o
  | 0, o, l, r, u, v, hl, hr, _, _ => by
    cases l with
    | nil => rw [both_nil']; rfl
    | cons p l =>
      have := (rise_tail hl).1
      omega
  | n + 1, o, l, r, u, v, hl, hr, hu, hv => by
    have eo : ((o + (n + 1) : Nat) : Int) = ((o + 1 + n : Nat) : Int) := by omega
    have e1 : ((o + 1 : Nat) : Int) - 1 = (o : Int) := by omega
    match l, r, hl, hr with
    | [], r, _, _ =>
      have hf : ∀ x, fP [] r x = none := fun x => by unfold fP; rw [if_pos (.inl rfl)]
      rw [both_nil', mF_none (hf o)]
      have : ∀ n o, mF [] r n o = [] := fun n => by
        induction n with
        | zero => exact fun _ => rfl
        | succ n ih => exact fun o => by rw [mF_none (hf o), ih]
      exact (this n (o + 1)).symm
    | p :: l, [], _, _ =>
      have hf : ∀ x, fP (p :: l) [] x = none := fun x => by unfold fP; rw [if_pos (.inr rfl)]
      rw [both_nil, mF_none (hf o)]
      have : ∀ n o, mF (p :: l) [] n o = [] := fun n => by
        induction n with
        | zero => exact fun _ => rfl
        | succ n ih => exact fun o => by rw [mF_none (hf o), ih]
      exact (this n (o + 1)).symm
    | p :: l, q :: r, hl, hr =>
      obtain ⟨h1, h2⟩ := rise_tail hl
      obtain ⟨h3, h4⟩ := rise_tail hr
      have lift : ∀ {d w : Int} {s : List (Int × Int)} {t : Int}, riseB ((o + (n + 1) : Nat) : Int) d w t s = true → (o : Int) ≤ w → riseB ((o + 1 + n : Nat) : Int) d ((o + 1 : Nat) - 1 : Int) t s = true := by
        intro d w s t h hw
        cases s with
        | nil => rfl
        | cons z s =>
          obtain ⟨g1, g2⟩ := rise_tail h
          rw [riseB, Bool.and_eq_true, decide_eq_true_eq, ← eo]
          exact ⟨by omega, g2⟩
      have keep : ∀ {d : Int} {z : Int × Int} {s : List (Int × Int)} {t : Int}, riseB ((o + (n + 1) : Nat) : Int) d ((o : Int) - 1) t (z :: s) = true → (o : Int) < z.1 → riseB ((o + 1 + n : Nat) : Int) d ((o + 1 : Nat) - 1 : Int) t (z :: s) = true := by
        intro d z s t h hz
        obtain ⟨g1, g2⟩ := rise_tail h
        rw [riseB, Bool.and_eq_true, decide_eq_true_eq, ← eo]
        exact ⟨by omega, g2⟩
      rw [bothF]
      by_cases cp : p.1 = o
      · by_cases cq : q.1 = o
        · rw [if_neg (by omega), if_neg (by omega)]
          have hf : fP (p :: l) (q :: r) o = some (p.1, p.2, q.2) := by
            unfold fP
            rw [← cp, at_head, cp, ← cq, at_head, if_neg (by omega)]
          rw [mF_some hf, both_mF n (o + 1) l r p.2 q.2 (lift h2 (by omega)) (lift h4 (by omega)) (by omega) (by omega)]
          congr 1
          exact mF_congr n (o + 1) fun x hx => by unfold fP; rw [at_skip (by omega), at_skip (by omega)]
        · rw [if_pos (by omega)]
          have hf : fP (p :: l) (q :: r) o = none := by
            unfold fP
            rw [if_pos (.inr (by rw [at_skip cq]; exact at_low h4 (by omega)))]
          rw [mF_none hf, both_mF n (o + 1) l (q :: r) p.2 v (lift h2 (by omega)) (keep hr (by omega)) (by omega) hv]
          exact mF_congr n (o + 1) fun x hx => by unfold fP; rw [at_skip (l := l) (by omega)]
      · by_cases cq : q.1 = o
        · rw [if_neg (by omega), if_pos (by omega)]
          have hf : fP (p :: l) (q :: r) o = none := by
            unfold fP
            rw [if_pos (.inl (by rw [at_skip cp]; exact at_low h2 (by omega)))]
          rw [mF_none hf, both_mF n (o + 1) (p :: l) r u q.2 (keep hl (by omega)) (lift h4 (by omega)) hu (by omega)]
          exact mF_congr n (o + 1) fun x hx => by unfold fP; rw [at_skip (l := r) (by omega)]
        · have hf : fP (p :: l) (q :: r) o = none := by
            unfold fP
            rw [if_pos (.inl (by rw [at_skip cp]; exact at_low h2 (by omega)))]
          rw [mF_none hf, ← both_mF n (o + 1) (p :: l) (q :: r) u v (keep hl (by omega)) (keep hr (by omega)) hu hv, bothF]
theorem both_all {a : Nat} {b c : Int} {l r : List (Int × Int)} (hl : riseB a b (-1) (-1) l = true) (hr : riseB a c (-1) (-1) r = true) : bothF l r = mF l r a 0 :=
  both_mF a 0 l r (-1) (-1) (by rw [Nat.zero_add]; exact hl) (by rw [Nat.zero_add]; exact hr) (Int.le_refl _) (Int.le_refl _)
/-! ### chunk by chunk -/
def lastSt (s : List Ck) : Bool := match s.getLast? with
  | some c => c.1
  | none => false
theorem stretch_new {s : List Ck} {p : Pl} (h : lastSt s = false) : stretchF s p = s ++ [(true, (p.1, p.1 + 1), (p.2.1, p.2.1 + 1), (p.2.2, p.2.2 + 1))] := by
  rcases s.eq_nil_or_concat with rfl | ⟨m, c, rfl⟩
  · rfl
  · rw [List.concat_eq_append] at h ⊢
    have hc : c.1 = false := by simpa [lastSt] using h
    rw [stretch_snoc, if_neg (by rw [hc]; decide)]
theorem last_snoc (s : List Ck) (c : Ck) : lastSt (s ++ [c]) = c.1 := by simp [lastSt]
theorem of_run {ends : Pl} {l r : List (Int × Int)} {s : List Ck} (hs : lastSt s = false) (n o : Nat) (a b : Int) : ∀ k, 0 < k → k ≤ n → (∀ j, j < k → fP l r (o + j) = some (((o + j : Nat) : Int), a + j, b + j)) →
    ofK ends (mF l r n o) s ((o : Int), a, b) = ofK ends (mF l r (n - k) (o + k)) (s ++ [(true, ((o : Int), ((o + k : Nat) : Int)), (a, a + k), (b, b + k))]) (((o + k : Nat) : Int), a + k, b + k)
  | 0, h, _, _ => absurd h (by decide)
  | 1, _, hn, hf => by
    obtain ⟨n, rfl⟩ : ∃ m, n = m + 1 := ⟨n - 1, by omega⟩
    have h0 := hf 0 (by decide)
    simp only [Nat.add_zero, Int.natCast_zero, Int.add_zero, Int.ofNat_zero] at h0
    have h0 : fP l r o = some ((o : Int), a, b) := by simpa using h0
    rw [mF_some h0, ofK, if_pos rfl, stretch_new hs]
    simp only [Nat.add_sub_cancel]
    rfl
  | k + 2, _, hn, hf => by
    rw [of_run hs n o a b (k + 1) (by omega) (by omega) fun j hj => hf j (by omega)]
    have h1 := hf (k + 1) (by omega)
    obtain ⟨m, hm⟩ : ∃ m, n - (k + 1) = m + 1 := ⟨n - (k + 2), by omega⟩
    have hm2 : n - (k + 2) = m := by omega
    rw [hm, hm2, mF_some h1, ofK, if_pos rfl, stretch_snoc, if_pos rfl]
    have e1 : ((o + (k + 1) : Nat) : Int) + 1 = ((o + (k + 2) : Nat) : Int) := by omega
    have e2 : ∀ z : Int, z + ((k + 1 : Nat) : Int) + 1 = z + ((k + 2 : Nat) : Int) := fun z => by omega
    simp only [nextP, e1, e2]
    rfl
theorem mF_skip {l r : List (Int × Int)} (n o : Nat) : ∀ k, k ≤ n → (∀ j, j < k → fP l r (o + j) = none) → mF l r n o = mF l r (n - k) (o + k)
  | 0, _, _ => rfl
  | k + 1, hn, hf => by
    rw [mF_skip n o k (by omega) fun j hj => hf j (by omega)]
    obtain ⟨m, hm⟩ : ∃ m, n - k = m + 1 := ⟨n - (k + 1), by omega⟩
    rw [hm, mF_none (hf k (by omega)), show n - (k + 1) = m by omega]
    rfl
theorem of_gap {ends p t : Pl} {M : List Pl} {s : List Ck} (h : p ≠ t) : ofK ends (p :: M) s t = ofK ends (p :: M) (s ++ [btw t p]) p := by
  rw [ofK, ofK, if_neg h, if_pos rfl]
end Go.Proofs.Ytnhfobhdbablaaa
set_option linter.unusedSimpArgs false
set_option linter.unusedVariables false
namespace Go.Proofs.Ytnhfobhdbablaaa
def swapP (p : Pl) : Pl := (p.1, p.2.2, p.2.1)
theorem both_swap : ∀ (n : Nat) (l r : List (Int × Int)), l.length + r.length ≤ n → bothF r l = (bothF l r).map swapP
  | _, [], r, _ => by rw [both_nil', both_nil]; rfl
  | _, p :: l, [], _ => by rw [both_nil', both_nil]; rfl
  | 0, _ :: _, _ :: _, h => by simp at h
  | n + 1, p :: l, q :: r, h => by
    simp only [List.length_cons] at h
    rw [bothF, bothF]
    by_cases c : p.1 < q.1
    · rw [if_neg (by omega), if_pos c, if_pos c]
      exact both_swap n l (q :: r) (by simp only [List.length_cons]; omega)
    · by_cases c2 : q.1 < p.1
      · rw [if_pos c2, if_neg c, if_pos c2]
        exact both_swap n (p :: l) r (by simp only [List.length_cons]; omega)
      · rw [if_neg c2, if_neg c, if_neg c, if_neg c2, both_swap n l r (by omega), List.map_cons]
        have : p.1 = q.1 := by omega
        simp only [swapP, this]
theorem stretch_turn (s : List Ck) (p : Pl) : stretchF (s.map turnC) (swapP p) = (stretchF s p).map turnC := by
  rcases s.eq_nil_or_concat with rfl | ⟨m, c, rfl⟩
  · rfl
  · rw [List.concat_eq_append, List.map_append, List.map_cons, List.map_nil, stretch_snoc, stretch_snoc]
    have e : (turnC c).1 = c.1 := rfl
    rw [e]
    by_cases h : c.1 = true
    · rw [if_pos h, if_pos h, List.map_append]
      rfl
    · rw [if_neg h, if_neg h, List.map_append, List.map_append]
      rfl
theorem swap_inj {p q : Pl} : swapP p = swapP q ↔ p = q := by
  obtain ⟨p1, p2, p3⟩ := p
  obtain ⟨q1, q2, q3⟩ := q
  simp only [swapP, Prod.mk.injEq]
  exact ⟨fun ⟨h1, h2, h3⟩ => ⟨h1, h3, h2⟩, fun ⟨h1, h2, h3⟩ => ⟨h1, h3, h2⟩⟩
theorem btw_swap (p q : Pl) : btw (swapP p) (swapP q) = turnC (btw p q) := rfl
theorem of_swap (ends : Pl) : ∀ (M : List Pl) (s : List Ck) (t : Pl), ofK (swapP ends) (M.map swapP) (s.map turnC) (swapP t) = (ofK ends M s t).map turnC
  | [], s, t => by
    rw [List.map_nil, ofK, ofK]
    by_cases h : t = ends
    · rw [if_pos h, if_pos (swap_inj.2 h)]
    · rw [if_neg h, if_neg (fun e => h (swap_inj.1 e)), List.map_append, btw_swap]
      rfl
  | p :: M, s, t => by
    rw [List.map_cons, ofK, ofK, ← of_swap ends M]
    have e : (if swapP p = swapP t then s.map turnC else s.map turnC ++ [btw (swapP t) (swapP p)]) = (if p = t then s else s ++ [btw t p]).map turnC := by
      by_cases h : p = t
      · rw [if_pos h, if_pos (swap_inj.2 h)]
      · rw [if_neg h, if_neg (fun e => h (swap_inj.1 e)), List.map_append, btw_swap]
        rfl
    rw [e, stretch_turn]
    rfl
theorem fit_swap (a b c : Int) (l r : List (Int × Int)) : fitK a c b r l = fitK a b c l r := by
  unfold fitK
  have e : decide (0 ≤ a ∧ 0 ≤ c ∧ 0 ≤ b) = decide (0 ≤ a ∧ 0 ≤ b ∧ 0 ≤ c) := decide_eq_decide.2 (by omega)
  rw [e, Bool.and_comm (riseB a c (-1) (-1) r)]
/-! ### each from where the one ahead ends -/
def fromP (c : Ck) : Pl := (c.2.1.1, c.2.2.1.1, c.2.2.2.1)
def toP (c : Ck) : Pl := (c.2.1.2, c.2.2.1.2, c.2.2.2.2)
def leP (p q : Pl) : Prop := p.1 ≤ q.1 ∧ p.2.1 ≤ q.2.1 ∧ p.2.2 ≤ q.2.2
def chF : Pl → Option Bool → List Ck → Pl → Prop
  | t, _, [], e => t = e
  | t, o, c :: l, e => fromP c = t ∧ leP t (toP c) ∧ t ≠ toP c ∧ o ≠ some c.1 ∧ chF (toP c) (some c.1) l e
def lastO : Option Bool → List Ck → Option Bool
  | o, [] => o
  | _, c :: l => lastO (some c.1) l
theorem lastO_snoc (c : Ck) : ∀ (o : Option Bool) (s : List Ck), lastO o (s ++ [c]) = some c.1
  | _, [] => rfl
  | _, d :: s => lastO_snoc c (some d.1) s
theorem ch_snoc {e : Pl} {c : Ck} : ∀ {t : Pl} {o : Option Bool} {s : List Ck}, chF t o (s ++ [c]) e ↔ chF t o s (fromP c) ∧ leP (fromP c) (toP c) ∧ fromP c ≠ toP c ∧ lastO o s ≠ some c.1 ∧ toP c = e
  | t, o, [] => by
    show (fromP c = t ∧ leP t (toP c) ∧ t ≠ toP c ∧ o ≠ some c.1 ∧ toP c = e) ↔ (t = fromP c ∧ leP (fromP c) (toP c) ∧ fromP c ≠ toP c ∧ o ≠ some c.1 ∧ toP c = e)
    constructor
    · rintro ⟨rfl, h⟩; exact ⟨rfl, h⟩
    · rintro ⟨rfl, h⟩; exact ⟨rfl, h⟩
  | t, o, d :: s => by
    have ih := ch_snoc (e := e) (c := c) (t := toP d) (o := some d.1) (s := s)
    show (fromP d = t ∧ leP t (toP d) ∧ t ≠ toP d ∧ o ≠ some d.1 ∧ chF (toP d) (some d.1) (s ++ [c]) e) ↔ ((fromP d = t ∧ leP t (toP d) ∧ t ≠ toP d ∧ o ≠ some d.1 ∧ chF (toP d) (some d.1) s (fromP c)) ∧ leP (fromP c) (toP c) ∧ fromP c ≠ toP c ∧ lastO (some d.1) s ≠ some c.1 ∧ toP c = e)
    rw [ih]
    constructor
    · rintro ⟨h1, h2, h3, h4, h5, h6⟩; exact ⟨⟨h1, h2, h3, h4, h5⟩, h6⟩
    · rintro ⟨⟨h1, h2, h3, h4, h5⟩, h6⟩; exact ⟨h1, h2, h3, h4, h5, h6⟩
theorem leP_trans {p q r : Pl} (h : leP p q) (k : leP q r) : leP p r := ⟨Int.le_trans h.1 k.1, Int.le_trans h.2.1 k.2.1, Int.le_trans h.2.2 k.2.2⟩
theorem leP_refl (p : Pl) : leP p p := ⟨Int.le_refl _, Int.le_refl _, Int.le_refl _⟩
theorem ch_le : ∀ {t : Pl} {o : Option Bool} {s : List Ck} {e : Pl}, chF t o s e → leP t e
  | t, _, [], _, h => by rw [show t = _ from h]; exact leP_refl _
  | _, _, _ :: _, _, ⟨_, h2, _, _, h5⟩ => leP_trans h2 (ch_le h5)
/-- Places that rise from here on, all ahead of the ends. -/
def upM (ends : Pl) : Pl → List Pl → Prop
  | t, [] => leP t ends
  | t, p :: M => leP t p ∧ upM ends (nextP p) M
theorem both_up {a b c : Int} : ∀ (n : Nat) (l r : List (Int × Int)) (u v u' w : Int) (t : Pl), l.length + r.length ≤ n → riseB a b u v l = true → riseB a c u' w r = true → (t.1 ≤ u + 1 ∨ t.1 ≤ u' + 1) → t.2.1 ≤ v + 1 → t.2.2 ≤ w + 1 → leP t (a, b, c) → upM (a, b, c) t (bothF l r)
  | _, [], r, _, _, _, _, t, _, _, _, _, _, _, h => by rw [both_nil']; exact h
  | _, p :: l, [], _, _, _, _, t, _, _, _, _, _, _, h => by rw [both_nil]; exact h
  | 0, _ :: _, _ :: _, _, _, _, _, _, h, _, _, _, _, _, _ => by simp at h
  | n + 1, p :: l, q :: r, u, v, u', w, t, h, hl, hr, h1, h2, h3, h4 => by
    simp only [List.length_cons] at h
    obtain ⟨l1, l2⟩ := rise_tail hl
    obtain ⟨r1, r2⟩ := rise_tail hr
    rw [bothF]
    by_cases e1 : p.1 < q.1
    · rw [if_pos e1]
      exact both_up n l (q :: r) p.1 p.2 u' w t (by simp only [List.length_cons]; omega) l2 hr (by omega) (by omega) h3 h4
    · by_cases e2 : q.1 < p.1
      · rw [if_neg e1, if_pos e2]
        exact both_up n (p :: l) r u v q.1 q.2 t (by simp only [List.length_cons]; omega) hl r2 (by omega) h2 (by omega) h4
      · rw [if_neg e1, if_neg e2]
        refine ⟨⟨?_, ?_, ?_⟩, both_up n l r p.1 p.2 q.1 q.2 _ (by omega) l2 r2 (.inl (Int.le_refl _)) (Int.le_refl _) (Int.le_refl _) ⟨?_, ?_, ?_⟩⟩
        · show t.1 ≤ p.1
          omega
        · show t.2.1 ≤ p.2
          omega
        · show t.2.2 ≤ q.2
          omega
        · show p.1 + 1 ≤ a
          omega
        · show p.2 + 1 ≤ b
          omega
        · show q.2 + 1 ≤ c
          omega
theorem nextP_ne (p q : Pl) (h : leP p q) : p ≠ nextP q := fun e => by
  have h1 : p.1 = q.1 + 1 := congrArg Prod.fst e
  have := h.1
  omega
theorem le_nextP (p : Pl) : leP p (nextP p) := ⟨Int.le_of_lt (Int.lt_succ _), Int.le_of_lt (Int.lt_succ _), Int.le_of_lt (Int.lt_succ _)⟩
theorem ch_stretch {s : List Ck} {t : Pl} (h : chF (0, 0, 0) none s t) : chF (0, 0, 0) none (stretchF s t) (nextP t) ∧ lastO none (stretchF s t) = some true := by
  rcases s.eq_nil_or_concat with rfl | ⟨m, c, rfl⟩
  · have h : (0, 0, 0) = t := h
    subst h
    exact ⟨⟨rfl, le_nextP _, nextP_ne _ _ (leP_refl _), by simp, rfl⟩, rfl⟩
  · rw [List.concat_eq_append] at h ⊢
    rw [stretch_snoc]
    by_cases hc : c.1 = true
    · rw [if_pos hc]
      obtain ⟨h1, h2, h3, h4, h5⟩ := ch_snoc.1 h
      refine ⟨ch_snoc.2 ⟨h1, ?_, ?_, ?_, rfl⟩, lastO_snoc _ _ _⟩
      · exact leP_trans (h5 ▸ h2) (le_nextP t)
      · exact nextP_ne _ t (h5 ▸ h2)
      · rw [hc] at h4; exact h4
    · rw [if_neg hc]
      refine ⟨ch_snoc.2 ⟨h, le_nextP t, nextP_ne _ t (leP_refl _), ?_, rfl⟩, lastO_snoc _ _ _⟩
      rw [lastO_snoc]
      intro e
      exact hc (Option.some.inj e)
theorem ch_of (ends : Pl) : ∀ (M : List Pl) (s : List Ck) (t : Pl), chF (0, 0, 0) none s t → lastO none s ≠ some false → upM ends t M → chF (0, 0, 0) none (ofK ends M s t) ends
  | [], s, t, h, hl, hu => by
    rw [ofK]
    by_cases e : t = ends
    · rw [if_pos e, ← e]; exact h
    · rw [if_neg e]
      exact ch_snoc.2 ⟨h, hu, e, hl, rfl⟩
  | p :: M, s, t, h, hl, hu => by
    rw [ofK]
    by_cases e : p = t
    · rw [if_pos e, e]
      obtain ⟨h1, h2⟩ := ch_stretch h
      exact ch_of ends M _ _ h1 (by rw [h2]; simp) (e ▸ hu.2)
    · rw [if_neg e]
      obtain ⟨h1, h2⟩ := ch_stretch (s := s ++ [btw t p]) (t := p) (ch_snoc.2 ⟨h, hu.1, fun e2 => e e2.symm, hl, rfl⟩)
      exact ch_of ends M _ _ h1 (by rw [h2]; simp) hu.2
theorem ch_all {a b c : Int} {l r : List (Int × Int)} (h : fitK a b c l r = true) : chF (0, 0, 0) none (ofK (a, b, c) (bothF l r) [] (0, 0, 0)) (a, b, c) := by
  unfold fitK at h
  simp only [Bool.and_eq_true, decide_eq_true_eq] at h
  obtain ⟨⟨h1, h2, h3⟩, h4, h5⟩ := h
  exact ch_of (a, b, c) _ _ _ rfl (by simp [lastO]) (both_up _ l r (-1) (-1) (-1) (-1) (0, 0, 0) (Nat.le_refl _) h4 h5 (.inl (Int.le_refl _)) (Int.le_refl _) (Int.le_refl _) ⟨h1, h2, h3⟩)
theorem of_turned {a b c : Int} {l r : List (Int × Int)} : ofK (a, c, b) (bothF r l) [] (0, 0, 0) = (ofK (a, b, c) (bothF l r) [] (0, 0, 0)).map turnC := by
  rw [both_swap _ l r (Nat.le_refl _)]
  exact of_swap (a, b, c) (bothF l r) [] (0, 0, 0)
theorem small_in (n : Int) : -1 ≤ smallN n ∧ smallN n ≤ 60 := by
  unfold smallN
  by_cases h : 60 < n
  · rw [if_pos h, Int.tmod_eq_emod_of_nonneg (by omega)]
    omega
  · rw [if_neg h]
    omega
end Go.Proofs.Ytnhfobhdbablaaa
set_option linter.unusedVariables false
namespace Go.Proofs.Ytnhfobhdbablaaa
open Go
abbrev BS := List UInt8
instance : DecidableEq (BS × BS × BS × BS × Bool) := inferInstance
instance : DecidableEq (Bool × BS × BS × BS × BS × Bool) := inferInstance
/-- Left, base and right label; is it a conflict; text; left, base, right; has it a base. -/
abbrev Pt := BS × BS × BS × Bool × BS × BS × BS × BS × Bool
instance : DecidableEq Pt := inferInstance
abbrev ePt : El Pt := eP eS (eP eS (eP eS (eP eB (eP eS (eP eS (eP eS (eP eS eB)))))))
abbrev eLb : El (BS × BS × BS) := eP eS (eP eS eS)
@[reducible] def hkP (p : Pt) : Bool := p.2.2.2.1
@[reducible] def txP (p : Pt) : BS := p.2.2.2.2.1
/-- Text alone. -/
def textP (t : BS) : Pt := ([], [], [], false, t, [], [], [], false)
def isTextD (p : Pt) : Bool := decide (p = textP (txP p))
def plainB (s : BS) : Bool := decide ((10 : UInt8) ∉ s)
def plainD (p : Pt) : Bool := plainB p.1 && (plainB p.2.1 && plainB p.2.2.1)
theorem plain_app (a b : BS) : plainB (a ++ b) = (plainB a && plainB b) := by
  unfold plainB
  rw [Bool.eq_iff_iff]
  simp [not_or]
theorem plain_ix (s : BS) : decide (0 ≤ Lib.indexByte s 10) = !plainB s := by
  unfold plainB
  rcases idx_cases s with ⟨h1, h2⟩ | ⟨p, r, rfl, h2, h1⟩
  · rw [h1]
    simp [h2]
  · rw [h1]
    simp
def confD (p : Pt) : Bool := p.2.2.2.1 && (decide (p.2.2.2.2.1 = []) && ((p.2.2.2.2.2.2.2.2 || (decide (p.2.2.2.2.2.2.1 = []) && decide (p.2.1 = []))) && plainD p))
/-- Text that may stand there. -/
def aheadD (p : Pt) (another : Bool) : Bool := isTextD p && (decide (txP p ≠ []) && (!another || endsL (txP p)))
def okAt (d : List Pt) (i : Nat) : Bool := (hkP (d.getD i ePt.dflt) || (decide (i = 0) || hkP (d.getD (i - 1) ePt.dflt))) && (confD (d.getD i ePt.dflt) || aheadD (d.getD i ePt.dflt) (decide (i + 1 < d.length)))
def rightD (d : List Pt) : Bool := decide (∀ i, i < d.length → okAt d i = true)
def conflD (d : List Pt) : Nat := (d.filter hkP).length
def longT (l : List BS) : Nat := l.foldl (fun n s => max n (longL (splitL s))) 0
theorem longT_snoc (l : List BS) (x : BS) : longT (l ++ [x]) = max (longT l) (longL (splitL x)) := by
  unfold longT
  rw [List.foldl_append]
  rfl
def fourP (p : Pt) : List BS := [p.2.2.2.2.1, p.2.2.2.2.2.1, p.2.2.2.2.2.2.1, p.2.2.2.2.2.2.2.1]
def fitsD (d : List Pt) (w : Int) : Bool := decide (1 ≤ w) && decide (∀ p ∈ d, (longT (fourP p) : Int) < w)
/-- What a Doc comes to with some texts behind it. -/
def withD (d : List Pt) (ts : List BS) : List Pt := if ts.flatten = [] then d else d ++ [textP ts.flatten]
def ofGo : List Pt → List Pt → List BS → List Pt
  | [], d, ts => withD d ts
  | p :: l, d, ts => if isTextD p = true then ofGo l d (ts ++ [txP p]) else ofGo l (withD d ts ++ [p]) []
def ofD (l : List Pt) : List Pt := ofGo l [] []
theorem isText_textP (t : BS) : isTextD (textP t) = true := decide_eq_true rfl
theorem isText_eq {p : Pt} (h : isTextD p = true) : p = textP (txP p) := of_decide_eq_true h
/-- The document's own way. -/
def joinR (out : List Pt) (p : Pt) : List Pt :=
  if isTextD p = true then
    if txP p = [] then out else
      match out.getLast? with
      | some q => if isTextD q = true then out.dropLast ++ [textP (txP q ++ txP p)] else out ++ [p]
      | none => out ++ [p]
  else out ++ [p]
theorem join_no {out : List Pt} {p : Pt} (h : isTextD p = false) : joinR out p = out ++ [p] := by unfold joinR; rw [if_neg (by simp [h])]
theorem join_em {out : List Pt} {p : Pt} (h : isTextD p = true) (h2 : txP p = []) : joinR out p = out := by unfold joinR; rw [if_pos h, if_pos h2]
theorem joinR_nil {p : Pt} (h2 : ¬ (isTextD p = true ∧ txP p = [])) : joinR [] p = [p] := by
  unfold joinR
  by_cases h : isTextD p = true
  · rw [if_pos h, if_neg fun e => h2 ⟨h, e⟩]
    rfl
  · rw [if_neg h]
    rfl
theorem join_two {m : List Pt} {q p : Pt} (h : isTextD p = true) (h2 : txP p ≠ []) (hq : isTextD q = true) : joinR (m ++ [q]) p = m ++ [textP (txP q ++ txP p)] := by
  unfold joinR
  rw [if_pos h, if_neg h2]
  simp [hq]
theorem join_new {m : List Pt} {q p : Pt} (h2 : ¬ (isTextD p = true ∧ txP p = [])) (hq : isTextD q = false) : joinR (m ++ [q]) p = m ++ [q] ++ [p] := by
  unfold joinR
  by_cases h : isTextD p = true
  · rw [if_pos h, if_neg fun e => h2 ⟨h, e⟩]
    simp [hq]
  · rw [if_neg h]
theorem with_nil (d : List Pt) : withD d [] = d := rfl
theorem with_join {d : List Pt} {ts : List BS} {p : Pt} (hd : ∀ q, d.getLast? = some q → isTextD q = false) (hp : isTextD p = true) : withD d (ts ++ [txP p]) = joinR (withD d ts) p := by
  have e := isText_eq hp
  by_cases h0 : txP p = []
  · rw [join_em hp h0]
    unfold withD
    rw [h0]
    simp
  · unfold withD
    have hf : ¬ (ts ++ [txP p]).flatten = [] := by simp [h0]
    rw [if_neg hf]
    by_cases h1 : ts.flatten = []
    · rw [if_pos h1]
      have ef : (ts ++ [txP p]).flatten = txP p := by simp [h1]
      rw [ef, ← e]
      rcases d.eq_nil_or_concat with rfl | ⟨m, q, rfl⟩
      · rw [joinR_nil fun h => h0 h.2]
        rfl
      · rw [List.concat_eq_append] at hd ⊢
        rw [join_new (fun h => h0 h.2) (hd q (by simp))]
    · rw [if_neg h1, join_two hp h0 (isText_textP _)]
      simp [textP, txP]
theorem of_go : ∀ (l d : List Pt) (ts : List BS), (∀ q, d.getLast? = some q → isTextD q = false) → ofGo l d ts = l.foldl joinR (withD d ts)
  | [], d, ts, _ => rfl
  | p :: l, d, ts, hd => by
    rw [ofGo, List.foldl_cons]
    cases h : isTextD p with
    | true => rw [if_pos rfl, of_go l d _ hd, with_join hd h]
    | false =>
      rw [if_neg (by simp), of_go l _ [] (fun q hq => by
        rw [List.getLast?_append] at hq
        simp at hq
        rw [← hq]; exact h), with_nil, join_no h]
theorem ofD_eq (l : List Pt) : ofD l = l.foldl joinR [] := of_go l [] [] (fun q h => by cases h)
/-- No empty text, no text behind text. -/
inductive Nrm : List Pt → Prop
  | nil : Nrm []
  | snoc {l : List Pt} {p : Pt} : Nrm l → (isTextD p = true → txP p ≠ [] ∧ ∀ q, l.getLast? = some q → isTextD q = false) → Nrm (l ++ [p])
theorem nrm_join {out : List Pt} (p : Pt) (h : Nrm out) : Nrm (joinR out p) := by
  cases hp : isTextD p with
  | false => rw [join_no hp]; exact .snoc h fun e => by rw [hp] at e; cases e
  | true =>
    by_cases h0 : txP p = []
    · rw [join_em hp h0]; exact h
    · cases h with
      | nil => rw [joinR_nil fun e => h0 e.2]; exact .snoc (l := []) .nil fun _ => ⟨h0, fun q hq => by cases hq⟩
      | snoc hm hq =>
        rename_i m q
        cases hqt : isTextD q with
        | true =>
          rw [join_two hp h0 hqt]
          exact .snoc hm fun _ => ⟨by simp [textP, txP] at *; exact fun _ => h0, (hq hqt).2⟩
        | false =>
          rw [join_new (fun e => h0 e.2) hqt]
          exact .snoc (.snoc hm hq) fun _ => ⟨h0, fun q' hq' => by
            rw [List.getLast?_append] at hq'
            simp at hq'
            rw [← hq']; exact hqt⟩
theorem nrm_fold : ∀ (l out : List Pt), Nrm out → Nrm (l.foldl joinR out)
  | [], _, h => h
  | p :: l, out, h => nrm_fold l _ (nrm_join p h)
theorem nrm_id {l : List Pt} (h : Nrm l) : l.foldl joinR [] = l := by
  induction h with
  | nil => rfl
  | snoc hm hp ih =>
    rename_i m p
    rw [List.foldl_append, ih]
    show joinR m p = _
    cases h : isTextD p with
    | false => exact join_no h
    | true =>
      obtain ⟨h0, h1⟩ := hp h
      rcases m.eq_nil_or_concat with rfl | ⟨m', q, rfl⟩
      · exact joinR_nil fun e => h0 e.2
      · rw [List.concat_eq_append] at *
        exact join_new (fun e => h0 e.2) (h1 q (by simp))
theorem of_nrm (l : List Pt) : Nrm (ofD l) := by rw [ofD_eq]; exact nrm_fold l [] .nil
theorem of_of (l : List Pt) : ofD (ofD l) = ofD l := by
  have := nrm_id (of_nrm l)
  rwa [← ofD_eq] at this
/-- The length of all text. -/
def sumT (l : List Pt) : Nat := (l.map fun p => (txP p).length).sum
theorem sumT_app (l m : List Pt) : sumT (l ++ m) = sumT l + sumT m := by simp [sumT]
theorem sumT_one (p : Pt) : sumT [p] = (txP p).length := by simp [sumT]
theorem sumT_take (l : List Pt) (i : Nat) : sumT (l.take i) ≤ sumT l := by
  have := sumT_app (l.take i) (l.drop i)
  rw [List.take_append_drop] at this
  omega
theorem join_sum (out : List Pt) (p : Pt) : sumT (joinR out p) ≤ sumT out + (txP p).length ∧ (joinR out p).length ≤ out.length + 1 := by
  have hn : sumT (out ++ [p]) ≤ sumT out + (txP p).length ∧ (out ++ [p]).length ≤ out.length + 1 := by rw [sumT_app, sumT_one]; simp
  cases hp : isTextD p with
  | false => rw [join_no hp]; exact hn
  | true =>
    by_cases h0 : txP p = []
    · rw [join_em hp h0]; omega
    · rcases out.eq_nil_or_concat with rfl | ⟨m, q, rfl⟩
      · rw [joinR_nil fun e => h0 e.2]; exact hn
      · rw [List.concat_eq_append] at *
        cases hqt : isTextD q with
        | false => rw [join_new (fun e => h0 e.2) hqt]; exact hn
        | true =>
          rw [join_two hp h0 hqt, sumT_app, sumT_app, sumT_one, sumT_one]
          simp [textP, txP]
          omega
theorem fold_sum : ∀ (l out : List Pt), sumT (l.foldl joinR out) ≤ sumT out + sumT l ∧ (l.foldl joinR out).length ≤ out.length + l.length
  | [], out => by simp [sumT]
  | p :: l, out => by
    have h1 := fold_sum l (joinR out p)
    have h2 := join_sum out p
    have e : sumT (p :: l) = (txP p).length + sumT l := by simp [sumT]
    rw [List.foldl_cons, e, List.length_cons]
    omega
theorem ofD_sum (l : List Pt) : sumT (ofD l) ≤ sumT l ∧ (ofD l).length ≤ l.length := by
  have := fold_sum l []
  rw [← ofD_eq] at this
  simpa [sumT] using this
end Go.Proofs.Ytnhfobhdbablaaa
set_option linter.unusedSimpArgs false
set_option linter.unusedVariables false
set_option maxRecDepth 100000
namespace Go.Proofs.Ytnhfobhdbablaaa
open Go
/-- A Part that may stand there, whatever comes behind it. -/
def okS (l : List Pt) (i : Nat) : Bool := (hkP (l.getD i ePt.dflt) || (decide (i = 0) || hkP (l.getD (i - 1) ePt.dflt))) && (confD (l.getD i ePt.dflt) || aheadD (l.getD i ePt.dflt) true)
def SrP (l : List Pt) : Prop := ∀ i, i < l.length → okS l i = true
theorem ahead_any {p : Pt} (b : Bool) (h : aheadD p true = true) : aheadD p b = true := by
  unfold aheadD at *
  simp only [Bool.and_eq_true, Bool.not_true, Bool.false_or] at h
  rw [h.1, h.2.1, h.2.2]
  simp
theorem ok_of {l : List Pt} {i : Nat} (h : okS l i = true) : okAt l i = true := by
  unfold okS at h
  unfold okAt
  simp only [Bool.and_eq_true] at h ⊢
  refine ⟨h.1, ?_⟩
  have h3 := h.2
  rw [Bool.or_eq_true] at h3 ⊢
  rcases h3 with h2 | h2
  · exact .inl h2
  · exact .inr (ahead_any _ h2)
theorem SrP.right {l : List Pt} (h : SrP l) : rightD l = true := decide_eq_true fun i hi => ok_of (h i hi)
theorem okS_app {l : List Pt} {p : Pt} {i : Nat} (h : i < l.length) : okS (l ++ [p]) i = okS l i := by
  have e : ∀ k, k < l.length → (l ++ [p]).getD k ePt.dflt = l.getD k ePt.dflt := fun k hk => by simp [List.getD, List.getElem?_append_left hk]
  unfold okS
  rw [e i h]
  rcases Nat.eq_zero_or_pos i with rfl | h0
  · simp
  · rw [e (i - 1) (by omega)]
theorem snocPt (l : List Pt) (p : Pt) : (l ++ [p]).getD l.length ePt.dflt = p := by simp [List.getD]
theorem prevD (l : List Pt) (p : Pt) (h : 0 < l.length) : (l ++ [p]).getD (l.length - 1) ePt.dflt = l.getD (l.length - 1) ePt.dflt := by
  simp [List.getD, List.getElem?_append_left (show l.length - 1 < l.length by omega)]
theorem SrP.left {l : List Pt} {p : Pt} (h : SrP (l ++ [p])) : SrP l := fun i hi => by
  have := h i (by simp; omega)
  rwa [okS_app hi] at this
theorem SrP.snoc {l : List Pt} {p : Pt} (h : SrP l) (hp : okS (l ++ [p]) l.length = true) : SrP (l ++ [p]) := fun i hi => by
  rcases Nat.lt_or_ge i l.length with g | g
  · rw [okS_app g]; exact h i g
  · obtain rfl : i = l.length := by simp at hi; omega
    exact hp
theorem right_snoc {l : List Pt} {p : Pt} (h : SrP l) (hp : okAt (l ++ [p]) l.length = true) : rightD (l ++ [p]) = true := decide_eq_true fun i hi => by
  rcases Nat.lt_or_ge i l.length with g | g
  · exact ok_of (by rw [okS_app g]; exact h i g)
  · obtain rfl : i = l.length := by simp at hi; omega
    exact hp
theorem conf_hk {p : Pt} (h : confD p = true) : hkP p = true := by
  unfold confD at h
  simp only [Bool.and_eq_true] at h
  exact h.1
theorem text_noHk {p : Pt} (h : isTextD p = true) : hkP p = false := by
  rw [isText_eq h]
  rfl
theorem conf_noText {p : Pt} (h : confD p = true) : isTextD p = false := by
  cases c : isTextD p with
  | false => rfl
  | true => have := text_noHk c; rw [conf_hk h] at this; cases this
/-- The last one of such isn't text: it is a conflict. -/
theorem SrP.last {l : List Pt} {q : Pt} (h : SrP (l ++ [q])) (hq : isTextD q = false) : hkP q = true := by
  have := h l.length (by simp)
  unfold okS at this
  rw [snocPt] at this
  simp only [Bool.and_eq_true, Bool.or_eq_true] at this
  rcases this.2 with h2 | h2
  · exact conf_hk h2
  · unfold aheadD at h2
    rw [hq] at h2
    cases h2
theorem okS_text {l : List Pt} {t : BS} (h : SrP l) (h0 : t ≠ []) (he : endsL t = true) (hl : ∀ q, l.getLast? = some q → isTextD q = false) : okS (l ++ [textP t]) l.length = true := by
  unfold okS
  rw [snocPt]
  have hk : (decide (l.length = 0) || hkP ((l ++ [textP t]).getD (l.length - 1) ePt.dflt)) = true := by
    rcases l.eq_nil_or_concat with rfl | ⟨m, q, rfl⟩
    · rfl
    · rw [List.concat_eq_append] at *
      rw [prevD _ _ (by simp)]
      have : (m ++ [q]).getD ((m ++ [q]).length - 1) ePt.dflt = q := by simp [List.getD]
      rw [this, h.last (hl q (by simp)), Bool.or_true]
  rw [hk, Bool.or_true, Bool.true_and]
  unfold aheadD
  rw [isText_textP]
  have e : txP (textP t) = t := rfl
  rw [e, he, decide_eq_true h0]
  simp
theorem okAt_text {l : List Pt} {t : BS} (h : SrP l) (h0 : t ≠ []) (hl : ∀ q, l.getLast? = some q → isTextD q = false) : okAt (l ++ [textP t]) l.length = true := by
  unfold okAt
  rw [snocPt]
  have hk : (decide (l.length = 0) || hkP ((l ++ [textP t]).getD (l.length - 1) ePt.dflt)) = true := by
    rcases l.eq_nil_or_concat with rfl | ⟨m, q, rfl⟩
    · rfl
    · rw [List.concat_eq_append] at *
      rw [prevD _ _ (by simp)]
      have : (m ++ [q]).getD ((m ++ [q]).length - 1) ePt.dflt = q := by simp [List.getD]
      rw [this, h.last (hl q (by simp)), Bool.or_true]
  rw [hk, Bool.or_true, Bool.true_and]
  unfold aheadD
  rw [isText_textP, decide_eq_false (show ¬ l.length + 1 < (l ++ [textP t]).length by simp)]
  have e : txP (textP t) = t := rfl
  rw [e, decide_eq_true h0]
  simp
theorem okS_conf {l : List Pt} {p : Pt} (h : confD p = true) : okS (l ++ [p]) l.length = true := by
  unfold okS
  rw [snocPt, conf_hk h, h]
  rfl
theorem join_cases (out : List Pt) (p : Pt) (hp : isTextD p = true) : (txP p = [] ∧ joinR out p = out) ∨
    (txP p ≠ [] ∧ ((∃ m q, out = m ++ [q] ∧ isTextD q = true ∧ joinR out p = m ++ [textP (txP q ++ txP p)]) ∨ ((∀ q, out.getLast? = some q → isTextD q = false) ∧ joinR out p = out ++ [p]))) := by
  by_cases h0 : txP p = []
  · exact .inl ⟨h0, join_em hp h0⟩
  · refine .inr ⟨h0, ?_⟩
    rcases out.eq_nil_or_concat with rfl | ⟨m, q, rfl⟩
    · exact .inr ⟨(fun q h => by cases h), joinR_nil fun e => h0 e.2⟩
    · rw [List.concat_eq_append]
      cases hq : isTextD q with
      | true => exact .inl ⟨m, q, rfl, hq, join_two hp h0 hq⟩
      | false =>
        refine .inr ⟨fun q' h => ?_, join_new (fun e => h0 e.2) hq⟩
        simp at h
        rw [← h]; exact hq
/-- A text's Part in such, and what stands ahead of it. -/
theorem SrP.text {m : List Pt} {q : Pt} (h : SrP (m ++ [q])) (hq : isTextD q = true) : ∀ q', m.getLast? = some q' → isTextD q' = false := fun q' hq' => by
  have := h m.length (by simp)
  unfold okS at this
  rw [snocPt, text_noHk hq] at this
  simp only [Bool.and_eq_true, Bool.or_eq_true, Bool.false_eq_true, false_or, decide_eq_true_eq] at this
  rcases m.eq_nil_or_concat with rfl | ⟨m', q2, rfl⟩
  · cases hq'
  · rw [List.concat_eq_append] at *
    simp at hq'
    subst hq'
    rcases this.1 with h1 | h1
    · simp at h1
    · rw [prevD _ _ (by simp)] at h1
      have e : (m' ++ [q2]).getD ((m' ++ [q2]).length - 1) ePt.dflt = q2 := by simp [List.getD]
      rw [e] at h1
      cases c : isTextD q2 with
      | false => rfl
      | true => rw [text_noHk c] at h1; cases h1
theorem ends_app {a b : BS} (h0 : b ≠ []) : endsL (a ++ b) = endsL b := by
  unfold endsL
  rcases b.eq_nil_or_concat with rfl | ⟨m, c, rfl⟩
  · exact absurd rfl h0
  · rw [List.concat_eq_append, ← List.append_assoc, List.getLast?_concat, List.getLast?_concat]
theorem join_Sr {out : List Pt} {p : Pt} (h : SrP out) (hp : confD p = true ∨ (isTextD p = true ∧ (txP p = [] ∨ endsL (txP p) = true))) : SrP (joinR out p) := by
  rcases hp with hp | ⟨hp, he⟩
  · rw [join_no (conf_noText hp)]
    exact h.snoc (okS_conf hp)
  · rcases join_cases out p hp with ⟨_, e⟩ | ⟨h0, ⟨m, q, rfl, hq, e⟩ | ⟨hl, e⟩⟩
    · rw [e]; exact h
    · rw [e]
      have he := he.resolve_left h0
      exact h.left.snoc (okS_text h.left (by simp [h0]) (by rw [ends_app h0]; exact he) (h.text hq))
    · rw [e]
      have he := he.resolve_left h0
      rw [isText_eq hp]
      exact h.snoc (okS_text h h0 he hl)
theorem join_right {out : List Pt} {p : Pt} (h : SrP out) (hp : confD p = true ∨ isTextD p = true) : rightD (joinR out p) = true := by
  rcases hp with hp | hp
  · exact (join_Sr h (.inl hp)).right
  · rcases join_cases out p hp with ⟨_, e⟩ | ⟨h0, ⟨m, q, rfl, hq, e⟩ | ⟨hl, e⟩⟩
    · rw [e]; exact h.right
    · rw [e]
      exact right_snoc h.left (okAt_text h.left (by simp [h0]) (h.text hq))
    · rw [e, isText_eq hp]
      exact right_snoc h (okAt_text h h0 hl)
theorem fold_Sr : ∀ (l out : List Pt), SrP out → (∀ p ∈ l, confD p = true ∨ (isTextD p = true ∧ (txP p = [] ∨ endsL (txP p) = true))) → SrP (l.foldl joinR out)
  | [], _, h, _ => h
  | p :: l, out, h, hl => fold_Sr l _ (join_Sr h (hl p (List.mem_cons_self ..))) fun q hq => hl q (List.mem_cons_of_mem p hq)
/-- Of conflicts, and text of which all but the last one ends, comes a Doc that may be. -/
theorem of_right {l : List Pt} (h1 : ∀ p ∈ l, confD p = true ∨ isTextD p = true) (h2 : ∀ p ∈ l.dropLast, confD p = true ∨ (isTextD p = true ∧ (txP p = [] ∨ endsL (txP p) = true))) : rightD (ofD l) = true := by
  rw [ofD_eq]
  rcases l.eq_nil_or_concat with rfl | ⟨m, p, rfl⟩
  · rfl
  · rw [List.concat_eq_append] at *
    rw [List.dropLast_concat] at h2
    rw [List.foldl_append]
    exact join_right (fold_Sr m [] (fun i hi => by simp at hi) h2) (h1 p (by simp))
theorem of_conflG : ∀ (l out : List Pt), conflD (l.foldl joinR out) = conflD out + conflD l
  | [], out => by simp [conflD]
  | p :: l, out => by
    have key : conflD (joinR out p) = conflD out + conflD [p] := by
      have hap : ∀ a b : List Pt, conflD (a ++ b) = conflD a + conflD b := fun a b => by simp [conflD]
      cases hp : isTextD p with
      | false => rw [join_no hp, hap]
      | true =>
        have h1 : ∀ t : BS, conflD [textP t] = 0 := fun t => rfl
        have h2 : conflD [p] = 0 := by rw [isText_eq hp]; rfl
        rcases join_cases out p hp with ⟨_, e⟩ | ⟨h0, ⟨m, q, rfl, hq, e⟩ | ⟨hl, e⟩⟩
        · rw [e, h2]; rfl
        · have h3 : conflD [q] = 0 := by rw [isText_eq hq]; rfl
          rw [e, hap, hap, h1, h2, h3]
        · rw [e, hap]
    have hap : conflD (p :: l) = conflD [p] + conflD l := by
      rw [show p :: l = [p] ++ l from rfl]
      unfold conflD
      rw [List.filter_append, List.length_append]
    rw [List.foldl_cons, of_conflG l, key, hap]
    omega
theorem of_confl (l : List Pt) : conflD (ofD l) = conflD l := by
  rw [ofD_eq, of_conflG]
  simp [conflD]
end Go.Proofs.Ytnhfobhdbablaaa
set_option linter.unusedSimpArgs false
set_option linter.unusedVariables false
namespace Go.Proofs.Ytnhfobhdbablaaa
/-! ### numbers -/
theorem idx_in {l m : List BS} {x : BS} (h : x ∈ l) : (l ++ m).idxOf x = l.idxOf x := by rw [List.idxOf_append, if_pos h]
theorem idx_out {l m : List BS} {x : BS} (h : ¬ x ∈ l) : (l ++ m).idxOf x = m.idxOf x + l.length := by rw [List.idxOf_append, if_neg h]
theorem numL_fin : ∀ (l ks : List BS), ks.Nodup → (numL ks l).1.Nodup ∧ (∃ m, (numL ks l).1 = ks ++ m) ∧ (∀ x ∈ l, x ∈ (numL ks l).1) ∧ (numL ks l).2 = l.map fun x => (((numL ks l).1.idxOf x : Nat) : Int)
  | [], ks, h => ⟨h, ⟨[], by simp [numL]⟩, fun _ h => by simp at h, rfl⟩
  | x :: l, ks, h => by
    have hk : (if x ∈ ks then ks else ks ++ [x]).Nodup := by
      split
      · exact h
      · rename_i hx
        rw [List.nodup_append]
        refine ⟨h, by simp, fun a ha b hb e => ?_⟩
        simp at hb
        exact hx (by rw [← hb, ← e]; exact ha)
    have hx : x ∈ (if x ∈ ks then ks else ks ++ [x]) := by
      split
      · assumption
      · simp
    have hi : (if x ∈ ks then ks else ks ++ [x]).idxOf x = ks.idxOf x := by
      split
      · rfl
      · rename_i hx
        rw [idx_out hx, List.idxOf_cons_self, List.idxOf_eq_length hx, Nat.zero_add]
    have hm : ∃ m, (if x ∈ ks then ks else ks ++ [x]) = ks ++ m := by
      split
      · exact ⟨[], by simp⟩
      · exact ⟨[x], rfl⟩
    obtain ⟨i1, ⟨m, i2⟩, i3, i4⟩ := numL_fin l (if x ∈ ks then ks else ks ++ [x]) hk
    obtain ⟨m', hm⟩ := hm
    simp only [numL]
    refine ⟨i1, ⟨m' ++ m, by rw [i2, hm, List.append_assoc]⟩, fun y hy => ?_, ?_⟩
    · rcases List.mem_cons.1 hy with rfl | hy
      · rw [i2]; exact List.mem_append_left _ hx
      · exact i3 y hy
    · rw [List.map_cons, i4]
      congr 1
      rw [i2, idx_in hx, hi]
theorem idx_inj {K : List BS} {x y : BS} (hx : x ∈ K) (hy : y ∈ K) (h : K.idxOf x = K.idxOf y) : x = y := by
  have h1 := List.idxOf_lt_length_of_mem hx
  have h2 := List.idxOf_lt_length_of_mem hy
  have e1 : K[K.idxOf x] = x := List.getElem_idxOf h1
  have e2 : K[K.idxOf y] = y := List.getElem_idxOf h2
  rw [← e1, ← e2]
  congr 1
/-- Three lists' numbers: the same for the same text alone. -/
theorem num_three (a b c : List BS) : ∃ φ : BS → Int, numF [] [a, b, c] = [a.map φ, b.map φ, c.map φ] ∧ ∀ x y, (x ∈ a ∨ x ∈ b ∨ x ∈ c) → (y ∈ a ∨ y ∈ b ∨ y ∈ c) → φ x = φ y → x = y := by
  obtain ⟨a1, ⟨ma, a2⟩, a3, a4⟩ := numL_fin a [] List.nodup_nil
  obtain ⟨b1, ⟨mb, b2⟩, b3, b4⟩ := numL_fin b (numL [] a).1 a1
  obtain ⟨c1, ⟨mc, c2⟩, c3, c4⟩ := numL_fin c (numL (numL [] a).1 b).1 b1
  generalize hKa : (numL [] a).1 = Ka at *
  generalize hKb : (numL Ka b).1 = Kb at *
  generalize hKc : (numL Kb c).1 = Kc at *
  have ea : ∀ x ∈ a, Kc.idxOf x = Ka.idxOf x := fun x hx => by
    rw [c2, idx_in (by rw [b2]; exact List.mem_append_left _ (a3 x hx)), b2, idx_in (a3 x hx)]
  have eb : ∀ x ∈ b, Kc.idxOf x = Kb.idxOf x := fun x hx => by
    rw [c2, idx_in (b3 x hx)]
  have hin : ∀ x, (x ∈ a ∨ x ∈ b ∨ x ∈ c) → x ∈ Kc := fun x hx => by
    rcases hx with h | h | h
    · rw [c2, b2]; exact List.mem_append_left _ (List.mem_append_left _ (a3 x h))
    · rw [c2]; exact List.mem_append_left _ (b3 x h)
    · exact c3 x h
  refine ⟨fun x => ((Kc.idxOf x : Nat) : Int), ?_, fun x y hx hy e => idx_inj (hin x hx) (hin y hy) (Int.ofNat.inj e)⟩
  simp only [numF]
  rw [hKa, hKb, a4, b4, c4]
  congr 1
  · exact List.map_congr_left fun x hx => by rw [ea x hx]
  · congr 1
    exact List.map_congr_left fun x hx => by rw [eb x hx]
/-! ### matchings -/
theorem rgt_rise {a b : List Int} : ∀ {l : List (Int × Int)} {u v : Int}, rgt a b u v l = true → riseB a.length b.length u v l = true
  | [], _, _, _ => rfl
  | p :: l, u, v, h => by
    rw [rgt, Bool.and_eq_true, decide_eq_true_eq] at h
    rw [riseB, rgt_rise h.2, Bool.and_true, decide_eq_true_eq]
    exact ⟨h.1.1, h.1.2.1, h.1.2.2.1, h.1.2.2.2.1⟩
theorem rgt_mem {a b : List Int} : ∀ {l : List (Int × Int)} {u v : Int}, rgt a b u v l = true → ∀ p ∈ l, u < p.1 ∧ v < p.2 ∧ p.1 < a.length ∧ p.2 < b.length ∧ a.getD p.1.toNat 0 = b.getD p.2.toNat 0
  | q :: l, u, v, h, p, hp => by
    rw [rgt, Bool.and_eq_true, decide_eq_true_eq] at h
    rcases List.mem_cons.1 hp with rfl | hp
    · exact h.1
    · obtain ⟨g1, g2, g3⟩ := rgt_mem h.2 p hp
      exact ⟨by omega, by omega, g3⟩
theorem map_getD {α : Type} (φ : BS → α) (d : α) {l : List BS} {k : Nat} (h : k < l.length) : (l.map φ).getD k d = φ (l.getD k []) := by
  rw [gd_lt _ _ (by simpa using h), gd_lt _ _ h, List.getElem_map]
theorem getD_mem {l : List BS} {k : Nat} (h : k < l.length) : l.getD k [] ∈ l := by
  rw [gd_lt _ _ h]
  exact List.getElem_mem h
/-- Three texts' lines. -/
abbrev Fl := List BS × List BS × List BS
/-- All three have the same line there. -/
def atP (f : Fl) (p : Pl) : Prop := (0 ≤ p.1 ∧ p.1 < f.1.length) ∧ (0 ≤ p.2.1 ∧ p.2.1 < f.2.1.length) ∧ (0 ≤ p.2.2 ∧ p.2.2 < f.2.2.length) ∧ f.2.1.getD p.2.1.toNat [] = f.1.getD p.1.toNat [] ∧ f.2.2.getD p.2.2.toNat [] = f.1.getD p.1.toNat []
/-- Two matchings of three texts' numbers. -/
def mtch (f : Fl) (l r : List (Int × Int)) : Prop := rgt ((numF [] [f.1, f.2.1, f.2.2]).getD 0 []) ((numF [] [f.1, f.2.1, f.2.2]).getD 1 []) (-1) (-1) l = true ∧ rgt ((numF [] [f.1, f.2.1, f.2.2]).getD 0 []) ((numF [] [f.1, f.2.1, f.2.2]).getD 2 []) (-1) (-1) r = true
theorem mtch_fit {f : Fl} {l r : List (Int × Int)} (h : mtch f l r) : fitK f.1.length f.2.1.length f.2.2.length l r = true := by
  obtain ⟨φ, e, _⟩ := num_three f.1 f.2.1 f.2.2
  unfold mtch at h
  rw [e] at h
  have h1 := rgt_rise h.1
  have h2 := rgt_rise h.2
  simp only [List.getD_cons_zero, List.getD_cons_succ, List.length_map] at h1 h2
  unfold fitK
  rw [h1, h2]
  simp
theorem mtch_at {f : Fl} {l r : List (Int × Int)} (h : mtch f l r) : ∀ p ∈ bothF l r, atP f p := fun x hx => by
  obtain ⟨p, hp, q, hq, e1, rfl⟩ := both_mem _ l r (Nat.le_refl _) x hx
  obtain ⟨φ, e, inj⟩ := num_three f.1 f.2.1 f.2.2
  unfold mtch at h
  rw [e] at h
  obtain ⟨a1, a2, a3, a4, a5⟩ := rgt_mem h.1 p hp
  obtain ⟨b1, b2, b3, b4, b5⟩ := rgt_mem h.2 q hq
  simp only [List.getD_cons_zero, List.getD_cons_succ, List.length_map] at a3 a4 a5 b3 b4 b5
  have k1 : p.1.toNat < f.1.length := by omega
  have k2 : p.2.toNat < f.2.1.length := by omega
  have k3 : q.2.toNat < f.2.2.length := by omega
  rw [map_getD φ 0 k1, map_getD φ 0 k2] at a5
  rw [← e1, map_getD φ 0 k1, map_getD φ 0 k3] at b5
  refine ⟨⟨show (0 : Int) ≤ p.1 by omega, a3⟩, ⟨show (0 : Int) ≤ p.2 by omega, a4⟩, ⟨show (0 : Int) ≤ q.2 by omega, b4⟩, ?_, ?_⟩
  · exact (inj _ _ (.inl (getD_mem k1)) (.inr (.inl (getD_mem k2))) a5).symm
  · exact (inj _ _ (.inl (getD_mem k1)) (.inr (.inr (getD_mem k3))) b5).symm
/-! ### stable chunks -/
def addP (p : Pl) (n : Nat) : Pl := (p.1 + n, p.2.1 + n, p.2.2 + n)
def goodC (f : Fl) (c : Ck) : Prop := c.1 = true → ∃ n : Nat, toP c = addP (fromP c) n ∧ ∀ k, k < n → atP f (addP (fromP c) k)
theorem good_stretch {f : Fl} {s : List Ck} {p : Pl} (h : ∀ c ∈ s, goodC f c) (hc : chF (0, 0, 0) none s p) (hp : atP f p) : ∀ c ∈ stretchF s p, goodC f c := by
  have one : goodC f (true, (p.1, p.1 + 1), (p.2.1, p.2.1 + 1), (p.2.2, p.2.2 + 1)) := fun _ => ⟨1, rfl, fun k hk => by
    obtain rfl : k = 0 := by omega
    have : addP p 0 = p := by simp [addP]
    show atP f (addP p 0)
    rw [this]
    exact hp⟩
  rcases s.eq_nil_or_concat with rfl | ⟨m, d, rfl⟩
  · rw [stretch_nil]
    intro c hc
    simp only [List.mem_singleton] at hc
    subst hc
    exact one
  · rw [List.concat_eq_append] at h hc ⊢
    rw [stretch_snoc]
    by_cases hd : d.1 = true
    · rw [if_pos hd]
      obtain ⟨_, _, _, _, e⟩ := ch_snoc.1 hc
      obtain ⟨n, e2, g⟩ := h d (by simp) hd
      intro c hc
      rcases List.mem_append.1 hc with hc | hc
      · exact h c (by simp [hc])
      · simp only [List.mem_singleton] at hc
        subst hc
        rw [e] at e2
        refine fun _ => ⟨n + 1, ?_, fun k hk => ?_⟩
        · rw [e2]
          show (_, _, _) = (_, _, _)
          simp only [addP, fromP, Int.natCast_add, Int.add_assoc]
          rfl
        · show atP f (addP (fromP d) k)
          rcases Nat.lt_or_ge k n with g1 | g1
          · exact g k g1
          · obtain rfl : k = n := by omega
            rw [← e2]
            exact hp
    · rw [if_neg hd]
      intro c hc
      rcases List.mem_append.1 hc with hc | hc
      · exact h c hc
      · simp only [List.mem_singleton] at hc
        subst hc
        exact one
theorem good_of {f : Fl} (ends : Pl) : ∀ (M : List Pl) (s : List Ck) (t : Pl), chF (0, 0, 0) none s t → lastO none s ≠ some false → upM ends t M → (∀ p ∈ M, atP f p) → (∀ c ∈ s, goodC f c) → ∀ c ∈ ofK ends M s t, goodC f c
  | [], s, t, h, hl, hu, hM, hs => by
    rw [ofK]
    by_cases e : t = ends
    · rw [if_pos e]; exact hs
    · rw [if_neg e]
      intro c hc
      rcases List.mem_append.1 hc with hc | hc
      · exact hs c hc
      · simp only [List.mem_singleton] at hc
        subst hc
        exact fun h => by cases h
  | p :: M, s, t, h, hl, hu, hM, hs => by
    rw [ofK]
    by_cases e : p = t
    · rw [if_pos e, e]
      obtain ⟨h1, h2⟩ := ch_stretch h
      exact good_of ends M _ _ h1 (by rw [h2]; simp) (e ▸ hu.2) (fun q hq => hM q (List.mem_cons_of_mem _ hq)) (good_stretch hs h (e ▸ hM p (List.mem_cons_self ..)))
    · rw [if_neg e]
      have hc := ch_snoc (e := p) (c := btw t p) (t := (0, 0, 0)) (o := none) (s := s) |>.2 ⟨h, hu.1, fun e2 => e e2.symm, hl, rfl⟩
      obtain ⟨h1, h2⟩ := ch_stretch (s := s ++ [btw t p]) (t := p) hc
      refine good_of ends M _ _ h1 (by rw [h2]; simp) hu.2 (fun q hq => hM q (List.mem_cons_of_mem _ hq)) (good_stretch (fun c hc => ?_) hc (hM p (List.mem_cons_self ..)))
      rcases List.mem_append.1 hc with hc | hc
      · exact hs c hc
      · simp only [List.mem_singleton] at hc
        subst hc
        exact fun h => by cases h
/-- The chunks of three texts by two matchings. -/
def cksF (f : Fl) (l r : List (Int × Int)) : List Ck := ofK (f.1.length, f.2.1.length, f.2.2.length) (bothF l r) [] (0, 0, 0)
def endP (f : Fl) : Pl := (f.1.length, f.2.1.length, f.2.2.length)
theorem cks_ch {f : Fl} {l r : List (Int × Int)} (h : mtch f l r) : chF (0, 0, 0) none (cksF f l r) (endP f) := ch_all (mtch_fit h)
theorem cks_good {f : Fl} {l r : List (Int × Int)} (h : mtch f l r) : ∀ c ∈ cksF f l r, goodC f c := by
  have hf := mtch_fit h
  unfold fitK at hf
  simp only [Bool.and_eq_true, decide_eq_true_eq] at hf
  obtain ⟨⟨h1, h2, h3⟩, h4, h5⟩ := hf
  exact good_of (endP f) _ _ _ rfl (by simp [lastO]) (both_up _ l r (-1) (-1) (-1) (-1) (0, 0, 0) (Nat.le_refl _) h4 h5 (.inl (Int.le_refl _)) (Int.le_refl _) (Int.le_refl _) ⟨h1, h2, h3⟩) (mtch_at h) (fun c hc => by simp at hc)
/-! ### what a chunk cuts -/
def cutB (f : Fl) (c : Ck) : List BS := cutS c.2.1 f.1
def cutO (f : Fl) (c : Ck) : List BS := cutS c.2.2.1 f.2.1
def cutT (f : Fl) (c : Ck) : List BS := cutS c.2.2.2 f.2.2
theorem cutS_in {s : Sp} {l : List BS} (h1 : 0 ≤ s.1) (h2 : s.1 ≤ s.2) (h3 : s.2 ≤ l.length) : cutS s l = cutL l s.1.toNat s.2.toNat := by
  unfold cutS
  rw [if_neg (by omega)]
theorem cutL_len' {α : Type} (a : List α) {i j : Nat} (h : j ≤ a.length) : (cutL a i j).length = j - i := by simp [cutL]; omega
theorem cutL_at {a : List BS} {i j k : Nat} (h : k < j - i) (hj : j ≤ a.length) : (cutL a i j).getD k [] = a.getD (i + k) [] := by
  simp [cutL, List.getD, List.getElem?_take, show i + k < j by omega]
theorem cutL_mem {a : List BS} {i j : Nat} {x : BS} (hj : j ≤ a.length) (h : x ∈ cutL a i j) : ∃ k, i ≤ k ∧ k < j ∧ x = a.getD k [] := by
  obtain ⟨k, hk, e⟩ := List.getElem_of_mem h
  have hk' : k < j - i := by rw [cutL_len' a hj] at hk; exact hk
  refine ⟨i + k, by omega, by omega, ?_⟩
  rw [← cutL_at hk' hj, gd_lt _ _ hk, e]
/-- What holds of the three components of places that follow each other. -/
structure Cmp (g : Ck → Sp) (h : Pl → Int) : Prop where
  fro : ∀ c, (g c).1 = h (fromP c)
  too : ∀ c, (g c).2 = h (toP c)
  mono : ∀ p q, leP p q → h p ≤ h q
  add : ∀ p (n : Nat), h (addP p n) = h p + n
  zero : h (0, 0, 0) = 0
theorem cmpB : Cmp (fun c => c.2.1) (fun p => p.1) := ⟨fun _ => rfl, fun _ => rfl, fun _ _ h => h.1, fun _ _ => rfl, rfl⟩
theorem cmpO : Cmp (fun c => c.2.2.1) (fun p => p.2.1) := ⟨fun _ => rfl, fun _ => rfl, fun _ _ h => h.2.1, fun _ _ => rfl, rfl⟩
theorem cmpT : Cmp (fun c => c.2.2.2) (fun p => p.2.2) := ⟨fun _ => rfl, fun _ => rfl, fun _ _ h => h.2.2, fun _ _ => rfl, rfl⟩
theorem cutL_join {α : Type} (a : List α) {i j k : Nat} (h1 : i ≤ j) (h2 : j ≤ k) : cutL a i j ++ cutL a j k = cutL a i k := by
  unfold cutL
  have e : a.take j = (a.take k).take j := by rw [List.take_take]; congr 1; omega
  rw [e]
  generalize a.take k = b
  rw [List.drop_take]
  have : b.drop j = (b.drop i).drop (j - i) := by rw [List.drop_drop]; congr 1; omega
  rw [this, List.take_append_drop]
/-- The spans of one text, one behind the other. -/
theorem span_join {g : Ck → Sp} {h : Pl → Int} (hg : Cmp g h) {l : List BS} : ∀ {L : List Ck} {t : Pl} {o : Option Bool} {e : Pl}, chF t o L e → 0 ≤ h t → h e ≤ l.length → (L.map fun c => cutS (g c) l).flatten = cutL l (h t).toNat (h e).toNat
  | [], t, _, e, hc, _, _ => by
    have : t = e := hc
    subst this
    simp [cutL]
  | c :: L, t, o, e, ⟨h1, h2, h3, h4, h5⟩, h6, h7 => by
    have m1 := hg.mono _ _ h2
    have m2 := hg.mono _ _ (ch_le h5)
    rw [List.map_cons, List.flatten_cons, span_join hg h5 (by omega) h7, cutS_in (by rw [hg.fro, h1]; exact h6) (by rw [hg.fro, hg.too, h1]; exact m1) (by rw [hg.too]; omega), hg.fro, hg.too, h1]
    exact cutL_join l (by omega) (by omega)
theorem span_all {g : Ck → Sp} {h : Pl → Int} (hg : Cmp g h) {l : List BS} {L : List Ck} {e : Pl} (hc : chF (0, 0, 0) none L e) (he : h e = l.length) : (L.map fun c => cutS (g c) l).flatten = l := by
  rw [span_join hg hc (by rw [hg.zero]; exact Int.le_refl _) (by omega), hg.zero, he]
  simp [cutL]
/-- Each chunk of such a list lies within. -/
theorem ch_in : ∀ {L : List Ck} {t : Pl} {o : Option Bool} {e : Pl}, chF t o L e → ∀ c ∈ L, leP t (fromP c) ∧ leP (fromP c) (toP c) ∧ leP (toP c) e
  | c :: L, t, o, e, ⟨h1, h2, h3, h4, h5⟩, d, hd => by
    rcases List.mem_cons.1 hd with rfl | hd
    · exact ⟨by rw [h1]; exact leP_refl _, by rw [h1]; exact h2, ch_le h5⟩
    · obtain ⟨g1, g2, g3⟩ := ch_in h5 d hd
      exact ⟨leP_trans h2 g1, g2, g3⟩
def inF (f : Fl) (c : Ck) : Prop := leP (0, 0, 0) (fromP c) ∧ leP (fromP c) (toP c) ∧ leP (toP c) (endP f)
theorem cutB_in {f : Fl} {c : Ck} (h : inF f c) : cutB f c = cutL f.1 c.2.1.1.toNat c.2.1.2.toNat := cutS_in h.1.1 h.2.1.1 h.2.2.1
theorem cutO_in {f : Fl} {c : Ck} (h : inF f c) : cutO f c = cutL f.2.1 c.2.2.1.1.toNat c.2.2.1.2.toNat := cutS_in h.1.2.1 h.2.1.2.1 h.2.2.2.1
theorem cutT_in {f : Fl} {c : Ck} (h : inF f c) : cutT f c = cutL f.2.2 c.2.2.2.1.toNat c.2.2.2.2.toNat := cutS_in h.1.2.2 h.2.1.2.2 h.2.2.2.2
/-- A stable chunk has the same lines of each. -/
theorem good_same {f : Fl} {c : Ck} (h : inF f c) (hg : goodC f c) (hs : c.1 = true) : cutO f c = cutB f c ∧ cutT f c = cutB f c := by
  obtain ⟨n, e, g⟩ := hg hs
  have e1 : c.2.1.2 = c.2.1.1 + n := congrArg (fun p : Pl => p.1) e
  have e2 : c.2.2.1.2 = c.2.2.1.1 + n := congrArg (fun p : Pl => p.2.1) e
  have e3 : c.2.2.2.2 = c.2.2.2.1 + n := congrArg (fun p : Pl => p.2.2) e
  have a1 : (0 : Int) ≤ c.2.1.1 := h.1.1
  have a2 : (0 : Int) ≤ c.2.2.1.1 := h.1.2.1
  have a3 : (0 : Int) ≤ c.2.2.2.1 := h.1.2.2
  have b1 : c.2.1.2 ≤ f.1.length := h.2.2.1
  have b2 : c.2.2.1.2 ≤ f.2.1.length := h.2.2.2.1
  have b3 : c.2.2.2.2 ≤ f.2.2.length := h.2.2.2.2
  rw [cutB_in h, cutO_in h, cutT_in h]
  have l1 := cutL_len' f.1 (i := c.2.1.1.toNat) (j := c.2.1.2.toNat) (by omega)
  have l2 := cutL_len' f.2.1 (i := c.2.2.1.1.toNat) (j := c.2.2.1.2.toNat) (by omega)
  have l3 := cutL_len' f.2.2 (i := c.2.2.2.1.toNat) (j := c.2.2.2.2.toNat) (by omega)
  have key : ∀ k, k < n → f.2.1.getD (c.2.2.1.1.toNat + k) [] = f.1.getD (c.2.1.1.toNat + k) [] ∧ f.2.2.getD (c.2.2.2.1.toNat + k) [] = f.1.getD (c.2.1.1.toNat + k) [] := fun k hk => by
    obtain ⟨_, _, _, g4, g5⟩ := g k hk
    have q1 : (addP (fromP c) k).1.toNat = c.2.1.1.toNat + k := by show (c.2.1.1 + (k : Int)).toNat = _; omega
    have q2 : (addP (fromP c) k).2.1.toNat = c.2.2.1.1.toNat + k := by show (c.2.2.1.1 + (k : Int)).toNat = _; omega
    have q3 : (addP (fromP c) k).2.2.toNat = c.2.2.2.1.toNat + k := by show (c.2.2.2.1 + (k : Int)).toNat = _; omega
    rw [q1, q2] at g4
    rw [q1, q3] at g5
    exact ⟨g4, g5⟩
  constructor
  · refine list_ext_getD [] (by omega) fun k hk => ?_
    rw [cutL_at (by omega) (by omega), cutL_at (by omega) (by omega)]
    exact (key k (by omega)).1
  · refine list_ext_getD [] (by omega) fun k hk => ?_
    rw [cutL_at (by omega) (by omega), cutL_at (by omega) (by omega)]
    exact (key k (by omega)).2
/-! ### lines that end -/
def wholeF (f : Fl) : Prop := wholeL f.1 = true ∧ wholeL f.2.1 = true ∧ wholeL f.2.2 = true
theorem whole_ends {l : List BS} (h : wholeL l = true) {k : Nat} (hk : k + 1 < l.length) : endsL (l.getD k []) = true := ((wholeL_iff l).1 h k (by omega)).2 hk
def allEnd (f : Fl) (c : Ck) : Prop := ∀ x, x ∈ cutB f c ∨ x ∈ cutO f c ∨ x ∈ cutT f c → endsL x = true
theorem cut_ends {l : List BS} (hw : wholeL l = true) {i j : Nat} (h : j < l.length) : ∀ x ∈ cutL l i j, endsL x = true := fun x hx => by
  obtain ⟨k, h1, h2, rfl⟩ := cutL_mem (by omega) hx
  exact whole_ends hw (by omega)
/-- The lines of all chunks but the last one end. -/
theorem ch_ends {f : Fl} (hw : wholeF f) : ∀ (L : List Ck) (t : Pl) (o : Option Bool), chF t o L (endP f) → leP (0, 0, 0) t → (∀ c ∈ L, goodC f c) → ∀ c ∈ L.dropLast, allEnd f c
  | [], _, _, _, _, _, _, h => by simp at h
  | [c], _, _, _, _, _, _, h => by simp at h
  | c :: d :: L, t, o, hc, h0, hg, x, hx => by
    have hx : x = c ∨ x ∈ (d :: L).dropLast := by simpa using hx
    obtain ⟨h1, h2, h3, h4, h5⟩ := hc
    have h5' := h5
    obtain ⟨k1, k2, k3, k4, k5⟩ := h5
    rcases hx with rfl | hx
    · have hin : inF f x := ⟨by rw [h1]; exact h0, by rw [h1]; exact h2, ch_le h5'⟩
      have hle := ch_le k5
      have z1 : (0 : Int) ≤ (toP x).1 := Int.le_trans h0.1 h2.1
      have z2 : (0 : Int) ≤ (toP x).2.1 := Int.le_trans h0.2.1 h2.2.1
      have z3 : (0 : Int) ≤ (toP x).2.2 := Int.le_trans h0.2.2 h2.2.2
      have w1 : (toP x).1 ≤ (toP d).1 := k2.1
      have w2 : (toP x).2.1 ≤ (toP d).2.1 := k2.2.1
      have w3 : (toP x).2.2 ≤ (toP d).2.2 := k2.2.2
      have v1 : (toP d).1 ≤ f.1.length := hle.1
      have v2 : (toP d).2.1 ≤ f.2.1.length := hle.2.1
      have v3 : (toP d).2.2 ≤ f.2.2.length := hle.2.2
      cases hs : x.1 with
      | true =>
        obtain ⟨e1, e2⟩ := good_same hin (hg x (by simp)) hs
        have hall : ∀ y ∈ cutB f x, endsL y = true := by
          by_cases c1 : (toP x).1 < (toP d).1
          · rw [cutB_in hin]
            exact cut_ends hw.1 (by show (toP x).1.toNat < _; omega)
          · by_cases c2 : (toP x).2.1 < (toP d).2.1
            · rw [← e1, cutO_in hin]
              exact cut_ends hw.2.1 (by show (toP x).2.1.toNat < _; omega)
            · by_cases c3 : (toP x).2.2 < (toP d).2.2
              · rw [← e2, cutT_in hin]
                exact cut_ends hw.2.2 (by show (toP x).2.2.toNat < _; omega)
              · exact absurd (show toP x = toP d from Prod.ext (by omega) (Prod.ext (by omega) (by omega))) k3
        intro y hy
        rw [e1, e2] at hy
        rcases hy with hy | hy | hy
        · exact hall y hy
        · exact hall y hy
        · exact hall y hy
      | false =>
        have hd : d.1 = true := by
          cases hd : d.1 with
          | true => rfl
          | false => rw [hs, hd] at k4; exact absurd rfl k4
        obtain ⟨n, e, _⟩ := hg d (by simp) hd
        rw [k1] at e
        have hn : 0 < n := by
          rcases Nat.eq_zero_or_pos n with rfl | h
          · exact absurd (show toP x = toP d by rw [e]; simp [addP]) k3
          · exact h
        have u1 : (toP d).1 = (toP x).1 + n := congrArg (fun p : Pl => p.1) e
        have u2 : (toP d).2.1 = (toP x).2.1 + n := congrArg (fun p : Pl => p.2.1) e
        have u3 : (toP d).2.2 = (toP x).2.2 + n := congrArg (fun p : Pl => p.2.2) e
        intro y hy
        rcases hy with hy | hy | hy
        · rw [cutB_in hin] at hy
          exact cut_ends hw.1 (by show (toP x).1.toNat < _; omega) y hy
        · rw [cutO_in hin] at hy
          exact cut_ends hw.2.1 (by show (toP x).2.1.toNat < _; omega) y hy
        · rw [cutT_in hin] at hy
          exact cut_ends hw.2.2 (by show (toP x).2.2.toNat < _; omega) y hy
    · exact ch_ends hw (d :: L) (toP c) (some c.1) h5' (leP_trans h0 h2) (fun e he => hg e (List.mem_cons_of_mem _ he)) x hx
end Go.Proofs.Ytnhfobhdbablaaa
set_option linter.unusedSimpArgs false
set_option linter.unusedVariables false
namespace Go.Proofs.Ytnhfobhdbablaaa
def clsF (f : Fl) (c : Ck) : Int := classK c f.1 f.2.1 f.2.2
/-- What both sides begin and end with, where it is taken out. -/
def hoistF (st : Int) (l r : List BS) : Nat × Nat := if st = 2 then (ahd l r, bhd (l.drop (ahd l r)) (r.drop (ahd l r))) else (0, 0)
theorem hoist_le (st : Int) (l r : List BS) : (hoistF st l r).1 + (hoistF st l r).2 ≤ l.length ∧ (hoistF st l r).1 + (hoistF st l r).2 ≤ r.length := by
  unfold hoistF
  split
  · have h1 := ahd_le l r
    have h2 := bhd_le (l.drop (ahd l r)) (r.drop (ahd l r))
    simp only [List.length_drop] at h2
    simp only
    omega
  · simp
def confP (f : Fl) (c : Ck) (st : Int) (lb : BS × BS × BS) : Pt :=
  (lb.1, (if st = 0 then [] else lb.2.1), lb.2.2, true, [], (cutL (cutO f c) (hoistF st (cutO f c) (cutT f c)).1 ((cutO f c).length - (hoistF st (cutO f c) (cutT f c)).2)).flatten,
    (if st = 0 then [] else (cutB f c).flatten), (cutL (cutT f c) (hoistF st (cutO f c) (cutT f c)).1 ((cutT f c).length - (hoistF st (cutO f c) (cutT f c)).2)).flatten, decide (st ≠ 0))
/-- A conflict's Parts. -/
def confL (f : Fl) (c : Ck) (st : Int) (lb : BS × BS × BS) : List Pt :=
  [textP ((cutO f c).take (hoistF st (cutO f c) (cutT f c)).1).flatten, confP f c st lb, textP ((cutO f c).drop ((cutO f c).length - (hoistF st (cutO f c) (cutT f c)).2)).flatten]
/-- The lines that a chunk comes to. -/
def sideF (f : Fl) (c : Ck) (k fav : Int) : List BS := if k = 0 then cutB f c else if k = 2 then cutT f c else if k = 4 ∧ fav = 3 then cutT f c else cutO f c
def ckPs (f : Fl) (st : Int) (lb : BS × BS × BS) (fav : Int) (c : Ck) : List Pt := if clsF f c = 4 ∧ fav = 0 then confL f c st lb else [textP (sideF f c (clsF f c) fav).flatten]
def styOK (n : Int) : Bool := decide (n = 0) || (decide (n = 1) || decide (n = 2))
def favOK (n : Int) : Bool := decide (n = 0) || (decide (n = 1) || decide (n = 3))
def plainLb (lb : BS × BS × BS) : Bool := plainB lb.1 && (plainB lb.2.1 && plainB lb.2.2)
/-- The Doc of chunks; why there is none. -/
def docF (f : Fl) (L : List Ck) (st : Int) (lb : BS × BS × BS) (fav : Int) : List Pt × Int :=
  if (styOK st && favOK fav) = false then ([], 5) else if plainLb lb = false then ([], 3) else (ofD (L.flatMap (ckPs f st lb fav)), 0)
def cntF (f : Fl) (L : List Ck) : Nat := (L.filter fun c => decide (clsF f c = 4)).length
theorem flat_ends {l : List BS} (h : ∀ x ∈ l, endsL x = true) : l.flatten = [] ∨ endsL l.flatten = true := by
  rcases l.eq_nil_or_concat with rfl | ⟨m, x, rfl⟩
  · exact .inl rfl
  · right
    rw [List.concat_eq_append, List.flatten_append]
    have hx := h x (by simp)
    have : [x].flatten = x := by simp
    rw [this, ends_app (fun e => by rw [e] at hx; simp [endsL] at hx)]
    exact hx
theorem confP_ok {f : Fl} {c : Ck} {st : Int} {lb : BS × BS × BS} (h : plainLb lb = true) : confD (confP f c st lb) = true := by
  unfold plainLb at h
  simp only [Bool.and_eq_true] at h
  unfold confD confP plainD
  simp only [Bool.and_eq_true, Bool.or_eq_true, decide_eq_true_eq]
  refine ⟨trivial, trivial, ?_, h.1, ?_, h.2.2⟩
  · by_cases e : st = 0
    · rw [if_pos e, if_pos e]
      exact .inr ⟨rfl, rfl⟩
    · exact .inl e
  · split
    · rfl
    · exact h.2.1
theorem ckPs_or {f : Fl} {st : Int} {lb : BS × BS × BS} {fav : Int} (h : plainLb lb = true) (c : Ck) : ∀ p ∈ ckPs f st lb fav c, confD p = true ∨ isTextD p = true := by
  unfold ckPs
  split
  · intro p hp
    unfold confL at hp
    simp only [List.mem_cons, List.not_mem_nil, or_false] at hp
    rcases hp with rfl | rfl | rfl
    · exact .inr (isText_textP _)
    · exact .inl (confP_ok h)
    · exact .inr (isText_textP _)
  · intro p hp
    simp only [List.mem_singleton] at hp
    subst hp
    exact .inr (isText_textP _)
theorem side_end {f : Fl} {c : Ck} (h : allEnd f c) (k fav : Int) : ∀ x ∈ sideF f c k fav, endsL x = true := by
  intro x hx
  unfold sideF at hx
  split at hx
  · exact h x (.inl hx)
  · split at hx
    · exact h x (.inr (.inr hx))
    · split at hx
      · exact h x (.inr (.inr hx))
      · exact h x (.inr (.inl hx))
/-- The Parts of a chunk whose lines all end. -/
theorem ckPs_end {f : Fl} {st : Int} {lb : BS × BS × BS} {fav : Int} {c : Ck} (hp : plainLb lb = true) (h : allEnd f c) : ∀ p ∈ ckPs f st lb fav c, confD p = true ∨ (isTextD p = true ∧ (txP p = [] ∨ endsL (txP p) = true)) := by
  unfold ckPs
  split
  · intro p hpm
    unfold confL at hpm
    simp only [List.mem_cons, List.not_mem_nil, or_false] at hpm
    rcases hpm with rfl | rfl | rfl
    · exact .inr ⟨isText_textP _, flat_ends fun x hx => h x (.inr (.inl (List.mem_of_mem_take hx)))⟩
    · exact .inl (confP_ok hp)
    · exact .inr ⟨isText_textP _, flat_ends fun x hx => h x (.inr (.inl (List.mem_of_mem_drop hx)))⟩
  · intro p hpm
    simp only [List.mem_singleton] at hpm
    subst hpm
    exact .inr ⟨isText_textP _, flat_ends (side_end h _ _)⟩
theorem cls_cases (f : Fl) (c : Ck) : (clsF f c = 0 ∧ c.1 = true) ∨ (c.1 = false ∧ (clsF f c = 2 ∧ cutO f c = cutB f c ∨ clsF f c = 1 ∧ cutT f c = cutB f c ∨ clsF f c = 3 ∧ cutO f c = cutT f c ∨ clsF f c = 4 ∧ cutO f c ≠ cutB f c ∧ cutT f c ≠ cutB f c ∧ cutO f c ≠ cutT f c)) := by
  unfold clsF classK
  cases h : c.1 with
  | true => exact .inl ⟨rfl, rfl⟩
  | false =>
    refine .inr ⟨rfl, ?_⟩
    rw [if_neg (by simp)]
    by_cases h1 : cutS c.2.2.1 f.2.1 = cutS c.2.1 f.1
    · rw [if_pos h1]; exact .inl ⟨rfl, h1⟩
    · rw [if_neg h1]
      by_cases h2 : cutS c.2.2.2 f.2.2 = cutS c.2.1 f.1
      · rw [if_pos h2]; exact .inr (.inl ⟨rfl, h2⟩)
      · rw [if_neg h2]
        by_cases h3 : cutS c.2.2.1 f.2.1 = cutS c.2.2.2 f.2.2
        · rw [if_pos h3]; exact .inr (.inr (.inl ⟨rfl, h3⟩))
        · rw [if_neg h3]; exact .inr (.inr (.inr ⟨rfl, h1, h2, h3⟩))
theorem cls_four {f : Fl} {c : Ck} (h : clsF f c = 4) : cutO f c ≠ cutT f c := by
  rcases cls_cases f c with ⟨h1, _⟩ | ⟨_, ⟨h1, _⟩ | ⟨h1, _⟩ | ⟨h1, _⟩ | ⟨_, _, _, h2⟩⟩
  · omega
  · omega
  · omega
  · omega
  · exact h2
theorem cls_zero {f : Fl} {c : Ck} (h : clsF f c = 0) : c.1 = true := by
  rcases cls_cases f c with ⟨_, h1⟩ | ⟨_, ⟨h1, _⟩ | ⟨h1, _⟩ | ⟨h1, _⟩ | ⟨h1, _⟩⟩
  · exact h1
  · omega
  · omega
  · omega
  · omega
/-- What unlike sides begin with ends. -/
theorem ahead_end {f : Fl} (hw : wholeF f) {c : Ck} (hin : inF f c) (hne : cutO f c ≠ cutT f c) : ∀ x ∈ (cutO f c).take (ahd (cutO f c) (cutT f c)), endsL x = true := by
  intro x hx
  have hle := ahd_le (cutO f c) (cutT f c)
  have hsp := (ahd_spec [] (cutO f c) (cutT f c)).1
  have b2 : c.2.2.1.2 ≤ f.2.1.length := hin.2.2.2.1
  have b3 : c.2.2.2.2 ≤ f.2.2.length := hin.2.2.2.2
  have a2 : (0 : Int) ≤ c.2.2.1.1 := hin.1.2.1
  have a3 : (0 : Int) ≤ c.2.2.2.1 := hin.1.2.2
  obtain ⟨k, hk, e⟩ := List.getElem_of_mem hx
  rw [List.length_take] at hk
  rw [List.getElem_take] at e
  have e' : (cutO f c).getD k [] = x := by rw [gd_lt _ _ (by omega)]; exact e
  have lO : (cutO f c).length = c.2.2.1.2.toNat - c.2.2.1.1.toNat := by rw [cutO_in hin]; exact cutL_len' _ (by omega)
  have lT : (cutT f c).length = c.2.2.2.2.toNat - c.2.2.2.1.toNat := by rw [cutT_in hin]; exact cutL_len' _ (by omega)
  rcases Nat.lt_or_ge (ahd (cutO f c) (cutT f c)) (cutO f c).length with g | g
  · rw [← e', cutO_in hin, cutL_at (by omega) (by omega)]
    exact whole_ends hw.2.1 (by omega)
  · rcases Nat.lt_or_ge (ahd (cutO f c) (cutT f c)) (cutT f c).length with g2 | g2
    · rw [← e', hsp k (by omega), cutT_in hin, cutL_at (by omega) (by omega)]
      exact whole_ends hw.2.2 (by omega)
    · exact absurd (ahd_all (by omega) (by omega)) hne
theorem ckPs_ne (f : Fl) (st : Int) (lb : BS × BS × BS) (fav : Int) (c : Ck) : ckPs f st lb fav c ≠ [] := by
  unfold ckPs
  split
  · simp [confL]
  · simp
/-- Of all but the last one of a chunk's Parts, text ends. -/
theorem ckPs_last {f : Fl} (hw : wholeF f) {st : Int} {lb : BS × BS × BS} {fav : Int} {c : Ck} (hp : plainLb lb = true) (hin : inF f c) : ∀ p ∈ (ckPs f st lb fav c).dropLast, confD p = true ∨ (isTextD p = true ∧ (txP p = [] ∨ endsL (txP p) = true)) := by
  unfold ckPs
  split
  · rename_i hc
    intro p hpm
    unfold confL at hpm
    have hpm : p = textP ((cutO f c).take (hoistF st (cutO f c) (cutT f c)).1).flatten ∨ p = confP f c st lb := by simpa using hpm
    rcases hpm with rfl | rfl
    · refine .inr ⟨isText_textP _, flat_ends fun x hx => ?_⟩
      unfold hoistF at hx
      split at hx
      · exact ahead_end hw hin (cls_four hc.1) x hx
      · simp at hx
    · exact .inl (confP_ok hp)
  · intro p hpm
    simp at hpm
theorem dropLast_app {α : Type} (a b : List α) (h : b ≠ []) : (a ++ b).dropLast = a ++ b.dropLast := by
  rw [List.dropLast_append_of_ne_nil h]
/-- What is built of chunks may be printed. -/
theorem doc_right {f : Fl} (hw : wholeF f) {L : List Ck} (hc : chF (0, 0, 0) none L (endP f)) (hg : ∀ c ∈ L, goodC f c) {st : Int} {lb : BS × BS × BS} {fav : Int} (hp : plainLb lb = true) : rightD (ofD (L.flatMap (ckPs f st lb fav))) = true := by
  refine of_right (fun p h => ?_) (fun p h => ?_)
  · obtain ⟨c, _, hc2⟩ := List.mem_flatMap.1 h
    exact ckPs_or hp c p hc2
  · have hends := ch_ends hw L (0, 0, 0) none hc (leP_refl _) hg
    have hin := ch_in hc
    rcases L.eq_nil_or_concat with rfl | ⟨m, c, rfl⟩
    · simp at h
    · rw [List.concat_eq_append] at h hends hin
      rw [List.flatMap_append, dropLast_app _ _ (by simpa using ckPs_ne f st lb fav c)] at h
      rcases List.mem_append.1 h with h | h
      · obtain ⟨d, hd, hd2⟩ := List.mem_flatMap.1 h
        exact ckPs_end hp (hends d (by simpa using hd)) p hd2
      · have h : p ∈ (ckPs f st lb fav c).dropLast := by simpa using h
        exact ckPs_last hw hp (hin c (by simp)) p h
/-! ### conflicts -/
theorem confl_app (a b : List Pt) : conflD (a ++ b) = conflD a + conflD b := by simp [conflD]
theorem ckPs_confl (f : Fl) (st : Int) (lb : BS × BS × BS) (c : Ck) : conflD (ckPs f st lb 0 c) = if clsF f c = 4 then 1 else 0 := by
  unfold ckPs
  by_cases h : clsF f c = 4
  · rw [if_pos ⟨h, rfl⟩, if_pos h]
    rfl
  · rw [if_neg (fun e => h e.1), if_neg h]
    rfl
theorem cnt_cons (f : Fl) (c : Ck) (L : List Ck) : cntF f (c :: L) = (if clsF f c = 4 then 1 else 0) + cntF f L := by
  unfold cntF
  rw [List.filter_cons]
  by_cases h : clsF f c = 4
  · rw [if_pos (by simpa using h), if_pos h, List.length_cons]; omega
  · rw [if_neg (by simpa using h), if_neg h]; omega
theorem cnt_snoc (f : Fl) (c : Ck) (L : List Ck) : cntF f (L ++ [c]) = cntF f L + (if clsF f c = 4 then 1 else 0) := by
  unfold cntF
  rw [List.filter_append, List.length_append]
  congr 1
  rw [List.filter_cons]
  by_cases h : clsF f c = 4
  · rw [if_pos (by simpa using h), if_pos h]; rfl
  · rw [if_neg (by simpa using h), if_neg h]; rfl
theorem doc_confl (f : Fl) (st : Int) (lb : BS × BS × BS) : ∀ L : List Ck, conflD (L.flatMap (ckPs f st lb 0)) = cntF f L
  | [] => rfl
  | c :: L => by
    rw [List.flatMap_cons, confl_app, ckPs_confl, doc_confl f st lb L, cnt_cons]
/-! ### one side favoured -/
theorem ckPs_fav (f : Fl) (st : Int) (lb : BS × BS × BS) {fav : Int} (h : fav ≠ 0) (c : Ck) : ckPs f st lb fav c = [textP (sideF f c (clsF f c) fav).flatten] := by
  unfold ckPs
  rw [if_neg (fun e => h e.2)]
theorem map_fav (f : Fl) (st : Int) (lb : BS × BS × BS) {fav : Int} (h : fav ≠ 0) (L : List Ck) : L.flatMap (ckPs f st lb fav) = (L.map fun c => (sideF f c (clsF f c) fav).flatten).map textP := by
  induction L with
  | nil => rfl
  | cons c L ih => rw [List.flatMap_cons, ckPs_fav f st lb h, ih]; rfl
theorem of_texts : ∀ (ts : List BS) (d : List Pt) (acc : List BS), ofGo (ts.map textP) d acc = withD d (acc ++ ts)
  | [], d, acc => by rw [List.map_nil, ofGo, List.append_nil]
  | t :: ts, d, acc => by
    rw [List.map_cons, ofGo, if_pos (isText_textP t), of_texts ts d (acc ++ [txP (textP t)])]
    congr 1
    rw [List.append_assoc]
    rfl
/-- The text of the chunks' sides. -/
def favT (f : Fl) (L : List Ck) (fav : Int) : BS := (L.map fun c => sideF f c (clsF f c) fav).flatten.flatten
theorem flat_map {l : List (List BS)} : (l.map List.flatten).flatten = l.flatten.flatten := by
  induction l with
  | nil => rfl
  | cons a l ih => rw [List.map_cons, List.flatten_cons, List.flatten_cons, List.flatten_append, ih]
theorem doc_fav (f : Fl) (st : Int) (lb : BS × BS × BS) {fav : Int} (h : fav ≠ 0) (L : List Ck) : ofD (L.flatMap (ckPs f st lb fav)) = if favT f L fav = [] then [] else [textP (favT f L fav)] := by
  rw [map_fav f st lb h]
  show ofGo _ [] [] = _
  rw [of_texts]
  have e : ([] ++ L.map fun c => (sideF f c (clsF f c) fav).flatten).flatten = favT f L fav := by
    unfold favT
    rw [← flat_map, List.map_map]
    rfl
  unfold withD
  rw [e]
  rfl
/-- Of conflicts and stable chunks alone: that side's text. -/
theorem fav_own {f : Fl} {L : List Ck} (hc : chF (0, 0, 0) none L (endP f)) (hg : ∀ c ∈ L, goodC f c) (h4 : ∀ c ∈ L, clsF f c = 0 ∨ clsF f c = 4) {fav : Int} (hf : fav = 1 ∨ fav = 3) : favT f L fav = (if fav = 1 then f.2.1 else f.2.2).flatten := by
  have hin := ch_in hc
  unfold favT
  congr 1
  rcases hf with rfl | rfl
  · rw [if_pos rfl, ← span_all cmpO hc (l := f.2.1) rfl]
    congr 1
    refine List.map_congr_left fun c hm => ?_
    rcases h4 c hm with h | h
    · rw [h]
      exact (good_same (hin c hm) (hg c hm) (cls_zero h)).1.symm
    · rw [h]; rfl
  · rw [if_neg (by decide), ← span_all cmpT hc (l := f.2.2) rfl]
    congr 1
    refine List.map_congr_left fun c hm => ?_
    rcases h4 c hm with h | h
    · rw [h]
      exact (good_same (hin c hm) (hg c hm) (cls_zero h)).2.symm
    · rw [h]; rfl
end Go.Proofs.Ytnhfobhdbablaaa
set_option linter.unusedSimpArgs false
set_option linter.unusedVariables false
set_option maxRecDepth 100000
set_option maxHeartbeats 2000000
namespace Go.Proofs.Ytnhfobhdbablaaa
open Go
attribute [local irreducible] AW AVle ASle RowLe
@[go_sem] theorem kCell_str (l : Array UInt8) : kCell (.string ⟨l⟩) = .st l.toList := rfl
theorem ends_drop (a : List UInt8) : (decide (1 ≤ (a.length : Int)) && decide (List.drop ((a.length : Int) - 1).toNat a = [10])) = endsL a := by
  unfold endsL
  have e : ((a.length : Int) - 1).toNat = a.length - 1 := by omega
  rw [e, Bool.eq_iff_iff]
  simp only [Bool.and_eq_true, decide_eq_true_eq]
  rcases a.eq_nil_or_concat with rfl | ⟨m, c, rfl⟩
  · simp
  · rw [List.concat_eq_append]
    have e2 : (m ++ [c]).length - 1 = m.length := by simp
    rw [e2, List.drop_left]
    simp
    omega
def sHasSufL : Spec := Spec.f2 kS kS (fun a b => a.length ≤ 100000000000 ∧ b = [10]) (fun a _ => kB.enc (endsL a))
theorem okHasSufL : SpecOK Try.prog 86 sHasSufL := by
  refine SpecOK.f2 Try.func86 rfl (by decide) Try.results86 Try.ntmps86 (by decide) fun a b ⟨ha, h⟩ => ?_
  have hΓ : GOK Try.prog (gam []) := GOK.nil
  subst h
  refine AW.of hΓ mixed [] _ _ _ rfl ?_
  simp only [go_sem]
  exact ⟨by omega, by omega, ends_drop a⟩
def sHasSuf : Spec := Spec.f2 kS kS (fun a b => a.length ≤ 100000000000 ∧ b = [10]) (fun a _ => kB.enc (endsL a))
theorem okHasSuf : SpecOK Try.prog 66 sHasSuf := by
  refine SpecOK.f2 Try.func66 rfl (by decide) Try.results66 Try.ntmps66 (by decide) fun a b ⟨ha, h⟩ => ?_
  have hΓ : GOK Try.prog (gam [(86, sHasSufL)]) := (.cons okHasSufL .nil)
  subst h
  refine AW.of hΓ mixed [] _ _ _ rfl ?_
  simp only [go_sem, sHasSufL]
  exact ha
theorem isText_iff (ll bl rl : BS) (h : Bool) (t l b r : BS) (hb : Bool) : isTextD (ll, bl, rl, h, t, l, b, r, hb) = true ↔ ll = [] ∧ bl = [] ∧ rl = [] ∧ h = false ∧ l = [] ∧ b = [] ∧ r = [] ∧ hb = false := by
  simp [isTextD, textP, txP]
def sIsText : Spec := Spec.f1 (kA ePt) (fun _ => True) (fun p => kB.enc (isTextD p))
theorem okIsText : SpecOK Try.prog 76 sIsText := by
  refine SpecOK.f1 Try.func76 rfl (by decide) Try.results76 Try.ntmps76 (by decide) fun p _ => ?_
  have hΓ : GOK Try.prog (gam []) := GOK.nil
  obtain ⟨ll, bl, rl, h, t, l, b, r, hb⟩ := p
  refine AW.of hΓ mixed [] _ _ _ rfl ?_
  simp only [go_sem]
  rw [Bool.eq_iff_iff, isText_iff]
  simp only [Bool.and_eq_true, decide_eq_true_eq, and_assoc]
def sRefText : Spec := Spec.f1 (kA ePt) (fun _ => True) (fun p => kB.enc (isTextD p))
theorem okRefText : SpecOK Try.prog 79 sRefText := by
  refine SpecOK.f1 Try.func79 rfl (by decide) Try.results79 Try.ntmps79 (by decide) fun p _ => ?_
  have hΓ : GOK Try.prog (gam []) := GOK.nil
  obtain ⟨ll, bl, rl, h, t, l, b, r, hb⟩ := p
  refine AW.of hΓ mixed [] _ _ _ rfl ?_
  simp only [go_sem]
  rw [Bool.eq_iff_iff, isText_iff]
  simp only [Bool.and_eq_true, decide_eq_true_eq, and_assoc]
theorem pt_le {ll bl rl : BS} {h : Bool} {t l b r : BS} {hb : Bool} {c : Nat → AV} (h0 : c 0 = .st ll) (h1 : c 1 = .st bl) (h2 : c 2 = .st rl) (h3 : c 3 = .val (.bool h)) (h4 : c 4 = .st t) (h5 : c 5 = .st l) (h6 : c 6 = .st b) (h7 : c 7 = .st r) (h8 : c 8 = .val (.bool hb)) :
    AVle (.ag 9 c) (.ag 9 (ePt.enc (ll, bl, rl, h, t, l, b, r, hb))) := AVle.ag fun j hj => AVle.of_eq (match j, hj with
  | 0, _ => h0
  | 1, _ => h1
  | 2, _ => h2
  | 3, _ => h3
  | 4, _ => h4
  | 5, _ => h5
  | 6, _ => h6
  | 7, _ => h7
  | 8, _ => h8)
def sPartD : Spec := Spec.f1 (kA ePt) (fun _ => True) (fun p => (kA ePt).enc p)
theorem okPartD : SpecOK Try.prog 56 sPartD := by
  refine SpecOK.f1 Try.func56 rfl (by decide) Try.results56 Try.ntmps56 (by decide) fun p _ => ?_
  have hΓ : GOK Try.prog (gam []) := GOK.nil
  obtain ⟨ll, bl, rl, h, t, l, b, r, hb⟩ := p
  refine AW.of hΓ mixed [] _ _ _ rfl ?_
  simp only [go_sem]
  exact pt_le rfl rfl rfl rfl rfl rfl rfl rfl rfl
def sOneD : Spec := Spec.f1 (kA ePt) (fun _ => True) (fun p => (kA ePt).enc p)
theorem okOneD : SpecOK Try.prog 52 sOneD := by
  refine SpecOK.f1 Try.func52 rfl (by decide) Try.results52 Try.ntmps52 (by decide) fun p _ => ?_
  have hΓ : GOK Try.prog (gam []) := GOK.nil
  obtain ⟨ll, bl, rl, h, t, l, b, r, hb⟩ := p
  refine AW.of hΓ mixed [] _ _ _ rfl ?_
  simp only [go_sem]
  exact pt_le rfl rfl rfl rfl rfl rfl rfl rfl rfl
theorem ptEq (x y : Pt) : (decide (x.1 = y.1) && (decide (x.2.1 = y.2.1) && (decide (x.2.2.1 = y.2.2.1) && (decide (x.2.2.2.1 = y.2.2.2.1) && (decide (x.2.2.2.2.1 = y.2.2.2.2.1) && (decide (x.2.2.2.2.2.1 = y.2.2.2.2.2.1) && (decide (x.2.2.2.2.2.2.1 = y.2.2.2.2.2.2.1) && (decide (x.2.2.2.2.2.2.2.1 = y.2.2.2.2.2.2.2.1) && decide (x.2.2.2.2.2.2.2.2 = y.2.2.2.2.2.2.2.2))))))))) = decide (x = y) := by
  obtain ⟨ll, bl, rl, h, t, l, b, r, hb⟩ := x
  obtain ⟨ll', bl', rl', h', t', l', b', r', hb'⟩ := y
  rw [Bool.eq_iff_iff]
  simp only [Bool.and_eq_true, decide_eq_true_eq, Prod.mk.injEq]
def sSameD : Spec := Spec.f2 (kL ePt) (kL ePt) (fun a b => a.length < 1000000000 ∧ b.length < 1000000000) (fun a b => kB.enc (decide (a = b)))
theorem okSameD : SpecOK Try.prog 16 sSameD := by
  refine SpecOK.f2 Try.func16 rfl (by decide) Try.results16 Try.ntmps16 (by decide) fun a b ⟨ha, hb⟩ => ?_
  have hΓ : GOK Try.prog (gam []) := GOK.nil
  refine AW.of hΓ mixed [] _ _ _ rfl ?_
  simp only [go_sem]
  refine ⟨fun h e => h (by rw [e]), fun h => ?_⟩
  have hab : a.length = b.length := by omega
  refine AW.round (α := { x : Nat × Nat // x.1 ≤ a.length ∧ ∀ k, k < x.1 → a.getD k ePt.dflt = b.getD k ePt.dflt })
    (fun x => ⟨[(0, sL ePt a), (1, sL ePt b), (5, .val (.int .i64 x.1.1))], [], 26, 0, x.1.2, []⟩) (fun x => a.length - x.1.1) ⟨(0, 0), Nat.zero_le _, fun k hk => absurd hk (Nat.not_lt_zero _)⟩ ?_ ?_
  · simp only [go_sem]
  · rintro ⟨⟨i, nx⟩, hi, he⟩
    simp only at hi he
    refine AW.of hΓ mixed [99999] _ _ _ rfl ?_
    simp only [go_sem]
    rw [ptEq]
    refine ⟨fun hlt => ⟨by omega, by omega, fun hn e => ?_, fun hn => ⟨by omega, ⟨(i + 1, nx), by dsimp only; omega, fun k hk => ?_⟩, ⟨Nat.le_refl _, by dsimp only; omega⟩, by dsimp only; omega⟩⟩, fun hge => ?_⟩
    · rw [e, decide_eq_true rfl] at hn
      cases hn
    · dsimp only at hk
      rcases Nat.lt_or_ge k i with h' | h'
      · exact he k h'
      · obtain rfl : k = i := by omega
        simpa using hn
    · exact list_ext_getD ePt.dflt hab fun k hk => he k (by omega)
theorem ptEqN (x y : Pt) : ((decide (x.1 = y.1) && (decide (x.2.1 = y.2.1) && decide (x.2.2.1 = y.2.2.1))) && (decide (x.2.2.2.1 = y.2.2.2.1) && (decide (x.2.2.2.2.1 = y.2.2.2.2.1) && (decide (x.2.2.2.2.2.1 = y.2.2.2.2.2.1) && (decide (x.2.2.2.2.2.2.1 = y.2.2.2.2.2.2.1) && (decide (x.2.2.2.2.2.2.2.1 = y.2.2.2.2.2.2.2.1) && decide (x.2.2.2.2.2.2.2.2 = y.2.2.2.2.2.2.2.2))))))) = decide (x = y) := by
  rw [← ptEq]
  simp only [Bool.and_assoc]
def sEqD : Spec := Spec.f2 (kL ePt) (kL ePt) (fun a b => a.length < 1000000000 ∧ b.length < 1000000000) (fun a b => kB.enc (decide (a = b)))
def sSameDD : Spec := Spec.f2 (kL ePt) (kL ePt) (fun a b => a.length < 1000000000 ∧ b.length < 1000000000) (fun a b => kB.enc (decide (a = b)))
def sToD : Spec := Spec.f1 (kL ePt) (fun l => l.length < 100000000) (fun l => sL ePt l)
theorem okToD : SpecOK Try.prog 28 sToD := by
  refine SpecOK.f1 Try.func28 rfl (by decide) Try.results28 Try.ntmps28 (by decide) fun l hl => ?_
  have hΓ : GOK Try.prog (gam [(56, sPartD)]) := (.cons okPartD .nil)
  refine AW.of hΓ mixed [] _ _ _ rfl ?_
  simp only [go_sem, sPartD]
  refine AW.adopt 3 62 9 (fun i => ePt.enc (([] : List Pt).getD i ePt.dflt)) rfl ?_
  refine AW.round (α := { x : Nat × Nat × Nat // x.1 ≤ l.length })
    (fun x => ⟨[(0, sL ePt l), (3, .ow 0 x.1.2.1 x.1.1), (4, .val (.int .i64 x.1.1))], [(0, rowL x.1.2.1 62 ePt (l.take x.1.1))], 20, 1, x.1.2.2, []⟩) (fun x => l.length - x.1.1) ⟨(0, 0, 1), Nat.zero_le _⟩ ?_ ?_
  · simp only [go_sem, sPartD]
    exact RowLe.refl _
  · rintro ⟨⟨i, v, nx⟩, hi⟩
    simp only at hi
    refine AW.of hΓ mixed [99999] _ _ _ rfl ?_
    simp only [go_sem, sPartD]
    refine ⟨fun hlt => ⟨by omega, by omega, by omega, ⟨(i + 1, nx, nx + 1), by dsimp only; omega⟩, ⟨Nat.le_refl _, ⟨⟨rfl, rfl⟩, by dsimp only; omega⟩, ?_⟩, by dsimp only; omega⟩, fun hge => ?_⟩
    · refine row_app1 (E := ePt) (x := l.getD i ePt.dflt) rfl (take_snoc l ePt.dflt (by omega)) (by simp; omega) rfl (by simp) fun j hj => AVle.refl _
    · obtain rfl : i = l.length := by omega
      rw [List.take_length]
      exact ⟨by simp, vw_all (E := ePt) rfl rfl rfl⟩
def sFromD : Spec := Spec.f1 (kL ePt) (fun l => l.length < 100000000) (fun l => sL ePt l)
theorem okFromD : SpecOK Try.prog 17 sFromD := by
  refine SpecOK.f1 Try.func17 rfl (by decide) Try.results17 Try.ntmps17 (by decide) fun l hl => ?_
  have hΓ : GOK Try.prog (gam [(52, sOneD)]) := (.cons okOneD .nil)
  refine AW.of hΓ mixed [] _ _ _ rfl ?_
  simp only [go_sem, sOneD]
  refine AW.adopt 3 24 9 (fun i => ePt.enc (([] : List Pt).getD i ePt.dflt)) rfl ?_
  refine AW.round (α := { x : Nat × Nat × Nat // x.1 ≤ l.length })
    (fun x => ⟨[(0, sL ePt l), (3, .ow 0 x.1.2.1 x.1.1), (4, .val (.int .i64 x.1.1))], [(0, rowL x.1.2.1 24 ePt (l.take x.1.1))], 20, 1, x.1.2.2, []⟩) (fun x => l.length - x.1.1) ⟨(0, 0, 1), Nat.zero_le _⟩ ?_ ?_
  · simp only [go_sem, sOneD]
    exact RowLe.refl _
  · rintro ⟨⟨i, v, nx⟩, hi⟩
    simp only at hi
    refine AW.of hΓ mixed [99999] _ _ _ rfl ?_
    simp only [go_sem, sOneD]
    refine ⟨fun hlt => ⟨by omega, by omega, by omega, ⟨(i + 1, nx, nx + 1), by dsimp only; omega⟩, ⟨Nat.le_refl _, ⟨⟨rfl, rfl⟩, by dsimp only; omega⟩, ?_⟩, by dsimp only; omega⟩, fun hge => ?_⟩
    · refine row_app1 (E := ePt) (x := l.getD i ePt.dflt) rfl (take_snoc l ePt.dflt (by omega)) (by simp; omega) rfl (by simp) fun j hj => AVle.refl _
    · obtain rfl : i = l.length := by omega
      rw [List.take_length]
      exact ⟨by simp, vw_all (E := ePt) rfl rfl rfl⟩
theorem sumT_mem {l : List Pt} {p : Pt} (h : p ∈ l) : (txP p).length ≤ sumT l := by
  induction l with
  | nil => cases h
  | cons t l ih =>
    have e : sumT (t :: l) = (txP t).length + sumT l := by simp [sumT]
    rcases List.mem_cons.1 h with rfl | h
    · omega
    · have := ih h
      omega
theorem pt_eta (p : Pt) : (p.1, p.2.1, p.2.2.1, p.2.2.2.1, p.2.2.2.2.1, p.2.2.2.2.2.1, p.2.2.2.2.2.2.1, p.2.2.2.2.2.2.2.1, p.2.2.2.2.2.2.2.2) = p := rfl
theorem stE_text {m : List Pt} {q : Pt} {x : BS} (hq : isTextD q = true) : ∀ i, i < m.length + 1 → ∀ j, j < 9 → AVle (stE (fun i => ePt.enc ((m ++ [q]).getD i ePt.dflt)) m.length 4 1 (fun _ => AV.st x) i j) (ePt.enc ((m ++ [textP x]).getD i ePt.dflt) j) := fun i hi j hj => by
  simp only [stE]
  by_cases e : i = m.length
  · subst e
    have e1 : ∀ c : Pt, (m ++ [c]).getD m.length ePt.dflt = c := fun c => by simp [List.getD]
    rw [e1, e1, isText_eq hq]
    match j, hj with
    | 0, _ => rw [if_neg (by omega)]; exact AVle.refl _
    | 1, _ => rw [if_neg (by omega)]; exact AVle.refl _
    | 2, _ => rw [if_neg (by omega)]; exact AVle.refl _
    | 3, _ => rw [if_neg (by omega)]; exact AVle.refl _
    | 4, _ => rw [if_pos ⟨rfl, by omega, by omega⟩]; exact AVle.refl _
    | 5, _ => rw [if_neg (by omega)]; exact AVle.refl _
    | 6, _ => rw [if_neg (by omega)]; exact AVle.refl _
    | 7, _ => rw [if_neg (by omega)]; exact AVle.refl _
    | 8, _ => rw [if_neg (by omega)]; exact AVle.refl _
  · rw [if_neg (fun h => e h.1)]
    have e3 : ∀ c : Pt, (m ++ [c]).getD i ePt.dflt = m.getD i ePt.dflt := fun c => by simp [List.getD, List.getElem?_append_left (show i < m.length by omega)]
    rw [e3, e3]
    exact AVle.refl _
theorem snocP (m : List Pt) (c d : Pt) : (m ++ [c]).getD m.length d = c := by simp [List.getD]
def sRefOf : Spec := Spec.f1 (kL ePt) (fun l => l.length < 100000000 ∧ sumT l ≤ 1000000000) (fun l => sL ePt (ofD l))
theorem okRefOf : SpecOK Try.prog 51 sRefOf := by
  refine SpecOK.f1 Try.func51 rfl (by decide) Try.results51 Try.ntmps51 (by decide) fun l ⟨hl, hs⟩ => ?_
  have hΓ : GOK Try.prog (gam [(79, sRefText)]) := (.cons okRefText .nil)
  refine AW.of hΓ mixed [] _ _ _ rfl ?_
  simp only [go_sem, sRefText]
  refine AW.adopt 3 24 9 (fun i => ePt.enc (([] : List Pt).getD i ePt.dflt)) rfl ?_
  refine AW.round (α := { x : Nat × List Pt × Nat × Nat // x.1 ≤ l.length ∧ x.2.1 = (l.take x.1).foldl joinR [] })
    (fun x => ⟨[(0, sL ePt l), (3, .ow 0 x.1.2.2.1 x.1.2.1.length), (4, .val (.int .i64 x.1.1))], [(0, rowL x.1.2.2.1 24 ePt x.1.2.1)], 69, 1, x.1.2.2.2, []⟩) (fun x => l.length - x.1.1) ⟨(0, [], 0, 1), Nat.zero_le _, rfl⟩ ?_ ?_
  · simp only [go_sem, sRefText]
    exact RowLe.refl _
  · rintro ⟨⟨i, out, v, nx⟩, hi, ho⟩
    simp only at hi ho
    rcases Nat.lt_or_ge i l.length with hlt | hge
    · have hsum := fold_sum (l.take i) []
      rw [← ho] at hsum
      have hst := sumT_take l i
      have hpl : (txP (l.getD i ePt.dflt)).length ≤ sumT l := by
        rw [gd_lt l _ hlt]
        exact sumT_mem (List.getElem_mem _)
      have hstep : (l.take (i + 1)).foldl joinR [] = joinR out (l.getD i ePt.dflt) := by
        rw [take_snoc l ePt.dflt hlt, List.foldl_append, ← ho]
        rfl
      have hlen : out.length ≤ i := by
        have := hsum.2
        simp at this
        omega
      have hlI : ((i : Int) < (l.length : Nat)) = True := eq_true (by omega)
      generalize hp : l.getD i ePt.dflt = p at *
      rcases out.eq_nil_or_concat with rfl | ⟨m, q, hms⟩
      · refine AW.of hΓ mixed [99999] _ _ _ rfl ?_
        simp only [go_sem, sRefText, hp, hlI, pt_eta]
        refine ⟨by omega, fun _ => by omega, fun h => ⟨by omega, ⟨(i + 1, [], v, nx), by dsimp only; omega, by dsimp only; rw [hstep, join_em h.1 h.2]⟩, ⟨Nat.le_refl _, ⟨⟨rfl, rfl⟩, by dsimp only; omega⟩, RowLe.refl _⟩, by dsimp only; omega⟩,
          fun h => ⟨by omega, by omega, by omega, ⟨(i + 1, [p], nx, nx + 1), by dsimp only; omega, by dsimp only; rw [hstep, joinR_nil fun hh => h hh.1 hh.2]⟩, ⟨Nat.le_refl _, ⟨⟨rfl, rfl⟩, by dsimp only; omega⟩, ?_⟩, by dsimp only; omega⟩⟩
        exact row_app1 (E := ePt) (l := []) (x := p) rfl rfl rfl rfl rfl fun j hj => AVle.refl _
      · rw [List.concat_eq_append] at hms
        subst hms
        have e1 : (((m.length + 1 : Nat) : Int) - 1) = (m.length : Int) := by omega
        have e2 : (0 ≤ (m.length : Int)) = True := eq_true (by omega)
        have e3 : (0 < ((m.length + 1 : Nat) : Int)) = True := eq_true (by omega)
        have hlm : m.length + 1 ≤ i := by simpa using hlen
        have hq : (txP q).length ≤ sumT l := by
          have h1 := sumT_app m [q]
          rw [sumT_one] at h1
          have h2 := hsum.1
          simp only [sumT, List.map_nil, List.sum_nil] at h2
          simp only [sumT] at *
          omega
        have hpq : (txP q).length + (txP p).length ≤ 9223372036854775807 := by omega
        refine AW.of hΓ mixed [99999] _ _ _ rfl ?_
        simp only [go_sem, sRefText, hp, hlI, e1, e2, e3, snocP, pt_eta]
        refine ⟨by omega, fun _ => by omega, fun h => ⟨by omega, ⟨(i + 1, m ++ [q], v, nx), by dsimp only; omega, by dsimp only; rw [hstep, join_em h.1 h.2]⟩, ⟨Nat.le_refl _, ⟨⟨rfl, by simp⟩, by dsimp only; omega⟩, RowLe.sl (by simp) fun _ _ _ _ => AVle.refl _⟩, by dsimp only; omega⟩,
          fun h => ⟨by omega, fun _ => by omega, fun _ => by omega, fun _ => by omega, fun h2 => ?_, fun h2 => ?_⟩⟩
        · have hj := join_two (m := m) h2.1 (h h2.1) h2.2
          refine ⟨by omega, by omega, by omega, by omega, by omega, hpq, by omega, by omega, by omega, ⟨(i + 1, m ++ [textP (txP q ++ txP p)], v, nx), by dsimp only; omega, by dsimp only; rw [hstep, hj]⟩, ⟨Nat.le_refl _, ⟨⟨rfl, by simp⟩, by dsimp only; omega⟩, ?_⟩, by dsimp only; omega⟩
          exact RowLe.sl (by simp) (stE_text h2.2)
        · have hj : joinR (m ++ [q]) p = m ++ [q] ++ [p] := by
            cases hp2 : isTextD p with
            | false => exact join_no hp2
            | true => exact join_new (fun hh => h hp2 hh.2) (h2 hp2)
          refine ⟨by omega, by omega, by omega, ⟨(i + 1, m ++ [q] ++ [p], nx, nx + 1), by dsimp only; omega, by dsimp only; rw [hstep, hj]⟩, ⟨Nat.le_refl _, ⟨⟨rfl, by simp⟩, by dsimp only; omega⟩, ?_⟩, by dsimp only; omega⟩
          exact row_app1 (E := ePt) (l := m ++ [q]) (x := p) rfl rfl (by simp) rfl (by simp) fun j hj => AVle.refl _
    · have hlI : ((i : Int) < (l.length : Nat)) = False := eq_false (by omega)
      obtain rfl : i = l.length := by omega
      refine AW.of hΓ mixed [99999] _ _ _ rfl ?_
      simp only [go_sem, sRefText, hlI]
      rw [List.take_length, ← ofD_eq] at ho
      rw [← ho]
      exact vw_all (E := ePt) rfl rfl rfl
end Go.Proofs.Ytnhfobhdbablaaa
namespace Go.Proofs
open Go.Shelf
def Try.lays156_ren : Go.Shelf.Ren := ⟨fun | 156 => 89 | 165 => 96 | 166 => 82 | 169 => 83 | 240 => 92 | 241 => 102 | 276 => 97 | 277 => 105 | n => n, fun | 31 => 28 | 9 => 9 | 3 => 3 | 4 => 4 | 0 => 0 | 20 => 20 | 72 => 125 | 76 => 128 | 70 => 122 | 37 => 123 | 75 => 127 | 127 => 136 | 164 => 144 | 5 => 5 | 80 => 130 | n => n, fun | n => n⟩
theorem Try.lays156 : Go.Proofs.Lays.n156 Try.prog Try.lays156_ren := {
  mixed := by kernel_rfl
  f156 := Try.func89.trans (congrArg some (by kernel_rfl))
  f165 := Try.func96.trans (congrArg some (by kernel_rfl))
  f166 := Try.func82.trans (congrArg some (by kernel_rfl))
  f169 := Try.func83.trans (congrArg some (by kernel_rfl))
  f240 := Try.func92.trans (congrArg some (by kernel_rfl))
  f241 := Try.func102.trans (congrArg some (by kernel_rfl))
  f276 := Try.func97.trans (congrArg some (by kernel_rfl))
  f277 := Try.func105.trans (congrArg some (by kernel_rfl))
  t0 := Try.underlying0
  a0 := Try.isAgg0
  z0 := Try.sizeOf0
  v0 := Try.zeroValue0
  t3 := Try.underlying3
  a3 := Try.isAgg3
  z3 := Try.sizeOf3
  v3 := Try.zeroValue3
  t4 := Try.underlying4
  a4 := Try.isAgg4
  z4 := Try.sizeOf4
  v4 := Try.zeroValue4
  t9 := Try.underlying9
  a9 := Try.isAgg9
  z9 := Try.sizeOf9
  v9 := Try.zeroValue9
  t20 := Try.underlying20
  a20 := Try.isAgg20
  z20 := Try.sizeOf20
  v20 := Try.zeroValue20
  t31 := Try.underlying28
  a31 := Try.isAgg28
  z31 := Try.sizeOf28
  v31 := Try.zeroValue28
  t37 := Try.underlying123
  a37 := Try.isAgg123
  z37 := Try.sizeOf123
  v37 := Try.zeroValue123
  t70 := Try.underlying122
  a70 := Try.isAgg122
  z70 := Try.sizeOf122
  v70 := Try.zeroValue122
  t72 := Try.underlying125
  a72 := Try.isAgg125
  z72 := Try.sizeOf125
  v72 := Try.zeroValue125
  t75 := Try.underlying127
  a75 := Try.isAgg127
  z75 := Try.sizeOf127
  v75 := Try.zeroValue127
  t76 := Try.underlying128
  a76 := Try.isAgg128
  z76 := Try.sizeOf128
  v76 := Try.zeroValue128
  t127 := Try.underlying136
  a127 := Try.isAgg136
  z127 := Try.sizeOf136
  v127 := Try.zeroValue136
  t164 := Try.underlying144
  a164 := Try.isAgg144
  z164 := Try.sizeOf144
  v164 := Try.zeroValue144 }
theorem Try.Builder_Extra_156 : Builder.Extra Try.prog Try.lays156_ren := {
  sizeBuilder := by kernel_rfl
  liesBuilder := by kernel_rfl
  t5 := Try.underlying5
  a5 := Try.isAgg5
  z5 := Try.sizeOf5
  v5 := Try.zeroValue5
  infoByte := by kernel_rfl
  cellsByte := by kernel_rfl
  sizeByte := by kernel_rfl
  neB5 := by decide }
open Go.RowKit in
theorem Try.strings_Join_none (a : Option Addr) (c : Nat) (sep : ByteArray) (w : World) :
    Calls Try.prog 89 #[.slice a 0 c, .string sep] w fun e w' => e = .returned (.string ⟨#[]⟩) ∧ w' = w := Any.strings_Join_none Try.lays156 Try.Builder_Extra_156 a c sep w
open Go.RowKit in
theorem Try.strings_Join (bk o c : Nat) (xs : List ByteArray) (sep : ByteArray) (w : World) (hcells : ∀ (j : Nat) x, xs[j]? = some x → w.cell? ⟨bk, o + j, none⟩ = some (.string x)) (hbk : bk < w.heap.size) (hN : xs.length ≤ 140737488355328) (hcap : xs.length ≤ c) (hlen : (Lib.join (xs.map (·.data.toList)) sep.data.toList).length ≤ 140737488355328) :
    Calls Try.prog 89 #[.slice (some ⟨bk, o, none⟩) xs.length c, .string sep] w fun e w' => e = .returned (.string ⟨(Lib.join (xs.map (·.data.toList)) sep.data.toList).toArray⟩) ∧ Below w.heap.size w w' := Any.strings_Join Try.lays156 Try.Builder_Extra_156 bk o c xs sep w hcells hbk hN hcap hlen
def Try.lays143_ren : Go.Shelf.Ren := ⟨fun | 143 => 87 | 219 => 95 | 217 => 98 | 225 => 99 | 224 => 100 | 267 => 101 | 266 => 103 | 314 => 104 | n => n, fun | 9 => 9 | 3 => 3 | 4 => 4 | 5 => 5 | 46 => 131 | 146 => 138 | 51 => 137 | n => n, fun | 1 => 0 | n => n⟩
theorem Try.lays143 : Go.Proofs.Lays.n143 Try.prog Try.lays143_ren := {
  mixed := by kernel_rfl
  f143 := Try.func87.trans (congrArg some (by kernel_rfl))
  f217 := Try.func98.trans (congrArg some (by kernel_rfl))
  f219 := Try.func95.trans (congrArg some (by kernel_rfl))
  f224 := Try.func100.trans (congrArg some (by kernel_rfl))
  f225 := Try.func99.trans (congrArg some (by kernel_rfl))
  f266 := Try.func103.trans (congrArg some (by kernel_rfl))
  f267 := Try.func101.trans (congrArg some (by kernel_rfl))
  f314 := Try.func104.trans (congrArg some (by kernel_rfl))
  t3 := Try.underlying3
  a3 := Try.isAgg3
  z3 := Try.sizeOf3
  v3 := Try.zeroValue3
  t4 := Try.underlying4
  a4 := Try.isAgg4
  z4 := Try.sizeOf4
  v4 := Try.zeroValue4
  t5 := Try.underlying5
  a5 := Try.isAgg5
  z5 := Try.sizeOf5
  v5 := Try.zeroValue5
  t9 := Try.underlying9
  a9 := Try.isAgg9
  z9 := Try.sizeOf9
  v9 := Try.zeroValue9
  t46 := Try.underlying131
  a46 := Try.isAgg131
  z46 := Try.sizeOf131
  v46 := Try.zeroValue131
  t51 := Try.underlying137
  a51 := Try.isAgg137
  z51 := Try.sizeOf137
  v51 := Try.zeroValue137
  t146 := Try.underlying138
  a146 := Try.isAgg138
  z146 := Try.sizeOf138
  v146 := Try.zeroValue138
  g1 := by kernel_rfl }
open Go.RowKit Go.Lib in
theorem Try.strings_Index_one (s : ByteArray) (c : UInt8) (w : World) :
    Calls Try.prog 87 #[.string s, .string ⟨#[c]⟩] w fun e w' => e = .returned (.int .i64 (Lib.indexByte s.data.toList c)) ∧ w' = w := Any.strings_Index_one Try.lays143 s c w
def Try.lays264_ren : Go.Shelf.Ren := ⟨fun | 264 => 94 | n => n, fun | 53 => 140 | 46 => 131 | n => n, fun | n => n⟩
theorem Try.lays264 : Go.Proofs.Lays.n264 Try.prog Try.lays264_ren := {
  mixed := by kernel_rfl
  f264 := Try.func94.trans (congrArg some (by kernel_rfl))
  t46 := Try.underlying131
  a46 := Try.isAgg131
  z46 := Try.sizeOf131
  v46 := Try.zeroValue131
  t53 := Try.underlying140
  a53 := Try.isAgg140
  z53 := Try.sizeOf140
  v53 := Try.zeroValue140 }
open Go.RowKit Go.Lib in
theorem Try.bits_Mul64 (x y : Nat) (hx : x < 18446744073709551616) (hy : y < 18446744073709551616) (w : World) :
    Calls Try.prog 94 #[.int .u64 x, .int .u64 y] w fun e w' => e = .returned (.tuple #[.int .u64 ((x * y / 18446744073709551616 : Nat) : Int), .int .u64 ((x * y % 18446744073709551616 : Nat) : Int)]) ∧ w' = w := Any.bits_Mul64 Try.lays264 x y hx hy w
def Try.lays212_ren : Go.Shelf.Ren := ⟨fun | 212 => 84 | 263 => 93 | 264 => 94 | n => n, fun | 46 => 131 | 51 => 137 | 146 => 138 | 53 => 140 | 148 => 141 | n => n, fun | n => n⟩
theorem Try.lays212 : Go.Proofs.Lays.n212 Try.prog Try.lays212_ren := {
  mixed := by kernel_rfl
  f212 := Try.func84.trans (congrArg some (by kernel_rfl))
  f263 := Try.func93.trans (congrArg some (by kernel_rfl))
  f264 := Try.func94.trans (congrArg some (by kernel_rfl))
  t46 := Try.underlying131
  a46 := Try.isAgg131
  z46 := Try.sizeOf131
  v46 := Try.zeroValue131
  t51 := Try.underlying137
  a51 := Try.isAgg137
  z51 := Try.sizeOf137
  v51 := Try.zeroValue137
  t53 := Try.underlying140
  a53 := Try.isAgg140
  z53 := Try.sizeOf140
  v53 := Try.zeroValue140
  t146 := Try.underlying138
  a146 := Try.isAgg138
  z146 := Try.sizeOf138
  v146 := Try.zeroValue138
  t148 := Try.underlying141
  a148 := Try.isAgg141
  z148 := Try.sizeOf141
  v148 := Try.zeroValue141 }
open Go.RowKit Go.Lib in
theorem Try.bits_Mul (x y : Nat) (hx : x < 18446744073709551616) (hy : y < 18446744073709551616) (w : World) :
    Calls Try.prog 84 #[.int .u64 x, .int .u64 y] w fun e w' => e = .returned (.tuple #[.int .u64 ((x * y / 18446744073709551616 : Nat) : Int), .int .u64 ((x * y % 18446744073709551616 : Nat) : Int)]) ∧ w' = w := Any.bits_Mul Try.lays212 x y hx hy w
end Go.Proofs
set_option linter.unusedSimpArgs false
set_option linter.unusedVariables false
set_option maxRecDepth 100000
namespace Go.Proofs.Ytnhfobhdbablaaa
open Go
attribute [local irreducible] AW AVle ASle RowLe

/-! ### the library's -/
def sIndex1 : Spec := Spec.f2 kS kS (fun _ b => b = [10]) (fun a _ => kI.enc (Lib.indexByte a 10))
theorem okIndex1 : SpecOK Try.prog 87 sIndex1 := by
  refine SpecOK.ss Try.func87 rfl (by decide) fun a b hd w => ?_
  subst hd
  refine (Try.strings_Index_one ⟨a.toArray⟩ 10 w).mono ?_
  rintro e w' ⟨rfl, rfl⟩
  exact ⟨_, rfl, Fr.refl _ _, fun _ => rfl⟩
def sCount1 : Spec := Spec.f2 kS kS (fun _ b => b = [10]) (fun a _ => kI.enc (a.count 10 : Nat))
/-! ### Split -/
theorem spA_step {r : List UInt8} (h : (10 : UInt8) ∈ r) : ∃ m : Nat, Lib.indexByte r 10 = m ∧ m + 1 ≤ r.length ∧ spA r = r.take (m + 1) :: spA (r.drop (m + 1)) ∧ (r.drop (m + 1)).count 10 + 1 = r.count 10 := by
  rcases idx_cases r with ⟨_, h'⟩ | ⟨p, q, rfl, hp, hm⟩
  · exact absurd h h'
  · have e0 : p ++ 10 :: q = (p ++ [10]) ++ q := by simp
    have el : p.length + 1 = (p ++ [10]).length := by simp
    have e1 : (p ++ 10 :: q).take (p.length + 1) = p ++ [10] := by rw [e0, el, List.take_left]
    have e2 : (p ++ 10 :: q).drop (p.length + 1) = q := by rw [e0, el, List.drop_left]
    refine ⟨p.length, hm, by simp, ?_, ?_⟩
    · rw [e1, e2, spA_cut p q hp]
    · rw [e2, List.count_append, List.count_eq_zero.2 hp]
      simp
def sGenSplit : Spec := Spec.f4 kS kS kI kI (fun s b k n => s.length ≤ 100000000 ∧ b = [10] ∧ k = 1 ∧ n = -1) (fun s _ _ _ => sL eS (spA s))
def sSplitAfter : Spec := Spec.f2 kS kS (fun s b => s.length ≤ 100000000 ∧ b = [10]) (fun s _ => sL eS (spA s))
def sSplit : Spec := Spec.f1 kS (fun s => s.length ≤ 100000000) (fun s => sL eS (splitL s))
/-! ### Join -/
/-- A list that can be looked at. -/
def okLs (l : List (List UInt8)) : Prop := l.length ≤ 100000000 ∧ l.flatten.length ≤ 100000000000
theorem flat_len (l : List (List UInt8)) (i : Nat) : (l.getD i []).length ≤ l.flatten.length := by
  rcases Nat.lt_or_ge i l.length with h | h
  · rw [gd_lt _ _ h]
    exact (List.sublist_flatten_of_mem (List.getElem_mem h)).length_le
  · simp [List.getD, List.getElem?_eq_none h]
theorem join_nil (xs : List (List UInt8)) : Lib.join xs [] = xs.flatten := by
  cases xs with
  | nil => rfl
  | cons x r => rw [Lib.join_cons]; simp [Lib.joinTail]
def sJoinS : Spec := Spec.f2 (kL eS) kS (fun l b => l.length ≤ 100000000 ∧ l.flatten.length ≤ 100000000000 ∧ b = []) (fun l _ => kS.enc l.flatten)
theorem okJoinS : SpecOK Try.prog 89 sJoinS := by
  refine SpecOK.raw Try.func89 rfl (by decide) fun args hp w L vs hL ha => ?_
  match args, hp with
  | [x, y], hp =>
    obtain ⟨h1, h2, h3, h4, h5⟩ := hp
    cases ha with
    | cons hx hr => cases hr with
      | cons hy hr => cases hr with
        | nil =>
          have ex := okGet h1 hx
          have ey := okGet h2 hy
          show Calls _ _ _ _ fun e w' => ∃ v, e = .returned v ∧ Fr (fun _ => False) w w' ∧ Rep w' noEnv L (kS.enc ((kL eS).dec x).flatten) v
          generalize (kL eS).dec x = l at *
          rw [h5] at ey
          obtain ⟨a, cap, rfl, hcap, hc⟩ := ex
          obtain rfl := ey
          rcases Nat.eq_zero_or_pos l.length with h0 | h0
          · rw [h0]
            refine (Try.strings_Join_none a cap ⟨#[]⟩ w).mono ?_
            rintro e w' ⟨rfl, rfl⟩
            have : l = [] := List.length_eq_zero_iff.1 h0
            subst this
            exact ⟨_, rfl, Fr.refl _ _, rfl⟩
          · obtain ⟨b, off, rfl, hb, hcells⟩ := hc h0 (by decide)
            have hget : ∀ (j : Nat) y, (l.map fun y => (⟨y.toArray⟩ : ByteArray))[j]? = some y → w.cell? ⟨b, off + j, none⟩ = some (.string y) := fun j y hj => by
              rw [List.getElem?_map] at hj
              cases hl : l[j]? with
              | none => rw [hl] at hj; cases hj
              | some z =>
                rw [hl] at hj
                simp only [Option.map_some, Option.some.injEq] at hj
                subst hj
                obtain ⟨hlt, _⟩ := List.getElem?_eq_some_iff.1 hl
                obtain ⟨u, hu, _, hrep⟩ := hcells j hlt 0 (by decide)
                have e : l.getD j eS.dflt = z := by simp [List.getD, hl]
                have hrep : Rep w noEnv L (eS.enc (l.getD j eS.dflt) 0) u := hrep
                rw [e] at hrep
                have : u = .string ⟨z.toArray⟩ := hrep
                subst this
                simpa [eS_sz] using hu
            have e1 : (l.map fun y => (⟨y.toArray⟩ : ByteArray)).map (·.data.toList) = l := by simp [Function.comp_def]
            have hbs : b < w.heap.size := by
              obtain ⟨u, hu, _⟩ := hcells 0 h0 0 (by decide)
              exact World.block_lt_of_cell? w _ hu
            have hJ := Try.strings_Join b off cap (l.map fun y => ⟨y.toArray⟩) ⟨#[]⟩ w hget hbs (by simp; omega) (by simpa using hcap) (by rw [e1]; show (Lib.join l []).length ≤ _; rw [join_nil]; omega)
            rw [e1, List.length_map] at hJ
            refine hJ.mono ?_
            rintro e w' ⟨rfl, hbel⟩
            refine ⟨_, rfl, Fr.of_below hbel _, ?_⟩
            show Value.string ⟨(Lib.join l []).toArray⟩ = .string ⟨l.flatten.toArray⟩
            rw [join_nil]
def sJoin : Spec := Spec.f1 (kL eS) okLs (fun l => kS.enc l.flatten)
theorem okJoin : SpecOK Try.prog 75 sJoin := by
  refine SpecOK.f1 Try.func75 rfl (by decide) Try.results75 Try.ntmps75 (by decide) fun l ⟨h1, h2⟩ => ?_
  have hΓ : GOK Try.prog (gam [(89, sJoinS)]) := (.cons okJoinS .nil)
  refine AW.of hΓ mixed [] _ _ _ rfl ?_
  simp only [go_sem, sJoinS]
  exact ⟨h1, h2⟩
/-! ### Whole -/
theorem whole_step (l : List (List UInt8)) (i : Nat) (hi : i < l.length) :
    ((¬(0 ≤ Lib.indexByte (l.getD i []) 10 ∧ Lib.indexByte (l.getD i []) 10 = ((l.getD i []).length : Int) - 1) ∧ ¬(Lib.indexByte (l.getD i []) 10 < 0 ∧ l.getD i [] ≠ [] ∧ (i : Int) = (l.length : Int) - 1)) → wholeL l = false) ∧
    (((0 ≤ Lib.indexByte (l.getD i []) 10 ∧ Lib.indexByte (l.getD i []) 10 = ((l.getD i []).length : Int) - 1) ∨ (Lib.indexByte (l.getD i []) 10 < 0 ∧ l.getD i [] ≠ [] ∧ (i : Int) = (l.length : Int) - 1)) → oneL (l.getD i []) = true ∧ (i + 1 < l.length → endsL (l.getD i []) = true)) := by
  have hw := wholeL_iff l
  generalize hx : l.getD i [] = x
  rcases idx_cases x with ⟨h1, h2⟩ | ⟨p, r, rfl, h2, h1⟩
  · rw [h1]
    refine ⟨fun ⟨_, h⟩ => ?_, fun h => ?_⟩
    · refine Bool.eq_false_iff.2 fun hh => ?_
      have := hw.1 hh i hi
      rw [hx, oneL_no x h2, endsL_no x h2] at this
      exact h ⟨by omega, by simpa using this.1, by
        rcases Nat.lt_or_ge (i + 1) l.length with h' | h'
        · exact absurd (this.2 h') (by decide)
        · omega⟩
    · rcases h with h | ⟨_, h3, h4⟩
      · omega
      · exact ⟨by rw [oneL_no x h2]; simpa using h3, fun h => by omega⟩
  · rw [h1]
    have e : ((p ++ 10 :: r).length : Int) = p.length + 1 + r.length := by simp; omega
    refine ⟨fun ⟨h, _⟩ => ?_, fun h => ?_⟩
    · refine Bool.eq_false_iff.2 fun hh => ?_
      have := hw.1 hh i hi
      rw [hx, oneL_cut p r h2] at this
      obtain rfl : r = [] := by simpa using this.1
      exact h ⟨by omega, by rw [e]; simp⟩
    · rcases h with ⟨_, h⟩ | ⟨h, _⟩
      · obtain rfl : r = [] := List.length_eq_zero_iff.1 (by omega)
        exact ⟨by rw [oneL_cut p [] h2]; rfl, fun _ => by simp [endsL]⟩
      · omega
def sWhole : Spec := Spec.f1 (kL eS) okLs (fun l => kB.enc (wholeL l))
end Go.Proofs.Ytnhfobhdbablaaa
set_option linter.unusedSimpArgs false
set_option linter.unusedVariables false
set_option maxRecDepth 100000
namespace Go.Proofs.Ytnhfobhdbablaaa
open Go
attribute [local irreducible] AW AVle ASle RowLe

/-! ### Run -/
def sRun : Spec := Spec.f1 kS (fun l => l.length ≤ 100000000000) (fun l => kI.enc (runL l))
def sIndexByte : Spec := Spec.f2 kS kU (fun _ _ => True) (fun a c => kI.enc (Lib.indexByte a c.toNat.toUInt8))
theorem ix_iff (c : UInt8) : Lib.indexByte [60, 124, 61, 62] c.toNat.toUInt8 < 0 ↔ ¬ (c = 60 ∨ c = 124 ∨ c = 61 ∨ c = 62) := by
  have e : c.toNat.toUInt8 = c := by simp
  rw [e]
  constructor
  · intro h0 h1
    rcases h1 with rfl | rfl | rfl | rfl <;> exact absurd h0 (by decide)
  · intro h0
    rcases Int.lt_or_le (Lib.indexByte [60, 124, 61, 62] c) 0 with h1 | h1
    · exact h1
    · obtain ⟨o, ho⟩ := Int.eq_ofNat_of_zero_le h1
      have := (Lib.indexByte_some (o := o) ho).1
      have hm := List.mem_of_getElem? this
      simp only [List.mem_cons, List.not_mem_nil, or_false] at hm
      exact absurd hm h0
theorem run_head (l : List UInt8) (h : l ≠ []) : (Lib.indexByte [60, 124, 61, 62] (l.getD 0 0).toNat.toUInt8 < 0 → runL l = 0) ∧
    (¬ Lib.indexByte [60, 124, 61, 62] (l.getD 0 0).toNat.toUInt8 < 0 → ∀ n, 1 ≤ n → n ≤ l.length → (∀ k, k < n → l.getD k 0 = l.getD 0 0) → (n < l.length → l.getD n 0 ≠ l.getD 0 0) → n = runL l) := by
  cases l with
  | nil => exact absurd rfl h
  | cons c r =>
    have e : ∀ c : UInt8, c.toNat.toUInt8 = c := fun c => by simp
    simp only [List.getD_cons_zero, e]
    have hc : Lib.indexByte [60, 124, 61, 62] c < 0 ↔ ¬ (c = 60 ∨ c = 124 ∨ c = 61 ∨ c = 62) := by
      constructor
      · intro h0 h1
        rcases h1 with rfl | rfl | rfl | rfl <;> exact absurd h0 (by decide)
      · intro h0
        rcases Int.lt_or_le (Lib.indexByte [60, 124, 61, 62] c) 0 with h1 | h1
        · exact h1
        · obtain ⟨o, ho⟩ := Int.eq_ofNat_of_zero_le h1
          have := (Lib.indexByte_some (o := o) ho).1
          have hm := List.mem_of_getElem? this
          simp only [List.mem_cons, List.not_mem_nil, or_false] at hm
          exact absurd hm h0
    refine ⟨fun h0 => ?_, fun h0 n h1 h2 h3 h4 => ?_⟩
    · rw [runL, if_neg (hc.1 h0)]
    · rw [runL, if_pos (Decidable.not_not.1 fun hh => h0 (hc.2 hh))]
      obtain ⟨m, rfl⟩ : ∃ m, n = m + 1 := ⟨n - 1, by omega⟩
      rw [takeWhile_at c r m (by simpa using h2) (fun k hk => by simpa using h3 (k + 1) (by omega)) (fun hm => by simpa using h4 (by simpa using hm))]
      omega
def sRefRun : Spec := Spec.f1 kS (fun l => l.length ≤ 100000000000) (fun l => kI.enc (runL l))
theorem longL_snoc (l : List (List UInt8)) (x : List UInt8) : longL (l ++ [x]) = max (longL l) (runL x) := by
  unfold longL
  rw [List.foldl_append]
  rfl
theorem longL_app (l m : List (List UInt8)) : longL (l ++ m) = max (longL l) (longL m) := by
  have h : ∀ (m : List (List UInt8)) (n : Nat), m.foldl (fun n x => max n (runL x)) n = max n (longL m) := by
    intro m
    induction m with
    | nil => intro n; simp [longL]
    | cons x m ih => intro n; simp only [longL, List.foldl_cons]; rw [ih, ih]; omega
  unfold longL
  rw [List.foldl_append, h]
  rfl
def sLongest : Spec := Spec.f1 (kL (eL eS)) (fun l => l.length ≤ 100000000 ∧ ∀ f ∈ l, okLs f) (fun l => kI.enc (longL l.flatten))
def sRefLongest : Spec := Spec.f1 (kL eS) okLs (fun l => kI.enc (longL l))
theorem split_step {s : List UInt8} {a i : Nat} (h1 : a ≤ i) (h2 : i < s.length) (h3 : ∀ k, a ≤ k → k < i → s.getD k 0 ≠ 10) (h4 : s.getD i 0 = 10 ∨ i + 1 = s.length) :
    splitL (s.drop a) = (s.take (i + 1)).drop a :: splitL (s.drop (i + 1)) := by
  have e1 : s.drop a = (s.take i).drop a ++ s.getD i 0 :: s.drop (i + 1) := by
    have : s = s.take i ++ s.getD i 0 :: s.drop (i + 1) := by
      rw [gd_lt _ _ h2, ← List.drop_eq_getElem_cons h2, List.take_append_drop]
    conv => lhs; rw [this]
    rw [List.drop_append_of_le_length (by simp; omega)]
  have e2 : (s.take (i + 1)).drop a = (s.take i).drop a ++ [s.getD i 0] := by
    rw [take_snoc s 0 h2, List.drop_append_of_le_length (by simp; omega)]
  have hno : (10 : UInt8) ∉ (s.take i).drop a := by
    intro hm
    obtain ⟨k, hk, hx⟩ := List.mem_iff_getElem.1 hm
    simp only [List.length_drop, List.length_take] at hk
    rw [List.getElem_drop, List.getElem_take] at hx
    exact h3 (a + k) (by omega) (by omega) (by rw [gd_lt _ _ (by omega)]; exact hx)
  rw [e1, e2]
  by_cases hc : s.getD i 0 = 10
  · rw [hc, splitL_cut _ _ hno]
  · have hl : i + 1 = s.length := h4.resolve_left hc
    rw [hl, List.drop_length]
    have : (10 : UInt8) ∉ (s.take i).drop a ++ [s.getD i 0] := by
      simp only [List.mem_append, List.mem_singleton, not_or]
      exact ⟨hno, fun h => hc h.symm⟩
    rw [splitL_one _ this (by simp)]
    rfl
def sRefSplit : Spec := Spec.f1 kS (fun l => l.length ≤ 100000000) (fun l => sL eS (splitL l))
theorem okRefSplit : SpecOK Try.prog 35 sRefSplit := by
  refine SpecOK.f1 Try.func35 rfl (by decide) Try.results35 Try.ntmps35 (by decide) fun s hs => ?_
  have hΓ : GOK Try.prog (gam []) := GOK.nil
  refine AW.of hΓ mixed [] _ _ _ rfl ?_
  simp only [go_sem]
  refine AW.adopt 3 9 1 (fun _ _ => .any) rfl ?_
  refine AW.round (α := { x : Nat × Nat × List (List UInt8) × Nat × Nat // x.2.1 ≤ x.1 ∧ x.1 ≤ s.length ∧ x.2.2.1 ++ splitL (s.drop x.2.1) = splitL s ∧ (∀ k, x.2.1 ≤ k → k < x.1 → s.getD k 0 ≠ 10) ∧ (x.1 = s.length → x.2.1 = s.length) ∧ x.2.2.1.length ≤ x.1 })
    (fun x => ⟨[(0, .st s), (3, .ow 0 x.1.2.2.2.1 x.1.2.2.1.length), (4, .val (.int .i64 x.1.2.1)), (5, .val (.int .i64 x.1.1))], [(0, rowL x.1.2.2.2.1 9 eS x.1.2.2.1)], 34, 1, x.1.2.2.2.2, []⟩) (fun x => s.length - x.1.1) ⟨(0, 0, [], 0, 1), by simp⟩ ?_ ?_
  · simp only [go_sem]
    exact row_nil rfl
  · rintro ⟨⟨i, from_, out, v, nx⟩, h1, h2, h3, h4, h5, h6⟩
    simp only at h1 h2 h3 h4 h5 h6
    refine AW.of hΓ mixed [99999] _ _ _ rfl ?_
    simp only [go_sem]
    refine ⟨fun hil => ?_, fun hil => ?_⟩
    · have hlt : i < s.length := by omega
      refine ⟨by omega, fun _ => by omega, fun h => by simpa using h, fun hb => ?_, fun hb => ?_⟩
      · have hst := split_step h1 hlt h4 (by simp only [Bool.or_eq_true, decide_eq_true_eq] at hb; rcases hb with hb | hb; exact .inl hb; exact .inr (by omega))
        refine ⟨by omega, by omega, by omega, by omega, by omega, ⟨(i + 1, i + 1, out ++ [(s.take (i + 1)).drop from_], nx, nx + 1), ?_⟩, ⟨Nat.le_refl _, ⟨⟨rfl, by simp⟩, by dsimp only; omega, by dsimp only; omega⟩, ?_⟩, by dsimp only; omega⟩
        · dsimp only
          refine ⟨Nat.le_refl _, by omega, ?_, fun k ha hb => by omega, fun h => h, by simp; omega⟩
          rw [← h3, hst]
          simp
        · exact row_app1 rfl rfl rfl rfl (by simp) fun _ _ => AVle.refl _
      · simp only [Bool.or_eq_false_iff, decide_eq_false_iff_not] at hb
        refine ⟨by omega, ⟨(i + 1, from_, out, v, nx), ?_⟩, ⟨Nat.le_refl _, ⟨⟨rfl, rfl⟩, rfl, by dsimp only; omega⟩, RowLe.refl _⟩, by dsimp only; omega⟩
        dsimp only
        refine ⟨by omega, by omega, h3, fun k ha hk => ?_, fun h => by omega, by omega⟩
        rcases Nat.lt_or_ge k i with h' | h'
        · exact h4 k ha h'
        · obtain rfl : k = i := by omega
          exact hb.1
    · obtain rfl : i = s.length := by omega
      obtain rfl := h5 rfl
      rw [List.drop_length] at h3
      have h3 : out = splitL s := by simpa [splitL] using h3
      rw [h3]
      exact vw_all rfl rfl rfl
def sRefJoin : Spec := Spec.f1 (kL eS) okLs (fun l => kS.enc l.flatten)
theorem okRefJoin : SpecOK Try.prog 24 sRefJoin := by
  refine SpecOK.f1 Try.func24 rfl (by decide) Try.results24 Try.ntmps24 (by decide) fun l ⟨hl, hf⟩ => ?_
  have hΓ : GOK Try.prog (gam []) := GOK.nil
  refine AW.of hΓ mixed [] _ _ _ rfl ?_
  simp only [go_sem]
  refine AW.round (α := { i : Nat // i ≤ l.length }) (fun i => ⟨[(0, sL eS l), (3, .st (l.take i.1).flatten), (4, .val (.int .i64 i.1))], [], 18, 0, 0, []⟩) (fun i => l.length - i.1) ⟨0, by simp⟩ ?_ ?_
  · simp only [go_sem]
    rfl
  · rintro ⟨i, hi⟩
    refine AW.of hΓ mixed [99999] _ _ _ rfl ?_
    simp only [go_sem]
    refine ⟨fun hil => ?_, fun hil => ?_⟩
    · have hlt : i < l.length := by omega
      have hft : (l.take (i + 1)).flatten = (l.take i).flatten ++ l.getD i [] := by rw [take_snoc l [] hlt]; simp
      have hle : l.flatten = (l.take (i + 1)).flatten ++ (l.drop (i + 1)).flatten := by rw [← List.flatten_append, List.take_append_drop]
      have hle := congrArg List.length hle
      rw [hft, List.length_append, List.length_append] at hle
      exact ⟨by omega, by omega, by omega, ⟨i + 1, by omega⟩, ⟨by dsimp only; rw [hft], by dsimp only; omega⟩, by dsimp only; omega⟩
    · obtain rfl : i = l.length := by omega
      rw [List.take_length]
def sRefEnds : Spec := Spec.f1 kS (fun l => l.length ≤ 100000000000) (fun l => kB.enc (endsL l))
theorem okRefEnds : SpecOK Try.prog 68 sRefEnds := by
  refine SpecOK.f1 Try.func68 rfl (by decide) Try.results68 Try.ntmps68 (by decide) fun l hl => ?_
  have hΓ : GOK Try.prog (gam []) := GOK.nil
  refine AW.of hΓ mixed [] _ _ _ rfl ?_
  simp only [go_sem]
  refine ⟨fun _ => by omega, fun _ => by omega, ?_⟩
  unfold endsL
  rcases Nat.eq_zero_or_pos l.length with h | h
  · obtain rfl := List.length_eq_zero_iff.1 h
    rfl
  · have e : ((l.length : Int) - 1).toNat = l.length - 1 := by omega
    rw [e, List.getLast?_eq_getElem?, gd_lt _ _ (by omega), List.getElem?_eq_getElem (by omega)]
    simp [h]
end Go.Proofs.Ytnhfobhdbablaaa
set_option linter.unusedSimpArgs false
set_option linter.unusedVariables false
set_option maxRecDepth 100000
set_option maxHeartbeats 2000000
namespace Go.Proofs.Ytnhfobhdbablaaa
open Go
attribute [local irreducible] AW AVle ASle RowLe
def sContains : Spec := Spec.f2 kS kS (fun _ b => b = [10]) (fun a _ => kB.enc (!plainB a))
theorem okContains : SpecOK Try.prog 72 sContains := by
  refine SpecOK.f2 Try.func72 rfl (by decide) Try.results72 Try.ntmps72 (by decide) fun a b h => ?_
  have hΓ : GOK Try.prog (gam [(87, sIndex1)]) := (.cons okIndex1 .nil)
  subst h
  refine AW.of hΓ mixed [] _ _ _ rfl ?_
  simp only [go_sem, sIndex1]
  exact plain_ix a
def sPlainL : Spec := Spec.f1 (kA eLb) (fun l => l.1.length ≤ 1000000000 ∧ l.2.1.length ≤ 1000000000 ∧ l.2.2.length ≤ 1000000000) (fun l => kB.enc (plainB l.1 && (plainB l.2.1 && plainB l.2.2)))
theorem okPlainL : SpecOK Try.prog 42 sPlainL := by
  refine SpecOK.f1 Try.func42 rfl (by decide) Try.results42 Try.ntmps42 (by decide) fun l ⟨h1, h2, h3⟩ => ?_
  have hΓ : GOK Try.prog (gam [(72, sContains)]) := (.cons okContains .nil)
  obtain ⟨a, b, c⟩ := l
  simp only at h1 h2 h3
  refine AW.of hΓ mixed [] _ _ _ rfl ?_
  simp only [go_sem, sContains, plain_app]
  refine ⟨by omega, by omega, ?_⟩
  rw [Bool.not_not, Bool.and_assoc]
def okPt (p : Pt) : Prop := (p.1.length ≤ 1000000000 ∧ p.2.1.length ≤ 1000000000 ∧ p.2.2.1.length ≤ 1000000000) ∧ (txP p).length ≤ 100000000 ∧ p.2.2.2.2.2.1.length ≤ 100000000 ∧ p.2.2.2.2.2.2.1.length ≤ 100000000 ∧ p.2.2.2.2.2.2.2.1.length ≤ 100000000
def sIsConf : Spec := Spec.f1 (kA ePt) okPt (fun p => kB.enc (confD p))
theorem okIsConf : SpecOK Try.prog 53 sIsConf := by
  refine SpecOK.f1 Try.func53 rfl (by decide) Try.results53 Try.ntmps53 (by decide) fun p ⟨⟨h1, h2, h3⟩, _⟩ => ?_
  have hΓ : GOK Try.prog (gam [(42, sPlainL)]) := (.cons okPlainL .nil)
  obtain ⟨ll, bl, rl, h, t, l, b, r, hb⟩ := p
  simp only at h1 h2 h3
  refine AW.of hΓ mixed [] _ _ _ rfl ?_
  simp only [go_sem, sPlainL]
  refine ⟨fun h h' => ?_, fun _ => ⟨h1, h2, h3⟩, ?_⟩
  · rw [h.1, h.2, h']
    rfl
  · unfold confD plainD
    simp only [Bool.and_assoc]
def sAhead : Spec := Spec.f2 (kA ePt) kB (fun p _ => okPt p) (fun p b => kB.enc (aheadD p b))
theorem okAhead : SpecOK Try.prog 54 sAhead := by
  refine SpecOK.f2 Try.func54 rfl (by decide) Try.results54 Try.ntmps54 (by decide) fun p an ⟨_, h1, _⟩ => ?_
  have hΓ : GOK Try.prog (gam [(76, sIsText), (66, sHasSuf)]) := (.cons okIsText (.cons okHasSuf .nil))
  obtain ⟨ll, bl, rl, h, t, l, b, r, hb⟩ := p
  simp only [txP] at h1
  refine AW.of hΓ mixed [] _ _ _ rfl ?_
  simp only [go_sem, sIsText, sHasSuf]
  refine ⟨fun _ => by omega, fun h h' => ?_, ?_⟩
  · rw [h.1, decide_eq_true h.2]
    simpa using h'
  · unfold aheadD
    simp only [Bool.and_assoc]
theorem right_no {l : List Pt} {i : Nat} (h : i < l.length) (h2 : okAt l i = false) : rightD l = false := decide_eq_false fun hh => by
  rw [hh i h] at h2
  cases h2
theorem right_yes {l : List Pt} (h : ∀ i, i < l.length → okAt l i = true) : rightD l = true := decide_eq_true h
def sRightD : Spec := Spec.f1 (kL ePt) (fun l => l.length < 100000000 ∧ ∀ p ∈ l, okPt p) (fun l => kB.enc (rightD l))
theorem okRightD : SpecOK Try.prog 21 sRightD := by
  refine SpecOK.f1 Try.func21 rfl (by decide) Try.results21 Try.ntmps21 (by decide) fun l ⟨hl, hp⟩ => ?_
  have hΓ : GOK Try.prog (gam [(53, sIsConf), (54, sAhead)]) := (.cons okIsConf (.cons okAhead .nil))
  refine AW.of hΓ mixed [] _ _ _ rfl ?_
  simp only [go_sem, sIsConf, sAhead]
  refine AW.round (α := { x : Nat × Nat × Nat // x.1 ≤ l.length ∧ ∀ k, k < x.1 → okAt l k = true })
    (fun x => ⟨[(0, sL ePt l), (5, sL ePt l), (6, .val (.int .i64 l.length)), (7, .val (.int .i64 x.1.1))], [], 42, x.1.2.2, x.1.2.1, []⟩) (fun x => l.length - x.1.1) ⟨(0, 0, 0), Nat.zero_le _, fun k hk => absurd hk (Nat.not_lt_zero _)⟩ ?_ ?_
  · simp only [go_sem, sIsConf, sAhead]
  · rintro ⟨⟨i, nx, tp⟩, hi, hk⟩
    simp only at hi hk
    rcases Nat.lt_or_ge i l.length with hlt | hge
    · have hlI : ((i : Int) < (l.length : Nat)) = True := eq_true (by omega)
      have e1 : ((i : Int) - 1).toNat = i - 1 := by omega
      have e2 : ((i : Int) < (l.length : Nat) - 1) = (i + 1 < l.length) := propext (by omega)
      have e3 : (0 < (i : Int)) = (0 < i) := propext (by omega)
      have hok : okAt l i = ((hkP (l.getD i ePt.dflt) || (decide (i = 0) || hkP (l.getD (i - 1) ePt.dflt))) && (confD (l.getD i ePt.dflt) || aheadD (l.getD i ePt.dflt) (decide (i + 1 < l.length)))) := rfl
      have hpi : okPt (l.getD i ePt.dflt) := by
        rw [gd_lt l _ hlt]
        exact hp _ (List.getElem_mem _)
      generalize hpe : l.getD i ePt.dflt = p at *
      refine AW.of hΓ mixed [99999] _ _ _ rfl ?_
      simp only [go_sem, sIsConf, sAhead, hlI, e1, e2, e3, hpe, pt_eta]
      generalize hqe : l.getD (i - 1) ePt.dflt = q at *
      refine ⟨by omega, fun _ => by omega, fun _ => by omega, fun h => ?_, fun h => ⟨hpi, fun _ => by omega, fun _ => hpi, fun h2 => ?_, fun h2 => ⟨by omega, ⟨(i + 1, nx + 1, 0), by dsimp only; omega, fun k hk' => ?_⟩, ⟨Nat.le_refl _, by dsimp only; omega⟩, by dsimp only; omega⟩⟩⟩
      · refine (right_no hlt ?_).symm
        obtain ⟨⟨h1, h2⟩, h3⟩ := h
        simp only [Bool.not_eq_true'] at h1 h3
        rw [hok]
        simp only [hkP, h1, h3, decide_eq_false (show ¬ i = 0 by omega)]
        rfl
      · refine (right_no hlt ?_).symm
        simp only [Bool.not_eq_true'] at h2
        rw [hok, h2.1, h2.2, Bool.or_self, Bool.and_false]
      · dsimp only at hk'
        rcases Nat.lt_or_ge k i with h' | h'
        · exact hk k h'
        · obtain rfl : k = i := by omega
          rw [hok, Bool.and_eq_true]
          refine ⟨?_, ?_⟩
          · simp only [hkP, Bool.or_eq_true, decide_eq_true_eq]
            by_cases c : p.2.2.2.1 = true
            · exact .inl c
            · by_cases c2 : k = 0
              · exact .inr (.inl c2)
              · have := h ⟨by simpa using c, by omega⟩
                exact .inr (.inr (by simpa using this))
          · cases c : confD p with
            | true => rfl
            | false =>
              have := h2 (by rw [c]; rfl)
              simpa using this
    · have hlI : ((i : Int) < (l.length : Nat)) = False := eq_false (by omega)
      refine AW.of hΓ mixed [99999] _ _ _ rfl ?_
      simp only [go_sem, sIsConf, sAhead, hlI]
      exact (right_yes fun k hk' => hk k (by omega)).symm
theorem confl_snoc (l : List Pt) (p : Pt) : conflD (l ++ [p]) = conflD l + if p.2.2.2.1 = true then 1 else 0 := by
  unfold conflD
  rw [List.filter_append, List.length_append]
  cases h : p.2.2.2.1 with
  | true => simp [hkP, h]
  | false => simp [hkP, h]
theorem confl_le (l : List Pt) : conflD l ≤ l.length := List.length_filter_le _ _
def sConflD : Spec := Spec.f1 (kL ePt) (fun l => l.length < 100000000) (fun l => kI.enc (conflD l))
theorem okConflD : SpecOK Try.prog 22 sConflD := by
  refine SpecOK.f1 Try.func22 rfl (by decide) Try.results22 Try.ntmps22 (by decide) fun l hl => ?_
  have hΓ : GOK Try.prog (gam []) := GOK.nil
  refine AW.of hΓ mixed [] _ _ _ rfl ?_
  simp only [go_sem]
  refine AW.round (α := { x : Nat × Nat × Nat // x.1 ≤ l.length })
    (fun x => ⟨[(3, .val (.int .i64 (conflD (l.take x.1.1)))), (6, sL ePt l), (7, .val (.int .i64 l.length)), (8, .val (.int .i64 x.1.1))], [], 18, x.1.2.2, x.1.2.1, []⟩) (fun x => l.length - x.1.1) ⟨(0, 0, 0), Nat.zero_le _⟩ ?_ ?_
  · simp only [go_sem]
    rfl
  · rintro ⟨⟨i, nx, tp⟩, hi⟩
    simp only at hi
    refine AW.of hΓ mixed [99999] _ _ _ rfl ?_
    simp only [go_sem]
    have hc := confl_le (l.take i)
    rw [List.length_take] at hc
    refine ⟨fun hlt => ?_, fun hge => ?_⟩
    · have e := confl_snoc (l.take i) (l.getD i ePt.dflt)
      rw [← take_snoc l ePt.dflt (by omega)] at e
      refine ⟨by omega, fun h => ⟨by omega, by omega, ⟨(i + 1, nx + 1, 0), by dsimp only; omega⟩, ⟨Nat.le_refl _, ?_, by dsimp only; omega⟩, by dsimp only; omega⟩, fun h => ⟨by omega, ⟨(i + 1, nx + 1, 0), by dsimp only; omega⟩, ⟨Nat.le_refl _, ?_, by dsimp only; omega⟩, by dsimp only; omega⟩⟩
      · dsimp only
        rw [e, if_pos h]
        omega
      · dsimp only
        rw [e, if_neg (by rw [h]; exact Bool.false_ne_true)]
        omega
    · obtain rfl : i = l.length := by omega
      rw [List.take_length]
theorem foldMax_le {α : Type} {m : Nat} (f : α → Nat) : ∀ (l : List α) (n : Nat), n ≤ m → (∀ x ∈ l, f x ≤ m) → l.foldl (fun n x => max n (f x)) n ≤ m
  | [], n, h, _ => h
  | x :: l, n, h, h2 => foldMax_le f l (max n (f x)) (Nat.max_le.2 ⟨h, h2 x (List.mem_cons_self ..)⟩) fun y hy => h2 y (List.mem_cons_of_mem _ hy)
theorem longL_le {l : List BS} {m : Nat} (h : ∀ x ∈ l, x.length ≤ m) : longL l ≤ m := foldMax_le runL l 0 (Nat.zero_le _) fun x hx => Nat.le_trans (runL_le x) (h x hx)
theorem split_mem {s x : BS} (h : x ∈ splitL s) : x.length ≤ s.length := by
  have := (List.sublist_flatten_of_mem h).length_le
  rwa [splitL_flat] at this
theorem longT_le {l : List BS} {m : Nat} (h : ∀ x ∈ l, x.length ≤ m) : longT l ≤ m := foldMax_le (fun s => longL (splitL s)) l 0 (Nat.zero_le _) fun x hx => Nat.le_trans (longL_le fun y hy => split_mem hy) (h x hx)
theorem okLs_split {s : BS} (h : s.length ≤ 100000000) : okLs (splitL s) := by
  refine ⟨?_, ?_⟩
  · have := splitL_len s
    omega
  · rw [splitL_flat]
    omega
def sLongestD : Spec := Spec.f1 (kL eS) (fun l => l.length < 100000000 ∧ ∀ s ∈ l, s.length ≤ 100000000) (fun l => kI.enc (longT l))
def sWidthD : Spec := Spec.f2 kI (kL eS) (fun _ l => l.length < 100000000 ∧ ∀ s ∈ l, s.length ≤ 100000000) (fun n l => kI.enc (max n ((longT l : Nat) + 1)))
theorem four_le {p : Pt} (h : okPt p) : ∀ s ∈ fourP p, s.length ≤ 100000000 := fun s hs => by
  obtain ⟨_, h1, h2, h3, h4⟩ := h
  simp only [fourP, List.mem_cons, List.not_mem_nil, or_false] at hs
  rcases hs with rfl | rfl | rfl | rfl
  · exact h1
  · exact h2
  · exact h3
  · exact h4
def sFitsD : Spec := Spec.f2 (kL ePt) kI (fun l _ => l.length < 100000000 ∧ ∀ p ∈ l, okPt p) (fun l w => kB.enc (fitsD l w))
end Go.Proofs.Ytnhfobhdbablaaa
