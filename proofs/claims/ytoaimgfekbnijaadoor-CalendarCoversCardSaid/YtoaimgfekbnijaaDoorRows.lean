/-
  NARROWER THAN 'FOR EVERY INPUT', by the rows' own cells (each row's printed sentence says how): CalendarParts: laid · CalendarJoins: laid · CalendarTurns: laid · CalendarCovers: laid · CalendarTiles: laid · CalendarZones: laid · CalendarDeals: laid · TopBeaconYears: laid · TopBeaconMasks: laid · TopBeaconNoons: laid.
  DERIVED. THE GIVEN ROWS OF THIS SEAT. 10 by the template 'for every input the law returns true; each argument reads behind the call as it read before'; 0 by the template 'total and deterministic' (their statements: YtoaimgfekbnijaaDoorTotals.lean).
  GIVEN WITH THE SEED: the statements are not yours to turn. If you find one false, say at which input.
  Laid BY PROGRAM, IN A SANDBOX (cutbox-rows.mjs): the forced cells as the released guide's own fill.sh prints them over the translation acdb4b1f9a22be9d… (all of the seat's roots in one cut). By AI agents, Wed Nov 11 2026. No macro, syntax, notation, axiom, sorry.
-/
import Derived.Test.YtoaimgfekbnijaaDoorChecked
import GoSem.Claim
import GoSem.ClaimJoined
import GoSem.ClaimMapViews
import Derived.JoinedTies
import Derived.KernelRfl
namespace Go.Proofs.YtoaimgfekbnijaaDoor
/- THE CELL 'sum', in the pinned program and in every row, IS THE sha256 OF THE DUMP (.gsa) THAT YtoaimgfekbnijaaDoorProg.lean LOADS. Nothing in Lean hashes anything: it is a label: what it is worth is what the hold of that sum in a sandbox is worth. -/
noncomputable def Tryd.pinned : Pinned := { name := "ytoaimgfekbnijaadoor", sum := "acdb4b1f9a22be9dfb041e26301e3883bbe640c88a694fdd41f95aa83b224a92", checked := Tryd.checked }
namespace Rows
def none {H : Type} : Left H := { results := [], args := [] }

/- WHAT THE LISTED PACKAGE-LEVEL VARIABLES READ AS WHEN THE CALL BEGINS. Each datum BY PROGRAM (the guide's laid-datum.mjs) off the statement by which the dump's own 'gosem.cut.vars' lays the variable. In a bare row this is a premise. The card (YtoaimgfekbnijaaDoorCards.lean) ties it to the program's text. -/
def laid_math_bits_deBruijn32tab {H : Type} : DataW H := .agg [.lit (.int .u8 0), .lit (.int .u8 1), .lit (.int .u8 28), .lit (.int .u8 2), .lit (.int .u8 29), .lit (.int .u8 14), .lit (.int .u8 24), .lit (.int .u8 3), .lit (.int .u8 30), .lit (.int .u8 22), .lit (.int .u8 20), .lit (.int .u8 15), .lit (.int .u8 25), .lit (.int .u8 17), .lit (.int .u8 4), .lit (.int .u8 8), .lit (.int .u8 31), .lit (.int .u8 27), .lit (.int .u8 13), .lit (.int .u8 23), .lit (.int .u8 21), .lit (.int .u8 19), .lit (.int .u8 16), .lit (.int .u8 7), .lit (.int .u8 26), .lit (.int .u8 12), .lit (.int .u8 18), .lit (.int .u8 6), .lit (.int .u8 11), .lit (.int .u8 5), .lit (.int .u8 10), .lit (.int .u8 9)]
def laid_math_bits_deBruijn64tab {H : Type} : DataW H := .agg [.lit (.int .u8 0), .lit (.int .u8 1), .lit (.int .u8 56), .lit (.int .u8 2), .lit (.int .u8 57), .lit (.int .u8 49), .lit (.int .u8 28), .lit (.int .u8 3), .lit (.int .u8 61), .lit (.int .u8 58), .lit (.int .u8 42), .lit (.int .u8 50), .lit (.int .u8 38), .lit (.int .u8 29), .lit (.int .u8 17), .lit (.int .u8 4), .lit (.int .u8 62), .lit (.int .u8 47), .lit (.int .u8 59), .lit (.int .u8 36), .lit (.int .u8 45), .lit (.int .u8 43), .lit (.int .u8 51), .lit (.int .u8 22), .lit (.int .u8 53), .lit (.int .u8 39), .lit (.int .u8 33), .lit (.int .u8 30), .lit (.int .u8 24), .lit (.int .u8 18), .lit (.int .u8 12), .lit (.int .u8 5), .lit (.int .u8 63), .lit (.int .u8 55), .lit (.int .u8 48), .lit (.int .u8 27), .lit (.int .u8 60), .lit (.int .u8 41), .lit (.int .u8 37), .lit (.int .u8 16), .lit (.int .u8 46), .lit (.int .u8 35), .lit (.int .u8 44), .lit (.int .u8 21), .lit (.int .u8 52), .lit (.int .u8 32), .lit (.int .u8 23), .lit (.int .u8 11), .lit (.int .u8 54), .lit (.int .u8 26), .lit (.int .u8 40), .lit (.int .u8 15), .lit (.int .u8 34), .lit (.int .u8 20), .lit (.int .u8 31), .lit (.int .u8 10), .lit (.int .u8 25), .lit (.int .u8 14), .lit (.int .u8 19), .lit (.int .u8 9), .lit (.int .u8 13), .lit (.int .u8 8), .lit (.int .u8 7), .lit (.int .u8 6)]
def laid_internal_strconv_uint64pow10 {H : Type} : DataW H := .agg [.lit (.int .u64 1), .lit (.int .u64 10), .lit (.int .u64 100), .lit (.int .u64 1000), .lit (.int .u64 10000), .lit (.int .u64 100000), .lit (.int .u64 1000000), .lit (.int .u64 10000000), .lit (.int .u64 100000000), .lit (.int .u64 1000000000), .lit (.int .u64 10000000000), .lit (.int .u64 100000000000), .lit (.int .u64 1000000000000), .lit (.int .u64 10000000000000), .lit (.int .u64 100000000000000), .lit (.int .u64 1000000000000000), .lit (.int .u64 10000000000000000), .lit (.int .u64 100000000000000000), .lit (.int .u64 1000000000000000000), .lit (.int .u64 10000000000000000000)]
def laid_turnround_calendar_monthLengths {H : Type} : DataW H := .agg [.lit (.int .i64 31), .lit (.int .i64 28), .lit (.int .i64 31), .lit (.int .i64 30), .lit (.int .i64 31), .lit (.int .i64 30), .lit (.int .i64 31), .lit (.int .i64 31), .lit (.int .i64 30), .lit (.int .i64 31), .lit (.int .i64 30), .lit (.int .i64 31)]
def laid_turnround_calendar_firstSeason {H : Type} : DataW H := .agg [.lit (.int .i64 2000), .lit (.string [83])]
def laid_turnround_calendar_lastSeason {H : Type} : DataW H := .agg [.lit (.int .i64 2272), .lit (.string [87])]

/-- 'turnroundlaw01.CalendarParts': WHATEVER THE INPUT: true; the input reads as it did. -/
def calendarPartsSpec : ChangeSpec := { name := "calendarParts", fn := fun _ => fun
  | [d1, d2, d3] => { results := [.lit (.bool true)], args := [d1, d2, d3] }
  | _ => none }
def calendarPartsRow : OpenClaim := { program := "ytoaimgfekbnijaadoor", sum := "acdb4b1f9a22be9dfb041e26301e3883bbe640c88a694fdd41f95aa83b224a92", func := "turnround/turnroundlaw01.CalendarParts", spec := "calendarParts", inPlace := ["internal/abi.NoEscape", "internal/bytealg.MakeNoZero"], unfollowed := true, recurses := true, named := ["turnround/calendar.monthLengths", "internal/strconv.uint64pow10", "math/bits.deBruijn32tab", "math/bits.deBruijn64tab", "turnround/calendar.firstSeason", "turnround/calendar.lastSeason"], apart := false, laid := [("math/bits.deBruijn32tab", laid_math_bits_deBruijn32tab), ("math/bits.deBruijn64tab", laid_math_bits_deBruijn64tab), ("internal/strconv.uint64pow10", laid_internal_strconv_uint64pow10), ("turnround/calendar.monthLengths", laid_turnround_calendar_monthLengths), ("turnround/calendar.firstSeason", laid_turnround_calendar_firstSeason), ("turnround/calendar.lastSeason", laid_turnround_calendar_lastSeason)] }
def CalendarPartsSaid : Prop := calendarPartsRow.holds Tryd.pinned (OpenSpec.ofChange calendarPartsSpec)

/-- ITS FALSE NEIGHBOUR: 'it returns false'. Refute it at one input. -/
def calendarPartsWrong : ChangeSpec := { name := "calendarParts", fn := fun _ => fun
  | [d1, d2, d3] => { results := [.lit (.bool false)], args := [d1, d2, d3] }
  | _ => none }
def CalendarPartsWrongFalsely : Prop := calendarPartsRow.holds Tryd.pinned (OpenSpec.ofChange calendarPartsWrong)

/-- 'turnroundlaw01.CalendarJoins': WHATEVER THE INPUT: true; the input reads as it did. -/
def calendarJoinsSpec : ChangeSpec := { name := "calendarJoins", fn := fun _ => fun
  | [d] => { results := [.lit (.bool true)], args := [d] }
  | _ => none }
def calendarJoinsRow : OpenClaim := { program := "ytoaimgfekbnijaadoor", sum := "acdb4b1f9a22be9dfb041e26301e3883bbe640c88a694fdd41f95aa83b224a92", func := "turnround/turnroundlaw01.CalendarJoins", spec := "calendarJoins", inPlace := ["internal/abi.NoEscape", "internal/bytealg.MakeNoZero"], unfollowed := true, recurses := true, named := ["turnround/calendar.monthLengths", "internal/strconv.uint64pow10", "math/bits.deBruijn32tab", "math/bits.deBruijn64tab", "turnround/calendar.firstSeason", "turnround/calendar.lastSeason"], apart := false, laid := [("math/bits.deBruijn32tab", laid_math_bits_deBruijn32tab), ("math/bits.deBruijn64tab", laid_math_bits_deBruijn64tab), ("internal/strconv.uint64pow10", laid_internal_strconv_uint64pow10), ("turnround/calendar.monthLengths", laid_turnround_calendar_monthLengths), ("turnround/calendar.firstSeason", laid_turnround_calendar_firstSeason), ("turnround/calendar.lastSeason", laid_turnround_calendar_lastSeason)] }
def CalendarJoinsSaid : Prop := calendarJoinsRow.holds Tryd.pinned (OpenSpec.ofChange calendarJoinsSpec)

/-- ITS FALSE NEIGHBOUR: 'it returns false'. Refute it at one input. -/
def calendarJoinsWrong : ChangeSpec := { name := "calendarJoins", fn := fun _ => fun
  | [d] => { results := [.lit (.bool false)], args := [d] }
  | _ => none }
def CalendarJoinsWrongFalsely : Prop := calendarJoinsRow.holds Tryd.pinned (OpenSpec.ofChange calendarJoinsWrong)

/-- 'turnroundlaw01.CalendarTurns': WHATEVER THE INPUT: true; the input reads as it did. -/
def calendarTurnsSpec : ChangeSpec := { name := "calendarTurns", fn := fun _ => fun
  | [d] => { results := [.lit (.bool true)], args := [d] }
  | _ => none }
def calendarTurnsRow : OpenClaim := { program := "ytoaimgfekbnijaadoor", sum := "acdb4b1f9a22be9dfb041e26301e3883bbe640c88a694fdd41f95aa83b224a92", func := "turnround/turnroundlaw01.CalendarTurns", spec := "calendarTurns", inPlace := ["internal/abi.NoEscape", "internal/bytealg.MakeNoZero"], unfollowed := true, recurses := true, named := ["turnround/calendar.monthLengths", "internal/strconv.uint64pow10", "math/bits.deBruijn32tab", "math/bits.deBruijn64tab", "turnround/calendar.firstSeason", "turnround/calendar.lastSeason"], apart := false, laid := [("math/bits.deBruijn32tab", laid_math_bits_deBruijn32tab), ("math/bits.deBruijn64tab", laid_math_bits_deBruijn64tab), ("internal/strconv.uint64pow10", laid_internal_strconv_uint64pow10), ("turnround/calendar.monthLengths", laid_turnround_calendar_monthLengths), ("turnround/calendar.firstSeason", laid_turnround_calendar_firstSeason), ("turnround/calendar.lastSeason", laid_turnround_calendar_lastSeason)] }
def CalendarTurnsSaid : Prop := calendarTurnsRow.holds Tryd.pinned (OpenSpec.ofChange calendarTurnsSpec)

/-- ITS FALSE NEIGHBOUR: 'it returns false'. Refute it at one input. -/
def calendarTurnsWrong : ChangeSpec := { name := "calendarTurns", fn := fun _ => fun
  | [d] => { results := [.lit (.bool false)], args := [d] }
  | _ => none }
def CalendarTurnsWrongFalsely : Prop := calendarTurnsRow.holds Tryd.pinned (OpenSpec.ofChange calendarTurnsWrong)

/-- 'turnroundlaw01.CalendarCovers': WHATEVER THE INPUT: true; the input reads as it did. -/
def calendarCoversSpec : ChangeSpec := { name := "calendarCovers", fn := fun _ => fun
  | [d1, d2, d3] => { results := [.lit (.bool true)], args := [d1, d2, d3] }
  | _ => none }
def calendarCoversRow : OpenClaim := { program := "ytoaimgfekbnijaadoor", sum := "acdb4b1f9a22be9dfb041e26301e3883bbe640c88a694fdd41f95aa83b224a92", func := "turnround/turnroundlaw01.CalendarCovers", spec := "calendarCovers", inPlace := ["internal/abi.NoEscape", "internal/bytealg.MakeNoZero"], unfollowed := true, recurses := true, named := ["turnround/calendar.monthLengths", "internal/strconv.uint64pow10", "math/bits.deBruijn32tab", "math/bits.deBruijn64tab", "turnround/calendar.firstSeason", "turnround/calendar.lastSeason"], apart := false, laid := [("math/bits.deBruijn32tab", laid_math_bits_deBruijn32tab), ("math/bits.deBruijn64tab", laid_math_bits_deBruijn64tab), ("internal/strconv.uint64pow10", laid_internal_strconv_uint64pow10), ("turnround/calendar.monthLengths", laid_turnround_calendar_monthLengths), ("turnround/calendar.firstSeason", laid_turnround_calendar_firstSeason), ("turnround/calendar.lastSeason", laid_turnround_calendar_lastSeason)] }
def CalendarCoversSaid : Prop := calendarCoversRow.holds Tryd.pinned (OpenSpec.ofChange calendarCoversSpec)

/-- ITS FALSE NEIGHBOUR: 'it returns false'. Refute it at one input. -/
def calendarCoversWrong : ChangeSpec := { name := "calendarCovers", fn := fun _ => fun
  | [d1, d2, d3] => { results := [.lit (.bool false)], args := [d1, d2, d3] }
  | _ => none }
def CalendarCoversWrongFalsely : Prop := calendarCoversRow.holds Tryd.pinned (OpenSpec.ofChange calendarCoversWrong)

/-- 'turnroundlaw01.CalendarTiles': WHATEVER THE INPUT: true; the input reads as it did. -/
def calendarTilesSpec : ChangeSpec := { name := "calendarTiles", fn := fun _ => fun
  | [d1, d2, d3] => { results := [.lit (.bool true)], args := [d1, d2, d3] }
  | _ => none }
def calendarTilesRow : OpenClaim := { program := "ytoaimgfekbnijaadoor", sum := "acdb4b1f9a22be9dfb041e26301e3883bbe640c88a694fdd41f95aa83b224a92", func := "turnround/turnroundlaw01.CalendarTiles", spec := "calendarTiles", inPlace := ["internal/abi.NoEscape", "internal/bytealg.MakeNoZero"], unfollowed := true, recurses := true, named := ["turnround/calendar.monthLengths", "internal/strconv.uint64pow10", "math/bits.deBruijn32tab", "math/bits.deBruijn64tab", "turnround/calendar.firstSeason", "turnround/calendar.lastSeason"], apart := false, laid := [("math/bits.deBruijn32tab", laid_math_bits_deBruijn32tab), ("math/bits.deBruijn64tab", laid_math_bits_deBruijn64tab), ("internal/strconv.uint64pow10", laid_internal_strconv_uint64pow10), ("turnround/calendar.monthLengths", laid_turnround_calendar_monthLengths), ("turnround/calendar.firstSeason", laid_turnround_calendar_firstSeason), ("turnround/calendar.lastSeason", laid_turnround_calendar_lastSeason)] }
def CalendarTilesSaid : Prop := calendarTilesRow.holds Tryd.pinned (OpenSpec.ofChange calendarTilesSpec)

/-- ITS FALSE NEIGHBOUR: 'it returns false'. Refute it at one input. -/
def calendarTilesWrong : ChangeSpec := { name := "calendarTiles", fn := fun _ => fun
  | [d1, d2, d3] => { results := [.lit (.bool false)], args := [d1, d2, d3] }
  | _ => none }
def CalendarTilesWrongFalsely : Prop := calendarTilesRow.holds Tryd.pinned (OpenSpec.ofChange calendarTilesWrong)

/-- 'turnroundlaw01.CalendarZones': WHATEVER THE INPUT: true; the input reads as it did. -/
def calendarZonesSpec : ChangeSpec := { name := "calendarZones", fn := fun _ => fun
  | [d1, d2, d3] => { results := [.lit (.bool true)], args := [d1, d2, d3] }
  | _ => none }
def calendarZonesRow : OpenClaim := { program := "ytoaimgfekbnijaadoor", sum := "acdb4b1f9a22be9dfb041e26301e3883bbe640c88a694fdd41f95aa83b224a92", func := "turnround/turnroundlaw01.CalendarZones", spec := "calendarZones", inPlace := ["internal/abi.NoEscape", "internal/bytealg.MakeNoZero"], unfollowed := true, recurses := true, named := ["turnround/calendar.monthLengths", "internal/strconv.uint64pow10", "math/bits.deBruijn32tab", "math/bits.deBruijn64tab", "turnround/calendar.firstSeason", "turnround/calendar.lastSeason"], apart := false, laid := [("math/bits.deBruijn32tab", laid_math_bits_deBruijn32tab), ("math/bits.deBruijn64tab", laid_math_bits_deBruijn64tab), ("internal/strconv.uint64pow10", laid_internal_strconv_uint64pow10), ("turnround/calendar.monthLengths", laid_turnround_calendar_monthLengths), ("turnround/calendar.firstSeason", laid_turnround_calendar_firstSeason), ("turnround/calendar.lastSeason", laid_turnround_calendar_lastSeason)] }
def CalendarZonesSaid : Prop := calendarZonesRow.holds Tryd.pinned (OpenSpec.ofChange calendarZonesSpec)

/-- ITS FALSE NEIGHBOUR: 'it returns false'. Refute it at one input. -/
def calendarZonesWrong : ChangeSpec := { name := "calendarZones", fn := fun _ => fun
  | [d1, d2, d3] => { results := [.lit (.bool false)], args := [d1, d2, d3] }
  | _ => none }
def CalendarZonesWrongFalsely : Prop := calendarZonesRow.holds Tryd.pinned (OpenSpec.ofChange calendarZonesWrong)

/-- 'turnroundlaw01.CalendarDeals': WHATEVER THE INPUT: true; the input reads as it did. -/
def calendarDealsSpec : ChangeSpec := { name := "calendarDeals", fn := fun _ => fun
  | [d1, d2] => { results := [.lit (.bool true)], args := [d1, d2] }
  | _ => none }
def calendarDealsRow : OpenClaim := { program := "ytoaimgfekbnijaadoor", sum := "acdb4b1f9a22be9dfb041e26301e3883bbe640c88a694fdd41f95aa83b224a92", func := "turnround/turnroundlaw01.CalendarDeals", spec := "calendarDeals", inPlace := ["internal/abi.NoEscape", "internal/bytealg.MakeNoZero"], unfollowed := true, recurses := true, named := ["turnround/calendar.monthLengths", "internal/strconv.uint64pow10", "math/bits.deBruijn32tab", "math/bits.deBruijn64tab", "turnround/calendar.firstSeason", "turnround/calendar.lastSeason"], apart := false, laid := [("math/bits.deBruijn32tab", laid_math_bits_deBruijn32tab), ("math/bits.deBruijn64tab", laid_math_bits_deBruijn64tab), ("internal/strconv.uint64pow10", laid_internal_strconv_uint64pow10), ("turnround/calendar.monthLengths", laid_turnround_calendar_monthLengths), ("turnround/calendar.firstSeason", laid_turnround_calendar_firstSeason), ("turnround/calendar.lastSeason", laid_turnround_calendar_lastSeason)] }
def CalendarDealsSaid : Prop := calendarDealsRow.holds Tryd.pinned (OpenSpec.ofChange calendarDealsSpec)

/-- ITS FALSE NEIGHBOUR: 'it returns false'. Refute it at one input. -/
def calendarDealsWrong : ChangeSpec := { name := "calendarDeals", fn := fun _ => fun
  | [d1, d2] => { results := [.lit (.bool false)], args := [d1, d2] }
  | _ => none }
def CalendarDealsWrongFalsely : Prop := calendarDealsRow.holds Tryd.pinned (OpenSpec.ofChange calendarDealsWrong)

/-- 'turnroundtop.TopBeaconYears': WHATEVER THE INPUT: true; the input reads as it did. -/
def topBeaconYearsSpec : ChangeSpec := { name := "topBeaconYears", fn := fun _ => fun
  | [d1, d2, d3] => { results := [.lit (.bool true)], args := [d1, d2, d3] }
  | _ => none }
def topBeaconYearsRow : OpenClaim := { program := "ytoaimgfekbnijaadoor", sum := "acdb4b1f9a22be9dfb041e26301e3883bbe640c88a694fdd41f95aa83b224a92", func := "turnround/turnroundtop.TopBeaconYears", spec := "topBeaconYears", inPlace := ["internal/abi.NoEscape", "internal/bytealg.MakeNoZero"], unfollowed := true, recurses := true, named := ["turnround/calendar.monthLengths", "turnround/calendar.firstSeason", "turnround/calendar.lastSeason", "internal/strconv.uint64pow10", "math/bits.deBruijn32tab", "math/bits.deBruijn64tab"], apart := false, laid := [("math/bits.deBruijn32tab", laid_math_bits_deBruijn32tab), ("math/bits.deBruijn64tab", laid_math_bits_deBruijn64tab), ("internal/strconv.uint64pow10", laid_internal_strconv_uint64pow10), ("turnround/calendar.monthLengths", laid_turnround_calendar_monthLengths), ("turnround/calendar.firstSeason", laid_turnround_calendar_firstSeason), ("turnround/calendar.lastSeason", laid_turnround_calendar_lastSeason)] }
def TopBeaconYearsSaid : Prop := topBeaconYearsRow.holds Tryd.pinned (OpenSpec.ofChange topBeaconYearsSpec)

/-- ITS FALSE NEIGHBOUR: 'it returns false'. Refute it at one input. -/
def topBeaconYearsWrong : ChangeSpec := { name := "topBeaconYears", fn := fun _ => fun
  | [d1, d2, d3] => { results := [.lit (.bool false)], args := [d1, d2, d3] }
  | _ => none }
def TopBeaconYearsWrongFalsely : Prop := topBeaconYearsRow.holds Tryd.pinned (OpenSpec.ofChange topBeaconYearsWrong)

/-- 'turnroundtop.TopBeaconMasks': WHATEVER THE INPUT: true; the input reads as it did. -/
def topBeaconMasksSpec : ChangeSpec := { name := "topBeaconMasks", fn := fun _ => fun
  | [d1, d2, d3] => { results := [.lit (.bool true)], args := [d1, d2, d3] }
  | _ => none }
def topBeaconMasksRow : OpenClaim := { program := "ytoaimgfekbnijaadoor", sum := "acdb4b1f9a22be9dfb041e26301e3883bbe640c88a694fdd41f95aa83b224a92", func := "turnround/turnroundtop.TopBeaconMasks", spec := "topBeaconMasks", unfollowed := true, recurses := true, named := ["turnround/calendar.monthLengths", "turnround/calendar.firstSeason", "turnround/calendar.lastSeason"], apart := false, laid := [("turnround/calendar.monthLengths", laid_turnround_calendar_monthLengths), ("turnround/calendar.firstSeason", laid_turnround_calendar_firstSeason), ("turnround/calendar.lastSeason", laid_turnround_calendar_lastSeason)] }
def TopBeaconMasksSaid : Prop := topBeaconMasksRow.holds Tryd.pinned (OpenSpec.ofChange topBeaconMasksSpec)

/-- ITS FALSE NEIGHBOUR: 'it returns false'. Refute it at one input. -/
def topBeaconMasksWrong : ChangeSpec := { name := "topBeaconMasks", fn := fun _ => fun
  | [d1, d2, d3] => { results := [.lit (.bool false)], args := [d1, d2, d3] }
  | _ => none }
def TopBeaconMasksWrongFalsely : Prop := topBeaconMasksRow.holds Tryd.pinned (OpenSpec.ofChange topBeaconMasksWrong)

/-- 'turnroundtop.TopBeaconNoons': WHATEVER THE INPUT: true; the input reads as it did. -/
def topBeaconNoonsSpec : ChangeSpec := { name := "topBeaconNoons", fn := fun _ => fun
  | [d1, d2, d3] => { results := [.lit (.bool true)], args := [d1, d2, d3] }
  | _ => none }
def topBeaconNoonsRow : OpenClaim := { program := "ytoaimgfekbnijaadoor", sum := "acdb4b1f9a22be9dfb041e26301e3883bbe640c88a694fdd41f95aa83b224a92", func := "turnround/turnroundtop.TopBeaconNoons", spec := "topBeaconNoons", unfollowed := true, recurses := true, named := ["turnround/calendar.monthLengths", "turnround/calendar.firstSeason", "turnround/calendar.lastSeason"], apart := false, laid := [("turnround/calendar.monthLengths", laid_turnround_calendar_monthLengths), ("turnround/calendar.firstSeason", laid_turnround_calendar_firstSeason), ("turnround/calendar.lastSeason", laid_turnround_calendar_lastSeason)] }
def TopBeaconNoonsSaid : Prop := topBeaconNoonsRow.holds Tryd.pinned (OpenSpec.ofChange topBeaconNoonsSpec)

/-- ITS FALSE NEIGHBOUR: 'it returns false'. Refute it at one input. -/
def topBeaconNoonsWrong : ChangeSpec := { name := "topBeaconNoons", fn := fun _ => fun
  | [d1, d2, d3] => { results := [.lit (.bool false)], args := [d1, d2, d3] }
  | _ => none }
def TopBeaconNoonsWrongFalsely : Prop := topBeaconNoonsRow.holds Tryd.pinned (OpenSpec.ofChange topBeaconNoonsWrong)

/- THE SECOND FORM. 'bulk': how many values and letters a reading holds, each counted each time it is reached (what is shared counts as often as it is met; a slice's spare places count too). A statement '..UptoSaid' is the law's where the arguments, and the package variables that the reading takes, are together of bulk at most 1048576: NARROWER than '..Said'. Prove '..Said' where nothing that the law and all that it calls make is longer than what came in: it says more and counts as full. Else prove '..UptoSaid'. A law counts once. -/
mutual
def uptoBulk {H : Type} : DataW H → Nat
  | .lit (.string bytes) => bytes.length + 1
  | .lit _ => 1
  | .nil => 1
  | .ptr d => uptoBulk d + 1
  | .slice elems spare => uptoBulkAll elems + uptoBulkAll spare + 1
  | .agg parts => uptoBulkAll parts + 1
  | .iface _ d => uptoBulk d + 1
  | .map entries => uptoBulkEntries entries + 1
  | .held _ => 1
def uptoBulkAll {H : Type} : List (DataW H) → Nat
  | [] => 0
  | d :: r => uptoBulk d + uptoBulkAll r
def uptoBulkEntries {H : Type} : List (Lit × DataW H) → Nat
  | [] => 0
  | x :: r => uptoBulkEntry x + uptoBulkEntries r
def uptoBulkEntry {H : Type} : Lit × DataW H → Nat
  | (.string bytes, d) => bytes.length + uptoBulk d + 1
  | (_, d) => uptoBulk d + 1
 end
def uptoSmall : (H : Type) → List (DataW H) → Bool := fun _ ds => decide (uptoBulkAll ds ≤ 1048576)
def OpenSpec.upto (s : _root_.Go.ChangeSpec) : _root_.Go.OpenSpec := { _root_.Go.OpenSpec.ofChange s with cond := some uptoSmall }

/-- 'turnroundlaw01.CalendarParts', WHERE WHAT IT READS IS OF BULK AT MOST 1048576: true; the input reads as it did. -/
def calendarPartsUptoRow : OpenClaim := { program := "ytoaimgfekbnijaadoor", sum := "acdb4b1f9a22be9dfb041e26301e3883bbe640c88a694fdd41f95aa83b224a92", func := "turnround/turnroundlaw01.CalendarParts", spec := "calendarParts", inPlace := ["internal/abi.NoEscape", "internal/bytealg.MakeNoZero"], unfollowed := true, recurses := true, named := ["turnround/calendar.monthLengths", "internal/strconv.uint64pow10", "math/bits.deBruijn32tab", "math/bits.deBruijn64tab", "turnround/calendar.firstSeason", "turnround/calendar.lastSeason"], apart := false, laid := [("math/bits.deBruijn32tab", laid_math_bits_deBruijn32tab), ("math/bits.deBruijn64tab", laid_math_bits_deBruijn64tab), ("internal/strconv.uint64pow10", laid_internal_strconv_uint64pow10), ("turnround/calendar.monthLengths", laid_turnround_calendar_monthLengths), ("turnround/calendar.firstSeason", laid_turnround_calendar_firstSeason), ("turnround/calendar.lastSeason", laid_turnround_calendar_lastSeason)], narrowed := true }
def CalendarPartsUptoSaid : Prop := calendarPartsUptoRow.holds Tryd.pinned (OpenSpec.upto calendarPartsSpec)

/-- 'turnroundlaw01.CalendarJoins', WHERE WHAT IT READS IS OF BULK AT MOST 1048576: true; the input reads as it did. -/
def calendarJoinsUptoRow : OpenClaim := { program := "ytoaimgfekbnijaadoor", sum := "acdb4b1f9a22be9dfb041e26301e3883bbe640c88a694fdd41f95aa83b224a92", func := "turnround/turnroundlaw01.CalendarJoins", spec := "calendarJoins", inPlace := ["internal/abi.NoEscape", "internal/bytealg.MakeNoZero"], unfollowed := true, recurses := true, named := ["turnround/calendar.monthLengths", "internal/strconv.uint64pow10", "math/bits.deBruijn32tab", "math/bits.deBruijn64tab", "turnround/calendar.firstSeason", "turnround/calendar.lastSeason"], apart := false, laid := [("math/bits.deBruijn32tab", laid_math_bits_deBruijn32tab), ("math/bits.deBruijn64tab", laid_math_bits_deBruijn64tab), ("internal/strconv.uint64pow10", laid_internal_strconv_uint64pow10), ("turnround/calendar.monthLengths", laid_turnround_calendar_monthLengths), ("turnround/calendar.firstSeason", laid_turnround_calendar_firstSeason), ("turnround/calendar.lastSeason", laid_turnround_calendar_lastSeason)], narrowed := true }
def CalendarJoinsUptoSaid : Prop := calendarJoinsUptoRow.holds Tryd.pinned (OpenSpec.upto calendarJoinsSpec)

/-- 'turnroundlaw01.CalendarTurns', WHERE WHAT IT READS IS OF BULK AT MOST 1048576: true; the input reads as it did. -/
def calendarTurnsUptoRow : OpenClaim := { program := "ytoaimgfekbnijaadoor", sum := "acdb4b1f9a22be9dfb041e26301e3883bbe640c88a694fdd41f95aa83b224a92", func := "turnround/turnroundlaw01.CalendarTurns", spec := "calendarTurns", inPlace := ["internal/abi.NoEscape", "internal/bytealg.MakeNoZero"], unfollowed := true, recurses := true, named := ["turnround/calendar.monthLengths", "internal/strconv.uint64pow10", "math/bits.deBruijn32tab", "math/bits.deBruijn64tab", "turnround/calendar.firstSeason", "turnround/calendar.lastSeason"], apart := false, laid := [("math/bits.deBruijn32tab", laid_math_bits_deBruijn32tab), ("math/bits.deBruijn64tab", laid_math_bits_deBruijn64tab), ("internal/strconv.uint64pow10", laid_internal_strconv_uint64pow10), ("turnround/calendar.monthLengths", laid_turnround_calendar_monthLengths), ("turnround/calendar.firstSeason", laid_turnround_calendar_firstSeason), ("turnround/calendar.lastSeason", laid_turnround_calendar_lastSeason)], narrowed := true }
def CalendarTurnsUptoSaid : Prop := calendarTurnsUptoRow.holds Tryd.pinned (OpenSpec.upto calendarTurnsSpec)

/-- 'turnroundlaw01.CalendarCovers', WHERE WHAT IT READS IS OF BULK AT MOST 1048576: true; the input reads as it did. -/
def calendarCoversUptoRow : OpenClaim := { program := "ytoaimgfekbnijaadoor", sum := "acdb4b1f9a22be9dfb041e26301e3883bbe640c88a694fdd41f95aa83b224a92", func := "turnround/turnroundlaw01.CalendarCovers", spec := "calendarCovers", inPlace := ["internal/abi.NoEscape", "internal/bytealg.MakeNoZero"], unfollowed := true, recurses := true, named := ["turnround/calendar.monthLengths", "internal/strconv.uint64pow10", "math/bits.deBruijn32tab", "math/bits.deBruijn64tab", "turnround/calendar.firstSeason", "turnround/calendar.lastSeason"], apart := false, laid := [("math/bits.deBruijn32tab", laid_math_bits_deBruijn32tab), ("math/bits.deBruijn64tab", laid_math_bits_deBruijn64tab), ("internal/strconv.uint64pow10", laid_internal_strconv_uint64pow10), ("turnround/calendar.monthLengths", laid_turnround_calendar_monthLengths), ("turnround/calendar.firstSeason", laid_turnround_calendar_firstSeason), ("turnround/calendar.lastSeason", laid_turnround_calendar_lastSeason)], narrowed := true }
def CalendarCoversUptoSaid : Prop := calendarCoversUptoRow.holds Tryd.pinned (OpenSpec.upto calendarCoversSpec)

/-- 'turnroundlaw01.CalendarTiles', WHERE WHAT IT READS IS OF BULK AT MOST 1048576: true; the input reads as it did. -/
def calendarTilesUptoRow : OpenClaim := { program := "ytoaimgfekbnijaadoor", sum := "acdb4b1f9a22be9dfb041e26301e3883bbe640c88a694fdd41f95aa83b224a92", func := "turnround/turnroundlaw01.CalendarTiles", spec := "calendarTiles", inPlace := ["internal/abi.NoEscape", "internal/bytealg.MakeNoZero"], unfollowed := true, recurses := true, named := ["turnround/calendar.monthLengths", "internal/strconv.uint64pow10", "math/bits.deBruijn32tab", "math/bits.deBruijn64tab", "turnround/calendar.firstSeason", "turnround/calendar.lastSeason"], apart := false, laid := [("math/bits.deBruijn32tab", laid_math_bits_deBruijn32tab), ("math/bits.deBruijn64tab", laid_math_bits_deBruijn64tab), ("internal/strconv.uint64pow10", laid_internal_strconv_uint64pow10), ("turnround/calendar.monthLengths", laid_turnround_calendar_monthLengths), ("turnround/calendar.firstSeason", laid_turnround_calendar_firstSeason), ("turnround/calendar.lastSeason", laid_turnround_calendar_lastSeason)], narrowed := true }
def CalendarTilesUptoSaid : Prop := calendarTilesUptoRow.holds Tryd.pinned (OpenSpec.upto calendarTilesSpec)

/-- 'turnroundlaw01.CalendarZones', WHERE WHAT IT READS IS OF BULK AT MOST 1048576: true; the input reads as it did. -/
def calendarZonesUptoRow : OpenClaim := { program := "ytoaimgfekbnijaadoor", sum := "acdb4b1f9a22be9dfb041e26301e3883bbe640c88a694fdd41f95aa83b224a92", func := "turnround/turnroundlaw01.CalendarZones", spec := "calendarZones", inPlace := ["internal/abi.NoEscape", "internal/bytealg.MakeNoZero"], unfollowed := true, recurses := true, named := ["turnround/calendar.monthLengths", "internal/strconv.uint64pow10", "math/bits.deBruijn32tab", "math/bits.deBruijn64tab", "turnround/calendar.firstSeason", "turnround/calendar.lastSeason"], apart := false, laid := [("math/bits.deBruijn32tab", laid_math_bits_deBruijn32tab), ("math/bits.deBruijn64tab", laid_math_bits_deBruijn64tab), ("internal/strconv.uint64pow10", laid_internal_strconv_uint64pow10), ("turnround/calendar.monthLengths", laid_turnround_calendar_monthLengths), ("turnround/calendar.firstSeason", laid_turnround_calendar_firstSeason), ("turnround/calendar.lastSeason", laid_turnround_calendar_lastSeason)], narrowed := true }
def CalendarZonesUptoSaid : Prop := calendarZonesUptoRow.holds Tryd.pinned (OpenSpec.upto calendarZonesSpec)

/-- 'turnroundlaw01.CalendarDeals', WHERE WHAT IT READS IS OF BULK AT MOST 1048576: true; the input reads as it did. -/
def calendarDealsUptoRow : OpenClaim := { program := "ytoaimgfekbnijaadoor", sum := "acdb4b1f9a22be9dfb041e26301e3883bbe640c88a694fdd41f95aa83b224a92", func := "turnround/turnroundlaw01.CalendarDeals", spec := "calendarDeals", inPlace := ["internal/abi.NoEscape", "internal/bytealg.MakeNoZero"], unfollowed := true, recurses := true, named := ["turnround/calendar.monthLengths", "internal/strconv.uint64pow10", "math/bits.deBruijn32tab", "math/bits.deBruijn64tab", "turnround/calendar.firstSeason", "turnround/calendar.lastSeason"], apart := false, laid := [("math/bits.deBruijn32tab", laid_math_bits_deBruijn32tab), ("math/bits.deBruijn64tab", laid_math_bits_deBruijn64tab), ("internal/strconv.uint64pow10", laid_internal_strconv_uint64pow10), ("turnround/calendar.monthLengths", laid_turnround_calendar_monthLengths), ("turnround/calendar.firstSeason", laid_turnround_calendar_firstSeason), ("turnround/calendar.lastSeason", laid_turnround_calendar_lastSeason)], narrowed := true }
def CalendarDealsUptoSaid : Prop := calendarDealsUptoRow.holds Tryd.pinned (OpenSpec.upto calendarDealsSpec)

/-- 'turnroundtop.TopBeaconYears', WHERE WHAT IT READS IS OF BULK AT MOST 1048576: true; the input reads as it did. -/
def topBeaconYearsUptoRow : OpenClaim := { program := "ytoaimgfekbnijaadoor", sum := "acdb4b1f9a22be9dfb041e26301e3883bbe640c88a694fdd41f95aa83b224a92", func := "turnround/turnroundtop.TopBeaconYears", spec := "topBeaconYears", inPlace := ["internal/abi.NoEscape", "internal/bytealg.MakeNoZero"], unfollowed := true, recurses := true, named := ["turnround/calendar.monthLengths", "turnround/calendar.firstSeason", "turnround/calendar.lastSeason", "internal/strconv.uint64pow10", "math/bits.deBruijn32tab", "math/bits.deBruijn64tab"], apart := false, laid := [("math/bits.deBruijn32tab", laid_math_bits_deBruijn32tab), ("math/bits.deBruijn64tab", laid_math_bits_deBruijn64tab), ("internal/strconv.uint64pow10", laid_internal_strconv_uint64pow10), ("turnround/calendar.monthLengths", laid_turnround_calendar_monthLengths), ("turnround/calendar.firstSeason", laid_turnround_calendar_firstSeason), ("turnround/calendar.lastSeason", laid_turnround_calendar_lastSeason)], narrowed := true }
def TopBeaconYearsUptoSaid : Prop := topBeaconYearsUptoRow.holds Tryd.pinned (OpenSpec.upto topBeaconYearsSpec)

/-- 'turnroundtop.TopBeaconMasks', WHERE WHAT IT READS IS OF BULK AT MOST 1048576: true; the input reads as it did. -/
def topBeaconMasksUptoRow : OpenClaim := { program := "ytoaimgfekbnijaadoor", sum := "acdb4b1f9a22be9dfb041e26301e3883bbe640c88a694fdd41f95aa83b224a92", func := "turnround/turnroundtop.TopBeaconMasks", spec := "topBeaconMasks", unfollowed := true, recurses := true, named := ["turnround/calendar.monthLengths", "turnround/calendar.firstSeason", "turnround/calendar.lastSeason"], apart := false, laid := [("turnround/calendar.monthLengths", laid_turnround_calendar_monthLengths), ("turnround/calendar.firstSeason", laid_turnround_calendar_firstSeason), ("turnround/calendar.lastSeason", laid_turnround_calendar_lastSeason)], narrowed := true }
def TopBeaconMasksUptoSaid : Prop := topBeaconMasksUptoRow.holds Tryd.pinned (OpenSpec.upto topBeaconMasksSpec)

/-- 'turnroundtop.TopBeaconNoons', WHERE WHAT IT READS IS OF BULK AT MOST 1048576: true; the input reads as it did. -/
def topBeaconNoonsUptoRow : OpenClaim := { program := "ytoaimgfekbnijaadoor", sum := "acdb4b1f9a22be9dfb041e26301e3883bbe640c88a694fdd41f95aa83b224a92", func := "turnround/turnroundtop.TopBeaconNoons", spec := "topBeaconNoons", unfollowed := true, recurses := true, named := ["turnround/calendar.monthLengths", "turnround/calendar.firstSeason", "turnround/calendar.lastSeason"], apart := false, laid := [("turnround/calendar.monthLengths", laid_turnround_calendar_monthLengths), ("turnround/calendar.firstSeason", laid_turnround_calendar_firstSeason), ("turnround/calendar.lastSeason", laid_turnround_calendar_lastSeason)], narrowed := true }
def TopBeaconNoonsUptoSaid : Prop := topBeaconNoonsUptoRow.holds Tryd.pinned (OpenSpec.upto topBeaconNoonsSpec)

end Rows
end Go.Proofs.YtoaimgfekbnijaaDoor
