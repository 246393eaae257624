import PyProof.Rows.All
import Wide.All
import OpenK.AllK
import Wide.FinOn
import HandS.ForMost
import HandS.Wide
import HandS.Codes
import HandS.Exc
import HandS.TryOnly
import HandS.ExcOwn
import HandS.WordsExc
import HandS.ExcInit
import HandS.ExcField
import KE.KStateDown
import HandS.Head0
import HandS.Head1
import HandS.Head2
import HandS.IsInst
import HandS.StrMore
import HandS.Style
import HandS.ExcInitHot
import HandS.ExcIs
import HandS.ExcValue
import HandS.HotCalls
import HandS.Comp
import HandS.More
import HandS.Defaults
import PySem.Challenge.RW_searchback_k00_errors_side_by_side
set_option Elab.async false
set_option maxRecDepth 100000
namespace Kx
open PySem L2
def top (i : Nat) : Stmt := PySem.Challenge.pw_searchback_k00_errors_side_by_side.main.body.getD i (.Pass ⟨0, 0, 0, 0⟩)
abbrev sBadKinds_init : Stmt := inClass (top 2) 0 -- BadKinds.__init__
abbrev sNoKind_init : Stmt := inClass (top 3) 0 -- NoKind.__init__
abbrev sBadHistory_init : Stmt := inClass (top 4) 0 -- BadHistory.__init__
abbrev sBadYears_init : Stmt := inClass (top 5) 0 -- BadYears.__init__
abbrev sBadMap_init : Stmt := inClass (top 7) 0 -- BadMap.__init__
abbrev sBadPerson_init : Stmt := inClass (top 8) 0 -- BadPerson.__init__
abbrev sBadText_init : Stmt := inClass (top 9) 0 -- BadText.__init__
abbrev sBadStand_init : Stmt := inClass (top 10) 0 -- BadStand.__init__
abbrev sBadDeed_init : Stmt := inClass (top 11) 0 -- BadDeed.__init__
abbrev sBadCondition_init : Stmt := inClass (top 12) 0 -- BadCondition.__init__
abbrev sBadChange_init : Stmt := inClass (top 13) 0 -- BadChange.__init__
abbrev sBadClause_init : Stmt := inClass (top 14) 0 -- BadClause.__init__
abbrev sBadCustom_init : Stmt := inClass (top 15) 0 -- BadCustom.__init__
abbrev sBadQuestion_init : Stmt := inClass (top 16) 0 -- BadQuestion.__init__
abbrev sTooMany_init : Stmt := inClass (top 17) 0 -- TooMany.__init__
abbrev sBadSeat_init : Stmt := inClass (top 18) 0 -- BadSeat.__init__
abbrev sBadClock_init : Stmt := inClass (top 19) 0 -- BadClock.__init__
abbrev sNoClause_init : Stmt := inClass (top 20) 0 -- NoClause.__init__
abbrev sBadShape_init : Stmt := inClass (top 21) 0 -- BadShape.__init__
abbrev sBadSpot_init : Stmt := inClass (top 22) 0 -- BadSpot.__init__
abbrev sBadLikeness_init : Stmt := inClass (top 24) 0 -- BadLikeness.__init__
abbrev sBadIndex_init : Stmt := inClass (top 25) 0 -- BadIndex.__init__
abbrev sBadPair_init : Stmt := inClass (top 26) 0 -- BadPair.__init__
abbrev sBadHeights_init : Stmt := inClass (top 27) 0 -- BadHeights.__init__
abbrev sBadPasts_init : Stmt := inClass (top 29) 0 -- BadPasts.__init__
abbrev sBadRings_init : Stmt := inClass (top 30) 0 -- BadRings.__init__
abbrev sBadTurns_init : Stmt := inClass (top 31) 0 -- BadTurns.__init__
abbrev sBadEntry_init : Stmt := inClass (top 32) 0 -- BadEntry.__init__
abbrev sBadAbstract_init : Stmt := inClass (top 33) 0 -- BadAbstract.__init__
abbrev sBadBook_init : Stmt := inClass (top 34) 0 -- BadBook.__init__
abbrev sBadShelf_init : Stmt := inClass (top 35) 0 -- BadShelf.__init__
abbrev sBadRound_init : Stmt := inClass (top 36) 0 -- BadRound.__init__
abbrev sBadRest_init : Stmt := inClass (top 37) 0 -- BadRest.__init__
abbrev sBadDocket_init : Stmt := inClass (top 41) 0 -- BadDocket.__init__
abbrev sNoYear_init : Stmt := inClass (top 42) 0 -- NoYear.__init__
abbrev sYearIsShut_init : Stmt := inClass (top 43) 0 -- YearIsShut.__init__
abbrev sYearIsNotShut_init : Stmt := inClass (top 44) 0 -- YearIsNotShut.__init__
abbrev sNoPlace_init : Stmt := inClass (top 45) 0 -- NoPlace.__init__
abbrev sNoNews_init : Stmt := inClass (top 46) 0 -- NoNews.__init__
abbrev sOverfull_init : Stmt := inClass (top 47) 0 -- Overfull.__init__
abbrev sTooLoose_init : Stmt := inClass (top 49) 0 -- TooLoose.__init__
abbrev sBadAmendment_init : Stmt := inClass (top 50) 0 -- BadAmendment.__init__
abbrev sBadPool_init : Stmt := inClass (top 51) 0 -- BadPool.__init__
abbrev sBadLot_init : Stmt := inClass (top 52) 0 -- BadLot.__init__
abbrev sClash_init : Stmt := inClass (top 53) 0 -- Clash.__init__
abbrev sNotParted_init : Stmt := inClass (top 54) 0 -- NotParted.__init__
abbrev sMix : Stmt := top 56 -- _law_mix(_law_number, _law_turn)
abbrev sHand : Stmt := top 57 -- _law_hand(_law_script)
abbrev sDraw : Stmt := top 58 -- _law_draw(_law_hand_here, _law_many)
abbrev sOne : Stmt := top 59 -- _law_one(_law_hand_here, _law_rows)
abbrev sWord : Stmt := top 60 -- _law_word(_law_hand_here, _law_most)
abbrev sOdd : Stmt := top 61 -- _law_odd(_law_hand_here)
abbrev sLFirst : Stmt := top 62 -- _law_first(_law_at, _law_word_here, _law_odd_here)
abbrev sLSecond : Stmt := top 63 -- _law_second(_law_at, _law_word_here, _law_odd_here)
abbrev sLThird : Stmt := top 64 -- _law_third(_law_at, _law_word_here, _law_odd_here)
abbrev sLKin : Stmt := top 65 -- _law_kin(_law_e)
abbrev sLRaised : Stmt := top 66 -- _law_raised(_law_way, _law_at, _law_word_here)
abbrev sLaw : Stmt := top 67 -- law(_law_script)
end Kx

set_option maxHeartbeats 8000000
namespace Kx
open PySem L2
/-! the classes of errors: names, fields, places -/
def nms : List Str := (["BadKinds", "NoKind", "BadHistory", "BadYears", "OtherKinds", "BadMap", "BadPerson", "BadText", "BadStand", "BadDeed", "BadCondition", "BadChange", "BadClause", "BadCustom"] : List Str) ++ (["BadQuestion", "TooMany", "BadSeat", "BadClock", "NoClause", "BadShape", "BadSpot", "NoStand", "BadLikeness", "BadIndex", "BadPair", "BadHeights", "NoPair", "BadPasts"] : List Str) ++ (["BadRings", "BadTurns", "BadEntry", "BadAbstract", "BadBook", "BadShelf", "BadRound", "BadRest", "BadPaper", "NoRow", "OtherSeats", "BadDocket", "NoYear", "YearIsShut"] : List Str) ++ (["YearIsNotShut", "NoPlace", "NoNews", "Overfull", "BadLog", "TooLoose", "BadAmendment", "BadPool", "BadLot", "Clash", "NotParted"] : List Str)
def nm (j : Nat) : Str := nms.getD j ""
def fls : List (Option (List Str)) := ([some ["index", "what"], some ["name"], some ["year", "index", "what"], some ["years"], none, some ["what"], some ["person"], some ["row", "what"], some ["what"], some ["what"], some ["what"], some ["what"], some ["index", "what"], some ["index", "what"]] : List (Option (List Str))) ++ ([some ["what"], some ["count"], some ["seat"], some ["clock"], some ["index"], some ["what"], some ["index"], none, some ["what"], some ["index"], some ["what"], some ["index", "what"], none, some ["what"]] : List (Option (List Str))) ++ ([some ["what"], some ["turns"], some ["what"], some ["year", "what"], some ["what"], some ["index", "what"], some ["index", "what"], some ["rest"], none, none, none, some ["what"], some ["year"], some ["year"]] : List (Option (List Str))) ++ ([some ["year"], some ["place"], some ["number"], some ["what"], none, some ["count"], some ["what"], some ["index", "what"], some ["what"], some ["first", "second"], some ["lot"]] : List (Option (List Str)))
def flOf (j : Nat) : Option (List Str) := fls.getD j none
def ads : List Nat := ([44, 63, 82, 101, 113, 132, 151, 170, 189, 208, 227, 246, 265, 284] : List Nat) ++ ([303, 322, 341, 360, 379, 398, 417, 429, 448, 467, 486, 505, 517, 536] : List Nat) ++ ([555, 574, 593, 612, 631, 650, 669, 688, 700, 712, 724, 743, 762, 781] : List Nat) ++ ([800, 819, 838, 857, 869, 888, 907, 926, 945, 964, 983] : List Nat)
def CsT (j : Nat) : Addr := ads.getD j 0
abbrev CST : Addr := 24
abbrev excBmB : List Value := [.type "ValueError", .type "Exception", .type "BaseException", .type "object"]
abbrev mroT (C : Addr) : List Value := [.ref C, .ref CST, .type "ValueError", .type "Exception", .type "BaseException", .type "object"]
abbrev mroTS : List Value := [.ref CST, .type "ValueError", .type "Exception", .type "BaseException", .type "object"]
end Kx

set_option maxHeartbeats 8000000
section
namespace Kx
open PySem PySem.W PySem.Calls PyProof.Rows
abbrev hR : OpenRow := OpenLaw.row PySem.Challenge.rw_searchback_k00_errors_side_by_side
abbrev hq : Program := view hR.prog [67]
def hnames0 : List PySem.Str := ["SearchError", "BadKinds", "NoKind", "BadHistory", "BadYears", "OtherKinds", "BadMap", "BadPerson", "BadText", "BadStand", "BadDeed", "BadCondition", "BadChange", "BadClause", "BadCustom", "BadQuestion", "TooMany", "BadSeat", "BadClock", "NoClause", "BadShape", "BadSpot", "NoStand", "BadLikeness", "BadIndex"]
def hnames1 : List PySem.Str := ["BadPair", "BadHeights", "NoPair", "BadPasts", "BadRings", "BadTurns", "BadEntry", "BadAbstract", "BadBook", "BadShelf", "BadRound", "BadRest", "BadPaper", "NoRow", "OtherSeats", "BadDocket", "NoYear", "YearIsShut", "YearIsNotShut", "NoPlace", "NoNews", "Overfull", "BadLog", "TooLoose", "BadAmendment"]
def hnames2 : List PySem.Str := ["BadPool", "BadLot", "Clash", "NotParted", "_law_mix", "_law_hand", "_law_draw", "_law_one", "_law_word", "_law_odd", "_law_first", "_law_second", "_law_third", "_law_kin", "_law_raised"]
def hnames : List PySem.Str := hnames0 ++ hnames1 ++ hnames2

def kob (as : List Addr) (s : SharedT) : List (Option Obj) := as.map (HandSHeadRun.getT s)
/-! the top's run, looked at piece by piece: each look is a theorem of its own, so that the kernel's store is given back in between -/
set_option maxHeartbeats 0 in
theorem run_looks (w : World) (os : OsState) : (HandSHeadRun.endF (HandSHeadRun.stepQ (HandSHeadRun.denQ HandSHeadRun.tabQ) hR.prog w) 30000 hR.prog w os).map (fun s => HandSHeadRun.looksF hR.prog (boot_heap w.params) s.abs) = some true := by kernel_rfl
set_option maxHeartbeats 0 in
theorem run_seen (w : World) (os : OsState) : (HandSHeadRun.endF (HandSHeadRun.stepQ (HandSHeadRun.denQ HandSHeadRun.tabQ) hR.prog w) 30000 hR.prog w os).map (fun s => HandSHeadRun.seenQ hq hnames (importedModules hR.prog.main.body) (fun s => xlAt hq [] s && recOk hR.toRowW.records s) s.abs) = some (openGood hq hnames) := by kernel_rfl
theorem run_three {H : Hook} {ob : SharedT → H.α} {w : World} (h3 : ∀ os : OsState, (HandSHeadRun.endF (HandSHeadRun.stepQ (HandSHeadRun.denQ HandSHeadRun.tabQ) hR.prog w) 30000 hR.prog w os).map ob = some (H.val w)) : HandSHeadRun.RunEq hR hq H ob 30000 hnames w := fun os => by
  have h1 := run_looks w os
  have h2 := run_seen w os
  have h3 := h3 os
  revert h1 h2 h3
  generalize HandSHeadRun.endF (HandSHeadRun.stepQ (HandSHeadRun.denQ HandSHeadRun.tabQ) hR.prog w) 30000 hR.prog w os = e
  intro h1 h2 h3
  cases e with
  | none => cases h1
  | some s => exact congrArg some (Prod.ext (Option.some.inj h1) (Prod.ext (Option.some.inj h2) (Option.some.inj h3)))
end Kx
open PySem PySem.W PyProof.Rows
/-! the written part of the heap is laid down as the constant that k_head makes -/
local macro_rules
  | `(tactic| o_head ($_:ident $_K:term $_a:term $_e:term)) => `(tactic| assumption)
set_option maxRecDepth 100000 in
set_option maxHeartbeats 0 in
theorem Kx.probe (_h : Kx.hR.Holds) : Kx.hR.Holds := by
  k_head
namespace Kx
open PySem PySem.W PySem.Calls PyProof.Rows
noncomputable def par0 : Params := { strHash := fun _ => 0, shareClass := fun _ => 0, mergeTok := fun t => t, idOf := fun _ => 0, idOfShared := fun _ _ => 0, followText := fun _ => false, idOfImm := fun _ => 0 }
noncomputable def kas : List Addr := (Kx.probe.heap_1 par0).map (·.1)
theorem kas_eq : ∀ P, kas = (Kx.probe.heap_1 P).map (·.1) := fun P => by kernel_rfl
set_option maxHeartbeats 0 in
theorem run_ob (w : World) (os : OsState) : (HandSHeadRun.endF (HandSHeadRun.stepQ (HandSHeadRun.denQ HandSHeadRun.tabQ) hR.prog w) 30000 hR.prog w os).map (kob kas) = some ((kHook Kx.probe.heap_1 kas kas_eq).val w) := by kernel_rfl
theorem run_all (w : World) : HandSHeadRun.RunEq hR hq (kHook Kx.probe.heap_1 kas kas_eq) (kob kas) 30000 hnames w := run_three (run_ob w)
set_option maxHeartbeats 0 in
theorem head_1 : opening hR.prog = plainProg hR.prog.main.scope.names := by kernel_rfl
set_option maxHeartbeats 0 in
theorem head_2 : ∀ s, fenceModules? hR.prog s = some s := fun s => by kernel_rfl
set_option maxHeartbeats 0 in
theorem head_k (k1 : hR.wellSaid = true) (hw : hR.toRowW.promised)
    (call : WalkO hq hnames (XL hq []) (kHook Kx.probe.heap_1 kas kas_eq).says hR.toRowW (HandSHeadRun.topDef hR.prog 67) [] fun f vs => PySem.call f vs) : hR.Holds :=
  HandSHeadRun.head_any (r := hR) (q := hq) (H := kHook Kx.probe.heap_1 kas kas_eq) (ob := kob kas) (M := 30000) (loose := hnames) (d := HandSHeadRun.topDef hR.prog 67) (kwd := []) (fun s => congrArg (fun g => kas.map g) (funext (HandSHeadRun.getT_eq s)))
    head_1 head_2 run_all (by kernel_rfl) (by kernel_rfl) (by kernel_rfl) (by rfl) k1 (by decide +kernel) ⟨rfl, rfl, rfl, rfl, rfl, by decide +kernel⟩ hw call
end Kx
end

set_option linter.defProp false
set_option linter.unusedVariables false
set_option maxHeartbeats 8000000
namespace Kx
open PySem PySem.W PySem.Spec PyProof.Rows L2
theorem hA (K : PySem.W.Frag) (z x q : PySem.Str) (s : Stmt) {dv : Value} {f : Addr} {oc kV dc pm cd ct : Value} {od an : Option Addr} {sl : Array (Option Value)} (e : dv = .none) (a : PySem.W.nsIn K mainGlobals z = some (some (.ref f))) (l : K.lookup f = some ⟨oc, od, .func (PySem.W.fnOf x q (defArgs s) (defBody s) (defScope s) dv kV dc pm an cd ct), sl⟩) (c : PySem.W.codeIn K cd q = true) (k : PySem.W.keepIn K (.ref f) = true) : PySem.W.nsIn K mainGlobals z = some (some (.ref f)) ∧ K.lookup f = some ⟨oc, od, .func (PySem.W.fnOf x q (defArgs s) (defBody s) (defScope s) dv kV dc pm an cd ct), sl⟩ ∧ PySem.W.codeIn K cd q = true ∧ PySem.W.keepIn K (.ref f) = true := ⟨a, l, c, k⟩
theorem hM (K : PySem.W.Frag) (C : Addr) (x q : PySem.Str) (s : Stmt) (dv : Value) {f : Addr} {oc kV dc pm cd ct : Value} {od an : Option Addr} {sl : Array (Option Value)} (a : PySem.W.findIn K (.ref C) x = some (some (.ref f))) (l : K.lookup f = some ⟨oc, od, .func (PySem.W.fnOf x q (defArgs s) (defBody s) (defScope s) dv kV dc pm an cd ct), sl⟩) (c : PySem.W.codeIn K cd q = true) (k : PySem.W.keepIn K (.ref f) = true) (t : PySem.W.typeIn K (.ref f) = some (.type "function")) : PySem.W.findIn K (.ref C) x = some (some (.ref f)) ∧ K.lookup f = some ⟨oc, od, .func (PySem.W.fnOf x q (defArgs s) (defBody s) (defScope s) dv kV dc pm an cd ct), sl⟩ ∧ PySem.W.codeIn K cd q = true ∧ PySem.W.keepIn K (.ref f) = true ∧ PySem.W.typeIn K (.ref f) = some (.type "function") := ⟨a, l, c, k, t⟩
def fd0 (P : Params) := hA (probe.heap_1 P) "_law_mix" "_law_mix" "_law_mix" sMix (dv := .none) rfl (by k_is) (by k_is) (by k_is) (by k_is)
def fd1 (P : Params) := hA (probe.heap_1 P) "_law_hand" "_law_hand" "_law_hand" sHand (dv := .none) rfl (by k_is) (by k_is) (by k_is) (by k_is)
def fd2 (P : Params) := hA (probe.heap_1 P) "_law_draw" "_law_draw" "_law_draw" sDraw (dv := .none) rfl (by k_is) (by k_is) (by k_is) (by k_is)
def fd3 (P : Params) := hA (probe.heap_1 P) "_law_one" "_law_one" "_law_one" sOne (dv := .none) rfl (by k_is) (by k_is) (by k_is) (by k_is)
def fd4 (P : Params) := hA (probe.heap_1 P) "_law_word" "_law_word" "_law_word" sWord (dv := .none) rfl (by k_is) (by k_is) (by k_is) (by k_is)
def fd5 (P : Params) := hA (probe.heap_1 P) "_law_odd" "_law_odd" "_law_odd" sOdd (dv := .none) rfl (by k_is) (by k_is) (by k_is) (by k_is)
def fd6 (P : Params) := hA (probe.heap_1 P) "_law_first" "_law_first" "_law_first" sLFirst (dv := .none) rfl (by k_is) (by k_is) (by k_is) (by k_is)
def fd7 (P : Params) := hA (probe.heap_1 P) "_law_second" "_law_second" "_law_second" sLSecond (dv := .none) rfl (by k_is) (by k_is) (by k_is) (by k_is)
def fd8 (P : Params) := hA (probe.heap_1 P) "_law_third" "_law_third" "_law_third" sLThird (dv := .none) rfl (by k_is) (by k_is) (by k_is) (by k_is)
def fd9 (P : Params) := hA (probe.heap_1 P) "_law_kin" "_law_kin" "_law_kin" sLKin (dv := .none) rfl (by k_is) (by k_is) (by k_is) (by k_is)
def fd10 (P : Params) := hA (probe.heap_1 P) "_law_raised" "_law_raised" "_law_raised" sLRaised (dv := .none) rfl (by k_is) (by k_is) (by k_is) (by k_is)
def fd11 (P : Params) := hA (probe.heap_1 P) "law" "law" "law" sLaw (dv := .none) rfl (by k_is) (by k_is) (by k_is) (by k_is)
def fm0 (P : Params) := hM (probe.heap_1 P) 44 "__init__" "BadKinds.__init__" sBadKinds_init .none (by k_is) (by k_is) (by k_is) (by k_is) (by k_is)
def fm1 (P : Params) := hM (probe.heap_1 P) 63 "__init__" "NoKind.__init__" sNoKind_init .none (by k_is) (by k_is) (by k_is) (by k_is) (by k_is)
def fm2 (P : Params) := hM (probe.heap_1 P) 82 "__init__" "BadHistory.__init__" sBadHistory_init .none (by k_is) (by k_is) (by k_is) (by k_is) (by k_is)
def fm3 (P : Params) := hM (probe.heap_1 P) 101 "__init__" "BadYears.__init__" sBadYears_init .none (by k_is) (by k_is) (by k_is) (by k_is) (by k_is)
def fm5 (P : Params) := hM (probe.heap_1 P) 132 "__init__" "BadMap.__init__" sBadMap_init .none (by k_is) (by k_is) (by k_is) (by k_is) (by k_is)
def fm6 (P : Params) := hM (probe.heap_1 P) 151 "__init__" "BadPerson.__init__" sBadPerson_init .none (by k_is) (by k_is) (by k_is) (by k_is) (by k_is)
def fm7 (P : Params) := hM (probe.heap_1 P) 170 "__init__" "BadText.__init__" sBadText_init .none (by k_is) (by k_is) (by k_is) (by k_is) (by k_is)
def fm8 (P : Params) := hM (probe.heap_1 P) 189 "__init__" "BadStand.__init__" sBadStand_init .none (by k_is) (by k_is) (by k_is) (by k_is) (by k_is)
def fm9 (P : Params) := hM (probe.heap_1 P) 208 "__init__" "BadDeed.__init__" sBadDeed_init .none (by k_is) (by k_is) (by k_is) (by k_is) (by k_is)
def fm10 (P : Params) := hM (probe.heap_1 P) 227 "__init__" "BadCondition.__init__" sBadCondition_init .none (by k_is) (by k_is) (by k_is) (by k_is) (by k_is)
def fm11 (P : Params) := hM (probe.heap_1 P) 246 "__init__" "BadChange.__init__" sBadChange_init .none (by k_is) (by k_is) (by k_is) (by k_is) (by k_is)
def fm12 (P : Params) := hM (probe.heap_1 P) 265 "__init__" "BadClause.__init__" sBadClause_init .none (by k_is) (by k_is) (by k_is) (by k_is) (by k_is)
def fm13 (P : Params) := hM (probe.heap_1 P) 284 "__init__" "BadCustom.__init__" sBadCustom_init .none (by k_is) (by k_is) (by k_is) (by k_is) (by k_is)
def fm14 (P : Params) := hM (probe.heap_1 P) 303 "__init__" "BadQuestion.__init__" sBadQuestion_init .none (by k_is) (by k_is) (by k_is) (by k_is) (by k_is)
def fm15 (P : Params) := hM (probe.heap_1 P) 322 "__init__" "TooMany.__init__" sTooMany_init .none (by k_is) (by k_is) (by k_is) (by k_is) (by k_is)
def fm16 (P : Params) := hM (probe.heap_1 P) 341 "__init__" "BadSeat.__init__" sBadSeat_init .none (by k_is) (by k_is) (by k_is) (by k_is) (by k_is)
def fm17 (P : Params) := hM (probe.heap_1 P) 360 "__init__" "BadClock.__init__" sBadClock_init .none (by k_is) (by k_is) (by k_is) (by k_is) (by k_is)
def fm18 (P : Params) := hM (probe.heap_1 P) 379 "__init__" "NoClause.__init__" sNoClause_init .none (by k_is) (by k_is) (by k_is) (by k_is) (by k_is)
def fm19 (P : Params) := hM (probe.heap_1 P) 398 "__init__" "BadShape.__init__" sBadShape_init .none (by k_is) (by k_is) (by k_is) (by k_is) (by k_is)
def fm20 (P : Params) := hM (probe.heap_1 P) 417 "__init__" "BadSpot.__init__" sBadSpot_init .none (by k_is) (by k_is) (by k_is) (by k_is) (by k_is)
def fm22 (P : Params) := hM (probe.heap_1 P) 448 "__init__" "BadLikeness.__init__" sBadLikeness_init .none (by k_is) (by k_is) (by k_is) (by k_is) (by k_is)
def fm23 (P : Params) := hM (probe.heap_1 P) 467 "__init__" "BadIndex.__init__" sBadIndex_init .none (by k_is) (by k_is) (by k_is) (by k_is) (by k_is)
def fm24 (P : Params) := hM (probe.heap_1 P) 486 "__init__" "BadPair.__init__" sBadPair_init .none (by k_is) (by k_is) (by k_is) (by k_is) (by k_is)
def fm25 (P : Params) := hM (probe.heap_1 P) 505 "__init__" "BadHeights.__init__" sBadHeights_init .none (by k_is) (by k_is) (by k_is) (by k_is) (by k_is)
def fm27 (P : Params) := hM (probe.heap_1 P) 536 "__init__" "BadPasts.__init__" sBadPasts_init .none (by k_is) (by k_is) (by k_is) (by k_is) (by k_is)
def fm28 (P : Params) := hM (probe.heap_1 P) 555 "__init__" "BadRings.__init__" sBadRings_init .none (by k_is) (by k_is) (by k_is) (by k_is) (by k_is)
def fm29 (P : Params) := hM (probe.heap_1 P) 574 "__init__" "BadTurns.__init__" sBadTurns_init .none (by k_is) (by k_is) (by k_is) (by k_is) (by k_is)
def fm30 (P : Params) := hM (probe.heap_1 P) 593 "__init__" "BadEntry.__init__" sBadEntry_init .none (by k_is) (by k_is) (by k_is) (by k_is) (by k_is)
def fm31 (P : Params) := hM (probe.heap_1 P) 612 "__init__" "BadAbstract.__init__" sBadAbstract_init .none (by k_is) (by k_is) (by k_is) (by k_is) (by k_is)
def fm32 (P : Params) := hM (probe.heap_1 P) 631 "__init__" "BadBook.__init__" sBadBook_init .none (by k_is) (by k_is) (by k_is) (by k_is) (by k_is)
def fm33 (P : Params) := hM (probe.heap_1 P) 650 "__init__" "BadShelf.__init__" sBadShelf_init .none (by k_is) (by k_is) (by k_is) (by k_is) (by k_is)
def fm34 (P : Params) := hM (probe.heap_1 P) 669 "__init__" "BadRound.__init__" sBadRound_init .none (by k_is) (by k_is) (by k_is) (by k_is) (by k_is)
def fm35 (P : Params) := hM (probe.heap_1 P) 688 "__init__" "BadRest.__init__" sBadRest_init .none (by k_is) (by k_is) (by k_is) (by k_is) (by k_is)
def fm39 (P : Params) := hM (probe.heap_1 P) 743 "__init__" "BadDocket.__init__" sBadDocket_init .none (by k_is) (by k_is) (by k_is) (by k_is) (by k_is)
def fm40 (P : Params) := hM (probe.heap_1 P) 762 "__init__" "NoYear.__init__" sNoYear_init .none (by k_is) (by k_is) (by k_is) (by k_is) (by k_is)
def fm41 (P : Params) := hM (probe.heap_1 P) 781 "__init__" "YearIsShut.__init__" sYearIsShut_init .none (by k_is) (by k_is) (by k_is) (by k_is) (by k_is)
def fm42 (P : Params) := hM (probe.heap_1 P) 800 "__init__" "YearIsNotShut.__init__" sYearIsNotShut_init .none (by k_is) (by k_is) (by k_is) (by k_is) (by k_is)
def fm43 (P : Params) := hM (probe.heap_1 P) 819 "__init__" "NoPlace.__init__" sNoPlace_init .none (by k_is) (by k_is) (by k_is) (by k_is) (by k_is)
def fm44 (P : Params) := hM (probe.heap_1 P) 838 "__init__" "NoNews.__init__" sNoNews_init .none (by k_is) (by k_is) (by k_is) (by k_is) (by k_is)
def fm45 (P : Params) := hM (probe.heap_1 P) 857 "__init__" "Overfull.__init__" sOverfull_init .none (by k_is) (by k_is) (by k_is) (by k_is) (by k_is)
def fm47 (P : Params) := hM (probe.heap_1 P) 888 "__init__" "TooLoose.__init__" sTooLoose_init .none (by k_is) (by k_is) (by k_is) (by k_is) (by k_is)
def fm48 (P : Params) := hM (probe.heap_1 P) 907 "__init__" "BadAmendment.__init__" sBadAmendment_init .none (by k_is) (by k_is) (by k_is) (by k_is) (by k_is)
def fm49 (P : Params) := hM (probe.heap_1 P) 926 "__init__" "BadPool.__init__" sBadPool_init .none (by k_is) (by k_is) (by k_is) (by k_is) (by k_is)
def fm50 (P : Params) := hM (probe.heap_1 P) 945 "__init__" "BadLot.__init__" sBadLot_init .none (by k_is) (by k_is) (by k_is) (by k_is) (by k_is)
def fm51 (P : Params) := hM (probe.heap_1 P) 964 "__init__" "Clash.__init__" sClash_init .none (by k_is) (by k_is) (by k_is) (by k_is) (by k_is)
def fm52 (P : Params) := hM (probe.heap_1 P) 983 "__init__" "NotParted.__init__" sNotParted_init .none (by k_is) (by k_is) (by k_is) (by k_is) (by k_is)
theorem fz_o0 (P : Params) : ∃ nm q N bs bm sn sub ab col dd k0 k1 k2 k3 k5, (probe.heap_1 P).lookup 44 = some (excClassObj nm q 44 N bs bm true sn sub ab col dd k0 k1 k2 k3 k5 "ValueError.__new__") ∧ PySem.HandSPX.refsVE bm = true := ⟨_, _, _, _, _, _, _, _, _, _, _, _, _, _, _, rfl, rfl⟩
theorem fz_o1 (P : Params) : ∃ nm q N bs bm sn sub ab col dd k0 k1 k2 k3 k5, (probe.heap_1 P).lookup 63 = some (excClassObj nm q 63 N bs bm true sn sub ab col dd k0 k1 k2 k3 k5 "ValueError.__new__") ∧ PySem.HandSPX.refsVE bm = true := ⟨_, _, _, _, _, _, _, _, _, _, _, _, _, _, _, rfl, rfl⟩
theorem fz_o2 (P : Params) : ∃ nm q N bs bm sn sub ab col dd k0 k1 k2 k3 k5, (probe.heap_1 P).lookup 82 = some (excClassObj nm q 82 N bs bm true sn sub ab col dd k0 k1 k2 k3 k5 "ValueError.__new__") ∧ PySem.HandSPX.refsVE bm = true := ⟨_, _, _, _, _, _, _, _, _, _, _, _, _, _, _, rfl, rfl⟩
theorem fz_o3 (P : Params) : ∃ nm q N bs bm sn sub ab col dd k0 k1 k2 k3 k5, (probe.heap_1 P).lookup 101 = some (excClassObj nm q 101 N bs bm true sn sub ab col dd k0 k1 k2 k3 k5 "ValueError.__new__") ∧ PySem.HandSPX.refsVE bm = true := ⟨_, _, _, _, _, _, _, _, _, _, _, _, _, _, _, rfl, rfl⟩
theorem fz_o5 (P : Params) : ∃ nm q N bs bm sn sub ab col dd k0 k1 k2 k3 k5, (probe.heap_1 P).lookup 132 = some (excClassObj nm q 132 N bs bm true sn sub ab col dd k0 k1 k2 k3 k5 "ValueError.__new__") ∧ PySem.HandSPX.refsVE bm = true := ⟨_, _, _, _, _, _, _, _, _, _, _, _, _, _, _, rfl, rfl⟩
theorem fz_o6 (P : Params) : ∃ nm q N bs bm sn sub ab col dd k0 k1 k2 k3 k5, (probe.heap_1 P).lookup 151 = some (excClassObj nm q 151 N bs bm true sn sub ab col dd k0 k1 k2 k3 k5 "ValueError.__new__") ∧ PySem.HandSPX.refsVE bm = true := ⟨_, _, _, _, _, _, _, _, _, _, _, _, _, _, _, rfl, rfl⟩
theorem fz_o7 (P : Params) : ∃ nm q N bs bm sn sub ab col dd k0 k1 k2 k3 k5, (probe.heap_1 P).lookup 170 = some (excClassObj nm q 170 N bs bm true sn sub ab col dd k0 k1 k2 k3 k5 "ValueError.__new__") ∧ PySem.HandSPX.refsVE bm = true := ⟨_, _, _, _, _, _, _, _, _, _, _, _, _, _, _, rfl, rfl⟩
theorem fz_o8 (P : Params) : ∃ nm q N bs bm sn sub ab col dd k0 k1 k2 k3 k5, (probe.heap_1 P).lookup 189 = some (excClassObj nm q 189 N bs bm true sn sub ab col dd k0 k1 k2 k3 k5 "ValueError.__new__") ∧ PySem.HandSPX.refsVE bm = true := ⟨_, _, _, _, _, _, _, _, _, _, _, _, _, _, _, rfl, rfl⟩
theorem fz_o9 (P : Params) : ∃ nm q N bs bm sn sub ab col dd k0 k1 k2 k3 k5, (probe.heap_1 P).lookup 208 = some (excClassObj nm q 208 N bs bm true sn sub ab col dd k0 k1 k2 k3 k5 "ValueError.__new__") ∧ PySem.HandSPX.refsVE bm = true := ⟨_, _, _, _, _, _, _, _, _, _, _, _, _, _, _, rfl, rfl⟩
theorem fz_o10 (P : Params) : ∃ nm q N bs bm sn sub ab col dd k0 k1 k2 k3 k5, (probe.heap_1 P).lookup 227 = some (excClassObj nm q 227 N bs bm true sn sub ab col dd k0 k1 k2 k3 k5 "ValueError.__new__") ∧ PySem.HandSPX.refsVE bm = true := ⟨_, _, _, _, _, _, _, _, _, _, _, _, _, _, _, rfl, rfl⟩
theorem fz_o11 (P : Params) : ∃ nm q N bs bm sn sub ab col dd k0 k1 k2 k3 k5, (probe.heap_1 P).lookup 246 = some (excClassObj nm q 246 N bs bm true sn sub ab col dd k0 k1 k2 k3 k5 "ValueError.__new__") ∧ PySem.HandSPX.refsVE bm = true := ⟨_, _, _, _, _, _, _, _, _, _, _, _, _, _, _, rfl, rfl⟩
theorem fz_o12 (P : Params) : ∃ nm q N bs bm sn sub ab col dd k0 k1 k2 k3 k5, (probe.heap_1 P).lookup 265 = some (excClassObj nm q 265 N bs bm true sn sub ab col dd k0 k1 k2 k3 k5 "ValueError.__new__") ∧ PySem.HandSPX.refsVE bm = true := ⟨_, _, _, _, _, _, _, _, _, _, _, _, _, _, _, rfl, rfl⟩
theorem fz_o13 (P : Params) : ∃ nm q N bs bm sn sub ab col dd k0 k1 k2 k3 k5, (probe.heap_1 P).lookup 284 = some (excClassObj nm q 284 N bs bm true sn sub ab col dd k0 k1 k2 k3 k5 "ValueError.__new__") ∧ PySem.HandSPX.refsVE bm = true := ⟨_, _, _, _, _, _, _, _, _, _, _, _, _, _, _, rfl, rfl⟩
theorem fz_o14 (P : Params) : ∃ nm q N bs bm sn sub ab col dd k0 k1 k2 k3 k5, (probe.heap_1 P).lookup 303 = some (excClassObj nm q 303 N bs bm true sn sub ab col dd k0 k1 k2 k3 k5 "ValueError.__new__") ∧ PySem.HandSPX.refsVE bm = true := ⟨_, _, _, _, _, _, _, _, _, _, _, _, _, _, _, rfl, rfl⟩
theorem fz_o15 (P : Params) : ∃ nm q N bs bm sn sub ab col dd k0 k1 k2 k3 k5, (probe.heap_1 P).lookup 322 = some (excClassObj nm q 322 N bs bm true sn sub ab col dd k0 k1 k2 k3 k5 "ValueError.__new__") ∧ PySem.HandSPX.refsVE bm = true := ⟨_, _, _, _, _, _, _, _, _, _, _, _, _, _, _, rfl, rfl⟩
theorem fz_o16 (P : Params) : ∃ nm q N bs bm sn sub ab col dd k0 k1 k2 k3 k5, (probe.heap_1 P).lookup 341 = some (excClassObj nm q 341 N bs bm true sn sub ab col dd k0 k1 k2 k3 k5 "ValueError.__new__") ∧ PySem.HandSPX.refsVE bm = true := ⟨_, _, _, _, _, _, _, _, _, _, _, _, _, _, _, rfl, rfl⟩
theorem fz_o17 (P : Params) : ∃ nm q N bs bm sn sub ab col dd k0 k1 k2 k3 k5, (probe.heap_1 P).lookup 360 = some (excClassObj nm q 360 N bs bm true sn sub ab col dd k0 k1 k2 k3 k5 "ValueError.__new__") ∧ PySem.HandSPX.refsVE bm = true := ⟨_, _, _, _, _, _, _, _, _, _, _, _, _, _, _, rfl, rfl⟩
theorem fz_o18 (P : Params) : ∃ nm q N bs bm sn sub ab col dd k0 k1 k2 k3 k5, (probe.heap_1 P).lookup 379 = some (excClassObj nm q 379 N bs bm true sn sub ab col dd k0 k1 k2 k3 k5 "ValueError.__new__") ∧ PySem.HandSPX.refsVE bm = true := ⟨_, _, _, _, _, _, _, _, _, _, _, _, _, _, _, rfl, rfl⟩
theorem fz_o19 (P : Params) : ∃ nm q N bs bm sn sub ab col dd k0 k1 k2 k3 k5, (probe.heap_1 P).lookup 398 = some (excClassObj nm q 398 N bs bm true sn sub ab col dd k0 k1 k2 k3 k5 "ValueError.__new__") ∧ PySem.HandSPX.refsVE bm = true := ⟨_, _, _, _, _, _, _, _, _, _, _, _, _, _, _, rfl, rfl⟩
theorem fz_o20 (P : Params) : ∃ nm q N bs bm sn sub ab col dd k0 k1 k2 k3 k5, (probe.heap_1 P).lookup 417 = some (excClassObj nm q 417 N bs bm true sn sub ab col dd k0 k1 k2 k3 k5 "ValueError.__new__") ∧ PySem.HandSPX.refsVE bm = true := ⟨_, _, _, _, _, _, _, _, _, _, _, _, _, _, _, rfl, rfl⟩
theorem fz_o22 (P : Params) : ∃ nm q N bs bm sn sub ab col dd k0 k1 k2 k3 k5, (probe.heap_1 P).lookup 448 = some (excClassObj nm q 448 N bs bm true sn sub ab col dd k0 k1 k2 k3 k5 "ValueError.__new__") ∧ PySem.HandSPX.refsVE bm = true := ⟨_, _, _, _, _, _, _, _, _, _, _, _, _, _, _, rfl, rfl⟩
theorem fz_o23 (P : Params) : ∃ nm q N bs bm sn sub ab col dd k0 k1 k2 k3 k5, (probe.heap_1 P).lookup 467 = some (excClassObj nm q 467 N bs bm true sn sub ab col dd k0 k1 k2 k3 k5 "ValueError.__new__") ∧ PySem.HandSPX.refsVE bm = true := ⟨_, _, _, _, _, _, _, _, _, _, _, _, _, _, _, rfl, rfl⟩
theorem fz_o24 (P : Params) : ∃ nm q N bs bm sn sub ab col dd k0 k1 k2 k3 k5, (probe.heap_1 P).lookup 486 = some (excClassObj nm q 486 N bs bm true sn sub ab col dd k0 k1 k2 k3 k5 "ValueError.__new__") ∧ PySem.HandSPX.refsVE bm = true := ⟨_, _, _, _, _, _, _, _, _, _, _, _, _, _, _, rfl, rfl⟩
theorem fz_o25 (P : Params) : ∃ nm q N bs bm sn sub ab col dd k0 k1 k2 k3 k5, (probe.heap_1 P).lookup 505 = some (excClassObj nm q 505 N bs bm true sn sub ab col dd k0 k1 k2 k3 k5 "ValueError.__new__") ∧ PySem.HandSPX.refsVE bm = true := ⟨_, _, _, _, _, _, _, _, _, _, _, _, _, _, _, rfl, rfl⟩
theorem fz_o27 (P : Params) : ∃ nm q N bs bm sn sub ab col dd k0 k1 k2 k3 k5, (probe.heap_1 P).lookup 536 = some (excClassObj nm q 536 N bs bm true sn sub ab col dd k0 k1 k2 k3 k5 "ValueError.__new__") ∧ PySem.HandSPX.refsVE bm = true := ⟨_, _, _, _, _, _, _, _, _, _, _, _, _, _, _, rfl, rfl⟩
theorem fz_o28 (P : Params) : ∃ nm q N bs bm sn sub ab col dd k0 k1 k2 k3 k5, (probe.heap_1 P).lookup 555 = some (excClassObj nm q 555 N bs bm true sn sub ab col dd k0 k1 k2 k3 k5 "ValueError.__new__") ∧ PySem.HandSPX.refsVE bm = true := ⟨_, _, _, _, _, _, _, _, _, _, _, _, _, _, _, rfl, rfl⟩
theorem fz_o29 (P : Params) : ∃ nm q N bs bm sn sub ab col dd k0 k1 k2 k3 k5, (probe.heap_1 P).lookup 574 = some (excClassObj nm q 574 N bs bm true sn sub ab col dd k0 k1 k2 k3 k5 "ValueError.__new__") ∧ PySem.HandSPX.refsVE bm = true := ⟨_, _, _, _, _, _, _, _, _, _, _, _, _, _, _, rfl, rfl⟩
theorem fz_o30 (P : Params) : ∃ nm q N bs bm sn sub ab col dd k0 k1 k2 k3 k5, (probe.heap_1 P).lookup 593 = some (excClassObj nm q 593 N bs bm true sn sub ab col dd k0 k1 k2 k3 k5 "ValueError.__new__") ∧ PySem.HandSPX.refsVE bm = true := ⟨_, _, _, _, _, _, _, _, _, _, _, _, _, _, _, rfl, rfl⟩
theorem fz_o31 (P : Params) : ∃ nm q N bs bm sn sub ab col dd k0 k1 k2 k3 k5, (probe.heap_1 P).lookup 612 = some (excClassObj nm q 612 N bs bm true sn sub ab col dd k0 k1 k2 k3 k5 "ValueError.__new__") ∧ PySem.HandSPX.refsVE bm = true := ⟨_, _, _, _, _, _, _, _, _, _, _, _, _, _, _, rfl, rfl⟩
theorem fz_o32 (P : Params) : ∃ nm q N bs bm sn sub ab col dd k0 k1 k2 k3 k5, (probe.heap_1 P).lookup 631 = some (excClassObj nm q 631 N bs bm true sn sub ab col dd k0 k1 k2 k3 k5 "ValueError.__new__") ∧ PySem.HandSPX.refsVE bm = true := ⟨_, _, _, _, _, _, _, _, _, _, _, _, _, _, _, rfl, rfl⟩
theorem fz_o33 (P : Params) : ∃ nm q N bs bm sn sub ab col dd k0 k1 k2 k3 k5, (probe.heap_1 P).lookup 650 = some (excClassObj nm q 650 N bs bm true sn sub ab col dd k0 k1 k2 k3 k5 "ValueError.__new__") ∧ PySem.HandSPX.refsVE bm = true := ⟨_, _, _, _, _, _, _, _, _, _, _, _, _, _, _, rfl, rfl⟩
theorem fz_o34 (P : Params) : ∃ nm q N bs bm sn sub ab col dd k0 k1 k2 k3 k5, (probe.heap_1 P).lookup 669 = some (excClassObj nm q 669 N bs bm true sn sub ab col dd k0 k1 k2 k3 k5 "ValueError.__new__") ∧ PySem.HandSPX.refsVE bm = true := ⟨_, _, _, _, _, _, _, _, _, _, _, _, _, _, _, rfl, rfl⟩
theorem fz_o35 (P : Params) : ∃ nm q N bs bm sn sub ab col dd k0 k1 k2 k3 k5, (probe.heap_1 P).lookup 688 = some (excClassObj nm q 688 N bs bm true sn sub ab col dd k0 k1 k2 k3 k5 "ValueError.__new__") ∧ PySem.HandSPX.refsVE bm = true := ⟨_, _, _, _, _, _, _, _, _, _, _, _, _, _, _, rfl, rfl⟩
theorem fz_o39 (P : Params) : ∃ nm q N bs bm sn sub ab col dd k0 k1 k2 k3 k5, (probe.heap_1 P).lookup 743 = some (excClassObj nm q 743 N bs bm true sn sub ab col dd k0 k1 k2 k3 k5 "ValueError.__new__") ∧ PySem.HandSPX.refsVE bm = true := ⟨_, _, _, _, _, _, _, _, _, _, _, _, _, _, _, rfl, rfl⟩
theorem fz_o40 (P : Params) : ∃ nm q N bs bm sn sub ab col dd k0 k1 k2 k3 k5, (probe.heap_1 P).lookup 762 = some (excClassObj nm q 762 N bs bm true sn sub ab col dd k0 k1 k2 k3 k5 "ValueError.__new__") ∧ PySem.HandSPX.refsVE bm = true := ⟨_, _, _, _, _, _, _, _, _, _, _, _, _, _, _, rfl, rfl⟩
theorem fz_o41 (P : Params) : ∃ nm q N bs bm sn sub ab col dd k0 k1 k2 k3 k5, (probe.heap_1 P).lookup 781 = some (excClassObj nm q 781 N bs bm true sn sub ab col dd k0 k1 k2 k3 k5 "ValueError.__new__") ∧ PySem.HandSPX.refsVE bm = true := ⟨_, _, _, _, _, _, _, _, _, _, _, _, _, _, _, rfl, rfl⟩
theorem fz_o42 (P : Params) : ∃ nm q N bs bm sn sub ab col dd k0 k1 k2 k3 k5, (probe.heap_1 P).lookup 800 = some (excClassObj nm q 800 N bs bm true sn sub ab col dd k0 k1 k2 k3 k5 "ValueError.__new__") ∧ PySem.HandSPX.refsVE bm = true := ⟨_, _, _, _, _, _, _, _, _, _, _, _, _, _, _, rfl, rfl⟩
theorem fz_o43 (P : Params) : ∃ nm q N bs bm sn sub ab col dd k0 k1 k2 k3 k5, (probe.heap_1 P).lookup 819 = some (excClassObj nm q 819 N bs bm true sn sub ab col dd k0 k1 k2 k3 k5 "ValueError.__new__") ∧ PySem.HandSPX.refsVE bm = true := ⟨_, _, _, _, _, _, _, _, _, _, _, _, _, _, _, rfl, rfl⟩
theorem fz_o44 (P : Params) : ∃ nm q N bs bm sn sub ab col dd k0 k1 k2 k3 k5, (probe.heap_1 P).lookup 838 = some (excClassObj nm q 838 N bs bm true sn sub ab col dd k0 k1 k2 k3 k5 "ValueError.__new__") ∧ PySem.HandSPX.refsVE bm = true := ⟨_, _, _, _, _, _, _, _, _, _, _, _, _, _, _, rfl, rfl⟩
theorem fz_o45 (P : Params) : ∃ nm q N bs bm sn sub ab col dd k0 k1 k2 k3 k5, (probe.heap_1 P).lookup 857 = some (excClassObj nm q 857 N bs bm true sn sub ab col dd k0 k1 k2 k3 k5 "ValueError.__new__") ∧ PySem.HandSPX.refsVE bm = true := ⟨_, _, _, _, _, _, _, _, _, _, _, _, _, _, _, rfl, rfl⟩
theorem fz_o47 (P : Params) : ∃ nm q N bs bm sn sub ab col dd k0 k1 k2 k3 k5, (probe.heap_1 P).lookup 888 = some (excClassObj nm q 888 N bs bm true sn sub ab col dd k0 k1 k2 k3 k5 "ValueError.__new__") ∧ PySem.HandSPX.refsVE bm = true := ⟨_, _, _, _, _, _, _, _, _, _, _, _, _, _, _, rfl, rfl⟩
theorem fz_o48 (P : Params) : ∃ nm q N bs bm sn sub ab col dd k0 k1 k2 k3 k5, (probe.heap_1 P).lookup 907 = some (excClassObj nm q 907 N bs bm true sn sub ab col dd k0 k1 k2 k3 k5 "ValueError.__new__") ∧ PySem.HandSPX.refsVE bm = true := ⟨_, _, _, _, _, _, _, _, _, _, _, _, _, _, _, rfl, rfl⟩
theorem fz_o49 (P : Params) : ∃ nm q N bs bm sn sub ab col dd k0 k1 k2 k3 k5, (probe.heap_1 P).lookup 926 = some (excClassObj nm q 926 N bs bm true sn sub ab col dd k0 k1 k2 k3 k5 "ValueError.__new__") ∧ PySem.HandSPX.refsVE bm = true := ⟨_, _, _, _, _, _, _, _, _, _, _, _, _, _, _, rfl, rfl⟩
theorem fz_o50 (P : Params) : ∃ nm q N bs bm sn sub ab col dd k0 k1 k2 k3 k5, (probe.heap_1 P).lookup 945 = some (excClassObj nm q 945 N bs bm true sn sub ab col dd k0 k1 k2 k3 k5 "ValueError.__new__") ∧ PySem.HandSPX.refsVE bm = true := ⟨_, _, _, _, _, _, _, _, _, _, _, _, _, _, _, rfl, rfl⟩
theorem fz_o51 (P : Params) : ∃ nm q N bs bm sn sub ab col dd k0 k1 k2 k3 k5, (probe.heap_1 P).lookup 964 = some (excClassObj nm q 964 N bs bm true sn sub ab col dd k0 k1 k2 k3 k5 "ValueError.__new__") ∧ PySem.HandSPX.refsVE bm = true := ⟨_, _, _, _, _, _, _, _, _, _, _, _, _, _, _, rfl, rfl⟩
theorem fz_o52 (P : Params) : ∃ nm q N bs bm sn sub ab col dd k0 k1 k2 k3 k5, (probe.heap_1 P).lookup 983 = some (excClassObj nm q 983 N bs bm true sn sub ab col dd k0 k1 k2 k3 k5 "ValueError.__new__") ∧ PySem.HandSPX.refsVE bm = true := ⟨_, _, _, _, _, _, _, _, _, _, _, _, _, _, _, rfl, rfl⟩
theorem fz_q4 (P : Params) : PySem.W.excIn (probe.heap_1 P) 113 excBmB "ValueError.__new__" = true := by first | k_is | exact rfl | kernel_rfl | decide +kernel
theorem fz_q21 (P : Params) : PySem.W.excIn (probe.heap_1 P) 429 excBmB "ValueError.__new__" = true := by first | k_is | exact rfl | kernel_rfl | decide +kernel
theorem fz_q26 (P : Params) : PySem.W.excIn (probe.heap_1 P) 517 excBmB "ValueError.__new__" = true := by first | k_is | exact rfl | kernel_rfl | decide +kernel
theorem fz_q36 (P : Params) : PySem.W.excIn (probe.heap_1 P) 700 excBmB "ValueError.__new__" = true := by first | k_is | exact rfl | kernel_rfl | decide +kernel
theorem fz_q37 (P : Params) : PySem.W.excIn (probe.heap_1 P) 712 excBmB "ValueError.__new__" = true := by first | k_is | exact rfl | kernel_rfl | decide +kernel
theorem fz_q38 (P : Params) : PySem.W.excIn (probe.heap_1 P) 724 excBmB "ValueError.__new__" = true := by first | k_is | exact rfl | kernel_rfl | decide +kernel
theorem fz_q46 (P : Params) : PySem.W.excIn (probe.heap_1 P) 869 excBmB "ValueError.__new__" = true := by first | k_is | exact rfl | kernel_rfl | decide +kernel
theorem fz_qS (P : Params) : PySem.W.excIn (probe.heap_1 P) 24 excBmB "ValueError.__new__" = true := by first | k_is | exact rfl | kernel_rfl | decide +kernel
theorem fz_r0 (P : Params) : ∃ cd, PySem.W.clsIn (probe.heap_1 P) 44 = some cd ∧ cd.mro = mroT 44 := ⟨_, rfl, rfl⟩
theorem fz_r1 (P : Params) : ∃ cd, PySem.W.clsIn (probe.heap_1 P) 63 = some cd ∧ cd.mro = mroT 63 := ⟨_, rfl, rfl⟩
theorem fz_r2 (P : Params) : ∃ cd, PySem.W.clsIn (probe.heap_1 P) 82 = some cd ∧ cd.mro = mroT 82 := ⟨_, rfl, rfl⟩
theorem fz_r3 (P : Params) : ∃ cd, PySem.W.clsIn (probe.heap_1 P) 101 = some cd ∧ cd.mro = mroT 101 := ⟨_, rfl, rfl⟩
theorem fz_r4 (P : Params) : ∃ cd, PySem.W.clsIn (probe.heap_1 P) 113 = some cd ∧ cd.mro = mroT 113 := ⟨_, rfl, rfl⟩
theorem fz_r5 (P : Params) : ∃ cd, PySem.W.clsIn (probe.heap_1 P) 132 = some cd ∧ cd.mro = mroT 132 := ⟨_, rfl, rfl⟩
theorem fz_r6 (P : Params) : ∃ cd, PySem.W.clsIn (probe.heap_1 P) 151 = some cd ∧ cd.mro = mroT 151 := ⟨_, rfl, rfl⟩
theorem fz_r7 (P : Params) : ∃ cd, PySem.W.clsIn (probe.heap_1 P) 170 = some cd ∧ cd.mro = mroT 170 := ⟨_, rfl, rfl⟩
theorem fz_r8 (P : Params) : ∃ cd, PySem.W.clsIn (probe.heap_1 P) 189 = some cd ∧ cd.mro = mroT 189 := ⟨_, rfl, rfl⟩
theorem fz_r9 (P : Params) : ∃ cd, PySem.W.clsIn (probe.heap_1 P) 208 = some cd ∧ cd.mro = mroT 208 := ⟨_, rfl, rfl⟩
theorem fz_r10 (P : Params) : ∃ cd, PySem.W.clsIn (probe.heap_1 P) 227 = some cd ∧ cd.mro = mroT 227 := ⟨_, rfl, rfl⟩
theorem fz_r11 (P : Params) : ∃ cd, PySem.W.clsIn (probe.heap_1 P) 246 = some cd ∧ cd.mro = mroT 246 := ⟨_, rfl, rfl⟩
theorem fz_r12 (P : Params) : ∃ cd, PySem.W.clsIn (probe.heap_1 P) 265 = some cd ∧ cd.mro = mroT 265 := ⟨_, rfl, rfl⟩
theorem fz_r13 (P : Params) : ∃ cd, PySem.W.clsIn (probe.heap_1 P) 284 = some cd ∧ cd.mro = mroT 284 := ⟨_, rfl, rfl⟩
theorem fz_r14 (P : Params) : ∃ cd, PySem.W.clsIn (probe.heap_1 P) 303 = some cd ∧ cd.mro = mroT 303 := ⟨_, rfl, rfl⟩
theorem fz_r15 (P : Params) : ∃ cd, PySem.W.clsIn (probe.heap_1 P) 322 = some cd ∧ cd.mro = mroT 322 := ⟨_, rfl, rfl⟩
theorem fz_r16 (P : Params) : ∃ cd, PySem.W.clsIn (probe.heap_1 P) 341 = some cd ∧ cd.mro = mroT 341 := ⟨_, rfl, rfl⟩
theorem fz_r17 (P : Params) : ∃ cd, PySem.W.clsIn (probe.heap_1 P) 360 = some cd ∧ cd.mro = mroT 360 := ⟨_, rfl, rfl⟩
theorem fz_r18 (P : Params) : ∃ cd, PySem.W.clsIn (probe.heap_1 P) 379 = some cd ∧ cd.mro = mroT 379 := ⟨_, rfl, rfl⟩
theorem fz_r19 (P : Params) : ∃ cd, PySem.W.clsIn (probe.heap_1 P) 398 = some cd ∧ cd.mro = mroT 398 := ⟨_, rfl, rfl⟩
theorem fz_r20 (P : Params) : ∃ cd, PySem.W.clsIn (probe.heap_1 P) 417 = some cd ∧ cd.mro = mroT 417 := ⟨_, rfl, rfl⟩
theorem fz_r21 (P : Params) : ∃ cd, PySem.W.clsIn (probe.heap_1 P) 429 = some cd ∧ cd.mro = mroT 429 := ⟨_, rfl, rfl⟩
theorem fz_r22 (P : Params) : ∃ cd, PySem.W.clsIn (probe.heap_1 P) 448 = some cd ∧ cd.mro = mroT 448 := ⟨_, rfl, rfl⟩
theorem fz_r23 (P : Params) : ∃ cd, PySem.W.clsIn (probe.heap_1 P) 467 = some cd ∧ cd.mro = mroT 467 := ⟨_, rfl, rfl⟩
theorem fz_r24 (P : Params) : ∃ cd, PySem.W.clsIn (probe.heap_1 P) 486 = some cd ∧ cd.mro = mroT 486 := ⟨_, rfl, rfl⟩
theorem fz_r25 (P : Params) : ∃ cd, PySem.W.clsIn (probe.heap_1 P) 505 = some cd ∧ cd.mro = mroT 505 := ⟨_, rfl, rfl⟩
theorem fz_r26 (P : Params) : ∃ cd, PySem.W.clsIn (probe.heap_1 P) 517 = some cd ∧ cd.mro = mroT 517 := ⟨_, rfl, rfl⟩
theorem fz_r27 (P : Params) : ∃ cd, PySem.W.clsIn (probe.heap_1 P) 536 = some cd ∧ cd.mro = mroT 536 := ⟨_, rfl, rfl⟩
theorem fz_r28 (P : Params) : ∃ cd, PySem.W.clsIn (probe.heap_1 P) 555 = some cd ∧ cd.mro = mroT 555 := ⟨_, rfl, rfl⟩
theorem fz_r29 (P : Params) : ∃ cd, PySem.W.clsIn (probe.heap_1 P) 574 = some cd ∧ cd.mro = mroT 574 := ⟨_, rfl, rfl⟩
theorem fz_r30 (P : Params) : ∃ cd, PySem.W.clsIn (probe.heap_1 P) 593 = some cd ∧ cd.mro = mroT 593 := ⟨_, rfl, rfl⟩
theorem fz_r31 (P : Params) : ∃ cd, PySem.W.clsIn (probe.heap_1 P) 612 = some cd ∧ cd.mro = mroT 612 := ⟨_, rfl, rfl⟩
theorem fz_r32 (P : Params) : ∃ cd, PySem.W.clsIn (probe.heap_1 P) 631 = some cd ∧ cd.mro = mroT 631 := ⟨_, rfl, rfl⟩
theorem fz_r33 (P : Params) : ∃ cd, PySem.W.clsIn (probe.heap_1 P) 650 = some cd ∧ cd.mro = mroT 650 := ⟨_, rfl, rfl⟩
theorem fz_r34 (P : Params) : ∃ cd, PySem.W.clsIn (probe.heap_1 P) 669 = some cd ∧ cd.mro = mroT 669 := ⟨_, rfl, rfl⟩
theorem fz_r35 (P : Params) : ∃ cd, PySem.W.clsIn (probe.heap_1 P) 688 = some cd ∧ cd.mro = mroT 688 := ⟨_, rfl, rfl⟩
theorem fz_r36 (P : Params) : ∃ cd, PySem.W.clsIn (probe.heap_1 P) 700 = some cd ∧ cd.mro = mroT 700 := ⟨_, rfl, rfl⟩
theorem fz_r37 (P : Params) : ∃ cd, PySem.W.clsIn (probe.heap_1 P) 712 = some cd ∧ cd.mro = mroT 712 := ⟨_, rfl, rfl⟩
theorem fz_r38 (P : Params) : ∃ cd, PySem.W.clsIn (probe.heap_1 P) 724 = some cd ∧ cd.mro = mroT 724 := ⟨_, rfl, rfl⟩
theorem fz_r39 (P : Params) : ∃ cd, PySem.W.clsIn (probe.heap_1 P) 743 = some cd ∧ cd.mro = mroT 743 := ⟨_, rfl, rfl⟩
theorem fz_r40 (P : Params) : ∃ cd, PySem.W.clsIn (probe.heap_1 P) 762 = some cd ∧ cd.mro = mroT 762 := ⟨_, rfl, rfl⟩
theorem fz_r41 (P : Params) : ∃ cd, PySem.W.clsIn (probe.heap_1 P) 781 = some cd ∧ cd.mro = mroT 781 := ⟨_, rfl, rfl⟩
theorem fz_r42 (P : Params) : ∃ cd, PySem.W.clsIn (probe.heap_1 P) 800 = some cd ∧ cd.mro = mroT 800 := ⟨_, rfl, rfl⟩
theorem fz_r43 (P : Params) : ∃ cd, PySem.W.clsIn (probe.heap_1 P) 819 = some cd ∧ cd.mro = mroT 819 := ⟨_, rfl, rfl⟩
theorem fz_r44 (P : Params) : ∃ cd, PySem.W.clsIn (probe.heap_1 P) 838 = some cd ∧ cd.mro = mroT 838 := ⟨_, rfl, rfl⟩
theorem fz_r45 (P : Params) : ∃ cd, PySem.W.clsIn (probe.heap_1 P) 857 = some cd ∧ cd.mro = mroT 857 := ⟨_, rfl, rfl⟩
theorem fz_r46 (P : Params) : ∃ cd, PySem.W.clsIn (probe.heap_1 P) 869 = some cd ∧ cd.mro = mroT 869 := ⟨_, rfl, rfl⟩
theorem fz_r47 (P : Params) : ∃ cd, PySem.W.clsIn (probe.heap_1 P) 888 = some cd ∧ cd.mro = mroT 888 := ⟨_, rfl, rfl⟩
theorem fz_r48 (P : Params) : ∃ cd, PySem.W.clsIn (probe.heap_1 P) 907 = some cd ∧ cd.mro = mroT 907 := ⟨_, rfl, rfl⟩
theorem fz_r49 (P : Params) : ∃ cd, PySem.W.clsIn (probe.heap_1 P) 926 = some cd ∧ cd.mro = mroT 926 := ⟨_, rfl, rfl⟩
theorem fz_r50 (P : Params) : ∃ cd, PySem.W.clsIn (probe.heap_1 P) 945 = some cd ∧ cd.mro = mroT 945 := ⟨_, rfl, rfl⟩
theorem fz_r51 (P : Params) : ∃ cd, PySem.W.clsIn (probe.heap_1 P) 964 = some cd ∧ cd.mro = mroT 964 := ⟨_, rfl, rfl⟩
theorem fz_r52 (P : Params) : ∃ cd, PySem.W.clsIn (probe.heap_1 P) 983 = some cd ∧ cd.mro = mroT 983 := ⟨_, rfl, rfl⟩
theorem fz_rS (P : Params) : ∃ cd, PySem.W.clsIn (probe.heap_1 P) 24 = some cd ∧ cd.mro = mroTS := ⟨_, rfl, rfl⟩
theorem fz_w1 (P : Params) : ((List.range 53).all fun j => decide (PySem.W.nsIn (probe.heap_1 P) mainGlobals (nm j) = some (some (.ref (CsT j))))) = true := by first | kernel_rfl | decide +kernel
theorem fz_w2 (P : Params) : ((List.range 53).all fun j => xfB (probe.heap_1 P) (CsT j)) = true := by first | kernel_rfl | decide +kernel
theorem fz_w3 (P : Params) : ((List.range 53).all fun j => decide (PySem.W.findIn (probe.heap_1 P) (.ref (CsT j)) "__class__" = some (some (.builtin "object.__class__")))) = true := by first | kernel_rfl | decide +kernel
theorem fz_w4 (P : Params) : ((List.range 53).all fun j => decide (PySem.W.typeIn (probe.heap_1 P) (.ref (CsT j)) = some (.type "type"))) = true := by first | kernel_rfl | decide +kernel
theorem fz_w5 (P : Params) : ((List.range 53).all fun j => PySem.W.keepIn (probe.heap_1 P) (.ref (CsT j))) = true := by first | kernel_rfl | decide +kernel
theorem fz_w6 (P : Params) : ((List.range 53).all fun j => decide (PySem.W.findIn (probe.heap_1 P) (.ref (CsT j)) "__setattr__" = some (some (.builtin "object.__setattr__")))) = true := by first | kernel_rfl | decide +kernel
theorem fz_w7 (P : Params) : ((List.range 53).all fun j => ((flOf j).getD []).all fun f => decide (PySem.W.findIn (probe.heap_1 P) (.ref (CsT j)) f = some none)) = true := by first | kernel_rfl | decide +kernel
theorem fz_v1 (P : Params) : PySem.W.nsIn (probe.heap_1 P) mainGlobals "SearchError" = some (some (.ref CST)) := by first | k_is | exact rfl | kernel_rfl | decide +kernel
theorem fz_v2 (P : Params) : xfB (probe.heap_1 P) CST = true := by first | k_is | exact rfl | kernel_rfl | decide +kernel
theorem fz_v3 (P : Params) : PySem.W.findIn (probe.heap_1 P) (.ref CST) "__class__" = some (some (.builtin "object.__class__")) := by first | k_is | exact rfl | kernel_rfl | decide +kernel
theorem fz_v4 (P : Params) : PySem.W.typeIn (probe.heap_1 P) (.ref CST) = some (.type "type") := by first | k_is | exact rfl | kernel_rfl | decide +kernel
theorem fz_v5 (P : Params) : PySem.W.keepIn (probe.heap_1 P) (.ref CST) = true := by first | k_is | exact rfl | kernel_rfl | decide +kernel
theorem fz_u1 (P : Params) : PySem.W.specialIn (probe.heap_1 P) (.builtin "object.__class__") "__get__" = some (some (.builtin "getset_descriptor.__get__")) := by first | k_is | exact rfl | kernel_rfl | decide +kernel
theorem fz_u2 (P : Params) : PySem.W.takesIn (probe.heap_1 P) (.builtin "object.__class__") = some true := by first | k_is | exact rfl | kernel_rfl | decide +kernel
theorem fz_z_int (P : Params) : PySem.W.nsIn (probe.heap_1 P) mainGlobals "int" = some none := by first | k_is | exact rfl | kernel_rfl | decide +kernel
theorem fz_z_abs (P : Params) : PySem.W.nsIn (probe.heap_1 P) mainGlobals "abs" = some none := by first | k_is | exact rfl | kernel_rfl | decide +kernel
theorem fz_z_len (P : Params) : PySem.W.nsIn (probe.heap_1 P) mainGlobals "len" = some none := by first | k_is | exact rfl | kernel_rfl | decide +kernel
theorem fz_z_enumerate (P : Params) : PySem.W.nsIn (probe.heap_1 P) mainGlobals "enumerate" = some none := by first | k_is | exact rfl | kernel_rfl | decide +kernel
theorem fz_z_range (P : Params) : PySem.W.nsIn (probe.heap_1 P) mainGlobals "range" = some none := by first | k_is | exact rfl | kernel_rfl | decide +kernel
theorem fz_z_isinstance (P : Params) : PySem.W.nsIn (probe.heap_1 P) mainGlobals "isinstance" = some none := by first | k_is | exact rfl | kernel_rfl | decide +kernel
theorem fz_z_ValueError (P : Params) : PySem.W.nsIn (probe.heap_1 P) mainGlobals "ValueError" = some none := by first | k_is | exact rfl | kernel_rfl | decide +kernel
end Kx

set_option maxHeartbeats 4000000
namespace Kx
open PySem L2
section
variable {P : Program} {w : World} {K : PySem.W.Frag} {mg : Str → Option Value} {base : Heap}
structure Bl (mg : Str → Option Value) : Prop where
  int : mg "int" = none
  abs : mg "abs" = none
  len : mg "len" = none
  enumerate : mg "enumerate" = none
  range : mg "range" = none
def spMix : Sp := fun vs H Q _ => ∃ a b : Int, vs = [.int a, .int b] ∧ ∀ z : Int, Q (.int z) H
structure Has (P : Program) (w : World) (K : PySem.W.Frag) (mg : Str → Option Value) (base : Heap) (x : Str) (k : Nat) (ps : List Str) (sp : Sp) (f : Addr) (fd : FuncData) : Prop where
  G : FnOk P w K mg base CX0 k f fd ps sp
  m : mg x = some (.ref f)
  kp : PySem.W.keepIn K (.ref f) = true
  b : Binds K fd ps []
def HasF (P : Program) (w : World) (K : PySem.W.Frag) (mg : Str → Option Value) (base : Heap) (x : Str) (k : Nat) (ps : List Str) (sp : Sp) : Prop := ∃ f fd, Has P w K mg base x k ps sp f fd
theorem scMix : FnScope ["_law_number", "_law_turn", "_law_once", "_law_twice"] ["_law_number", "_law_turn"] (defScope sMix) := ⟨rfl, rfl, rfl, by decide +kernel, rfl, by decide +kernel, by decide +kernel⟩
theorem small31 {z : Int} {m : Int} (h : 0 < m) (h' : m ≤ 2147483648) : CMul (z % m) (z % m) := by
  have h1 := Int.emod_nonneg z (show m ≠ 0 by omega)
  have h2 := Int.emod_lt_of_pos z h
  exact .inl ⟨by omega, by omega⟩
theorem ok_mix {f : Addr} {fd : FuncData} (F : Fun K "_law_mix" "_law_mix" sMix f fd) (m : mg "_law_mix" = some (.ref f)) (T : Bl mg) : HasF P w K mg base "_law_mix" 1 ["_law_number", "_law_turn"] spMix := by
  refine ⟨f, fd, ?_, m, F.kp, F.binds fun _ _ _ _ _ _ us hl => match us, hl with | [_, _], _ => rfl⟩
  refine F.ok scMix (fun vs H Q E h => ?_) (fun cdv A outer s H vs Q E hr h => ?_)
  · obtain ⟨a, b, rfl, _⟩ := h
    rfl
  · obtain ⟨a, b, rfl, k⟩ := h
    refine ⟨_, pss_cons (ps_set (i := 2) scMix.nd rfl (Or.inl rfl) (pe_op op_mod (pe_callTy call_int1 (by rfl) T.int (by decide +kernel) (pa_cons (pe_op op_add (pe_op op_add (pe_op op_mul (pv 0) pe_int) (pe_op op_mul (pv 1) pe_int)) pe_int) pa_nil)) pe_int))
      (pss_cons (ps_set (i := 3) scMix.nd rfl (Or.inl rfl) (pe_op op_mod (pe_callTy call_int1 (by rfl) T.int (by decide +kernel) (pa_cons (pe_op op_add (pe_op op_add (pe_op op_mul (pv 2) (pv 2)) (pe_op op_mul (pe_op op_fdiv (pv 2) pe_int) pe_int)) (pe_op op_mul (pv 1) pe_int)) pa_nil)) pe_int))
      (pss_one (ps_ret (pe_op op_fdiv (pe_op op_mod (pe_callTy call_int1 (by rfl) T.int (by decide +kernel) (pa_cons (pe_op op_add (pe_op op_fdiv (pe_op op_mul (pv 3) (pv 3)) pe_int) (pv 2)) pa_nil)) pe_int) pe_int)))), ?_⟩
    refine ⟨_, rfl, _, _, rfl, rfl, .inr ⟨by decide, by decide⟩, _, rfl, _, _, rfl, rfl, .inr ⟨by decide, by decide⟩, _, _, rfl, rfl, _, _, rfl, rfl, .inl ⟨_, rfl, _, _, rfl, rfl, (by show (0 : Int) < _; decide), ?_⟩⟩
    refine ⟨_, rfl, _, rfl, _, _, rfl, rfl, small31 (by decide) (by decide), _, rfl, _, _, rfl, rfl, ⟨by decide, by decide⟩, _, _, rfl, rfl, .inr ⟨by decide, by decide⟩, _, _, rfl, rfl, _, rfl, _, _, rfl, rfl, .inr ⟨by decide, by decide⟩, _, _, rfl, rfl, .inl ⟨_, rfl, _, _, rfl, rfl, (by show (0 : Int) < _; decide), ?_⟩⟩
    refine ⟨_, rfl, _, rfl, _, _, rfl, rfl, small31 (by decide) (by decide), _, _, rfl, rfl, ⟨by decide, by decide⟩, _, rfl, _, _, rfl, rfl, .inl ⟨_, rfl, _, _, rfl, rfl, (by show (0 : Int) < _; decide), _, _, rfl, rfl, ⟨by decide, by decide⟩, ?_⟩⟩
    exact k _
/-- the hand at p: what is left of the script, and three counters -/
def HandAt (H : Hp) (p q : Addr) : Prop := ∃ (cs : List Int) (a : Nat) (b c : Int), H p = some (.lst [.ref q, .int a, .int b, .int c]) ∧ H q = some (.lst (cs.map V.int))
/-- all but p is as it was -/
def Keep (H H' : Hp) (p : Addr) : Prop := ∀ b o, H b = some o → b ≠ p → H' b = some o
theorem Keep.refl {H : Hp} {p : Addr} : Keep H H p := fun _ _ h _ => h
theorem Keep.trans {H H1 H2 : Hp} {p : Addr} (a : Keep H H1 p) (b : Keep H1 H2 p) : Keep H H2 p := fun c o h e => b c o (a c o h e) e
theorem Keep.upd {H H1 : Hp} {p : Addr} {o : HO} (a : Keep H H1 p) : Keep H (upd H1 p o) p := fun c u h e => by rw [upd_ne e]; exact a c u h e
theorem HandAt.ne {H : Hp} {p q : Addr} {xs ys : List V} (h : H p = some (.lst (.ref q :: xs))) {cs : List Int} (h' : H q = some (.lst (cs.map V.int))) : q ≠ p := by
  intro e
  subst e
  rw [h] at h'
  cases cs with
  | nil => exact nomatch h'
  | cons c cs => exact nomatch h'
def spDraw : Sp := fun vs H Q _ => ∃ (p q : Addr) (m : Int), vs = [.ref p, .int m] ∧ HandAt H p q ∧ 0 < m ∧ m.natAbs < 2 ^ 200 ∧
  ∀ (z : Int) (H' : Hp), 0 ≤ z → z < m → HandAt H' p q → Keep H H' p → Q (.int z) H'
theorem scDraw : FnScope ["_law_hand_here", "_law_many", "_law_cell", "_law_rest"] ["_law_hand_here", "_law_many"] (defScope sDraw) := ⟨rfl, rfl, rfl, by decide +kernel, rfl, by decide +kernel, by decide +kernel⟩
theorem ok_draw {f : Addr} {fd : FuncData} (F : Fun K "_law_draw" "_law_draw" sDraw f fd) (m : mg "_law_draw" = some (.ref f)) (T : Bl mg) (M : HasF P w K mg base "_law_mix" 1 ["_law_number", "_law_turn"] spMix) : HasF P w K mg base "_law_draw" 2 ["_law_hand_here", "_law_many"] spDraw := by
  refine ⟨f, fd, ?_, m, F.kp, F.binds fun _ _ _ _ _ _ us hl => match us, hl with | [_, _], _ => rfl⟩
  obtain ⟨f1, fd1, M⟩ := M
  refine F.ok scDraw (fun vs H Q E h => ?_) (fun cdv A outer s H vs Q E hr h => ?_)
  · obtain ⟨a, b, c, rfl, _⟩ := h
    rfl
  · obtain ⟨p, q, m, rfl, ⟨cs, a, b, c, hp, hq⟩, m0, m1, k⟩ := h
    have nqp : q ≠ p := HandAt.ne (ys := []) hp hq
    refine ⟨_, C8.pss_cut (ps_if (PW.pt (pw_and (pt_cmpR op_eq (pe_ix ix_list (pv 0) pe_int (fun _ _ => rfl)) pe_int (nomark _)) (pw_and1 (pt_cmpR op_lt (pe_ix ix_list (pv 0) pe_int (fun _ _ => rfl)) (pe_callB call_len_seq (by rfl) T.len PySem.boot_len (pa_cons (pe_ix ix_list (pv 0) pe_int (fun _ _ => rfl)) pa_nil)) (nomark _)))))
        (pss_cons (ps_set (i := 2) scDraw.nd rfl (Or.inl rfl) (pe_ix ix_list (pe_ix ix_list (pv 0) pe_int (fun _ _ => rfl)) (pe_ix ix_list (pv 0) pe_int (fun _ _ => rfl)) (fun _ _ => rfl)))
        (pss_cons (ps_asg (pe_op op_add (pe_ix ix_list (pv 0) pe_int (fun _ _ => rfl)) pe_int) (pg_sub (pv 0) pe_int set_list))
        (pss_cons (ps_if (pt_cmpR op_lt (pv 2) (pe_op op_pow pe_int pe_int) (nomark _)) (pss_one (ps_ret (pe_op op_mod (pe_callTy call_int1 (by rfl) T.int (by decide +kernel) (pa_cons (pe_call M.G hr (by rfl) M.m M.kp M.b .nil pass0 (pa_cons (pe_op op_mod (pe_callTy call_int1 (by rfl) T.int (by decide +kernel) (pa_cons (pv 2) pa_nil)) pe_int) (pa_cons (pe_ix ix_list (pv 0) pe_int (fun _ _ => rfl)) pa_nil))) pa_nil)) (pv 1)))) pss_nil)
        (pss_one (ps_asg (pv 2) (pg_sub (pv 0) pe_int set_list)))))) pss_nil)
      (pss_cons (ps_if (pt_cmpR op_gt (pe_ix ix_list (pv 0) pe_int (fun _ _ => rfl)) pe_int (nomark _))
        (pss_cons (ps_set (i := 3) scDraw.nd rfl (Or.inl rfl) (pe_ix ix_list (pv 0) pe_int (fun _ _ => rfl)))
        (pss_cons (ps_asg (pe_op op_fdivW (pv 3) (pv 1)) (pg_sub (pv 0) pe_int set_list))
        (pss_one (ps_ret (pe_op op_mod (pe_callTy call_int1 (by rfl) T.int (by decide +kernel) (pa_cons (pv 3) pa_nil)) (pv 1)))))) pss_nil)
      (pss_cons (ps_asg (pe_op op_mod (pe_callTy call_int1 (by rfl) T.int (by decide +kernel) (pa_cons (pe_op op_add (pe_ix ix_list (pv 0) pe_int (fun _ _ => rfl)) pe_int) pa_nil)) pe_int) (pg_sub (pv 0) pe_int set_list))
      (pss_one (ps_ret (pe_op op_mod (pe_callTy call_int1 (by rfl) T.int (by decide +kernel) (pa_cons (pe_call M.G hr (by rfl) M.m M.kp M.b .nil pass0 (pa_cons (pe_ix ix_list (pv 0) pe_int (fun _ _ => rfl)) (pa_cons (pe_ix ix_list (pv 0) pe_int (fun _ _ => rfl)) pa_nil))) pa_nil)) (pv 1)))))), ?_⟩
    refine ⟨fun σ H1 => ∃ (x y : Option V) (a : Nat) (b c : Int), σ = [some (.ref p), some (.int m), x, y] ∧ H1 p = some (.lst [.ref q, .int a, .int b, .int c]) ∧ H1 q = some (.lst (cs.map V.int)) ∧ Keep H H1 p, ?_, ?_⟩
    · refine ⟨_, rfl, p, _, _, _, rfl, rfl, SqL.of hp, by rfl, rfl, _, rfl, ?_⟩
      refine ite2 (fun _ => ?_) (fun _ => ?_)
      · refine ⟨_, rfl, p, _, _, _, rfl, rfl, SqL.of hp, by rfl, _, rfl, p, _, _, _, rfl, rfl, SqL.of hp, by rfl, q, _, rfl, .inl (SqL.of hq), _, _, rfl, rfl, _, rfl, ?_⟩
        refine ite2 (fun h1 => ?_) (fun _ => ?_)
        · have h1 : (a : Int) < ((cs.map V.int).length : Nat) := of_decide_eq_true h1
          rw [List.length_map] at h1
          have h2 : a < cs.length := by omega
          have h3 : (cs.map V.int)[a]? = some (V.int cs[a]) := by rw [List.getElem?_map, List.getElem?_eq_getElem h2]; rfl
          have hq' : ∀ o, (upd H p o) q = some (.lst (cs.map V.int)) := fun o => by rw [upd_ne nqp]; exact hq
          refine ⟨_, rfl, p, _, _, _, rfl, rfl, SqL.of hp, by rfl, _, rfl, p, _, _, _, rfl, rfl, SqL.of hp, by rfl, q, _, _, _, rfl, rfl, SqL.of hq, atI_nat h3, ?_⟩
          refine ⟨_, rfl, p, _, _, _, rfl, rfl, SqL.of hp, by rfl, _, _, rfl, rfl, _, rfl, p, _, _, _, rfl, rfl, hp, by rfl, ?_⟩
          refine ⟨_, rfl, _, _, rfl, rfl, ⟨by decide, by decide, by decide⟩, _, _, rfl, rfl, _, rfl, ?_⟩
          refine ite2 (fun _ => ?_) (fun _ => ?_)
          · refine ⟨_, rfl, .inl ⟨_, rfl, _, _, rfl, rfl, (by show (0 : Int) < _; decide), _, rfl, p, _, _, _, rfl, rfl, SqL.of upd_same, by rfl, _, _, rfl, fun z => .inl ⟨_, rfl, _, rfl, _, _, rfl, rfl, m0, ?_⟩⟩⟩
            exact k _ _ (Int.emod_nonneg _ (by omega)) (Int.emod_lt_of_pos _ m0) ⟨cs, a + 1, b, c, upd_same, hq' _⟩ Keep.refl.upd
          · refine ⟨_, rfl, _, rfl, p, _, _, _, rfl, rfl, upd_same, by rfl, ?_⟩
            refine ⟨_, _, a + 1, cs[a], c, rfl, upd_same, ?_, Keep.refl.upd.upd⟩
            rw [upd_upd]
            exact hq' _
        · exact ⟨_, _, a, b, c, rfl, hp, hq, Keep.refl⟩
      · exact ⟨_, _, a, b, c, rfl, hp, hq, Keep.refl⟩
    · rintro σ H1 ⟨x, y, a, b, c, rfl, hp, hq, kp⟩
      have hq' : ∀ o, (upd H1 p o) q = some (.lst (cs.map V.int)) := fun o => by rw [upd_ne nqp]; exact hq
      refine ⟨_, rfl, p, _, _, _, rfl, rfl, SqL.of hp, by rfl, _, _, rfl, rfl, _, rfl, ?_⟩
      refine ite2 (fun _ => ?_) (fun _ => ?_)
      · refine ⟨_, rfl, p, _, _, _, rfl, rfl, SqL.of hp, by rfl, _, rfl, _, rfl, _, _, rfl, rfl, wide_div m0 m1 (by decide) (by decide), _, rfl, p, _, _, _, rfl, rfl, hp, by rfl, ?_⟩
        refine ⟨_, rfl, .inl ⟨_, rfl, _, rfl, _, _, rfl, rfl, m0, ?_⟩⟩
        exact k _ _ (Int.emod_nonneg _ (by omega)) (Int.emod_lt_of_pos _ m0) ⟨cs, a, _, c, upd_same, hq' _⟩ kp.upd
      · refine ⟨_, rfl, p, _, _, _, rfl, rfl, SqL.of hp, by rfl, _, _, rfl, rfl, .inl ⟨_, rfl, _, _, rfl, rfl, (by show (0 : Int) < _; decide), _, rfl, p, _, _, _, rfl, rfl, hp, by rfl, ?_⟩⟩
        refine ⟨_, rfl, p, _, _, _, rfl, rfl, SqL.of upd_same, by rfl, _, rfl, p, _, _, _, rfl, rfl, SqL.of upd_same, by rfl, _, _, rfl, fun z => .inl ⟨_, rfl, _, rfl, _, _, rfl, rfl, m0, ?_⟩⟩
        exact k _ _ (Int.emod_nonneg _ (by omega)) (Int.emod_lt_of_pos _ m0) ⟨cs, a, _, _, upd_same, hq' _⟩ kp.upd
/-- over enumerate(list), the list standing still -/
theorem for_enum {K : PySem.W.Frag} {a : Addr} {xs : List V} {g : TG} {tb : TS} {D : Ends} {σ : St} {H : Hp} (W : Nat → St → Hp → Prop) (start : W 0 σ H) (still : ∀ i σ H, W i σ H → SqL K H a xs)
    (turn : ∀ i x σ H T, xs[i]? = some x → W i σ H → H T = none → g (.ref T) σ (upd H T (.tup [.int (i : Nat), x])) fun σ2 H2 => tb { D with nx := W (i + 1), ct := W (i + 1), bk := D.nx } σ2 H2) (after : ∀ σ H, W xs.length σ H → D.nx σ H) :
    ∃ U : Nat → Nat → St → Hp → Prop, (∃ m, U 0 m σ H) ∧ ∀ i m σ H, U i m σ H → ((Ite K a).stop i H ∧ D.nx σ H) ∨ ((Ite K a).go i H ∧ ∃ N : St → Hp → Prop, (∀ σ' H', N σ' H' → ∃ m', m' < m ∧ U (i + 1) m' σ' H') ∧
      ∀ x H', (Ite K a).yld i H x H' → g x σ H' fun σ2 H2 => tb { D with nx := N, ct := N, bk := D.nx } σ2 H2) := by
  refine ⟨fun i m σ H => m + i = xs.length ∧ W i σ H, ⟨xs.length, by omega, start⟩, fun i m σ H u => ?_⟩
  obtain ⟨e, u⟩ := u
  cases m with
  | zero =>
    have e : i = xs.length := by omega
    subst e
    exact .inl ⟨⟨xs, still _ _ _ u, Nat.le_refl _⟩, after _ _ u⟩
  | succ m =>
    have lt : i < xs.length := by omega
    refine .inr ⟨⟨xs, xs[i], still _ _ _ u, List.getElem?_eq_getElem lt⟩, W (i + 1), fun σ' H' u' => ⟨m, Nat.lt_succ_self _, by omega, u'⟩, fun x H' y => ?_⟩
    obtain ⟨T, z, rfl, free, rfl, same⟩ := y
    exact turn i z σ H T (same xs (still _ _ _ u)) u free
def spHand (K : PySem.W.Frag) : Sp := fun vs H Q _ => ∃ (a : Addr) (ns : List Int), vs = [.ref a] ∧ SqL K H a (ns.map V.int) ∧ ns.length ≤ 63 ∧ ∀ (p q : Addr) (H' : Hp), H p = none → H q = none → q ≠ p → HandAt H' p q → Same H H' → Q (.ref p) H'
theorem sameUpd {H H1 : Hp} {p : Addr} {o : HO} (s : Same H H1) (h : H1 p = none) : Same H (upd H1 p o) := fun b u e => by
  have e1 := s b u e
  rw [upd_ne (ne_of_none e1 h)]
  exact e1
theorem item_int {ns : List Int} {i : Nat} {y : V} (h : (ns.map V.int)[i]? = some y) : ∃ z, y = V.int z ∧ ns[i]? = some z := by
  rw [List.getElem?_map] at h
  cases e : ns[i]? with
  | none => rw [e] at h; cases h
  | some z => rw [e] at h; exact ⟨z, (Option.some.inj h).symm, rfl⟩
theorem scHand : FnScope ["_law_script", "_law_total", "_law_k", "_law_cell"] ["_law_script"] (defScope sHand) := ⟨rfl, rfl, rfl, by decide +kernel, rfl, by decide +kernel, by decide +kernel⟩
theorem ok_hand {f : Addr} {fd : FuncData} (F : Fun K "_law_hand" "_law_hand" sHand f fd) (m : mg "_law_hand" = some (.ref f)) (T : Bl mg) : HasF P w K mg base "_law_hand" 1 ["_law_script"] (spHand K) := by
  refine ⟨f, fd, ?_, m, F.kp, F.binds fun _ _ _ _ _ _ us hl => match us, hl with | [_], _ => rfl⟩
  refine F.ok scHand (fun vs H Q E h => ?_) (fun cdv A outer s H vs Q E hr h => ?_)
  · obtain ⟨a, b, rfl, _⟩ := h
    rfl
  · obtain ⟨a, ns, rfl, hS, hl, k⟩ := h
    refine ⟨_, pss_cons (ps_set (i := 1) scHand.nd rfl (Or.inl rfl) pe_int)
      (pss_cons (ps_for PassesOwn.never rfl (pi_enum (by rfl) T.enumerate (pa_cons (pv 0) pa_nil)) (pg_tup rfl (pgs_cons (pg_name (i := 2) scHand.nd rfl (.inl rfl)) (pgs_cons (pg_name (i := 3) scHand.nd rfl (.inl rfl)) pgs_nil)))
        (pss_one (ps_set (i := 1) scHand.nd rfl (Or.inl rfl) (pe_op op_mod (pe_callTy call_int1 (by rfl) T.int (by decide +kernel) (pa_cons (pe_op op_add (pe_op op_mul (pv 1) pe_int) (pe_op op_mul (pe_callTy call_int1 (by rfl) T.int (by decide +kernel) (pa_cons (pv 3) pa_nil)) (pe_op op_add (pv 2) pe_int))) pa_nil)) pe_int))))
      (pss_one (ps_ret (pe_lst (pa_cons (pe_lc (own := [("_law_cell", 3)]) (g := gName 3) (tt := tYes) (by rfl) scHand.nd (pi_list (pv 0)) (blkOk_by (own := [("_law_cell", 3)]) (N := ["_law_script", "_law_total", "_law_k", "_law_cell"]) (sc := defScope sHand) (by decide +kernel))
          (fun _ _ _ _ _ => pg_name (i := 3) scHand.nd rfl (Or.inl rfl)) (fun _ _ _ _ _ => pts_nil) (fun _ _ _ _ _ => (pe_callB call_abs (by rfl) T.abs (by decide +kernel) (pa_cons (pe_callTy call_int1 (by rfl) T.int (by decide +kernel) (pa_cons (pv 3) pa_nil)) pa_nil))))
        (pa_cons pe_int (pa_cons pe_int (pa_cons (pv 1) pa_nil)))))))), ?_⟩
    refine ⟨_, rfl, a, _, rfl, hS, for_enum (K := K) (a := a) (xs := ns.map V.int) (fun i σ H2 => ∃ (t : Int) (x y : Option V), σ = [some (.ref a), some (.int t), x, y] ∧ Same H H2 ∧ True) ⟨_, _, _, rfl, Same.refl _, trivial⟩ (fun i σ H2 ⟨_, _, _, _, s2, _⟩ => s2.seq hS) ?_ ?_⟩
    · rintro i x σ H2 T hi ⟨t, c, d, rfl, s2, _⟩ free
      obtain ⟨z, rfl, hz⟩ := item_int hi
      have hlt : i < ns.length := (List.getElem?_eq_some_iff.mp hz).1
      refine ⟨T, _, rfl, SqT.of upd_same, rfl, _, _, rfl, _, _, rfl, rfl, ?_⟩
      refine ⟨_, rfl, _, _, rfl, rfl, .inr ⟨by decide, by decide⟩, _, rfl, .inl ⟨_, rfl, _, rfl, _, _, rfl, rfl, _, _, rfl, rfl, .inr ⟨by omega, by omega⟩, _, _, rfl, rfl, .inl ⟨_, rfl, _, _, rfl, rfl, (by show (0 : Int) < _; decide), ?_⟩⟩⟩
      exact ⟨_, _, _, rfl, sameUpd s2 free, trivial⟩
    · rintro σ H2 ⟨t, c, d, rfl, s2, _⟩
      have q : ∀ (b : Int) (l : List Int), (l ++ [b]).map V.int = l.map V.int ++ [V.int b] := fun b l => by rw [List.map_append]; rfl
      refine ⟨_, rfl, a, rfl, ⟨_, s2.seq hS⟩, fun D hD => lc_list (K := K) (a := a) (xs := ns.map V.int) (fun i H3 => Same H H3 ∧ ∃ cs : List Int, cs.length = i ∧ H3 D = some (.lst (cs.map V.int))) ⟨sameUpd s2 hD, [], rfl, upd_same⟩ (fun i H3 _ w => w.1.seq hS) ?_ ?_⟩
      · rintro i y H3 hi ⟨s3, cs, hc, hd⟩
        obtain ⟨z, rfl, hz⟩ := item_int hi
        have hlt : i < ns.length := (List.getElem?_eq_some_iff.mp hz).1
        refine ⟨rfl, ?_⟩
        refine ⟨_, rfl, .inl ⟨_, rfl, _, rfl, cs.map V.int, hd, small1000 (by rw [List.length_map]; omega), ?_⟩⟩
        have e : H D = none := s2.free hD
        refine ⟨fun b u e' => ?_, cs ++ [_], by rw [List.length_append, hc]; rfl, by rw [q]; exact upd_same⟩
        rw [upd_ne (ne_of_none e' e)]
        exact s3 b u e'
      · rintro H3 ⟨s3, cs, hc, hd⟩
        refine ⟨_, rfl, (by show 4 ≤ sizeLine; decide), fun p hp => ?_⟩
        have np : p ≠ D := fun e => by rw [e, hd] at hp; cases hp
        exact k p D _ (s3.free hp) (s2.free hD) np.symm ⟨cs, 0, 0, _, upd_same, by rw [upd_ne np.symm]; exact hd⟩ (sameUpd s3 hp)
/-- every sign a letter from a to z -/
def Low (z : Str) : Prop := ∀ c ∈ z.cps.toList, 97 ≤ c ∧ c ≤ 122
theorem abc_at : ∀ n : Fin 26, (Str.ofString "abcdefghijklmnopqrstuvwxyz").cps.toList[n.1]? = some (97 + n.1) := by decide +kernel
theorem abc_ix {z : Int} (h : 0 ≤ z) (h' : z < 26) : atI (Str.ofString "abcdefghijklmnopqrstuvwxyz").cps.toList z = some (97 + z.toNat) := by
  obtain ⟨n, rfl⟩ : ∃ n : Nat, z = n := ⟨z.toNat, by omega⟩
  exact atI_nat (abc_at ⟨n, by omega⟩)
theorem len_app (a b : Str) : (a ++ b).length = a.length + b.length := Array.size_append
theorem cps_app (a b : Str) : (a ++ b).cps.toList = a.cps.toList ++ b.cps.toList := Array.toList_append
theorem Low.app {a b : Str} (h : Low a) (h' : Low b) : Low (a ++ b) := fun c hc => by
  rw [cps_app] at hc
  rcases List.mem_append.mp hc with e | e
  · exact h c e
  · exact h' c e
theorem Low.one {n : Nat} (h : n < 26) : Low ⟨#[97 + n]⟩ := fun c hc => by
  have e : c = 97 + n := by simpa using hc
  omega
theorem Low.nil : Low (Str.ofString "") := fun c hc => by
  have e : (Str.ofString "").cps.toList = [] := by decide +kernel
  rw [e] at hc
  cases hc
def spOne : Sp := fun vs H Q _ => ∃ (p q r : Addr) (xs : List V), vs = [.ref p, .ref r] ∧ HandAt H p q ∧ H r = some (.lst xs) ∧ r ≠ p ∧ 0 < xs.length ∧ xs.length ≤ 1000 ∧
  ∀ (x : V) (H' : Hp), x ∈ xs → HandAt H' p q → Keep H H' p → Q x H'
def spWord : Sp := fun vs H Q _ => ∃ (p q : Addr) (m : Int), vs = [.ref p, .int m] ∧ HandAt H p q ∧ 0 < m ∧ m ≤ 10 ∧
  ∀ (z : Str) (H' : Hp), 0 < z.length → z.length ≤ m.toNat → Low z → HandAt H' p q → Keep H H' p → Q (.str z) H'
theorem scOne : FnScope ["_law_hand_here", "_law_rows"] ["_law_hand_here", "_law_rows"] (defScope sOne) := ⟨rfl, rfl, rfl, by decide +kernel, rfl, by decide +kernel, by decide +kernel⟩
theorem ok_one {f : Addr} {fd : FuncData} (F : Fun K "_law_one" "_law_one" sOne f fd) (m : mg "_law_one" = some (.ref f)) (T : Bl mg) (D : HasF P w K mg base "_law_draw" 2 ["_law_hand_here", "_law_many"] spDraw) : HasF P w K mg base "_law_one" 3 ["_law_hand_here", "_law_rows"] spOne := by
  refine ⟨f, fd, ?_, m, F.kp, F.binds fun _ _ _ _ _ _ us hl => match us, hl with | [_, _], _ => rfl⟩
  obtain ⟨f1, fd1, D⟩ := D
  refine F.ok scOne (fun vs H Q E h => ?_) (fun cdv A outer s H vs Q E hr h => ?_)
  · obtain ⟨a, b, c, d, rfl, _⟩ := h
    rfl
  · obtain ⟨p, q, r, xs, rfl, hp, hx, ne, h0, h9, k⟩ := h
    refine ⟨_, pss_one (ps_ret (pe_ix ix_list (pv 1) (pe_call D.G hr (by rfl) D.m D.kp D.b .nil pass0 (pa_cons (pv 0) (pa_cons (pe_callB call_len_seq (by rfl) T.len PySem.boot_len (pa_cons (pv 1) pa_nil)) pa_nil))) (fun _ _ => rfl))), ?_⟩
    have hz : xs.length < 2 ^ 200 := Nat.lt_of_le_of_lt h9 (by decide)
    refine ⟨_, rfl, _, rfl, _, rfl, r, _, rfl, .inl (SqL.of hx), p, q, _, rfl, hp, by omega, by rw [Int.natAbs_natCast]; exact hz, fun z H1 z0 z1 hp1 k1 => ?_⟩
    obtain ⟨n, rfl⟩ : ∃ n : Nat, z = n := ⟨z.toNat, by omega⟩
    have lt : n < xs.length := by omega
    exact ⟨r, xs, n, _, rfl, rfl, SqL.of (k1 r _ hx ne), atI_nat (List.getElem?_eq_getElem lt), k _ _ (List.getElem_mem lt) hp1 k1⟩
theorem scWord : FnScope ["_law_hand_here", "_law_most", "_law_word_here", "_law_k"] ["_law_hand_here", "_law_most"] (defScope sWord) := ⟨rfl, rfl, rfl, by decide +kernel, rfl, by decide +kernel, by decide +kernel⟩
theorem ok_word {f : Addr} {fd : FuncData} (F : Fun K "_law_word" "_law_word" sWord f fd) (m : mg "_law_word" = some (.ref f)) (T : Bl mg) (D : HasF P w K mg base "_law_draw" 2 ["_law_hand_here", "_law_many"] spDraw) : HasF P w K mg base "_law_word" 3 ["_law_hand_here", "_law_most"] spWord := by
  refine ⟨f, fd, ?_, m, F.kp, F.binds fun _ _ _ _ _ _ us hl => match us, hl with | [_, _], _ => rfl⟩
  obtain ⟨f1, fd1, D⟩ := D
  refine F.ok scWord (fun vs H Q E h => ?_) (fun cdv A outer s H vs Q E hr h => ?_)
  · obtain ⟨a, b, c, rfl, _⟩ := h
    rfl
  · obtain ⟨p, q, m, rfl, hp, m0, m1, k⟩ := h
    refine ⟨_, pss_cons (ps_set (i := 2) scWord.nd rfl (Or.inl rfl) pe_str)
      (pss_cons (ps_for PassesOwn.never rfl (pi_range1 (by rfl) T.range (pa_cons (pe_op op_add pe_int (pe_call D.G hr (by rfl) D.m D.kp D.b .nil pass0 (pa_cons (pv 0) (pa_cons (pv 1) pa_nil)))) pa_nil)) (pg_name (i := 3) scWord.nd rfl (.inl rfl))
        (pss_one (ps_set (i := 2) scWord.nd rfl (Or.inl rfl) (pe_op op_add_str (pv 2) (pe_ix ix_str pe_str (pe_call D.G hr (by rfl) D.m D.kp D.b .nil pass0 (pa_cons (pv 0) (pa_cons pe_int pa_nil))) (fun _ _ => rfl))))))
      (pss_one (ps_ret (pv 2)))), ?_⟩
    refine ⟨_, rfl, _, rfl, p, q, m, rfl, hp, m0, by omega, fun z H1 z0 z1 hp1 k1 => ?_⟩
    refine ⟨_, _, rfl, rfl, _, rfl, by omega, by omega, for_range (n := (1 + z).toNat) (fun i σ H2 => ∃ (t : Str) (x : Option V), σ = [some (.ref p), some (.int m), some (.str t), x] ∧ t.length = i ∧ Low t ∧ HandAt H2 p q ∧ Keep H H2 p)
      ⟨_, _, rfl, rfl, Low.nil, hp1, k1⟩ ?_ ?_⟩
    · rintro i σ H2 hi ⟨t, x, rfl, ht, lt, hp2, k2⟩
      refine ⟨_, rfl, _, rfl, p, q, 26, rfl, hp2, by decide, by decide, fun y H3 y0 y1 hp3 k3 => ?_⟩
      refine ⟨_, y, _, rfl, rfl, by decide, abc_ix y0 y1, _, _, rfl, rfl, ?_, ?_⟩
      · show t.length + 1 ≤ sizeLine
        exact small1000 (by omega)
      · exact ⟨_, _, rfl, by rw [len_app, ht]; rfl, lt.app (Low.one (by omega)), hp3, k2.trans k3⟩
    · rintro σ H2 ⟨t, x, rfl, ht, lt, hp2, k2⟩
      exact ⟨_, rfl, k t H2 (by omega) (by omega) lt hp2 k2⟩
/-- the kinds of things that are asked -/
inductive Kd (H : Hp) : V → String → Prop where
  | non : Kd H .non "NoneType"
  | bl (b : Bool) : Kd H (.bl b) "bool"
  | int (i : Int) : Kd H (.int i) "int"
  | str (z : Str) : Kd H (.str z) "str"
  | lst (a : Addr) (xs : List V) (h : H a = some (.lst xs)) : Kd H (.ref a) "list"
  | tup (a : Addr) (xs : List V) (h : H a = some (.tup xs)) : Kd H (.ref a) "tuple"
  | dct (a : Addr) (xs : List (Key × V)) (h : H a = some (.dK xs)) : Kd H (.ref a) "dict"
theorem Kd.ty {K : PySem.W.Frag} {H : Hp} {x : V} {n : String} (k : Kd H x n) : TyX K H x (.type n) := by
  cases k with
  | non => exact .base .non
  | bl b => exact .base (.bl _)
  | int i => exact .base (.int _)
  | str z => exact .base (.str _)
  | lst a xs h => exact .base (.lst h)
  | tup a xs h => exact .base (.tup h)
  | dct a xs h => exact .base (.dK h)
theorem Kd.kits {H : Hp} {x : V} {n : String} (k : Kd H x n) : n ∈ ["NoneType", "bool", "int", "str", "list", "tuple", "dict"] := by cases k <;> decide
structure Bm (mg : Str → Option Value) : Prop where
  isinstance : mg "isinstance" = none
  str : mg "str" = none
  bool : mg "bool" = none
  list : mg "list" = none
  tuple : mg "tuple" = none
  longest : ∃ t, mg "LONGEST_LABEL" = some (.int 6 t)
theorem kit_int {n : String} (h : n ∈ ["NoneType", "bool", "int", "str", "list", "tuple", "dict"]) : kitB n "int" = some (n == "int" || n == "bool") := by
  simp only [List.mem_cons, List.not_mem_nil, or_false] at h
  rcases h with h | h | h | h | h | h | h <;> (subst h; decide +kernel)
theorem kit_bool {n : String} (h : n ∈ ["NoneType", "bool", "int", "str", "list", "tuple", "dict"]) : kitB n "bool" = some (n == "bool") := by
  simp only [List.mem_cons, List.not_mem_nil, or_false] at h
  rcases h with h | h | h | h | h | h | h <;> (subst h; decide +kernel)
theorem kit_str {n : String} (h : n ∈ ["NoneType", "bool", "int", "str", "list", "tuple", "dict"]) : kitB n "str" = some (n == "str") := by
  simp only [List.mem_cons, List.not_mem_nil, or_false] at h
  rcases h with h | h | h | h | h | h | h <;> (subst h; decide +kernel)
theorem kit_list {n : String} (h : n ∈ ["NoneType", "bool", "int", "str", "list", "tuple", "dict"]) : kitB n "list" = some (n == "list") := by
  simp only [List.mem_cons, List.not_mem_nil, or_false] at h
  rcases h with h | h | h | h | h | h | h <;> (subst h; decide +kernel)
theorem kit_tuple {n : String} (h : n ∈ ["NoneType", "bool", "int", "str", "list", "tuple", "dict"]) : kitB n "tuple" = some (n == "tuple") := by
  simp only [List.mem_cons, List.not_mem_nil, or_false] at h
  rcases h with h | h | h | h | h | h | h <;> (subst h; decide +kernel)
/-- a whole number from lo to hi -/
def wholeV (x : V) (lo hi : Int) : Bool := match x with
  | .int i => decide (lo ≤ i) && decide (i ≤ hi)
  | _ => false
def spWhole : Sp := fun vs H Q _ => ∃ (x : V) (n : String) (lo hi : Int), vs = [x, .int lo, .int hi] ∧ Kd H x n ∧ Q (.bl (wholeV x lo hi)) H
def isLow (c : Nat) : Bool := decide (97 ≤ c) && decide (c ≤ 122)
def isLab (z : Str) : Bool := decide (1 ≤ z.length) && (decide (z.length ≤ 6) && z.cps.toList.all isLow)
def labV (x : V) : Bool := match x with
  | .str z => isLab z
  | _ => false
theorem low_alpha : ∀ n : Fin 128, isLow n.1 = (Unicode.isAlpha n.1 && !(Unicode.isUpper n.1 || Unicode.isTitle n.1)) := by decide +kernel
theorem low_lower : ∀ n : Fin 128, isLow n.1 = true → Unicode.isLower n.1 = true := by decide +kernel
theorem low_small {c : Nat} (h : isLow c = true) : c < 128 := by
  simp only [isLow, Bool.and_eq_true, decide_eq_true_eq] at h
  omega
theorem three (z : Str) (h : 1 ≤ z.length) : (PySem.Txt.isascii z && (PySem.Txt.isalpha z && PySem.Txt.islower z)) = z.cps.toList.all isLow := by
  have hl : z.cps.toList.length = z.length := by simp [Str.length]
  unfold PySem.Txt.isascii PySem.Txt.isalpha PySem.Txt.islower
  rw [← Array.all_toList, ← Array.all_toList, ← Array.any_toList, ← Array.any_toList]
  generalize z.cps.toList = l at hl
  cases e : l.all isLow with
  | true =>
    rw [List.all_eq_true] at e
    have a1 : l.all (fun c => decide (c < 128)) = true := List.all_eq_true.mpr fun c hc => decide_eq_true (low_small (e c hc))
    have a2 : l.all Unicode.isAlpha = true := List.all_eq_true.mpr fun c hc => by
      have q := low_alpha ⟨c, low_small (e c hc)⟩
      rw [show isLow c = true from e c hc] at q
      exact (Bool.and_eq_true_iff.mp q.symm).1
    have a3 : l.any Unicode.isLower = true := by
      cases l with
      | nil => simp only [List.length_nil] at hl; omega
      | cons c l => exact List.any_eq_true.mpr ⟨c, List.mem_cons_self, low_lower ⟨c, low_small (e c List.mem_cons_self)⟩ (e c List.mem_cons_self)⟩
    have a4 : (l.any fun c => Unicode.isUpper c || Unicode.isTitle c) = false := List.any_eq_false.mpr fun c hc => by
      have q := low_alpha ⟨c, low_small (e c hc)⟩
      rw [show isLow c = true from e c hc] at q
      have q2 := (Bool.and_eq_true_iff.mp q.symm).2
      intro z
      rw [z] at q2
      cases q2
    rw [a1, a2, a3, a4]
    have h' : decide (z.length > 0) = true := decide_eq_true (by omega)
    rw [h']
    rfl
  | false =>
    obtain ⟨c, hc, hn⟩ := List.all_eq_false.mp e
    cases a1 : l.all (fun c => decide (c < 128)) with
    | false => rfl
    | true =>
      cases a2 : l.all Unicode.isAlpha with
      | false => simp
      | true =>
        have b1 : c < 128 := of_decide_eq_true (List.all_eq_true.mp a1 c hc)
        have b2 : Unicode.isAlpha c = true := List.all_eq_true.mp a2 c hc
        have q := low_alpha ⟨c, b1⟩
        simp only [b2, Bool.true_and] at q
        have q1 : isLow c = false := by
          cases z : isLow c
          · rfl
          · exact absurd z hn
        rw [q1] at q
        have a4 : (l.any fun c => Unicode.isUpper c || Unicode.isTitle c) = true := List.any_eq_true.mpr ⟨c, hc, by
          cases z : (Unicode.isUpper c || Unicode.isTitle c)
          · rw [z] at q; cases q
          · rfl⟩
        rw [a4]
        simp
def spLabel : Sp := fun vs H Q _ => ∃ (x : V) (n : String), vs = [x] ∧ Kd H x n ∧ (∀ z, x = .str z → z.length ≤ sizeLine) ∧ Q (.bl (labV x)) H
def seqV (n : String) : Bool := n == "list" || n == "tuple"
def spSeq : Sp := fun vs H Q _ => ∃ (x : V) (n : String), vs = [x] ∧ Kd H x n ∧ ∀ H', Same H H' → Q (.bl (seqV n)) H'
theorem kit_seq {K : PySem.W.Frag} {n : String} (h : n ∈ ["NoneType", "bool", "int", "str", "list", "tuple", "dict"]) : PySem.W.kitAny K (.type n) [.type "list", .type "tuple"] = some (seqV n) := by
  refine kitAny_cons (kit_ty (kit_list h)) (fun e => kitAny_cons (kit_ty (kit_tuple h)) (fun e2 => ?_) (fun e2 => ?_)) (fun e => ?_)
  · unfold seqV; rw [e, e2]; exact kitAny_nil
  · unfold seqV; rw [e, e2]; rfl
  · unfold seqV; rw [e]; rfl
theorem Kd.keep {H H' : Hp} {x : V} {n : String} (k : Kd H x n) (s : Same H H') : Kd H' x n := by
  cases k with
  | non => exact .non
  | bl b => exact .bl b
  | int i => exact .int i
  | str z => exact .str z
  | lst a xs h => exact .lst a xs (s _ _ h)
  | tup a xs h => exact .tup a xs (s _ _ h)
  | dct a xs h => exact .dct a xs (s _ _ h)
def cV (c : Nat) : V := .str (SX.S [c])
theorem map_cV (l : List Nat) : l.map cV = (l.map fun c => SX.S [c]).map V.str := by rw [List.map_map]; rfl
theorem keepUpd {H H1 : Hp} {p a : Addr} {o : HO} (k : Keep H H1 p) (h : H a = none) : Keep H (upd H1 a o) p := fun b u e ne => by
  rw [upd_ne (ne_of_none e h)]
  exact k b u e ne
theorem HandAt.upd {H : Hp} {p q a : Addr} {o : HO} (h : HandAt H p q) (n1 : a ≠ p) (n2 : a ≠ q) : HandAt (upd H a o) p q := by
  obtain ⟨cs, x, b, c, h1, h2⟩ := h
  exact ⟨cs, x, b, c, by rw [upd_ne n1.symm]; exact h1, by rw [upd_ne n2.symm]; exact h2⟩
theorem HandAt.ap {H : Hp} {p q a : Addr} (h : HandAt H p q) (ha : H a = none) : a ≠ p := by
  obtain ⟨cs, x, b, c, h1, h2⟩ := h
  exact (ne_of_none h1 ha).symm
theorem HandAt.aq {H : Hp} {p q a : Addr} (h : HandAt H p q) (ha : H a = none) : a ≠ q := by
  obtain ⟨cs, x, b, c, h1, h2⟩ := h
  exact (ne_of_none h2 ha).symm
theorem HandAt.same {H H' : Hp} {p q : Addr} (h : HandAt H p q) (s : Same H H') : HandAt H' p q := by
  obtain ⟨cs, x, b, c, h1, h2⟩ := h
  exact ⟨cs, x, b, c, s _ _ h1, s _ _ h2⟩
theorem Same.keep {H H' : Hp} {p : Addr} (s : Same H H') : Keep H H' p := fun b o e _ => s b o e
/-- texts as data -/
def dS (ys : List Str) : List PyData := ys.map PyData.str
theorem dp_strs {K : PySem.W.Frag} {H : Hp} : ∀ ys : List Str, DpAll K H (ys.map V.str) (dS ys)
  | [] => .nil
  | y :: ys => .cons (.str y) (dp_strs ys)
def Ok (ys : List Str) : Prop := ∀ y ∈ ys, PyData.strOk y = true
theorem low_ok {z : Str} (h : Low z) : PyData.strOk z = true := by
  unfold PyData.strOk
  rw [← Array.all_toList]
  exact List.all_eq_true.mpr fun c hc => decide_eq_true (by have := h c hc; omega)
theorem lay_strs {ys : List Str} (h : Ok ys) : PyData.canLayAll0 (dS ys) = true := by
  unfold dS
  rw [PyProof.Rows.canLayAll_strs']
  exact List.all_eq_true.mpr h
theorem deep_strs : ∀ ys : List Str, PyData.depthAll (dS ys) ≤ 1
  | [] => Nat.zero_le _
  | y :: ys => by
    have ih := deep_strs ys
    show max (PyData.depth (.str y)) (PyData.depthAll (dS ys)) ≤ 1
    have e : PyData.depth (.str y) = 0 := rfl
    omega
theorem shaped_list {ys : List Str} (ok : Ok ys) : SeqAt.shaped (.list (dS ys)) = true := by
  have h := lay_strs ok
  have h2 := deep_strs ys
  have h3 : PyData.depth (.list (dS ys)) ≤ 64 := by
    show PyData.depthAll (dS ys) + 1 ≤ 64
    omega
  unfold SeqAt.shaped
  rw [decide_eq_true h3, Bool.and_true]
  exact h
/-- a comprehension over a text's signs -/
theorem lc_str {z : Str} {g : TG} {tt : TT} {te : TE} {vs : List Nat} {σ : St} {H1 : Hp} {D : Addr} {Qd : Hp → Prop} (W : Nat → Hp → Prop) (start : W 0 (upd H1 D (.lst [])))
    (turn : ∀ i c H, z.cps[i]? = some c → W i H → g (.str ⟨#[c]⟩) (wipe σ vs) H fun σ2 H2 => wipe σ2 vs = wipe σ vs ∧ tt σ2 H2 fun b H3 =>
      if b = true then te σ2 H3 fun y H4 => ∃ acc, H4 D = some (.lst acc) ∧ acc.length < sizeLine ∧ W (i + 1) (upd H4 D (.lst (acc ++ [y]))) else W (i + 1) H3) (after : ∀ H, W z.cps.size H → Qd H) :
    ∃ U : Nat → Nat → Hp → Prop, (∃ m, U 0 m (upd H1 D (.lst []))) ∧ ∀ i m H, U i m H → ((Its z).stop i H ∧ Qd H) ∨ ((Its z).go i H ∧ ∃ Nx : Hp → Prop, (∀ H', Nx H' → ∃ m', m' < m ∧ U (i + 1) m' H') ∧
      ∀ x H', (Its z).yld i H x H' → g x (wipe σ vs) H' fun σ2 H2 => wipe σ2 vs = wipe σ vs ∧ tt σ2 H2 fun b H3 => if b = true then te σ2 H3 fun y H4 => ∃ acc, H4 D = some (.lst acc) ∧ acc.length < sizeLine ∧ Nx (upd H4 D (.lst (acc ++ [y]))) else Nx H3) := by
  refine ⟨fun i m H => m + i = z.cps.size ∧ W i H, ⟨z.cps.size, by omega, start⟩, fun i m H u => ?_⟩
  obtain ⟨e, u⟩ := u
  cases m with
  | zero =>
    obtain rfl : i = z.cps.size := by omega
    exact .inl ⟨Nat.le_refl _, after _ u⟩
  | succ m =>
    have lt : i < z.cps.size := by omega
    refine .inr ⟨lt, W (i + 1), fun H' u' => ⟨m, Nat.lt_succ_self _, by omega, u'⟩, fun x H' y => ?_⟩
    obtain ⟨rfl, c, hc, rfl⟩ := y
    exact turn i c _ hc u
def spLLab : Sp := fun vs H Q _ => ∃ (x : V) (n : String), vs = [x] ∧ Kd H x n ∧ (∀ z, x = .str z → PyData.strOk z = true ∧ z.length ≤ 100) ∧ ∀ H', Same H H' → Q (.bl (labV x)) H'
theorem eqv_nil : ∀ ys : List Str, PyData.eqv (.list (dS ys)) (.list []) = ys.isEmpty
  | [] => rfl
  | y :: ys => rfl
/-- the signs that are no letters from a to z -/
def bad (l : List Nat) : List Nat := l.filter fun c => !isLow c
theorem bad_nil (l : List Nat) : (bad l).isEmpty = l.all isLow := by
  unfold bad
  induction l with
  | nil => rfl
  | cons c l ih =>
    rw [List.filter_cons, List.all_cons, ← ih]
    cases isLow c <;> rfl
theorem abc_in : ∀ c, decide (c ∈ (Str.ofString "abcdefghijklmnopqrstuvwxyz").cps.toList) = isLow c := fun c => by
  have e : (Str.ofString "abcdefghijklmnopqrstuvwxyz").cps.toList = (List.range 26).map (97 + ·) := by decide +kernel
  rw [e]
  unfold isLow
  by_cases h : c ∈ (List.range 26).map (97 + ·)
  · obtain ⟨j, hj, rfl⟩ := List.mem_map.mp h
    have := List.mem_range.mp hj
    rw [decide_eq_true h, decide_eq_true (show 97 ≤ 97 + j by omega), decide_eq_true (show 97 + j ≤ 122 by omega)]
    rfl
  · rw [decide_eq_false h]
    by_cases h1 : 97 ≤ c
    · have h2 : ¬ c ≤ 122 := fun h2 => h (List.mem_map.mpr ⟨c - 97, List.mem_range.mpr (by omega), by omega⟩)
      rw [decide_eq_false h2, Bool.and_false]
    · rw [decide_eq_false h1, Bool.false_and]
def Fine (z : Str) : Prop := PyData.strOk z = true ∧ z.length ≤ 100
def spOdd : Sp := fun vs H Q _ => ∃ p q : Addr, vs = [.ref p] ∧ HandAt H p q ∧ ∀ (x : V) (n : String) (H' : Hp), Kd H' x n → (∀ z, x = .str z → Fine z) → HandAt H' p q → Keep H H' p → Q x H'
theorem fine_up {z : Str} (h : Low z) (l : z.length ≤ 20) : Fine (PySem.Txt.upper z) := by
  have a : ∀ c ∈ z.cps.toList, c < 128 := fun c hc => by have := h c hc; omega
  rw [PyProof.Rows.upper_ascii a]
  refine ⟨?_, ?_⟩
  · unfold PyData.strOk
    rw [← Array.all_toList, Array.toList_map, List.all_map]
    refine List.all_eq_true.mpr fun c hc => decide_eq_true ?_
    have h1 := h c hc
    show PyProof.Rows.up1 c < 0x110000
    unfold PyProof.Rows.up1
    split <;> omega
  · show (z.cps.map _).size ≤ 100
    rw [Array.size_map]
    have e : z.cps.size = z.length := rfl
    omega
theorem none2 {H : Hp} {a b : Addr} {o : HO} (h : upd H a o b = none) : H b = none ∧ b ≠ a := by
  have n : b ≠ a := fun e => by rw [e, upd_same] at h; cases h
  rw [upd_ne n] at h
  exact ⟨h, n⟩
theorem fine_low {z : Str} (h : Low z) (l : z.length ≤ 20) : Fine z := ⟨low_ok h, by omega⟩
theorem fine_app {a b : Str} (h : Fine a) (l : a.length ≤ 20) (hb : PyData.strOk b = true) (lb : b.length ≤ 20) : Fine (a ++ b) := by
  refine ⟨?_, by rw [len_app]; omega⟩
  have h1 := h.1
  unfold PyData.strOk at h1 hb ⊢
  rw [← Array.all_toList] at h1 hb ⊢
  rw [cps_app, List.all_append, h1, hb]
  rfl
theorem scOdd : FnScope ["_law_hand_here", "_law_word_here"] ["_law_hand_here"] (defScope sOdd) := ⟨rfl, rfl, rfl, by decide +kernel, rfl, by decide +kernel, by decide +kernel⟩
theorem ok_odd {f : Addr} {fd : FuncData} (F : Fun K "_law_odd" "_law_odd" sOdd f fd) (m : mg "_law_odd" = some (.ref f)) (W : HasF P w K mg base "_law_word" 3 ["_law_hand_here", "_law_most"] spWord) (O : HasF P w K mg base "_law_one" 3 ["_law_hand_here", "_law_rows"] spOne) : HasF P w K mg base "_law_odd" 4 ["_law_hand_here"] spOdd := by
  refine ⟨f, fd, ?_, m, F.kp, F.binds fun _ _ _ _ _ _ us hl => match us, hl with | [_], _ => rfl⟩
  obtain ⟨f2, fd2, W⟩ := W; obtain ⟨f3, fd3, O⟩ := O
  refine F.ok scOdd (fun vs H Q E h => ?_) (fun cdv A outer s H vs Q E hr h => ?_)
  · obtain ⟨a, b, rfl, _⟩ := h
    rfl
  · obtain ⟨p, q, rfl, hp, k⟩ := h
    refine ⟨_, pss_cons (ps_set (i := 1) scOdd.nd rfl (Or.inl rfl) (pe_call W.G hr (by rfl) W.m W.kp W.b .nil pass0 (pa_cons (pv 0) (pa_cons pe_int pa_nil))))
      (pss_one (ps_ret (pe_call O.G hr (by rfl) O.m O.kp O.b .nil pass0 (pa_cons (pv 0) (pa_cons (pe_lst (pa_cons pe_non (pa_cons pe_int (pa_cons pe_bl (pa_cons pe_str (pa_cons (pe_upper (pv 1)) (pa_cons (pe_op op_add_str (pv 1) pe_str) (pa_cons (pe_op op_add_str (pv 1) pe_str) (pa_cons (pe_tup (pa_cons (pv 1) pa_nil)) (pa_cons (pe_lst (pa_cons (pv 1) pa_nil)) (pa_cons (pe_un un_neg pe_int) (pa_cons (pe_op op_add_str (pv 1) pe_str) (pa_cons (pv 1) (pa_cons (pe_disp (pps_cons (pv 1) (pv 1) pps_nil) (by rfl) (by rfl) (fun z => by cases z) (by decide)) pa_nil)))))))))))))) pa_nil))))), ?_⟩
    refine ⟨_, rfl, p, q, 5, rfl, hp, by decide, by decide, fun z H1 z0 z1 low hp1 k1 => ?_⟩
    have z1 : z.length ≤ 5 := z1
    have add : ∀ t : Str, t.length ≤ 20 → z.length + t.length ≤ sizeLine := fun t ht => Nat.le_of_lt (small1000 (by omega))
    refine ⟨_, rfl, _, rfl, ⟨_, rfl⟩, _, rfl, rfl, by omega, _, rfl, _, _, rfl, rfl, add _ (by decide +kernel), _, rfl, _, _, rfl, rfl, add _ (by decide +kernel), _, rfl, (by show 1 ≤ sizeLine; decide), fun t ht => ?_⟩
    refine ⟨_, rfl, (by show 1 ≤ sizeLine; decide), fun l hl => ?_⟩
    refine ⟨_, rfl, _, rfl, _, _, rfl, rfl, add _ (by decide +kernel), _, rfl, fun d hd => ?_⟩
    refine ⟨_, rfl, _, rfl, upd_same, [(Sum.inr z, .str z)], rfl, (by show 1 ≤ 15; decide), (by show 13 ≤ sizeLine; decide), fun r hr => ?_⟩
    rw [upd_upd] at hr ⊢
    obtain ⟨hl0, lt⟩ := none2 hl
    obtain ⟨hd1, dl⟩ := none2 hd
    obtain ⟨hd0, dt⟩ := none2 hd1
    obtain ⟨hr2, rd⟩ := none2 hr
    obtain ⟨hr1, rl⟩ := none2 hr2
    obtain ⟨hr0, rt⟩ := none2 hr1
    have back : ∀ a, H1 a = none → H a = none := fun a h => by
      cases e : H a with
      | none => rfl
      | some o => exact absurd h (by rw [k1 a o e (hp1.ap h)]; exact fun z => nomatch z)
    refine ⟨p, q, r, _, rfl, (((hp1.upd (hp1.ap ht) (hp1.aq ht)).upd (hp1.ap hl0) (hp1.aq hl0)).upd (hp1.ap hd0) (hp1.aq hd0)).upd (hp1.ap hr0) (hp1.aq hr0), upd_same, hp1.ap hr0, (by show 0 < 13; decide), (by show 13 ≤ 1000; decide), fun x H5 hx hp5 k5 => ?_⟩
    have kk : Keep H H5 p := (keepUpd (keepUpd (keepUpd (keepUpd k1 (back t ht)) (back l hl0)) (back d hd0)) (back r hr0)).trans k5
    have at_t : H5 t = some (.tup [.str z]) := k5 t _ (by rw [upd_ne rt.symm, upd_ne dt.symm, upd_ne lt.symm, upd_same]) (hp1.ap ht)
    have at_l : H5 l = some (.lst [.str z]) := k5 l _ (by rw [upd_ne rl.symm, upd_ne dl.symm, upd_same]) (hp1.ap hl0)
    have at_d : H5 d = some (.dK (mergeK [] [(Sum.inr z, .str z)])) := k5 d _ (by rw [upd_ne rd.symm, upd_same]) (hp1.ap hd0)
    have fz : Fine z := fine_low low (by omega)
    have nt : ∀ (a : Addr) (y : Str), (.ref a : V) = .str y → Fine y := fun a y e => nomatch e
    have st : ∀ (u : Str), Fine u → ∀ y, (.str u : V) = .str y → Fine y := fun u h y e => by cases e; exact h
    simp only [List.mem_cons, List.not_mem_nil, or_false] at hx
    rcases hx with e | e | e | e | e | e | e | e | e | e | e | e | e <;> subst e
    · exact k _ _ _ .non (fun y e => nomatch e) hp5 kk
    · exact k _ _ _ (.int _) (fun y e => nomatch e) hp5 kk
    · exact k _ _ _ (.bl _) (fun y e => nomatch e) hp5 kk
    · exact k _ _ _ (.str _) (st _ ⟨by decide +kernel, by decide +kernel⟩) hp5 kk
    · exact k _ _ _ (.str _) (st _ (fine_up low (by omega))) hp5 kk
    · exact k _ _ _ (.str _) (st _ (fine_app fz (by omega) (by decide +kernel) (by decide +kernel))) hp5 kk
    · exact k _ _ _ (.str _) (st _ (fine_app fz (by omega) (by decide +kernel) (by decide +kernel))) hp5 kk
    · exact k _ _ _ (.tup _ _ at_t) (nt t) hp5 kk
    · exact k _ _ _ (.lst _ _ at_l) (nt l) hp5 kk
    · exact k _ _ _ (.int _) (fun y e => nomatch e) hp5 kk
    · exact k _ _ _ (.str _) (st _ (fine_app fz (by omega) (by decide +kernel) (by decide +kernel))) hp5 kk
    · exact k _ _ _ (.str _) (st _ fz) hp5 kk
    · exact k _ _ _ (.dct _ _ at_d) (nt d) hp5 kk
end
end Kx


set_option maxHeartbeats 8000000
namespace Kx
open PySem PySem.Spec PyProof.Rows L2
/-! an own exception made where nothing is handled, told with its context -/
section
variable {X : Cx} {CX : CXT} {nm : Str} {cl g : Addr} {lev : Nat} {fd : FuncData} {par : List Str} {prom : Sp} {first : Expr} {others : List Expr} {args : TA} {q pos : Pos}
theorem pmkN (T : OexC X.K cl) (initAt : PySem.W.findIn X.K (.ref cl) "__init__" = some (some (.ref g))) (isFn : PySem.W.typeIn X.K (.ref g) = some (.type "function")) (G0 : FnOk X.prog X.w X.K X.mg X.base CX lev g fd par prom) (room : Room (lev + 1) X.A)
    (bind : Binds X.K fd par []) (none_out : Passes CX X (fun _ _ _ => False)) (glob : Gl X nm) (there : X.mg nm = some (.ref cl)) (ha : PA X (first :: others) args) (ndb : (nm == ("__debug__" : Str)) = false := by decide)
    (star : starEach (first :: others) X.env = (false, eval first X.env) :: starEach others X.env := by rfl) (plain : (backTo pos (starEach others X.env)).any (·.1) = false := by rfl) : L2N.PMk X (.Call (.Name nm q) (first :: others) [] pos) (tMkO cl prom [] args) := by
  intro pins s σ H Q I h
  obtain ⟨n0, q0, N0, bs0, bm, sn0, su0, ab0, co0, dd0, z0, z1, z2, z3, z5, hC, hbm⟩ := T.cls
  refine wpAny_Call_Name_kw (ld_glob I glob there ?_ ndb)
  refine PySem.W.callWith_K (h₀ := X.base) I.ok.mod.kin T.kC (thn (ha.run pos pins s σ H _ I h) fun us ⟨hp, gs, dr, tk, os⟩ ⟨vs, H1, I1, rel, _, want⟩ => ⟨I1.kIn, ?_⟩) star plain
  show wpAny _ _ (call (.ref cl) us) _ _ _
  have up : hp.objs.size ≤ hp.objs.size + 1 := Nat.le_succ _
  have free : H1 (hp.objs.size + 1) = none := I1.hok.fresh up
  have due := want (hp.objs.size + 1) free
  rw [List.append_nil] at due
  have grows : ∀ b o, hp.get? b = some o → ((hp.push (PySem.W.kdv_tup us)).push (PySem.HandSPX.excO cl hp.objs.size)).get? b = some o := fun b o z => Heap.get?_push_of_some _ (Heap.get?_push_of_some _ z)
  have newAt : ((hp.push (PySem.W.kdv_tup us)).push (PySem.HandSPX.excO cl hp.objs.size)).get? (hp.objs.size + 1) = some (PySem.HandSPX.excO cl hp.objs.size) := by heap_get
  have J2 := I1.laid (t' := tk) (a := hp.objs.size + 1) (o := exo (hp.objs.size + 1) cl none) (h' := (hp.push (PySem.W.kdv_tup us)).push (PySem.HandSPX.excO cl hp.objs.size)) grows up (exo_ok newAt)
  have rel2 : Vals (V.ref (hp.objs.size + 1) :: vs) (Value.ref (hp.objs.size + 1) :: us) := .cons rfl rel
  have cnt : (Value.ref (hp.objs.size + 1) :: us ++ []).length = par.length := by
    rw [List.append_nil, ← rel2.length, G0.len _ _ _ _ due]
  have few : us.length ≤ sizeLine := by
    rw [← Paired.length rel, sizeLine_eq]
    omega
  have b2 := bind _ (Value.ref (hp.objs.size + 1) :: us) J2.kIn cnt
  rw [List.append_nil] at b2
  refine wpAny_call (PySem.HandSPX.call_own F.excBase_ValueError (fun Y => PySem.HandSPX.refsVE_contains Y bm hbm) (I1.kIn _ _ hC) (PySem.W.looks_findIn I1.kIn initAt) (fun self => PySem.W.bind_fn I1.kIn self isFn) few ?_)
  refine codeAny_mono (G0.run _ X.stack _ _ ⟨Value.ref (hp.objs.size + 1) :: us, []⟩ (Value.ref (hp.objs.size + 1) :: us) _ _ (fun _ _ _ => False) (room.make cl us []) (J2.env0.make cl us []) b2 rel2 due) fun out s' got => ?_
  cases out with
  | error er => exact none_out pins σ _ _ er s' J2 got
  | ok fl =>
    cases fl with
    | ret u =>
      obtain ⟨v, H2, os2, bare2, un2, hok2, rv, ev, d, fs, ea, ed, hd1, fin⟩ := got
      subst ev
      obtain ⟨h2, g2, d2, t2, os'⟩ := s'
      obtain ⟨t0, G, J, kG, ge, hoe, na⟩ := mk_end0 (d2 := d2) (t2 := t2) I1 up grows un2 hok2 os2 bare2 ea ed hd1
      refine ⟨rv, hp.objs.size + 1, _, _, ⟨G, g2, d2, t2, os'⟩, _, .ref cl, some d, rfl, J, kG, ge, hoe, ⟨rfl, rfl, fun ws hw => ?_⟩, rfl, rfl, na, rfl, bare2, raises_own T.exC T.tyC, fin⟩
      cases hw
      rfl
    | next => exact got.elim
    | brk => exact got.elim
    | cont => exact got.elim
end
/-! a def that lets out such, and one called in an except clause -/
section
variable {P : Program} {w : World} {K : PySem.W.Frag} {mg : Str → Option Value} {base : Heap}
theorem okN {CX : CXT} {x qual : Str} {st : Stmt} {f : Addr} {fd : FuncData} {N ps : List Str} {k : Nat} {sp : Sp} (F : Fun K x qual st f fd) (S : FnScope N ps (defScope st)) (len : ∀ vs H Q E, sp vs H Q E → vs.length = ps.length)
    (body : ∀ (cdv : Value) (A : Around) (outer : List Env) (s : Shared) (H : Hp) (vs : List V) (Q : VK) (E : XK), Room k (A.deeper (envOfC qual (defScope st) s.heap.objs.size f cdv)) → sp vs H Q E →
      ∃ t, PSs (cxOf CX P w K mg base N qual (defScope st) f cdv A outer s H E) (defBody st) t ∧ t { nx := fun _ H' => Q .non H', rt := Q } (start N vs) H) : FnOk P w K mg base CX (k + 1) f fd ps sp := by
  obtain ⟨oc, od, kV, doc, pm, an, cdv, ct, osl, rfl, lk, hcd⟩ := F.ex
  exact fn_of lk hcd S len (body cdv)
theorem okHot {CX : CXT} {x qual : Str} {st : Stmt} {f : Addr} {fd : FuncData} {N ps : List Str} {k : Nat} {sp : Sp} (F : Fun K x qual st f fd) (S : FnScope N ps (defScope st)) (len : ∀ vs H Q E, sp vs H Q E → vs.length = ps.length)
    (body : ∀ (cdv : Value) (A : Around) (outer : List Env) (s : Shared) (H : Hp) (vs : List V) (Q : VK) (E : XK) (p : Addr × Obj), L2H.Hot1 A p → L2H.RoomH k (A.deeper (envOfC qual (defScope st) s.heap.objs.size f cdv)) → sp vs H Q E →
      ∃ t, PSs (L2H.cxH CX P w K mg base N qual (defScope st) f cdv A outer s H E p) (defBody st) t ∧ t { nx := fun _ H' => Q .non H', rt := Q } (start N vs) H) : L2H.FnH P w K mg base CX (k + 1) f fd ps sp := by
  obtain ⟨oc, od, kV, doc, pm, an, cdv, ct, osl, rfl, lk, hcd⟩ := F.ex
  exact L2H.fn_ofH lk hcd S len fun A outer s H vs Q E p h1 h2 h3 => body cdv A outer s H vs Q E p h1 h2 h3
end
end Kx


set_option maxHeartbeats 4000000
namespace Kx
open PySem PySem.Spec PySem.Calls PyProof.Rows PySem.W
section
variable {prog : Program} {w : World} {A : Around} {E : Value → Shared → Prop} {s : Shared} {K : Frag} {x D : Addr} {ox : Obj}
theorem findObj_dataO {C : Addr} {od : Option Obj} {name : Str} {a g : Value} (hc : (clsIn K C).isSome = true) (ha : findIn K (.ref C) name = some (some a)) (hg : specialIn K a "__get__" = some (some g)) (ht : takesIn K a = some true) : findObj K C od name = some (.bind g a) := by
  obtain ⟨cd, hc⟩ := Option.isSome_iff_exists.mp hc
  unfold findObj
  rw [hc, Option.bind_some, ha, Option.bind_some]
  simp [hg, ht]
theorem kin_classO {od : Option Obj} {Q : Option Value → Shared → Prop} (hga : findIn K (.ref D) "__getattribute__" = some (some (.builtin "BaseException.__getattribute__"))) (hgt : findIn K (.ref D) "__getattr__" = some none) (hsub : subIn K (.ref D) (.type "BaseException") = some true)
    (hdct : hasDictIn K D = true) (ha : findIn K (.ref D) "__class__" = some (some (.builtin "object.__class__")))
    (hn : specialIn K (.builtin "object.__class__") "__get__" = some (some (.builtin "getset_descriptor.__get__"))) (htk : takesIn K (.builtin "object.__class__") = some true) (hm : mroIn K D (.type "object") = some true)
    (X : K.In s.heap) (I : InstAt s.heap x ox D od) (h : Q (some (.ref D)) { s with toks := s.toks + 1 }) : wpAny (model prog w) A (getAttr? (.ref x) "__class__") Q E s := by
  have hf : findObj K D od "__class__" = some (.bind (.builtin "getset_descriptor.__get__") (.builtin "object.__class__")) := findObj_dataO (by obtain ⟨cd, hc, _⟩ := any_some hdct; rw [hc]; rfl) ha hn htk
  obtain ⟨hp, g, d, t, os⟩ := s
  have L0 := I.type (M := model prog w)
  have L1 := looks_findIn (M := model prog w) X hga
  have L2 := looks_findIn (M := model prog w) X hgt
  have L3 := looks_find (M := model prog w) X I hf
  have sub : Looks (model prog w) hp (isInstance (.ref x) (.type "BaseException")) true := L0.andThen (looks_subIn X hsub)
  have hx0 : (false && onTheHeap (Value.builtin "BaseException.__getattribute__")) = false := rfl
  have hx2 : (Value.builtin "BaseException.__getattribute__" == Value.builtin "object.__getattribute__") = false := by decide +kernel
  have hx1 : (onTheHeap (Value.ref D) && Value.builtin "BaseException.__getattribute__" == Value.builtin "object.__getattribute__") = false := by rw [hx2]; rfl
  unfold getAttr? getAttrBy? getAttrBy
  refine wpAny_bind (wpAny_mkText (wpAny_bind (wpAny_attempt (wpAny_holding (wpAny_bind (L0.at (wpAny_bind (L1.at ?_))))))))
  show wpAny _ _ (if (onTheHeap (Value.ref D) && Value.builtin "BaseException.__getattribute__" == Value.builtin "object.__getattribute__") = true then _ else _) _ _ _
  rw [hx1, if_neg Bool.false_ne_true]
  unfold getAttrByItsOwn hookBefore
  refine wpAny_bind ?_
  rw [if_pos (show onTheHeap (Value.ref D) = true from rfl)]
  refine L2.at ?_
  refine wpAny_bind (wpAny_attempt (wpAny_holding ?_))
  unfold callGetattribute
  rw [hx0, if_neg Bool.false_ne_true]
  unfold boundAndCalled
  rw [PySem.F.excAttr_ValueError.ga.bind (.ref x)]
  refine wpAny_bind (wpAny_pure ?_)
  show wpAny _ _ (call (.builtin "BaseException.__getattribute__") [.ref x, .str "__class__" t]) _ _ _
  refine wpAny_call (codeAny_call_builtin PySem.F.excAttr_ValueError.ga.plain PySem.F.entry_bexc_ga ?_)
  refine @check_slot (model prog w) _ _ ⟨hp, g, d, t + 1, os⟩ "BaseException.__getattribute__" "BaseException" "__getattribute__" (.ref x) [.str "__class__" t] [] _ (by decide +kernel) (by decide +kernel) sub (PySem.F.args_bexc_ga (.ref x) (.str "__class__" t)) ?_
  unfold Builtin.«object.__getattribute__»
  refine wpAny_bind (wpAny_of_eq (a := ((Value.ref x : Value), [Value.str "__class__" t])) (by first | rfl | (simp only [slotArgs]; rfl)) ?_)
  refine wpAny_bind (wpAny_pure (wpAny_bind (L0.at (wpAny_bind (L3.at ?_)))))
  show wpAny _ _ (holding [Value.builtin "object.__class__"] (call (.builtin "getset_descriptor.__get__") [.builtin "object.__class__", .ref x, .ref D]) >>= ret) _ _ _
  refine wpAny_bind (wpAny_holding (wpAny_call (class_get (s := ⟨hp, g, d, t + 1, os⟩) (ox := ox) (od := od) X I hm ?_)))
  refine wpAny_pure ?_
  show wpAny _ _ (handedOut (.ref D)) _ _ _
  rw [handedOut_of (v := .ref D) rfl]
  first
    | exact wpAny_pure (wpAny_pure h)
    | exact wpAny_pure h
    | exact wpAny_pure (wpAny_bind (wpAny_pure (wpAny_pure h)))
theorem kitx_excO {od : Option Obj} (hga : findIn K (.ref D) "__getattribute__" = some (some (.builtin "BaseException.__getattribute__"))) (hgt : findIn K (.ref D) "__getattr__" = some none) (hsub : subIn K (.ref D) (.type "BaseException") = some true) (hdct : hasDictIn K D = true) (ha : findIn K (.ref D) "__class__" = some (some (.builtin "object.__class__")))
    (hn : specialIn K (.builtin "object.__class__") "__get__" = some (some (.builtin "getset_descriptor.__get__"))) (htk : takesIn K (.builtin "object.__class__") = some true) (hm : mroIn K D (.type "object") = some true) :
    KitX K (.ref x) (.ref D) (fun h => InstAt h x ox D od) where
  ty := fun _ _ _ I => I.type
  it := fun _ _ X _ => by
    obtain ⟨cdD, hcD, _⟩ := any_some hdct
    unfold clsIn at hcD
    split at hcD
    · rename_i c' d' cd' sl' ho
      intro A' Q' E' s' k q
      unfold isType loadHead
      exact wpAny_bind (wpAny_loadPart (k _ _ (X _ _ ho)) (wpAny_pure q))
    · cases hcD
  ne := fun h tp dd its n sl X htp => by
    obtain ⟨cdD, hcD, _⟩ := any_some hdct
    refine Bool.eq_false_iff.mpr fun q => ?_
    have e : D = tp := Value.ref.inj (beq_iff_eq.mp q)
    subst e
    unfold clsIn at hcD
    split at hcD
    · rename_i c' d' cd' sl' ho
      have z := (X _ _ ho).symm.trans htp
      cases z
    · cases hcD
  ca := fun X I k => kin_classO hga hgt hsub hdct ha hn htk hm X I k
end
end Kx
namespace Kx
open PySem PySem.Spec PyProof.Rows L2
/-- isinstance(e, c), e a caught error that has fields -/
def rIsEd (K : PySem.W.Frag) (a : Addr) (cls : Value) (d : Option Addr) (D : Addr) : List V → Hp → VK → Prop := fun xs H Q => cls = .ref D ∧ (d = none ∨ ∃ (dd : Addr) (fs : List (Str × V)), d = some dd ∧ H dd = some (.xd fs)) ∧ rIsE K D a xs H Q
theorem call_isEd {X : Cx} {K : PySem.W.Frag} {a D : Addr} {oe : Obj} {cls : Value} {d : Option Addr} {pn : List (Addr × Obj)} (hK : X.K = K) (C : ExcC K D) (hz : Zc cls d oe) (hf : ∃ vs, oe.data = .fields vs) : CallR (X.suite a ((a, oe) :: pn)) (.builtin "isinstance") (rIsEd K a cls d D) := by
  subst hK
  intro pins s σ H xs us Q I r h
  obtain ⟨hcl, hd, c, cv, b, rfl, hcv, e, q⟩ := h
  subst hcl
  cases r with
  | cons rx rr =>
    cases rr with
    | cons rt rr =>
      cases rr
      cases rx
      have ec := hcv _ rt
      subst ec
      obtain ⟨hget, _⟩ := I.pin (a, oe) (List.mem_append.mpr (.inl List.mem_cons_self))
      obtain ⟨vs, hv⟩ := hf
      have J : ∃ od, PySem.W.InstAt s.heap a oe D od := by
        rcases hd with hd | ⟨dd, fs, hd, he⟩
        · subst hd
          obtain ⟨oc, od, oda, osl⟩ := oe
          obtain ⟨h1, h2⟩ := hz
          dsimp only at h1 h2 hv
          subst h1 h2 hv
          exact ⟨none, hget, rfl, rfl, trivial⟩
        · subst hd
          obtain ⟨mA, hns, hr⟩ := (show ObjOk X.prog X.w H s.heap dd (.xd fs) from I.hok dd _ he)
          obtain ⟨od, ho, hl⟩ := lookIn_ns hns
          exact ⟨some od, hget, hz.1, by unfold PySem.W.notCls; rw [hv] <;> rfl, by rw [hz.2]; exact ho⟩
      obtain ⟨od, J⟩ := J
      exact PySem.W.kia_one (kitx_excO C.hg C.hk C.hs C.hd C.ha C.hn C.ht C.hm) I.kIn J e (fun z => nomatch z) fun tk => ⟨.bl b, H, I.kept (t' := tk) fun _ _ z => z, rfl, q⟩
end Kx

set_option maxHeartbeats 8000000
namespace Kx
open PySem PySem.Spec PyProof.Rows L2
/-! errors as values: their classes, their fields -/
/-- the fields as they are stored -/
def flds (fs : List Str) (ys : List V) : List (Str × V) := (fs.zip ys).reverse
/-- at a: an error of the class C that has these fields -/
def ErrAt (H : Hp) (a C : Addr) (fs : List (Str × V)) : Prop := (H a = some (exo a C none) ∧ fs = []) ∨ ∃ d, H a = some (exo a C (some d)) ∧ H d = some (exd d fs)
theorem ErrAt.keep {H H' : Hp} {a C : Addr} {fs : List (Str × V)} (h : ErrAt H a C fs) (s : Same H H') : ErrAt H' a C fs := by
  rcases h with ⟨h, e⟩ | ⟨d, h1, h2⟩
  · exact .inl ⟨s _ _ h, e⟩
  · exact .inr ⟨d, s _ _ h1, s _ _ h2⟩
/-- what such an __init__ does -/
def spIni (K : PySem.W.Frag) (C : Addr) (fs : List Str) : Sp := fun vs H Q _ => ∃ (a : Addr) (ys : List V), vs = .ref a :: ys ∧ ys.length = fs.length ∧ OexC K C ∧ (∀ f ∈ fs, PySem.W.findIn K (.ref C) f = some none) ∧ H a = some (exo a C none) ∧
  ∀ (d : Addr) (H' : Hp), H d = none → d ≠ a → H' a = some (exo a C (some d)) → H' d = some (exd d (flds fs ys)) → (∀ b o, H b = some o → b ≠ a → H' b = some o) → Q .non H'
theorem len_1 {ys : List V} {f : Str} (h : ys.length = [f].length) : ∃ y, ys = [y] := match ys, h with | [y], _ => ⟨y, rfl⟩
theorem len_2 {ys : List V} {f g : Str} (h : ys.length = [f, g].length) : ∃ y z, ys = [y, z] := match ys, h with | [y, z], _ => ⟨y, z, rfl⟩
theorem len_3 {ys : List V} {f g k : Str} (h : ys.length = [f, g, k].length) : ∃ y z u, ys = [y, z, u] := match ys, h with | [y, z, u], _ => ⟨y, z, u, rfl⟩
section
variable {P : Program} {w : World} {K : PySem.W.Frag} {mg : Str → Option Value} {base : Heap}
theorem scBadKinds : FnScope ["self", "index", "what"] ["self", "index", "what"] (defScope sBadKinds_init) := ⟨rfl, rfl, rfl, by decide +kernel, rfl, by decide +kernel, by decide +kernel⟩
theorem ok_BadKinds {f C : Addr} {fd : FuncData} (F : Fun K "__init__" "BadKinds.__init__" sBadKinds_init f fd) : FnOk P w K mg base CX0 1 f fd ["self", "index", "what"] (spIni K C ["index", "what"]) := by
  refine F.ok scBadKinds (fun vs H Q E h => ?_) (fun cdv A outer s H vs Q E hr h => ?_)
  · obtain ⟨a, ys, rfl, hl, _⟩ := h
    show ys.length + 1 = _
    rw [hl]
    rfl
  · obtain ⟨a, ys, rfl, hl, T, nf, ha, k⟩ := h
    obtain ⟨y, z, rfl⟩ := len_2 hl
    refine ⟨_, (pss_cons (ps_ost (pv 0) (pv 1)) (pss_one (ps_ost (pv 0) (pv 2)))), ?_⟩
    refine ⟨_, rfl, _, rfl, a, C, rfl, T, nf _ (by simp), .inl ⟨ha, fun dx hdx ne => ?_⟩⟩
    refine ⟨_, rfl, _, rfl, a, C, rfl, T, nf _ (by simp), .inr ⟨dx, _, upd_same, by rw [upd_ne ne, upd_same], (by show 1 ≤ 900; decide), ?_⟩⟩
    refine k dx _ hdx ne (by rw [upd_ne ne.symm, upd_same]) (by rw [upd_same]; rfl) fun b o e nb => ?_
    rw [upd_ne (ne_of_none e hdx), upd_ne nb, upd_ne (ne_of_none e hdx)]
    exact e
theorem scNoKind : FnScope ["self", "name"] ["self", "name"] (defScope sNoKind_init) := ⟨rfl, rfl, rfl, by decide +kernel, rfl, by decide +kernel, by decide +kernel⟩
theorem ok_NoKind {f C : Addr} {fd : FuncData} (F : Fun K "__init__" "NoKind.__init__" sNoKind_init f fd) : FnOk P w K mg base CX0 1 f fd ["self", "name"] (spIni K C ["name"]) := by
  refine F.ok scNoKind (fun vs H Q E h => ?_) (fun cdv A outer s H vs Q E hr h => ?_)
  · obtain ⟨a, ys, rfl, hl, _⟩ := h
    show ys.length + 1 = _
    rw [hl]
    rfl
  · obtain ⟨a, ys, rfl, hl, T, nf, ha, k⟩ := h
    obtain ⟨y, rfl⟩ := len_1 hl
    refine ⟨_, (pss_one (ps_ost (pv 0) (pv 1))), ?_⟩
    refine ⟨_, rfl, _, rfl, a, C, rfl, T, nf _ (by simp), .inl ⟨ha, fun dx hdx ne => ?_⟩⟩
    refine k dx _ hdx ne upd_same (by rw [upd_ne ne, upd_same]; rfl) fun b o e nb => ?_
    rw [upd_ne nb, upd_ne (ne_of_none e hdx)]
    exact e
theorem scBadHistory : FnScope ["self", "year", "index", "what"] ["self", "year", "index", "what"] (defScope sBadHistory_init) := ⟨rfl, rfl, rfl, by decide +kernel, rfl, by decide +kernel, by decide +kernel⟩
theorem ok_BadHistory {f C : Addr} {fd : FuncData} (F : Fun K "__init__" "BadHistory.__init__" sBadHistory_init f fd) : FnOk P w K mg base CX0 1 f fd ["self", "year", "index", "what"] (spIni K C ["year", "index", "what"]) := by
  refine F.ok scBadHistory (fun vs H Q E h => ?_) (fun cdv A outer s H vs Q E hr h => ?_)
  · obtain ⟨a, ys, rfl, hl, _⟩ := h
    show ys.length + 1 = _
    rw [hl]
    rfl
  · obtain ⟨a, ys, rfl, hl, T, nf, ha, k⟩ := h
    obtain ⟨y, z, u, rfl⟩ := len_3 hl
    refine ⟨_, (pss_cons (ps_ost (pv 0) (pv 1)) (pss_cons (ps_ost (pv 0) (pv 2)) (pss_one (ps_ost (pv 0) (pv 3))))), ?_⟩
    refine ⟨_, rfl, _, rfl, a, C, rfl, T, nf _ (by simp), .inl ⟨ha, fun dx hdx ne => ?_⟩⟩
    refine ⟨_, rfl, _, rfl, a, C, rfl, T, nf _ (by simp), .inr ⟨dx, _, upd_same, by rw [upd_ne ne, upd_same], (by show 1 ≤ 900; decide), ?_⟩⟩
    refine ⟨_, rfl, _, rfl, a, C, rfl, T, nf _ (by simp), .inr ⟨dx, _, by rw [upd_ne ne.symm, upd_same], upd_same, (by show 2 ≤ 900; decide), ?_⟩⟩
    refine k dx _ hdx ne (by rw [upd_ne ne.symm, upd_ne ne.symm, upd_same]) (by rw [upd_same]; rfl) fun b o e nb => ?_
    rw [upd_ne (ne_of_none e hdx), upd_ne (ne_of_none e hdx), upd_ne nb, upd_ne (ne_of_none e hdx)]
    exact e
theorem scBadYears : FnScope ["self", "years"] ["self", "years"] (defScope sBadYears_init) := ⟨rfl, rfl, rfl, by decide +kernel, rfl, by decide +kernel, by decide +kernel⟩
theorem ok_BadYears {f C : Addr} {fd : FuncData} (F : Fun K "__init__" "BadYears.__init__" sBadYears_init f fd) : FnOk P w K mg base CX0 1 f fd ["self", "years"] (spIni K C ["years"]) := by
  refine F.ok scBadYears (fun vs H Q E h => ?_) (fun cdv A outer s H vs Q E hr h => ?_)
  · obtain ⟨a, ys, rfl, hl, _⟩ := h
    show ys.length + 1 = _
    rw [hl]
    rfl
  · obtain ⟨a, ys, rfl, hl, T, nf, ha, k⟩ := h
    obtain ⟨y, rfl⟩ := len_1 hl
    refine ⟨_, (pss_one (ps_ost (pv 0) (pv 1))), ?_⟩
    refine ⟨_, rfl, _, rfl, a, C, rfl, T, nf _ (by simp), .inl ⟨ha, fun dx hdx ne => ?_⟩⟩
    refine k dx _ hdx ne upd_same (by rw [upd_ne ne, upd_same]; rfl) fun b o e nb => ?_
    rw [upd_ne nb, upd_ne (ne_of_none e hdx)]
    exact e
theorem scBadMap : FnScope ["self", "what"] ["self", "what"] (defScope sBadMap_init) := ⟨rfl, rfl, rfl, by decide +kernel, rfl, by decide +kernel, by decide +kernel⟩
theorem ok_BadMap {f C : Addr} {fd : FuncData} (F : Fun K "__init__" "BadMap.__init__" sBadMap_init f fd) : FnOk P w K mg base CX0 1 f fd ["self", "what"] (spIni K C ["what"]) := by
  refine F.ok scBadMap (fun vs H Q E h => ?_) (fun cdv A outer s H vs Q E hr h => ?_)
  · obtain ⟨a, ys, rfl, hl, _⟩ := h
    show ys.length + 1 = _
    rw [hl]
    rfl
  · obtain ⟨a, ys, rfl, hl, T, nf, ha, k⟩ := h
    obtain ⟨y, rfl⟩ := len_1 hl
    refine ⟨_, (pss_one (ps_ost (pv 0) (pv 1))), ?_⟩
    refine ⟨_, rfl, _, rfl, a, C, rfl, T, nf _ (by simp), .inl ⟨ha, fun dx hdx ne => ?_⟩⟩
    refine k dx _ hdx ne upd_same (by rw [upd_ne ne, upd_same]; rfl) fun b o e nb => ?_
    rw [upd_ne nb, upd_ne (ne_of_none e hdx)]
    exact e
theorem scBadPerson : FnScope ["self", "person"] ["self", "person"] (defScope sBadPerson_init) := ⟨rfl, rfl, rfl, by decide +kernel, rfl, by decide +kernel, by decide +kernel⟩
theorem ok_BadPerson {f C : Addr} {fd : FuncData} (F : Fun K "__init__" "BadPerson.__init__" sBadPerson_init f fd) : FnOk P w K mg base CX0 1 f fd ["self", "person"] (spIni K C ["person"]) := by
  refine F.ok scBadPerson (fun vs H Q E h => ?_) (fun cdv A outer s H vs Q E hr h => ?_)
  · obtain ⟨a, ys, rfl, hl, _⟩ := h
    show ys.length + 1 = _
    rw [hl]
    rfl
  · obtain ⟨a, ys, rfl, hl, T, nf, ha, k⟩ := h
    obtain ⟨y, rfl⟩ := len_1 hl
    refine ⟨_, (pss_one (ps_ost (pv 0) (pv 1))), ?_⟩
    refine ⟨_, rfl, _, rfl, a, C, rfl, T, nf _ (by simp), .inl ⟨ha, fun dx hdx ne => ?_⟩⟩
    refine k dx _ hdx ne upd_same (by rw [upd_ne ne, upd_same]; rfl) fun b o e nb => ?_
    rw [upd_ne nb, upd_ne (ne_of_none e hdx)]
    exact e
theorem scBadText : FnScope ["self", "row", "what"] ["self", "row", "what"] (defScope sBadText_init) := ⟨rfl, rfl, rfl, by decide +kernel, rfl, by decide +kernel, by decide +kernel⟩
theorem ok_BadText {f C : Addr} {fd : FuncData} (F : Fun K "__init__" "BadText.__init__" sBadText_init f fd) : FnOk P w K mg base CX0 1 f fd ["self", "row", "what"] (spIni K C ["row", "what"]) := by
  refine F.ok scBadText (fun vs H Q E h => ?_) (fun cdv A outer s H vs Q E hr h => ?_)
  · obtain ⟨a, ys, rfl, hl, _⟩ := h
    show ys.length + 1 = _
    rw [hl]
    rfl
  · obtain ⟨a, ys, rfl, hl, T, nf, ha, k⟩ := h
    obtain ⟨y, z, rfl⟩ := len_2 hl
    refine ⟨_, (pss_cons (ps_ost (pv 0) (pv 1)) (pss_one (ps_ost (pv 0) (pv 2)))), ?_⟩
    refine ⟨_, rfl, _, rfl, a, C, rfl, T, nf _ (by simp), .inl ⟨ha, fun dx hdx ne => ?_⟩⟩
    refine ⟨_, rfl, _, rfl, a, C, rfl, T, nf _ (by simp), .inr ⟨dx, _, upd_same, by rw [upd_ne ne, upd_same], (by show 1 ≤ 900; decide), ?_⟩⟩
    refine k dx _ hdx ne (by rw [upd_ne ne.symm, upd_same]) (by rw [upd_same]; rfl) fun b o e nb => ?_
    rw [upd_ne (ne_of_none e hdx), upd_ne nb, upd_ne (ne_of_none e hdx)]
    exact e
theorem scBadStand : FnScope ["self", "what"] ["self", "what"] (defScope sBadStand_init) := ⟨rfl, rfl, rfl, by decide +kernel, rfl, by decide +kernel, by decide +kernel⟩
theorem ok_BadStand {f C : Addr} {fd : FuncData} (F : Fun K "__init__" "BadStand.__init__" sBadStand_init f fd) : FnOk P w K mg base CX0 1 f fd ["self", "what"] (spIni K C ["what"]) := by
  refine F.ok scBadStand (fun vs H Q E h => ?_) (fun cdv A outer s H vs Q E hr h => ?_)
  · obtain ⟨a, ys, rfl, hl, _⟩ := h
    show ys.length + 1 = _
    rw [hl]
    rfl
  · obtain ⟨a, ys, rfl, hl, T, nf, ha, k⟩ := h
    obtain ⟨y, rfl⟩ := len_1 hl
    refine ⟨_, (pss_one (ps_ost (pv 0) (pv 1))), ?_⟩
    refine ⟨_, rfl, _, rfl, a, C, rfl, T, nf _ (by simp), .inl ⟨ha, fun dx hdx ne => ?_⟩⟩
    refine k dx _ hdx ne upd_same (by rw [upd_ne ne, upd_same]; rfl) fun b o e nb => ?_
    rw [upd_ne nb, upd_ne (ne_of_none e hdx)]
    exact e
theorem scBadDeed : FnScope ["self", "what"] ["self", "what"] (defScope sBadDeed_init) := ⟨rfl, rfl, rfl, by decide +kernel, rfl, by decide +kernel, by decide +kernel⟩
theorem ok_BadDeed {f C : Addr} {fd : FuncData} (F : Fun K "__init__" "BadDeed.__init__" sBadDeed_init f fd) : FnOk P w K mg base CX0 1 f fd ["self", "what"] (spIni K C ["what"]) := by
  refine F.ok scBadDeed (fun vs H Q E h => ?_) (fun cdv A outer s H vs Q E hr h => ?_)
  · obtain ⟨a, ys, rfl, hl, _⟩ := h
    show ys.length + 1 = _
    rw [hl]
    rfl
  · obtain ⟨a, ys, rfl, hl, T, nf, ha, k⟩ := h
    obtain ⟨y, rfl⟩ := len_1 hl
    refine ⟨_, (pss_one (ps_ost (pv 0) (pv 1))), ?_⟩
    refine ⟨_, rfl, _, rfl, a, C, rfl, T, nf _ (by simp), .inl ⟨ha, fun dx hdx ne => ?_⟩⟩
    refine k dx _ hdx ne upd_same (by rw [upd_ne ne, upd_same]; rfl) fun b o e nb => ?_
    rw [upd_ne nb, upd_ne (ne_of_none e hdx)]
    exact e
theorem scBadCondition : FnScope ["self", "what"] ["self", "what"] (defScope sBadCondition_init) := ⟨rfl, rfl, rfl, by decide +kernel, rfl, by decide +kernel, by decide +kernel⟩
theorem ok_BadCondition {f C : Addr} {fd : FuncData} (F : Fun K "__init__" "BadCondition.__init__" sBadCondition_init f fd) : FnOk P w K mg base CX0 1 f fd ["self", "what"] (spIni K C ["what"]) := by
  refine F.ok scBadCondition (fun vs H Q E h => ?_) (fun cdv A outer s H vs Q E hr h => ?_)
  · obtain ⟨a, ys, rfl, hl, _⟩ := h
    show ys.length + 1 = _
    rw [hl]
    rfl
  · obtain ⟨a, ys, rfl, hl, T, nf, ha, k⟩ := h
    obtain ⟨y, rfl⟩ := len_1 hl
    refine ⟨_, (pss_one (ps_ost (pv 0) (pv 1))), ?_⟩
    refine ⟨_, rfl, _, rfl, a, C, rfl, T, nf _ (by simp), .inl ⟨ha, fun dx hdx ne => ?_⟩⟩
    refine k dx _ hdx ne upd_same (by rw [upd_ne ne, upd_same]; rfl) fun b o e nb => ?_
    rw [upd_ne nb, upd_ne (ne_of_none e hdx)]
    exact e
theorem scBadChange : FnScope ["self", "what"] ["self", "what"] (defScope sBadChange_init) := ⟨rfl, rfl, rfl, by decide +kernel, rfl, by decide +kernel, by decide +kernel⟩
theorem ok_BadChange {f C : Addr} {fd : FuncData} (F : Fun K "__init__" "BadChange.__init__" sBadChange_init f fd) : FnOk P w K mg base CX0 1 f fd ["self", "what"] (spIni K C ["what"]) := by
  refine F.ok scBadChange (fun vs H Q E h => ?_) (fun cdv A outer s H vs Q E hr h => ?_)
  · obtain ⟨a, ys, rfl, hl, _⟩ := h
    show ys.length + 1 = _
    rw [hl]
    rfl
  · obtain ⟨a, ys, rfl, hl, T, nf, ha, k⟩ := h
    obtain ⟨y, rfl⟩ := len_1 hl
    refine ⟨_, (pss_one (ps_ost (pv 0) (pv 1))), ?_⟩
    refine ⟨_, rfl, _, rfl, a, C, rfl, T, nf _ (by simp), .inl ⟨ha, fun dx hdx ne => ?_⟩⟩
    refine k dx _ hdx ne upd_same (by rw [upd_ne ne, upd_same]; rfl) fun b o e nb => ?_
    rw [upd_ne nb, upd_ne (ne_of_none e hdx)]
    exact e
theorem scBadClause : FnScope ["self", "index", "what"] ["self", "index", "what"] (defScope sBadClause_init) := ⟨rfl, rfl, rfl, by decide +kernel, rfl, by decide +kernel, by decide +kernel⟩
theorem ok_BadClause {f C : Addr} {fd : FuncData} (F : Fun K "__init__" "BadClause.__init__" sBadClause_init f fd) : FnOk P w K mg base CX0 1 f fd ["self", "index", "what"] (spIni K C ["index", "what"]) := by
  refine F.ok scBadClause (fun vs H Q E h => ?_) (fun cdv A outer s H vs Q E hr h => ?_)
  · obtain ⟨a, ys, rfl, hl, _⟩ := h
    show ys.length + 1 = _
    rw [hl]
    rfl
  · obtain ⟨a, ys, rfl, hl, T, nf, ha, k⟩ := h
    obtain ⟨y, z, rfl⟩ := len_2 hl
    refine ⟨_, (pss_cons (ps_ost (pv 0) (pv 1)) (pss_one (ps_ost (pv 0) (pv 2)))), ?_⟩
    refine ⟨_, rfl, _, rfl, a, C, rfl, T, nf _ (by simp), .inl ⟨ha, fun dx hdx ne => ?_⟩⟩
    refine ⟨_, rfl, _, rfl, a, C, rfl, T, nf _ (by simp), .inr ⟨dx, _, upd_same, by rw [upd_ne ne, upd_same], (by show 1 ≤ 900; decide), ?_⟩⟩
    refine k dx _ hdx ne (by rw [upd_ne ne.symm, upd_same]) (by rw [upd_same]; rfl) fun b o e nb => ?_
    rw [upd_ne (ne_of_none e hdx), upd_ne nb, upd_ne (ne_of_none e hdx)]
    exact e
theorem scBadCustom : FnScope ["self", "index", "what"] ["self", "index", "what"] (defScope sBadCustom_init) := ⟨rfl, rfl, rfl, by decide +kernel, rfl, by decide +kernel, by decide +kernel⟩
theorem ok_BadCustom {f C : Addr} {fd : FuncData} (F : Fun K "__init__" "BadCustom.__init__" sBadCustom_init f fd) : FnOk P w K mg base CX0 1 f fd ["self", "index", "what"] (spIni K C ["index", "what"]) := by
  refine F.ok scBadCustom (fun vs H Q E h => ?_) (fun cdv A outer s H vs Q E hr h => ?_)
  · obtain ⟨a, ys, rfl, hl, _⟩ := h
    show ys.length + 1 = _
    rw [hl]
    rfl
  · obtain ⟨a, ys, rfl, hl, T, nf, ha, k⟩ := h
    obtain ⟨y, z, rfl⟩ := len_2 hl
    refine ⟨_, (pss_cons (ps_ost (pv 0) (pv 1)) (pss_one (ps_ost (pv 0) (pv 2)))), ?_⟩
    refine ⟨_, rfl, _, rfl, a, C, rfl, T, nf _ (by simp), .inl ⟨ha, fun dx hdx ne => ?_⟩⟩
    refine ⟨_, rfl, _, rfl, a, C, rfl, T, nf _ (by simp), .inr ⟨dx, _, upd_same, by rw [upd_ne ne, upd_same], (by show 1 ≤ 900; decide), ?_⟩⟩
    refine k dx _ hdx ne (by rw [upd_ne ne.symm, upd_same]) (by rw [upd_same]; rfl) fun b o e nb => ?_
    rw [upd_ne (ne_of_none e hdx), upd_ne nb, upd_ne (ne_of_none e hdx)]
    exact e
theorem scBadQuestion : FnScope ["self", "what"] ["self", "what"] (defScope sBadQuestion_init) := ⟨rfl, rfl, rfl, by decide +kernel, rfl, by decide +kernel, by decide +kernel⟩
theorem ok_BadQuestion {f C : Addr} {fd : FuncData} (F : Fun K "__init__" "BadQuestion.__init__" sBadQuestion_init f fd) : FnOk P w K mg base CX0 1 f fd ["self", "what"] (spIni K C ["what"]) := by
  refine F.ok scBadQuestion (fun vs H Q E h => ?_) (fun cdv A outer s H vs Q E hr h => ?_)
  · obtain ⟨a, ys, rfl, hl, _⟩ := h
    show ys.length + 1 = _
    rw [hl]
    rfl
  · obtain ⟨a, ys, rfl, hl, T, nf, ha, k⟩ := h
    obtain ⟨y, rfl⟩ := len_1 hl
    refine ⟨_, (pss_one (ps_ost (pv 0) (pv 1))), ?_⟩
    refine ⟨_, rfl, _, rfl, a, C, rfl, T, nf _ (by simp), .inl ⟨ha, fun dx hdx ne => ?_⟩⟩
    refine k dx _ hdx ne upd_same (by rw [upd_ne ne, upd_same]; rfl) fun b o e nb => ?_
    rw [upd_ne nb, upd_ne (ne_of_none e hdx)]
    exact e
theorem scTooMany : FnScope ["self", "count"] ["self", "count"] (defScope sTooMany_init) := ⟨rfl, rfl, rfl, by decide +kernel, rfl, by decide +kernel, by decide +kernel⟩
theorem ok_TooMany {f C : Addr} {fd : FuncData} (F : Fun K "__init__" "TooMany.__init__" sTooMany_init f fd) : FnOk P w K mg base CX0 1 f fd ["self", "count"] (spIni K C ["count"]) := by
  refine F.ok scTooMany (fun vs H Q E h => ?_) (fun cdv A outer s H vs Q E hr h => ?_)
  · obtain ⟨a, ys, rfl, hl, _⟩ := h
    show ys.length + 1 = _
    rw [hl]
    rfl
  · obtain ⟨a, ys, rfl, hl, T, nf, ha, k⟩ := h
    obtain ⟨y, rfl⟩ := len_1 hl
    refine ⟨_, (pss_one (ps_ost (pv 0) (pv 1))), ?_⟩
    refine ⟨_, rfl, _, rfl, a, C, rfl, T, nf _ (by simp), .inl ⟨ha, fun dx hdx ne => ?_⟩⟩
    refine k dx _ hdx ne upd_same (by rw [upd_ne ne, upd_same]; rfl) fun b o e nb => ?_
    rw [upd_ne nb, upd_ne (ne_of_none e hdx)]
    exact e
theorem scBadSeat : FnScope ["self", "seat"] ["self", "seat"] (defScope sBadSeat_init) := ⟨rfl, rfl, rfl, by decide +kernel, rfl, by decide +kernel, by decide +kernel⟩
theorem ok_BadSeat {f C : Addr} {fd : FuncData} (F : Fun K "__init__" "BadSeat.__init__" sBadSeat_init f fd) : FnOk P w K mg base CX0 1 f fd ["self", "seat"] (spIni K C ["seat"]) := by
  refine F.ok scBadSeat (fun vs H Q E h => ?_) (fun cdv A outer s H vs Q E hr h => ?_)
  · obtain ⟨a, ys, rfl, hl, _⟩ := h
    show ys.length + 1 = _
    rw [hl]
    rfl
  · obtain ⟨a, ys, rfl, hl, T, nf, ha, k⟩ := h
    obtain ⟨y, rfl⟩ := len_1 hl
    refine ⟨_, (pss_one (ps_ost (pv 0) (pv 1))), ?_⟩
    refine ⟨_, rfl, _, rfl, a, C, rfl, T, nf _ (by simp), .inl ⟨ha, fun dx hdx ne => ?_⟩⟩
    refine k dx _ hdx ne upd_same (by rw [upd_ne ne, upd_same]; rfl) fun b o e nb => ?_
    rw [upd_ne nb, upd_ne (ne_of_none e hdx)]
    exact e
theorem scBadClock : FnScope ["self", "clock"] ["self", "clock"] (defScope sBadClock_init) := ⟨rfl, rfl, rfl, by decide +kernel, rfl, by decide +kernel, by decide +kernel⟩
theorem ok_BadClock {f C : Addr} {fd : FuncData} (F : Fun K "__init__" "BadClock.__init__" sBadClock_init f fd) : FnOk P w K mg base CX0 1 f fd ["self", "clock"] (spIni K C ["clock"]) := by
  refine F.ok scBadClock (fun vs H Q E h => ?_) (fun cdv A outer s H vs Q E hr h => ?_)
  · obtain ⟨a, ys, rfl, hl, _⟩ := h
    show ys.length + 1 = _
    rw [hl]
    rfl
  · obtain ⟨a, ys, rfl, hl, T, nf, ha, k⟩ := h
    obtain ⟨y, rfl⟩ := len_1 hl
    refine ⟨_, (pss_one (ps_ost (pv 0) (pv 1))), ?_⟩
    refine ⟨_, rfl, _, rfl, a, C, rfl, T, nf _ (by simp), .inl ⟨ha, fun dx hdx ne => ?_⟩⟩
    refine k dx _ hdx ne upd_same (by rw [upd_ne ne, upd_same]; rfl) fun b o e nb => ?_
    rw [upd_ne nb, upd_ne (ne_of_none e hdx)]
    exact e
theorem scNoClause : FnScope ["self", "index"] ["self", "index"] (defScope sNoClause_init) := ⟨rfl, rfl, rfl, by decide +kernel, rfl, by decide +kernel, by decide +kernel⟩
theorem ok_NoClause {f C : Addr} {fd : FuncData} (F : Fun K "__init__" "NoClause.__init__" sNoClause_init f fd) : FnOk P w K mg base CX0 1 f fd ["self", "index"] (spIni K C ["index"]) := by
  refine F.ok scNoClause (fun vs H Q E h => ?_) (fun cdv A outer s H vs Q E hr h => ?_)
  · obtain ⟨a, ys, rfl, hl, _⟩ := h
    show ys.length + 1 = _
    rw [hl]
    rfl
  · obtain ⟨a, ys, rfl, hl, T, nf, ha, k⟩ := h
    obtain ⟨y, rfl⟩ := len_1 hl
    refine ⟨_, (pss_one (ps_ost (pv 0) (pv 1))), ?_⟩
    refine ⟨_, rfl, _, rfl, a, C, rfl, T, nf _ (by simp), .inl ⟨ha, fun dx hdx ne => ?_⟩⟩
    refine k dx _ hdx ne upd_same (by rw [upd_ne ne, upd_same]; rfl) fun b o e nb => ?_
    rw [upd_ne nb, upd_ne (ne_of_none e hdx)]
    exact e
theorem scBadShape : FnScope ["self", "what"] ["self", "what"] (defScope sBadShape_init) := ⟨rfl, rfl, rfl, by decide +kernel, rfl, by decide +kernel, by decide +kernel⟩
theorem ok_BadShape {f C : Addr} {fd : FuncData} (F : Fun K "__init__" "BadShape.__init__" sBadShape_init f fd) : FnOk P w K mg base CX0 1 f fd ["self", "what"] (spIni K C ["what"]) := by
  refine F.ok scBadShape (fun vs H Q E h => ?_) (fun cdv A outer s H vs Q E hr h => ?_)
  · obtain ⟨a, ys, rfl, hl, _⟩ := h
    show ys.length + 1 = _
    rw [hl]
    rfl
  · obtain ⟨a, ys, rfl, hl, T, nf, ha, k⟩ := h
    obtain ⟨y, rfl⟩ := len_1 hl
    refine ⟨_, (pss_one (ps_ost (pv 0) (pv 1))), ?_⟩
    refine ⟨_, rfl, _, rfl, a, C, rfl, T, nf _ (by simp), .inl ⟨ha, fun dx hdx ne => ?_⟩⟩
    refine k dx _ hdx ne upd_same (by rw [upd_ne ne, upd_same]; rfl) fun b o e nb => ?_
    rw [upd_ne nb, upd_ne (ne_of_none e hdx)]
    exact e
theorem scBadSpot : FnScope ["self", "index"] ["self", "index"] (defScope sBadSpot_init) := ⟨rfl, rfl, rfl, by decide +kernel, rfl, by decide +kernel, by decide +kernel⟩
theorem ok_BadSpot {f C : Addr} {fd : FuncData} (F : Fun K "__init__" "BadSpot.__init__" sBadSpot_init f fd) : FnOk P w K mg base CX0 1 f fd ["self", "index"] (spIni K C ["index"]) := by
  refine F.ok scBadSpot (fun vs H Q E h => ?_) (fun cdv A outer s H vs Q E hr h => ?_)
  · obtain ⟨a, ys, rfl, hl, _⟩ := h
    show ys.length + 1 = _
    rw [hl]
    rfl
  · obtain ⟨a, ys, rfl, hl, T, nf, ha, k⟩ := h
    obtain ⟨y, rfl⟩ := len_1 hl
    refine ⟨_, (pss_one (ps_ost (pv 0) (pv 1))), ?_⟩
    refine ⟨_, rfl, _, rfl, a, C, rfl, T, nf _ (by simp), .inl ⟨ha, fun dx hdx ne => ?_⟩⟩
    refine k dx _ hdx ne upd_same (by rw [upd_ne ne, upd_same]; rfl) fun b o e nb => ?_
    rw [upd_ne nb, upd_ne (ne_of_none e hdx)]
    exact e
theorem scBadLikeness : FnScope ["self", "what"] ["self", "what"] (defScope sBadLikeness_init) := ⟨rfl, rfl, rfl, by decide +kernel, rfl, by decide +kernel, by decide +kernel⟩
theorem ok_BadLikeness {f C : Addr} {fd : FuncData} (F : Fun K "__init__" "BadLikeness.__init__" sBadLikeness_init f fd) : FnOk P w K mg base CX0 1 f fd ["self", "what"] (spIni K C ["what"]) := by
  refine F.ok scBadLikeness (fun vs H Q E h => ?_) (fun cdv A outer s H vs Q E hr h => ?_)
  · obtain ⟨a, ys, rfl, hl, _⟩ := h
    show ys.length + 1 = _
    rw [hl]
    rfl
  · obtain ⟨a, ys, rfl, hl, T, nf, ha, k⟩ := h
    obtain ⟨y, rfl⟩ := len_1 hl
    refine ⟨_, (pss_one (ps_ost (pv 0) (pv 1))), ?_⟩
    refine ⟨_, rfl, _, rfl, a, C, rfl, T, nf _ (by simp), .inl ⟨ha, fun dx hdx ne => ?_⟩⟩
    refine k dx _ hdx ne upd_same (by rw [upd_ne ne, upd_same]; rfl) fun b o e nb => ?_
    rw [upd_ne nb, upd_ne (ne_of_none e hdx)]
    exact e
theorem scBadIndex : FnScope ["self", "index"] ["self", "index"] (defScope sBadIndex_init) := ⟨rfl, rfl, rfl, by decide +kernel, rfl, by decide +kernel, by decide +kernel⟩
theorem ok_BadIndex {f C : Addr} {fd : FuncData} (F : Fun K "__init__" "BadIndex.__init__" sBadIndex_init f fd) : FnOk P w K mg base CX0 1 f fd ["self", "index"] (spIni K C ["index"]) := by
  refine F.ok scBadIndex (fun vs H Q E h => ?_) (fun cdv A outer s H vs Q E hr h => ?_)
  · obtain ⟨a, ys, rfl, hl, _⟩ := h
    show ys.length + 1 = _
    rw [hl]
    rfl
  · obtain ⟨a, ys, rfl, hl, T, nf, ha, k⟩ := h
    obtain ⟨y, rfl⟩ := len_1 hl
    refine ⟨_, (pss_one (ps_ost (pv 0) (pv 1))), ?_⟩
    refine ⟨_, rfl, _, rfl, a, C, rfl, T, nf _ (by simp), .inl ⟨ha, fun dx hdx ne => ?_⟩⟩
    refine k dx _ hdx ne upd_same (by rw [upd_ne ne, upd_same]; rfl) fun b o e nb => ?_
    rw [upd_ne nb, upd_ne (ne_of_none e hdx)]
    exact e
theorem scBadPair : FnScope ["self", "what"] ["self", "what"] (defScope sBadPair_init) := ⟨rfl, rfl, rfl, by decide +kernel, rfl, by decide +kernel, by decide +kernel⟩
theorem ok_BadPair {f C : Addr} {fd : FuncData} (F : Fun K "__init__" "BadPair.__init__" sBadPair_init f fd) : FnOk P w K mg base CX0 1 f fd ["self", "what"] (spIni K C ["what"]) := by
  refine F.ok scBadPair (fun vs H Q E h => ?_) (fun cdv A outer s H vs Q E hr h => ?_)
  · obtain ⟨a, ys, rfl, hl, _⟩ := h
    show ys.length + 1 = _
    rw [hl]
    rfl
  · obtain ⟨a, ys, rfl, hl, T, nf, ha, k⟩ := h
    obtain ⟨y, rfl⟩ := len_1 hl
    refine ⟨_, (pss_one (ps_ost (pv 0) (pv 1))), ?_⟩
    refine ⟨_, rfl, _, rfl, a, C, rfl, T, nf _ (by simp), .inl ⟨ha, fun dx hdx ne => ?_⟩⟩
    refine k dx _ hdx ne upd_same (by rw [upd_ne ne, upd_same]; rfl) fun b o e nb => ?_
    rw [upd_ne nb, upd_ne (ne_of_none e hdx)]
    exact e
theorem scBadHeights : FnScope ["self", "index", "what"] ["self", "index", "what"] (defScope sBadHeights_init) := ⟨rfl, rfl, rfl, by decide +kernel, rfl, by decide +kernel, by decide +kernel⟩
theorem ok_BadHeights {f C : Addr} {fd : FuncData} (F : Fun K "__init__" "BadHeights.__init__" sBadHeights_init f fd) : FnOk P w K mg base CX0 1 f fd ["self", "index", "what"] (spIni K C ["index", "what"]) := by
  refine F.ok scBadHeights (fun vs H Q E h => ?_) (fun cdv A outer s H vs Q E hr h => ?_)
  · obtain ⟨a, ys, rfl, hl, _⟩ := h
    show ys.length + 1 = _
    rw [hl]
    rfl
  · obtain ⟨a, ys, rfl, hl, T, nf, ha, k⟩ := h
    obtain ⟨y, z, rfl⟩ := len_2 hl
    refine ⟨_, (pss_cons (ps_ost (pv 0) (pv 1)) (pss_one (ps_ost (pv 0) (pv 2)))), ?_⟩
    refine ⟨_, rfl, _, rfl, a, C, rfl, T, nf _ (by simp), .inl ⟨ha, fun dx hdx ne => ?_⟩⟩
    refine ⟨_, rfl, _, rfl, a, C, rfl, T, nf _ (by simp), .inr ⟨dx, _, upd_same, by rw [upd_ne ne, upd_same], (by show 1 ≤ 900; decide), ?_⟩⟩
    refine k dx _ hdx ne (by rw [upd_ne ne.symm, upd_same]) (by rw [upd_same]; rfl) fun b o e nb => ?_
    rw [upd_ne (ne_of_none e hdx), upd_ne nb, upd_ne (ne_of_none e hdx)]
    exact e
theorem scBadPasts : FnScope ["self", "what"] ["self", "what"] (defScope sBadPasts_init) := ⟨rfl, rfl, rfl, by decide +kernel, rfl, by decide +kernel, by decide +kernel⟩
theorem ok_BadPasts {f C : Addr} {fd : FuncData} (F : Fun K "__init__" "BadPasts.__init__" sBadPasts_init f fd) : FnOk P w K mg base CX0 1 f fd ["self", "what"] (spIni K C ["what"]) := by
  refine F.ok scBadPasts (fun vs H Q E h => ?_) (fun cdv A outer s H vs Q E hr h => ?_)
  · obtain ⟨a, ys, rfl, hl, _⟩ := h
    show ys.length + 1 = _
    rw [hl]
    rfl
  · obtain ⟨a, ys, rfl, hl, T, nf, ha, k⟩ := h
    obtain ⟨y, rfl⟩ := len_1 hl
    refine ⟨_, (pss_one (ps_ost (pv 0) (pv 1))), ?_⟩
    refine ⟨_, rfl, _, rfl, a, C, rfl, T, nf _ (by simp), .inl ⟨ha, fun dx hdx ne => ?_⟩⟩
    refine k dx _ hdx ne upd_same (by rw [upd_ne ne, upd_same]; rfl) fun b o e nb => ?_
    rw [upd_ne nb, upd_ne (ne_of_none e hdx)]
    exact e
theorem scBadRings : FnScope ["self", "what"] ["self", "what"] (defScope sBadRings_init) := ⟨rfl, rfl, rfl, by decide +kernel, rfl, by decide +kernel, by decide +kernel⟩
theorem ok_BadRings {f C : Addr} {fd : FuncData} (F : Fun K "__init__" "BadRings.__init__" sBadRings_init f fd) : FnOk P w K mg base CX0 1 f fd ["self", "what"] (spIni K C ["what"]) := by
  refine F.ok scBadRings (fun vs H Q E h => ?_) (fun cdv A outer s H vs Q E hr h => ?_)
  · obtain ⟨a, ys, rfl, hl, _⟩ := h
    show ys.length + 1 = _
    rw [hl]
    rfl
  · obtain ⟨a, ys, rfl, hl, T, nf, ha, k⟩ := h
    obtain ⟨y, rfl⟩ := len_1 hl
    refine ⟨_, (pss_one (ps_ost (pv 0) (pv 1))), ?_⟩
    refine ⟨_, rfl, _, rfl, a, C, rfl, T, nf _ (by simp), .inl ⟨ha, fun dx hdx ne => ?_⟩⟩
    refine k dx _ hdx ne upd_same (by rw [upd_ne ne, upd_same]; rfl) fun b o e nb => ?_
    rw [upd_ne nb, upd_ne (ne_of_none e hdx)]
    exact e
theorem scBadTurns : FnScope ["self", "turns"] ["self", "turns"] (defScope sBadTurns_init) := ⟨rfl, rfl, rfl, by decide +kernel, rfl, by decide +kernel, by decide +kernel⟩
theorem ok_BadTurns {f C : Addr} {fd : FuncData} (F : Fun K "__init__" "BadTurns.__init__" sBadTurns_init f fd) : FnOk P w K mg base CX0 1 f fd ["self", "turns"] (spIni K C ["turns"]) := by
  refine F.ok scBadTurns (fun vs H Q E h => ?_) (fun cdv A outer s H vs Q E hr h => ?_)
  · obtain ⟨a, ys, rfl, hl, _⟩ := h
    show ys.length + 1 = _
    rw [hl]
    rfl
  · obtain ⟨a, ys, rfl, hl, T, nf, ha, k⟩ := h
    obtain ⟨y, rfl⟩ := len_1 hl
    refine ⟨_, (pss_one (ps_ost (pv 0) (pv 1))), ?_⟩
    refine ⟨_, rfl, _, rfl, a, C, rfl, T, nf _ (by simp), .inl ⟨ha, fun dx hdx ne => ?_⟩⟩
    refine k dx _ hdx ne upd_same (by rw [upd_ne ne, upd_same]; rfl) fun b o e nb => ?_
    rw [upd_ne nb, upd_ne (ne_of_none e hdx)]
    exact e
theorem scBadEntry : FnScope ["self", "what"] ["self", "what"] (defScope sBadEntry_init) := ⟨rfl, rfl, rfl, by decide +kernel, rfl, by decide +kernel, by decide +kernel⟩
theorem ok_BadEntry {f C : Addr} {fd : FuncData} (F : Fun K "__init__" "BadEntry.__init__" sBadEntry_init f fd) : FnOk P w K mg base CX0 1 f fd ["self", "what"] (spIni K C ["what"]) := by
  refine F.ok scBadEntry (fun vs H Q E h => ?_) (fun cdv A outer s H vs Q E hr h => ?_)
  · obtain ⟨a, ys, rfl, hl, _⟩ := h
    show ys.length + 1 = _
    rw [hl]
    rfl
  · obtain ⟨a, ys, rfl, hl, T, nf, ha, k⟩ := h
    obtain ⟨y, rfl⟩ := len_1 hl
    refine ⟨_, (pss_one (ps_ost (pv 0) (pv 1))), ?_⟩
    refine ⟨_, rfl, _, rfl, a, C, rfl, T, nf _ (by simp), .inl ⟨ha, fun dx hdx ne => ?_⟩⟩
    refine k dx _ hdx ne upd_same (by rw [upd_ne ne, upd_same]; rfl) fun b o e nb => ?_
    rw [upd_ne nb, upd_ne (ne_of_none e hdx)]
    exact e
theorem scBadAbstract : FnScope ["self", "year", "what"] ["self", "year", "what"] (defScope sBadAbstract_init) := ⟨rfl, rfl, rfl, by decide +kernel, rfl, by decide +kernel, by decide +kernel⟩
theorem ok_BadAbstract {f C : Addr} {fd : FuncData} (F : Fun K "__init__" "BadAbstract.__init__" sBadAbstract_init f fd) : FnOk P w K mg base CX0 1 f fd ["self", "year", "what"] (spIni K C ["year", "what"]) := by
  refine F.ok scBadAbstract (fun vs H Q E h => ?_) (fun cdv A outer s H vs Q E hr h => ?_)
  · obtain ⟨a, ys, rfl, hl, _⟩ := h
    show ys.length + 1 = _
    rw [hl]
    rfl
  · obtain ⟨a, ys, rfl, hl, T, nf, ha, k⟩ := h
    obtain ⟨y, z, rfl⟩ := len_2 hl
    refine ⟨_, (pss_cons (ps_ost (pv 0) (pv 1)) (pss_one (ps_ost (pv 0) (pv 2)))), ?_⟩
    refine ⟨_, rfl, _, rfl, a, C, rfl, T, nf _ (by simp), .inl ⟨ha, fun dx hdx ne => ?_⟩⟩
    refine ⟨_, rfl, _, rfl, a, C, rfl, T, nf _ (by simp), .inr ⟨dx, _, upd_same, by rw [upd_ne ne, upd_same], (by show 1 ≤ 900; decide), ?_⟩⟩
    refine k dx _ hdx ne (by rw [upd_ne ne.symm, upd_same]) (by rw [upd_same]; rfl) fun b o e nb => ?_
    rw [upd_ne (ne_of_none e hdx), upd_ne nb, upd_ne (ne_of_none e hdx)]
    exact e
theorem scBadBook : FnScope ["self", "what"] ["self", "what"] (defScope sBadBook_init) := ⟨rfl, rfl, rfl, by decide +kernel, rfl, by decide +kernel, by decide +kernel⟩
theorem ok_BadBook {f C : Addr} {fd : FuncData} (F : Fun K "__init__" "BadBook.__init__" sBadBook_init f fd) : FnOk P w K mg base CX0 1 f fd ["self", "what"] (spIni K C ["what"]) := by
  refine F.ok scBadBook (fun vs H Q E h => ?_) (fun cdv A outer s H vs Q E hr h => ?_)
  · obtain ⟨a, ys, rfl, hl, _⟩ := h
    show ys.length + 1 = _
    rw [hl]
    rfl
  · obtain ⟨a, ys, rfl, hl, T, nf, ha, k⟩ := h
    obtain ⟨y, rfl⟩ := len_1 hl
    refine ⟨_, (pss_one (ps_ost (pv 0) (pv 1))), ?_⟩
    refine ⟨_, rfl, _, rfl, a, C, rfl, T, nf _ (by simp), .inl ⟨ha, fun dx hdx ne => ?_⟩⟩
    refine k dx _ hdx ne upd_same (by rw [upd_ne ne, upd_same]; rfl) fun b o e nb => ?_
    rw [upd_ne nb, upd_ne (ne_of_none e hdx)]
    exact e
theorem scBadShelf : FnScope ["self", "index", "what"] ["self", "index", "what"] (defScope sBadShelf_init) := ⟨rfl, rfl, rfl, by decide +kernel, rfl, by decide +kernel, by decide +kernel⟩
theorem ok_BadShelf {f C : Addr} {fd : FuncData} (F : Fun K "__init__" "BadShelf.__init__" sBadShelf_init f fd) : FnOk P w K mg base CX0 1 f fd ["self", "index", "what"] (spIni K C ["index", "what"]) := by
  refine F.ok scBadShelf (fun vs H Q E h => ?_) (fun cdv A outer s H vs Q E hr h => ?_)
  · obtain ⟨a, ys, rfl, hl, _⟩ := h
    show ys.length + 1 = _
    rw [hl]
    rfl
  · obtain ⟨a, ys, rfl, hl, T, nf, ha, k⟩ := h
    obtain ⟨y, z, rfl⟩ := len_2 hl
    refine ⟨_, (pss_cons (ps_ost (pv 0) (pv 1)) (pss_one (ps_ost (pv 0) (pv 2)))), ?_⟩
    refine ⟨_, rfl, _, rfl, a, C, rfl, T, nf _ (by simp), .inl ⟨ha, fun dx hdx ne => ?_⟩⟩
    refine ⟨_, rfl, _, rfl, a, C, rfl, T, nf _ (by simp), .inr ⟨dx, _, upd_same, by rw [upd_ne ne, upd_same], (by show 1 ≤ 900; decide), ?_⟩⟩
    refine k dx _ hdx ne (by rw [upd_ne ne.symm, upd_same]) (by rw [upd_same]; rfl) fun b o e nb => ?_
    rw [upd_ne (ne_of_none e hdx), upd_ne nb, upd_ne (ne_of_none e hdx)]
    exact e
theorem scBadRound : FnScope ["self", "index", "what"] ["self", "index", "what"] (defScope sBadRound_init) := ⟨rfl, rfl, rfl, by decide +kernel, rfl, by decide +kernel, by decide +kernel⟩
theorem ok_BadRound {f C : Addr} {fd : FuncData} (F : Fun K "__init__" "BadRound.__init__" sBadRound_init f fd) : FnOk P w K mg base CX0 1 f fd ["self", "index", "what"] (spIni K C ["index", "what"]) := by
  refine F.ok scBadRound (fun vs H Q E h => ?_) (fun cdv A outer s H vs Q E hr h => ?_)
  · obtain ⟨a, ys, rfl, hl, _⟩ := h
    show ys.length + 1 = _
    rw [hl]
    rfl
  · obtain ⟨a, ys, rfl, hl, T, nf, ha, k⟩ := h
    obtain ⟨y, z, rfl⟩ := len_2 hl
    refine ⟨_, (pss_cons (ps_ost (pv 0) (pv 1)) (pss_one (ps_ost (pv 0) (pv 2)))), ?_⟩
    refine ⟨_, rfl, _, rfl, a, C, rfl, T, nf _ (by simp), .inl ⟨ha, fun dx hdx ne => ?_⟩⟩
    refine ⟨_, rfl, _, rfl, a, C, rfl, T, nf _ (by simp), .inr ⟨dx, _, upd_same, by rw [upd_ne ne, upd_same], (by show 1 ≤ 900; decide), ?_⟩⟩
    refine k dx _ hdx ne (by rw [upd_ne ne.symm, upd_same]) (by rw [upd_same]; rfl) fun b o e nb => ?_
    rw [upd_ne (ne_of_none e hdx), upd_ne nb, upd_ne (ne_of_none e hdx)]
    exact e
theorem scBadRest : FnScope ["self", "rest"] ["self", "rest"] (defScope sBadRest_init) := ⟨rfl, rfl, rfl, by decide +kernel, rfl, by decide +kernel, by decide +kernel⟩
theorem ok_BadRest {f C : Addr} {fd : FuncData} (F : Fun K "__init__" "BadRest.__init__" sBadRest_init f fd) : FnOk P w K mg base CX0 1 f fd ["self", "rest"] (spIni K C ["rest"]) := by
  refine F.ok scBadRest (fun vs H Q E h => ?_) (fun cdv A outer s H vs Q E hr h => ?_)
  · obtain ⟨a, ys, rfl, hl, _⟩ := h
    show ys.length + 1 = _
    rw [hl]
    rfl
  · obtain ⟨a, ys, rfl, hl, T, nf, ha, k⟩ := h
    obtain ⟨y, rfl⟩ := len_1 hl
    refine ⟨_, (pss_one (ps_ost (pv 0) (pv 1))), ?_⟩
    refine ⟨_, rfl, _, rfl, a, C, rfl, T, nf _ (by simp), .inl ⟨ha, fun dx hdx ne => ?_⟩⟩
    refine k dx _ hdx ne upd_same (by rw [upd_ne ne, upd_same]; rfl) fun b o e nb => ?_
    rw [upd_ne nb, upd_ne (ne_of_none e hdx)]
    exact e
theorem scBadDocket : FnScope ["self", "what"] ["self", "what"] (defScope sBadDocket_init) := ⟨rfl, rfl, rfl, by decide +kernel, rfl, by decide +kernel, by decide +kernel⟩
theorem ok_BadDocket {f C : Addr} {fd : FuncData} (F : Fun K "__init__" "BadDocket.__init__" sBadDocket_init f fd) : FnOk P w K mg base CX0 1 f fd ["self", "what"] (spIni K C ["what"]) := by
  refine F.ok scBadDocket (fun vs H Q E h => ?_) (fun cdv A outer s H vs Q E hr h => ?_)
  · obtain ⟨a, ys, rfl, hl, _⟩ := h
    show ys.length + 1 = _
    rw [hl]
    rfl
  · obtain ⟨a, ys, rfl, hl, T, nf, ha, k⟩ := h
    obtain ⟨y, rfl⟩ := len_1 hl
    refine ⟨_, (pss_one (ps_ost (pv 0) (pv 1))), ?_⟩
    refine ⟨_, rfl, _, rfl, a, C, rfl, T, nf _ (by simp), .inl ⟨ha, fun dx hdx ne => ?_⟩⟩
    refine k dx _ hdx ne upd_same (by rw [upd_ne ne, upd_same]; rfl) fun b o e nb => ?_
    rw [upd_ne nb, upd_ne (ne_of_none e hdx)]
    exact e
theorem scNoYear : FnScope ["self", "year"] ["self", "year"] (defScope sNoYear_init) := ⟨rfl, rfl, rfl, by decide +kernel, rfl, by decide +kernel, by decide +kernel⟩
theorem ok_NoYear {f C : Addr} {fd : FuncData} (F : Fun K "__init__" "NoYear.__init__" sNoYear_init f fd) : FnOk P w K mg base CX0 1 f fd ["self", "year"] (spIni K C ["year"]) := by
  refine F.ok scNoYear (fun vs H Q E h => ?_) (fun cdv A outer s H vs Q E hr h => ?_)
  · obtain ⟨a, ys, rfl, hl, _⟩ := h
    show ys.length + 1 = _
    rw [hl]
    rfl
  · obtain ⟨a, ys, rfl, hl, T, nf, ha, k⟩ := h
    obtain ⟨y, rfl⟩ := len_1 hl
    refine ⟨_, (pss_one (ps_ost (pv 0) (pv 1))), ?_⟩
    refine ⟨_, rfl, _, rfl, a, C, rfl, T, nf _ (by simp), .inl ⟨ha, fun dx hdx ne => ?_⟩⟩
    refine k dx _ hdx ne upd_same (by rw [upd_ne ne, upd_same]; rfl) fun b o e nb => ?_
    rw [upd_ne nb, upd_ne (ne_of_none e hdx)]
    exact e
theorem scYearIsShut : FnScope ["self", "year"] ["self", "year"] (defScope sYearIsShut_init) := ⟨rfl, rfl, rfl, by decide +kernel, rfl, by decide +kernel, by decide +kernel⟩
theorem ok_YearIsShut {f C : Addr} {fd : FuncData} (F : Fun K "__init__" "YearIsShut.__init__" sYearIsShut_init f fd) : FnOk P w K mg base CX0 1 f fd ["self", "year"] (spIni K C ["year"]) := by
  refine F.ok scYearIsShut (fun vs H Q E h => ?_) (fun cdv A outer s H vs Q E hr h => ?_)
  · obtain ⟨a, ys, rfl, hl, _⟩ := h
    show ys.length + 1 = _
    rw [hl]
    rfl
  · obtain ⟨a, ys, rfl, hl, T, nf, ha, k⟩ := h
    obtain ⟨y, rfl⟩ := len_1 hl
    refine ⟨_, (pss_one (ps_ost (pv 0) (pv 1))), ?_⟩
    refine ⟨_, rfl, _, rfl, a, C, rfl, T, nf _ (by simp), .inl ⟨ha, fun dx hdx ne => ?_⟩⟩
    refine k dx _ hdx ne upd_same (by rw [upd_ne ne, upd_same]; rfl) fun b o e nb => ?_
    rw [upd_ne nb, upd_ne (ne_of_none e hdx)]
    exact e
theorem scYearIsNotShut : FnScope ["self", "year"] ["self", "year"] (defScope sYearIsNotShut_init) := ⟨rfl, rfl, rfl, by decide +kernel, rfl, by decide +kernel, by decide +kernel⟩
theorem ok_YearIsNotShut {f C : Addr} {fd : FuncData} (F : Fun K "__init__" "YearIsNotShut.__init__" sYearIsNotShut_init f fd) : FnOk P w K mg base CX0 1 f fd ["self", "year"] (spIni K C ["year"]) := by
  refine F.ok scYearIsNotShut (fun vs H Q E h => ?_) (fun cdv A outer s H vs Q E hr h => ?_)
  · obtain ⟨a, ys, rfl, hl, _⟩ := h
    show ys.length + 1 = _
    rw [hl]
    rfl
  · obtain ⟨a, ys, rfl, hl, T, nf, ha, k⟩ := h
    obtain ⟨y, rfl⟩ := len_1 hl
    refine ⟨_, (pss_one (ps_ost (pv 0) (pv 1))), ?_⟩
    refine ⟨_, rfl, _, rfl, a, C, rfl, T, nf _ (by simp), .inl ⟨ha, fun dx hdx ne => ?_⟩⟩
    refine k dx _ hdx ne upd_same (by rw [upd_ne ne, upd_same]; rfl) fun b o e nb => ?_
    rw [upd_ne nb, upd_ne (ne_of_none e hdx)]
    exact e
theorem scNoPlace : FnScope ["self", "place"] ["self", "place"] (defScope sNoPlace_init) := ⟨rfl, rfl, rfl, by decide +kernel, rfl, by decide +kernel, by decide +kernel⟩
theorem ok_NoPlace {f C : Addr} {fd : FuncData} (F : Fun K "__init__" "NoPlace.__init__" sNoPlace_init f fd) : FnOk P w K mg base CX0 1 f fd ["self", "place"] (spIni K C ["place"]) := by
  refine F.ok scNoPlace (fun vs H Q E h => ?_) (fun cdv A outer s H vs Q E hr h => ?_)
  · obtain ⟨a, ys, rfl, hl, _⟩ := h
    show ys.length + 1 = _
    rw [hl]
    rfl
  · obtain ⟨a, ys, rfl, hl, T, nf, ha, k⟩ := h
    obtain ⟨y, rfl⟩ := len_1 hl
    refine ⟨_, (pss_one (ps_ost (pv 0) (pv 1))), ?_⟩
    refine ⟨_, rfl, _, rfl, a, C, rfl, T, nf _ (by simp), .inl ⟨ha, fun dx hdx ne => ?_⟩⟩
    refine k dx _ hdx ne upd_same (by rw [upd_ne ne, upd_same]; rfl) fun b o e nb => ?_
    rw [upd_ne nb, upd_ne (ne_of_none e hdx)]
    exact e
theorem scNoNews : FnScope ["self", "number"] ["self", "number"] (defScope sNoNews_init) := ⟨rfl, rfl, rfl, by decide +kernel, rfl, by decide +kernel, by decide +kernel⟩
theorem ok_NoNews {f C : Addr} {fd : FuncData} (F : Fun K "__init__" "NoNews.__init__" sNoNews_init f fd) : FnOk P w K mg base CX0 1 f fd ["self", "number"] (spIni K C ["number"]) := by
  refine F.ok scNoNews (fun vs H Q E h => ?_) (fun cdv A outer s H vs Q E hr h => ?_)
  · obtain ⟨a, ys, rfl, hl, _⟩ := h
    show ys.length + 1 = _
    rw [hl]
    rfl
  · obtain ⟨a, ys, rfl, hl, T, nf, ha, k⟩ := h
    obtain ⟨y, rfl⟩ := len_1 hl
    refine ⟨_, (pss_one (ps_ost (pv 0) (pv 1))), ?_⟩
    refine ⟨_, rfl, _, rfl, a, C, rfl, T, nf _ (by simp), .inl ⟨ha, fun dx hdx ne => ?_⟩⟩
    refine k dx _ hdx ne upd_same (by rw [upd_ne ne, upd_same]; rfl) fun b o e nb => ?_
    rw [upd_ne nb, upd_ne (ne_of_none e hdx)]
    exact e
theorem scOverfull : FnScope ["self", "what"] ["self", "what"] (defScope sOverfull_init) := ⟨rfl, rfl, rfl, by decide +kernel, rfl, by decide +kernel, by decide +kernel⟩
theorem ok_Overfull {f C : Addr} {fd : FuncData} (F : Fun K "__init__" "Overfull.__init__" sOverfull_init f fd) : FnOk P w K mg base CX0 1 f fd ["self", "what"] (spIni K C ["what"]) := by
  refine F.ok scOverfull (fun vs H Q E h => ?_) (fun cdv A outer s H vs Q E hr h => ?_)
  · obtain ⟨a, ys, rfl, hl, _⟩ := h
    show ys.length + 1 = _
    rw [hl]
    rfl
  · obtain ⟨a, ys, rfl, hl, T, nf, ha, k⟩ := h
    obtain ⟨y, rfl⟩ := len_1 hl
    refine ⟨_, (pss_one (ps_ost (pv 0) (pv 1))), ?_⟩
    refine ⟨_, rfl, _, rfl, a, C, rfl, T, nf _ (by simp), .inl ⟨ha, fun dx hdx ne => ?_⟩⟩
    refine k dx _ hdx ne upd_same (by rw [upd_ne ne, upd_same]; rfl) fun b o e nb => ?_
    rw [upd_ne nb, upd_ne (ne_of_none e hdx)]
    exact e
theorem scTooLoose : FnScope ["self", "count"] ["self", "count"] (defScope sTooLoose_init) := ⟨rfl, rfl, rfl, by decide +kernel, rfl, by decide +kernel, by decide +kernel⟩
theorem ok_TooLoose {f C : Addr} {fd : FuncData} (F : Fun K "__init__" "TooLoose.__init__" sTooLoose_init f fd) : FnOk P w K mg base CX0 1 f fd ["self", "count"] (spIni K C ["count"]) := by
  refine F.ok scTooLoose (fun vs H Q E h => ?_) (fun cdv A outer s H vs Q E hr h => ?_)
  · obtain ⟨a, ys, rfl, hl, _⟩ := h
    show ys.length + 1 = _
    rw [hl]
    rfl
  · obtain ⟨a, ys, rfl, hl, T, nf, ha, k⟩ := h
    obtain ⟨y, rfl⟩ := len_1 hl
    refine ⟨_, (pss_one (ps_ost (pv 0) (pv 1))), ?_⟩
    refine ⟨_, rfl, _, rfl, a, C, rfl, T, nf _ (by simp), .inl ⟨ha, fun dx hdx ne => ?_⟩⟩
    refine k dx _ hdx ne upd_same (by rw [upd_ne ne, upd_same]; rfl) fun b o e nb => ?_
    rw [upd_ne nb, upd_ne (ne_of_none e hdx)]
    exact e
theorem scBadAmendment : FnScope ["self", "what"] ["self", "what"] (defScope sBadAmendment_init) := ⟨rfl, rfl, rfl, by decide +kernel, rfl, by decide +kernel, by decide +kernel⟩
theorem ok_BadAmendment {f C : Addr} {fd : FuncData} (F : Fun K "__init__" "BadAmendment.__init__" sBadAmendment_init f fd) : FnOk P w K mg base CX0 1 f fd ["self", "what"] (spIni K C ["what"]) := by
  refine F.ok scBadAmendment (fun vs H Q E h => ?_) (fun cdv A outer s H vs Q E hr h => ?_)
  · obtain ⟨a, ys, rfl, hl, _⟩ := h
    show ys.length + 1 = _
    rw [hl]
    rfl
  · obtain ⟨a, ys, rfl, hl, T, nf, ha, k⟩ := h
    obtain ⟨y, rfl⟩ := len_1 hl
    refine ⟨_, (pss_one (ps_ost (pv 0) (pv 1))), ?_⟩
    refine ⟨_, rfl, _, rfl, a, C, rfl, T, nf _ (by simp), .inl ⟨ha, fun dx hdx ne => ?_⟩⟩
    refine k dx _ hdx ne upd_same (by rw [upd_ne ne, upd_same]; rfl) fun b o e nb => ?_
    rw [upd_ne nb, upd_ne (ne_of_none e hdx)]
    exact e
theorem scBadPool : FnScope ["self", "index", "what"] ["self", "index", "what"] (defScope sBadPool_init) := ⟨rfl, rfl, rfl, by decide +kernel, rfl, by decide +kernel, by decide +kernel⟩
theorem ok_BadPool {f C : Addr} {fd : FuncData} (F : Fun K "__init__" "BadPool.__init__" sBadPool_init f fd) : FnOk P w K mg base CX0 1 f fd ["self", "index", "what"] (spIni K C ["index", "what"]) := by
  refine F.ok scBadPool (fun vs H Q E h => ?_) (fun cdv A outer s H vs Q E hr h => ?_)
  · obtain ⟨a, ys, rfl, hl, _⟩ := h
    show ys.length + 1 = _
    rw [hl]
    rfl
  · obtain ⟨a, ys, rfl, hl, T, nf, ha, k⟩ := h
    obtain ⟨y, z, rfl⟩ := len_2 hl
    refine ⟨_, (pss_cons (ps_ost (pv 0) (pv 1)) (pss_one (ps_ost (pv 0) (pv 2)))), ?_⟩
    refine ⟨_, rfl, _, rfl, a, C, rfl, T, nf _ (by simp), .inl ⟨ha, fun dx hdx ne => ?_⟩⟩
    refine ⟨_, rfl, _, rfl, a, C, rfl, T, nf _ (by simp), .inr ⟨dx, _, upd_same, by rw [upd_ne ne, upd_same], (by show 1 ≤ 900; decide), ?_⟩⟩
    refine k dx _ hdx ne (by rw [upd_ne ne.symm, upd_same]) (by rw [upd_same]; rfl) fun b o e nb => ?_
    rw [upd_ne (ne_of_none e hdx), upd_ne nb, upd_ne (ne_of_none e hdx)]
    exact e
theorem scBadLot : FnScope ["self", "what"] ["self", "what"] (defScope sBadLot_init) := ⟨rfl, rfl, rfl, by decide +kernel, rfl, by decide +kernel, by decide +kernel⟩
theorem ok_BadLot {f C : Addr} {fd : FuncData} (F : Fun K "__init__" "BadLot.__init__" sBadLot_init f fd) : FnOk P w K mg base CX0 1 f fd ["self", "what"] (spIni K C ["what"]) := by
  refine F.ok scBadLot (fun vs H Q E h => ?_) (fun cdv A outer s H vs Q E hr h => ?_)
  · obtain ⟨a, ys, rfl, hl, _⟩ := h
    show ys.length + 1 = _
    rw [hl]
    rfl
  · obtain ⟨a, ys, rfl, hl, T, nf, ha, k⟩ := h
    obtain ⟨y, rfl⟩ := len_1 hl
    refine ⟨_, (pss_one (ps_ost (pv 0) (pv 1))), ?_⟩
    refine ⟨_, rfl, _, rfl, a, C, rfl, T, nf _ (by simp), .inl ⟨ha, fun dx hdx ne => ?_⟩⟩
    refine k dx _ hdx ne upd_same (by rw [upd_ne ne, upd_same]; rfl) fun b o e nb => ?_
    rw [upd_ne nb, upd_ne (ne_of_none e hdx)]
    exact e
theorem scClash : FnScope ["self", "first", "second"] ["self", "first", "second"] (defScope sClash_init) := ⟨rfl, rfl, rfl, by decide +kernel, rfl, by decide +kernel, by decide +kernel⟩
theorem ok_Clash {f C : Addr} {fd : FuncData} (F : Fun K "__init__" "Clash.__init__" sClash_init f fd) : FnOk P w K mg base CX0 1 f fd ["self", "first", "second"] (spIni K C ["first", "second"]) := by
  refine F.ok scClash (fun vs H Q E h => ?_) (fun cdv A outer s H vs Q E hr h => ?_)
  · obtain ⟨a, ys, rfl, hl, _⟩ := h
    show ys.length + 1 = _
    rw [hl]
    rfl
  · obtain ⟨a, ys, rfl, hl, T, nf, ha, k⟩ := h
    obtain ⟨y, z, rfl⟩ := len_2 hl
    refine ⟨_, (pss_cons (ps_ost (pv 0) (pv 1)) (pss_one (ps_ost (pv 0) (pv 2)))), ?_⟩
    refine ⟨_, rfl, _, rfl, a, C, rfl, T, nf _ (by simp), .inl ⟨ha, fun dx hdx ne => ?_⟩⟩
    refine ⟨_, rfl, _, rfl, a, C, rfl, T, nf _ (by simp), .inr ⟨dx, _, upd_same, by rw [upd_ne ne, upd_same], (by show 1 ≤ 900; decide), ?_⟩⟩
    refine k dx _ hdx ne (by rw [upd_ne ne.symm, upd_same]) (by rw [upd_same]; rfl) fun b o e nb => ?_
    rw [upd_ne (ne_of_none e hdx), upd_ne nb, upd_ne (ne_of_none e hdx)]
    exact e
theorem scNotParted : FnScope ["self", "lot"] ["self", "lot"] (defScope sNotParted_init) := ⟨rfl, rfl, rfl, by decide +kernel, rfl, by decide +kernel, by decide +kernel⟩
theorem ok_NotParted {f C : Addr} {fd : FuncData} (F : Fun K "__init__" "NotParted.__init__" sNotParted_init f fd) : FnOk P w K mg base CX0 1 f fd ["self", "lot"] (spIni K C ["lot"]) := by
  refine F.ok scNotParted (fun vs H Q E h => ?_) (fun cdv A outer s H vs Q E hr h => ?_)
  · obtain ⟨a, ys, rfl, hl, _⟩ := h
    show ys.length + 1 = _
    rw [hl]
    rfl
  · obtain ⟨a, ys, rfl, hl, T, nf, ha, k⟩ := h
    obtain ⟨y, rfl⟩ := len_1 hl
    refine ⟨_, (pss_one (ps_ost (pv 0) (pv 1))), ?_⟩
    refine ⟨_, rfl, _, rfl, a, C, rfl, T, nf _ (by simp), .inl ⟨ha, fun dx hdx ne => ?_⟩⟩
    refine k dx _ hdx ne upd_same (by rw [upd_ne ne, upd_same]; rfl) fun b o e nb => ?_
    rw [upd_ne nb, upd_ne (ne_of_none e hdx)]
    exact e
end
end Kx

set_option maxHeartbeats 8000000
namespace Kx
open PySem PySem.Spec PyProof.Rows L2
/-! errors as values: made, asked for a field, asked for their class -/
/-- a class of errors with an own __init__ and these fields -/
structure ErV (P : Program) (w : World) (K : PySem.W.Frag) (mg : Str → Option Value) (base : Heap) (x : Str) (fs : List Str) (C fI : Addr) (fd : FuncData) : Prop where
  T : OexC K C
  iC : PySem.W.findIn K (.ref C) "__init__" = some (some (.ref fI))
  tI : PySem.W.typeIn K (.ref fI) = some (.type "function")
  m : mg x = some (.ref C)
  b : Binds K fd (("self" : Str) :: fs) []
  G : FnOk P w K mg base CX0 1 fI fd (("self" : Str) :: fs) (spIni K C fs)
  nf : ∀ f ∈ fs, PySem.W.findIn K (.ref C) f = some none
/-- a class of errors without own __init__ -/
structure ErO (K : PySem.W.Frag) (mg : Str → Option Value) (x : Str) (C : Addr) (B newId initId : String) (bmB : List Value) : Prop where
  F : ExcBaseFacts B newId initId bmB
  q : PySem.W.excIn K C bmB newId = true
  m : mg x = some (.ref C)
  kp : PySem.W.keepIn K (.ref C) = true
section
variable {X : Cx} {K : PySem.W.Frag}
/-- e.f, e an error -/
def tFE (K : PySem.W.Frag) (f : Str) (te : TE) : TE := fun σ H Q => te σ H fun x H1 => ∃ (a C : Addr) (fs : List (Str × V)) (v : V), x = .ref a ∧ XfC K C ∧ PySem.W.findIn K (.ref C) f = some none ∧ ErrAt H1 a C fs ∧ fs.lookup f = some v ∧ Q v H1
theorem pe_fldE (hK : X.K = K) {e : Expr} {te : TE} {pos : Pos} {n : Str} (he : PE X e te) (hb : attributeBase e n X.env (eval e X.env) = eval e X.env := by rfl) : PE X (.Attribute e n pos) (tFE K n te) := by
  subst hK
  refine ⟨fun pins s σ H Q I h => ?_⟩
  refine attr_of hb (thn (he.run pins s σ H _ I h) fun u s1 hh => ?_)
  obtain ⟨x, H1, I1, rx, a, C, fs, v, rfl, T, no, ea, l, q⟩ := hh
  obtain rfl : u = Value.ref a := rx
  rcases ea with ⟨_, e0⟩ | ⟨d, e1, e2⟩
  · subst e0
    cases l
  · obtain ⟨t1, ho⟩ := exo_at I1.hok e1
    obtain ⟨mA, hns, hr⟩ := exd_at I1.hok e2
    obtain ⟨od, hd, hl⟩ := lookIn_ns hns
    obtain ⟨u, hu, ru⟩ := RelO.some_of (v := v) (o := mA n) (by rw [← l]; exact hr n)
    exact HandSPX.exc_get I1.kIn (show PySem.W.InstAt s1.heap a _ C (some od) from ⟨ho, rfl, rfl, hd⟩) T.ga T.gg T.exC (PySem.W.findObj_own T.hdC no rfl (by rw [hl, hu])) (handed_of ru) ⟨v, H1, I1.tok _, ru, q⟩
/-- an error's object, as isinstance wants it -/
theorem ErrAt.inst {pins : List (Addr × Obj)} {σ : L2.St} {H : Hp} {s : Shared} {a C : Addr} {fs : List (Str × V)} (I : Inv X pins σ H s) (h : ErrAt H a C fs) : ∃ ox od, PySem.W.InstAt s.heap a ox C od := by
  rcases h with ⟨e1, _⟩ | ⟨d, e1, e2⟩
  · obtain ⟨t1, ho⟩ := exo_at I.hok e1
    exact ⟨_, none, ho, rfl, rfl, trivial⟩
  · obtain ⟨t1, ho⟩ := exo_at I.hok e1
    obtain ⟨mA, hns, hr⟩ := exd_at I.hok e2
    obtain ⟨od, hd, hl⟩ := lookIn_ns hns
    exact ⟨_, some od, ho, rfl, rfl, hd⟩
/-- isinstance(e, c), e an error of the class D by Pz -/
def rIsV (K : PySem.W.Frag) (Pz : Hp → Addr → Addr → Prop) : List V → Hp → VK → Prop := fun xs H Q => ∃ (a D : Addr) (c : V) (cv : Value) (b : Bool), xs = [.ref a, c] ∧ Pz H a D ∧ ExcC K D ∧ (∀ u, RelV c u → u = cv) ∧ PySem.W.kitOne K (.ref D) cv = some b ∧ Q (.bl b) H
theorem call_isV {Pz : Hp → Addr → Addr → Prop} (hK : X.K = K) (hz : ∀ (pins : List (Addr × Obj)) (σ : L2.St) (H : Hp) (s : Shared) (a D : Addr), Inv X pins σ H s → Pz H a D → ∃ ox od, PySem.W.InstAt s.heap a ox D od) : CallR X (.builtin "isinstance") (rIsV K Pz) := by
  subst hK
  intro pins s σ H xs us Q I r h
  obtain ⟨a, D, c, cv, b, rfl, hp, C, hcv, e, q⟩ := h
  obtain ⟨u1, u2, rfl, r1, r2⟩ := vals2 r
  cases (show u1 = Value.ref a from r1)
  have ec := hcv _ r2
  subst ec
  obtain ⟨ox, od, J⟩ := hz pins σ H s a D I hp
  exact PySem.W.kia_one (kitx_excO C.hg C.hk C.hs C.hd C.ha C.hn C.ht C.hm) I.kIn J e (fun z => nomatch z) fun tk => ⟨.bl b, H, I.kept (t' := tk) fun _ _ z => z, rfl, q⟩
/-- C(x, ..): a new error with these fields -/
def tErr (C : Addr) (fs : List Str) (ta : TA) : TE := fun σ H Q => ta σ H fun vs H1 => vs.length = fs.length ∧ vs.length ≤ 900 ∧ ∀ (a : Addr) (H2 : Hp), H1 a = none → Same H1 H2 → ErrAt H2 a C (flds fs vs) → Q (.ref a) H2
theorem pe_err {x : Str} {fs : List Str} {C fI : Addr} {fd : FuncData} {first : Expr} {others : List Expr} {args : TA} {q pos : Pos} (E : ErV X.prog X.w X.K X.mg X.base x fs C fI fd) (room : Room 2 X.A) (glob : Gl X x) (ha : PA X (first :: others) args)
    (ndb : (x == ("__debug__" : Str)) = false := by decide) (star : starEach (first :: others) X.env = (false, eval first X.env) :: starEach others X.env := by rfl) (plain : (backTo pos (starEach others X.env)).any (·.1) = false := by rfl) : PE X (.Call (.Name x q) (first :: others) [] pos) (tErr C fs args) := by
  refine ⟨fun pins s σ H Q I h => ?_⟩
  obtain ⟨n0, q0, N0, bs0, bm, sn0, su0, ab0, co0, dd0, z0, z1, z2, z3, z5, hC, hbm⟩ := E.T.cls
  refine wpAny_Call_Name_kw (ld_glob I glob E.m ?_ ndb)
  refine PySem.W.callWith_K (h₀ := X.base) I.ok.mod.kin E.T.kC (thn (ha.run pos pins s σ H _ I h) fun us ⟨hp, gs, dr, tk, os⟩ ⟨vs, H1, I1, rel, len, small, want⟩ => ⟨I1.kIn, ?_⟩) star plain
  show wpAny _ _ (call (.ref C) us) _ _ _
  have up : hp.objs.size ≤ hp.objs.size + 1 := Nat.le_succ _
  have free : H1 (hp.objs.size + 1) = none := I1.hok.fresh up
  have grows : ∀ b o, hp.get? b = some o → ((hp.push (PySem.W.kdv_tup us)).push (PySem.HandSPX.excO C hp.objs.size)).get? b = some o := fun b o z => Heap.get?_push_of_some _ (Heap.get?_push_of_some _ z)
  have newAt : ((hp.push (PySem.W.kdv_tup us)).push (PySem.HandSPX.excO C hp.objs.size)).get? (hp.objs.size + 1) = some (PySem.HandSPX.excO C hp.objs.size) := by heap_get
  have J2 := I1.laid (t' := tk) (a := hp.objs.size + 1) (o := exo (hp.objs.size + 1) C none) (h' := (hp.push (PySem.W.kdv_tup us)).push (PySem.HandSPX.excO C hp.objs.size)) grows up (exo_ok newAt)
  have rel2 : Vals (V.ref (hp.objs.size + 1) :: vs) (Value.ref (hp.objs.size + 1) :: us) := .cons rfl rel
  have due : spIni X.K C fs (V.ref (hp.objs.size + 1) :: vs) (upd H1 (hp.objs.size + 1) (exo (hp.objs.size + 1) C none)) (fun v H2 => v = .non ∧ Q (.ref (hp.objs.size + 1)) H2) (fun _ _ _ => False) := by
    refine ⟨_, vs, rfl, len, E.T, E.nf, upd_same, fun d H2 hd ne e1 e2 fr => ⟨rfl, want _ _ free (fun b o e => fr b o (by rw [upd_ne (ne_of_none e free)]; exact e) (ne_of_none e free)) (.inr ⟨d, e1, e2⟩)⟩⟩
  have cnt : (Value.ref (hp.objs.size + 1) :: us ++ []).length = ((("self" : Str) :: fs)).length := by
    rw [List.append_nil, ← rel2.length]
    show vs.length + 1 = fs.length + 1
    rw [len]
  have few : us.length ≤ sizeLine := by
    rw [← Paired.length rel]
    exact Nat.le_trans small (by decide)
  have b2 := E.b _ (Value.ref (hp.objs.size + 1) :: us) J2.kIn cnt
  rw [List.append_nil] at b2
  refine wpAny_call (PySem.HandSPX.call_own F.excBase_ValueError (fun Y => PySem.HandSPX.refsVE_contains Y bm hbm) (I1.kIn _ _ hC) (PySem.W.looks_findIn I1.kIn E.iC) (fun self => PySem.W.bind_fn I1.kIn self E.tI) few ?_)
  refine codeAny_mono (E.G.run _ X.stack _ _ ⟨Value.ref (hp.objs.size + 1) :: us, []⟩ (Value.ref (hp.objs.size + 1) :: us) _ _ (fun _ _ _ => False) (room.make C us []) (J2.env0.make C us []) b2 rel2 due) fun out s' got => ?_
  cases out with
  | error er => exact False.elim got
  | ok fl =>
    cases fl with
    | ret u =>
      obtain ⟨v, H2, I2, rv, ev, q2⟩ := J2.after got
      subst ev
      exact ⟨rv, .ref (hp.objs.size + 1), H2, I2, rfl, q2⟩
    | next => exact got.elim
    | brk => exact got.elim
    | cont => exact got.elim
/-- C(), C without own __init__ -/
theorem pe_err0 {x : Str} {C : Addr} {bmB : List Value} {B newId initId : String} {p pos : Pos} (E : ErO X.K X.mg x C B newId initId bmB) (hg : Gl X x) (hdb : (x == ("__debug__" : Str)) = false := by decide) :
    PE X (.Call (.Name x p) [] [] pos) (fun _ H Q => ∀ (a : Addr) (H2 : Hp), H a = none → Same H H2 → ErrAt H2 a C [] → Q (.ref a) H2) := by
  refine ⟨fun pins s σ H Q I h => ?_⟩
  refine wpAny_Call_Name_kw (ld_glob I hg E.m ?_ hdb)
  refine PySem.W.callWith_K0 I.kIn E.kp ?_
  show wpAny _ _ (call (.ref C) []) _ _ _
  obtain ⟨bm, N, nm, qn, bs, hdct, sn, sub, ab, col, dd, k0, k1, k2, k3, k5, mN, hC, hN, hni, T⟩ := exc_obj I.kIn E.q
  refine wpAny_call_exc_subT E.F T hC hN hni (fun h' a hm => ?_) (Nat.zero_le _)
  have hn : H a = none := I.hok.gone hm.new
  obtain ⟨t, ht, _, _⟩ := hm.there
  exact ⟨.ref a, upd H a (exo a C none), I.laidN hm.keeps hm.new hn (exo_ok ht), rfl, h a _ hn (fun b o e => by rw [upd_ne (ne_of_none e hn)]; exact e) (.inl ⟨upd_same, rfl⟩)⟩
/-- C(x, ..), C without own __init__ -/
theorem pe_errA {x : Str} {C : Addr} {bmB : List Value} {B newId initId : String} {first : Expr} {others : List Expr} {args : TA} {p pos : Pos} (E : ErO X.K X.mg x C B newId initId bmB) (hg : Gl X x) (ha : PA X (first :: others) args) (hdb : (x == ("__debug__" : Str)) = false := by decide)
    (star : starEach (first :: others) X.env = (false, eval first X.env) :: starEach others X.env := by rfl) (plain : (backTo pos (starEach others X.env)).any (·.1) = false := by rfl) :
    PE X (.Call (.Name x p) (first :: others) [] pos) (fun σ H Q => args σ H fun vs H1 => vs.length ≤ 900 ∧ ∀ (a : Addr) (H2 : Hp), H1 a = none → Same H1 H2 → ErrAt H2 a C [] → Q (.ref a) H2) := by
  refine ⟨fun pins s σ H Q I h => ?_⟩
  refine wpAny_Call_Name_kw (ld_glob I hg E.m ?_ hdb)
  refine PySem.W.callWith_K (h₀ := X.base) I.ok.mod.kin E.kp (thn (ha.run pos pins s σ H _ I h) fun us s1 ⟨vs, H1, I1, rel, small, want⟩ => ⟨I1.kIn, ?_⟩) star plain
  show wpAny _ _ (call (.ref C) us) _ _ _
  obtain ⟨bm, N, nm, qn, bs, hdct, sn, sub, ab, col, dd, k0, k1, k2, k3, k5, mN, hC, hN, hni, T⟩ := exc_obj I1.kIn E.q
  refine wpAny_call_exc_subT E.F T hC hN hni (fun h' a hm => ?_) (by rw [← Paired.length rel]; exact Nat.le_trans small (by decide))
  have hn : H1 a = none := I1.hok.gone hm.new
  obtain ⟨t, ht, _, _⟩ := hm.there
  exact ⟨.ref a, upd H1 a (exo a C none), I1.laidN hm.keeps hm.new hn (exo_ok ht), rfl, want a _ hn (fun b o e => by rw [upd_ne (ne_of_none e hn)]; exact e) (.inl ⟨upd_same, rfl⟩)⟩
end
end Kx

set_option maxHeartbeats 8000000
namespace Kx
open PySem PySem.Spec PyProof.Rows L2
/-! while an error is handled: the end of a list, a def that is called, a comprehension over a list -/
section
variable {prog : Program} {w : World} {A : Around} {E : Value → Shared → Prop} {s : Shared}
/-- a list's iterator is at its end -/
theorem list_end_hot {it l e1 : Addr} {i : Nat} {ys : Array Value} {Q : Option Value → Shared → Prop} (hot : HotX.HotAt A e1 s.heap) (ne : e1 ≠ it) (at_ : s.heap.IsListIter it l i) (of : s.heap.IsList l ys) (over : ys[i]? = none)
    (q : ∀ h', (∀ b o, b ≠ it → s.heap.get? b = some o → h'.get? b = some o) → Q none { s with heap := h' }) : wpAny (model prog w) A (pyNext (.ref it)) Q E s := by
  obtain ⟨go, g, gc, gd⟩ := id at_
  obtain ⟨lo, lg, _, ln, ld⟩ := of
  obtain ⟨hh, o1, f1, g1, d1, c1⟩ := hot
  unfold pyNext
  refine wpAny_bind (wpAny_attempt (wpAny_callSpecial?_slot (name := Str.ofString "__next__") at_.typeIs slot_listiter_next (wpAny_call_entry slot_listiter_next at_.typeIs entry_listiter_next ?_ (args_listiter_next _))))
  show wpAny _ _ (field (.ref it) 0 >>= _) _ _ _
  refine wpAny_bind (wpAny_field g gd (x := .ref l) rfl ?_)
  show wpAny _ _ (if (Value.ref l == Value.none) = true then _ else _) _ _ _
  rw [if_neg (fun z => Bool.false_ne_true z : ¬ (Value.ref l == Value.none) = true)]
  show wpAny _ _ (field (.ref it) 1 >>= _) _ _ _
  refine wpAny_bind (wpAny_field g gd (x := .int i 0) rfl ?_)
  show wpAny _ _ (seqItems? (.ref l) >>= _) _ _ _
  refine wpAny_bind (wpAny_seqItems lg ld ?_)
  simp only [Int.toNat_natCast, over]
  refine wpAny_bind (wpAny_rule (wpAny_bind (wpAny_setField g gd (by simp) ?_)))
  show wpAny _ _ (newExc (.type "StopIteration") [] >>= _) _ _ _
  refine wpAny_bind ?_
  simp only [newExc, newTuple]
  refine wpAny_bind (wpAny_newObj_type ?_ (by size_fits))
  refine wpAny_bind (m := firstArgMember _ _) (wpAny_of_eq (a := Value.none) (by simp only [firstArgMember]; rfl) ?_)
  refine wpAny_newObj_type ?_ (by size_fits)
  have k1 : ∀ {b : Addr} {o : Obj} (f : Obj → Obj), b ≠ it → s.heap.get? b = some o → (s.heap.update it f).get? b = some o := fun {b o} f nb e => by rw [Heap.get?_update_other _ _ (fun z => nb z.symm)]; exact e
  refine HotX.raiseNew_hot ⟨hh, o1, f1, Heap.get?_push_of_some _ (Heap.get?_push_of_some _ (k1 _ ne g1)), d1, c1⟩ (Nat.ne_of_lt (Heap.lt_size (Heap.get?_push_of_some _ (k1 _ ne g1)))) (Heap.get?_push_size _ rfl) rfl (by simp; omega) ?_
  refine wpAny_bind (wpAny_isInstance (T := "StopIteration") (b := true) ⟨_, Heap.get?_update_self _ (Heap.get?_push_size _ rfl) rfl, rfl⟩ isSubtype_stop ?_)
  refine wpAny_pure (q _ fun b o nb e => ?_)
  have e2 := k1 (Obj.mapFields (·.setIfInBounds 0 .none)) nb e
  rw [Heap.get?_update_other _ _ (Nat.ne_of_gt (Heap.lt_size (Heap.get?_push_of_some _ (k1 _ nb e))))]
  exact Heap.get?_push_of_some _ (Heap.get?_push_of_some _ (k1 _ nb e))
end
/-- what a def promises where p is handled -/
structure FnHp (P : Program) (w : World) (K : PySem.W.Frag) (mg : Str → Option Value) (base : Heap) (k : Nat) (f : Addr) (fd : FuncData) (ps : List Str) (sp : Addr × Obj → Sp) : Prop where
  len : ∀ p vs H Q E, sp p vs H Q E → vs.length = ps.length
  run : ∀ (A : Around) (outer : List Env) (s : Shared) (H : Hp) (args : Args) (us : List Value) (vs : List V) (Q : VK) (E : XK) (p : Addr × Obj), L2H.RoomH k A → L2H.Hot1 A p → L2H.PinOk outer H s p → Env0 P w K mg base A outer s H → BindsTo s fd args (ps.zip us) → Vals vs us → sp p vs H Q E →
    codeAny (model P w) A (.call (.ref f) args) (CR CX0 outer P w H s Q E) s
section
variable {P : Program} {w : World} {K : PySem.W.Frag} {mg : Str → Option Value} {base : Heap}
theorem okHp {x qual : Str} {st : Stmt} {f : Addr} {fd : FuncData} {N ps : List Str} {k : Nat} {sp : Addr × Obj → Sp} (F : Fun K x qual st f fd) (S : FnScope N ps (defScope st)) (len : ∀ p vs H Q E, sp p vs H Q E → vs.length = ps.length)
    (body : ∀ (cdv : Value) (A : Around) (outer : List Env) (s : Shared) (H : Hp) (vs : List V) (Q : VK) (E : XK) (p : Addr × Obj), L2H.Hot1 A p → L2H.RoomH k (A.deeper (envOfC qual (defScope st) s.heap.objs.size f cdv)) → sp p vs H Q E →
      ∃ t, PSs (L2H.cxH CX0 P w K mg base N qual (defScope st) f cdv A outer s H E p) (defBody st) t ∧ t { nx := fun _ H' => Q .non H', rt := Q } (start N vs) H) : FnHp P w K mg base (k + 1) f fd ps sp := by
  obtain ⟨oc, od, kV, doc, pm, an, cdv, ct, osl, rfl, lk, hcd⟩ := F.ex
  refine ⟨len, fun A outer s H args us vs Q E p room hot pin e0 bind rel want => ?_⟩
  have kin : K.In s.heap := e0.mod.kin.keeps fun b o e => (e0.bs b o e).1
  have few := len p _ _ _ _ want
  refine codeAny_call_function room.depth (kin _ _ lk) rfl S.co S.gen rfl (PySem.W.codeRec_of kin hcd) (bind _ _ _ _ ?_)
  refine wpAny_newFunctionEnv_cells S.kind (fun ⟨n, v⟩ hy => ?_) fun env eqn s1 made => ?_
  · rcases S.par n (List.of_mem_zip hy).1 with z | z
    · exact .inl z
    · exact .inr ⟨z, PySem.W.cellsFrom_some _ _ _ (.inl z)⟩
  · subst eqn
    refine ⟨(e0.mod.nolimit.keeps fun b o e => (e0.bs b o e).1).keeps made.toInCall.keep, codeAny_func ?_⟩
    obtain ⟨t, ok, due⟩ := body cdv A outer s H vs Q E p hot (room.deeper _) want
    refine wpAny_mono (ok.run [] s1 (start N vs) H _ (L2H.inv_startH S pin e0 few rel made) due) (fun fl s2 z => ?_) fun _ _ z => z
    have back : ∀ {σ2 : L2.St} {H2 : Hp} {v : V} {u : Value}, Inv (L2H.cxH CX0 P w K mg base N qual (defScope st) f cdv A outer s H E p) [] σ2 H2 s2 → RelV v u → Q v H2 → CE outer P w H s Q u s2 := fun J r q => ⟨_, _, J.os, J.bare, J.base, J.hok, r, q⟩
    cases fl with
    | ret u =>
      obtain ⟨v, σ2, H2, J, r, q⟩ := z
      exact back J r q
    | next =>
      obtain ⟨σ2, H2, J, q⟩ := z
      exact back (v := .non) (u := .none) J rfl q
    | brk =>
      obtain ⟨_, _, _, q⟩ := z
      exact q.elim
    | cont =>
      obtain ⟨_, _, _, q⟩ := z
      exact q.elim
end
section
variable {X : Cx}
theorem pe_callHp {k : Nat} {f : Addr} {fd : FuncData} {ps : List Str} {sp : Addr × Obj → Sp} {x : Str} {q pos : Pos} {e : Expr} {es : List Expr} {t : TA} {p : Addr × Obj} (G : FnHp X.prog X.w X.K X.mg X.base k f fd ps sp) (room : L2H.RoomH k X.A) (hot : L2H.Hot1 X.A p) (hp : p ∈ X.pn) (glob : Gl X x)
    (there : X.mg x = some (.ref f)) (kp : PySem.W.keepIn X.K (.ref f) = true) (bind : Binds X.K fd ps []) (ha : PA X (e :: es) t) (ndb : (x == ("__debug__" : Str)) = false := by decide) (star : starEach (e :: es) X.env = (false, eval e X.env) :: starEach es X.env := by rfl) (plain : (backTo pos (starEach es X.env)).any (·.1) = false := by rfl) :
    PE X (.Call (.Name x q) (e :: es) [] pos) (fun σ H Q => t σ H fun vs H1 => sp p vs H1 Q fun _ _ _ => False) := by
  refine ⟨fun pins s σ H Q I h => ?_⟩
  refine wpAny_Call_Name_kw (ld_glob I glob there ?_ ndb)
  refine PySem.W.callWith_K (h₀ := X.base) I.ok.mod.kin kp (thn (ha.run pos pins s σ H _ I h) fun us s1 ⟨vs, H1, I1, rel, want⟩ => ⟨I1.kIn, ?_⟩) star plain
  have cnt : us.length = ps.length := by rw [← rel.length]; exact G.len _ _ _ _ _ want
  have b := bind s1 us I1.kIn (by rw [List.append_nil]; exact cnt)
  rw [List.append_nil] at b
  obtain ⟨p1, p2, p3, p4, p5⟩ := I1.pin p (List.mem_append_left _ hp)
  refine wpAny_call (codeAny_mono (G.run X.A X.stack s1 H1 ⟨us, []⟩ us vs Q _ p room hot ⟨p1, p2, fun hm => (List.mem_cons.mp (I1.stkSub p.1 hm)).elim p3 p4, p5⟩ I1.env0 b rel want) fun out s2 got => ?_)
  cases out with
  | error er => exact False.elim got
  | ok fl =>
    cases fl with
    | ret u => exact I1.after got
    | next => exact got.elim
    | brk => exact got.elim
    | cont => exact got.elim
end
end Kx

set_option maxHeartbeats 8000000
namespace Kx
open PySem PySem.Spec PyProof.Rows L2
/-! a list comprehension over a list while an error is handled -/
section
variable {X : Cx} {K : PySem.W.Frag}
/-- [elt for target in a list if ..]: W is so ahead of each turn -/
def tHotLc (K : PySem.W.Frag) (ti : TE) (g : TG) (tt : TT) (te : TE) (vs : List Nat) : TE := fun σ H Q => ti σ H fun x H1 => ∃ (a : Addr) (xs : List V), x = .ref a ∧ SqL K H1 a xs ∧ ∀ D, H1 D = none → ∃ W : Nat → Hp → Prop, W 0 (upd H1 D (.lst [])) ∧ (∀ i H, W i H → SqL K H a xs) ∧
  (∀ i x H, xs[i]? = some x → W i H → g x (wipe σ vs) H fun σ2 H2 => wipe σ2 vs = wipe σ vs ∧ tt σ2 H2 fun b H3 => if b = true then te σ2 H3 fun y H4 => ∃ acc, H4 D = some (.lst acc) ∧ acc.length < sizeLine ∧ W (i + 1) (upd H4 D (.lst (acc ++ [y]))) else W (i + 1) H3) ∧
  (∀ H, W xs.length H → Q (.ref D) H)
theorem pe_lcHot (hK : X.K = K) {elt iter tg : Expr} {ifs : List Expr} {own : List (Str × Nat)} {scope : Scope} {pos : Pos} {ti te : TE} {g : TG} {tt : TT} {x1 : Addr × Obj} (hot : L2H.Hot1 X.A x1) (hx1 : x1 ∈ X.pn) (nd : X.N.Nodup) (hi : PE X iter ti) (ok : BlkOk X.N X.env.scope scope own)
    (hg : ∀ (s : Shared) (H : Hp) (C : Addr) (cl : List (Str × Addr)) (fp : List Addr), PG (X.blk s H scope (compEnvC scope cl C X.env) fp) tg g) (ht : ∀ (s : Shared) (H : Hp) (C : Addr) (cl : List (Str × Addr)) (fp : List Addr), PTs (X.blk s H scope (compEnvC scope cl C X.env) fp) ifs tt)
    (he : ∀ (s : Shared) (H : Hp) (C : Addr) (cl : List (Str × Addr)) (fp : List Addr), PE (X.blk s H scope (compEnvC scope cl C X.env) fp) elt te) (hs : ∀ x, foldedSetIterable iter X.env x = pure x := by intro _; rfl) :
    PE X (.ListComp elt [⟨tg, iter, ifs, 0⟩] scope pos) (tHotLc K ti g tt te (own.map (·.2))) := by
  subst hK
  refine ⟨fun pins s σ H Q I h => ?_⟩
  rw [eval_ListComp]
  have caught : ∀ y ∈ scope.names, y.2 = .free → ∃ c, X.env.cells.lookup y.1 = some c := fun y hy e => (ok.free y hy e).elim (fun z => I.ok.has _ (.inl z)) fun z => I.ok.has _ (.inr z)
  refine wpAny_comprehension_free (use := none) rfl hs (closure_ok caught) ok.kind (fun y hy e => by rw [ok.uniq y hy, e]) (thn (hi.run pins s σ H _ I h) fun v s1 ⟨x, H1, I1, r1, a, xs, ex, la, rest⟩ => ?_)
  subst ex
  obtain rfl : v = Value.ref a := r1
  obtain ⟨its, rv, pl, _⟩ := I1.list la
  refine wpAny_pyIter_list pl.isList ?_
  have lt1 := Heap.lt_size (I1.pin x1 (List.mem_append_left _ hx1)).1
  obtain ⟨p1, p2, p3, p4, p5⟩ := I1.pin x1 (List.mem_append_left _ hx1)
  generalize hit : s1.heap.objs.size = it at lt1
  have grow : ∀ b o, s1.heap.get? b = some o → (s1.heap.push { cls := .type "list_iterator", data := .fields #[.ref a, .int 0 0] }).get? b = some o := fun b o z => Heap.get?_push_of_some _ z
  have turn0 : (s1.heap.push { cls := .type "list_iterator", data := .fields #[.ref a, .int 0 0] }).IsListIter it a 0 := ⟨_, by rw [← hit]; exact Heap.get?_push_size _ rfl, rfl, rfl⟩
  have szs : (s1.heap.push { cls := .type "list_iterator", data := .fields #[.ref a, .int 0 0] }).objs.size = it + 1 := by rw [Heap.size_push, hit]
  have I2 := I1.kept (t' := s1.toks) grow
  have free2 : FpOk X pins H1 it := I1.fpOk (Nat.le_of_eq hit) (I1.hok.fresh (Nat.le_of_eq hit))
  generalize s1.heap.push { cls := .type "list_iterator", data := .fields #[.ref a, .int 0 0] } = hp2 at grow turn0 szs I2 ⊢
  refine wpAny_newObj_type (newEnv_comp ?_) (by show 0 ≤ sizeLine; decide)
  dsimp only
  generalize hD : hp2.objs.size = D
  have dn : H1 D = none := I2.hok.fresh (Nat.le_of_eq hD)
  obtain ⟨W, w0, held, turn, fin⟩ := rest D dn
  have itD : it ≠ D := by
    rw [← hD, szs]
    exact Nat.ne_of_lt (Nat.lt_succ_self _)
  have I3 : Inv X pins σ (upd H1 D (.lst [])) { s1 with heap := hp2.push { cls := .type "list", data := .seq ([] : List Value).toArray } } := I2.laid (t' := s1.toks) (fun b o z => Heap.get?_push_of_some _ z) (Nat.le_of_eq hD) ⟨Nat.zero_le _, [], 0, .nil, by rw [← hD]; exact Heap.get?_push_size _ rfl⟩
  have turn3 : (hp2.push { cls := .type "list", data := .seq ([] : List Value).toArray }).IsListIter it a 0 := turn0.at fun o z => Heap.get?_push_of_some _ z
  have lt3 : it < (hp2.push { cls := .type "list", data := .seq ([] : List Value).toArray }).objs.size := by rw [Heap.size_push, szs]; omega
  generalize hp2.push { cls := .type "list", data := .seq ([] : List Value).toArray } = hp3 at I3 turn3 lt3 ⊢
  generalize hs3 : ({ s1 with heap := hp3 } : Shared) = s3 at I3
  have ehp : s3.heap = hp3 := by rw [← hs3]
  have free3 : FpOk X pins (upd H1 D (.lst [])) it := ⟨by rw [upd_ne itD]; exact free2.1, free2.2⟩
  have many : ∀ b ∈ [it], FpOk X pins (upd H1 D (.lst [])) b ∧ b < s3.heap.objs.size := fun b hb => by
    obtain rfl : b = it := by simpa using hb
    exact ⟨free3, by rw [ehp]; exact lt3⟩
  have I4 := block_start I3 ok nd many
  have pg := hg s3 (upd H1 D (.lst [])) s3.heap.objs.size (cellsFrom (s3.heap.objs.size + 1) scope.names (cloFrom X.env.cells scope.names [])) [it]
  have pt := ht s3 (upd H1 D (.lst [])) s3.heap.objs.size (cellsFrom (s3.heap.objs.size + 1) scope.names (cloFrom X.env.cells scope.names [])) [it]
  have pe := he s3 (upd H1 D (.lst [])) s3.heap.objs.size (cellsFrom (s3.heap.objs.size + 1) scope.names (cloFrom X.env.cells scope.names [])) [it]
  generalize hce : compEnvC scope (cellsFrom (s3.heap.objs.size + 1) scope.names (cloFrom X.env.cells scope.names [])) s3.heap.objs.size X.env = ce at I4 pg pt pe
  have cL : ce.locals = s3.heap.objs.size := by
    subst hce
    rfl
  have here : codeAny (model X.prog X.w) X.A (.compStart (.ListComp elt [⟨tg, iter, ifs, 0⟩] scope pos) 0 (.ref it) (.ref D) ce) (compPost (model X.prog X.w) X.A X.xe none (EP X pins σ Q) (.ref D) s3.heap.objs.size) { s3 with heap := pushCells (s3.heap.push { cls := .type "dict", data := .dict #[] }) scope.names } := by
    generalize hs4 : ({ s3 with heap := pushCells (s3.heap.push { cls := .type "dict", data := .dict #[] }) scope.names } : Shared) = s4 at I4
    have turn4 : s4.heap.IsListIter it a 0 := turn3.at fun o z => by
      rw [← hs4]
      exact pushCells_keeps _ _ _ _ (Heap.get?_push_of_some _ (by rw [ehp]; exact z))
    have free4 : ∀ {σ' : L2.St} {H' : Hp} {s' : Shared}, Inv (X.blk s3 (upd H1 D (.lst [])) scope ce [it]) [] σ' H' s' → H' it = none → FpOk (X.blk s3 (upd H1 D (.lst [])) scope ce [it]) [] H' it := fun {σ' H' s'} J z =>
      have e := J.ok.exf it List.mem_cons_self
      ⟨z, e.1, J.ok.exfs it List.mem_cons_self, .inl List.mem_cons_self, fun x c q => e.2 x c q, fun p hp => nomatch hp⟩
    obtain ⟨q1, q2, q3, q4, q5⟩ := I3.pin x1 (List.mem_append_left _ hx1)
    have held1 : ∀ {σ' : L2.St} {H' : Hp} {s' : Shared}, Inv (X.blk s3 (upd H1 D (.lst [])) scope ce [it]) [] σ' H' s' → s'.heap.get? x1.1 = some x1.2 := fun {σ' H' s'} J =>
      J.base.keep x1.1 x1.2 q1 q2 (fun hm => (List.mem_cons.mp (I3.stkSub x1.1 hm)).elim q3 q4) (fun hm => Nat.ne_of_lt lt1 (by simpa using hm))
    have loop : codeAny (model X.prog X.w) X.A (.compLoop (.ListComp elt [⟨tg, iter, ifs, 0⟩] scope pos) 0 (.ref it) (.ref D) ce) (compPost (model X.prog X.w) X.A X.xe none (EP X pins σ Q) (.ref D) s3.heap.objs.size) s4 := by
      refine compLoop_any (fun n s' => ∃ i H', n = xs.length - i ∧ i ≤ xs.length ∧ Inv (X.blk s3 (upd H1 D (.lst [])) scope ce [it]) [] (wipe σ (own.map (·.2))) H' s' ∧ s'.heap.IsListIter it a i ∧ H' it = none ∧ W i H') ?_ xs.length ⟨0, _, rfl, Nat.zero_le _, I4, turn4, free3.1, w0⟩
      rintro n s5 ⟨i, H5, en, li, I5, st5, n5, w5⟩
      obtain ⟨ys, ry, py, _⟩ := I5.list (held i H5 w5)
      obtain ⟨f0, f1, f2, f3, f4, f5⟩ := free4 I5 n5
      have leny := ry.length
      by_cases e : i = xs.length
      · subst e
        obtain ⟨hh, v1, e1, c1⟩ := hot
        refine list_end_hot (e1 := x1.1) ⟨hh, x1.2, v1, held1 I5, e1, c1⟩ (fun z => Nat.ne_of_lt lt1 z) st5 py.isList (by simp; omega) fun h6 k6 => ?_
        have I6 := I5.turned (t' := s5.toks) (fun b o nb z => k6 b o nb z) f0 f1 f3 f4 f5
        have I7 : Inv X pins σ H5 { s5 with heap := h6 } := I3.call' (ch := [it]) I6.os I6.base I6.hok I6.bare fun b hb => by
          obtain rfl : b = it := by simpa using hb
          exact ⟨free3.2.2.2.1, free3.2.1, free3.2.2.2.2.1, free3.2.2.2.2.2⟩
        have nC : H5 s3.heap.objs.size = none := by
          rw [← cL]
          exact I6.free
        obtain ⟨m, hm, _⟩ := I6.loc
        refine ⟨m, by rw [← cL]; exact hm, fun h8 sb => ?_⟩
        obtain ⟨g0, g1, g2, g3, g4, g5⟩ := I3.fpOk (Nat.le_refl _) nC
        exact ⟨.ref D, H5, I7.turned (t' := s5.toks) (fun b o nb z => (sb.2 b nb).trans z) g0 g1 g3 g4 g5, rfl, fin H5 w5⟩
      · have lt : i < xs.length := Nat.lt_of_le_of_ne li e
        obtain ⟨u, eu, ru⟩ := ry.get (List.getElem?_eq_getElem lt)
        refine wpAny_pyNext_list_item st5 py.isList (x := u) (by simpa using eu) fun h6 st6 sb6 => ?_
        have I6 := I5.turned (t' := s5.toks) (fun b o nb z => (sb6.2 b nb).trans z) f0 f1 f3 f4 f5
        obtain ⟨io, ig, ic, idt⟩ := id st6
        refine go_of (s := { s5 with heap := h6 }) ig ic idt (by decide) ?_
        have I6' := I6.pinned (pins := []) (fp := [it]) (fun b hb => by
          obtain rfl : b = it := by simpa using hb
          exact free4 I6 n5) (fun b hb => by
          obtain rfl : b = it := by simpa using hb
          exact ⟨io, ig, fun v z => by rw [idt] at z; cases z⟩)
        refine thnF (pg.run _ _ _ H5 _ u _ I6' ru (turn i _ H5 (List.getElem?_eq_getElem lt) w5)) fun _ s8 ⟨σ8, H8, I8, hw8, q8⟩ => ?_
        refine thnF (pt.run _ s8 σ8 H8 _ I8 q8) fun b s9 ⟨H9, I9, q9⟩ => ?_
        have again : ∀ {s' : Shared} {H' : Hp}, Inv (X.blk s3 (upd H1 D (.lst [])) scope ce [it]) ([] ++ pinsAt [it] h6) σ8 H' s' → W (i + 1) H' → ∃ m, m < n ∧ ∃ i H', m = xs.length - i ∧ i ≤ xs.length ∧ Inv (X.blk s3 (upd H1 D (.lst [])) scope ce [it]) [] (wipe σ (own.map (·.2))) H' s' ∧ s'.heap.IsListIter it a i ∧ H' it = none ∧ W i H' := fun {s' H'} J w' => by
          have pin := J.pin (it, io) (List.mem_append_right _ (List.mem_append_right _ (mem_pinsAt List.mem_cons_self ig)))
          refine ⟨xs.length - (i + 1), by omega, i + 1, H', rfl, lt, (J.unpinned (pins := [])).weak (by rw [← hw8, wipe_length]) (fun j v z => ?_), st6.at fun o z => ?_, pin.2.1, w'⟩
          · rw [← hw8] at z
            exact (wipe_some z).1
          · rw [ig] at z
            cases z
            exact pin.1
        cases b with
        | false => exact again I9 q9
        | true =>
          refine thnF (pe.run _ s9 σ8 H9 _ I9 q9) fun z s10 ⟨yv, H10, I10, r10, acc, hD10, hz10, nx⟩ => ?_
          exact app_ok (X := X.blk s3 (upd H1 D (.lst [])) scope ce [it]) I10 hD10 hz10 r10 fun s11 I11 => again I11 nx
    exact codeAny_compStart_list loop (wpAny_pyIter_listiter turn4 loop)
  subst hce
  subst hs3
  exact here
end
end Kx

set_option maxHeartbeats 8000000
namespace Kx
open PySem PySem.Spec PyProof.Rows L2
/-! _law_kin: the names of the classes that an error is of; also while it is handled -/
structure KinC (mg : Str → Option Value) (Cs : Nat → Addr) : Prop where
  m : ∀ j, j < 53 → mg (nm j) = some (.ref (Cs j))
  gi : mg "isinstance" = none
def RowB (bs : Nat → Bool) (H : Hp) (x : V) (j : Nat) : Prop := ∃ t, x = .ref t ∧ H t = some (.tup [.bl (bs j), .str (nm j)])
theorem RowB.keep {bs : Nat → Bool} {H H' : Hp} {x : V} {j : Nat} (h : RowB bs H x j) (s : Same H H') : RowB bs H' x j := by
  obtain ⟨t, e, q⟩ := h
  exact ⟨t, e, s _ _ q⟩
/-- at r: the first n rows -/
def RowsB (bs : Nat → Bool) (H : Hp) (r : Addr) (n : Nat) : Prop := ∃ xs, H r = some (.lst xs) ∧ xs.length = n ∧ ∀ i x, xs[i]? = some x → RowB bs H x i
theorem RowsB.keep {bs : Nat → Bool} {H H' : Hp} {r : Addr} {n : Nat} (h : RowsB bs H r n) (s : Same H H') : RowsB bs H' r n := by
  obtain ⟨xs, h1, h2, h3⟩ := h
  exact ⟨xs, s _ _ h1, h2, fun i x e => (h3 i x e).keep s⟩
theorem RowsB.add {bs : Nat → Bool} {H : Hp} {r' : Addr} {xs ys : List V} {n k : Nat} (hx : xs.length = n) (rx : ∀ i x, xs[i]? = some x → RowB bs H x i) (hy : ys.length = k) (ry : ∀ i x, ys[i]? = some x → RowB bs H x (n + i)) (h : H r' = some (.lst (xs ++ ys))) : RowsB bs H r' (n + k) := by
  refine ⟨_, h, by rw [List.length_append, hx, hy], fun i x e => ?_⟩
  by_cases lt : i < xs.length
  · rw [List.getElem?_append_left lt] at e
    exact rx i x e
  · rw [List.getElem?_append_right (Nat.le_of_not_lt lt)] at e
    have q := ry _ _ e
    rw [show n + (i - xs.length) = i by omega] at q
    exact q
/-- what is known of the error that is asked -/
structure KinG (K : PySem.W.Frag) (Pz : Hp → Addr → Addr → Prop) (Cs : Nat → Addr) (bs : Nat → Bool) (a D : Addr) (H : Hp) : Prop where
  hz : ∀ H', Same H H' → Pz H' a D
  ec : ExcC K D
  ks : ∀ j, j < 53 → PySem.W.kitOne K (.ref D) (.ref (Cs j)) = some (bs j)
/-- (isinstance(e, the j-th class), its name) -/
def tRow (K : PySem.W.Frag) (Pz : Hp → Addr → Addr → Prop) (Cs : Nat → Addr) (j : Nat) : TE := fun σ H Q => ∃ (a D : Addr) (b : Bool), σ[0]? = some (some (V.ref a)) ∧ Pz H a D ∧ ExcC K D ∧ PySem.W.kitOne K (.ref D) (.ref (Cs j)) = some b ∧
  ∀ (t : Addr) (H' : Hp), H t = none → Same H H' → H' t = some (.tup [.bl b, .str (nm j)]) → Q (.ref t) H'
theorem pe_row {X : Cx} {K : PySem.W.Frag} {Pz : Hp → Addr → Addr → Prop} {Cs : Nat → Addr} (j : Nat) {e : Expr} (h : PE X e (tTup (tCons (tCB (rIsV K Pz) (tCons (tVar 0) (tCons (tC (.ref (Cs j))) tNil))) (tCons (tC (.str (nm j))) tNil)))) : PE X e (tRow K Pz Cs j) :=
  ⟨fun pins s σ H Q I ⟨a, D, b, e0, hz, ec, k, q⟩ => h.run pins s σ H Q I ⟨_, e0, a, D, .ref (Cs j), .ref (Cs j), b, rfl, hz, ec, fun u r => r, k, (show 2 ≤ sizeLine by decide), fun t ht => q t _ ht (sameUpd (Same.refl _) ht) upd_same⟩⟩
/-- ahead of a row of kin: n rows are there -/
def Mid (K : PySem.W.Frag) (Cs : Nat → Addr) (bs : Nat → Bool) (a : Addr) (H : Hp) (n : Nat) : L2.St → Hp → Prop := fun σ H2 => ∃ r, σ = [some (.ref a), some (.ref r), none] ∧ Same H H2 ∧ RowsB bs H2 r n
section
variable {K : PySem.W.Frag} {Pz : Hp → Addr → Addr → Prop} {Cs : Nat → Addr} {bs : Nat → Bool} {a D : Addr} {H : Hp} {En : Ends}
theorem rows3 {n : Nat} {H2 : Hp} {t0 t1 t2 : Addr} (h0 : H2 t0 = some (.tup [.bl (bs n), .str (nm n)])) (h1 : H2 t1 = some (.tup [.bl (bs (n + 1)), .str (nm (n + 1))])) (h2 : H2 t2 = some (.tup [.bl (bs (n + 2)), .str (nm (n + 2))])) :
    ∀ i x, [V.ref t0, .ref t1, .ref t2][i]? = some x → RowB bs H2 x (n + i) := fun i x e => match i, e with
  | 0, e => by cases e; exact ⟨t0, rfl, h0⟩
  | 1, e => by cases e; exact ⟨t1, rfl, h1⟩
  | 2, e => by cases e; exact ⟨t2, rfl, h2⟩
theorem kin_first {H2 : Hp} (G : KinG K Pz Cs bs a D H) (s : Same H H2) : (tAsg (tLst (tCons (tRow K Pz Cs 0) (tCons (tRow K Pz Cs 1) (tCons (tRow K Pz Cs 2) tNil)))) (gName 1)) { En with nx := Mid K Cs bs a H 3 } [some (.ref a), none, none] H2 := by
  refine ⟨a, D, bs 0, rfl, G.hz _ s, G.ec, G.ks _ (by decide), fun t0 I0 f0 s0 e0 => ?_⟩
  refine ⟨a, D, bs 1, rfl, G.hz _ (s.trans s0), G.ec, G.ks _ (by decide), fun t1 I1 f1 s1 e1 => ?_⟩
  refine ⟨a, D, bs 2, rfl, G.hz _ ((s.trans s0).trans s1), G.ec, G.ks _ (by decide), fun t2 I2 f2 s2 e2 => ⟨(show 3 ≤ sizeLine by decide), fun l hl => ?_⟩⟩
  have sl : Same I2 (upd I2 l (.lst [.ref t0, .ref t1, .ref t2])) := sameUpd (Same.refl _) hl
  refine ⟨l, rfl, ((s.trans s0).trans s1).trans (s2.trans sl), _, upd_same, rfl, fun i x e => ?_⟩
  have q := rows3 (bs := bs) (n := 0) (sl _ _ (s2 _ _ (s1 _ _ e0))) (sl _ _ (s2 _ _ e1)) (sl _ _ e2) i x e
  rw [Nat.zero_add] at q
  exact q
theorem kin_step3 {n : Nat} {σ : L2.St} {H2 : Hp} (G : KinG K Pz Cs bs a D H) (m : Mid K Cs bs a H n σ H2) (hn : n + 2 < 53 := by decide) : (tAsg (tOp rCat (tVar 1) (tLst (tCons (tRow K Pz Cs n) (tCons (tRow K Pz Cs (n + 1)) (tCons (tRow K Pz Cs (n + 2)) tNil))))) (gName 1)) { En with nx := Mid K Cs bs a H (n + 3) } σ H2 := by
  obtain ⟨r, rfl, s, xs, hr, len, rows⟩ := m
  refine ⟨_, rfl, a, D, bs n, rfl, G.hz _ s, G.ec, G.ks _ (by omega), fun t0 I0 f0 s0 e0 => ?_⟩
  refine ⟨a, D, bs (n + 1), rfl, G.hz _ (s.trans s0), G.ec, G.ks _ (by omega), fun t1 I1 f1 s1 e1 => ?_⟩
  refine ⟨a, D, bs (n + 2), rfl, G.hz _ ((s.trans s0).trans s1), G.ec, G.ks _ (by omega), fun t2 I2 f2 s2 e2 => ⟨(show 3 ≤ sizeLine by decide), fun l hl => ?_⟩⟩
  have sl : Same I2 (upd I2 l (.lst [.ref t0, .ref t1, .ref t2])) := sameUpd (Same.refl _) hl
  have s3 := (s0.trans s1).trans (s2.trans sl)
  refine ⟨r, l, xs, _, rfl, rfl, s3 _ _ hr, upd_same, Nat.le_of_lt (small1000 (by rw [len]; show n + 3 ≤ 1000; omega)), fun p hp => ?_⟩
  have sp := sameUpd (o := .lst (xs ++ [.ref t0, .ref t1, .ref t2])) (Same.refl _) hp
  exact ⟨p, rfl, (s.trans s3).trans sp, RowsB.add len (fun i x e => (rows i x e).keep (s3.trans sp)) rfl (rows3 (sp _ _ (sl _ _ (s2 _ _ (s1 _ _ e0)))) (sp _ _ (sl _ _ (s2 _ _ e1))) (sp _ _ (sl _ _ e2))) upd_same⟩
theorem kin_step2 {n : Nat} {σ : L2.St} {H2 : Hp} (G : KinG K Pz Cs bs a D H) (m : Mid K Cs bs a H n σ H2) (hn : n + 1 < 53 := by decide) : (tAsg (tOp rCat (tVar 1) (tLst (tCons (tRow K Pz Cs n) (tCons (tRow K Pz Cs (n + 1)) tNil)))) (gName 1)) { En with nx := Mid K Cs bs a H (n + 2) } σ H2 := by
  obtain ⟨r, rfl, s, xs, hr, len, rows⟩ := m
  refine ⟨_, rfl, a, D, bs n, rfl, G.hz _ s, G.ec, G.ks _ (by omega), fun t0 I0 f0 s0 e0 => ?_⟩
  refine ⟨a, D, bs (n + 1), rfl, G.hz _ (s.trans s0), G.ec, G.ks _ (by omega), fun t1 I1 f1 s1 e1 => ⟨(show 2 ≤ sizeLine by decide), fun l hl => ?_⟩⟩
  have sl : Same I1 (upd I1 l (.lst [.ref t0, .ref t1])) := sameUpd (Same.refl _) hl
  have s3 := s0.trans (s1.trans sl)
  refine ⟨r, l, xs, _, rfl, rfl, s3 _ _ hr, upd_same, Nat.le_of_lt (small1000 (by rw [len]; show n + 2 ≤ 1000; omega)), fun p hp => ?_⟩
  have sp := sameUpd (o := .lst (xs ++ [.ref t0, .ref t1])) (Same.refl _) hp
  refine ⟨p, rfl, (s.trans s3).trans sp, RowsB.add len (fun i x e => (rows i x e).keep (s3.trans sp)) rfl (fun i x e => ?_) upd_same⟩
  match i, e with
  | 0, e => cases e; exact ⟨t0, rfl, sp _ _ (sl _ _ (s1 _ _ e0))⟩
  | 1, e => cases e; exact ⟨t1, rfl, sp _ _ (sl _ _ e1)⟩
/-- the names of those that hold among the first n -/
def said (bs : Nat → Bool) (n : Nat) : List Str := ((List.range n).filter bs).map nm
theorem said_yes {n : Nat} (h : bs n = true) : said bs (n + 1) = said bs n ++ [nm n] := by
  unfold said
  rw [List.range_succ, List.filter_append, List.map_append]
  simp [h]
theorem said_no {n : Nat} (h : bs n = false) : said bs (n + 1) = said bs n := by
  unfold said
  rw [List.range_succ, List.filter_append, List.map_append]
  simp [h]
theorem said_len {n : Nat} : (said bs n).length ≤ n := by
  unfold said
  rw [List.length_map]
  exact Nat.le_trans (List.length_filter_le _ _) (Nat.le_of_eq List.length_range)
/-- a turn of the last row of kin -/
theorem kin_turn {L2x : Addr} {H1 : Hp} {xs : List V} {r : Addr} {Q : VK} (hr : H1 r = some (.lst xs)) (len : xs.length = 53) (rows : ∀ i x, xs[i]? = some x → RowB bs H1 x i) (hD : H1 L2x = none)
    (q : ∀ H', Same H1 H' → H' L2x = some (.lst ((said bs 53).map V.str)) → Q (.ref L2x) H') :
    ∃ W : Nat → Hp → Prop, W 0 (upd H1 L2x (.lst [])) ∧ (∀ i H, W i H → SqL K H r xs) ∧
      (∀ i x H, xs[i]? = some x → W i H → (gName 2) x (wipe [some (.ref a), some (.ref r), none] [2]) H fun σ2 H2 => wipe σ2 [2] = wipe [some (.ref a), some (.ref r), none] [2] ∧ (tB (tOp (rIx K) (tVar 2) (tC (.int 0)))) σ2 H2 fun b H3 => if b = true then (tOp (rIx K) (tVar 2) (tC (.int 1))) σ2 H3 fun y H4 => ∃ acc, H4 L2x = some (.lst acc) ∧ acc.length < sizeLine ∧ W (i + 1) (upd H4 L2x (.lst (acc ++ [y]))) else W (i + 1) H3) ∧
      (∀ H, W xs.length H → Q (.ref L2x) H) := by
  refine ⟨fun i H => Same H1 H ∧ H L2x = some (.lst ((said bs i).map V.str)), ⟨sameUpd (Same.refl _) hD, upd_same⟩, fun i H w => SqL.of (w.1 _ _ hr), fun i x H e w => ?_, fun H w => q H w.1 (by rw [← len]; exact w.2)⟩
  obtain ⟨t, rfl, ht⟩ := (rows i x e).keep w.1
  have lt : i < 53 := by rw [← len]; exact (List.getElem?_eq_some_iff.mp e).1
  refine ⟨rfl, .ref t, rfl, .inr (.inl ⟨t, _, 0, _, rfl, rfl, SqT.of ht, (by rfl), bs i, rfl, ?_⟩)⟩
  cases eb : bs i with
  | false =>
    rw [if_neg Bool.false_ne_true]
    exact ⟨w.1, by rw [said_no eb]; exact w.2⟩
  | true =>
    rw [if_pos rfl]
    refine ⟨.ref t, rfl, .inr (.inl ⟨t, _, 1, _, rfl, rfl, SqT.of ht, (by rfl), _, w.2, ?_, fun b u e => ?_, ?_⟩)⟩
    · rw [List.length_map]
      exact small1000 (Nat.le_trans said_len (by omega))
    · rw [upd_ne (ne_of_none e hD)]
      exact w.1 _ _ e
    · rw [said_yes eb, List.map_append]
      exact upd_same
end
end Kx

set_option maxHeartbeats 8000000
namespace Kx
open PySem PySem.Spec PyProof.Rows L2
theorem ix_seqK {X : Cx} {K : PySem.W.Frag} (h : X.K = K) : IxR X (rIx K) := by
  subst h
  exact ix_seq
abbrev nKin : List Str := ["_law_e", "_law_rows", "_law_row"]
def PzC (H : Hp) (a D : Addr) : Prop := ∃ fs, ErrAt H a D fs
def PzH (p : Addr × Obj) (H : Hp) (a D : Addr) : Prop := a = p.1 ∧ ∃ d, Zc (.ref D) d p.2 ∧ (∃ us, p.2.data = .fields us) ∧ (d = none ∨ ∃ (dd : Addr) (fs : List (Str × V)), d = some dd ∧ H dd = some (.xd fs))
theorem PzH.keep {p : Addr × Obj} {H H' : Hp} {a D : Addr} (h : PzH p H a D) (s : Same H H') : PzH p H' a D := by
  obtain ⟨e, d, z, f, h⟩ := h
  refine ⟨e, d, z, f, ?_⟩
  rcases h with h | ⟨dd, fs, e1, e2⟩
  · exact .inl h
  · exact .inr ⟨dd, fs, e1, s _ _ e2⟩
theorem pz_calm {X : Cx} (pins : List (Addr × Obj)) (σ : L2.St) (H : Hp) (s : Shared) (a D : Addr) (I : Inv X pins σ H s) (h : PzC H a D) : ∃ ox od, PySem.W.InstAt s.heap a ox D od := by
  obtain ⟨fs, h⟩ := h
  exact h.inst I
theorem pz_hot {X : Cx} {p : Addr × Obj} (hp : p ∈ X.pn) (pins : List (Addr × Obj)) (σ : L2.St) (H : Hp) (s : Shared) (a D : Addr) (I : Inv X pins σ H s) (h : PzH p H a D) : ∃ ox od, PySem.W.InstAt s.heap a ox D od := by
  obtain ⟨rfl, d, z, ⟨us, f⟩, h⟩ := h
  obtain ⟨g, _⟩ := I.pin p (List.mem_append_left _ hp)
  rcases h with rfl | ⟨dd, fs, rfl, e2⟩
  · obtain ⟨a, ⟨oc, od, oda, osl⟩⟩ := p
    obtain ⟨h1, h2⟩ := z
    dsimp only at h1 h2 f g
    subst h1 h2 f
    exact ⟨_, none, g, rfl, rfl, trivial⟩
  · obtain ⟨mA, hns, hr⟩ := (show ObjOk X.prog X.w H s.heap dd (.xd fs) from I.hok dd _ e2)
    obtain ⟨od, ho, hl⟩ := lookIn_ns hns
    exact ⟨_, some od, g, z.1, by unfold PySem.W.notCls; rw [f] <;> rfl, by rw [z.2]; exact ho⟩
def spKin (K : PySem.W.Frag) (Cs : Nat → Addr) : Sp := fun vs H Q _ => ∃ (a D : Addr) (bs : Nat → Bool), vs = [.ref a] ∧ PzC H a D ∧ ExcC K D ∧ (∀ j, j < 53 → PySem.W.kitOne K (.ref D) (.ref (Cs j)) = some (bs j)) ∧
  ∀ (q : Addr) (H' : Hp), H q = none → Same H H' → H' q = some (.lst ((said bs 53).map V.str)) → Q (.ref q) H'
def spKinH (K : PySem.W.Frag) (Cs : Nat → Addr) : Addr × Obj → Sp := fun p vs H Q _ => ∃ (D : Addr) (bs : Nat → Bool), vs = [.ref p.1] ∧ PzH p H p.1 D ∧ ExcC K D ∧ (∀ j, j < 53 → PySem.W.kitOne K (.ref D) (.ref (Cs j)) = some (bs j)) ∧
  ∀ (q : Addr) (H' : Hp), H q = none → Same H H' → H' q = some (.lst ((said bs 53).map V.str)) → Q (.ref q) H'
section
variable {P : Program} {w : World} {K : PySem.W.Frag} {mg : Str → Option Value} {base : Heap} {Cs : Nat → Addr}
theorem scKin : FnScope nKin ["_law_e"] (defScope sLKin) := ⟨rfl, rfl, rfl, by decide +kernel, rfl, by decide +kernel, by decide +kernel⟩
theorem ok_kin {f : Addr} {fd : FuncData} (F : Fun K "_law_kin" "_law_kin" sLKin f fd) (m : mg "_law_kin" = some (.ref f)) (C : KinC mg Cs) : HasF P w K mg base "_law_kin" 1 ["_law_e"] (spKin K Cs) := by
  refine ⟨f, fd, ?_, m, F.kp, F.binds fun _ _ _ _ _ _ us hl => match us, hl with | [_], _ => rfl⟩
  refine F.ok scKin (fun vs H Q E h => ?_) (fun cdv A outer s H vs Q E hr h => ?_)
  · obtain ⟨a, D, bs, rfl, _⟩ := h
    rfl
  · obtain ⟨a, D, bs, rfl, hp, ec, ks, k⟩ := h
    have G : KinG K PzC Cs bs a D H := ⟨fun H' s => (by obtain ⟨fs, h⟩ := hp; exact ⟨fs, h.keep s⟩), ec, ks⟩
    refine ⟨_, (C8.pss_cut (ps_set (i := 1) scKin.nd rfl (Or.inl rfl) (pe_lst (pa_cons (pe_row 0 (pe_tup (pa_cons (pe_callB (call_isV (Pz := PzC) rfl pz_calm) (by rfl) C.gi (by decide +kernel) (pa_cons (pv 0) (pa_cons (pe_glob (v := .ref (Cs 0)) rfl (C.m 0 (by decide)) rfl) pa_nil))) (pa_cons pe_str pa_nil)))) (pa_cons (pe_row 1 (pe_tup (pa_cons (pe_callB (call_isV (Pz := PzC) rfl pz_calm) (by rfl) C.gi (by decide +kernel) (pa_cons (pv 0) (pa_cons (pe_glob (v := .ref (Cs 1)) rfl (C.m 1 (by decide)) rfl) pa_nil))) (pa_cons pe_str pa_nil)))) (pa_cons (pe_row 2 (pe_tup (pa_cons (pe_callB (call_isV (Pz := PzC) rfl pz_calm) (by rfl) C.gi (by decide +kernel) (pa_cons (pv 0) (pa_cons (pe_glob (v := .ref (Cs 2)) rfl (C.m 2 (by decide)) rfl) pa_nil))) (pa_cons pe_str pa_nil)))) pa_nil)))))
    (C8.pss_cut (ps_set (i := 1) scKin.nd rfl (Or.inl rfl) (pe_op op_cat (pv 1) (pe_lst (pa_cons (pe_row 3 (pe_tup (pa_cons (pe_callB (call_isV (Pz := PzC) rfl pz_calm) (by rfl) C.gi (by decide +kernel) (pa_cons (pv 0) (pa_cons (pe_glob (v := .ref (Cs 3)) rfl (C.m 3 (by decide)) rfl) pa_nil))) (pa_cons pe_str pa_nil)))) (pa_cons (pe_row 4 (pe_tup (pa_cons (pe_callB (call_isV (Pz := PzC) rfl pz_calm) (by rfl) C.gi (by decide +kernel) (pa_cons (pv 0) (pa_cons (pe_glob (v := .ref (Cs 4)) rfl (C.m 4 (by decide)) rfl) pa_nil))) (pa_cons pe_str pa_nil)))) (pa_cons (pe_row 5 (pe_tup (pa_cons (pe_callB (call_isV (Pz := PzC) rfl pz_calm) (by rfl) C.gi (by decide +kernel) (pa_cons (pv 0) (pa_cons (pe_glob (v := .ref (Cs 5)) rfl (C.m 5 (by decide)) rfl) pa_nil))) (pa_cons pe_str pa_nil)))) pa_nil))))))
    (C8.pss_cut (ps_set (i := 1) scKin.nd rfl (Or.inl rfl) (pe_op op_cat (pv 1) (pe_lst (pa_cons (pe_row 6 (pe_tup (pa_cons (pe_callB (call_isV (Pz := PzC) rfl pz_calm) (by rfl) C.gi (by decide +kernel) (pa_cons (pv 0) (pa_cons (pe_glob (v := .ref (Cs 6)) rfl (C.m 6 (by decide)) rfl) pa_nil))) (pa_cons pe_str pa_nil)))) (pa_cons (pe_row 7 (pe_tup (pa_cons (pe_callB (call_isV (Pz := PzC) rfl pz_calm) (by rfl) C.gi (by decide +kernel) (pa_cons (pv 0) (pa_cons (pe_glob (v := .ref (Cs 7)) rfl (C.m 7 (by decide)) rfl) pa_nil))) (pa_cons pe_str pa_nil)))) (pa_cons (pe_row 8 (pe_tup (pa_cons (pe_callB (call_isV (Pz := PzC) rfl pz_calm) (by rfl) C.gi (by decide +kernel) (pa_cons (pv 0) (pa_cons (pe_glob (v := .ref (Cs 8)) rfl (C.m 8 (by decide)) rfl) pa_nil))) (pa_cons pe_str pa_nil)))) pa_nil))))))
    (C8.pss_cut (ps_set (i := 1) scKin.nd rfl (Or.inl rfl) (pe_op op_cat (pv 1) (pe_lst (pa_cons (pe_row 9 (pe_tup (pa_cons (pe_callB (call_isV (Pz := PzC) rfl pz_calm) (by rfl) C.gi (by decide +kernel) (pa_cons (pv 0) (pa_cons (pe_glob (v := .ref (Cs 9)) rfl (C.m 9 (by decide)) rfl) pa_nil))) (pa_cons pe_str pa_nil)))) (pa_cons (pe_row 10 (pe_tup (pa_cons (pe_callB (call_isV (Pz := PzC) rfl pz_calm) (by rfl) C.gi (by decide +kernel) (pa_cons (pv 0) (pa_cons (pe_glob (v := .ref (Cs 10)) rfl (C.m 10 (by decide)) rfl) pa_nil))) (pa_cons pe_str pa_nil)))) (pa_cons (pe_row 11 (pe_tup (pa_cons (pe_callB (call_isV (Pz := PzC) rfl pz_calm) (by rfl) C.gi (by decide +kernel) (pa_cons (pv 0) (pa_cons (pe_glob (v := .ref (Cs 11)) rfl (C.m 11 (by decide)) rfl) pa_nil))) (pa_cons pe_str pa_nil)))) pa_nil))))))
    (C8.pss_cut (ps_set (i := 1) scKin.nd rfl (Or.inl rfl) (pe_op op_cat (pv 1) (pe_lst (pa_cons (pe_row 12 (pe_tup (pa_cons (pe_callB (call_isV (Pz := PzC) rfl pz_calm) (by rfl) C.gi (by decide +kernel) (pa_cons (pv 0) (pa_cons (pe_glob (v := .ref (Cs 12)) rfl (C.m 12 (by decide)) rfl) pa_nil))) (pa_cons pe_str pa_nil)))) (pa_cons (pe_row 13 (pe_tup (pa_cons (pe_callB (call_isV (Pz := PzC) rfl pz_calm) (by rfl) C.gi (by decide +kernel) (pa_cons (pv 0) (pa_cons (pe_glob (v := .ref (Cs 13)) rfl (C.m 13 (by decide)) rfl) pa_nil))) (pa_cons pe_str pa_nil)))) (pa_cons (pe_row 14 (pe_tup (pa_cons (pe_callB (call_isV (Pz := PzC) rfl pz_calm) (by rfl) C.gi (by decide +kernel) (pa_cons (pv 0) (pa_cons (pe_glob (v := .ref (Cs 14)) rfl (C.m 14 (by decide)) rfl) pa_nil))) (pa_cons pe_str pa_nil)))) pa_nil))))))
    (C8.pss_cut (ps_set (i := 1) scKin.nd rfl (Or.inl rfl) (pe_op op_cat (pv 1) (pe_lst (pa_cons (pe_row 15 (pe_tup (pa_cons (pe_callB (call_isV (Pz := PzC) rfl pz_calm) (by rfl) C.gi (by decide +kernel) (pa_cons (pv 0) (pa_cons (pe_glob (v := .ref (Cs 15)) rfl (C.m 15 (by decide)) rfl) pa_nil))) (pa_cons pe_str pa_nil)))) (pa_cons (pe_row 16 (pe_tup (pa_cons (pe_callB (call_isV (Pz := PzC) rfl pz_calm) (by rfl) C.gi (by decide +kernel) (pa_cons (pv 0) (pa_cons (pe_glob (v := .ref (Cs 16)) rfl (C.m 16 (by decide)) rfl) pa_nil))) (pa_cons pe_str pa_nil)))) (pa_cons (pe_row 17 (pe_tup (pa_cons (pe_callB (call_isV (Pz := PzC) rfl pz_calm) (by rfl) C.gi (by decide +kernel) (pa_cons (pv 0) (pa_cons (pe_glob (v := .ref (Cs 17)) rfl (C.m 17 (by decide)) rfl) pa_nil))) (pa_cons pe_str pa_nil)))) pa_nil))))))
    (C8.pss_cut (ps_set (i := 1) scKin.nd rfl (Or.inl rfl) (pe_op op_cat (pv 1) (pe_lst (pa_cons (pe_row 18 (pe_tup (pa_cons (pe_callB (call_isV (Pz := PzC) rfl pz_calm) (by rfl) C.gi (by decide +kernel) (pa_cons (pv 0) (pa_cons (pe_glob (v := .ref (Cs 18)) rfl (C.m 18 (by decide)) rfl) pa_nil))) (pa_cons pe_str pa_nil)))) (pa_cons (pe_row 19 (pe_tup (pa_cons (pe_callB (call_isV (Pz := PzC) rfl pz_calm) (by rfl) C.gi (by decide +kernel) (pa_cons (pv 0) (pa_cons (pe_glob (v := .ref (Cs 19)) rfl (C.m 19 (by decide)) rfl) pa_nil))) (pa_cons pe_str pa_nil)))) (pa_cons (pe_row 20 (pe_tup (pa_cons (pe_callB (call_isV (Pz := PzC) rfl pz_calm) (by rfl) C.gi (by decide +kernel) (pa_cons (pv 0) (pa_cons (pe_glob (v := .ref (Cs 20)) rfl (C.m 20 (by decide)) rfl) pa_nil))) (pa_cons pe_str pa_nil)))) pa_nil))))))
    (C8.pss_cut (ps_set (i := 1) scKin.nd rfl (Or.inl rfl) (pe_op op_cat (pv 1) (pe_lst (pa_cons (pe_row 21 (pe_tup (pa_cons (pe_callB (call_isV (Pz := PzC) rfl pz_calm) (by rfl) C.gi (by decide +kernel) (pa_cons (pv 0) (pa_cons (pe_glob (v := .ref (Cs 21)) rfl (C.m 21 (by decide)) rfl) pa_nil))) (pa_cons pe_str pa_nil)))) (pa_cons (pe_row 22 (pe_tup (pa_cons (pe_callB (call_isV (Pz := PzC) rfl pz_calm) (by rfl) C.gi (by decide +kernel) (pa_cons (pv 0) (pa_cons (pe_glob (v := .ref (Cs 22)) rfl (C.m 22 (by decide)) rfl) pa_nil))) (pa_cons pe_str pa_nil)))) (pa_cons (pe_row 23 (pe_tup (pa_cons (pe_callB (call_isV (Pz := PzC) rfl pz_calm) (by rfl) C.gi (by decide +kernel) (pa_cons (pv 0) (pa_cons (pe_glob (v := .ref (Cs 23)) rfl (C.m 23 (by decide)) rfl) pa_nil))) (pa_cons pe_str pa_nil)))) pa_nil))))))
    (C8.pss_cut (ps_set (i := 1) scKin.nd rfl (Or.inl rfl) (pe_op op_cat (pv 1) (pe_lst (pa_cons (pe_row 24 (pe_tup (pa_cons (pe_callB (call_isV (Pz := PzC) rfl pz_calm) (by rfl) C.gi (by decide +kernel) (pa_cons (pv 0) (pa_cons (pe_glob (v := .ref (Cs 24)) rfl (C.m 24 (by decide)) rfl) pa_nil))) (pa_cons pe_str pa_nil)))) (pa_cons (pe_row 25 (pe_tup (pa_cons (pe_callB (call_isV (Pz := PzC) rfl pz_calm) (by rfl) C.gi (by decide +kernel) (pa_cons (pv 0) (pa_cons (pe_glob (v := .ref (Cs 25)) rfl (C.m 25 (by decide)) rfl) pa_nil))) (pa_cons pe_str pa_nil)))) (pa_cons (pe_row 26 (pe_tup (pa_cons (pe_callB (call_isV (Pz := PzC) rfl pz_calm) (by rfl) C.gi (by decide +kernel) (pa_cons (pv 0) (pa_cons (pe_glob (v := .ref (Cs 26)) rfl (C.m 26 (by decide)) rfl) pa_nil))) (pa_cons pe_str pa_nil)))) pa_nil))))))
    (C8.pss_cut (ps_set (i := 1) scKin.nd rfl (Or.inl rfl) (pe_op op_cat (pv 1) (pe_lst (pa_cons (pe_row 27 (pe_tup (pa_cons (pe_callB (call_isV (Pz := PzC) rfl pz_calm) (by rfl) C.gi (by decide +kernel) (pa_cons (pv 0) (pa_cons (pe_glob (v := .ref (Cs 27)) rfl (C.m 27 (by decide)) rfl) pa_nil))) (pa_cons pe_str pa_nil)))) (pa_cons (pe_row 28 (pe_tup (pa_cons (pe_callB (call_isV (Pz := PzC) rfl pz_calm) (by rfl) C.gi (by decide +kernel) (pa_cons (pv 0) (pa_cons (pe_glob (v := .ref (Cs 28)) rfl (C.m 28 (by decide)) rfl) pa_nil))) (pa_cons pe_str pa_nil)))) (pa_cons (pe_row 29 (pe_tup (pa_cons (pe_callB (call_isV (Pz := PzC) rfl pz_calm) (by rfl) C.gi (by decide +kernel) (pa_cons (pv 0) (pa_cons (pe_glob (v := .ref (Cs 29)) rfl (C.m 29 (by decide)) rfl) pa_nil))) (pa_cons pe_str pa_nil)))) pa_nil))))))
    (C8.pss_cut (ps_set (i := 1) scKin.nd rfl (Or.inl rfl) (pe_op op_cat (pv 1) (pe_lst (pa_cons (pe_row 30 (pe_tup (pa_cons (pe_callB (call_isV (Pz := PzC) rfl pz_calm) (by rfl) C.gi (by decide +kernel) (pa_cons (pv 0) (pa_cons (pe_glob (v := .ref (Cs 30)) rfl (C.m 30 (by decide)) rfl) pa_nil))) (pa_cons pe_str pa_nil)))) (pa_cons (pe_row 31 (pe_tup (pa_cons (pe_callB (call_isV (Pz := PzC) rfl pz_calm) (by rfl) C.gi (by decide +kernel) (pa_cons (pv 0) (pa_cons (pe_glob (v := .ref (Cs 31)) rfl (C.m 31 (by decide)) rfl) pa_nil))) (pa_cons pe_str pa_nil)))) (pa_cons (pe_row 32 (pe_tup (pa_cons (pe_callB (call_isV (Pz := PzC) rfl pz_calm) (by rfl) C.gi (by decide +kernel) (pa_cons (pv 0) (pa_cons (pe_glob (v := .ref (Cs 32)) rfl (C.m 32 (by decide)) rfl) pa_nil))) (pa_cons pe_str pa_nil)))) pa_nil))))))
    (C8.pss_cut (ps_set (i := 1) scKin.nd rfl (Or.inl rfl) (pe_op op_cat (pv 1) (pe_lst (pa_cons (pe_row 33 (pe_tup (pa_cons (pe_callB (call_isV (Pz := PzC) rfl pz_calm) (by rfl) C.gi (by decide +kernel) (pa_cons (pv 0) (pa_cons (pe_glob (v := .ref (Cs 33)) rfl (C.m 33 (by decide)) rfl) pa_nil))) (pa_cons pe_str pa_nil)))) (pa_cons (pe_row 34 (pe_tup (pa_cons (pe_callB (call_isV (Pz := PzC) rfl pz_calm) (by rfl) C.gi (by decide +kernel) (pa_cons (pv 0) (pa_cons (pe_glob (v := .ref (Cs 34)) rfl (C.m 34 (by decide)) rfl) pa_nil))) (pa_cons pe_str pa_nil)))) (pa_cons (pe_row 35 (pe_tup (pa_cons (pe_callB (call_isV (Pz := PzC) rfl pz_calm) (by rfl) C.gi (by decide +kernel) (pa_cons (pv 0) (pa_cons (pe_glob (v := .ref (Cs 35)) rfl (C.m 35 (by decide)) rfl) pa_nil))) (pa_cons pe_str pa_nil)))) pa_nil))))))
    (C8.pss_cut (ps_set (i := 1) scKin.nd rfl (Or.inl rfl) (pe_op op_cat (pv 1) (pe_lst (pa_cons (pe_row 36 (pe_tup (pa_cons (pe_callB (call_isV (Pz := PzC) rfl pz_calm) (by rfl) C.gi (by decide +kernel) (pa_cons (pv 0) (pa_cons (pe_glob (v := .ref (Cs 36)) rfl (C.m 36 (by decide)) rfl) pa_nil))) (pa_cons pe_str pa_nil)))) (pa_cons (pe_row 37 (pe_tup (pa_cons (pe_callB (call_isV (Pz := PzC) rfl pz_calm) (by rfl) C.gi (by decide +kernel) (pa_cons (pv 0) (pa_cons (pe_glob (v := .ref (Cs 37)) rfl (C.m 37 (by decide)) rfl) pa_nil))) (pa_cons pe_str pa_nil)))) (pa_cons (pe_row 38 (pe_tup (pa_cons (pe_callB (call_isV (Pz := PzC) rfl pz_calm) (by rfl) C.gi (by decide +kernel) (pa_cons (pv 0) (pa_cons (pe_glob (v := .ref (Cs 38)) rfl (C.m 38 (by decide)) rfl) pa_nil))) (pa_cons pe_str pa_nil)))) pa_nil))))))
    (C8.pss_cut (ps_set (i := 1) scKin.nd rfl (Or.inl rfl) (pe_op op_cat (pv 1) (pe_lst (pa_cons (pe_row 39 (pe_tup (pa_cons (pe_callB (call_isV (Pz := PzC) rfl pz_calm) (by rfl) C.gi (by decide +kernel) (pa_cons (pv 0) (pa_cons (pe_glob (v := .ref (Cs 39)) rfl (C.m 39 (by decide)) rfl) pa_nil))) (pa_cons pe_str pa_nil)))) (pa_cons (pe_row 40 (pe_tup (pa_cons (pe_callB (call_isV (Pz := PzC) rfl pz_calm) (by rfl) C.gi (by decide +kernel) (pa_cons (pv 0) (pa_cons (pe_glob (v := .ref (Cs 40)) rfl (C.m 40 (by decide)) rfl) pa_nil))) (pa_cons pe_str pa_nil)))) (pa_cons (pe_row 41 (pe_tup (pa_cons (pe_callB (call_isV (Pz := PzC) rfl pz_calm) (by rfl) C.gi (by decide +kernel) (pa_cons (pv 0) (pa_cons (pe_glob (v := .ref (Cs 41)) rfl (C.m 41 (by decide)) rfl) pa_nil))) (pa_cons pe_str pa_nil)))) pa_nil))))))
    (C8.pss_cut (ps_set (i := 1) scKin.nd rfl (Or.inl rfl) (pe_op op_cat (pv 1) (pe_lst (pa_cons (pe_row 42 (pe_tup (pa_cons (pe_callB (call_isV (Pz := PzC) rfl pz_calm) (by rfl) C.gi (by decide +kernel) (pa_cons (pv 0) (pa_cons (pe_glob (v := .ref (Cs 42)) rfl (C.m 42 (by decide)) rfl) pa_nil))) (pa_cons pe_str pa_nil)))) (pa_cons (pe_row 43 (pe_tup (pa_cons (pe_callB (call_isV (Pz := PzC) rfl pz_calm) (by rfl) C.gi (by decide +kernel) (pa_cons (pv 0) (pa_cons (pe_glob (v := .ref (Cs 43)) rfl (C.m 43 (by decide)) rfl) pa_nil))) (pa_cons pe_str pa_nil)))) (pa_cons (pe_row 44 (pe_tup (pa_cons (pe_callB (call_isV (Pz := PzC) rfl pz_calm) (by rfl) C.gi (by decide +kernel) (pa_cons (pv 0) (pa_cons (pe_glob (v := .ref (Cs 44)) rfl (C.m 44 (by decide)) rfl) pa_nil))) (pa_cons pe_str pa_nil)))) pa_nil))))))
    (C8.pss_cut (ps_set (i := 1) scKin.nd rfl (Or.inl rfl) (pe_op op_cat (pv 1) (pe_lst (pa_cons (pe_row 45 (pe_tup (pa_cons (pe_callB (call_isV (Pz := PzC) rfl pz_calm) (by rfl) C.gi (by decide +kernel) (pa_cons (pv 0) (pa_cons (pe_glob (v := .ref (Cs 45)) rfl (C.m 45 (by decide)) rfl) pa_nil))) (pa_cons pe_str pa_nil)))) (pa_cons (pe_row 46 (pe_tup (pa_cons (pe_callB (call_isV (Pz := PzC) rfl pz_calm) (by rfl) C.gi (by decide +kernel) (pa_cons (pv 0) (pa_cons (pe_glob (v := .ref (Cs 46)) rfl (C.m 46 (by decide)) rfl) pa_nil))) (pa_cons pe_str pa_nil)))) (pa_cons (pe_row 47 (pe_tup (pa_cons (pe_callB (call_isV (Pz := PzC) rfl pz_calm) (by rfl) C.gi (by decide +kernel) (pa_cons (pv 0) (pa_cons (pe_glob (v := .ref (Cs 47)) rfl (C.m 47 (by decide)) rfl) pa_nil))) (pa_cons pe_str pa_nil)))) pa_nil))))))
    (C8.pss_cut (ps_set (i := 1) scKin.nd rfl (Or.inl rfl) (pe_op op_cat (pv 1) (pe_lst (pa_cons (pe_row 48 (pe_tup (pa_cons (pe_callB (call_isV (Pz := PzC) rfl pz_calm) (by rfl) C.gi (by decide +kernel) (pa_cons (pv 0) (pa_cons (pe_glob (v := .ref (Cs 48)) rfl (C.m 48 (by decide)) rfl) pa_nil))) (pa_cons pe_str pa_nil)))) (pa_cons (pe_row 49 (pe_tup (pa_cons (pe_callB (call_isV (Pz := PzC) rfl pz_calm) (by rfl) C.gi (by decide +kernel) (pa_cons (pv 0) (pa_cons (pe_glob (v := .ref (Cs 49)) rfl (C.m 49 (by decide)) rfl) pa_nil))) (pa_cons pe_str pa_nil)))) (pa_cons (pe_row 50 (pe_tup (pa_cons (pe_callB (call_isV (Pz := PzC) rfl pz_calm) (by rfl) C.gi (by decide +kernel) (pa_cons (pv 0) (pa_cons (pe_glob (v := .ref (Cs 50)) rfl (C.m 50 (by decide)) rfl) pa_nil))) (pa_cons pe_str pa_nil)))) pa_nil))))))
    (C8.pss_cut (ps_set (i := 1) scKin.nd rfl (Or.inl rfl) (pe_op op_cat (pv 1) (pe_lst (pa_cons (pe_row 51 (pe_tup (pa_cons (pe_callB (call_isV (Pz := PzC) rfl pz_calm) (by rfl) C.gi (by decide +kernel) (pa_cons (pv 0) (pa_cons (pe_glob (v := .ref (Cs 51)) rfl (C.m 51 (by decide)) rfl) pa_nil))) (pa_cons pe_str pa_nil)))) (pa_cons (pe_row 52 (pe_tup (pa_cons (pe_callB (call_isV (Pz := PzC) rfl pz_calm) (by rfl) C.gi (by decide +kernel) (pa_cons (pv 0) (pa_cons (pe_glob (v := .ref (Cs 52)) rfl (C.m 52 (by decide)) rfl) pa_nil))) (pa_cons pe_str pa_nil)))) pa_nil)))))
    (pss_one (ps_ret (pe_lc (own := [("_law_row", 2)]) (g := gName 2) (tt := tB (tOp (rIx K) (tVar 2) (tC (.int 0)))) (by rfl) scKin.nd (pi_list (pv 1)) (blkOk_by (own := [("_law_row", 2)]) (N := nKin) (sc := defScope sLKin) (by decide +kernel)) (fun _ _ _ _ _ => pg_name (i := 2) scKin.nd rfl (Or.inl rfl)) (fun _ _ _ _ _ => pts_one (pt_val (pe_ix (ix_seqK (K := K) rfl) (pv 2) pe_int (fun _ _ => rfl)))) (fun _ _ _ _ _ => (pe_ix (ix_seqK (K := K) rfl) (pv 2) pe_int (fun _ _ => rfl)))))))))))))))))))))))), ?_⟩
    refine ⟨Mid K Cs bs a H 3, kin_first G (Same.refl _), fun σ1 H1 m1 => ?_⟩
    refine ⟨Mid K Cs bs a H 6, kin_step3 G m1, fun σ2 H2 m2 => ?_⟩
    refine ⟨Mid K Cs bs a H 9, kin_step3 G m2, fun σ3 H3 m3 => ?_⟩
    refine ⟨Mid K Cs bs a H 12, kin_step3 G m3, fun σ4 H4 m4 => ?_⟩
    refine ⟨Mid K Cs bs a H 15, kin_step3 G m4, fun σ5 H5 m5 => ?_⟩
    refine ⟨Mid K Cs bs a H 18, kin_step3 G m5, fun σ6 H6 m6 => ?_⟩
    refine ⟨Mid K Cs bs a H 21, kin_step3 G m6, fun σ7 H7 m7 => ?_⟩
    refine ⟨Mid K Cs bs a H 24, kin_step3 G m7, fun σ8 H8 m8 => ?_⟩
    refine ⟨Mid K Cs bs a H 27, kin_step3 G m8, fun σ9 H9 m9 => ?_⟩
    refine ⟨Mid K Cs bs a H 30, kin_step3 G m9, fun σ10 H10 m10 => ?_⟩
    refine ⟨Mid K Cs bs a H 33, kin_step3 G m10, fun σ11 H11 m11 => ?_⟩
    refine ⟨Mid K Cs bs a H 36, kin_step3 G m11, fun σ12 H12 m12 => ?_⟩
    refine ⟨Mid K Cs bs a H 39, kin_step3 G m12, fun σ13 H13 m13 => ?_⟩
    refine ⟨Mid K Cs bs a H 42, kin_step3 G m13, fun σ14 H14 m14 => ?_⟩
    refine ⟨Mid K Cs bs a H 45, kin_step3 G m14, fun σ15 H15 m15 => ?_⟩
    refine ⟨Mid K Cs bs a H 48, kin_step3 G m15, fun σ16 H16 m16 => ?_⟩
    refine ⟨Mid K Cs bs a H 51, kin_step3 G m16, fun σ17 H17 m17 => ?_⟩
    refine ⟨Mid K Cs bs a H 53, kin_step2 G m17, fun σ18 H18 m18 => ?_⟩
    obtain ⟨r, rfl, s, xs, hr, len, rows⟩ := m18
    refine ⟨_, rfl, r, rfl, ⟨xs, SqL.of hr⟩, fun L hL => ?_⟩
    obtain ⟨W, w0, held, turn, fin⟩ := kin_turn (K := K) (a := a) (Q := Q) hr len rows hL (fun H' s' e => k L H' (s.free hL) (s.trans s') e)
    exact lc_list (K := K) (a := r) (xs := xs) W w0 (fun i H _ z => held i H z) turn fin
theorem ok_kinH {f : Addr} {fd : FuncData} (F : Fun K "_law_kin" "_law_kin" sLKin f fd) (C : KinC mg Cs) : FnHp P w K mg base 1 f fd ["_law_e"] (spKinH K Cs) := by
  refine okHp F scKin (fun p vs H Q E h => ?_) (fun cdv A outer s H vs Q E p hot hr h => ?_)
  · obtain ⟨D, bs, rfl, _⟩ := h
    rfl
  · obtain ⟨D, bs, rfl, hp, ec, ks, k⟩ := h
    have G : KinG K (PzH p) Cs bs p.1 D H := ⟨fun H' s => hp.keep s, ec, ks⟩
    refine ⟨_, (C8.pss_cut (ps_set (i := 1) scKin.nd rfl (Or.inl rfl) (pe_lst (pa_cons (pe_row 0 (pe_tup (pa_cons (pe_callB (call_isV (Pz := PzH p) rfl (pz_hot (List.mem_singleton.mpr rfl))) (by rfl) C.gi (by decide +kernel) (pa_cons (pv 0) (pa_cons (pe_glob (v := .ref (Cs 0)) rfl (C.m 0 (by decide)) rfl) pa_nil))) (pa_cons pe_str pa_nil)))) (pa_cons (pe_row 1 (pe_tup (pa_cons (pe_callB (call_isV (Pz := PzH p) rfl (pz_hot (List.mem_singleton.mpr rfl))) (by rfl) C.gi (by decide +kernel) (pa_cons (pv 0) (pa_cons (pe_glob (v := .ref (Cs 1)) rfl (C.m 1 (by decide)) rfl) pa_nil))) (pa_cons pe_str pa_nil)))) (pa_cons (pe_row 2 (pe_tup (pa_cons (pe_callB (call_isV (Pz := PzH p) rfl (pz_hot (List.mem_singleton.mpr rfl))) (by rfl) C.gi (by decide +kernel) (pa_cons (pv 0) (pa_cons (pe_glob (v := .ref (Cs 2)) rfl (C.m 2 (by decide)) rfl) pa_nil))) (pa_cons pe_str pa_nil)))) pa_nil)))))
    (C8.pss_cut (ps_set (i := 1) scKin.nd rfl (Or.inl rfl) (pe_op op_cat (pv 1) (pe_lst (pa_cons (pe_row 3 (pe_tup (pa_cons (pe_callB (call_isV (Pz := PzH p) rfl (pz_hot (List.mem_singleton.mpr rfl))) (by rfl) C.gi (by decide +kernel) (pa_cons (pv 0) (pa_cons (pe_glob (v := .ref (Cs 3)) rfl (C.m 3 (by decide)) rfl) pa_nil))) (pa_cons pe_str pa_nil)))) (pa_cons (pe_row 4 (pe_tup (pa_cons (pe_callB (call_isV (Pz := PzH p) rfl (pz_hot (List.mem_singleton.mpr rfl))) (by rfl) C.gi (by decide +kernel) (pa_cons (pv 0) (pa_cons (pe_glob (v := .ref (Cs 4)) rfl (C.m 4 (by decide)) rfl) pa_nil))) (pa_cons pe_str pa_nil)))) (pa_cons (pe_row 5 (pe_tup (pa_cons (pe_callB (call_isV (Pz := PzH p) rfl (pz_hot (List.mem_singleton.mpr rfl))) (by rfl) C.gi (by decide +kernel) (pa_cons (pv 0) (pa_cons (pe_glob (v := .ref (Cs 5)) rfl (C.m 5 (by decide)) rfl) pa_nil))) (pa_cons pe_str pa_nil)))) pa_nil))))))
    (C8.pss_cut (ps_set (i := 1) scKin.nd rfl (Or.inl rfl) (pe_op op_cat (pv 1) (pe_lst (pa_cons (pe_row 6 (pe_tup (pa_cons (pe_callB (call_isV (Pz := PzH p) rfl (pz_hot (List.mem_singleton.mpr rfl))) (by rfl) C.gi (by decide +kernel) (pa_cons (pv 0) (pa_cons (pe_glob (v := .ref (Cs 6)) rfl (C.m 6 (by decide)) rfl) pa_nil))) (pa_cons pe_str pa_nil)))) (pa_cons (pe_row 7 (pe_tup (pa_cons (pe_callB (call_isV (Pz := PzH p) rfl (pz_hot (List.mem_singleton.mpr rfl))) (by rfl) C.gi (by decide +kernel) (pa_cons (pv 0) (pa_cons (pe_glob (v := .ref (Cs 7)) rfl (C.m 7 (by decide)) rfl) pa_nil))) (pa_cons pe_str pa_nil)))) (pa_cons (pe_row 8 (pe_tup (pa_cons (pe_callB (call_isV (Pz := PzH p) rfl (pz_hot (List.mem_singleton.mpr rfl))) (by rfl) C.gi (by decide +kernel) (pa_cons (pv 0) (pa_cons (pe_glob (v := .ref (Cs 8)) rfl (C.m 8 (by decide)) rfl) pa_nil))) (pa_cons pe_str pa_nil)))) pa_nil))))))
    (C8.pss_cut (ps_set (i := 1) scKin.nd rfl (Or.inl rfl) (pe_op op_cat (pv 1) (pe_lst (pa_cons (pe_row 9 (pe_tup (pa_cons (pe_callB (call_isV (Pz := PzH p) rfl (pz_hot (List.mem_singleton.mpr rfl))) (by rfl) C.gi (by decide +kernel) (pa_cons (pv 0) (pa_cons (pe_glob (v := .ref (Cs 9)) rfl (C.m 9 (by decide)) rfl) pa_nil))) (pa_cons pe_str pa_nil)))) (pa_cons (pe_row 10 (pe_tup (pa_cons (pe_callB (call_isV (Pz := PzH p) rfl (pz_hot (List.mem_singleton.mpr rfl))) (by rfl) C.gi (by decide +kernel) (pa_cons (pv 0) (pa_cons (pe_glob (v := .ref (Cs 10)) rfl (C.m 10 (by decide)) rfl) pa_nil))) (pa_cons pe_str pa_nil)))) (pa_cons (pe_row 11 (pe_tup (pa_cons (pe_callB (call_isV (Pz := PzH p) rfl (pz_hot (List.mem_singleton.mpr rfl))) (by rfl) C.gi (by decide +kernel) (pa_cons (pv 0) (pa_cons (pe_glob (v := .ref (Cs 11)) rfl (C.m 11 (by decide)) rfl) pa_nil))) (pa_cons pe_str pa_nil)))) pa_nil))))))
    (C8.pss_cut (ps_set (i := 1) scKin.nd rfl (Or.inl rfl) (pe_op op_cat (pv 1) (pe_lst (pa_cons (pe_row 12 (pe_tup (pa_cons (pe_callB (call_isV (Pz := PzH p) rfl (pz_hot (List.mem_singleton.mpr rfl))) (by rfl) C.gi (by decide +kernel) (pa_cons (pv 0) (pa_cons (pe_glob (v := .ref (Cs 12)) rfl (C.m 12 (by decide)) rfl) pa_nil))) (pa_cons pe_str pa_nil)))) (pa_cons (pe_row 13 (pe_tup (pa_cons (pe_callB (call_isV (Pz := PzH p) rfl (pz_hot (List.mem_singleton.mpr rfl))) (by rfl) C.gi (by decide +kernel) (pa_cons (pv 0) (pa_cons (pe_glob (v := .ref (Cs 13)) rfl (C.m 13 (by decide)) rfl) pa_nil))) (pa_cons pe_str pa_nil)))) (pa_cons (pe_row 14 (pe_tup (pa_cons (pe_callB (call_isV (Pz := PzH p) rfl (pz_hot (List.mem_singleton.mpr rfl))) (by rfl) C.gi (by decide +kernel) (pa_cons (pv 0) (pa_cons (pe_glob (v := .ref (Cs 14)) rfl (C.m 14 (by decide)) rfl) pa_nil))) (pa_cons pe_str pa_nil)))) pa_nil))))))
    (C8.pss_cut (ps_set (i := 1) scKin.nd rfl (Or.inl rfl) (pe_op op_cat (pv 1) (pe_lst (pa_cons (pe_row 15 (pe_tup (pa_cons (pe_callB (call_isV (Pz := PzH p) rfl (pz_hot (List.mem_singleton.mpr rfl))) (by rfl) C.gi (by decide +kernel) (pa_cons (pv 0) (pa_cons (pe_glob (v := .ref (Cs 15)) rfl (C.m 15 (by decide)) rfl) pa_nil))) (pa_cons pe_str pa_nil)))) (pa_cons (pe_row 16 (pe_tup (pa_cons (pe_callB (call_isV (Pz := PzH p) rfl (pz_hot (List.mem_singleton.mpr rfl))) (by rfl) C.gi (by decide +kernel) (pa_cons (pv 0) (pa_cons (pe_glob (v := .ref (Cs 16)) rfl (C.m 16 (by decide)) rfl) pa_nil))) (pa_cons pe_str pa_nil)))) (pa_cons (pe_row 17 (pe_tup (pa_cons (pe_callB (call_isV (Pz := PzH p) rfl (pz_hot (List.mem_singleton.mpr rfl))) (by rfl) C.gi (by decide +kernel) (pa_cons (pv 0) (pa_cons (pe_glob (v := .ref (Cs 17)) rfl (C.m 17 (by decide)) rfl) pa_nil))) (pa_cons pe_str pa_nil)))) pa_nil))))))
    (C8.pss_cut (ps_set (i := 1) scKin.nd rfl (Or.inl rfl) (pe_op op_cat (pv 1) (pe_lst (pa_cons (pe_row 18 (pe_tup (pa_cons (pe_callB (call_isV (Pz := PzH p) rfl (pz_hot (List.mem_singleton.mpr rfl))) (by rfl) C.gi (by decide +kernel) (pa_cons (pv 0) (pa_cons (pe_glob (v := .ref (Cs 18)) rfl (C.m 18 (by decide)) rfl) pa_nil))) (pa_cons pe_str pa_nil)))) (pa_cons (pe_row 19 (pe_tup (pa_cons (pe_callB (call_isV (Pz := PzH p) rfl (pz_hot (List.mem_singleton.mpr rfl))) (by rfl) C.gi (by decide +kernel) (pa_cons (pv 0) (pa_cons (pe_glob (v := .ref (Cs 19)) rfl (C.m 19 (by decide)) rfl) pa_nil))) (pa_cons pe_str pa_nil)))) (pa_cons (pe_row 20 (pe_tup (pa_cons (pe_callB (call_isV (Pz := PzH p) rfl (pz_hot (List.mem_singleton.mpr rfl))) (by rfl) C.gi (by decide +kernel) (pa_cons (pv 0) (pa_cons (pe_glob (v := .ref (Cs 20)) rfl (C.m 20 (by decide)) rfl) pa_nil))) (pa_cons pe_str pa_nil)))) pa_nil))))))
    (C8.pss_cut (ps_set (i := 1) scKin.nd rfl (Or.inl rfl) (pe_op op_cat (pv 1) (pe_lst (pa_cons (pe_row 21 (pe_tup (pa_cons (pe_callB (call_isV (Pz := PzH p) rfl (pz_hot (List.mem_singleton.mpr rfl))) (by rfl) C.gi (by decide +kernel) (pa_cons (pv 0) (pa_cons (pe_glob (v := .ref (Cs 21)) rfl (C.m 21 (by decide)) rfl) pa_nil))) (pa_cons pe_str pa_nil)))) (pa_cons (pe_row 22 (pe_tup (pa_cons (pe_callB (call_isV (Pz := PzH p) rfl (pz_hot (List.mem_singleton.mpr rfl))) (by rfl) C.gi (by decide +kernel) (pa_cons (pv 0) (pa_cons (pe_glob (v := .ref (Cs 22)) rfl (C.m 22 (by decide)) rfl) pa_nil))) (pa_cons pe_str pa_nil)))) (pa_cons (pe_row 23 (pe_tup (pa_cons (pe_callB (call_isV (Pz := PzH p) rfl (pz_hot (List.mem_singleton.mpr rfl))) (by rfl) C.gi (by decide +kernel) (pa_cons (pv 0) (pa_cons (pe_glob (v := .ref (Cs 23)) rfl (C.m 23 (by decide)) rfl) pa_nil))) (pa_cons pe_str pa_nil)))) pa_nil))))))
    (C8.pss_cut (ps_set (i := 1) scKin.nd rfl (Or.inl rfl) (pe_op op_cat (pv 1) (pe_lst (pa_cons (pe_row 24 (pe_tup (pa_cons (pe_callB (call_isV (Pz := PzH p) rfl (pz_hot (List.mem_singleton.mpr rfl))) (by rfl) C.gi (by decide +kernel) (pa_cons (pv 0) (pa_cons (pe_glob (v := .ref (Cs 24)) rfl (C.m 24 (by decide)) rfl) pa_nil))) (pa_cons pe_str pa_nil)))) (pa_cons (pe_row 25 (pe_tup (pa_cons (pe_callB (call_isV (Pz := PzH p) rfl (pz_hot (List.mem_singleton.mpr rfl))) (by rfl) C.gi (by decide +kernel) (pa_cons (pv 0) (pa_cons (pe_glob (v := .ref (Cs 25)) rfl (C.m 25 (by decide)) rfl) pa_nil))) (pa_cons pe_str pa_nil)))) (pa_cons (pe_row 26 (pe_tup (pa_cons (pe_callB (call_isV (Pz := PzH p) rfl (pz_hot (List.mem_singleton.mpr rfl))) (by rfl) C.gi (by decide +kernel) (pa_cons (pv 0) (pa_cons (pe_glob (v := .ref (Cs 26)) rfl (C.m 26 (by decide)) rfl) pa_nil))) (pa_cons pe_str pa_nil)))) pa_nil))))))
    (C8.pss_cut (ps_set (i := 1) scKin.nd rfl (Or.inl rfl) (pe_op op_cat (pv 1) (pe_lst (pa_cons (pe_row 27 (pe_tup (pa_cons (pe_callB (call_isV (Pz := PzH p) rfl (pz_hot (List.mem_singleton.mpr rfl))) (by rfl) C.gi (by decide +kernel) (pa_cons (pv 0) (pa_cons (pe_glob (v := .ref (Cs 27)) rfl (C.m 27 (by decide)) rfl) pa_nil))) (pa_cons pe_str pa_nil)))) (pa_cons (pe_row 28 (pe_tup (pa_cons (pe_callB (call_isV (Pz := PzH p) rfl (pz_hot (List.mem_singleton.mpr rfl))) (by rfl) C.gi (by decide +kernel) (pa_cons (pv 0) (pa_cons (pe_glob (v := .ref (Cs 28)) rfl (C.m 28 (by decide)) rfl) pa_nil))) (pa_cons pe_str pa_nil)))) (pa_cons (pe_row 29 (pe_tup (pa_cons (pe_callB (call_isV (Pz := PzH p) rfl (pz_hot (List.mem_singleton.mpr rfl))) (by rfl) C.gi (by decide +kernel) (pa_cons (pv 0) (pa_cons (pe_glob (v := .ref (Cs 29)) rfl (C.m 29 (by decide)) rfl) pa_nil))) (pa_cons pe_str pa_nil)))) pa_nil))))))
    (C8.pss_cut (ps_set (i := 1) scKin.nd rfl (Or.inl rfl) (pe_op op_cat (pv 1) (pe_lst (pa_cons (pe_row 30 (pe_tup (pa_cons (pe_callB (call_isV (Pz := PzH p) rfl (pz_hot (List.mem_singleton.mpr rfl))) (by rfl) C.gi (by decide +kernel) (pa_cons (pv 0) (pa_cons (pe_glob (v := .ref (Cs 30)) rfl (C.m 30 (by decide)) rfl) pa_nil))) (pa_cons pe_str pa_nil)))) (pa_cons (pe_row 31 (pe_tup (pa_cons (pe_callB (call_isV (Pz := PzH p) rfl (pz_hot (List.mem_singleton.mpr rfl))) (by rfl) C.gi (by decide +kernel) (pa_cons (pv 0) (pa_cons (pe_glob (v := .ref (Cs 31)) rfl (C.m 31 (by decide)) rfl) pa_nil))) (pa_cons pe_str pa_nil)))) (pa_cons (pe_row 32 (pe_tup (pa_cons (pe_callB (call_isV (Pz := PzH p) rfl (pz_hot (List.mem_singleton.mpr rfl))) (by rfl) C.gi (by decide +kernel) (pa_cons (pv 0) (pa_cons (pe_glob (v := .ref (Cs 32)) rfl (C.m 32 (by decide)) rfl) pa_nil))) (pa_cons pe_str pa_nil)))) pa_nil))))))
    (C8.pss_cut (ps_set (i := 1) scKin.nd rfl (Or.inl rfl) (pe_op op_cat (pv 1) (pe_lst (pa_cons (pe_row 33 (pe_tup (pa_cons (pe_callB (call_isV (Pz := PzH p) rfl (pz_hot (List.mem_singleton.mpr rfl))) (by rfl) C.gi (by decide +kernel) (pa_cons (pv 0) (pa_cons (pe_glob (v := .ref (Cs 33)) rfl (C.m 33 (by decide)) rfl) pa_nil))) (pa_cons pe_str pa_nil)))) (pa_cons (pe_row 34 (pe_tup (pa_cons (pe_callB (call_isV (Pz := PzH p) rfl (pz_hot (List.mem_singleton.mpr rfl))) (by rfl) C.gi (by decide +kernel) (pa_cons (pv 0) (pa_cons (pe_glob (v := .ref (Cs 34)) rfl (C.m 34 (by decide)) rfl) pa_nil))) (pa_cons pe_str pa_nil)))) (pa_cons (pe_row 35 (pe_tup (pa_cons (pe_callB (call_isV (Pz := PzH p) rfl (pz_hot (List.mem_singleton.mpr rfl))) (by rfl) C.gi (by decide +kernel) (pa_cons (pv 0) (pa_cons (pe_glob (v := .ref (Cs 35)) rfl (C.m 35 (by decide)) rfl) pa_nil))) (pa_cons pe_str pa_nil)))) pa_nil))))))
    (C8.pss_cut (ps_set (i := 1) scKin.nd rfl (Or.inl rfl) (pe_op op_cat (pv 1) (pe_lst (pa_cons (pe_row 36 (pe_tup (pa_cons (pe_callB (call_isV (Pz := PzH p) rfl (pz_hot (List.mem_singleton.mpr rfl))) (by rfl) C.gi (by decide +kernel) (pa_cons (pv 0) (pa_cons (pe_glob (v := .ref (Cs 36)) rfl (C.m 36 (by decide)) rfl) pa_nil))) (pa_cons pe_str pa_nil)))) (pa_cons (pe_row 37 (pe_tup (pa_cons (pe_callB (call_isV (Pz := PzH p) rfl (pz_hot (List.mem_singleton.mpr rfl))) (by rfl) C.gi (by decide +kernel) (pa_cons (pv 0) (pa_cons (pe_glob (v := .ref (Cs 37)) rfl (C.m 37 (by decide)) rfl) pa_nil))) (pa_cons pe_str pa_nil)))) (pa_cons (pe_row 38 (pe_tup (pa_cons (pe_callB (call_isV (Pz := PzH p) rfl (pz_hot (List.mem_singleton.mpr rfl))) (by rfl) C.gi (by decide +kernel) (pa_cons (pv 0) (pa_cons (pe_glob (v := .ref (Cs 38)) rfl (C.m 38 (by decide)) rfl) pa_nil))) (pa_cons pe_str pa_nil)))) pa_nil))))))
    (C8.pss_cut (ps_set (i := 1) scKin.nd rfl (Or.inl rfl) (pe_op op_cat (pv 1) (pe_lst (pa_cons (pe_row 39 (pe_tup (pa_cons (pe_callB (call_isV (Pz := PzH p) rfl (pz_hot (List.mem_singleton.mpr rfl))) (by rfl) C.gi (by decide +kernel) (pa_cons (pv 0) (pa_cons (pe_glob (v := .ref (Cs 39)) rfl (C.m 39 (by decide)) rfl) pa_nil))) (pa_cons pe_str pa_nil)))) (pa_cons (pe_row 40 (pe_tup (pa_cons (pe_callB (call_isV (Pz := PzH p) rfl (pz_hot (List.mem_singleton.mpr rfl))) (by rfl) C.gi (by decide +kernel) (pa_cons (pv 0) (pa_cons (pe_glob (v := .ref (Cs 40)) rfl (C.m 40 (by decide)) rfl) pa_nil))) (pa_cons pe_str pa_nil)))) (pa_cons (pe_row 41 (pe_tup (pa_cons (pe_callB (call_isV (Pz := PzH p) rfl (pz_hot (List.mem_singleton.mpr rfl))) (by rfl) C.gi (by decide +kernel) (pa_cons (pv 0) (pa_cons (pe_glob (v := .ref (Cs 41)) rfl (C.m 41 (by decide)) rfl) pa_nil))) (pa_cons pe_str pa_nil)))) pa_nil))))))
    (C8.pss_cut (ps_set (i := 1) scKin.nd rfl (Or.inl rfl) (pe_op op_cat (pv 1) (pe_lst (pa_cons (pe_row 42 (pe_tup (pa_cons (pe_callB (call_isV (Pz := PzH p) rfl (pz_hot (List.mem_singleton.mpr rfl))) (by rfl) C.gi (by decide +kernel) (pa_cons (pv 0) (pa_cons (pe_glob (v := .ref (Cs 42)) rfl (C.m 42 (by decide)) rfl) pa_nil))) (pa_cons pe_str pa_nil)))) (pa_cons (pe_row 43 (pe_tup (pa_cons (pe_callB (call_isV (Pz := PzH p) rfl (pz_hot (List.mem_singleton.mpr rfl))) (by rfl) C.gi (by decide +kernel) (pa_cons (pv 0) (pa_cons (pe_glob (v := .ref (Cs 43)) rfl (C.m 43 (by decide)) rfl) pa_nil))) (pa_cons pe_str pa_nil)))) (pa_cons (pe_row 44 (pe_tup (pa_cons (pe_callB (call_isV (Pz := PzH p) rfl (pz_hot (List.mem_singleton.mpr rfl))) (by rfl) C.gi (by decide +kernel) (pa_cons (pv 0) (pa_cons (pe_glob (v := .ref (Cs 44)) rfl (C.m 44 (by decide)) rfl) pa_nil))) (pa_cons pe_str pa_nil)))) pa_nil))))))
    (C8.pss_cut (ps_set (i := 1) scKin.nd rfl (Or.inl rfl) (pe_op op_cat (pv 1) (pe_lst (pa_cons (pe_row 45 (pe_tup (pa_cons (pe_callB (call_isV (Pz := PzH p) rfl (pz_hot (List.mem_singleton.mpr rfl))) (by rfl) C.gi (by decide +kernel) (pa_cons (pv 0) (pa_cons (pe_glob (v := .ref (Cs 45)) rfl (C.m 45 (by decide)) rfl) pa_nil))) (pa_cons pe_str pa_nil)))) (pa_cons (pe_row 46 (pe_tup (pa_cons (pe_callB (call_isV (Pz := PzH p) rfl (pz_hot (List.mem_singleton.mpr rfl))) (by rfl) C.gi (by decide +kernel) (pa_cons (pv 0) (pa_cons (pe_glob (v := .ref (Cs 46)) rfl (C.m 46 (by decide)) rfl) pa_nil))) (pa_cons pe_str pa_nil)))) (pa_cons (pe_row 47 (pe_tup (pa_cons (pe_callB (call_isV (Pz := PzH p) rfl (pz_hot (List.mem_singleton.mpr rfl))) (by rfl) C.gi (by decide +kernel) (pa_cons (pv 0) (pa_cons (pe_glob (v := .ref (Cs 47)) rfl (C.m 47 (by decide)) rfl) pa_nil))) (pa_cons pe_str pa_nil)))) pa_nil))))))
    (C8.pss_cut (ps_set (i := 1) scKin.nd rfl (Or.inl rfl) (pe_op op_cat (pv 1) (pe_lst (pa_cons (pe_row 48 (pe_tup (pa_cons (pe_callB (call_isV (Pz := PzH p) rfl (pz_hot (List.mem_singleton.mpr rfl))) (by rfl) C.gi (by decide +kernel) (pa_cons (pv 0) (pa_cons (pe_glob (v := .ref (Cs 48)) rfl (C.m 48 (by decide)) rfl) pa_nil))) (pa_cons pe_str pa_nil)))) (pa_cons (pe_row 49 (pe_tup (pa_cons (pe_callB (call_isV (Pz := PzH p) rfl (pz_hot (List.mem_singleton.mpr rfl))) (by rfl) C.gi (by decide +kernel) (pa_cons (pv 0) (pa_cons (pe_glob (v := .ref (Cs 49)) rfl (C.m 49 (by decide)) rfl) pa_nil))) (pa_cons pe_str pa_nil)))) (pa_cons (pe_row 50 (pe_tup (pa_cons (pe_callB (call_isV (Pz := PzH p) rfl (pz_hot (List.mem_singleton.mpr rfl))) (by rfl) C.gi (by decide +kernel) (pa_cons (pv 0) (pa_cons (pe_glob (v := .ref (Cs 50)) rfl (C.m 50 (by decide)) rfl) pa_nil))) (pa_cons pe_str pa_nil)))) pa_nil))))))
    (C8.pss_cut (ps_set (i := 1) scKin.nd rfl (Or.inl rfl) (pe_op op_cat (pv 1) (pe_lst (pa_cons (pe_row 51 (pe_tup (pa_cons (pe_callB (call_isV (Pz := PzH p) rfl (pz_hot (List.mem_singleton.mpr rfl))) (by rfl) C.gi (by decide +kernel) (pa_cons (pv 0) (pa_cons (pe_glob (v := .ref (Cs 51)) rfl (C.m 51 (by decide)) rfl) pa_nil))) (pa_cons pe_str pa_nil)))) (pa_cons (pe_row 52 (pe_tup (pa_cons (pe_callB (call_isV (Pz := PzH p) rfl (pz_hot (List.mem_singleton.mpr rfl))) (by rfl) C.gi (by decide +kernel) (pa_cons (pv 0) (pa_cons (pe_glob (v := .ref (Cs 52)) rfl (C.m 52 (by decide)) rfl) pa_nil))) (pa_cons pe_str pa_nil)))) pa_nil)))))
    (pss_one (ps_ret (pe_lcHot (own := [("_law_row", 2)]) (g := gName 2) (tt := tB (tOp (rIx K) (tVar 2) (tC (.int 0)))) (te := tOp (rIx K) (tVar 2) (tC (.int 1))) (K := K) rfl hot (List.mem_singleton.mpr rfl) scKin.nd (pv 1) (blkOk_by (own := [("_law_row", 2)]) (N := nKin) (sc := defScope sLKin) (by decide +kernel)) (fun _ _ _ _ _ => pg_name (i := 2) scKin.nd rfl (Or.inl rfl)) (fun _ _ _ _ _ => pts_one (pt_val (pe_ix (ix_seqK (K := K) rfl) (pv 2) pe_int (fun _ _ => rfl)))) (fun _ _ _ _ _ => (pe_ix (ix_seqK (K := K) rfl) (pv 2) pe_int (fun _ _ => rfl)))))))))))))))))))))))), ?_⟩
    refine ⟨Mid K Cs bs p.1 H 3, kin_first G (Same.refl _), fun σ1 H1 m1 => ?_⟩
    refine ⟨Mid K Cs bs p.1 H 6, kin_step3 G m1, fun σ2 H2 m2 => ?_⟩
    refine ⟨Mid K Cs bs p.1 H 9, kin_step3 G m2, fun σ3 H3 m3 => ?_⟩
    refine ⟨Mid K Cs bs p.1 H 12, kin_step3 G m3, fun σ4 H4 m4 => ?_⟩
    refine ⟨Mid K Cs bs p.1 H 15, kin_step3 G m4, fun σ5 H5 m5 => ?_⟩
    refine ⟨Mid K Cs bs p.1 H 18, kin_step3 G m5, fun σ6 H6 m6 => ?_⟩
    refine ⟨Mid K Cs bs p.1 H 21, kin_step3 G m6, fun σ7 H7 m7 => ?_⟩
    refine ⟨Mid K Cs bs p.1 H 24, kin_step3 G m7, fun σ8 H8 m8 => ?_⟩
    refine ⟨Mid K Cs bs p.1 H 27, kin_step3 G m8, fun σ9 H9 m9 => ?_⟩
    refine ⟨Mid K Cs bs p.1 H 30, kin_step3 G m9, fun σ10 H10 m10 => ?_⟩
    refine ⟨Mid K Cs bs p.1 H 33, kin_step3 G m10, fun σ11 H11 m11 => ?_⟩
    refine ⟨Mid K Cs bs p.1 H 36, kin_step3 G m11, fun σ12 H12 m12 => ?_⟩
    refine ⟨Mid K Cs bs p.1 H 39, kin_step3 G m12, fun σ13 H13 m13 => ?_⟩
    refine ⟨Mid K Cs bs p.1 H 42, kin_step3 G m13, fun σ14 H14 m14 => ?_⟩
    refine ⟨Mid K Cs bs p.1 H 45, kin_step3 G m14, fun σ15 H15 m15 => ?_⟩
    refine ⟨Mid K Cs bs p.1 H 48, kin_step3 G m15, fun σ16 H16 m16 => ?_⟩
    refine ⟨Mid K Cs bs p.1 H 51, kin_step3 G m16, fun σ17 H17 m17 => ?_⟩
    refine ⟨Mid K Cs bs p.1 H 53, kin_step2 G m17, fun σ18 H18 m18 => ?_⟩
    obtain ⟨r, rfl, s, xs, hr, len, rows⟩ := m18
    refine ⟨_, rfl, r, xs, rfl, SqL.of hr, fun L hL => ?_⟩
    exact kin_turn (K := K) (a := p.1) (Q := Q) hr len rows hL (fun H' s' e => k L H' (s.free hL) (s.trans s') e)
end
end Kx

set_option maxHeartbeats 8000000
namespace Kx
open PySem PySem.Spec PyProof.Rows L2
/-! rows: an error, its name, what it tells, what it should tell -/
/-- all classes of errors -/
structure AllE (P : Program) (w : World) (K : PySem.W.Frag) (mg : Str → Option Value) (base : Heap) (Cs : Nat → Addr) : Prop where
  own : ∀ j fs, j < 53 → flOf j = some fs → ∃ fI fd, ErV P w K mg base (nm j) fs (Cs j) fI fd
  bare : ∀ j, j < 53 → flOf j = none → ∃ B newId initId bmB, ErO K mg (nm j) (Cs j) B newId initId bmB
  xf : ∀ j, j < 53 → XfC K (Cs j)
def okW (y : V) : Prop := flatV y = true ∨ ∃ c, y = .ref c
/-- what is told is what should be told -/
def Alike (H : Hp) (xs ys : List V) : Prop := (xs = ys ∧ ∀ z ∈ xs, okW z) ∨ ∃ (t1 t2 : Addr) (n : Int), xs = [.ref t1] ∧ ys = [.ref t2] ∧ H t1 = some (.tup [.int n]) ∧ H t2 = some (.tup [.int n])
theorem Alike.keep {H H' : Hp} {xs ys : List V} (h : Alike H xs ys) (s : Same H H') : Alike H' xs ys := by
  rcases h with h | ⟨t1, t2, n, e1, e2, h1, h2⟩
  · exact .inl h
  · exact .inr ⟨t1, t2, n, e1, e2, s _ _ h1, s _ _ h2⟩
def MadeRow (Cs : Nat → Addr) (H : Hp) (x : V) (j : Nat) : Prop := ∃ (t e l1 l2 : Addr) (fs : List (Str × V)) (xs ys : List V), x = .ref t ∧ H t = some (.tup [.ref e, .str (nm j), .ref l1, .ref l2]) ∧ ErrAt H e (Cs j) fs ∧ H l1 = some (.lst xs) ∧ H l2 = some (.lst ys) ∧ Alike H xs ys
theorem MadeRow.keep {Cs : Nat → Addr} {H H' : Hp} {x : V} {j : Nat} (h : MadeRow Cs H x j) (s : Same H H') : MadeRow Cs H' x j := by
  obtain ⟨t, e, l1, l2, fs, xs, ys, h1, h2, h3, h4, h5, h6⟩ := h
  exact ⟨t, e, l1, l2, fs, xs, ys, h1, s _ _ h2, h3.keep s, s _ _ h4, s _ _ h5, h6.keep s⟩
/-- at r: the rows n0, n0 + 1, .., k of them -/
def MadeRows (Cs : Nat → Addr) (H : Hp) (r : Addr) (n0 k : Nat) : Prop := ∃ xs, H r = some (.lst xs) ∧ xs.length = k ∧ ∀ i x, xs[i]? = some x → MadeRow Cs H x (n0 + i)
theorem MadeRows.keep {Cs : Nat → Addr} {H H' : Hp} {r : Addr} {n0 k : Nat} (h : MadeRows Cs H r n0 k) (s : Same H H') : MadeRows Cs H' r n0 k := by
  obtain ⟨xs, h1, h2, h3⟩ := h
  exact ⟨xs, s _ _ h1, h2, fun i x e => (h3 i x e).keep s⟩
theorem rows_app {Cs : Nat → Addr} {H : Hp} {xs ys : List V} {n0 k m : Nat} (hx : xs.length = k) (rx : ∀ i x, xs[i]? = some x → MadeRow Cs H x (n0 + i)) (ry : ∀ i x, ys[i]? = some x → MadeRow Cs H x (n0 + k + i)) (_hy : ys.length = m) : ∀ i x, (xs ++ ys)[i]? = some x → MadeRow Cs H x (n0 + i) := fun i x e => by
  by_cases lt : i < xs.length
  · rw [List.getElem?_append_left lt] at e
    exact rx i x e
  · rw [List.getElem?_append_right (Nat.le_of_not_lt lt)] at e
    have q := ry _ _ e
    rw [show n0 + k + (i - xs.length) = n0 + i by omega] at q
    exact q
def GoodR (Cs : Nat → Addr) (σ : L2.St) (Hc : Hp) (j : Nat) (te : TE) : Prop := ∀ (H2 : Hp) (Q : VK), Same Hc H2 → (∀ t H', H2 t = none → Same H2 H' → MadeRow Cs H' (.ref t) j → Q (.ref t) H') → te σ H2 Q
def toTA : List TE → TA
  | [] => tNil
  | t :: l => tCons t (toTA l)
inductive GoodL (Cs : Nat → Addr) (σ : L2.St) (Hc : Hp) : Nat → List TE → Prop
  | nil {n : Nat} : GoodL Cs σ Hc n []
  | cons {n : Nat} {te : TE} {l : List TE} (h : GoodR Cs σ Hc n te) (r : GoodL Cs σ Hc (n + 1) l) : GoodL Cs σ Hc n (te :: l)
theorem toTA_ok {Cs : Nat → Addr} {σ : L2.St} {Hc : Hp} {n : Nat} {l : List TE} (g : GoodL Cs σ Hc n l) : ∀ (H2 : Hp) (Q : List V → Hp → Prop), Same Hc H2 → (∀ ys H', Same H2 H' → ys.length = l.length → (∀ i x, ys[i]? = some x → MadeRow Cs H' x (n + i)) → Q ys H') → toTA l σ H2 Q := by
  induction g with
  | nil => exact fun H2 Q s k => k [] H2 (Same.refl _) rfl fun i x e => nomatch e
  | @cons n te l h r ih =>
    intro H2 Q s k
    refine h H2 _ s fun t H3 ft s3 row => ?_
    refine ih H3 _ (s.trans s3) fun ys H4 s4 len rows => ?_
    refine k (.ref t :: ys) H4 (s3.trans s4) (by rw [List.length_cons, List.length_cons, len]) fun i x e => ?_
    cases i with
    | zero =>
      cases e
      exact row.keep s4
    | succ i =>
      have q := rows i x e
      rw [show n + 1 + i = n + (i + 1) by omega] at q
      exact q
section
variable {K : PySem.W.Frag} {Cs : Nat → Addr} {σ : L2.St} {Hc : Hp} {i j : Nat} {e : Addr} {fs : List (Str × V)}
/-- the tuple, its lists being there -/
theorem row_end {H2 H3 H4 : Hp} {l1 l2 : Addr} {xs ys : List V} {Q : VK} (E : ErrAt H2 e (Cs j) fs) (s3 : Same H2 H3) (h1 : H3 l1 = some (.lst xs)) (s4 : Same H3 H4) (h2 : H4 l2 = some (.lst ys)) (al : Alike H4 xs ys) (k : ∀ t H', H2 t = none → Same H2 H' → MadeRow Cs H' (.ref t) j → Q (.ref t) H') :
    [V.ref e, .str (nm j), .ref l1, .ref l2].length ≤ sizeLine ∧ ∀ p, H4 p = none → Q (.ref p) (upd H4 p (.tup [.ref e, .str (nm j), .ref l1, .ref l2])) := by
  refine ⟨(show 4 ≤ sizeLine by decide), fun p hp => ?_⟩
  have sp := sameUpd (o := .tup [.ref e, .str (nm j), .ref l1, .ref l2]) (Same.refl _) hp
  have s := s3.trans s4
  exact k p _ (s.free hp) (s.trans sp) ⟨p, e, l1, l2, fs, xs, ys, rfl, upd_same, E.keep (s.trans sp), sp _ _ (s4 _ _ h1), sp _ _ h2, al.keep sp⟩
theorem good0 {tE : TE} (mk : ∀ (H2 : Hp) (Q : VK), Same Hc H2 → (∀ (a : Addr) (H3 : Hp), H2 a = none → Same H2 H3 → ErrAt H3 a (Cs j) [] → Q (.ref a) H3) → tE σ H2 Q) : GoodR Cs σ Hc j (tTup (tCons tE (tCons (tC (.str (nm j))) (tCons (tLst tNil) (tCons (tLst tNil) tNil))))) := fun H2 Q s k => by
  refine mk H2 _ s fun a H3 fa s3 ea => ⟨Nat.zero_le _, fun l1 f1 => ⟨Nat.zero_le _, fun l2 f2 => ?_⟩⟩
  have q1 := sameUpd (o := .lst []) (Same.refl _) f1
  exact row_end ea q1 upd_same (sameUpd (Same.refl _) f2) upd_same (.inl ⟨rfl, fun z h => nomatch h⟩) fun t H' ft st m => k t H' (s3.free ft) (s3.trans st) m
theorem good1 {f1 : Str} {v1 : V} {td1 : TE} (h : σ[i]? = some (some (.ref e))) (E : ErrAt Hc e (Cs j) fs) (X : XfC K (Cs j)) (n1 : PySem.W.findIn K (.ref (Cs j)) f1 = some none) (l1 : fs.lookup f1 = some v1) (o1 : okW v1) (d1 : ∀ (H2 : Hp) (Q : VK), Q v1 H2 → td1 σ H2 Q) :
    GoodR Cs σ Hc j (tTup (tCons (tVar i) (tCons (tC (.str (nm j))) (tCons (tLst (tCons (tFE K f1 (tVar i)) tNil)) (tCons (tLst (tCons td1 tNil)) tNil))))) := fun H2 Q s k => by
  refine ⟨_, h, _, h, e, Cs j, fs, v1, rfl, X, n1, E.keep s, l1, (show 1 ≤ sizeLine by decide), fun p hp => ?_⟩
  refine d1 _ _ ⟨(show 1 ≤ sizeLine by decide), fun p2 hp2 => ?_⟩
  exact row_end (E.keep s) (sameUpd (Same.refl _) hp) upd_same (sameUpd (Same.refl _) hp2) upd_same (.inl ⟨rfl, fun z hz => by rw [List.mem_singleton.mp hz]; exact o1⟩) k
theorem good2 {f1 f2 : Str} {v1 v2 : V} {td1 td2 : TE} (h : σ[i]? = some (some (.ref e))) (E : ErrAt Hc e (Cs j) fs) (X : XfC K (Cs j)) (n1 : PySem.W.findIn K (.ref (Cs j)) f1 = some none) (n2 : PySem.W.findIn K (.ref (Cs j)) f2 = some none) (l1 : fs.lookup f1 = some v1) (l2 : fs.lookup f2 = some v2) (o1 : okW v1) (o2 : okW v2)
    (d1 : ∀ (H2 : Hp) (Q : VK), Q v1 H2 → td1 σ H2 Q) (d2 : ∀ (H2 : Hp) (Q : VK), Q v2 H2 → td2 σ H2 Q) :
    GoodR Cs σ Hc j (tTup (tCons (tVar i) (tCons (tC (.str (nm j))) (tCons (tLst (tCons (tFE K f1 (tVar i)) (tCons (tFE K f2 (tVar i)) tNil))) (tCons (tLst (tCons td1 (tCons td2 tNil))) tNil))))) := fun H2 Q s k => by
  refine ⟨_, h, _, h, e, Cs j, fs, v1, rfl, X, n1, E.keep s, l1, _, h, e, Cs j, fs, v2, rfl, X, n2, E.keep s, l2, (show 2 ≤ sizeLine by decide), fun p hp => ?_⟩
  refine d1 _ _ (d2 _ _ ⟨(show 2 ≤ sizeLine by decide), fun p2 hp2 => ?_⟩)
  refine row_end (E.keep s) (sameUpd (Same.refl _) hp) upd_same (sameUpd (Same.refl _) hp2) upd_same (.inl ⟨rfl, fun z hz => ?_⟩) k
  simp only [List.mem_cons, List.not_mem_nil, or_false] at hz
  rcases hz with rfl | rfl
  · exact o1
  · exact o2
theorem good3 {f1 f2 f3 : Str} {v1 v2 v3 : V} {td1 td2 td3 : TE} (h : σ[i]? = some (some (.ref e))) (E : ErrAt Hc e (Cs j) fs) (X : XfC K (Cs j)) (n1 : PySem.W.findIn K (.ref (Cs j)) f1 = some none) (n2 : PySem.W.findIn K (.ref (Cs j)) f2 = some none) (n3 : PySem.W.findIn K (.ref (Cs j)) f3 = some none)
    (l1 : fs.lookup f1 = some v1) (l2 : fs.lookup f2 = some v2) (l3 : fs.lookup f3 = some v3) (o1 : okW v1) (o2 : okW v2) (o3 : okW v3) (d1 : ∀ (H2 : Hp) (Q : VK), Q v1 H2 → td1 σ H2 Q) (d2 : ∀ (H2 : Hp) (Q : VK), Q v2 H2 → td2 σ H2 Q) (d3 : ∀ (H2 : Hp) (Q : VK), Q v3 H2 → td3 σ H2 Q) :
    GoodR Cs σ Hc j (tTup (tCons (tVar i) (tCons (tC (.str (nm j))) (tCons (tLst (tCons (tFE K f1 (tVar i)) (tCons (tFE K f2 (tVar i)) (tCons (tFE K f3 (tVar i)) tNil)))) (tCons (tLst (tCons td1 (tCons td2 (tCons td3 tNil)))) tNil))))) := fun H2 Q s k => by
  refine ⟨_, h, _, h, e, Cs j, fs, v1, rfl, X, n1, E.keep s, l1, _, h, e, Cs j, fs, v2, rfl, X, n2, E.keep s, l2, _, h, e, Cs j, fs, v3, rfl, X, n3, E.keep s, l3, (show 3 ≤ sizeLine by decide), fun p hp => ?_⟩
  refine d1 _ _ (d2 _ _ (d3 _ _ ⟨(show 3 ≤ sizeLine by decide), fun p2 hp2 => ?_⟩))
  refine row_end (E.keep s) (sameUpd (Same.refl _) hp) upd_same (sameUpd (Same.refl _) hp2) upd_same (.inl ⟨rfl, fun z hz => ?_⟩) k
  simp only [List.mem_cons, List.not_mem_nil, or_false] at hz
  rcases hz with rfl | rfl | rfl
  · exact o1
  · exact o2
  · exact o3
/-- the one whose field is a tuple -/
theorem goodT {f1 : Str} {t0 : Addr} {n : Int} {td1 : TE} (h : σ[i]? = some (some (.ref e))) (E : ErrAt Hc e (Cs j) fs) (X : XfC K (Cs j)) (n1 : PySem.W.findIn K (.ref (Cs j)) f1 = some none) (l1 : fs.lookup f1 = some (.ref t0)) (h0 : Hc t0 = some (.tup [.int n])) (d1 : ∀ (H2 : Hp) (Q : VK), Q (.int n) H2 → td1 σ H2 Q) :
    GoodR Cs σ Hc j (tTup (tCons (tVar i) (tCons (tC (.str (nm j))) (tCons (tLst (tCons (tFE K f1 (tVar i)) tNil)) (tCons (tLst (tCons (tTup (tCons td1 tNil)) tNil)) tNil))))) := fun H2 Q s k => by
  refine ⟨_, h, _, h, e, Cs j, fs, _, rfl, X, n1, E.keep s, l1, (show 1 ≤ sizeLine by decide), fun p hp => ?_⟩
  refine d1 _ _ ⟨(show 1 ≤ sizeLine by decide), fun p2 hp2 => ⟨(show 1 ≤ sizeLine by decide), fun p3 hp3 => ?_⟩⟩
  have s1 := sameUpd (o := .lst [.ref t0]) (Same.refl _) hp
  have s2 := sameUpd (o := .tup [.int n]) (Same.refl _) hp2
  have s3 := sameUpd (o := .lst [.ref p2]) (Same.refl _) hp3
  exact row_end (E.keep s) s1 upd_same (s2.trans s3) upd_same (.inr ⟨t0, p2, n, rfl, rfl, s3 _ _ (s2 _ _ (s1 _ _ (s _ _ h0))), s3 _ _ upd_same⟩) k
/-- behind a statement: k rows in the slot fi -/
def MidM (Cs : Nat → Addr) (Hc : Hp) (σ0 : L2.St) (fi n0 k : Nat) : L2.St → Hp → Prop := fun σ H2 => ∃ r, σ = σ0.set fi (some (.ref r)) ∧ Same Hc H2 ∧ MadeRows Cs H2 r n0 k
theorem st_first {σ0 : L2.St} {fi n0 : Nat} {tes : List TE} {En : Ends} (g : GoodL Cs σ0 Hc n0 tes) (hl : tes.length ≤ 900) : (tAsg (tLst (toTA tes)) (gName fi)) { En with nx := MidM Cs Hc σ0 fi n0 tes.length } σ0 Hc := by
  refine toTA_ok g Hc _ (Same.refl _) fun ys H' s len rows => ⟨Nat.le_trans (by rw [len]; exact hl) (by decide), fun p hp => ?_⟩
  have sp := sameUpd (o := .lst ys) (Same.refl _) hp
  exact ⟨p, rfl, s.trans sp, ys, upd_same, len, fun i x e => (rows i x e).keep sp⟩
/-- found + [..] -/
theorem cat_rows {σ : L2.St} {H2 : Hp} {fi n0 k : Nat} {tes : List TE} {r : Addr} {Q : VK} (hs : σ[fi]? = some (some (.ref r))) (s : Same Hc H2) (m : MadeRows Cs H2 r n0 k) (g : GoodL Cs σ Hc (n0 + k) tes) (hl : k + tes.length ≤ 900)
    (q : ∀ p H', H2 p = none → Same H2 H' → MadeRows Cs H' p n0 (k + tes.length) → Q (.ref p) H') : (tOp rCat (tVar fi) (tLst (toTA tes))) σ H2 Q := by
  obtain ⟨xs, hr, hx, rx⟩ := m
  refine ⟨_, hs, toTA_ok g H2 _ s fun ys H3 s3 len rows => ⟨Nat.le_trans (by rw [len]; omega) (by decide : 900 ≤ sizeLine), fun l hl2 => ?_⟩⟩
  have sl := sameUpd (o := .lst ys) (Same.refl _) hl2
  refine ⟨r, l, xs, ys, rfl, rfl, sl _ _ (s3 _ _ hr), upd_same, Nat.le_trans (by rw [len, hx]; exact hl) (by decide : 900 ≤ sizeLine), fun p hp => ?_⟩
  have sp := sameUpd (o := .lst (xs ++ ys)) (Same.refl _) hp
  refine q p _ (s3.free (sl.free hp)) (s3.trans (sl.trans sp)) ⟨xs ++ ys, upd_same, by rw [List.length_append, hx, len], ?_⟩
  exact rows_app hx (fun i x e => (rx i x e).keep (s3.trans (sl.trans sp))) (fun i x e => (rows i x e).keep (sl.trans sp)) len
theorem st_more {σ0 σ : L2.St} {H2 : Hp} {fi n0 k : Nat} {tes : List TE} {En : Ends} (m : MidM Cs Hc σ0 fi n0 k σ H2) (fl : fi < σ0.length) (g : ∀ r, GoodL Cs (σ0.set fi (some (.ref r))) Hc (n0 + k) tes) (hl : k + tes.length ≤ 900) :
    (tAsg (tOp rCat (tVar fi) (tLst (toTA tes))) (gName fi)) { En with nx := MidM Cs Hc σ0 fi n0 (k + tes.length) } σ H2 := by
  obtain ⟨r, rfl, s, rows⟩ := m
  refine cat_rows (r := r) (by rw [List.getElem?_set_self fl]) s rows (g r) hl fun p H' _ s' rows' => ⟨p, ?_, s.trans s', rows'⟩
  exact List.set_set ..
theorem lk1 {f : Str} {x : V} : (flds [f] [x]).lookup f = some x := by simp [flds, List.lookup]
theorem lk2a {f g : Str} {x y : V} (h : f ≠ g) : (flds [f, g] [x, y]).lookup f = some x := by
  show List.lookup f [(g, y), (f, x)] = _
  rw [lookup_put, if_neg h, lookup_put, if_pos rfl]
theorem lk2b {f g : Str} {x y : V} : (flds [f, g] [x, y]).lookup g = some y := by
  show List.lookup g [(g, y), (f, x)] = _
  rw [lookup_put, if_pos rfl]
theorem lk3a {f g k : Str} {x y z : V} (h : f ≠ g) (h2 : f ≠ k) : (flds [f, g, k] [x, y, z]).lookup f = some x := by
  show List.lookup f [(k, z), (g, y), (f, x)] = _
  rw [lookup_put, if_neg h2, lookup_put, if_neg h, lookup_put, if_pos rfl]
theorem lk3b {f g k : Str} {x y z : V} (h : g ≠ k) : (flds [f, g, k] [x, y, z]).lookup g = some y := by
  show List.lookup g [(k, z), (g, y), (f, x)] = _
  rw [lookup_put, if_neg h, lookup_put, if_pos rfl]
theorem lk3c {f g k : Str} {x y z : V} : (flds [f, g, k] [x, y, z]).lookup k = some z := by
  show List.lookup k [(k, z), (g, y), (f, x)] = _
  rw [lookup_put, if_pos rfl]
/-- what such a def promises -/
def spMade (Cs : Nat → Addr) (n0 k : Nat) : Sp := fun vs H Q _ => ∃ (n : Int) (z : Str) (x : V), vs = [.int n, .str z, x] ∧ okW x ∧ ∀ (r : Addr) (H' : Hp), H r = none → Same H H' → MadeRows Cs H' r n0 k → Q (.ref r) H'
end
end Kx

set_option maxHeartbeats 16000000
namespace Kx
open PySem PySem.Spec PyProof.Rows L2
section
variable {P : Program} {w : World} {K : PySem.W.Frag} {mg : Str → Option Value} {base : Heap} {Cs : Nat → Addr}
abbrev nFirst : List Str := ["_law_at", "_law_word_here", "_law_odd_here", "_law_a", "_law_b", "_law_c", "_law_d", "_law_e", "_law_f", "_law_g", "_law_h", "_law_i", "_law_j", "_law_k", "_law_m", "_law_n", "_law_p", "_law_q", "_law_r", "_law_s", "_law_t", "_law_u", "_law_found"]
theorem scFirst : FnScope nFirst ["_law_at", "_law_word_here", "_law_odd_here"] (defScope sLFirst) := ⟨rfl, rfl, rfl, by decide +kernel, rfl, by decide +kernel, by decide +kernel⟩
theorem ok_first {f : Addr} {fd : FuncData} (F : Fun K "_law_first" "_law_first" sLFirst f fd) (m : mg "_law_first" = some (.ref f)) (A : AllE P w K mg base Cs) : HasF P w K mg base "_law_first" 3 ["_law_at", "_law_word_here", "_law_odd_here"] (spMade Cs 0 20) := by
  refine ⟨f, fd, ?_, m, F.kp, F.binds fun _ _ _ _ _ _ us hl => match us, hl with | [_, _, _], _ => rfl⟩
  refine F.ok scFirst (fun vs H Q E h => ?_) (fun cdv Ar outer s H vs Q E hr h => ?_)
  · obtain ⟨n, z, x, rfl, _⟩ := h
    rfl
  · obtain ⟨n, z, x, rfl, ox, k⟩ := h
    obtain ⟨_, _, E0⟩ := A.own 0 _ (by decide) rfl
    obtain ⟨_, _, E1⟩ := A.own 1 _ (by decide) rfl
    obtain ⟨_, _, E2⟩ := A.own 2 _ (by decide) rfl
    obtain ⟨_, _, E3⟩ := A.own 3 _ (by decide) rfl
    obtain ⟨_, _, _, _, E4⟩ := A.bare 4 (by decide) rfl
    obtain ⟨_, _, E5⟩ := A.own 5 _ (by decide) rfl
    obtain ⟨_, _, E6⟩ := A.own 6 _ (by decide) rfl
    obtain ⟨_, _, E7⟩ := A.own 7 _ (by decide) rfl
    obtain ⟨_, _, E8⟩ := A.own 8 _ (by decide) rfl
    obtain ⟨_, _, E9⟩ := A.own 9 _ (by decide) rfl
    obtain ⟨_, _, E10⟩ := A.own 10 _ (by decide) rfl
    obtain ⟨_, _, E11⟩ := A.own 11 _ (by decide) rfl
    obtain ⟨_, _, E12⟩ := A.own 12 _ (by decide) rfl
    obtain ⟨_, _, E13⟩ := A.own 13 _ (by decide) rfl
    obtain ⟨_, _, E14⟩ := A.own 14 _ (by decide) rfl
    obtain ⟨_, _, E15⟩ := A.own 15 _ (by decide) rfl
    obtain ⟨_, _, E16⟩ := A.own 16 _ (by decide) rfl
    obtain ⟨_, _, E17⟩ := A.own 17 _ (by decide) rfl
    obtain ⟨_, _, E18⟩ := A.own 18 _ (by decide) rfl
    obtain ⟨_, _, E19⟩ := A.own 19 _ (by decide) rfl
    have hr2 : Room 2 _ := hr
    refine ⟨_, (C8.pss_cut (ps_asg (pe_tup (pa_cons (pe_err E0 hr2 (by rfl) (pa_cons (pv 0) (pa_cons (pv 1) pa_nil))) (pa_cons (pe_err E1 hr2 (by rfl) (pa_cons (pv 2) pa_nil)) (pa_cons (pe_err E2 hr2 (by rfl) (pa_cons (pv 0) (pa_cons (pe_un un_neg (pv 0)) (pa_cons (pv 1) pa_nil)))) (pa_cons (pe_err E3 hr2 (by rfl) (pa_cons (pv 2) pa_nil)) pa_nil))))) (pg_tup (n := 4) rfl (pgs_cons (pg_name (i := 3) scFirst.nd rfl (.inl rfl)) (pgs_cons (pg_name (i := 4) scFirst.nd rfl (.inl rfl)) (pgs_cons (pg_name (i := 5) scFirst.nd rfl (.inl rfl)) (pgs_cons (pg_name (i := 6) scFirst.nd rfl (.inl rfl)) pgs_nil))))))
    (C8.pss_cut (ps_asg (pe_tup (pa_cons (pe_err E5 hr2 (by rfl) (pa_cons (pv 1) pa_nil)) (pa_cons (pe_err E6 hr2 (by rfl) (pa_cons (pv 2) pa_nil)) (pa_cons (pe_err E7 hr2 (by rfl) (pa_cons (pv 0) (pa_cons (pv 1) pa_nil))) (pa_cons (pe_err E8 hr2 (by rfl) (pa_cons (pv 1) pa_nil)) pa_nil))))) (pg_tup (n := 4) rfl (pgs_cons (pg_name (i := 7) scFirst.nd rfl (.inl rfl)) (pgs_cons (pg_name (i := 8) scFirst.nd rfl (.inl rfl)) (pgs_cons (pg_name (i := 9) scFirst.nd rfl (.inl rfl)) (pgs_cons (pg_name (i := 10) scFirst.nd rfl (.inl rfl)) pgs_nil))))))
    (C8.pss_cut (ps_asg (pe_tup (pa_cons (pe_err E9 hr2 (by rfl) (pa_cons (pv 1) pa_nil)) (pa_cons (pe_err E10 hr2 (by rfl) (pa_cons (pv 1) pa_nil)) (pa_cons (pe_err E11 hr2 (by rfl) (pa_cons (pv 1) pa_nil)) (pa_cons (pe_err E12 hr2 (by rfl) (pa_cons (pv 0) (pa_cons (pv 1) pa_nil))) pa_nil))))) (pg_tup (n := 4) rfl (pgs_cons (pg_name (i := 11) scFirst.nd rfl (.inl rfl)) (pgs_cons (pg_name (i := 12) scFirst.nd rfl (.inl rfl)) (pgs_cons (pg_name (i := 13) scFirst.nd rfl (.inl rfl)) (pgs_cons (pg_name (i := 14) scFirst.nd rfl (.inl rfl)) pgs_nil))))))
    (C8.pss_cut (ps_asg (pe_tup (pa_cons (pe_err E13 hr2 (by rfl) (pa_cons (pv 0) (pa_cons (pv 1) pa_nil))) (pa_cons (pe_err E14 hr2 (by rfl) (pa_cons (pv 1) pa_nil)) (pa_cons (pe_err E15 hr2 (by rfl) (pa_cons (pv 0) pa_nil)) (pa_cons (pe_err E16 hr2 (by rfl) (pa_cons (pv 2) pa_nil)) pa_nil))))) (pg_tup (n := 4) rfl (pgs_cons (pg_name (i := 15) scFirst.nd rfl (.inl rfl)) (pgs_cons (pg_name (i := 16) scFirst.nd rfl (.inl rfl)) (pgs_cons (pg_name (i := 17) scFirst.nd rfl (.inl rfl)) (pgs_cons (pg_name (i := 18) scFirst.nd rfl (.inl rfl)) pgs_nil))))))
    (C8.pss_cut (ps_par3 (i := 19) (j := 20) (l := 21) (by rfl) scFirst.nd rfl rfl rfl (by decide) (by decide) (by decide) rfl rfl rfl (pa_cons (pe_err E17 hr2 (by rfl) (pa_cons (pv 2) pa_nil)) (pa_cons (pe_err E18 hr2 (by rfl) (pa_cons (pv 2) pa_nil)) (pa_cons (pe_err E19 hr2 (by rfl) (pa_cons (pv 1) pa_nil)) pa_nil))) rfl)
    (C8.pss_cut (ps_set (i := 22) scFirst.nd rfl (Or.inl rfl) (pe_lst (pa_cons (pe_tup (pa_cons (pv 3) (pa_cons pe_str (pa_cons (pe_lst (pa_cons (pe_fldE (K := K) rfl (pv 3)) (pa_cons (pe_fldE (K := K) rfl (pv 3)) pa_nil))) (pa_cons (pe_lst (pa_cons (pv 0) (pa_cons (pv 1) pa_nil))) pa_nil))))) (pa_cons (pe_tup (pa_cons (pv 4) (pa_cons pe_str (pa_cons (pe_lst (pa_cons (pe_fldE (K := K) rfl (pv 4)) pa_nil)) (pa_cons (pe_lst (pa_cons (pv 2) pa_nil)) pa_nil))))) (pa_cons (pe_tup (pa_cons (pv 5) (pa_cons pe_str (pa_cons (pe_lst (pa_cons (pe_fldE (K := K) rfl (pv 5)) (pa_cons (pe_fldE (K := K) rfl (pv 5)) (pa_cons (pe_fldE (K := K) rfl (pv 5)) pa_nil)))) (pa_cons (pe_lst (pa_cons (pv 0) (pa_cons (pe_un un_neg (pv 0)) (pa_cons (pv 1) pa_nil)))) pa_nil))))) pa_nil)))))
    (C8.pss_cut (ps_set (i := 22) scFirst.nd rfl (Or.inl rfl) (pe_op op_cat (pv 22) (pe_lst (pa_cons (pe_tup (pa_cons (pv 6) (pa_cons pe_str (pa_cons (pe_lst (pa_cons (pe_fldE (K := K) rfl (pv 6)) pa_nil)) (pa_cons (pe_lst (pa_cons (pv 2) pa_nil)) pa_nil))))) (pa_cons (pe_tup (pa_cons (pe_err0 E4 (by rfl)) (pa_cons pe_str (pa_cons (pe_lst pa_nil) (pa_cons (pe_lst pa_nil) pa_nil))))) (pa_cons (pe_tup (pa_cons (pv 7) (pa_cons pe_str (pa_cons (pe_lst (pa_cons (pe_fldE (K := K) rfl (pv 7)) pa_nil)) (pa_cons (pe_lst (pa_cons (pv 1) pa_nil)) pa_nil))))) pa_nil))))))
    (C8.pss_cut (ps_set (i := 22) scFirst.nd rfl (Or.inl rfl) (pe_op op_cat (pv 22) (pe_lst (pa_cons (pe_tup (pa_cons (pv 8) (pa_cons pe_str (pa_cons (pe_lst (pa_cons (pe_fldE (K := K) rfl (pv 8)) pa_nil)) (pa_cons (pe_lst (pa_cons (pv 2) pa_nil)) pa_nil))))) (pa_cons (pe_tup (pa_cons (pv 9) (pa_cons pe_str (pa_cons (pe_lst (pa_cons (pe_fldE (K := K) rfl (pv 9)) (pa_cons (pe_fldE (K := K) rfl (pv 9)) pa_nil))) (pa_cons (pe_lst (pa_cons (pv 0) (pa_cons (pv 1) pa_nil))) pa_nil))))) (pa_cons (pe_tup (pa_cons (pv 10) (pa_cons pe_str (pa_cons (pe_lst (pa_cons (pe_fldE (K := K) rfl (pv 10)) pa_nil)) (pa_cons (pe_lst (pa_cons (pv 1) pa_nil)) pa_nil))))) pa_nil))))))
    (C8.pss_cut (ps_set (i := 22) scFirst.nd rfl (Or.inl rfl) (pe_op op_cat (pv 22) (pe_lst (pa_cons (pe_tup (pa_cons (pv 11) (pa_cons pe_str (pa_cons (pe_lst (pa_cons (pe_fldE (K := K) rfl (pv 11)) pa_nil)) (pa_cons (pe_lst (pa_cons (pv 1) pa_nil)) pa_nil))))) (pa_cons (pe_tup (pa_cons (pv 12) (pa_cons pe_str (pa_cons (pe_lst (pa_cons (pe_fldE (K := K) rfl (pv 12)) pa_nil)) (pa_cons (pe_lst (pa_cons (pv 1) pa_nil)) pa_nil))))) (pa_cons (pe_tup (pa_cons (pv 13) (pa_cons pe_str (pa_cons (pe_lst (pa_cons (pe_fldE (K := K) rfl (pv 13)) pa_nil)) (pa_cons (pe_lst (pa_cons (pv 1) pa_nil)) pa_nil))))) pa_nil))))))
    (C8.pss_cut (ps_set (i := 22) scFirst.nd rfl (Or.inl rfl) (pe_op op_cat (pv 22) (pe_lst (pa_cons (pe_tup (pa_cons (pv 14) (pa_cons pe_str (pa_cons (pe_lst (pa_cons (pe_fldE (K := K) rfl (pv 14)) (pa_cons (pe_fldE (K := K) rfl (pv 14)) pa_nil))) (pa_cons (pe_lst (pa_cons (pv 0) (pa_cons (pv 1) pa_nil))) pa_nil))))) (pa_cons (pe_tup (pa_cons (pv 15) (pa_cons pe_str (pa_cons (pe_lst (pa_cons (pe_fldE (K := K) rfl (pv 15)) (pa_cons (pe_fldE (K := K) rfl (pv 15)) pa_nil))) (pa_cons (pe_lst (pa_cons (pv 0) (pa_cons (pv 1) pa_nil))) pa_nil))))) pa_nil)))))
    (C8.pss_cut (ps_set (i := 22) scFirst.nd rfl (Or.inl rfl) (pe_op op_cat (pv 22) (pe_lst (pa_cons (pe_tup (pa_cons (pv 16) (pa_cons pe_str (pa_cons (pe_lst (pa_cons (pe_fldE (K := K) rfl (pv 16)) pa_nil)) (pa_cons (pe_lst (pa_cons (pv 1) pa_nil)) pa_nil))))) (pa_cons (pe_tup (pa_cons (pv 17) (pa_cons pe_str (pa_cons (pe_lst (pa_cons (pe_fldE (K := K) rfl (pv 17)) pa_nil)) (pa_cons (pe_lst (pa_cons (pv 0) pa_nil)) pa_nil))))) (pa_cons (pe_tup (pa_cons (pv 18) (pa_cons pe_str (pa_cons (pe_lst (pa_cons (pe_fldE (K := K) rfl (pv 18)) pa_nil)) (pa_cons (pe_lst (pa_cons (pv 2) pa_nil)) pa_nil))))) pa_nil))))))
    (pss_one (ps_ret (pe_op op_cat (pv 22) (pe_lst (pa_cons (pe_tup (pa_cons (pv 19) (pa_cons pe_str (pa_cons (pe_lst (pa_cons (pe_fldE (K := K) rfl (pv 19)) pa_nil)) (pa_cons (pe_lst (pa_cons (pv 2) pa_nil)) pa_nil))))) (pa_cons (pe_tup (pa_cons (pv 20) (pa_cons pe_str (pa_cons (pe_lst (pa_cons (pe_fldE (K := K) rfl (pv 20)) pa_nil)) (pa_cons (pe_lst (pa_cons (pv 2) pa_nil)) pa_nil))))) (pa_cons (pe_tup (pa_cons (pv 21) (pa_cons pe_str (pa_cons (pe_lst (pa_cons (pe_fldE (K := K) rfl (pv 21)) pa_nil)) (pa_cons (pe_lst (pa_cons (pv 1) pa_nil)) pa_nil))))) pa_nil)))))))))))))))))), ?_⟩
    refine ⟨fun σ Hx => ∃ a0 a1 a2 a3 : Addr, σ = [some (.int n), some (.str z), some x, some (.ref a0), some (.ref a1), some (.ref a2), some (.ref a3), none, none, none, none, none, none, none, none, none, none, none, none, none, none, none, none] ∧ Same H Hx ∧ ErrAt Hx a0 (Cs 0) (flds ["index", "what"] [.int n, .str z]) ∧ ErrAt Hx a1 (Cs 1) (flds ["name"] [x]) ∧ ErrAt Hx a2 (Cs 2) (flds ["year", "index", "what"] [.int n, .int (-n), .str z]) ∧ ErrAt Hx a3 (Cs 3) (flds ["years"] [x]), ?_, ?_⟩
    · refine ⟨_, rfl, _, rfl, rfl, (by show 2 ≤ 900; decide), fun a0 H0 f0 s0 e0 => ?_⟩
      refine ⟨_, rfl, rfl, (by show 1 ≤ 900; decide), fun a1 H1 f1 s1 e1 => ?_⟩
      refine ⟨_, rfl, _, rfl, _, rfl, _, rfl, rfl, (by show 3 ≤ 900; decide), fun a2 H2 f2 s2 e2 => ?_⟩
      refine ⟨_, rfl, rfl, (by show 1 ≤ 900; decide), fun a3 H3 f3 s3 e3 => ?_⟩
      refine ⟨(by show 4 ≤ sizeLine; decide), fun p hp => ⟨p, _, rfl, SqT.of upd_same, rfl, _, _, rfl, _, _, rfl, _, _, rfl, _, _, rfl, rfl, ?_⟩⟩
      have sp := sameUpd (o := .tup [.ref a0, .ref a1, .ref a2, .ref a3]) (Same.refl _) hp
      exact ⟨a0, a1, a2, a3, rfl, (s0.trans (s1.trans (s2.trans (s3.trans sp)))), e0.keep (s1.trans (s2.trans (s3.trans sp))), e1.keep (s2.trans (s3.trans sp)), e2.keep (s3.trans sp), e3.keep sp⟩
    rintro _ X1 ⟨a0, a1, a2, a3, rfl, t1, e0, e1, e2, e3⟩
    have sAll := t1
    refine ⟨fun σ Hx => ∃ a5 a6 a7 a8 : Addr, σ = [some (.int n), some (.str z), some x, some (.ref a0), some (.ref a1), some (.ref a2), some (.ref a3), some (.ref a5), some (.ref a6), some (.ref a7), some (.ref a8), none, none, none, none, none, none, none, none, none, none, none, none] ∧ Same X1 Hx ∧ ErrAt Hx a5 (Cs 5) (flds ["what"] [.str z]) ∧ ErrAt Hx a6 (Cs 6) (flds ["person"] [x]) ∧ ErrAt Hx a7 (Cs 7) (flds ["row", "what"] [.int n, .str z]) ∧ ErrAt Hx a8 (Cs 8) (flds ["what"] [.str z]), ?_, ?_⟩
    · refine ⟨_, rfl, rfl, (by show 1 ≤ 900; decide), fun a5 H5 f5 s5 e5 => ?_⟩
      refine ⟨_, rfl, rfl, (by show 1 ≤ 900; decide), fun a6 H6 f6 s6 e6 => ?_⟩
      refine ⟨_, rfl, _, rfl, rfl, (by show 2 ≤ 900; decide), fun a7 H7 f7 s7 e7 => ?_⟩
      refine ⟨_, rfl, rfl, (by show 1 ≤ 900; decide), fun a8 H8 f8 s8 e8 => ?_⟩
      refine ⟨(by show 4 ≤ sizeLine; decide), fun p hp => ⟨p, _, rfl, SqT.of upd_same, rfl, _, _, rfl, _, _, rfl, _, _, rfl, _, _, rfl, rfl, ?_⟩⟩
      have sp := sameUpd (o := .tup [.ref a5, .ref a6, .ref a7, .ref a8]) (Same.refl _) hp
      exact ⟨a5, a6, a7, a8, rfl, (s5.trans (s6.trans (s7.trans (s8.trans sp)))), e5.keep (s6.trans (s7.trans (s8.trans sp))), e6.keep (s7.trans (s8.trans sp)), e7.keep (s8.trans sp), e8.keep sp⟩
    rintro _ X2 ⟨a5, a6, a7, a8, rfl, t2, e5, e6, e7, e8⟩
    replace e0 := e0.keep t2
    replace e1 := e1.keep t2
    replace e2 := e2.keep t2
    replace e3 := e3.keep t2
    replace sAll := sAll.trans t2
    refine ⟨fun σ Hx => ∃ a9 a10 a11 a12 : Addr, σ = [some (.int n), some (.str z), some x, some (.ref a0), some (.ref a1), some (.ref a2), some (.ref a3), some (.ref a5), some (.ref a6), some (.ref a7), some (.ref a8), some (.ref a9), some (.ref a10), some (.ref a11), some (.ref a12), none, none, none, none, none, none, none, none] ∧ Same X2 Hx ∧ ErrAt Hx a9 (Cs 9) (flds ["what"] [.str z]) ∧ ErrAt Hx a10 (Cs 10) (flds ["what"] [.str z]) ∧ ErrAt Hx a11 (Cs 11) (flds ["what"] [.str z]) ∧ ErrAt Hx a12 (Cs 12) (flds ["index", "what"] [.int n, .str z]), ?_, ?_⟩
    · refine ⟨_, rfl, rfl, (by show 1 ≤ 900; decide), fun a9 H9 f9 s9 e9 => ?_⟩
      refine ⟨_, rfl, rfl, (by show 1 ≤ 900; decide), fun a10 H10 f10 s10 e10 => ?_⟩
      refine ⟨_, rfl, rfl, (by show 1 ≤ 900; decide), fun a11 H11 f11 s11 e11 => ?_⟩
      refine ⟨_, rfl, _, rfl, rfl, (by show 2 ≤ 900; decide), fun a12 H12 f12 s12 e12 => ?_⟩
      refine ⟨(by show 4 ≤ sizeLine; decide), fun p hp => ⟨p, _, rfl, SqT.of upd_same, rfl, _, _, rfl, _, _, rfl, _, _, rfl, _, _, rfl, rfl, ?_⟩⟩
      have sp := sameUpd (o := .tup [.ref a9, .ref a10, .ref a11, .ref a12]) (Same.refl _) hp
      exact ⟨a9, a10, a11, a12, rfl, (s9.trans (s10.trans (s11.trans (s12.trans sp)))), e9.keep (s10.trans (s11.trans (s12.trans sp))), e10.keep (s11.trans (s12.trans sp)), e11.keep (s12.trans sp), e12.keep sp⟩
    rintro _ X3 ⟨a9, a10, a11, a12, rfl, t3, e9, e10, e11, e12⟩
    replace e0 := e0.keep t3
    replace e1 := e1.keep t3
    replace e2 := e2.keep t3
    replace e3 := e3.keep t3
    replace e5 := e5.keep t3
    replace e6 := e6.keep t3
    replace e7 := e7.keep t3
    replace e8 := e8.keep t3
    replace sAll := sAll.trans t3
    refine ⟨fun σ Hx => ∃ a13 a14 a15 a16 : Addr, σ = [some (.int n), some (.str z), some x, some (.ref a0), some (.ref a1), some (.ref a2), some (.ref a3), some (.ref a5), some (.ref a6), some (.ref a7), some (.ref a8), some (.ref a9), some (.ref a10), some (.ref a11), some (.ref a12), some (.ref a13), some (.ref a14), some (.ref a15), some (.ref a16), none, none, none, none] ∧ Same X3 Hx ∧ ErrAt Hx a13 (Cs 13) (flds ["index", "what"] [.int n, .str z]) ∧ ErrAt Hx a14 (Cs 14) (flds ["what"] [.str z]) ∧ ErrAt Hx a15 (Cs 15) (flds ["count"] [.int n]) ∧ ErrAt Hx a16 (Cs 16) (flds ["seat"] [x]), ?_, ?_⟩
    · refine ⟨_, rfl, _, rfl, rfl, (by show 2 ≤ 900; decide), fun a13 H13 f13 s13 e13 => ?_⟩
      refine ⟨_, rfl, rfl, (by show 1 ≤ 900; decide), fun a14 H14 f14 s14 e14 => ?_⟩
      refine ⟨_, rfl, rfl, (by show 1 ≤ 900; decide), fun a15 H15 f15 s15 e15 => ?_⟩
      refine ⟨_, rfl, rfl, (by show 1 ≤ 900; decide), fun a16 H16 f16 s16 e16 => ?_⟩
      refine ⟨(by show 4 ≤ sizeLine; decide), fun p hp => ⟨p, _, rfl, SqT.of upd_same, rfl, _, _, rfl, _, _, rfl, _, _, rfl, _, _, rfl, rfl, ?_⟩⟩
      have sp := sameUpd (o := .tup [.ref a13, .ref a14, .ref a15, .ref a16]) (Same.refl _) hp
      exact ⟨a13, a14, a15, a16, rfl, (s13.trans (s14.trans (s15.trans (s16.trans sp)))), e13.keep (s14.trans (s15.trans (s16.trans sp))), e14.keep (s15.trans (s16.trans sp)), e15.keep (s16.trans sp), e16.keep sp⟩
    rintro _ X4 ⟨a13, a14, a15, a16, rfl, t4, e13, e14, e15, e16⟩
    replace e0 := e0.keep t4
    replace e1 := e1.keep t4
    replace e2 := e2.keep t4
    replace e3 := e3.keep t4
    replace e5 := e5.keep t4
    replace e6 := e6.keep t4
    replace e7 := e7.keep t4
    replace e8 := e8.keep t4
    replace e9 := e9.keep t4
    replace e10 := e10.keep t4
    replace e11 := e11.keep t4
    replace e12 := e12.keep t4
    replace sAll := sAll.trans t4
    refine ⟨fun σ Hx => ∃ a17 a18 a19 : Addr, σ = [some (.int n), some (.str z), some x, some (.ref a0), some (.ref a1), some (.ref a2), some (.ref a3), some (.ref a5), some (.ref a6), some (.ref a7), some (.ref a8), some (.ref a9), some (.ref a10), some (.ref a11), some (.ref a12), some (.ref a13), some (.ref a14), some (.ref a15), some (.ref a16), some (.ref a17), some (.ref a18), some (.ref a19), none] ∧ Same X4 Hx ∧ ErrAt Hx a17 (Cs 17) (flds ["clock"] [x]) ∧ ErrAt Hx a18 (Cs 18) (flds ["index"] [x]) ∧ ErrAt Hx a19 (Cs 19) (flds ["what"] [.str z]), ?_, ?_⟩
    · refine ⟨_, rfl, rfl, (by show 1 ≤ 900; decide), fun a17 H17 f17 s17 e17 => ?_⟩
      refine ⟨_, rfl, rfl, (by show 1 ≤ 900; decide), fun a18 H18 f18 s18 e18 => ?_⟩
      refine ⟨_, rfl, rfl, (by show 1 ≤ 900; decide), fun a19 H19 f19 s19 e19 => ?_⟩
      refine ⟨_, _, _, rfl, ?_⟩
      exact ⟨a17, a18, a19, rfl, (s17.trans (s18.trans s19)), e17.keep (s18.trans s19), e18.keep s19, e19.keep (Same.refl _)⟩
    rintro _ X5 ⟨a17, a18, a19, rfl, t5, e17, e18, e19⟩
    replace e0 := e0.keep t5
    replace e1 := e1.keep t5
    replace e2 := e2.keep t5
    replace e3 := e3.keep t5
    replace e5 := e5.keep t5
    replace e6 := e6.keep t5
    replace e7 := e7.keep t5
    replace e8 := e8.keep t5
    replace e9 := e9.keep t5
    replace e10 := e10.keep t5
    replace e11 := e11.keep t5
    replace e12 := e12.keep t5
    replace e13 := e13.keep t5
    replace e14 := e14.keep t5
    replace e15 := e15.keep t5
    replace e16 := e16.keep t5
    replace sAll := sAll.trans t5
    refine ⟨MidM Cs _ [some (.int n), some (.str z), some x, some (.ref a0), some (.ref a1), some (.ref a2), some (.ref a3), some (.ref a5), some (.ref a6), some (.ref a7), some (.ref a8), some (.ref a9), some (.ref a10), some (.ref a11), some (.ref a12), some (.ref a13), some (.ref a14), some (.ref a15), some (.ref a16), some (.ref a17), some (.ref a18), some (.ref a19), none] 22 0 3, st_first (tes := [_, _, _]) (.cons (good2 (K := K) rfl e0 (A.xf 0 (by decide)) (E0.nf _ (.head _)) (E0.nf _ (.tail _ (.head _))) (lk2a (by decide +kernel)) lk2b (.inl rfl) (.inl rfl) (fun _ _ q => ⟨_, rfl, q⟩) (fun _ _ q => ⟨_, rfl, q⟩)) (.cons (good1 (K := K) rfl e1 (A.xf 1 (by decide)) (E1.nf _ (.head _)) lk1 ox (fun _ _ q => ⟨_, rfl, q⟩)) (.cons (good3 (K := K) rfl e2 (A.xf 2 (by decide)) (E2.nf _ (.head _)) (E2.nf _ (.tail _ (.head _))) (E2.nf _ (.tail _ (.tail _ (.head _)))) (lk3a (by decide +kernel) (by decide +kernel)) (lk3b (by decide +kernel)) lk3c (.inl rfl) (.inl rfl) (.inl rfl) (fun _ _ q => ⟨_, rfl, q⟩) (fun _ _ q => ⟨_, rfl, _, rfl, q⟩) (fun _ _ q => ⟨_, rfl, q⟩)) .nil))) (by show 3 ≤ 900; decide), fun σ1 M1 m1 => ?_⟩
    refine ⟨MidM Cs _ [some (.int n), some (.str z), some x, some (.ref a0), some (.ref a1), some (.ref a2), some (.ref a3), some (.ref a5), some (.ref a6), some (.ref a7), some (.ref a8), some (.ref a9), some (.ref a10), some (.ref a11), some (.ref a12), some (.ref a13), some (.ref a14), some (.ref a15), some (.ref a16), some (.ref a17), some (.ref a18), some (.ref a19), none] 22 0 6, st_more (tes := [_, _, _]) m1 (by show 22 < 23; decide) (fun r => (.cons (good1 (K := K) rfl e3 (A.xf 3 (by decide)) (E3.nf _ (.head _)) lk1 ox (fun _ _ q => ⟨_, rfl, q⟩)) (.cons (good0 fun H2 Q s k => k) (.cons (good1 (K := K) rfl e5 (A.xf 5 (by decide)) (E5.nf _ (.head _)) lk1 (.inl rfl) (fun _ _ q => ⟨_, rfl, q⟩)) .nil)))) (by show 6 ≤ 900; decide), fun σ2 M2 m2 => ?_⟩
    refine ⟨MidM Cs _ [some (.int n), some (.str z), some x, some (.ref a0), some (.ref a1), some (.ref a2), some (.ref a3), some (.ref a5), some (.ref a6), some (.ref a7), some (.ref a8), some (.ref a9), some (.ref a10), some (.ref a11), some (.ref a12), some (.ref a13), some (.ref a14), some (.ref a15), some (.ref a16), some (.ref a17), some (.ref a18), some (.ref a19), none] 22 0 9, st_more (tes := [_, _, _]) m2 (by show 22 < 23; decide) (fun r => (.cons (good1 (K := K) rfl e6 (A.xf 6 (by decide)) (E6.nf _ (.head _)) lk1 ox (fun _ _ q => ⟨_, rfl, q⟩)) (.cons (good2 (K := K) rfl e7 (A.xf 7 (by decide)) (E7.nf _ (.head _)) (E7.nf _ (.tail _ (.head _))) (lk2a (by decide +kernel)) lk2b (.inl rfl) (.inl rfl) (fun _ _ q => ⟨_, rfl, q⟩) (fun _ _ q => ⟨_, rfl, q⟩)) (.cons (good1 (K := K) rfl e8 (A.xf 8 (by decide)) (E8.nf _ (.head _)) lk1 (.inl rfl) (fun _ _ q => ⟨_, rfl, q⟩)) .nil)))) (by show 9 ≤ 900; decide), fun σ3 M3 m3 => ?_⟩
    refine ⟨MidM Cs _ [some (.int n), some (.str z), some x, some (.ref a0), some (.ref a1), some (.ref a2), some (.ref a3), some (.ref a5), some (.ref a6), some (.ref a7), some (.ref a8), some (.ref a9), some (.ref a10), some (.ref a11), some (.ref a12), some (.ref a13), some (.ref a14), some (.ref a15), some (.ref a16), some (.ref a17), some (.ref a18), some (.ref a19), none] 22 0 12, st_more (tes := [_, _, _]) m3 (by show 22 < 23; decide) (fun r => (.cons (good1 (K := K) rfl e9 (A.xf 9 (by decide)) (E9.nf _ (.head _)) lk1 (.inl rfl) (fun _ _ q => ⟨_, rfl, q⟩)) (.cons (good1 (K := K) rfl e10 (A.xf 10 (by decide)) (E10.nf _ (.head _)) lk1 (.inl rfl) (fun _ _ q => ⟨_, rfl, q⟩)) (.cons (good1 (K := K) rfl e11 (A.xf 11 (by decide)) (E11.nf _ (.head _)) lk1 (.inl rfl) (fun _ _ q => ⟨_, rfl, q⟩)) .nil)))) (by show 12 ≤ 900; decide), fun σ4 M4 m4 => ?_⟩
    refine ⟨MidM Cs _ [some (.int n), some (.str z), some x, some (.ref a0), some (.ref a1), some (.ref a2), some (.ref a3), some (.ref a5), some (.ref a6), some (.ref a7), some (.ref a8), some (.ref a9), some (.ref a10), some (.ref a11), some (.ref a12), some (.ref a13), some (.ref a14), some (.ref a15), some (.ref a16), some (.ref a17), some (.ref a18), some (.ref a19), none] 22 0 14, st_more (tes := [_, _]) m4 (by show 22 < 23; decide) (fun r => (.cons (good2 (K := K) rfl e12 (A.xf 12 (by decide)) (E12.nf _ (.head _)) (E12.nf _ (.tail _ (.head _))) (lk2a (by decide +kernel)) lk2b (.inl rfl) (.inl rfl) (fun _ _ q => ⟨_, rfl, q⟩) (fun _ _ q => ⟨_, rfl, q⟩)) (.cons (good2 (K := K) rfl e13 (A.xf 13 (by decide)) (E13.nf _ (.head _)) (E13.nf _ (.tail _ (.head _))) (lk2a (by decide +kernel)) lk2b (.inl rfl) (.inl rfl) (fun _ _ q => ⟨_, rfl, q⟩) (fun _ _ q => ⟨_, rfl, q⟩)) .nil))) (by show 14 ≤ 900; decide), fun σ5 M5 m5 => ?_⟩
    refine ⟨MidM Cs _ [some (.int n), some (.str z), some x, some (.ref a0), some (.ref a1), some (.ref a2), some (.ref a3), some (.ref a5), some (.ref a6), some (.ref a7), some (.ref a8), some (.ref a9), some (.ref a10), some (.ref a11), some (.ref a12), some (.ref a13), some (.ref a14), some (.ref a15), some (.ref a16), some (.ref a17), some (.ref a18), some (.ref a19), none] 22 0 17, st_more (tes := [_, _, _]) m5 (by show 22 < 23; decide) (fun r => (.cons (good1 (K := K) rfl e14 (A.xf 14 (by decide)) (E14.nf _ (.head _)) lk1 (.inl rfl) (fun _ _ q => ⟨_, rfl, q⟩)) (.cons (good1 (K := K) rfl e15 (A.xf 15 (by decide)) (E15.nf _ (.head _)) lk1 (.inl rfl) (fun _ _ q => ⟨_, rfl, q⟩)) (.cons (good1 (K := K) rfl e16 (A.xf 16 (by decide)) (E16.nf _ (.head _)) lk1 ox (fun _ _ q => ⟨_, rfl, q⟩)) .nil)))) (by show 17 ≤ 900; decide), fun σ6 M6 m6 => ?_⟩
    obtain ⟨r, rfl, s, rows⟩ := m6
    exact cat_rows (tes := [_, _, _]) (r := r) rfl s rows (.cons (good1 (K := K) rfl e17 (A.xf 17 (by decide)) (E17.nf _ (.head _)) lk1 ox (fun _ _ q => ⟨_, rfl, q⟩)) (.cons (good1 (K := K) rfl e18 (A.xf 18 (by decide)) (E18.nf _ (.head _)) lk1 ox (fun _ _ q => ⟨_, rfl, q⟩)) (.cons (good1 (K := K) rfl e19 (A.xf 19 (by decide)) (E19.nf _ (.head _)) lk1 (.inl rfl) (fun _ _ q => ⟨_, rfl, q⟩)) .nil))) (by show 20 ≤ 900; decide) fun p H' fp s' rows' => k p H' ((sAll.trans s).free fp) ((sAll.trans s).trans s') rows'
abbrev nSecond : List Str := ["_law_at", "_law_word_here", "_law_odd_here", "_law_a", "_law_b", "_law_c", "_law_d", "_law_e", "_law_f", "_law_g", "_law_h", "_law_i", "_law_j", "_law_k", "_law_m", "_law_n", "_law_p", "_law_found"]
theorem scSecond : FnScope nSecond ["_law_at", "_law_word_here", "_law_odd_here"] (defScope sLSecond) := ⟨rfl, rfl, rfl, by decide +kernel, rfl, by decide +kernel, by decide +kernel⟩
theorem ok_second {f : Addr} {fd : FuncData} (F : Fun K "_law_second" "_law_second" sLSecond f fd) (m : mg "_law_second" = some (.ref f)) (A : AllE P w K mg base Cs) : HasF P w K mg base "_law_second" 3 ["_law_at", "_law_word_here", "_law_odd_here"] (spMade Cs 20 18) := by
  refine ⟨f, fd, ?_, m, F.kp, F.binds fun _ _ _ _ _ _ us hl => match us, hl with | [_, _, _], _ => rfl⟩
  refine F.ok scSecond (fun vs H Q E h => ?_) (fun cdv Ar outer s H vs Q E hr h => ?_)
  · obtain ⟨n, z, x, rfl, _⟩ := h
    rfl
  · obtain ⟨n, z, x, rfl, ox, k⟩ := h
    obtain ⟨_, _, E20⟩ := A.own 20 _ (by decide) rfl
    obtain ⟨_, _, _, _, E21⟩ := A.bare 21 (by decide) rfl
    obtain ⟨_, _, E22⟩ := A.own 22 _ (by decide) rfl
    obtain ⟨_, _, E23⟩ := A.own 23 _ (by decide) rfl
    obtain ⟨_, _, E24⟩ := A.own 24 _ (by decide) rfl
    obtain ⟨_, _, E25⟩ := A.own 25 _ (by decide) rfl
    obtain ⟨_, _, _, _, E26⟩ := A.bare 26 (by decide) rfl
    obtain ⟨_, _, E27⟩ := A.own 27 _ (by decide) rfl
    obtain ⟨_, _, E28⟩ := A.own 28 _ (by decide) rfl
    obtain ⟨_, _, E29⟩ := A.own 29 _ (by decide) rfl
    obtain ⟨_, _, E30⟩ := A.own 30 _ (by decide) rfl
    obtain ⟨_, _, E31⟩ := A.own 31 _ (by decide) rfl
    obtain ⟨_, _, E32⟩ := A.own 32 _ (by decide) rfl
    obtain ⟨_, _, E33⟩ := A.own 33 _ (by decide) rfl
    obtain ⟨_, _, E34⟩ := A.own 34 _ (by decide) rfl
    obtain ⟨_, _, E35⟩ := A.own 35 _ (by decide) rfl
    obtain ⟨_, _, _, _, E36⟩ := A.bare 36 (by decide) rfl
    obtain ⟨_, _, _, _, E37⟩ := A.bare 37 (by decide) rfl
    have hr2 : Room 2 _ := hr
    refine ⟨_, (C8.pss_cut (ps_asg (pe_tup (pa_cons (pe_err E20 hr2 (by rfl) (pa_cons (pv 0) pa_nil)) (pa_cons (pe_err E22 hr2 (by rfl) (pa_cons (pv 1) pa_nil)) (pa_cons (pe_err E23 hr2 (by rfl) (pa_cons (pv 2) pa_nil)) (pa_cons (pe_err E24 hr2 (by rfl) (pa_cons (pv 1) pa_nil)) pa_nil))))) (pg_tup (n := 4) rfl (pgs_cons (pg_name (i := 3) scSecond.nd rfl (.inl rfl)) (pgs_cons (pg_name (i := 4) scSecond.nd rfl (.inl rfl)) (pgs_cons (pg_name (i := 5) scSecond.nd rfl (.inl rfl)) (pgs_cons (pg_name (i := 6) scSecond.nd rfl (.inl rfl)) pgs_nil))))))
    (C8.pss_cut (ps_asg (pe_tup (pa_cons (pe_err E25 hr2 (by rfl) (pa_cons (pv 0) (pa_cons (pv 1) pa_nil))) (pa_cons (pe_err E27 hr2 (by rfl) (pa_cons (pv 1) pa_nil)) (pa_cons (pe_err E28 hr2 (by rfl) (pa_cons (pv 1) pa_nil)) (pa_cons (pe_err E29 hr2 (by rfl) (pa_cons (pv 2) pa_nil)) pa_nil))))) (pg_tup (n := 4) rfl (pgs_cons (pg_name (i := 7) scSecond.nd rfl (.inl rfl)) (pgs_cons (pg_name (i := 8) scSecond.nd rfl (.inl rfl)) (pgs_cons (pg_name (i := 9) scSecond.nd rfl (.inl rfl)) (pgs_cons (pg_name (i := 10) scSecond.nd rfl (.inl rfl)) pgs_nil))))))
    (C8.pss_cut (ps_asg (pe_tup (pa_cons (pe_err E30 hr2 (by rfl) (pa_cons (pv 1) pa_nil)) (pa_cons (pe_err E31 hr2 (by rfl) (pa_cons (pv 0) (pa_cons (pv 1) pa_nil))) (pa_cons (pe_err E32 hr2 (by rfl) (pa_cons (pv 1) pa_nil)) (pa_cons (pe_err E33 hr2 (by rfl) (pa_cons (pv 0) (pa_cons (pv 1) pa_nil))) pa_nil))))) (pg_tup (n := 4) rfl (pgs_cons (pg_name (i := 11) scSecond.nd rfl (.inl rfl)) (pgs_cons (pg_name (i := 12) scSecond.nd rfl (.inl rfl)) (pgs_cons (pg_name (i := 13) scSecond.nd rfl (.inl rfl)) (pgs_cons (pg_name (i := 14) scSecond.nd rfl (.inl rfl)) pgs_nil))))))
    (C8.pss_cut (ps_par (i := 15) (j := 16) (by rfl) scSecond.nd rfl rfl (by decide) rfl rfl (pa_cons (pe_err E34 hr2 (by rfl) (pa_cons (pv 0) (pa_cons (pv 1) pa_nil))) (pa_cons (pe_err E35 hr2 (by rfl) (pa_cons (pv 2) pa_nil)) pa_nil)) rfl)
    (C8.pss_cut (ps_set (i := 17) scSecond.nd rfl (Or.inl rfl) (pe_lst (pa_cons (pe_tup (pa_cons (pv 3) (pa_cons pe_str (pa_cons (pe_lst (pa_cons (pe_fldE (K := K) rfl (pv 3)) pa_nil)) (pa_cons (pe_lst (pa_cons (pv 0) pa_nil)) pa_nil))))) (pa_cons (pe_tup (pa_cons (pe_err0 E21 (by rfl)) (pa_cons pe_str (pa_cons (pe_lst pa_nil) (pa_cons (pe_lst pa_nil) pa_nil))))) (pa_cons (pe_tup (pa_cons (pv 4) (pa_cons pe_str (pa_cons (pe_lst (pa_cons (pe_fldE (K := K) rfl (pv 4)) pa_nil)) (pa_cons (pe_lst (pa_cons (pv 1) pa_nil)) pa_nil))))) (pa_cons (pe_tup (pa_cons (pv 5) (pa_cons pe_str (pa_cons (pe_lst (pa_cons (pe_fldE (K := K) rfl (pv 5)) pa_nil)) (pa_cons (pe_lst (pa_cons (pv 2) pa_nil)) pa_nil))))) pa_nil))))))
    (C8.pss_cut (ps_set (i := 17) scSecond.nd rfl (Or.inl rfl) (pe_op op_cat (pv 17) (pe_lst (pa_cons (pe_tup (pa_cons (pv 6) (pa_cons pe_str (pa_cons (pe_lst (pa_cons (pe_fldE (K := K) rfl (pv 6)) pa_nil)) (pa_cons (pe_lst (pa_cons (pv 1) pa_nil)) pa_nil))))) (pa_cons (pe_tup (pa_cons (pv 7) (pa_cons pe_str (pa_cons (pe_lst (pa_cons (pe_fldE (K := K) rfl (pv 7)) (pa_cons (pe_fldE (K := K) rfl (pv 7)) pa_nil))) (pa_cons (pe_lst (pa_cons (pv 0) (pa_cons (pv 1) pa_nil))) pa_nil))))) (pa_cons (pe_tup (pa_cons (pe_err0 E26 (by rfl)) (pa_cons pe_str (pa_cons (pe_lst pa_nil) (pa_cons (pe_lst pa_nil) pa_nil))))) pa_nil))))))
    (C8.pss_cut (ps_set (i := 17) scSecond.nd rfl (Or.inl rfl) (pe_op op_cat (pv 17) (pe_lst (pa_cons (pe_tup (pa_cons (pv 8) (pa_cons pe_str (pa_cons (pe_lst (pa_cons (pe_fldE (K := K) rfl (pv 8)) pa_nil)) (pa_cons (pe_lst (pa_cons (pv 1) pa_nil)) pa_nil))))) (pa_cons (pe_tup (pa_cons (pv 9) (pa_cons pe_str (pa_cons (pe_lst (pa_cons (pe_fldE (K := K) rfl (pv 9)) pa_nil)) (pa_cons (pe_lst (pa_cons (pv 1) pa_nil)) pa_nil))))) (pa_cons (pe_tup (pa_cons (pv 10) (pa_cons pe_str (pa_cons (pe_lst (pa_cons (pe_fldE (K := K) rfl (pv 10)) pa_nil)) (pa_cons (pe_lst (pa_cons (pv 2) pa_nil)) pa_nil))))) pa_nil))))))
    (C8.pss_cut (ps_set (i := 17) scSecond.nd rfl (Or.inl rfl) (pe_op op_cat (pv 17) (pe_lst (pa_cons (pe_tup (pa_cons (pv 11) (pa_cons pe_str (pa_cons (pe_lst (pa_cons (pe_fldE (K := K) rfl (pv 11)) pa_nil)) (pa_cons (pe_lst (pa_cons (pv 1) pa_nil)) pa_nil))))) (pa_cons (pe_tup (pa_cons (pv 12) (pa_cons pe_str (pa_cons (pe_lst (pa_cons (pe_fldE (K := K) rfl (pv 12)) (pa_cons (pe_fldE (K := K) rfl (pv 12)) pa_nil))) (pa_cons (pe_lst (pa_cons (pv 0) (pa_cons (pv 1) pa_nil))) pa_nil))))) (pa_cons (pe_tup (pa_cons (pv 13) (pa_cons pe_str (pa_cons (pe_lst (pa_cons (pe_fldE (K := K) rfl (pv 13)) pa_nil)) (pa_cons (pe_lst (pa_cons (pv 1) pa_nil)) pa_nil))))) pa_nil))))))
    (C8.pss_cut (ps_set (i := 17) scSecond.nd rfl (Or.inl rfl) (pe_op op_cat (pv 17) (pe_lst (pa_cons (pe_tup (pa_cons (pv 14) (pa_cons pe_str (pa_cons (pe_lst (pa_cons (pe_fldE (K := K) rfl (pv 14)) (pa_cons (pe_fldE (K := K) rfl (pv 14)) pa_nil))) (pa_cons (pe_lst (pa_cons (pv 0) (pa_cons (pv 1) pa_nil))) pa_nil))))) (pa_cons (pe_tup (pa_cons (pv 15) (pa_cons pe_str (pa_cons (pe_lst (pa_cons (pe_fldE (K := K) rfl (pv 15)) (pa_cons (pe_fldE (K := K) rfl (pv 15)) pa_nil))) (pa_cons (pe_lst (pa_cons (pv 0) (pa_cons (pv 1) pa_nil))) pa_nil))))) (pa_cons (pe_tup (pa_cons (pv 16) (pa_cons pe_str (pa_cons (pe_lst (pa_cons (pe_fldE (K := K) rfl (pv 16)) pa_nil)) (pa_cons (pe_lst (pa_cons (pv 2) pa_nil)) pa_nil))))) pa_nil))))))
    (pss_one (ps_ret (pe_op op_cat (pv 17) (pe_lst (pa_cons (pe_tup (pa_cons (pe_err0 E36 (by rfl)) (pa_cons pe_str (pa_cons (pe_lst pa_nil) (pa_cons (pe_lst pa_nil) pa_nil))))) (pa_cons (pe_tup (pa_cons (pe_err0 E37 (by rfl)) (pa_cons pe_str (pa_cons (pe_lst pa_nil) (pa_cons (pe_lst pa_nil) pa_nil))))) pa_nil))))))))))))))), ?_⟩
    refine ⟨fun σ Hx => ∃ a20 a22 a23 a24 : Addr, σ = [some (.int n), some (.str z), some x, some (.ref a20), some (.ref a22), some (.ref a23), some (.ref a24), none, none, none, none, none, none, none, none, none, none, none] ∧ Same H Hx ∧ ErrAt Hx a20 (Cs 20) (flds ["index"] [.int n]) ∧ ErrAt Hx a22 (Cs 22) (flds ["what"] [.str z]) ∧ ErrAt Hx a23 (Cs 23) (flds ["index"] [x]) ∧ ErrAt Hx a24 (Cs 24) (flds ["what"] [.str z]), ?_, ?_⟩
    · refine ⟨_, rfl, rfl, (by show 1 ≤ 900; decide), fun a20 H20 f20 s20 e20 => ?_⟩
      refine ⟨_, rfl, rfl, (by show 1 ≤ 900; decide), fun a22 H22 f22 s22 e22 => ?_⟩
      refine ⟨_, rfl, rfl, (by show 1 ≤ 900; decide), fun a23 H23 f23 s23 e23 => ?_⟩
      refine ⟨_, rfl, rfl, (by show 1 ≤ 900; decide), fun a24 H24 f24 s24 e24 => ?_⟩
      refine ⟨(by show 4 ≤ sizeLine; decide), fun p hp => ⟨p, _, rfl, SqT.of upd_same, rfl, _, _, rfl, _, _, rfl, _, _, rfl, _, _, rfl, rfl, ?_⟩⟩
      have sp := sameUpd (o := .tup [.ref a20, .ref a22, .ref a23, .ref a24]) (Same.refl _) hp
      exact ⟨a20, a22, a23, a24, rfl, (s20.trans (s22.trans (s23.trans (s24.trans sp)))), e20.keep (s22.trans (s23.trans (s24.trans sp))), e22.keep (s23.trans (s24.trans sp)), e23.keep (s24.trans sp), e24.keep sp⟩
    rintro _ X1 ⟨a20, a22, a23, a24, rfl, t1, e20, e22, e23, e24⟩
    have sAll := t1
    refine ⟨fun σ Hx => ∃ a25 a27 a28 a29 : Addr, σ = [some (.int n), some (.str z), some x, some (.ref a20), some (.ref a22), some (.ref a23), some (.ref a24), some (.ref a25), some (.ref a27), some (.ref a28), some (.ref a29), none, none, none, none, none, none, none] ∧ Same X1 Hx ∧ ErrAt Hx a25 (Cs 25) (flds ["index", "what"] [.int n, .str z]) ∧ ErrAt Hx a27 (Cs 27) (flds ["what"] [.str z]) ∧ ErrAt Hx a28 (Cs 28) (flds ["what"] [.str z]) ∧ ErrAt Hx a29 (Cs 29) (flds ["turns"] [x]), ?_, ?_⟩
    · refine ⟨_, rfl, _, rfl, rfl, (by show 2 ≤ 900; decide), fun a25 H25 f25 s25 e25 => ?_⟩
      refine ⟨_, rfl, rfl, (by show 1 ≤ 900; decide), fun a27 H27 f27 s27 e27 => ?_⟩
      refine ⟨_, rfl, rfl, (by show 1 ≤ 900; decide), fun a28 H28 f28 s28 e28 => ?_⟩
      refine ⟨_, rfl, rfl, (by show 1 ≤ 900; decide), fun a29 H29 f29 s29 e29 => ?_⟩
      refine ⟨(by show 4 ≤ sizeLine; decide), fun p hp => ⟨p, _, rfl, SqT.of upd_same, rfl, _, _, rfl, _, _, rfl, _, _, rfl, _, _, rfl, rfl, ?_⟩⟩
      have sp := sameUpd (o := .tup [.ref a25, .ref a27, .ref a28, .ref a29]) (Same.refl _) hp
      exact ⟨a25, a27, a28, a29, rfl, (s25.trans (s27.trans (s28.trans (s29.trans sp)))), e25.keep (s27.trans (s28.trans (s29.trans sp))), e27.keep (s28.trans (s29.trans sp)), e28.keep (s29.trans sp), e29.keep sp⟩
    rintro _ X2 ⟨a25, a27, a28, a29, rfl, t2, e25, e27, e28, e29⟩
    replace e20 := e20.keep t2
    replace e22 := e22.keep t2
    replace e23 := e23.keep t2
    replace e24 := e24.keep t2
    replace sAll := sAll.trans t2
    refine ⟨fun σ Hx => ∃ a30 a31 a32 a33 : Addr, σ = [some (.int n), some (.str z), some x, some (.ref a20), some (.ref a22), some (.ref a23), some (.ref a24), some (.ref a25), some (.ref a27), some (.ref a28), some (.ref a29), some (.ref a30), some (.ref a31), some (.ref a32), some (.ref a33), none, none, none] ∧ Same X2 Hx ∧ ErrAt Hx a30 (Cs 30) (flds ["what"] [.str z]) ∧ ErrAt Hx a31 (Cs 31) (flds ["year", "what"] [.int n, .str z]) ∧ ErrAt Hx a32 (Cs 32) (flds ["what"] [.str z]) ∧ ErrAt Hx a33 (Cs 33) (flds ["index", "what"] [.int n, .str z]), ?_, ?_⟩
    · refine ⟨_, rfl, rfl, (by show 1 ≤ 900; decide), fun a30 H30 f30 s30 e30 => ?_⟩
      refine ⟨_, rfl, _, rfl, rfl, (by show 2 ≤ 900; decide), fun a31 H31 f31 s31 e31 => ?_⟩
      refine ⟨_, rfl, rfl, (by show 1 ≤ 900; decide), fun a32 H32 f32 s32 e32 => ?_⟩
      refine ⟨_, rfl, _, rfl, rfl, (by show 2 ≤ 900; decide), fun a33 H33 f33 s33 e33 => ?_⟩
      refine ⟨(by show 4 ≤ sizeLine; decide), fun p hp => ⟨p, _, rfl, SqT.of upd_same, rfl, _, _, rfl, _, _, rfl, _, _, rfl, _, _, rfl, rfl, ?_⟩⟩
      have sp := sameUpd (o := .tup [.ref a30, .ref a31, .ref a32, .ref a33]) (Same.refl _) hp
      exact ⟨a30, a31, a32, a33, rfl, (s30.trans (s31.trans (s32.trans (s33.trans sp)))), e30.keep (s31.trans (s32.trans (s33.trans sp))), e31.keep (s32.trans (s33.trans sp)), e32.keep (s33.trans sp), e33.keep sp⟩
    rintro _ X3 ⟨a30, a31, a32, a33, rfl, t3, e30, e31, e32, e33⟩
    replace e20 := e20.keep t3
    replace e22 := e22.keep t3
    replace e23 := e23.keep t3
    replace e24 := e24.keep t3
    replace e25 := e25.keep t3
    replace e27 := e27.keep t3
    replace e28 := e28.keep t3
    replace e29 := e29.keep t3
    replace sAll := sAll.trans t3
    refine ⟨fun σ Hx => ∃ a34 a35 : Addr, σ = [some (.int n), some (.str z), some x, some (.ref a20), some (.ref a22), some (.ref a23), some (.ref a24), some (.ref a25), some (.ref a27), some (.ref a28), some (.ref a29), some (.ref a30), some (.ref a31), some (.ref a32), some (.ref a33), some (.ref a34), some (.ref a35), none] ∧ Same X3 Hx ∧ ErrAt Hx a34 (Cs 34) (flds ["index", "what"] [.int n, .str z]) ∧ ErrAt Hx a35 (Cs 35) (flds ["rest"] [x]), ?_, ?_⟩
    · refine ⟨_, rfl, _, rfl, rfl, (by show 2 ≤ 900; decide), fun a34 H34 f34 s34 e34 => ?_⟩
      refine ⟨_, rfl, rfl, (by show 1 ≤ 900; decide), fun a35 H35 f35 s35 e35 => ?_⟩
      refine ⟨_, _, rfl, ?_⟩
      exact ⟨a34, a35, rfl, (s34.trans s35), e34.keep s35, e35.keep (Same.refl _)⟩
    rintro _ X4 ⟨a34, a35, rfl, t4, e34, e35⟩
    replace e20 := e20.keep t4
    replace e22 := e22.keep t4
    replace e23 := e23.keep t4
    replace e24 := e24.keep t4
    replace e25 := e25.keep t4
    replace e27 := e27.keep t4
    replace e28 := e28.keep t4
    replace e29 := e29.keep t4
    replace e30 := e30.keep t4
    replace e31 := e31.keep t4
    replace e32 := e32.keep t4
    replace e33 := e33.keep t4
    replace sAll := sAll.trans t4
    refine ⟨MidM Cs _ [some (.int n), some (.str z), some x, some (.ref a20), some (.ref a22), some (.ref a23), some (.ref a24), some (.ref a25), some (.ref a27), some (.ref a28), some (.ref a29), some (.ref a30), some (.ref a31), some (.ref a32), some (.ref a33), some (.ref a34), some (.ref a35), none] 17 20 4, st_first (tes := [_, _, _, _]) (.cons (good1 (K := K) rfl e20 (A.xf 20 (by decide)) (E20.nf _ (.head _)) lk1 (.inl rfl) (fun _ _ q => ⟨_, rfl, q⟩)) (.cons (good0 fun H2 Q s k => k) (.cons (good1 (K := K) rfl e22 (A.xf 22 (by decide)) (E22.nf _ (.head _)) lk1 (.inl rfl) (fun _ _ q => ⟨_, rfl, q⟩)) (.cons (good1 (K := K) rfl e23 (A.xf 23 (by decide)) (E23.nf _ (.head _)) lk1 ox (fun _ _ q => ⟨_, rfl, q⟩)) .nil)))) (by show 4 ≤ 900; decide), fun σ1 M1 m1 => ?_⟩
    refine ⟨MidM Cs _ [some (.int n), some (.str z), some x, some (.ref a20), some (.ref a22), some (.ref a23), some (.ref a24), some (.ref a25), some (.ref a27), some (.ref a28), some (.ref a29), some (.ref a30), some (.ref a31), some (.ref a32), some (.ref a33), some (.ref a34), some (.ref a35), none] 17 20 7, st_more (tes := [_, _, _]) m1 (by show 17 < 18; decide) (fun r => (.cons (good1 (K := K) rfl e24 (A.xf 24 (by decide)) (E24.nf _ (.head _)) lk1 (.inl rfl) (fun _ _ q => ⟨_, rfl, q⟩)) (.cons (good2 (K := K) rfl e25 (A.xf 25 (by decide)) (E25.nf _ (.head _)) (E25.nf _ (.tail _ (.head _))) (lk2a (by decide +kernel)) lk2b (.inl rfl) (.inl rfl) (fun _ _ q => ⟨_, rfl, q⟩) (fun _ _ q => ⟨_, rfl, q⟩)) (.cons (good0 fun H2 Q s k => k) .nil)))) (by show 7 ≤ 900; decide), fun σ2 M2 m2 => ?_⟩
    refine ⟨MidM Cs _ [some (.int n), some (.str z), some x, some (.ref a20), some (.ref a22), some (.ref a23), some (.ref a24), some (.ref a25), some (.ref a27), some (.ref a28), some (.ref a29), some (.ref a30), some (.ref a31), some (.ref a32), some (.ref a33), some (.ref a34), some (.ref a35), none] 17 20 10, st_more (tes := [_, _, _]) m2 (by show 17 < 18; decide) (fun r => (.cons (good1 (K := K) rfl e27 (A.xf 27 (by decide)) (E27.nf _ (.head _)) lk1 (.inl rfl) (fun _ _ q => ⟨_, rfl, q⟩)) (.cons (good1 (K := K) rfl e28 (A.xf 28 (by decide)) (E28.nf _ (.head _)) lk1 (.inl rfl) (fun _ _ q => ⟨_, rfl, q⟩)) (.cons (good1 (K := K) rfl e29 (A.xf 29 (by decide)) (E29.nf _ (.head _)) lk1 ox (fun _ _ q => ⟨_, rfl, q⟩)) .nil)))) (by show 10 ≤ 900; decide), fun σ3 M3 m3 => ?_⟩
    refine ⟨MidM Cs _ [some (.int n), some (.str z), some x, some (.ref a20), some (.ref a22), some (.ref a23), some (.ref a24), some (.ref a25), some (.ref a27), some (.ref a28), some (.ref a29), some (.ref a30), some (.ref a31), some (.ref a32), some (.ref a33), some (.ref a34), some (.ref a35), none] 17 20 13, st_more (tes := [_, _, _]) m3 (by show 17 < 18; decide) (fun r => (.cons (good1 (K := K) rfl e30 (A.xf 30 (by decide)) (E30.nf _ (.head _)) lk1 (.inl rfl) (fun _ _ q => ⟨_, rfl, q⟩)) (.cons (good2 (K := K) rfl e31 (A.xf 31 (by decide)) (E31.nf _ (.head _)) (E31.nf _ (.tail _ (.head _))) (lk2a (by decide +kernel)) lk2b (.inl rfl) (.inl rfl) (fun _ _ q => ⟨_, rfl, q⟩) (fun _ _ q => ⟨_, rfl, q⟩)) (.cons (good1 (K := K) rfl e32 (A.xf 32 (by decide)) (E32.nf _ (.head _)) lk1 (.inl rfl) (fun _ _ q => ⟨_, rfl, q⟩)) .nil)))) (by show 13 ≤ 900; decide), fun σ4 M4 m4 => ?_⟩
    refine ⟨MidM Cs _ [some (.int n), some (.str z), some x, some (.ref a20), some (.ref a22), some (.ref a23), some (.ref a24), some (.ref a25), some (.ref a27), some (.ref a28), some (.ref a29), some (.ref a30), some (.ref a31), some (.ref a32), some (.ref a33), some (.ref a34), some (.ref a35), none] 17 20 16, st_more (tes := [_, _, _]) m4 (by show 17 < 18; decide) (fun r => (.cons (good2 (K := K) rfl e33 (A.xf 33 (by decide)) (E33.nf _ (.head _)) (E33.nf _ (.tail _ (.head _))) (lk2a (by decide +kernel)) lk2b (.inl rfl) (.inl rfl) (fun _ _ q => ⟨_, rfl, q⟩) (fun _ _ q => ⟨_, rfl, q⟩)) (.cons (good2 (K := K) rfl e34 (A.xf 34 (by decide)) (E34.nf _ (.head _)) (E34.nf _ (.tail _ (.head _))) (lk2a (by decide +kernel)) lk2b (.inl rfl) (.inl rfl) (fun _ _ q => ⟨_, rfl, q⟩) (fun _ _ q => ⟨_, rfl, q⟩)) (.cons (good1 (K := K) rfl e35 (A.xf 35 (by decide)) (E35.nf _ (.head _)) lk1 ox (fun _ _ q => ⟨_, rfl, q⟩)) .nil)))) (by show 16 ≤ 900; decide), fun σ5 M5 m5 => ?_⟩
    obtain ⟨r, rfl, s, rows⟩ := m5
    exact cat_rows (tes := [_, _]) (r := r) rfl s rows (.cons (good0 fun H2 Q s k => k) (.cons (good0 fun H2 Q s k => k) .nil)) (by show 18 ≤ 900; decide) fun p H' fp s' rows' => k p H' ((sAll.trans s).free fp) ((sAll.trans s).trans s') rows'
abbrev nThird : List Str := ["_law_at", "_law_word_here", "_law_odd_here", "_law_a", "_law_b", "_law_c", "_law_d", "_law_e", "_law_f", "_law_g", "_law_h", "_law_i", "_law_j", "_law_k", "_law_m", "_law_n", "_law_found"]
theorem scThird : FnScope nThird ["_law_at", "_law_word_here", "_law_odd_here"] (defScope sLThird) := ⟨rfl, rfl, rfl, by decide +kernel, rfl, by decide +kernel, by decide +kernel⟩
theorem ok_third {f : Addr} {fd : FuncData} (F : Fun K "_law_third" "_law_third" sLThird f fd) (m : mg "_law_third" = some (.ref f)) (A : AllE P w K mg base Cs) : HasF P w K mg base "_law_third" 3 ["_law_at", "_law_word_here", "_law_odd_here"] (spMade Cs 38 15) := by
  refine ⟨f, fd, ?_, m, F.kp, F.binds fun _ _ _ _ _ _ us hl => match us, hl with | [_, _, _], _ => rfl⟩
  refine F.ok scThird (fun vs H Q E h => ?_) (fun cdv Ar outer s H vs Q E hr h => ?_)
  · obtain ⟨n, z, x, rfl, _⟩ := h
    rfl
  · obtain ⟨n, z, x, rfl, ox, k⟩ := h
    obtain ⟨_, _, _, _, E38⟩ := A.bare 38 (by decide) rfl
    obtain ⟨_, _, E39⟩ := A.own 39 _ (by decide) rfl
    obtain ⟨_, _, E40⟩ := A.own 40 _ (by decide) rfl
    obtain ⟨_, _, E41⟩ := A.own 41 _ (by decide) rfl
    obtain ⟨_, _, E42⟩ := A.own 42 _ (by decide) rfl
    obtain ⟨_, _, E43⟩ := A.own 43 _ (by decide) rfl
    obtain ⟨_, _, E44⟩ := A.own 44 _ (by decide) rfl
    obtain ⟨_, _, E45⟩ := A.own 45 _ (by decide) rfl
    obtain ⟨_, _, _, _, E46⟩ := A.bare 46 (by decide) rfl
    obtain ⟨_, _, E47⟩ := A.own 47 _ (by decide) rfl
    obtain ⟨_, _, E48⟩ := A.own 48 _ (by decide) rfl
    obtain ⟨_, _, E49⟩ := A.own 49 _ (by decide) rfl
    obtain ⟨_, _, E50⟩ := A.own 50 _ (by decide) rfl
    obtain ⟨_, _, E51⟩ := A.own 51 _ (by decide) rfl
    obtain ⟨_, _, E52⟩ := A.own 52 _ (by decide) rfl
    have hr2 : Room 2 _ := hr
    refine ⟨_, (C8.pss_cut (ps_asg (pe_tup (pa_cons (pe_err E39 hr2 (by rfl) (pa_cons (pv 1) pa_nil)) (pa_cons (pe_err E40 hr2 (by rfl) (pa_cons (pv 2) pa_nil)) (pa_cons (pe_err E41 hr2 (by rfl) (pa_cons (pv 0) pa_nil)) (pa_cons (pe_err E42 hr2 (by rfl) (pa_cons (pv 0) pa_nil)) pa_nil))))) (pg_tup (n := 4) rfl (pgs_cons (pg_name (i := 3) scThird.nd rfl (.inl rfl)) (pgs_cons (pg_name (i := 4) scThird.nd rfl (.inl rfl)) (pgs_cons (pg_name (i := 5) scThird.nd rfl (.inl rfl)) (pgs_cons (pg_name (i := 6) scThird.nd rfl (.inl rfl)) pgs_nil))))))
    (C8.pss_cut (ps_asg (pe_tup (pa_cons (pe_err E43 hr2 (by rfl) (pa_cons (pv 2) pa_nil)) (pa_cons (pe_err E44 hr2 (by rfl) (pa_cons (pv 2) pa_nil)) (pa_cons (pe_err E45 hr2 (by rfl) (pa_cons (pv 1) pa_nil)) (pa_cons (pe_err E47 hr2 (by rfl) (pa_cons (pv 0) pa_nil)) pa_nil))))) (pg_tup (n := 4) rfl (pgs_cons (pg_name (i := 7) scThird.nd rfl (.inl rfl)) (pgs_cons (pg_name (i := 8) scThird.nd rfl (.inl rfl)) (pgs_cons (pg_name (i := 9) scThird.nd rfl (.inl rfl)) (pgs_cons (pg_name (i := 10) scThird.nd rfl (.inl rfl)) pgs_nil))))))
    (C8.pss_cut (ps_asg (pe_tup (pa_cons (pe_err E48 hr2 (by rfl) (pa_cons (pv 1) pa_nil)) (pa_cons (pe_err E49 hr2 (by rfl) (pa_cons (pv 0) (pa_cons (pv 1) pa_nil))) (pa_cons (pe_err E50 hr2 (by rfl) (pa_cons (pv 1) pa_nil)) (pa_cons (pe_err E51 hr2 (by rfl) (pa_cons (pv 0) (pa_cons (pe_un un_neg (pv 0)) pa_nil))) (pa_cons (pe_err E52 hr2 (by rfl) (pa_cons (pe_tup (pa_cons (pv 0) pa_nil)) pa_nil)) pa_nil)))))) (pg_tup (n := 5) rfl (pgs_cons (pg_name (i := 11) scThird.nd rfl (.inl rfl)) (pgs_cons (pg_name (i := 12) scThird.nd rfl (.inl rfl)) (pgs_cons (pg_name (i := 13) scThird.nd rfl (.inl rfl)) (pgs_cons (pg_name (i := 14) scThird.nd rfl (.inl rfl)) (pgs_cons (pg_name (i := 15) scThird.nd rfl (.inl rfl)) pgs_nil)))))))
    (C8.pss_cut (ps_set (i := 16) scThird.nd rfl (Or.inl rfl) (pe_lst (pa_cons (pe_tup (pa_cons (pe_err0 E38 (by rfl)) (pa_cons pe_str (pa_cons (pe_lst pa_nil) (pa_cons (pe_lst pa_nil) pa_nil))))) (pa_cons (pe_tup (pa_cons (pv 3) (pa_cons pe_str (pa_cons (pe_lst (pa_cons (pe_fldE (K := K) rfl (pv 3)) pa_nil)) (pa_cons (pe_lst (pa_cons (pv 1) pa_nil)) pa_nil))))) (pa_cons (pe_tup (pa_cons (pv 4) (pa_cons pe_str (pa_cons (pe_lst (pa_cons (pe_fldE (K := K) rfl (pv 4)) pa_nil)) (pa_cons (pe_lst (pa_cons (pv 2) pa_nil)) pa_nil))))) pa_nil)))))
    (C8.pss_cut (ps_set (i := 16) scThird.nd rfl (Or.inl rfl) (pe_op op_cat (pv 16) (pe_lst (pa_cons (pe_tup (pa_cons (pv 5) (pa_cons pe_str (pa_cons (pe_lst (pa_cons (pe_fldE (K := K) rfl (pv 5)) pa_nil)) (pa_cons (pe_lst (pa_cons (pv 0) pa_nil)) pa_nil))))) (pa_cons (pe_tup (pa_cons (pv 6) (pa_cons pe_str (pa_cons (pe_lst (pa_cons (pe_fldE (K := K) rfl (pv 6)) pa_nil)) (pa_cons (pe_lst (pa_cons (pv 0) pa_nil)) pa_nil))))) (pa_cons (pe_tup (pa_cons (pv 7) (pa_cons pe_str (pa_cons (pe_lst (pa_cons (pe_fldE (K := K) rfl (pv 7)) pa_nil)) (pa_cons (pe_lst (pa_cons (pv 2) pa_nil)) pa_nil))))) pa_nil))))))
    (C8.pss_cut (ps_set (i := 16) scThird.nd rfl (Or.inl rfl) (pe_op op_cat (pv 16) (pe_lst (pa_cons (pe_tup (pa_cons (pv 8) (pa_cons pe_str (pa_cons (pe_lst (pa_cons (pe_fldE (K := K) rfl (pv 8)) pa_nil)) (pa_cons (pe_lst (pa_cons (pv 2) pa_nil)) pa_nil))))) (pa_cons (pe_tup (pa_cons (pv 9) (pa_cons pe_str (pa_cons (pe_lst (pa_cons (pe_fldE (K := K) rfl (pv 9)) pa_nil)) (pa_cons (pe_lst (pa_cons (pv 1) pa_nil)) pa_nil))))) (pa_cons (pe_tup (pa_cons (pe_err0 E46 (by rfl)) (pa_cons pe_str (pa_cons (pe_lst pa_nil) (pa_cons (pe_lst pa_nil) pa_nil))))) (pa_cons (pe_tup (pa_cons (pv 10) (pa_cons pe_str (pa_cons (pe_lst (pa_cons (pe_fldE (K := K) rfl (pv 10)) pa_nil)) (pa_cons (pe_lst (pa_cons (pv 0) pa_nil)) pa_nil))))) pa_nil)))))))
    (C8.pss_cut (ps_set (i := 16) scThird.nd rfl (Or.inl rfl) (pe_op op_cat (pv 16) (pe_lst (pa_cons (pe_tup (pa_cons (pv 11) (pa_cons pe_str (pa_cons (pe_lst (pa_cons (pe_fldE (K := K) rfl (pv 11)) pa_nil)) (pa_cons (pe_lst (pa_cons (pv 1) pa_nil)) pa_nil))))) (pa_cons (pe_tup (pa_cons (pv 12) (pa_cons pe_str (pa_cons (pe_lst (pa_cons (pe_fldE (K := K) rfl (pv 12)) (pa_cons (pe_fldE (K := K) rfl (pv 12)) pa_nil))) (pa_cons (pe_lst (pa_cons (pv 0) (pa_cons (pv 1) pa_nil))) pa_nil))))) (pa_cons (pe_tup (pa_cons (pv 13) (pa_cons pe_str (pa_cons (pe_lst (pa_cons (pe_fldE (K := K) rfl (pv 13)) pa_nil)) (pa_cons (pe_lst (pa_cons (pv 1) pa_nil)) pa_nil))))) pa_nil))))))
    (pss_one (ps_ret (pe_op op_cat (pv 16) (pe_lst (pa_cons (pe_tup (pa_cons (pv 14) (pa_cons pe_str (pa_cons (pe_lst (pa_cons (pe_fldE (K := K) rfl (pv 14)) (pa_cons (pe_fldE (K := K) rfl (pv 14)) pa_nil))) (pa_cons (pe_lst (pa_cons (pv 0) (pa_cons (pe_un un_neg (pv 0)) pa_nil))) pa_nil))))) (pa_cons (pe_tup (pa_cons (pv 15) (pa_cons pe_str (pa_cons (pe_lst (pa_cons (pe_fldE (K := K) rfl (pv 15)) pa_nil)) (pa_cons (pe_lst (pa_cons (pe_tup (pa_cons (pv 0) pa_nil)) pa_nil)) pa_nil))))) pa_nil))))))))))))), ?_⟩
    refine ⟨fun σ Hx => ∃ a39 a40 a41 a42 : Addr, σ = [some (.int n), some (.str z), some x, some (.ref a39), some (.ref a40), some (.ref a41), some (.ref a42), none, none, none, none, none, none, none, none, none, none] ∧ Same H Hx ∧ ErrAt Hx a39 (Cs 39) (flds ["what"] [.str z]) ∧ ErrAt Hx a40 (Cs 40) (flds ["year"] [x]) ∧ ErrAt Hx a41 (Cs 41) (flds ["year"] [.int n]) ∧ ErrAt Hx a42 (Cs 42) (flds ["year"] [.int n]), ?_, ?_⟩
    · refine ⟨_, rfl, rfl, (by show 1 ≤ 900; decide), fun a39 H39 f39 s39 e39 => ?_⟩
      refine ⟨_, rfl, rfl, (by show 1 ≤ 900; decide), fun a40 H40 f40 s40 e40 => ?_⟩
      refine ⟨_, rfl, rfl, (by show 1 ≤ 900; decide), fun a41 H41 f41 s41 e41 => ?_⟩
      refine ⟨_, rfl, rfl, (by show 1 ≤ 900; decide), fun a42 H42 f42 s42 e42 => ?_⟩
      refine ⟨(by show 4 ≤ sizeLine; decide), fun p hp => ⟨p, _, rfl, SqT.of upd_same, rfl, _, _, rfl, _, _, rfl, _, _, rfl, _, _, rfl, rfl, ?_⟩⟩
      have sp := sameUpd (o := .tup [.ref a39, .ref a40, .ref a41, .ref a42]) (Same.refl _) hp
      exact ⟨a39, a40, a41, a42, rfl, (s39.trans (s40.trans (s41.trans (s42.trans sp)))), e39.keep (s40.trans (s41.trans (s42.trans sp))), e40.keep (s41.trans (s42.trans sp)), e41.keep (s42.trans sp), e42.keep sp⟩
    rintro _ X1 ⟨a39, a40, a41, a42, rfl, t1, e39, e40, e41, e42⟩
    have sAll := t1
    refine ⟨fun σ Hx => ∃ a43 a44 a45 a47 : Addr, σ = [some (.int n), some (.str z), some x, some (.ref a39), some (.ref a40), some (.ref a41), some (.ref a42), some (.ref a43), some (.ref a44), some (.ref a45), some (.ref a47), none, none, none, none, none, none] ∧ Same X1 Hx ∧ ErrAt Hx a43 (Cs 43) (flds ["place"] [x]) ∧ ErrAt Hx a44 (Cs 44) (flds ["number"] [x]) ∧ ErrAt Hx a45 (Cs 45) (flds ["what"] [.str z]) ∧ ErrAt Hx a47 (Cs 47) (flds ["count"] [.int n]), ?_, ?_⟩
    · refine ⟨_, rfl, rfl, (by show 1 ≤ 900; decide), fun a43 H43 f43 s43 e43 => ?_⟩
      refine ⟨_, rfl, rfl, (by show 1 ≤ 900; decide), fun a44 H44 f44 s44 e44 => ?_⟩
      refine ⟨_, rfl, rfl, (by show 1 ≤ 900; decide), fun a45 H45 f45 s45 e45 => ?_⟩
      refine ⟨_, rfl, rfl, (by show 1 ≤ 900; decide), fun a47 H47 f47 s47 e47 => ?_⟩
      refine ⟨(by show 4 ≤ sizeLine; decide), fun p hp => ⟨p, _, rfl, SqT.of upd_same, rfl, _, _, rfl, _, _, rfl, _, _, rfl, _, _, rfl, rfl, ?_⟩⟩
      have sp := sameUpd (o := .tup [.ref a43, .ref a44, .ref a45, .ref a47]) (Same.refl _) hp
      exact ⟨a43, a44, a45, a47, rfl, (s43.trans (s44.trans (s45.trans (s47.trans sp)))), e43.keep (s44.trans (s45.trans (s47.trans sp))), e44.keep (s45.trans (s47.trans sp)), e45.keep (s47.trans sp), e47.keep sp⟩
    rintro _ X2 ⟨a43, a44, a45, a47, rfl, t2, e43, e44, e45, e47⟩
    replace e39 := e39.keep t2
    replace e40 := e40.keep t2
    replace e41 := e41.keep t2
    replace e42 := e42.keep t2
    replace sAll := sAll.trans t2
    refine ⟨fun σ Hx => ∃ a48 a49 a50 a51 a52 tp : Addr, σ = [some (.int n), some (.str z), some x, some (.ref a39), some (.ref a40), some (.ref a41), some (.ref a42), some (.ref a43), some (.ref a44), some (.ref a45), some (.ref a47), some (.ref a48), some (.ref a49), some (.ref a50), some (.ref a51), some (.ref a52), none] ∧ Same X2 Hx ∧ ErrAt Hx a48 (Cs 48) (flds ["what"] [.str z]) ∧ ErrAt Hx a49 (Cs 49) (flds ["index", "what"] [.int n, .str z]) ∧ ErrAt Hx a50 (Cs 50) (flds ["what"] [.str z]) ∧ ErrAt Hx a51 (Cs 51) (flds ["first", "second"] [.int n, .int (-n)]) ∧ ErrAt Hx a52 (Cs 52) (flds ["lot"] [.ref tp]) ∧ Hx tp = some (.tup [.int n]), ?_, ?_⟩
    · refine ⟨_, rfl, rfl, (by show 1 ≤ 900; decide), fun a48 H48 f48 s48 e48 => ?_⟩
      refine ⟨_, rfl, _, rfl, rfl, (by show 2 ≤ 900; decide), fun a49 H49 f49 s49 e49 => ?_⟩
      refine ⟨_, rfl, rfl, (by show 1 ≤ 900; decide), fun a50 H50 f50 s50 e50 => ?_⟩
      refine ⟨_, rfl, _, rfl, _, rfl, rfl, (by show 2 ≤ 900; decide), fun a51 H51 f51 s51 e51 => ?_⟩
      refine ⟨_, rfl, (by show 1 ≤ sizeLine; decide), fun tp htp => ?_⟩
      have stp := sameUpd (o := .tup [.int n]) (Same.refl _) htp
      refine ⟨rfl, (by show 1 ≤ 900; decide), fun a52 H52 f52 s52 e52 => ?_⟩
      refine ⟨(by show 5 ≤ sizeLine; decide), fun p hp => ⟨p, _, rfl, SqT.of upd_same, rfl, _, _, rfl, _, _, rfl, _, _, rfl, _, _, rfl, _, _, rfl, rfl, ?_⟩⟩
      have sp := sameUpd (o := .tup [.ref a48, .ref a49, .ref a50, .ref a51, .ref a52]) (Same.refl _) hp
      exact ⟨a48, a49, a50, a51, a52, tp, rfl, (s48.trans (s49.trans (s50.trans (s51.trans (stp.trans (s52.trans sp)))))), e48.keep (s49.trans (s50.trans (s51.trans (stp.trans (s52.trans sp))))), e49.keep (s50.trans (s51.trans (stp.trans (s52.trans sp)))), e50.keep (s51.trans (stp.trans (s52.trans sp))), e51.keep (stp.trans (s52.trans sp)), e52.keep sp, (s52.trans sp) _ _ upd_same⟩
    rintro _ X3 ⟨a48, a49, a50, a51, a52, tp, rfl, t3, e48, e49, e50, e51, e52, tpx⟩
    replace e39 := e39.keep t3
    replace e40 := e40.keep t3
    replace e41 := e41.keep t3
    replace e42 := e42.keep t3
    replace e43 := e43.keep t3
    replace e44 := e44.keep t3
    replace e45 := e45.keep t3
    replace e47 := e47.keep t3
    replace sAll := sAll.trans t3
    refine ⟨MidM Cs _ [some (.int n), some (.str z), some x, some (.ref a39), some (.ref a40), some (.ref a41), some (.ref a42), some (.ref a43), some (.ref a44), some (.ref a45), some (.ref a47), some (.ref a48), some (.ref a49), some (.ref a50), some (.ref a51), some (.ref a52), none] 16 38 3, st_first (tes := [_, _, _]) (.cons (good0 fun H2 Q s k => k) (.cons (good1 (K := K) rfl e39 (A.xf 39 (by decide)) (E39.nf _ (.head _)) lk1 (.inl rfl) (fun _ _ q => ⟨_, rfl, q⟩)) (.cons (good1 (K := K) rfl e40 (A.xf 40 (by decide)) (E40.nf _ (.head _)) lk1 ox (fun _ _ q => ⟨_, rfl, q⟩)) .nil))) (by show 3 ≤ 900; decide), fun σ1 M1 m1 => ?_⟩
    refine ⟨MidM Cs _ [some (.int n), some (.str z), some x, some (.ref a39), some (.ref a40), some (.ref a41), some (.ref a42), some (.ref a43), some (.ref a44), some (.ref a45), some (.ref a47), some (.ref a48), some (.ref a49), some (.ref a50), some (.ref a51), some (.ref a52), none] 16 38 6, st_more (tes := [_, _, _]) m1 (by show 16 < 17; decide) (fun r => (.cons (good1 (K := K) rfl e41 (A.xf 41 (by decide)) (E41.nf _ (.head _)) lk1 (.inl rfl) (fun _ _ q => ⟨_, rfl, q⟩)) (.cons (good1 (K := K) rfl e42 (A.xf 42 (by decide)) (E42.nf _ (.head _)) lk1 (.inl rfl) (fun _ _ q => ⟨_, rfl, q⟩)) (.cons (good1 (K := K) rfl e43 (A.xf 43 (by decide)) (E43.nf _ (.head _)) lk1 ox (fun _ _ q => ⟨_, rfl, q⟩)) .nil)))) (by show 6 ≤ 900; decide), fun σ2 M2 m2 => ?_⟩
    refine ⟨MidM Cs _ [some (.int n), some (.str z), some x, some (.ref a39), some (.ref a40), some (.ref a41), some (.ref a42), some (.ref a43), some (.ref a44), some (.ref a45), some (.ref a47), some (.ref a48), some (.ref a49), some (.ref a50), some (.ref a51), some (.ref a52), none] 16 38 10, st_more (tes := [_, _, _, _]) m2 (by show 16 < 17; decide) (fun r => (.cons (good1 (K := K) rfl e44 (A.xf 44 (by decide)) (E44.nf _ (.head _)) lk1 ox (fun _ _ q => ⟨_, rfl, q⟩)) (.cons (good1 (K := K) rfl e45 (A.xf 45 (by decide)) (E45.nf _ (.head _)) lk1 (.inl rfl) (fun _ _ q => ⟨_, rfl, q⟩)) (.cons (good0 fun H2 Q s k => k) (.cons (good1 (K := K) rfl e47 (A.xf 47 (by decide)) (E47.nf _ (.head _)) lk1 (.inl rfl) (fun _ _ q => ⟨_, rfl, q⟩)) .nil))))) (by show 10 ≤ 900; decide), fun σ3 M3 m3 => ?_⟩
    refine ⟨MidM Cs _ [some (.int n), some (.str z), some x, some (.ref a39), some (.ref a40), some (.ref a41), some (.ref a42), some (.ref a43), some (.ref a44), some (.ref a45), some (.ref a47), some (.ref a48), some (.ref a49), some (.ref a50), some (.ref a51), some (.ref a52), none] 16 38 13, st_more (tes := [_, _, _]) m3 (by show 16 < 17; decide) (fun r => (.cons (good1 (K := K) rfl e48 (A.xf 48 (by decide)) (E48.nf _ (.head _)) lk1 (.inl rfl) (fun _ _ q => ⟨_, rfl, q⟩)) (.cons (good2 (K := K) rfl e49 (A.xf 49 (by decide)) (E49.nf _ (.head _)) (E49.nf _ (.tail _ (.head _))) (lk2a (by decide +kernel)) lk2b (.inl rfl) (.inl rfl) (fun _ _ q => ⟨_, rfl, q⟩) (fun _ _ q => ⟨_, rfl, q⟩)) (.cons (good1 (K := K) rfl e50 (A.xf 50 (by decide)) (E50.nf _ (.head _)) lk1 (.inl rfl) (fun _ _ q => ⟨_, rfl, q⟩)) .nil)))) (by show 13 ≤ 900; decide), fun σ4 M4 m4 => ?_⟩
    obtain ⟨r, rfl, s, rows⟩ := m4
    exact cat_rows (tes := [_, _]) (r := r) rfl s rows (.cons (good2 (K := K) rfl e51 (A.xf 51 (by decide)) (E51.nf _ (.head _)) (E51.nf _ (.tail _ (.head _))) (lk2a (by decide +kernel)) lk2b (.inl rfl) (.inl rfl) (fun _ _ q => ⟨_, rfl, q⟩) (fun _ _ q => ⟨_, rfl, _, rfl, q⟩)) (.cons (goodT (K := K) rfl e52 (A.xf 52 (by decide)) (E52.nf _ (.head _)) lk1 tpx (fun _ _ q => ⟨_, rfl, q⟩)) .nil)) (by show 15 ≤ 900; decide) fun p H' fp s' rows' => k p H' ((sAll.trans s).free fp) ((sAll.trans s).trans s') rows'
end
end Kx

set_option maxHeartbeats 4000000
/-! try: .. except A: .. except B as e: ..: clauses with one name or none, tried from the first; what is caught has no context -/
namespace Kx
open PySem PySem.Spec PyProof.Rows L2
abbrev Suit := Addr → Value → Option Addr → TS
/-- what such clauses wish -/
def wEach (K : PySem.W.Frag) (Wo : WX) (D : Ends) (i : Nat) : List (Bool × Value × Suit) → WX
  | [] => Wo
  | (true, c, ts) :: r => wAs K c i ts (wEach K Wo D i r) D
  | (false, c, ts) :: r => fun cls d σ H => ∃ b, PySem.W.exmOne K cls c = some b ∧ (b = true → ∀ a, H a = none → ts a cls d D σ H) ∧ (b = false → wEach K Wo D i r cls d σ H)
inductive Clauses (X : Cx) (n : Str) : List ExceptHandler → List (Bool × Value × Suit) → Prop
  | nil : Clauses X n [] []
  | cons {x : Str} {c : Value} {ts : Suit} {b₁ : Stmt} {more : List Stmt} {q1 q2 : Pos} {hds : List ExceptHandler} {l : List (Bool × Value × Suit)} (hc : Names X x c)
      (su : ∀ (a : Addr) (o : Obj) (cls : Value) (d : Option Addr) (pn : List (Addr × Obj)), L2N.Zn cls d o → (∃ vs, o.data = .fields vs) → PSs (X.suite a ((a, o) :: pn)) (b₁ :: more) (ts a cls d)) (r : Clauses X n hds l) :
      Clauses X n (.ExceptHandler (some (.Name x q1)) (some n) (b₁ :: more) q2 :: hds) ((true, c, ts) :: l)
  | bare {x : Str} {c : Value} {ts : Suit} {b₁ : Stmt} {more : List Stmt} {q1 q2 : Pos} {hds : List ExceptHandler} {l : List (Bool × Value × Suit)} (hc : Names X x c)
      (su : ∀ (a : Addr) (o : Obj) (cls : Value) (d : Option Addr) (pn : List (Addr × Obj)), L2N.Zn cls d o → (∃ vs, o.data = .fields vs) → PSs (X.suite a ((a, o) :: pn)) (b₁ :: more) (ts a cls d)) (r : Clauses X n hds l) :
      Clauses X n (.ExceptHandler (some (.Name x q1)) none (b₁ :: more) q2 :: hds) ((false, c, ts) :: l)
section
variable {X : Cx} {n : Str} {i : Nat} {body : List Stmt} {c₁ : ExceptHandler} {hds : List ExceptHandler} {l : List (Bool × Value × Suit)} {pos : Pos} {tb : WX → TS} {Wo : WX}
/-- how a suite of a named clause goes on -/
theorem suite_ends {pins : List (Addr × Obj)} {D : Ends} {f : Flow} {s : Shared} {a : Addr} {o : Obj} {q : Pos} {pn : List (Addr × Obj)} (ok : X.Ok) (nd : X.N.Nodup) (at_ : X.N[i]? = some n) (lc : X.env.kindOf n = some .local)
    (h : SP (X.suite a ((a, o) :: (pn ++ pins))) [] { nx := fun σ' H' => D.nx (σ'.set i none) H', rt := D.rt, bk := fun σ' H' => D.bk (σ'.set i none) H', ct := fun σ' H' => D.ct (σ'.set i none) H' } f s) (hpn : pn = X.pn) :
    wpAny (model X.prog X.w) X.A (do bindName X.env n .none; unbindBehindTheSuite X.env n q) (fun _ s2 => SP X pins D f s2) X.xe s := by
  subst hpn
  cases f with
  | ret u => obtain ⟨v, σ1, H1, S1, r1, q1⟩ := h; exact gone_ok (S1.unsuite ok) nd at_ lc fun s2 J => ⟨_, _, _, J, r1, q1⟩
  | next => obtain ⟨σ1, H1, S1, q1⟩ := h; exact gone_ok (S1.unsuite ok) nd at_ lc fun s2 J => ⟨_, _, J, q1⟩
  | brk => obtain ⟨σ1, H1, S1, q1⟩ := h; exact gone_ok (S1.unsuite ok) nd at_ lc fun s2 J => ⟨_, _, J, q1⟩
  | cont => obtain ⟨σ1, H1, S1, q1⟩ := h; exact gone_ok (S1.unsuite ok) nd at_ lc fun s2 J => ⟨_, _, J, q1⟩
theorem ps_try_each (hs : X.stack = X.env :: X.outer) (hf : X.env.frame = some X.env.locals) (nd : X.N.Nodup) (at_ : X.N[i]? = some n) (lc : X.env.kindOf n = some .local) (tk : L2N.Takes X Wo)
    (hb : ∀ (W : WX) (pn : List (Addr × Obj)) (xe : Value → Shared → Prop), L2N.Takes (X.tr pn xe) W → PassesOwn (model X.prog X.w) X.A X.env xe → PSs (X.tr pn xe) body (tb W))
    (hh : Clauses X n (c₁ :: hds) l) : PS X (.Try body (c₁ :: hds) [] [] pos) (fun D σ H => tb (wEach X.K Wo D i l) D σ H) := by
  refine ⟨fun pins s σ H D I h => ?_⟩
  have ok := I.ok
  have fr : X.A.frames = some (X.env :: X.outer) := ok.frames.trans (congrArg some hs)
  refine wpAny_Try_except (wpAny_mono ((hb (wEach X.K Wo D i l) (X.pn ++ pins) _ (fun u s' xx => ?_) PassesOwn.looking).run [] s σ H D (I.toTry _) h) (fun f s1 hsp => ?_) (fun e s1 he => he))
  · obtain ⟨a, B, sI, pins', σ', H', cls, d, rfl, J', nb, up, sky, na, os, ag, w⟩ := xx
    have J : Inv X pins σ' H' sI := J'.ofTry ok
    rw [hs] at sky
    show wpAny (model X.prog X.w) X.A (noteFrame (.ref a) X.env) _ _ _
    refine L2N.Sky.land L2N.Zn.steady fr hf sky fun h3 fl3 up3 => ?_
    have up03 := up.trans up3
    obtain ⟨o3, vs3, g3, z3, d3⟩ := fl3.there
    have out : a ∉ frs (X.env :: X.outer) := fun hm => by
      obtain ⟨_, o', e', hnf⟩ := fl3.2.2.1.mem hm
      rw [g3] at e'
      cases e'
      exact hnf _ d3
    have nL : a ≠ X.env.locals := fun z => out (List.mem_filterMap.mpr ⟨X.env, .head _, by rw [hf, z]⟩)
    have nF : a ∉ X.fs := fun hm => by
      obtain ⟨e, he, q⟩ := List.mem_filterMap.mp hm
      exact out (List.mem_filterMap.mpr ⟨e, .tail _ he, q⟩)
    have S3 := (show Inv X pins σ' H' { s' with heap := h3 } from J.landed nb fl3.1 up03 os ag).suite g3 d3 na nL nF
    have LT : PySem.W.Looks (model X.prog X.w) h3 (typeOf (.ref a)) cls := fun A Q E s k q => wpAny_typeOf_ref (k _ _ g3) (by rw [z3.1]; exact q)
    clear h
    revert w
    generalize c₁ :: hds = hdl at hh
    intro w
    induction hh with
    | nil =>
      refine wpAny_handleBy_nil ?_
      obtain ⟨_, _, _, oe, vs, T, oT, ts', g, hz, hd, h1, hr⟩ := id fl3
      unfold PySem.passOn
      refine wpAny_bind (wpAny_field g hd h1 ?_)
      rw [if_neg (show ¬ (Value.ref T == Value.none) = true by simp)]
      have fin : wpAny (model X.prog X.w) X.A (setFlight (.ref a) X.env.frame) (fun _ s4 => wpAny (model X.prog X.w) X.A (throw (.ref a) : Sem Flow) (SP X pins D) X.xe s4) X.xe { s' with heap := h3 } := by
        rw [hf]
        exact HandSPX.setFlight_upZ fl3 fun h4 hh4 up4 => wpAny_throw (tk _ _ ⟨a, B, sI, pins, σ', H', cls, d, rfl, J, nb, up03.trans up4, .inr (.inr (by rw [hs]; exact hh4)), na, os, ag, w⟩)
      first
        | exact wpAny_bind (wpAny_pure (wpAny_bind fin))
        | exact wpAny_bind fin
    | @cons x c ts b₁ more q1 q2 hds2 l2 hc su r ih =>
      obtain ⟨b, hb1, yes, no⟩ := w
      refine wpAny_handleBy_cons (codeAny_handlers_test ?_) (by intro q; cases q)
      have LM := PySem.W.exm_one (M := model X.prog X.w) S3.kIn LT hb1
      have named : ∀ {Q : Value → Shared → Prop} {E : Value → Shared → Prop}, Q c { s' with heap := h3 } → wpAny (model X.prog X.w) (X.A.mark (some (.ref a))) (eval (.Name x q1) X.env) Q E { s' with heap := h3 } := fun {Q E} q => by
        rcases hc with ⟨hg, hd0, hm | ⟨hm, hv, hn⟩⟩
        · exact ld_glob (X := X.suite a ((a, o3) :: (X.pn ++ pins))) S3 hg hm q hd0
        · exact ld_blt (X := X.suite a ((a, o3) :: (X.pn ++ pins))) S3 hg hm hv q hn hd0
      refine named (LM.here ?_)
      cases b with
      | false => exact ih (no rfl)
      | true =>
        refine codeAny_handlers_suite_as (HandSPX.lands_againZ fl3 fun h4 fl4 up4 => ?_)
        obtain ⟨o4, vs4, g4, z4, d4⟩ := fl4.there
        have S4 := (show Inv X pins σ' H' { s' with heap := h4 } from J.landed nb fl4.1 (up03.trans up4) os ag).suite g4 d4 na nL nF
        refine store_ok (X := X.suite a ((a, o4) :: (X.pn ++ pins))) (v := .ref a) S4 nd at_ (.inl lc) rfl (fun s5 S5 => ?_) (.inr lc)
        exact wpAny_mono ((su a o4 cls d (X.pn ++ pins) z4 ⟨_, d4⟩).run [] s5 _ H' _ S5 (yes rfl a na)) (fun f s6 hsp => suite_ends ok nd at_ lc hsp rfl) (fun _ _ z => z.elim)
    | @bare x c ts b₁ more q1 q2 hds2 l2 hc su r ih =>
      obtain ⟨b, hb1, yes, no⟩ := w
      refine wpAny_handleBy_cons (codeAny_handlers_test ?_) (by intro q; cases q)
      have LM := PySem.W.exm_one (M := model X.prog X.w) S3.kIn LT hb1
      have named : ∀ {Q : Value → Shared → Prop} {E : Value → Shared → Prop}, Q c { s' with heap := h3 } → wpAny (model X.prog X.w) (X.A.mark (some (.ref a))) (eval (.Name x q1) X.env) Q E { s' with heap := h3 } := fun {Q E} q => by
        rcases hc with ⟨hg, hd0, hm | ⟨hm, hv, hn⟩⟩
        · exact ld_glob (X := X.suite a ((a, o3) :: (X.pn ++ pins))) S3 hg hm q hd0
        · exact ld_blt (X := X.suite a ((a, o3) :: (X.pn ++ pins))) S3 hg hm hv q hn hd0
      refine named (LM.here ?_)
      cases b with
      | false => exact ih (no rfl)
      | true =>
        refine codeAny_handlers_suite (HandSPX.lands_againZ fl3 fun h4 fl4 up4 => ?_)
        obtain ⟨o4, vs4, g4, z4, d4⟩ := fl4.there
        have S4 := (show Inv X pins σ' H' { s' with heap := h4 } from J.landed nb fl4.1 (up03.trans up4) os ag).suite g4 d4 na nL nF
        refine wpAny_mono ((su a o4 cls d (X.pn ++ pins) z4 ⟨_, d4⟩).run [] _ _ H' _ S4 (yes rfl a na)) (fun f s6 hsp => ?_) (fun _ _ z => z.elim)
        cases f with
        | ret u => obtain ⟨v, σ1, H1, S1, r1, q1⟩ := hsp; exact ⟨_, _, _, S1.unsuite ok, r1, q1⟩
        | next => obtain ⟨σ1, H1, S1, q1⟩ := hsp; exact ⟨_, _, S1.unsuite ok, q1⟩
        | brk => obtain ⟨σ1, H1, S1, q1⟩ := hsp; exact ⟨_, _, S1.unsuite ok, q1⟩
        | cont => obtain ⟨σ1, H1, S1, q1⟩ := hsp; exact ⟨_, _, S1.unsuite ok, q1⟩
  · cases f with
    | ret u => obtain ⟨v, σ1, H1, J, r, q⟩ := hsp; exact ⟨v, σ1, H1, J.ofTry ok, r, q⟩
    | next => obtain ⟨σ1, H1, J, q⟩ := hsp; exact wpAny_execs_nil ⟨σ1, H1, J.ofTry ok, q⟩
    | brk => obtain ⟨σ1, H1, J, q⟩ := hsp; exact ⟨σ1, H1, J.ofTry ok, q⟩
    | cont => obtain ⟨σ1, H1, J, q⟩ := hsp; exact ⟨σ1, H1, J.ofTry ok, q⟩
end
end Kx

set_option maxHeartbeats 8000000
namespace Kx
open PySem PySem.Spec PyProof.Rows L2
/-! _law_raised -/
theorem takes0N {X : Cx} : L2N.Takes X (fun _ _ _ _ => False) := fun _ _ x => by
  obtain ⟨_, _, _, _, _, _, _, _, _, _, _, _, _, _, _, _, z⟩ := x
  exact z.elim
theorem pmk0N {X : Cx} {C : Addr} {bmB : List Value} {B newId initId : String} {x : Str} {p pos : Pos} (E : ErO X.K X.mg x C B newId initId bmB) (r : Raises X (.ref C)) (glob : Gl X x) (ndb : (x == ("__debug__" : Str)) = false := by decide) :
    L2N.PMk X (.Call (.Name x p) [] [] pos) (fun _ H Q => Q (.ref C) none H) := by
  intro pins s σ H Q I want
  refine wpAny_Call_Name_kw (ld_glob I glob E.m ?_ ndb)
  refine PySem.W.callWith_K0 I.kIn E.kp ?_
  show wpAny _ _ (call (.ref C) []) _ _ _
  obtain ⟨bm, N, nm, qn, bs, hdct, sn, sub, ab, col, dd, k0, k1, k2, k3, k5, mN, hC, hN, hni, T⟩ := exc_obj I.kIn E.q
  exact wpAny_call_exc_subT E.F T hC hN hni (fun h' a made => L2N.mk_of I made r want (I.hok.gone made.new)) (Nat.zero_le _)
/-- what comes of such an __init__, for a raise -/
theorem fin_ini {K : PySem.W.Frag} {C : Addr} {fs : List Str} {ys : List V} {H : Hp} {Q : XK} (T : OexC K C) (nf : ∀ f ∈ fs, PySem.W.findIn K (.ref C) f = some none) (len : ys.length = fs.length) (few : ys.length ≤ 1000) (q : ∀ d H', H d = none → Same H H' → H' d = some (.xd (flds fs ys)) → Q (.ref C) (some d) H') :
    ys.length ≤ 1000 ∧ ∀ a, H a = none → spIni K C fs (.ref a :: (ys ++ [])) (upd H a (exo a C none)) (fun v H2 => v = .non ∧ ∃ (d : Addr) (gs : List (Str × V)), H2 a = some (exo a C (some d)) ∧ H2 d = some (exd d gs) ∧ H d = none ∧ Q (.ref C) (some d) (upd (del H2 a) d (.xd gs))) (fun _ _ _ => False) := by
  refine ⟨few, fun a ha => ⟨a, ys, by rw [List.append_nil], len, T, nf, upd_same, fun d H' hd ne ea ed kp => ⟨rfl, d, _, ea, ed, ?_, ?_⟩⟩⟩
  · rw [upd_ne ne] at hd
    exact hd
  · rw [upd_ne ne] at hd
    refine q d _ hd (fun b o e => ?_) upd_same
    have nba := ne_of_none e ha
    rw [upd_ne (ne_of_none e hd), del_ne nba]
    exact kp b o (by rw [upd_ne nba]; exact e) nba
section
variable {X : Cx}
/-- return _law_kin(_law_e) in the suite -/
def tKinS (K : PySem.W.Frag) (Cs : Nat → Addr) (i : Nat) (a : Addr) (cls : Value) (d : Option Addr) : TE := fun σ H Q => σ[i]? = some (some (V.ref a)) ∧ ∃ (D : Addr) (bs : Nat → Bool), cls = .ref D ∧ (d = none ∨ ∃ (dd : Addr) (fs : List (Str × V)), d = some dd ∧ H dd = some (.xd fs)) ∧ ExcC K D ∧
  (∀ j, j < 53 → PySem.W.kitOne K (.ref D) (.ref (Cs j)) = some (bs j)) ∧ ∀ (q : Addr) (H' : Hp), H q = none → Same H H' → H' q = some (.lst ((said bs 53).map V.str)) → Q (.ref q) H'
theorem pe_kinS {K : PySem.W.Frag} {Cs : Nat → Addr} {i : Nat} {a : Addr} {oe : Obj} {cls : Value} {d : Option Addr} {pn : List (Addr × Obj)} {f : Addr} {fd : FuncData} {e : Expr} {q pos : Pos} {x : Str} (_hK : X.K = K) (G : FnHp X.prog X.w X.K X.mg X.base 1 f fd ["_law_e"] (spKinH K Cs)) (room : L2H.RoomH 1 (X.suite a ((a, oe) :: pn)).A) (hz : L2N.Zn cls d oe) (hf : ∃ vs, oe.data = .fields vs)
    (glob : Gl X x) (there : X.mg x = some (.ref f)) (kp : PySem.W.keepIn X.K (.ref f) = true) (bind : Binds X.K fd ["_law_e"] []) (he : PE (X.suite a ((a, oe) :: pn)) e (tVar i)) (ndb : (x == ("__debug__" : Str)) = false := by decide)
    (star : starEach [e] X.env = (false, eval e X.env) :: starEach [] X.env := by rfl) (plain : (backTo pos (starEach [] X.env)).any (·.1) = false := by rfl) :
    PE (X.suite a ((a, oe) :: pn)) (.Call (.Name x q) [e] [] pos) (tKinS K Cs i a cls d) := by
  obtain ⟨vs, hd⟩ := hf
  have hot : L2H.Hot1 (X.suite a ((a, oe) :: pn)).A (a, oe) := ⟨rfl, vs, hd, hz.2.2 vs hd⟩
  have call := pe_callHp (X := X.suite a ((a, oe) :: pn)) (q := q) (pos := pos) (x := x) (p := (a, oe)) G room hot List.mem_cons_self glob there kp bind (pa_cons he pa_nil star) ndb star plain
  refine ⟨fun pins s σ H Q I h => call.run pins s σ H Q I ?_⟩
  obtain ⟨hv, D, bs, hc, hx, ec, ks, k⟩ := h
  exact ⟨_, hv, D, bs, rfl, ⟨rfl, d, ⟨by rw [← hc]; exact hz.1, hz.2.1⟩, ⟨vs, hd⟩, hx⟩, ec, ks, k⟩
end
/-- what is known of the classes of errors for the law -/
structure KinF (K : PySem.W.Frag) (mg : Str → Option Value) (Cs : Nat → Addr) (CS : Addr) : Prop where
  ec : ∀ j, j < 53 → ExcC K (Cs j)
  kk : ∀ i j, i < 53 → j < 53 → PySem.W.kitOne K (.ref (Cs i)) (.ref (Cs j)) = some (decide (j = i))
  mS : mg "SearchError" = some (.ref CS)
  x1 : ∀ i, i = 4 ∨ i = 13 ∨ i = 35 → PySem.W.exmOne K (.ref (Cs i)) (.ref (Cs 12)) = some false
  x2 : ∀ i, i = 4 ∨ i = 13 ∨ i = 35 → PySem.W.exmOne K (.ref (Cs i)) (.ref (Cs 21)) = some false
  x3 : ∀ i, i = 4 ∨ i = 13 ∨ i = 35 → PySem.W.exmOne K (.ref (Cs i)) (.ref CS) = some true
  s4 : PySem.W.subIn K (.ref (Cs 4)) (.type "BaseException") = some true
  t4 : PySem.W.typeIn K (.ref (Cs 4)) = some (.type "type")
theorem one_of : ∀ i : Fin 53, (List.range 53).filter (fun j => decide (j = i.1)) = [i.1] := by decide +kernel
theorem said_one {i : Nat} (h : i < 53) : said (fun j => decide (j = i)) 53 = [nm i] := by
  unfold said
  rw [one_of ⟨i, h⟩]
  rfl
/-- which class is raised -/
def rais (n : Int) : Nat := if n = 0 then 13 else if n = 1 then 4 else 35
def spRaised : Sp := fun vs H Q _ => ∃ (k n : Int) (z : Str), vs = [.int k, .int n, .str z] ∧ ∀ (q : Addr) (H' : Hp), H q = none → Same H H' → H' q = some (.lst [.str (nm (rais k))]) → Q (.ref q) H'
section
variable {P : Program} {w : World} {K : PySem.W.Frag} {mg : Str → Option Value} {base : Heap} {Cs : Nat → Addr} {CS : Addr}
abbrev nRaised : List Str := ["_law_way", "_law_at", "_law_word_here", "_law_e"]
theorem scRaised : FnScope nRaised ["_law_way", "_law_at", "_law_word_here"] (defScope sLRaised) := ⟨rfl, rfl, rfl, by decide +kernel, rfl, by decide +kernel, by decide +kernel⟩
theorem ok_raised {f fk : Addr} {fd fdk : FuncData} (F : Fun K "_law_raised" "_law_raised" sLRaised f fd) (m : mg "_law_raised" = some (.ref f)) (A : AllE P w K mg base Cs) (KF : KinF K mg Cs CS) (C : KinC mg Cs) (Fk : Fun K "_law_kin" "_law_kin" sLKin fk fdk) (mk : mg "_law_kin" = some (.ref fk)) : HasF P w K mg base "_law_raised" 3 ["_law_way", "_law_at", "_law_word_here"] spRaised := by
  refine ⟨f, fd, ?_, m, F.kp, F.binds fun _ _ _ _ _ _ us hl => match us, hl with | [_, _, _], _ => rfl⟩
  have G := ok_kinH (P := P) (w := w) (base := base) Fk C
  refine F.ok scRaised (fun vs H Q E h => ?_) (fun cdv Ar outer s H vs Q E hr h => ?_)
  · obtain ⟨k, n, z, rfl, _⟩ := h
    rfl
  · obtain ⟨k, n, z, rfl, q⟩ := h
    obtain ⟨_, _, E13⟩ := A.own 13 _ (by decide) rfl
    obtain ⟨_, _, E35⟩ := A.own 35 _ (by decide) rfl
    obtain ⟨_, _, _, _, E4⟩ := A.bare 4 (by decide) rfl
    have hr2 : Room 2 _ := hr
    have bk : Binds K fdk ["_law_e"] [] := Fk.binds fun _ _ _ _ _ _ us hl => match us, hl with | [_], _ => rfl
    refine ⟨_, pss_one (ps_try_each (n := "_law_e") (i := 3) (Wo := fun _ _ _ _ => False) rfl rfl scRaised.nd rfl rfl takes0N
      (fun W pn xe tk _ => (pss_cons (ps_if (pt_cmpR op_eq (pv 0) pe_int (nomark _)) (pss_one (L2N.ps_raise rfl tk (pmkN E13.T E13.iC E13.tI E13.G hr2 E13.b pass0 (by rfl) E13.m (pa_cons (pv 1) (pa_cons (pv 2) pa_nil))))) pss_nil)
    (pss_cons (ps_if (pt_cmpR op_eq (pv 0) pe_int (nomark _)) (pss_one (L2N.ps_raise rfl tk (pmk0N E4 (raises_own KF.s4 KF.t4) (by rfl)))) pss_nil)
    (pss_one (L2N.ps_raise rfl tk (pmkN E35.T E35.iC E35.tI E35.G hr2 E35.b pass0 (by rfl) E35.m (pa_cons (pv 1) pa_nil)))))))
      (.bare (c := .ref (Cs 12)) ⟨rfl, by decide, .inl (C.m 12 (by decide))⟩ (fun a oe cls d pn hz hf => pss_one (ps_ret (pe_lst (pa_cons pe_str pa_nil))))
        (.bare (c := .ref (Cs 21)) ⟨rfl, by decide, .inl (C.m 21 (by decide))⟩ (fun a oe cls d pn hz hf => pss_one (ps_ret (pe_lst (pa_cons pe_str pa_nil))))
          (.cons (c := .ref CS) ⟨rfl, by decide, .inl KF.mS⟩ (fun a oe cls d pn hz hf => pss_one (ps_ret (pe_kinS (K := K) (i := 3) rfl G (L2H.roomH_mark (hr2.mono (by decide)) _) hz hf (by rfl) mk Fk.kp bk (pv 3)))) .nil)))), ?_⟩
    -- the clauses, whatever is raised
    have caught : ∀ (i : Nat) (d : Option Addr) (H2 : Hp), (i = 4 ∨ i = 13 ∨ i = 35) → i < 53 → (d = none ∨ ∃ (dd : Addr) (fs : List (Str × V)), d = some dd ∧ H2 dd = some (.xd fs)) → Same H H2 → nm (rais k) = nm i →
        wEach K (fun _ _ _ _ => False) { nx := fun _ H' => Q V.non H', rt := Q } 3 [(false, Value.ref (Cs 12), fun a cls d => tRet (tLst (tCons (tC (V.str (Str.ofString "refused"))) tNil))),
          (false, Value.ref (Cs 21), fun a cls d => tRet (tLst (tCons (tC (V.str (Str.ofString "refused"))) tNil))), (true, Value.ref CS, fun a cls d => tRet (tKinS K Cs 3 a cls d))] (.ref (Cs i)) d [some (.int k), some (.int n), some (.str z), none] H2 := fun i d H2 hi lt hd s e => by
      refine ⟨false, KF.x1 i hi, (fun z => nomatch z), fun _ => ⟨false, KF.x2 i hi, (fun z => nomatch z), fun _ => ⟨true, KF.x3 i hi, fun _ a ha => ?_, (fun z => nomatch z)⟩⟩⟩
      refine ⟨rfl, Cs i, fun j => decide (j = i), rfl, hd, KF.ec i lt, fun j hj => KF.kk i j lt hj, fun r H' hr s' er => ?_⟩
      refine q r H' (s.free hr) (s.trans s') ?_
      rw [er, said_one lt, e]
      rfl
    refine ⟨_, rfl, rfl, _, rfl, ?_⟩
    rw [dec_int]
    by_cases h0 : k = 0
    · subst h0
      rw [show ((0 : Int) == 0) = true from rfl]
      refine iteT ?_
      refine ⟨_, rfl, _, rfl, fin_ini (H := H) (Q := fun cls d H' => wEach K (fun _ _ _ _ => False) { nx := fun _ H' => Q V.non H', rt := Q } 3 [(false, Value.ref (Cs 12), fun a cls d => tRet (tLst (tCons (tC (V.str (Str.ofString "refused"))) tNil))), (false, Value.ref (Cs 21), fun a cls d => tRet (tLst (tCons (tC (V.str (Str.ofString "refused"))) tNil))), (true, Value.ref CS, fun a cls d => tRet (tKinS K Cs 3 a cls d))] cls d [some (.int 0), some (.int n), some (.str z), none] H') (ys := [.int n, .str z]) E13.T E13.nf rfl (by show 2 ≤ 1000; decide) fun d H' hd s ed => ?_⟩
      exact caught 13 _ H' (by decide) (by decide) (.inr ⟨d, _, rfl, ed⟩) s rfl
    · rw [beq_false_of_ne h0]
      refine iteF ?_
      refine ⟨_, rfl, rfl, _, rfl, ?_⟩
      rw [dec_int]
      by_cases h1 : k = 1
      · subst h1
        rw [show ((1 : Int) == 1) = true from rfl]
        exact iteT (caught 4 none H (by decide) (by decide) (.inl rfl) (Same.refl _) rfl)
      · rw [beq_false_of_ne h1]
        have er : rais k = 35 := by
          unfold rais
          rw [if_neg h0, if_neg h1]
        refine iteF ?_
        refine ⟨_, rfl, fin_ini (H := H) (Q := fun cls d H' => wEach K (fun _ _ _ _ => False) { nx := fun _ H' => Q V.non H', rt := Q } 3 [(false, Value.ref (Cs 12), fun a cls d => tRet (tLst (tCons (tC (V.str (Str.ofString "refused"))) tNil))), (false, Value.ref (Cs 21), fun a cls d => tRet (tLst (tCons (tC (V.str (Str.ofString "refused"))) tNil))), (true, Value.ref CS, fun a cls d => tRet (tKinS K Cs 3 a cls d))] cls d [some (.int k), some (.int n), some (.str z), none] H') (ys := [.int n]) E35.T E35.nf rfl (by show 1 ≤ 1000; decide) fun d H' hd s ed => ?_⟩
        exact caught 35 _ H' (by decide) (by decide) (.inr ⟨d, _, rfl, ed⟩) s (by rw [er])
end
end Kx

set_option maxHeartbeats 4000000
namespace Kx
open PySem PySem.Spec PyProof.Rows L2
abbrev QT : VK := fun v _ => v = .bl true
abbrev EF : XK := fun _ _ _ => False
/-- the body of the law's def, asked at the call that the row makes (nothing is being shown by repr there) -/
def LawBody (P : Program) (w : World) (K : PySem.W.Frag) (mg : Str → Option Value) (base : Heap) (N : List Str) (x : Str) (st : Stmt) (fa : Addr) (k : Nat) : Prop :=
  ∀ (cdv : Value) (s : Shared) (H : Hp) (a : Addr) (ns : List Int), Room k (callerA.deeper (envOfC x (defScope st) s.heap.objs.size fa cdv)) → SqL K H a (ns.map V.int) → ns.length ≤ 63 →
    ∃ t, PSs (cxOf CX0 P w K mg base N x (defScope st) fa cdv callerA [] s H EF).nox (defBody st) t ∧ t { nx := fun _ H' => QT .non H', rt := QT } (start N [.ref a]) H
section
variable {P : Program} {w : World} {K : PySem.W.Frag} {mg mb : Str → Option Value} {k : Nat} {fa a : Addr} {fd : FuncData} {x y : Str} {st : Stmt} {N : List Str}
theorem law_at {base : Heap} (F : Fun K x x st fa fd) (S : FnScope N [y] (defScope st)) (hr : Room (k + 1) callerA) (B : LawBody P w K mg base N x st fa k) (bind : ∀ (s : Shared) (u : Value), BindsTo s fd ⟨[u], []⟩ [(y, u)])
    {s : Shared} {H : Hp} {ns : List Int} (e0 : Env0 P w K mg base callerA [] s H) (hS : SqL K H a (ns.map V.int)) (hn : ns.length ≤ 63) :
    codeAny (model P w) callerA (.call (.ref fa) ⟨[.ref a], []⟩) (CR CX0 [] P w H s QT EF) s := by
  obtain ⟨oc, od, kV, doc, pm, an, cdv, ct, osl, rfl, lk, hcd⟩ := F.ex
  have KX : K.In s.heap := e0.mod.kin.keeps fun b o e => (e0.bs b o e).1
  have noLim : s.heap.NoLimit := e0.mod.nolimit.keeps fun b o e => (e0.bs b o e).1
  have kinds : ∀ z ∈ [(y, Value.ref a)], (defScope st).names.lookup z.1 = some .local ∨ ((defScope st).names.lookup z.1 = some .cell ∧ ((cellsFrom (s.heap.objs.size + 1) (defScope st).names []).lookup z.1).isSome = true) := fun z hz => by
    obtain rfl : z = (y, Value.ref a) := by simpa using hz
    rcases S.par y (.head _) with q | q
    · exact .inl q
    · exact .inr ⟨q, PySem.W.cellsFrom_some _ _ _ (.inl q)⟩
  refine codeAny_call_function hr.depth (KX _ _ lk) rfl S.co S.gen rfl (PySem.W.codeRec_of KX hcd) (bind s (.ref a) _ _ _ _ (wpAny_newFunctionEnv_cells S.kind kinds fun env he s1 z => ?_))
  subst he
  obtain ⟨t, ht, hq⟩ := B cdv s H a ns (hr.deeper _) hS hn
  refine ⟨noLim.keeps z.toInCall.keep, codeAny_func (wpAny_mono (ht.nox.run [] s1 (start N [.ref a]) H _ (inv_start S hr.hd e0 rfl (.cons rfl .nil) z) hq) (fun fl s' got => ?_) fun e s' got => got)⟩
  cases fl with
  | ret u => obtain ⟨v, σ', H', J, rv, q⟩ := got; exact ⟨v, H', J.os, J.bare, J.base, J.hok, rv, q⟩
  | next => obtain ⟨σ', H', J, q⟩ := got; exact absurd q (fun z => nomatch z)
  | brk => obtain ⟨_, _, _, q⟩ := got; exact q.elim
  | cont => obtain ⟨_, _, _, q⟩ := got; exact q.elim
/-- behind the top nothing is tracked but the script -/
theorem env_at {s : Shared} {H : Hp} {vs : List Value} (KX : K.In s.heap) (main : s.heap.Ns mainGlobals mg) (blt : s.heap.Ns builtinsNs mb) (boot : ∀ x : Str, x ≠ "__name__" → mb x = bootBuiltins x) (lim : s.heap.NoLimit) (gens : s.gens = #[])
    (at_ : s.heap.get? a = some { cls := .type "list", data := .seq vs.toArray }) (ok : HOk P w H s.heap) (only : ∀ b, b ≠ a → H b = none) (mine : H a = none ∨ K.lookup a = none) : Env0 P w K mg (hidT s.heap H) callerA [] s H := by
  have keepK : K.In (hidT s.heap H) := fun b o e => hidT_get (KX b o e) (by
    by_cases z : b = a
    · subst z
      rcases mine with q | q
      · exact q
      · rw [q] at e; cases e
    · exact only b z)
  have keepN : ∀ {b : Addr} {m : Str → Option Value}, s.heap.Ns b m → (hidT s.heap H).Ns b m := by
    rintro b m ⟨o, es, ep, e, d, r⟩
    refine ⟨o, es, ep, hidT_get e (only b fun z => ?_), d, r⟩
    subst z
    rw [at_] at e
    cases e
    cases d
  obtain ⟨mc, l1, l2⟩ := lim
  exact ⟨rfl, ⟨keepK, keepN main, ⟨mb, keepN blt, boot⟩, ⟨mc, keepN l1, l2⟩⟩, fun b o e => of_hidT e, Nat.le_of_eq (hidT_size _ _), trivial, fun b hb => (nomatch hb), ok, .of_eq gens⟩
theorem law_end {s : Shared} {vs : List Value} {ns : List Int} (KX : K.In s.heap) (main : s.heap.Ns mainGlobals mg) (blt : s.heap.Ns builtinsNs mb) (boot : ∀ x : Str, x ≠ "__name__" → mb x = bootBuiltins x) (lim : s.heap.NoLimit) (gens : s.gens = #[])
    (at_ : s.heap.get? a = some { cls := .type "list", data := .seq vs.toArray }) (hints : IntsAre vs ns) (hn : ns.length ≤ 63)
    (run : ∀ (base : Heap) (H : Hp), K.In base → base.Ns mainGlobals mg → Env0 P w K mg base callerA [] s H → SqL K H a (ns.map V.int) → codeAny (model P w) callerA (.call (.ref fa) ⟨[.ref a], []⟩) (CR CX0 [] P w H s QT EF) s) :
    codeAny (model P w) callerA (.call (.ref fa) ⟨[.ref a], []⟩) (fun r s' => r = .ok (.ret (.bool true)) ∧ OldK s.heap s'.heap ∧ s'.os = s.os ∧ AllBare s'.gens) s := by
  have rv := vals_ints hints
  have fits : (ns.map V.int).length ≤ sizeLine := by rw [List.length_map]; exact Nat.le_of_lt (small1000 (by omega))
  have go : ∀ H : Hp, (∀ b, b ≠ a → H b = none) → (H a = none ∧ SqL K H a (ns.map V.int) ∨ K.lookup a = none ∧ H a = some (.frz { cls := .type "list", data := .seq vs.toArray } (.lst (ns.map V.int)))) →
      codeAny (model P w) callerA (.call (.ref fa) ⟨[.ref a], []⟩) (fun r s' => r = .ok (.ret (.bool true)) ∧ OldK s.heap s'.heap ∧ s'.os = s.os ∧ AllBare s'.gens) s := by
    intro H only mine
    have ok : HOk P w H s.heap := fun b u e => by
      by_cases z : b = a
      · subst z
        rcases mine with ⟨q, _⟩ | ⟨_, q⟩
        · rw [q] at e; cases e
        · rw [q] at e
          cases e
          exact ⟨at_, fits, vs, _, rv, at_⟩
      · rw [only b z] at e; cases e
    have e0 := env_at (P := P) (w := w) KX main blt boot lim gens at_ ok only (mine.elim (fun q => .inl q.1) fun q => .inr q.1)
    refine codeAny_mono (run _ H e0.mod.kin e0.mod.glob e0 (mine.elim (fun q => q.2) fun q => .inl (.inr ⟨_, q.2⟩))) fun r s' got => ?_
    rcases r with e | (_ | _ | _ | u)
    · exact got.elim
    · exact got.elim
    · exact got.elim
    · exact got.elim
    · obtain ⟨v, H', os, bare, un, ok', rel, q⟩ := got
      obtain rfl : v = .bl true := q
      obtain rfl : u = Value.bool true := rel
      refine ⟨rfl, OldK.of_keep fun b o e => ?_, os, bare⟩
      cases q : H b with
      | none => exact un.keep b o e q (fun z => (nomatch z)) (fun z => (nomatch z))
      | some u =>
        have z : b = a := Classical.byContradiction fun z => by rw [only b z] at q; cases q
        subst z
        rcases mine with ⟨q2, _⟩ | ⟨_, q2⟩
        · rw [q2] at q; cases q
        · rw [at_] at e
          cases e
          exact (ok' b _ (un.frzs b _ _ q2)).1
  cases hk : K.lookup a with
  | some o =>
    have e := KX a o hk
    rw [at_] at e
    cases e
    exact go (fun _ => none) (fun _ _ => rfl) (.inl ⟨rfl, .inr ⟨_, vs.toArray, _, hk, rfl, rfl, rfl, by rw [List.size_toArray, hints.length]; exact Nat.le_of_lt (small1000 (by omega)), by simpa using rv⟩⟩)
  | none => exact go (fun b => if b = a then some (.frz { cls := .type "list", data := .seq vs.toArray } (.lst (ns.map V.int))) else none) (fun b z => if_neg z) (.inr ⟨hk, if_pos rfl⟩)
end
theorem law_walk {l : PySem.W.OpenLaw} {q : Program} {loose : List Str} {XP : (Str → Option Value) → Heap → Prop} {YP : World → Heap → Prop} {d : DefRec} {K : Params → PySem.W.Frag} (hn : l.most = some 63) (hdf : d.params.defaults = []) (hY : ∀ (w : World) (h : Heap), YP w h → (K w.params).In h)
    (F : ∀ (w : World) (mg : Str → Option Value) (fa : Addr) (h : Heap), (K w.params).In h → h.Ns mainGlobals mg → mg d.name = some (.ref fa) →
      ∀ (base : Heap) (s : Shared) (H : Hp) (a : Addr) (ns : List Int), (K w.params).In base → base.Ns mainGlobals mg → Env0 l.prog w (K w.params) mg base callerA [] s H → SqL (K w.params) H a (ns.map V.int) → ns.length ≤ 63 →
        codeAny (model l.prog w) callerA (.call (.ref fa) ⟨[.ref a], []⟩) (CR CX0 [] l.prog w H s QT EF) s) : PySem.W.WalkO q loose XP YP l.row.toRowW d [] (fun f vs => PySem.call f vs) :=
  Att.attach_call hn hdf fun w s₀ s₁ mg mb fa o pm cd doc a vs ns G Y ho hd hcd hmg hobj hints hlen hg =>
    law_end (hY w _ Y) G.T.g G.T.b G.T.builtins G.T.nolimit hg hobj hints hlen fun base H kin main e0 hS => F w mg fa _ (hY w _ Y) G.T.g hmg base s₁ H a ns kin main e0 hS hlen
end Kx


set_option maxHeartbeats 4000000
namespace Kx
open PySem PySem.Spec PyProof.Rows L2
/-! two lists of whatever things: of other lengths, or with the very same things at each place -/
theorem eqV_self : ∀ x : V, flatV x = true → eqV x x = true
  | .non, _ => rfl
  | .bl b, _ => by simp [eqV]
  | .int i, _ => by simp [eqV]
  | .str z, _ => by simp [eqV]
section
variable {X : Cx}
def rNeL (K : PySem.W.Frag) : R2 := fun x y H Q => ∃ a b xs ys, x = .ref a ∧ y = .ref b ∧ SqL K H a xs ∧ SqL K H b ys ∧ ((xs.length ≠ ys.length ∧ Q (.bl true) H) ∨ (xs = ys ∧ (∀ z ∈ xs, flatV z = true ∨ ∃ c, z = .ref c) ∧ Q (.bl false) H))
theorem op_neL (hu : X.A.units + 64 < cLine) : OpR X (compareOp .NotEq) (rNeL X.K) := by
  intro pins s σ H x y v u Q I rx ry h
  obtain ⟨a, b, xs, ys, rfl, rfl, ha, hb, h⟩ := h
  obtain rfl : v = Value.ref a := rx
  obtain rfl : u = Value.ref b := ry
  obtain ⟨its, rv, pl, hz⟩ := I.list ha
  obtain ⟨ius, ru, pu, hw⟩ := I.list hb
  have l1 := rv.length
  have l2 := ru.length
  rcases h with ⟨ne, q⟩ | ⟨rfl, fl, q⟩
  · exact SeqAt.RcNeAt.lists_lengths pl.isList pu.isList (by simp only [List.size_toArray, bne_iff_ne, ne_eq]; omega) (by omega) X.prog X.w X.xe _ ⟨.bl true, H, I, rfl, q⟩
  · have e := SeqAt.RcNeAt.lists (e := fun _ => true) (A := X.A) pl.isList pu.isList (by simp only [List.size_toArray]; omega) (by omega) fun j h1 h2 => by
      have hj : j < xs.length := by simp only [List.size_toArray] at h1; omega
      obtain ⟨v1, e1, r1⟩ := rv.get (List.getElem?_eq_getElem hj)
      obtain ⟨v2, e2, r2⟩ := ru.get (List.getElem?_eq_getElem hj)
      have g1 : its.toArray[j] = v1 := by
        have := (List.getElem?_eq_some_iff.mp e1).2
        simpa using this
      have g2 : ius.toArray[j] = v2 := by
        have := (List.getElem?_eq_some_iff.mp e2).2
        simpa using this
      rw [g1, g2]
      rcases fl xs[j] (List.getElem_mem hj) with f | ⟨c, ec⟩
      · have z := eqAt_V (A := X.A.in1) (s := s) r1 r2 f f
        rw [eqV_self _ f] at z
        exact z
      · rw [ec] at r1 r2
        obtain rfl : v1 = Value.ref c := r1
        obtain rfl : v2 = Value.ref c := r2
        exact SeqAt.EqAt.same _
    refine e X.prog X.w X.xe _ ⟨.bl false, H, I, ?_, q⟩
    show Value.bool _ = Value.bool false
    simp
end
end Kx

set_option maxHeartbeats 8000000
namespace Kx
open PySem PySem.Spec PyProof.Rows L2
/-! the law -/
abbrev NLaw : List Str := ["_law_script", "_law_hand_here", "_law_at", "_law_word_here", "_law_odd_here", "_law_k", "_law_made", "_law_error", "_law_name", "_law_told", "_law_due", "_law_way", "_law_base"]
theorem scLaw : FnScope NLaw ["_law_script"] (defScope sLaw) := ⟨rfl, rfl, rfl, by decide +kernel, rfl, by decide +kernel, by decide +kernel⟩
/-- what the law rests on -/
structure All0 (P : Program) (w : World) (K : PySem.W.Frag) (mg : Str → Option Value) (base : Heap) (Cs : Nat → Addr) (CS : Addr) : Prop where
  hand : HasF P w K mg base "_law_hand" 1 ["_law_script"] (spHand K)
  draw : HasF P w K mg base "_law_draw" 2 ["_law_hand_here", "_law_many"] spDraw
  word : HasF P w K mg base "_law_word" 3 ["_law_hand_here", "_law_most"] spWord
  odd : HasF P w K mg base "_law_odd" 4 ["_law_hand_here"] spOdd
  first : HasF P w K mg base "_law_first" 3 ["_law_at", "_law_word_here", "_law_odd_here"] (spMade Cs 0 20)
  second : HasF P w K mg base "_law_second" 3 ["_law_at", "_law_word_here", "_law_odd_here"] (spMade Cs 20 18)
  third : HasF P w K mg base "_law_third" 3 ["_law_at", "_law_word_here", "_law_odd_here"] (spMade Cs 38 15)
  kin : HasF P w K mg base "_law_kin" 1 ["_law_e"] (spKin K Cs)
  raised : HasF P w K mg base "_law_raised" 3 ["_law_way", "_law_at", "_law_word_here"] spRaised
  F : KinF K mg Cs CS
  mV : mg "ValueError" = none
  mI : mg "isinstance" = none
  kS : ∀ j, j < 53 → PySem.W.kitOne K (.ref (Cs j)) (.ref CS) = some true
  kV : ∀ j, j < 53 → PySem.W.kitOne K (.ref (Cs j)) (.type "ValueError") = some true
  eS : ExcC K CS
  sC : ∀ j, j < 53 → PySem.W.kitOne K (.ref CS) (.ref (Cs j)) = some false
  sV : PySem.W.kitOne K (.ref CS) (.type "ValueError") = some true
  ES : ∃ B newId initId bmB, ErO K mg "SearchError" CS B newId initId bmB
theorem Kd.okW {H : Hp} {x : V} {n : String} (h : Kd H x n) : okW x := by
  cases h with
  | non => exact .inl rfl
  | bl b => exact .inl rfl
  | int i => exact .inl rfl
  | str z => exact .inl rfl
  | lst a xs h => exact .inr ⟨a, rfl⟩
  | tup a xs h => exact .inr ⟨a, rfl⟩
  | dct a xs h => exact .inr ⟨a, rfl⟩
/-- told != due is false -/
theorem alike_ne {K : PySem.W.Frag} {H : Hp} {l1 l2 : Addr} {xs ys : List V} {Q : VK} (h1 : H l1 = some (.lst xs)) (h2 : H l2 = some (.lst ys)) (al : Alike H xs ys) (q : Q (.bl false) H) : (rNeL K (.ref l1) (.ref l2) H Q) ∨ (rNeD K (.ref l1) (.ref l2) H Q) := by
  rcases al with ⟨e, ok⟩ | ⟨t1, t2, n, rfl, rfl, g1, g2⟩
  · exact .inl ⟨l1, l2, xs, ys, rfl, rfl, SqL.of h1, SqL.of h2, .inr ⟨e, ok, q⟩⟩
  · refine .inr ⟨.list [.tuple [.int n]], .list [.tuple [.int n]], .lst (SqL.of h1) (.cons (.tup (SqT.of g1) (.cons (.int n) .nil)) .nil), .lst (SqL.of h2) (.cons (.tup (SqT.of g2) (.cons (.int n) .nil)) .nil), rfl, rfl, ?_⟩
    rw [PySem.SeqAt.eqv_refl _ rfl]
    exact q
section
variable {P : Program} {w : World} {K : PySem.W.Frag} {mg : Str → Option Value} {base : Heap} {Cs : Nat → Addr} {CS : Addr}
theorem law_body {fa : Addr} (T : Bl mg) (L : All0 P w K mg base Cs CS) : LawBody P w K mg base NLaw "law" sLaw fa 5 := by
  intro cdv s H sa ns hr hS hn'
  obtain ⟨f1, d1, Hd⟩ := L.hand; obtain ⟨f2, d2, D⟩ := L.draw; obtain ⟨f3, d3, W⟩ := L.word; obtain ⟨f4, d4, O⟩ := L.odd; obtain ⟨f5, d5, M1⟩ := L.first; obtain ⟨f6, d6, M2⟩ := L.second; obtain ⟨f7, d7, M3⟩ := L.third
  obtain ⟨f8, d8, Kn⟩ := L.kin; obtain ⟨f9, d9, Rs⟩ := L.raised; obtain ⟨_, _, _, _, ES⟩ := L.ES
  have hr1 : Room 1 _ := hr.mono (by decide)
  have hr2 : Room 2 _ := hr.mono (by decide)
  have hr3 : Room 3 _ := hr.mono (by decide)
  have hr4 : Room 4 _ := hr.mono (by decide)
  refine ⟨_, (pss_cons (ps_set (i := 1) scLaw.nd rfl (Or.inl rfl) (pe_call Hd.G hr1 (by rfl) Hd.m Hd.kp Hd.b .nil pass0 (pa_cons (pv 0) pa_nil)))
    (pss_cons (ps_set (i := 2) scLaw.nd rfl (Or.inl rfl) (pe_call D.G hr2 (by rfl) D.m D.kp D.b .nil pass0 (pa_cons (pv 1) (pa_cons (pe_op op_pow pe_int pe_int) pa_nil))))
    (pss_cons (ps_set (i := 3) scLaw.nd rfl (Or.inl rfl) (pe_call W.G hr3 (by rfl) W.m W.kp W.b .nil pass0 (pa_cons (pv 1) (pa_cons pe_int pa_nil))))
    (pss_cons (ps_set (i := 4) scLaw.nd rfl (Or.inl rfl) (pe_call O.G hr4 (by rfl) O.m O.kp O.b .nil pass0 (pa_cons (pv 1) pa_nil)))
    (C8.pss_cut (ps_if (pt_cmpR op_eq (pe_call D.G hr2 (by rfl) D.m D.kp D.b .nil pass0 (pa_cons (pv 1) (pa_cons pe_int pa_nil))) pe_int (nomark _)) (pss_cons (ps_set (i := 4) scLaw.nd rfl (Or.inl rfl) (pe_op op_add pe_int (pe_call D.G hr2 (by rfl) D.m D.kp D.b .nil pass0 (pa_cons (pv 1) (pa_cons pe_int pa_nil)))))
    (pss_one (ps_for PassesOwn.never rfl (pi_range1 (by rfl) T.range (pa_cons pe_int pa_nil)) (pg_name (i := 5) scLaw.nd rfl (.inl rfl)) (pss_one (ps_set (i := 4) scLaw.nd rfl (Or.inl rfl) (pe_callTy call_int1 (by rfl) T.int (by decide +kernel) (pa_cons (pe_op op_mulW (pv 4) (pe_op op_pow pe_int pe_int)) pa_nil))))))) pss_nil)
    (C8.pss_cut (ps_set (i := 6) scLaw.nd rfl (Or.inl rfl) (pe_op op_cat (pe_op op_cat (pe_call M1.G hr3 (by rfl) M1.m M1.kp M1.b .nil pass0 (pa_cons (pv 2) (pa_cons (pv 3) (pa_cons (pv 4) pa_nil)))) (pe_call M2.G hr3 (by rfl) M2.m M2.kp M2.b .nil pass0 (pa_cons (pv 2) (pa_cons (pv 3) (pa_cons (pv 4) pa_nil))))) (pe_call M3.G hr3 (by rfl) M3.m M3.kp M3.b .nil pass0 (pa_cons (pv 2) (pa_cons (pv 3) (pa_cons (pv 4) pa_nil))))))
    (C8.pss_cut (ps_for PassesOwn.never rfl (pi_list (pv 6)) (pg_tup (n := 4) rfl (pgs_cons (pg_name (i := 7) scLaw.nd rfl (.inl rfl)) (pgs_cons (pg_name (i := 8) scLaw.nd rfl (.inl rfl)) (pgs_cons (pg_name (i := 9) scLaw.nd rfl (.inl rfl)) (pgs_cons (pg_name (i := 10) scLaw.nd rfl (.inl rfl)) pgs_nil)))))
      (pss_one (ps_if (PW.pt (pw_or (pt_cmpR ((op_neL hr.units).or (op_neD hr.units)) (pv 9) (pv 10) (nomark _)) (pw_or (pt_not (pt_val (pe_callB (call_isV (K := K) (Pz := PzC) rfl pz_calm) (by rfl) L.mI (by decide +kernel) (pa_cons (pv 7) (pa_cons (pe_glob (v := .ref CS) rfl L.F.mS rfl) pa_nil))))) (pw_or (pt_not (pt_val (pe_callB (call_isV (K := K) (Pz := PzC) rfl pz_calm) (by rfl) L.mI (by decide +kernel) (pa_cons (pv 7) (pa_cons (pe_bltn (v := .ty "ValueError") (by rfl) L.mV (by decide +kernel) rfl) pa_nil))))) (pw_or1 (pt_cmpR (op_neL hr.units) (pe_call Kn.G hr1 (by rfl) Kn.m Kn.kp Kn.b .nil pass0 (pa_cons (pv 7) pa_nil)) (pe_lst (pa_cons (pv 8) pa_nil)) (nomark _))))))) (pss_one ps_never) pss_nil)))
    (C8.pss_cut (ps_set (i := 11) scLaw.nd rfl (Or.inl rfl) (pe_call D.G hr2 (by rfl) D.m D.kp D.b .nil pass0 (pa_cons (pv 1) (pa_cons pe_int pa_nil))))
    (C8.pss_cut (ps_if (pt_cmpR (op_neL hr.units) (pe_call Rs.G hr3 (by rfl) Rs.m Rs.kp Rs.b .nil pass0 (pa_cons (pv 11) (pa_cons (pv 2) (pa_cons (pv 3) pa_nil)))) (pe_ix ix_list (pe_lst (pa_cons (pe_lst (pa_cons pe_str pa_nil)) (pa_cons (pe_lst (pa_cons pe_str pa_nil)) (pa_cons (pe_lst (pa_cons pe_str pa_nil)) pa_nil)))) (pv 11) (fun _ _ => rfl)) (nomark _)) (pss_one ps_never) pss_nil)
    (pss_cons (ps_set (i := 12) scLaw.nd rfl (Or.inl rfl) (pe_errA ES (by rfl) (pa_cons (pv 3) (pa_cons (pv 2) (pa_cons (pv 4) pa_nil)))))
    (pss_one (ps_ret (pe_and (pe_callB (call_isV (K := K) (Pz := PzC) rfl pz_calm) (by rfl) L.mI (by decide +kernel) (pa_cons (pv 12) (pa_cons (pe_bltn (v := .ty "ValueError") (by rfl) L.mV (by decide +kernel) rfl) pa_nil)))
      (pe_and (pe_cmpR (op_eqD hr.units) (pe_call Kn.G hr1 (by rfl) Kn.m Kn.kp Kn.b .nil pass0 (pa_cons (pv 12) pa_nil)) (pe_lst pa_nil) (nomark _))
      (pe_and (pe_callB (call_isV (K := K) (Pz := PzC) rfl pz_calm) (by rfl) L.mI (by decide +kernel) (pa_cons (pe_err0 ES (by rfl)) (pa_cons (pe_bltn (v := .ty "ValueError") (by rfl) L.mV (by decide +kernel) rfl) pa_nil)))
      (pe_one (pe_cmpR op_eq (pe_callB call_len_seq (by rfl) T.len PySem.boot_len (pa_cons (pv 6) pa_nil)) pe_int (nomark _)))))))))))))))))), ?_⟩
  refine ⟨_, rfl, sa, ns, rfl, hS, hn', fun p q H1 hp0 hq0 nqp hp1 s1 => ?_⟩
  refine ⟨_, rfl, _, _, rfl, rfl, ⟨by decide, by decide, by decide⟩, p, q, _, rfl, hp1, by decide +kernel, by decide +kernel, fun n H2 n0 n1 hp2 k2 => ?_⟩
  refine ⟨_, rfl, p, q, 8, rfl, hp2, by decide, by decide, fun z H3 z0 z1 low hp3 k3 => ?_⟩
  refine ⟨_, rfl, p, q, rfl, hp3, fun x nx H4 kd fine hp4 k4 => ?_⟩
  refine ⟨fun σ H5 => ∃ (x : V) (k5 : Option V), σ = [some (.ref sa), some (.ref p), some (.int n), some (.str z), some x, k5, none, none, none, none, none, none, none] ∧ okW x ∧ HandAt H5 p q, ?_, ?_⟩
  · refine ⟨_, rfl, p, q, 4, rfl, hp4, by decide, by decide, fun y H5 y0 y1 hp5 k5 => ⟨rfl, _, rfl, ?_⟩⟩
    rw [dec_int]
    by_cases e : y = 0
    · rw [show (y == 0) = true by simp [e]]
      refine iteT ?_
      refine ⟨_, rfl, p, q, 9, rfl, hp5, by decide, by decide, fun y2 H6 u0 u1 hp6 k6 => ⟨_, _, rfl, rfl, ?_⟩⟩
      refine ⟨_, rfl, by decide, by decide, for_range (n := 80) (fun i σ H2 => ∃ (m : Int) (k5 : Option V), σ = [some (.ref sa), some (.ref p), some (.int n), some (.str z), some (.int m), k5, none, none, none, none, none, none, none] ∧ m.natAbs < 2 ^ (8 + 200 * i) ∧ i ≤ 80 ∧ HandAt H2 p q) ⟨_, _, rfl, (by show (1 + y2).natAbs < 256; omega), by decide, hp6⟩ ?_ ?_⟩
      · rintro i σ H7 hi ⟨m, k5, rfl, hm, hi2, hp7⟩
        refine ⟨_, rfl, _, _, rfl, rfl, ⟨by decide, by decide, by decide⟩, _, _, rfl, rfl, wide_mul (a := 8 + 200 * i) (b := 200) hm (by decide +kernel) (by omega) (by decide) (by omega), .inl ⟨_, rfl, _, _, rfl, ?_, by omega, hp7⟩⟩
        rw [show 8 + 200 * (i + 1) = 8 + 200 * i + 200 by omega]
        exact wide_lt hm (by decide +kernel)
      · rintro σ H7 ⟨m, k5, rfl, hm, _, hp7⟩
        exact ⟨_, _, rfl, .inl rfl, hp7⟩
    · rw [beq_false_of_ne e]
      exact iteF ⟨x, none, rfl, kd.okW, hp5⟩
  rintro _ H5 ⟨x, k5, rfl, ox, hp5⟩
  refine ⟨fun σ H6 => ∃ (r : Addr) (xs : List V), σ = [some (.ref sa), some (.ref p), some (.int n), some (.str z), some x, k5, some (.ref r), none, none, none, none, none, none] ∧ HandAt H6 p q ∧ r ≠ p ∧ H6 r = some (.lst xs) ∧ xs.length = 53 ∧ ∀ i y, xs[i]? = some y → MadeRow Cs H6 y i, ?_, ?_⟩
  · refine ⟨_, rfl, _, rfl, _, rfl, n, z, x, rfl, ox, fun r1 G1 g1 t1 m1 => ?_⟩
    refine ⟨_, rfl, _, rfl, _, rfl, n, z, x, rfl, ox, fun r2 G2 g2 t2 m2 => ?_⟩
    obtain ⟨xs1, a1, b1, c1⟩ := m1.keep t2
    obtain ⟨xs2, a2, b2, c2⟩ := m2
    refine ⟨r1, r2, xs1, xs2, rfl, rfl, a1, a2, by rw [b1, b2]; decide, fun r3 g3 => ?_⟩
    have s3 := sameUpd (o := .lst (xs1 ++ xs2)) (Same.refl _) g3
    refine ⟨_, rfl, _, rfl, _, rfl, n, z, x, rfl, ox, fun r4 G4 g4 t4 m4 => ?_⟩
    obtain ⟨xs4, a4, b4, c4⟩ := m4
    refine ⟨r3, r4, xs1 ++ xs2, xs4, rfl, rfl, t4 _ _ upd_same, a4, by rw [List.length_append, b1, b2, b4]; decide, fun r5 g5 => ?_⟩
    have s5 := sameUpd (o := .lst (xs1 ++ xs2 ++ xs4)) (Same.refl _) g5
    have hp6 := ((((hp5.same t1).same t2).same s3).same t4)
    refine ⟨r5, _, rfl, hp6.same s5, hp6.ap g5, upd_same, by rw [List.length_append, List.length_append, b1, b2, b4], fun i y ey => ?_⟩
    have q12 := rows_app (Cs := Cs) (n0 := 0) b1 c1 c2 b2
    have q := rows_app (Cs := Cs) (n0 := 0) (k := 38) (by rw [List.length_append, b1, b2]) (fun i y e => (q12 i y e).keep (s3.trans (t4.trans s5))) (fun i y e => (c4 i y e).keep s5) b4 i y ey
    rw [Nat.zero_add] at q
    exact q
  rintro _ H6 ⟨r, xs, rfl, hp6, rp, hr6, len, rows⟩
  refine ⟨fun σ H7 => ∃ v7 v8 v9 v10 : Option V, σ = [some (.ref sa), some (.ref p), some (.int n), some (.str z), some x, k5, some (.ref r), v7, v8, v9, v10, none, none] ∧ HandAt H7 p q ∧ H7 r = some (.lst xs), ?_, ?_⟩
  · refine ⟨_, rfl, r, rfl, ⟨xs, SqL.of hr6⟩, for_list (K := K) (a := r) (xs := xs) (fun i σ H2 => ∃ v7 v8 v9 v10 : Option V, σ = [some (.ref sa), some (.ref p), some (.int n), some (.str z), some x, k5, some (.ref r), v7, v8, v9, v10, none, none] ∧ Same H6 H2) ⟨none, none, none, none, rfl, Same.refl _⟩ (fun i σ H _ h => by
      obtain ⟨_, _, _, _, _, s⟩ := h
      exact SqL.of (s _ _ hr6)) ?_ ?_⟩
    · rintro i y σ H2 ey ⟨v7, v8, v9, v10, rfl, s⟩
      obtain ⟨t, e, l1, l2, fs, ts, ds, rfl, ht, he, h1, h2, al⟩ := (rows i y ey).keep s
      have lt : i < 53 := by rw [← len]; exact (List.getElem?_eq_some_iff.mp ey).1
      refine ⟨t, _, rfl, SqT.of ht, rfl, _, _, rfl, _, _, rfl, _, _, rfl, _, _, rfl, rfl, ?_⟩
      refine ⟨_, rfl, _, rfl, alike_ne h1 h2 al ⟨_, rfl, iteF ?_⟩⟩
      refine ⟨_, rfl, e, Cs i, .ref CS, .ref CS, true, rfl, ⟨fs, he⟩, L.F.ec i lt, fun u r => r, L.kS i lt, _, rfl, iteF ?_⟩
      refine ⟨_, rfl, e, Cs i, .ty "ValueError", .type "ValueError", true, rfl, ⟨fs, he⟩, L.F.ec i lt, fun u r => r, L.kV i lt, _, rfl, iteF ?_⟩
      refine ⟨_, rfl, e, Cs i, fun j => decide (j = i), rfl, ⟨fs, he⟩, L.F.ec i lt, fun j hj => L.F.kk i j lt hj, fun r1 G1 g1 t1 e1 => ?_⟩
      rw [said_one lt] at e1
      refine ⟨_, rfl, (by show 1 ≤ sizeLine; decide), fun r2 g2 => ?_⟩
      have s2 := sameUpd (o := .lst [.str (nm i)]) (Same.refl _) g2
      refine ⟨r1, r2, _, _, rfl, rfl, SqL.of (s2 _ _ e1), SqL.of upd_same, .inr ⟨rfl, fun u hu => ?_, _, rfl, iteF ?_⟩⟩
      · rw [List.mem_singleton.mp hu]
        exact .inl rfl
      · exact ⟨_, _, _, _, rfl, (s.trans t1).trans s2⟩
    · rintro σ H2 ⟨v7, v8, v9, v10, rfl, s⟩
      exact ⟨_, _, _, _, rfl, hp6.same s, s _ _ hr6⟩
  rintro _ H7 ⟨v7, v8, v9, v10, rfl, hp7, hr7⟩
  refine ⟨fun σ H8 => ∃ k : Int, 0 ≤ k ∧ k < 3 ∧ σ = [some (.ref sa), some (.ref p), some (.int n), some (.str z), some x, k5, some (.ref r), v7, v8, v9, v10, some (.int k), none] ∧ H8 r = some (.lst xs), ?_, ?_⟩
  · refine ⟨_, rfl, p, q, 3, rfl, hp7, by decide, by decide, fun k H8 c0 c1 hp8 k8 => ?_⟩
    exact ⟨k, c0, c1, rfl, k8 r _ hr7 rp⟩
  rintro _ H8 ⟨k, c0, c1, rfl, hr8⟩
  refine ⟨fun σ H9 => σ = [some (.ref sa), some (.ref p), some (.int n), some (.str z), some x, k5, some (.ref r), v7, v8, v9, v10, some (.int k), none] ∧ H9 r = some (.lst xs), ?_, ?_⟩
  · refine ⟨_, rfl, _, rfl, _, rfl, k, n, z, rfl, fun q1 G1 g1 t1 e1 => ?_⟩
    refine ⟨(by show 1 ≤ sizeLine; decide), fun b1 h1 => ⟨(by show 1 ≤ sizeLine; decide), fun b2 h2 => ⟨(by show 1 ≤ sizeLine; decide), fun b3 h3 => ⟨(by show 3 ≤ sizeLine; decide), fun b4 h4 => ?_⟩⟩⟩⟩
    have u1 := sameUpd (o := .lst [.str (Str.ofString "BadCustom")]) (Same.refl _) h1
    have u2 := sameUpd (o := .lst [.str (Str.ofString "OtherKinds")]) (Same.refl _) h2
    have u3 := sameUpd (o := .lst [.str (Str.ofString "BadRest")]) (Same.refl _) h3
    have u4 := sameUpd (o := .lst [.ref b1, .ref b2, .ref b3]) (Same.refl _) h4
    have uu := (u1.trans u2).trans (u3.trans u4)
    have fin : ∀ (b : Addr) (s : Str), upd (upd (upd (upd G1 b1 (.lst [.str (Str.ofString "BadCustom")])) b2 (.lst [.str (Str.ofString "OtherKinds")])) b3 (.lst [.str (Str.ofString "BadRest")])) b4 (.lst [.ref b1, .ref b2, .ref b3]) b = some (.lst [.str s]) → nm (rais k) = s → ∀ (Q : VK), Q (.bl false) (upd (upd (upd (upd G1 b1 (.lst [.str (Str.ofString "BadCustom")])) b2 (.lst [.str (Str.ofString "OtherKinds")])) b3 (.lst [.str (Str.ofString "BadRest")])) b4 (.lst [.ref b1, .ref b2, .ref b3])) →
        rNeL K (.ref q1) (.ref b) (upd (upd (upd (upd G1 b1 (.lst [.str (Str.ofString "BadCustom")])) b2 (.lst [.str (Str.ofString "OtherKinds")])) b3 (.lst [.str (Str.ofString "BadRest")])) b4 (.lst [.ref b1, .ref b2, .ref b3])) Q := fun b s hb es Q hq => by
      refine ⟨q1, b, _, _, rfl, rfl, SqL.of (uu _ _ e1), SqL.of hb, .inr ⟨by rw [es], fun v hv => ?_, hq⟩⟩
      rw [List.mem_singleton.mp hv]
      exact .inl rfl
    have at_r := uu _ _ (t1 _ _ hr8)
    rcases (by omega : k = 0 ∨ k = 1 ∨ k = 2) with rfl | rfl | rfl
    · exact ⟨_, rfl, b4, _, 0, _, rfl, rfl, SqL.of upd_same, by rfl, fin _ _ (u4 _ _ (u3 _ _ (u2 _ _ upd_same))) rfl _ ⟨_, rfl, iteF ⟨rfl, at_r⟩⟩⟩
    · exact ⟨_, rfl, b4, _, 1, _, rfl, rfl, SqL.of upd_same, by rfl, fin _ _ (u4 _ _ (u3 _ _ upd_same)) rfl _ ⟨_, rfl, iteF ⟨rfl, at_r⟩⟩⟩
    · exact ⟨_, rfl, b4, _, 2, _, rfl, rfl, SqL.of upd_same, by rfl, fin _ _ (u4 _ _ upd_same) rfl _ ⟨_, rfl, iteF ⟨rfl, at_r⟩⟩⟩
  rintro _ H9 ⟨rfl, hr9⟩
  refine ⟨_, rfl, _, rfl, _, rfl, (by show 3 ≤ 900; decide), fun b B hb tb eb => ?_⟩
  refine ⟨_, rfl, b, CS, .ty "ValueError", .type "ValueError", true, rfl, ⟨[], eb⟩, L.eS, fun u r => r, L.sV, true, rfl, iteT ?_⟩
  refine ⟨_, rfl, b, CS, fun _ => false, rfl, ⟨[], eb⟩, L.eS, fun j hj => L.sC j hj, fun r1 G1 g1 t1 e1 => ⟨Nat.zero_le _, fun r2 g2 => ?_⟩⟩
  have s2 := sameUpd (o := .lst []) (Same.refl _) g2
  have e2 : G1 r1 = some (.lst []) := by
    rw [e1]
    unfold said
    rw [List.filter_eq_nil_iff.mpr fun a _ h => Bool.false_ne_true h]
    rfl
  refine ⟨.list [], .list [], .lst (SqL.of (s2 _ _ e2)) .nil, .lst (SqL.of upd_same) .nil, rfl, rfl, true, rfl, iteT ?_⟩
  refine fun c C hc tc ec => ⟨c, CS, .ty "ValueError", .type "ValueError", true, rfl, ⟨[], ec⟩, L.eS, fun u r => r, L.sV, true, rfl, iteT ?_⟩
  refine ⟨_, rfl, r, xs, rfl, .inl (SqL.of (tc _ _ (s2 _ _ (t1 _ _ (tb _ _ hr9))))), rfl, ?_⟩
  rw [len]
  rfl
end
end Kx

set_option maxHeartbeats 8000000
namespace Kx
open PySem PySem.Spec PyProof.Rows L2
/-! from the classes' method resolution orders to what the law asks of them -/
def AllUp (Pr : Nat → Prop) : Nat → Nat → Prop
  | _, 0 => True
  | n, k + 1 => Pr n ∧ AllUp Pr (n + 1) k
theorem AllUp.get {Pr : Nat → Prop} : ∀ {k n : Nat}, AllUp Pr n k → ∀ j, n ≤ j → j < n + k → Pr j
  | 0, n, _, j, h1, h2 => by omega
  | k + 1, n, ⟨h, r⟩, j, h1, h2 => by
    by_cases e : j = n
    · rw [e]
      exact h
    · exact AllUp.get r j (by omega) (by omega)
theorem AllUp.all {Pr : Nat → Prop} {k : Nat} (h : AllUp Pr 0 k) : ∀ j, j < k → Pr j := fun j hj => h.get j (Nat.zero_le _) (by omega)
def mroE (C S : Addr) : List Value := [.ref C, .ref S, .type "ValueError", .type "Exception", .type "BaseException", .type "object"]
def mroS (S : Addr) : List Value := [.ref S, .type "ValueError", .type "Exception", .type "BaseException", .type "object"]
section
variable {K : PySem.W.Frag} {C D S : Addr}
theorem sub_of {cd : ClassData} {l : List Value} {v : Value} (h : PySem.W.clsIn K C = some cd) (e : cd.mro = .ref C :: l) : PySem.W.subIn K (.ref C) v = some ((Value.ref C :: l).contains v) := by
  show PySem.W.mroIn K C v = _
  unfold PySem.W.mroIn
  rw [h, Option.bind_some, e]
  rfl
theorem kit_own {cd dd : ClassData} {l : List Value} (h : PySem.W.clsIn K C = some cd) (e : cd.mro = .ref C :: l) (hd : PySem.W.clsIn K D = some dd) (ty : PySem.W.typeIn K (.ref D) = some (.type "type")) : PySem.W.kitOne K (.ref C) (.ref D) = some ((Value.ref C :: l).contains (.ref D)) := by
  unfold PySem.W.kitOne
  by_cases z : (Value.ref C == Value.ref D) = true
  · rw [if_pos z, ← beq_iff_eq.mp z]
    simp
  · rw [if_neg z]
    show (if ((PySem.W.clsIn K D).isSome && PySem.W.typeIn K (.ref D) == some (.type "type")) = true then PySem.W.subIn K (.ref C) (.ref D) else none) = _
    rw [hd, ty, if_pos (by rfl)]
    exact sub_of h e
theorem kit_blt {cd : ClassData} {l : List Value} {T : String} (h : PySem.W.clsIn K C = some cd) (e : cd.mro = .ref C :: l) (m : PySem.W.kitMeta T = true) : PySem.W.kitOne K (.ref C) (.type T) = some ((Value.ref C :: l).contains (.type T)) := by
  unfold PySem.W.kitOne
  rw [if_neg (fun z => by cases beq_iff_eq.mp z : ¬ (Value.ref C == Value.type T) = true)]
  show (if PySem.W.kitMeta T = true then PySem.W.subIn K (.ref C) (.type T) else none) = _
  rw [if_pos m]
  exact sub_of h e
theorem has_ref {l : List Value} : (Value.ref C :: l).contains (.ref D) = (decide (D = C) || l.contains (.ref D)) := by
  rw [List.contains_cons]
  congr 1
  by_cases z : D = C
  · subst z
    simp
  · rw [decide_eq_false z]
    exact Bool.eq_false_iff.mpr fun q => z (Value.ref.inj (beq_iff_eq.mp q))
theorem no_ref : ([.type "ValueError", .type "Exception", .type "BaseException", .type "object"] : List Value).contains (.ref D) = false := by rfl
end
/-- what is read off the heap -/
structure TabF (K : PySem.W.Frag) (mg : Str → Option Value) (Cs : Nat → Addr) (S : Addr) : Prop where
  cl : ∀ j, j < 53 → ∃ cd, PySem.W.clsIn K (Cs j) = some cd ∧ cd.mro = mroE (Cs j) S
  ty : ∀ j, j < 53 → PySem.W.typeIn K (.ref (Cs j)) = some (.type "type")
  inj : ∀ i j, i < 53 → j < 53 → Cs j = Cs i → j = i
  ne : ∀ j, j < 53 → Cs j ≠ S
  clS : ∃ cd, PySem.W.clsIn K S = some cd ∧ cd.mro = mroS S
  tyS : PySem.W.typeIn K (.ref S) = some (.type "type")
  xf : ∀ j, j < 53 → XfC K (Cs j)
  xfS : XfC K S
  ca : ∀ j, j < 53 → PySem.W.findIn K (.ref (Cs j)) "__class__" = some (some (.builtin "object.__class__"))
  caS : PySem.W.findIn K (.ref S) "__class__" = some (some (.builtin "object.__class__"))
  hn : PySem.W.specialIn K (.builtin "object.__class__") "__get__" = some (some (.builtin "getset_descriptor.__get__"))
  ht : PySem.W.takesIn K (.builtin "object.__class__") = some true
  mS : mg "SearchError" = some (.ref S)
section
variable {P : Program} {w : World} {K : PySem.W.Frag} {mg : Str → Option Value} {base : Heap} {Cs : Nat → Addr} {S : Addr}
theorem TabF.ec (T : TabF K mg Cs S) (j : Nat) (hj : j < 53) : ExcC K (Cs j) := by
  obtain ⟨cd, h, e⟩ := T.cl j hj
  have x := T.xf j hj
  have o := sub_of (v := .type "object") h e
  exact ⟨x.ga, x.gg, x.exC, x.hdC, T.ca j hj, T.hn, T.ht, o⟩
theorem TabF.eS (T : TabF K mg Cs S) : ExcC K S := by
  obtain ⟨cd, h, e⟩ := T.clS
  have o := sub_of (v := .type "object") h e
  exact ⟨T.xfS.ga, T.xfS.gg, T.xfS.exC, T.xfS.hdC, T.caS, T.hn, T.ht, o⟩
theorem TabF.kk (T : TabF K mg Cs S) (i j : Nat) (hi : i < 53) (hj : j < 53) : PySem.W.kitOne K (.ref (Cs i)) (.ref (Cs j)) = some (decide (j = i)) := by
  obtain ⟨cd, h, e⟩ := T.cl i hi
  obtain ⟨dd, h2, _⟩ := T.cl j hj
  rw [kit_own h e h2 (T.ty j hj), has_ref, has_ref, no_ref, decide_eq_false (T.ne j hj), Bool.or_false, Bool.or_false]
  congr 1
  by_cases z : j = i
  · subst z
    simp
  · rw [decide_eq_false z, decide_eq_false fun q => z (T.inj i j hi hj q)]
theorem TabF.kS (T : TabF K mg Cs S) (j : Nat) (hj : j < 53) : PySem.W.kitOne K (.ref (Cs j)) (.ref S) = some true := by
  obtain ⟨cd, h, e⟩ := T.cl j hj
  obtain ⟨dd, h2, _⟩ := T.clS
  rw [kit_own h e h2 T.tyS, has_ref, has_ref, decide_eq_true (rfl : S = S), Bool.true_or, Bool.or_true]
theorem TabF.kV (T : TabF K mg Cs S) (j : Nat) (hj : j < 53) : PySem.W.kitOne K (.ref (Cs j)) (.type "ValueError") = some true := by
  obtain ⟨cd, h, e⟩ := T.cl j hj
  rw [kit_blt h e (by decide +kernel)]
  rfl
theorem TabF.sC (T : TabF K mg Cs S) (j : Nat) (hj : j < 53) : PySem.W.kitOne K (.ref S) (.ref (Cs j)) = some false := by
  obtain ⟨cd, h, e⟩ := T.clS
  obtain ⟨dd, h2, _⟩ := T.cl j hj
  rw [kit_own h e h2 (T.ty j hj), has_ref, no_ref, decide_eq_false (T.ne j hj)]
  rfl
theorem TabF.sV (T : TabF K mg Cs S) : PySem.W.kitOne K (.ref S) (.type "ValueError") = some true := by
  obtain ⟨cd, h, e⟩ := T.clS
  rw [kit_blt h e (by decide +kernel)]
  rfl
theorem TabF.xm (T : TabF K mg Cs S) (i j : Nat) (hi : i < 53) (hj : j < 53) : PySem.W.exmOne K (.ref (Cs i)) (.ref (Cs j)) = some (decide (j = i)) := by
  obtain ⟨cd, h, e⟩ := T.cl i hi
  refine PySem.W.exm_ref (T.xf j hj).exC (T.xf j hj).hdC (T.ty j hj) ?_
  rw [sub_of h e, has_ref, has_ref, no_ref, decide_eq_false (T.ne j hj), Bool.or_false, Bool.or_false]
  congr 1
  by_cases z : j = i
  · subst z
    simp
  · rw [decide_eq_false z, decide_eq_false fun q => z (T.inj i j hi hj q)]
theorem TabF.xS (T : TabF K mg Cs S) (i : Nat) (hi : i < 53) : PySem.W.exmOne K (.ref (Cs i)) (.ref S) = some true := by
  obtain ⟨cd, h, e⟩ := T.cl i hi
  refine PySem.W.exm_ref T.xfS.exC T.xfS.hdC T.tyS ?_
  rw [sub_of h e, has_ref, has_ref, decide_eq_true (rfl : S = S), Bool.true_or, Bool.or_true]
theorem TabF.kinF (T : TabF K mg Cs S) : KinF K mg Cs S where
  ec := T.ec
  kk := T.kk
  mS := T.mS
  x1 := fun i hi => by
    rw [T.xm i 12 (by omega) (by decide), decide_eq_false (by omega)]
  x2 := fun i hi => by
    rw [T.xm i 21 (by omega) (by decide), decide_eq_false (by omega)]
  x3 := fun i hi => T.xS i (by omega)
  s4 := (T.xf 4 (by decide)).exC
  t4 := T.ty 4 (by decide)
theorem own_mk {j : Nat} {fs0 : List Str} (h0 : flOf j = some fs0) (E : ∃ fI fd, ErV P w K mg base (nm j) fs0 (Cs j) fI fd) : ∀ fs, flOf j = some fs → ∃ fI fd, ErV P w K mg base (nm j) fs (Cs j) fI fd := fun fs h => by
  rw [h0] at h
  cases h
  exact E
theorem own_no {j : Nat} (h0 : flOf j = none) : ∀ fs, flOf j = some fs → ∃ fI fd, ErV P w K mg base (nm j) fs (Cs j) fI fd := fun fs h => by
  rw [h0] at h
  cases h
theorem bare_mk {j : Nat} (E : ∃ B newId initId bmB, ErO K mg (nm j) (Cs j) B newId initId bmB) : flOf j = none → ∃ B newId initId bmB, ErO K mg (nm j) (Cs j) B newId initId bmB := fun _ => E
theorem bare_no {j : Nat} {fs : List Str} (h0 : flOf j = some fs) : flOf j = none → ∃ B newId initId bmB, ErO K mg (nm j) (Cs j) B newId initId bmB := fun h => by
  rw [h0] at h
  cases h
end
end Kx

set_option maxHeartbeats 8000000
namespace Kx
open PySem PySem.Spec PyProof.Rows L2
theorem ads_inj (i j : Nat) (hi : i < 53) (hj : j < 53) (e : CsT j = CsT i) : j = i := by
  have h : ∀ i j : Fin 53, CsT j.1 = CsT i.1 → j = i := by decide +kernel
  exact congrArg Fin.val (h ⟨i, hi⟩ ⟨j, hj⟩ e)
theorem ads_ne (j : Nat) (hj : j < 53) : CsT j ≠ CST := (by decide +kernel : ∀ j : Fin 53, CsT j.1 ≠ CST) ⟨j, hj⟩
theorem all_mk {l : PySem.W.OpenLaw} {w : World} {K : PySem.W.Frag} {h : Heap} {mg : Str → Option Value} {fa : Addr} (X : K.In h) (G : h.Ns mainGlobals mg) (hfa : mg "law" = some (.ref fa))
    {f0 f1 f2 f3 f4 f5 f6 f7 f8 f9 f10 f11 g0 g1 g2 g3 g5 g6 g7 g8 g9 g10 g11 g12 g13 g14 g15 g16 g17 g18 g19 g20 g22 g23 g24 g25 g27 g28 g29 g30 g31 g32 g33 g34 g35 g39 g40 g41 g42 g43 g44 g45 g47 g48 g49 g50 g51 g52 : Addr} {od0 an0 od1 an1 od2 an2 od3 an3 od4 an4 od5 an5 od6 an6 od7 an7 od8 an8 od9 an9 od10 an10 od11 an11 pd0 bn0 pd1 bn1 pd2 bn2 pd3 bn3 pd5 bn5 pd6 bn6 pd7 bn7 pd8 bn8 pd9 bn9 pd10 bn10 pd11 bn11 pd12 bn12 pd13 bn13 pd14 bn14 pd15 bn15 pd16 bn16 pd17 bn17 pd18 bn18 pd19 bn19 pd20 bn20 pd22 bn22 pd23 bn23 pd24 bn24 pd25 bn25 pd27 bn27 pd28 bn28 pd29 bn29 pd30 bn30 pd31 bn31 pd32 bn32 pd33 bn33 pd34 bn34 pd35 bn35 pd39 bn39 pd40 bn40 pd41 bn41 pd42 bn42 pd43 bn43 pd44 bn44 pd45 bn45 pd47 bn47 pd48 bn48 pd49 bn49 pd50 bn50 pd51 bn51 pd52 bn52 : Option Addr} {sl0 sl1 sl2 sl3 sl4 sl5 sl6 sl7 sl8 sl9 sl10 sl11 tl0 tl1 tl2 tl3 tl5 tl6 tl7 tl8 tl9 tl10 tl11 tl12 tl13 tl14 tl15 tl16 tl17 tl18 tl19 tl20 tl22 tl23 tl24 tl25 tl27 tl28 tl29 tl30 tl31 tl32 tl33 tl34 tl35 tl39 tl40 tl41 tl42 tl43 tl44 tl45 tl47 tl48 tl49 tl50 tl51 tl52 : Array (Option Value)} {oc0 kV0 dc0 pm0 cd0 ct0 oc1 kV1 dc1 pm1 cd1 ct1 oc2 kV2 dc2 pm2 cd2 ct2 oc3 kV3 dc3 pm3 cd3 ct3 oc4 kV4 dc4 pm4 cd4 ct4 oc5 kV5 dc5 pm5 cd5 ct5 oc6 kV6 dc6 pm6 cd6 ct6 oc7 kV7 dc7 pm7 cd7 ct7 oc8 kV8 dc8 pm8 cd8 ct8 oc9 kV9 dc9 pm9 cd9 ct9 oc10 kV10 dc10 pm10 cd10 ct10 oc11 kV11 dc11 pm11 cd11 ct11 pc0 lV0 ec0 qm0 dd0 dt0 pc1 lV1 ec1 qm1 dd1 dt1 pc2 lV2 ec2 qm2 dd2 dt2 pc3 lV3 ec3 qm3 dd3 dt3 pc5 lV5 ec5 qm5 dd5 dt5 pc6 lV6 ec6 qm6 dd6 dt6 pc7 lV7 ec7 qm7 dd7 dt7 pc8 lV8 ec8 qm8 dd8 dt8 pc9 lV9 ec9 qm9 dd9 dt9 pc10 lV10 ec10 qm10 dd10 dt10 pc11 lV11 ec11 qm11 dd11 dt11 pc12 lV12 ec12 qm12 dd12 dt12 pc13 lV13 ec13 qm13 dd13 dt13 pc14 lV14 ec14 qm14 dd14 dt14 pc15 lV15 ec15 qm15 dd15 dt15 pc16 lV16 ec16 qm16 dd16 dt16 pc17 lV17 ec17 qm17 dd17 dt17 pc18 lV18 ec18 qm18 dd18 dt18 pc19 lV19 ec19 qm19 dd19 dt19 pc20 lV20 ec20 qm20 dd20 dt20 pc22 lV22 ec22 qm22 dd22 dt22 pc23 lV23 ec23 qm23 dd23 dt23 pc24 lV24 ec24 qm24 dd24 dt24 pc25 lV25 ec25 qm25 dd25 dt25 pc27 lV27 ec27 qm27 dd27 dt27 pc28 lV28 ec28 qm28 dd28 dt28 pc29 lV29 ec29 qm29 dd29 dt29 pc30 lV30 ec30 qm30 dd30 dt30 pc31 lV31 ec31 qm31 dd31 dt31 pc32 lV32 ec32 qm32 dd32 dt32 pc33 lV33 ec33 qm33 dd33 dt33 pc34 lV34 ec34 qm34 dd34 dt34 pc35 lV35 ec35 qm35 dd35 dt35 pc39 lV39 ec39 qm39 dd39 dt39 pc40 lV40 ec40 qm40 dd40 dt40 pc41 lV41 ec41 qm41 dd41 dt41 pc42 lV42 ec42 qm42 dd42 dt42 pc43 lV43 ec43 qm43 dd43 dt43 pc44 lV44 ec44 qm44 dd44 dt44 pc45 lV45 ec45 qm45 dd45 dt45 pc47 lV47 ec47 qm47 dd47 dt47 pc48 lV48 ec48 qm48 dd48 dt48 pc49 lV49 ec49 qm49 dd49 dt49 pc50 lV50 ec50 qm50 dd50 dt50 pc51 lV51 ec51 qm51 dd51 dt51 pc52 lV52 ec52 qm52 dd52 dt52 : Value}
    (a0 : PySem.W.nsIn K mainGlobals "_law_mix" = some (some (.ref f0)))
    (l0 : K.lookup f0 = some ⟨oc0, od0, .func (PySem.W.fnOf "_law_mix" "_law_mix" (defArgs sMix) (defBody sMix) (defScope sMix) .none kV0 dc0 pm0 an0 cd0 ct0), sl0⟩)
    (c0 : PySem.W.codeIn K cd0 "_law_mix" = true)
    (k0 : PySem.W.keepIn K (.ref f0) = true)
    (a1 : PySem.W.nsIn K mainGlobals "_law_hand" = some (some (.ref f1)))
    (l1 : K.lookup f1 = some ⟨oc1, od1, .func (PySem.W.fnOf "_law_hand" "_law_hand" (defArgs sHand) (defBody sHand) (defScope sHand) .none kV1 dc1 pm1 an1 cd1 ct1), sl1⟩)
    (c1 : PySem.W.codeIn K cd1 "_law_hand" = true)
    (k1 : PySem.W.keepIn K (.ref f1) = true)
    (a2 : PySem.W.nsIn K mainGlobals "_law_draw" = some (some (.ref f2)))
    (l2 : K.lookup f2 = some ⟨oc2, od2, .func (PySem.W.fnOf "_law_draw" "_law_draw" (defArgs sDraw) (defBody sDraw) (defScope sDraw) .none kV2 dc2 pm2 an2 cd2 ct2), sl2⟩)
    (c2 : PySem.W.codeIn K cd2 "_law_draw" = true)
    (k2 : PySem.W.keepIn K (.ref f2) = true)
    (a3 : PySem.W.nsIn K mainGlobals "_law_one" = some (some (.ref f3)))
    (l3 : K.lookup f3 = some ⟨oc3, od3, .func (PySem.W.fnOf "_law_one" "_law_one" (defArgs sOne) (defBody sOne) (defScope sOne) .none kV3 dc3 pm3 an3 cd3 ct3), sl3⟩)
    (c3 : PySem.W.codeIn K cd3 "_law_one" = true)
    (k3 : PySem.W.keepIn K (.ref f3) = true)
    (a4 : PySem.W.nsIn K mainGlobals "_law_word" = some (some (.ref f4)))
    (l4 : K.lookup f4 = some ⟨oc4, od4, .func (PySem.W.fnOf "_law_word" "_law_word" (defArgs sWord) (defBody sWord) (defScope sWord) .none kV4 dc4 pm4 an4 cd4 ct4), sl4⟩)
    (c4 : PySem.W.codeIn K cd4 "_law_word" = true)
    (k4 : PySem.W.keepIn K (.ref f4) = true)
    (a5 : PySem.W.nsIn K mainGlobals "_law_odd" = some (some (.ref f5)))
    (l5 : K.lookup f5 = some ⟨oc5, od5, .func (PySem.W.fnOf "_law_odd" "_law_odd" (defArgs sOdd) (defBody sOdd) (defScope sOdd) .none kV5 dc5 pm5 an5 cd5 ct5), sl5⟩)
    (c5 : PySem.W.codeIn K cd5 "_law_odd" = true)
    (k5 : PySem.W.keepIn K (.ref f5) = true)
    (a6 : PySem.W.nsIn K mainGlobals "_law_first" = some (some (.ref f6)))
    (l6 : K.lookup f6 = some ⟨oc6, od6, .func (PySem.W.fnOf "_law_first" "_law_first" (defArgs sLFirst) (defBody sLFirst) (defScope sLFirst) .none kV6 dc6 pm6 an6 cd6 ct6), sl6⟩)
    (c6 : PySem.W.codeIn K cd6 "_law_first" = true)
    (k6 : PySem.W.keepIn K (.ref f6) = true)
    (a7 : PySem.W.nsIn K mainGlobals "_law_second" = some (some (.ref f7)))
    (l7 : K.lookup f7 = some ⟨oc7, od7, .func (PySem.W.fnOf "_law_second" "_law_second" (defArgs sLSecond) (defBody sLSecond) (defScope sLSecond) .none kV7 dc7 pm7 an7 cd7 ct7), sl7⟩)
    (c7 : PySem.W.codeIn K cd7 "_law_second" = true)
    (k7 : PySem.W.keepIn K (.ref f7) = true)
    (a8 : PySem.W.nsIn K mainGlobals "_law_third" = some (some (.ref f8)))
    (l8 : K.lookup f8 = some ⟨oc8, od8, .func (PySem.W.fnOf "_law_third" "_law_third" (defArgs sLThird) (defBody sLThird) (defScope sLThird) .none kV8 dc8 pm8 an8 cd8 ct8), sl8⟩)
    (c8 : PySem.W.codeIn K cd8 "_law_third" = true)
    (k8 : PySem.W.keepIn K (.ref f8) = true)
    (a9 : PySem.W.nsIn K mainGlobals "_law_kin" = some (some (.ref f9)))
    (l9 : K.lookup f9 = some ⟨oc9, od9, .func (PySem.W.fnOf "_law_kin" "_law_kin" (defArgs sLKin) (defBody sLKin) (defScope sLKin) .none kV9 dc9 pm9 an9 cd9 ct9), sl9⟩)
    (c9 : PySem.W.codeIn K cd9 "_law_kin" = true)
    (k9 : PySem.W.keepIn K (.ref f9) = true)
    (a10 : PySem.W.nsIn K mainGlobals "_law_raised" = some (some (.ref f10)))
    (l10 : K.lookup f10 = some ⟨oc10, od10, .func (PySem.W.fnOf "_law_raised" "_law_raised" (defArgs sLRaised) (defBody sLRaised) (defScope sLRaised) .none kV10 dc10 pm10 an10 cd10 ct10), sl10⟩)
    (c10 : PySem.W.codeIn K cd10 "_law_raised" = true)
    (k10 : PySem.W.keepIn K (.ref f10) = true)
    (a11 : PySem.W.nsIn K mainGlobals "law" = some (some (.ref f11)))
    (l11 : K.lookup f11 = some ⟨oc11, od11, .func (PySem.W.fnOf "law" "law" (defArgs sLaw) (defBody sLaw) (defScope sLaw) .none kV11 dc11 pm11 an11 cd11 ct11), sl11⟩)
    (c11 : PySem.W.codeIn K cd11 "law" = true)
    (k11 : PySem.W.keepIn K (.ref f11) = true)
    (M0 : PySem.W.findIn K (.ref 44) "__init__" = some (some (.ref g0)))
    (L0 : K.lookup g0 = some ⟨pc0, pd0, .func (PySem.W.fnOf "__init__" "BadKinds.__init__" (defArgs sBadKinds_init) (defBody sBadKinds_init) (defScope sBadKinds_init) .none lV0 ec0 qm0 bn0 dd0 dt0), tl0⟩)
    (D0 : PySem.W.codeIn K dd0 "BadKinds.__init__" = true)
    (N0 : PySem.W.keepIn K (.ref g0) = true)
    (T0 : PySem.W.typeIn K (.ref g0) = some (.type "function"))
    (o0 : ∃ nm q N bs bm sn sub ab col dd k0 k1 k2 k3 k5, K.lookup 44 = some (excClassObj nm q 44 N bs bm true sn sub ab col dd k0 k1 k2 k3 k5 "ValueError.__new__") ∧ PySem.HandSPX.refsVE bm = true)
    (M1 : PySem.W.findIn K (.ref 63) "__init__" = some (some (.ref g1)))
    (L1 : K.lookup g1 = some ⟨pc1, pd1, .func (PySem.W.fnOf "__init__" "NoKind.__init__" (defArgs sNoKind_init) (defBody sNoKind_init) (defScope sNoKind_init) .none lV1 ec1 qm1 bn1 dd1 dt1), tl1⟩)
    (D1 : PySem.W.codeIn K dd1 "NoKind.__init__" = true)
    (N1 : PySem.W.keepIn K (.ref g1) = true)
    (T1 : PySem.W.typeIn K (.ref g1) = some (.type "function"))
    (o1 : ∃ nm q N bs bm sn sub ab col dd k0 k1 k2 k3 k5, K.lookup 63 = some (excClassObj nm q 63 N bs bm true sn sub ab col dd k0 k1 k2 k3 k5 "ValueError.__new__") ∧ PySem.HandSPX.refsVE bm = true)
    (M2 : PySem.W.findIn K (.ref 82) "__init__" = some (some (.ref g2)))
    (L2 : K.lookup g2 = some ⟨pc2, pd2, .func (PySem.W.fnOf "__init__" "BadHistory.__init__" (defArgs sBadHistory_init) (defBody sBadHistory_init) (defScope sBadHistory_init) .none lV2 ec2 qm2 bn2 dd2 dt2), tl2⟩)
    (D2 : PySem.W.codeIn K dd2 "BadHistory.__init__" = true)
    (N2 : PySem.W.keepIn K (.ref g2) = true)
    (T2 : PySem.W.typeIn K (.ref g2) = some (.type "function"))
    (o2 : ∃ nm q N bs bm sn sub ab col dd k0 k1 k2 k3 k5, K.lookup 82 = some (excClassObj nm q 82 N bs bm true sn sub ab col dd k0 k1 k2 k3 k5 "ValueError.__new__") ∧ PySem.HandSPX.refsVE bm = true)
    (M3 : PySem.W.findIn K (.ref 101) "__init__" = some (some (.ref g3)))
    (L3 : K.lookup g3 = some ⟨pc3, pd3, .func (PySem.W.fnOf "__init__" "BadYears.__init__" (defArgs sBadYears_init) (defBody sBadYears_init) (defScope sBadYears_init) .none lV3 ec3 qm3 bn3 dd3 dt3), tl3⟩)
    (D3 : PySem.W.codeIn K dd3 "BadYears.__init__" = true)
    (N3 : PySem.W.keepIn K (.ref g3) = true)
    (T3 : PySem.W.typeIn K (.ref g3) = some (.type "function"))
    (o3 : ∃ nm q N bs bm sn sub ab col dd k0 k1 k2 k3 k5, K.lookup 101 = some (excClassObj nm q 101 N bs bm true sn sub ab col dd k0 k1 k2 k3 k5 "ValueError.__new__") ∧ PySem.HandSPX.refsVE bm = true)
    (M5 : PySem.W.findIn K (.ref 132) "__init__" = some (some (.ref g5)))
    (L5 : K.lookup g5 = some ⟨pc5, pd5, .func (PySem.W.fnOf "__init__" "BadMap.__init__" (defArgs sBadMap_init) (defBody sBadMap_init) (defScope sBadMap_init) .none lV5 ec5 qm5 bn5 dd5 dt5), tl5⟩)
    (D5 : PySem.W.codeIn K dd5 "BadMap.__init__" = true)
    (N5 : PySem.W.keepIn K (.ref g5) = true)
    (T5 : PySem.W.typeIn K (.ref g5) = some (.type "function"))
    (o5 : ∃ nm q N bs bm sn sub ab col dd k0 k1 k2 k3 k5, K.lookup 132 = some (excClassObj nm q 132 N bs bm true sn sub ab col dd k0 k1 k2 k3 k5 "ValueError.__new__") ∧ PySem.HandSPX.refsVE bm = true)
    (M6 : PySem.W.findIn K (.ref 151) "__init__" = some (some (.ref g6)))
    (L6 : K.lookup g6 = some ⟨pc6, pd6, .func (PySem.W.fnOf "__init__" "BadPerson.__init__" (defArgs sBadPerson_init) (defBody sBadPerson_init) (defScope sBadPerson_init) .none lV6 ec6 qm6 bn6 dd6 dt6), tl6⟩)
    (D6 : PySem.W.codeIn K dd6 "BadPerson.__init__" = true)
    (N6 : PySem.W.keepIn K (.ref g6) = true)
    (T6 : PySem.W.typeIn K (.ref g6) = some (.type "function"))
    (o6 : ∃ nm q N bs bm sn sub ab col dd k0 k1 k2 k3 k5, K.lookup 151 = some (excClassObj nm q 151 N bs bm true sn sub ab col dd k0 k1 k2 k3 k5 "ValueError.__new__") ∧ PySem.HandSPX.refsVE bm = true)
    (M7 : PySem.W.findIn K (.ref 170) "__init__" = some (some (.ref g7)))
    (L7 : K.lookup g7 = some ⟨pc7, pd7, .func (PySem.W.fnOf "__init__" "BadText.__init__" (defArgs sBadText_init) (defBody sBadText_init) (defScope sBadText_init) .none lV7 ec7 qm7 bn7 dd7 dt7), tl7⟩)
    (D7 : PySem.W.codeIn K dd7 "BadText.__init__" = true)
    (N7 : PySem.W.keepIn K (.ref g7) = true)
    (T7 : PySem.W.typeIn K (.ref g7) = some (.type "function"))
    (o7 : ∃ nm q N bs bm sn sub ab col dd k0 k1 k2 k3 k5, K.lookup 170 = some (excClassObj nm q 170 N bs bm true sn sub ab col dd k0 k1 k2 k3 k5 "ValueError.__new__") ∧ PySem.HandSPX.refsVE bm = true)
    (M8 : PySem.W.findIn K (.ref 189) "__init__" = some (some (.ref g8)))
    (L8 : K.lookup g8 = some ⟨pc8, pd8, .func (PySem.W.fnOf "__init__" "BadStand.__init__" (defArgs sBadStand_init) (defBody sBadStand_init) (defScope sBadStand_init) .none lV8 ec8 qm8 bn8 dd8 dt8), tl8⟩)
    (D8 : PySem.W.codeIn K dd8 "BadStand.__init__" = true)
    (N8 : PySem.W.keepIn K (.ref g8) = true)
    (T8 : PySem.W.typeIn K (.ref g8) = some (.type "function"))
    (o8 : ∃ nm q N bs bm sn sub ab col dd k0 k1 k2 k3 k5, K.lookup 189 = some (excClassObj nm q 189 N bs bm true sn sub ab col dd k0 k1 k2 k3 k5 "ValueError.__new__") ∧ PySem.HandSPX.refsVE bm = true)
    (M9 : PySem.W.findIn K (.ref 208) "__init__" = some (some (.ref g9)))
    (L9 : K.lookup g9 = some ⟨pc9, pd9, .func (PySem.W.fnOf "__init__" "BadDeed.__init__" (defArgs sBadDeed_init) (defBody sBadDeed_init) (defScope sBadDeed_init) .none lV9 ec9 qm9 bn9 dd9 dt9), tl9⟩)
    (D9 : PySem.W.codeIn K dd9 "BadDeed.__init__" = true)
    (N9 : PySem.W.keepIn K (.ref g9) = true)
    (T9 : PySem.W.typeIn K (.ref g9) = some (.type "function"))
    (o9 : ∃ nm q N bs bm sn sub ab col dd k0 k1 k2 k3 k5, K.lookup 208 = some (excClassObj nm q 208 N bs bm true sn sub ab col dd k0 k1 k2 k3 k5 "ValueError.__new__") ∧ PySem.HandSPX.refsVE bm = true)
    (M10 : PySem.W.findIn K (.ref 227) "__init__" = some (some (.ref g10)))
    (L10 : K.lookup g10 = some ⟨pc10, pd10, .func (PySem.W.fnOf "__init__" "BadCondition.__init__" (defArgs sBadCondition_init) (defBody sBadCondition_init) (defScope sBadCondition_init) .none lV10 ec10 qm10 bn10 dd10 dt10), tl10⟩)
    (D10 : PySem.W.codeIn K dd10 "BadCondition.__init__" = true)
    (N10 : PySem.W.keepIn K (.ref g10) = true)
    (T10 : PySem.W.typeIn K (.ref g10) = some (.type "function"))
    (o10 : ∃ nm q N bs bm sn sub ab col dd k0 k1 k2 k3 k5, K.lookup 227 = some (excClassObj nm q 227 N bs bm true sn sub ab col dd k0 k1 k2 k3 k5 "ValueError.__new__") ∧ PySem.HandSPX.refsVE bm = true)
    (M11 : PySem.W.findIn K (.ref 246) "__init__" = some (some (.ref g11)))
    (L11 : K.lookup g11 = some ⟨pc11, pd11, .func (PySem.W.fnOf "__init__" "BadChange.__init__" (defArgs sBadChange_init) (defBody sBadChange_init) (defScope sBadChange_init) .none lV11 ec11 qm11 bn11 dd11 dt11), tl11⟩)
    (D11 : PySem.W.codeIn K dd11 "BadChange.__init__" = true)
    (N11 : PySem.W.keepIn K (.ref g11) = true)
    (T11 : PySem.W.typeIn K (.ref g11) = some (.type "function"))
    (o11 : ∃ nm q N bs bm sn sub ab col dd k0 k1 k2 k3 k5, K.lookup 246 = some (excClassObj nm q 246 N bs bm true sn sub ab col dd k0 k1 k2 k3 k5 "ValueError.__new__") ∧ PySem.HandSPX.refsVE bm = true)
    (M12 : PySem.W.findIn K (.ref 265) "__init__" = some (some (.ref g12)))
    (L12 : K.lookup g12 = some ⟨pc12, pd12, .func (PySem.W.fnOf "__init__" "BadClause.__init__" (defArgs sBadClause_init) (defBody sBadClause_init) (defScope sBadClause_init) .none lV12 ec12 qm12 bn12 dd12 dt12), tl12⟩)
    (D12 : PySem.W.codeIn K dd12 "BadClause.__init__" = true)
    (N12 : PySem.W.keepIn K (.ref g12) = true)
    (T12 : PySem.W.typeIn K (.ref g12) = some (.type "function"))
    (o12 : ∃ nm q N bs bm sn sub ab col dd k0 k1 k2 k3 k5, K.lookup 265 = some (excClassObj nm q 265 N bs bm true sn sub ab col dd k0 k1 k2 k3 k5 "ValueError.__new__") ∧ PySem.HandSPX.refsVE bm = true)
    (M13 : PySem.W.findIn K (.ref 284) "__init__" = some (some (.ref g13)))
    (L13 : K.lookup g13 = some ⟨pc13, pd13, .func (PySem.W.fnOf "__init__" "BadCustom.__init__" (defArgs sBadCustom_init) (defBody sBadCustom_init) (defScope sBadCustom_init) .none lV13 ec13 qm13 bn13 dd13 dt13), tl13⟩)
    (D13 : PySem.W.codeIn K dd13 "BadCustom.__init__" = true)
    (N13 : PySem.W.keepIn K (.ref g13) = true)
    (T13 : PySem.W.typeIn K (.ref g13) = some (.type "function"))
    (o13 : ∃ nm q N bs bm sn sub ab col dd k0 k1 k2 k3 k5, K.lookup 284 = some (excClassObj nm q 284 N bs bm true sn sub ab col dd k0 k1 k2 k3 k5 "ValueError.__new__") ∧ PySem.HandSPX.refsVE bm = true)
    (M14 : PySem.W.findIn K (.ref 303) "__init__" = some (some (.ref g14)))
    (L14 : K.lookup g14 = some ⟨pc14, pd14, .func (PySem.W.fnOf "__init__" "BadQuestion.__init__" (defArgs sBadQuestion_init) (defBody sBadQuestion_init) (defScope sBadQuestion_init) .none lV14 ec14 qm14 bn14 dd14 dt14), tl14⟩)
    (D14 : PySem.W.codeIn K dd14 "BadQuestion.__init__" = true)
    (N14 : PySem.W.keepIn K (.ref g14) = true)
    (T14 : PySem.W.typeIn K (.ref g14) = some (.type "function"))
    (o14 : ∃ nm q N bs bm sn sub ab col dd k0 k1 k2 k3 k5, K.lookup 303 = some (excClassObj nm q 303 N bs bm true sn sub ab col dd k0 k1 k2 k3 k5 "ValueError.__new__") ∧ PySem.HandSPX.refsVE bm = true)
    (M15 : PySem.W.findIn K (.ref 322) "__init__" = some (some (.ref g15)))
    (L15 : K.lookup g15 = some ⟨pc15, pd15, .func (PySem.W.fnOf "__init__" "TooMany.__init__" (defArgs sTooMany_init) (defBody sTooMany_init) (defScope sTooMany_init) .none lV15 ec15 qm15 bn15 dd15 dt15), tl15⟩)
    (D15 : PySem.W.codeIn K dd15 "TooMany.__init__" = true)
    (N15 : PySem.W.keepIn K (.ref g15) = true)
    (T15 : PySem.W.typeIn K (.ref g15) = some (.type "function"))
    (o15 : ∃ nm q N bs bm sn sub ab col dd k0 k1 k2 k3 k5, K.lookup 322 = some (excClassObj nm q 322 N bs bm true sn sub ab col dd k0 k1 k2 k3 k5 "ValueError.__new__") ∧ PySem.HandSPX.refsVE bm = true)
    (M16 : PySem.W.findIn K (.ref 341) "__init__" = some (some (.ref g16)))
    (L16 : K.lookup g16 = some ⟨pc16, pd16, .func (PySem.W.fnOf "__init__" "BadSeat.__init__" (defArgs sBadSeat_init) (defBody sBadSeat_init) (defScope sBadSeat_init) .none lV16 ec16 qm16 bn16 dd16 dt16), tl16⟩)
    (D16 : PySem.W.codeIn K dd16 "BadSeat.__init__" = true)
    (N16 : PySem.W.keepIn K (.ref g16) = true)
    (T16 : PySem.W.typeIn K (.ref g16) = some (.type "function"))
    (o16 : ∃ nm q N bs bm sn sub ab col dd k0 k1 k2 k3 k5, K.lookup 341 = some (excClassObj nm q 341 N bs bm true sn sub ab col dd k0 k1 k2 k3 k5 "ValueError.__new__") ∧ PySem.HandSPX.refsVE bm = true)
    (M17 : PySem.W.findIn K (.ref 360) "__init__" = some (some (.ref g17)))
    (L17 : K.lookup g17 = some ⟨pc17, pd17, .func (PySem.W.fnOf "__init__" "BadClock.__init__" (defArgs sBadClock_init) (defBody sBadClock_init) (defScope sBadClock_init) .none lV17 ec17 qm17 bn17 dd17 dt17), tl17⟩)
    (D17 : PySem.W.codeIn K dd17 "BadClock.__init__" = true)
    (N17 : PySem.W.keepIn K (.ref g17) = true)
    (T17 : PySem.W.typeIn K (.ref g17) = some (.type "function"))
    (o17 : ∃ nm q N bs bm sn sub ab col dd k0 k1 k2 k3 k5, K.lookup 360 = some (excClassObj nm q 360 N bs bm true sn sub ab col dd k0 k1 k2 k3 k5 "ValueError.__new__") ∧ PySem.HandSPX.refsVE bm = true)
    (M18 : PySem.W.findIn K (.ref 379) "__init__" = some (some (.ref g18)))
    (L18 : K.lookup g18 = some ⟨pc18, pd18, .func (PySem.W.fnOf "__init__" "NoClause.__init__" (defArgs sNoClause_init) (defBody sNoClause_init) (defScope sNoClause_init) .none lV18 ec18 qm18 bn18 dd18 dt18), tl18⟩)
    (D18 : PySem.W.codeIn K dd18 "NoClause.__init__" = true)
    (N18 : PySem.W.keepIn K (.ref g18) = true)
    (T18 : PySem.W.typeIn K (.ref g18) = some (.type "function"))
    (o18 : ∃ nm q N bs bm sn sub ab col dd k0 k1 k2 k3 k5, K.lookup 379 = some (excClassObj nm q 379 N bs bm true sn sub ab col dd k0 k1 k2 k3 k5 "ValueError.__new__") ∧ PySem.HandSPX.refsVE bm = true)
    (M19 : PySem.W.findIn K (.ref 398) "__init__" = some (some (.ref g19)))
    (L19 : K.lookup g19 = some ⟨pc19, pd19, .func (PySem.W.fnOf "__init__" "BadShape.__init__" (defArgs sBadShape_init) (defBody sBadShape_init) (defScope sBadShape_init) .none lV19 ec19 qm19 bn19 dd19 dt19), tl19⟩)
    (D19 : PySem.W.codeIn K dd19 "BadShape.__init__" = true)
    (N19 : PySem.W.keepIn K (.ref g19) = true)
    (T19 : PySem.W.typeIn K (.ref g19) = some (.type "function"))
    (o19 : ∃ nm q N bs bm sn sub ab col dd k0 k1 k2 k3 k5, K.lookup 398 = some (excClassObj nm q 398 N bs bm true sn sub ab col dd k0 k1 k2 k3 k5 "ValueError.__new__") ∧ PySem.HandSPX.refsVE bm = true)
    (M20 : PySem.W.findIn K (.ref 417) "__init__" = some (some (.ref g20)))
    (L20 : K.lookup g20 = some ⟨pc20, pd20, .func (PySem.W.fnOf "__init__" "BadSpot.__init__" (defArgs sBadSpot_init) (defBody sBadSpot_init) (defScope sBadSpot_init) .none lV20 ec20 qm20 bn20 dd20 dt20), tl20⟩)
    (D20 : PySem.W.codeIn K dd20 "BadSpot.__init__" = true)
    (N20 : PySem.W.keepIn K (.ref g20) = true)
    (T20 : PySem.W.typeIn K (.ref g20) = some (.type "function"))
    (o20 : ∃ nm q N bs bm sn sub ab col dd k0 k1 k2 k3 k5, K.lookup 417 = some (excClassObj nm q 417 N bs bm true sn sub ab col dd k0 k1 k2 k3 k5 "ValueError.__new__") ∧ PySem.HandSPX.refsVE bm = true)
    (M22 : PySem.W.findIn K (.ref 448) "__init__" = some (some (.ref g22)))
    (L22 : K.lookup g22 = some ⟨pc22, pd22, .func (PySem.W.fnOf "__init__" "BadLikeness.__init__" (defArgs sBadLikeness_init) (defBody sBadLikeness_init) (defScope sBadLikeness_init) .none lV22 ec22 qm22 bn22 dd22 dt22), tl22⟩)
    (D22 : PySem.W.codeIn K dd22 "BadLikeness.__init__" = true)
    (N22 : PySem.W.keepIn K (.ref g22) = true)
    (T22 : PySem.W.typeIn K (.ref g22) = some (.type "function"))
    (o22 : ∃ nm q N bs bm sn sub ab col dd k0 k1 k2 k3 k5, K.lookup 448 = some (excClassObj nm q 448 N bs bm true sn sub ab col dd k0 k1 k2 k3 k5 "ValueError.__new__") ∧ PySem.HandSPX.refsVE bm = true)
    (M23 : PySem.W.findIn K (.ref 467) "__init__" = some (some (.ref g23)))
    (L23 : K.lookup g23 = some ⟨pc23, pd23, .func (PySem.W.fnOf "__init__" "BadIndex.__init__" (defArgs sBadIndex_init) (defBody sBadIndex_init) (defScope sBadIndex_init) .none lV23 ec23 qm23 bn23 dd23 dt23), tl23⟩)
    (D23 : PySem.W.codeIn K dd23 "BadIndex.__init__" = true)
    (N23 : PySem.W.keepIn K (.ref g23) = true)
    (T23 : PySem.W.typeIn K (.ref g23) = some (.type "function"))
    (o23 : ∃ nm q N bs bm sn sub ab col dd k0 k1 k2 k3 k5, K.lookup 467 = some (excClassObj nm q 467 N bs bm true sn sub ab col dd k0 k1 k2 k3 k5 "ValueError.__new__") ∧ PySem.HandSPX.refsVE bm = true)
    (M24 : PySem.W.findIn K (.ref 486) "__init__" = some (some (.ref g24)))
    (L24 : K.lookup g24 = some ⟨pc24, pd24, .func (PySem.W.fnOf "__init__" "BadPair.__init__" (defArgs sBadPair_init) (defBody sBadPair_init) (defScope sBadPair_init) .none lV24 ec24 qm24 bn24 dd24 dt24), tl24⟩)
    (D24 : PySem.W.codeIn K dd24 "BadPair.__init__" = true)
    (N24 : PySem.W.keepIn K (.ref g24) = true)
    (T24 : PySem.W.typeIn K (.ref g24) = some (.type "function"))
    (o24 : ∃ nm q N bs bm sn sub ab col dd k0 k1 k2 k3 k5, K.lookup 486 = some (excClassObj nm q 486 N bs bm true sn sub ab col dd k0 k1 k2 k3 k5 "ValueError.__new__") ∧ PySem.HandSPX.refsVE bm = true)
    (M25 : PySem.W.findIn K (.ref 505) "__init__" = some (some (.ref g25)))
    (L25 : K.lookup g25 = some ⟨pc25, pd25, .func (PySem.W.fnOf "__init__" "BadHeights.__init__" (defArgs sBadHeights_init) (defBody sBadHeights_init) (defScope sBadHeights_init) .none lV25 ec25 qm25 bn25 dd25 dt25), tl25⟩)
    (D25 : PySem.W.codeIn K dd25 "BadHeights.__init__" = true)
    (N25 : PySem.W.keepIn K (.ref g25) = true)
    (T25 : PySem.W.typeIn K (.ref g25) = some (.type "function"))
    (o25 : ∃ nm q N bs bm sn sub ab col dd k0 k1 k2 k3 k5, K.lookup 505 = some (excClassObj nm q 505 N bs bm true sn sub ab col dd k0 k1 k2 k3 k5 "ValueError.__new__") ∧ PySem.HandSPX.refsVE bm = true)
    (M27 : PySem.W.findIn K (.ref 536) "__init__" = some (some (.ref g27)))
    (L27 : K.lookup g27 = some ⟨pc27, pd27, .func (PySem.W.fnOf "__init__" "BadPasts.__init__" (defArgs sBadPasts_init) (defBody sBadPasts_init) (defScope sBadPasts_init) .none lV27 ec27 qm27 bn27 dd27 dt27), tl27⟩)
    (D27 : PySem.W.codeIn K dd27 "BadPasts.__init__" = true)
    (N27 : PySem.W.keepIn K (.ref g27) = true)
    (T27 : PySem.W.typeIn K (.ref g27) = some (.type "function"))
    (o27 : ∃ nm q N bs bm sn sub ab col dd k0 k1 k2 k3 k5, K.lookup 536 = some (excClassObj nm q 536 N bs bm true sn sub ab col dd k0 k1 k2 k3 k5 "ValueError.__new__") ∧ PySem.HandSPX.refsVE bm = true)
    (M28 : PySem.W.findIn K (.ref 555) "__init__" = some (some (.ref g28)))
    (L28 : K.lookup g28 = some ⟨pc28, pd28, .func (PySem.W.fnOf "__init__" "BadRings.__init__" (defArgs sBadRings_init) (defBody sBadRings_init) (defScope sBadRings_init) .none lV28 ec28 qm28 bn28 dd28 dt28), tl28⟩)
    (D28 : PySem.W.codeIn K dd28 "BadRings.__init__" = true)
    (N28 : PySem.W.keepIn K (.ref g28) = true)
    (T28 : PySem.W.typeIn K (.ref g28) = some (.type "function"))
    (o28 : ∃ nm q N bs bm sn sub ab col dd k0 k1 k2 k3 k5, K.lookup 555 = some (excClassObj nm q 555 N bs bm true sn sub ab col dd k0 k1 k2 k3 k5 "ValueError.__new__") ∧ PySem.HandSPX.refsVE bm = true)
    (M29 : PySem.W.findIn K (.ref 574) "__init__" = some (some (.ref g29)))
    (L29 : K.lookup g29 = some ⟨pc29, pd29, .func (PySem.W.fnOf "__init__" "BadTurns.__init__" (defArgs sBadTurns_init) (defBody sBadTurns_init) (defScope sBadTurns_init) .none lV29 ec29 qm29 bn29 dd29 dt29), tl29⟩)
    (D29 : PySem.W.codeIn K dd29 "BadTurns.__init__" = true)
    (N29 : PySem.W.keepIn K (.ref g29) = true)
    (T29 : PySem.W.typeIn K (.ref g29) = some (.type "function"))
    (o29 : ∃ nm q N bs bm sn sub ab col dd k0 k1 k2 k3 k5, K.lookup 574 = some (excClassObj nm q 574 N bs bm true sn sub ab col dd k0 k1 k2 k3 k5 "ValueError.__new__") ∧ PySem.HandSPX.refsVE bm = true)
    (M30 : PySem.W.findIn K (.ref 593) "__init__" = some (some (.ref g30)))
    (L30 : K.lookup g30 = some ⟨pc30, pd30, .func (PySem.W.fnOf "__init__" "BadEntry.__init__" (defArgs sBadEntry_init) (defBody sBadEntry_init) (defScope sBadEntry_init) .none lV30 ec30 qm30 bn30 dd30 dt30), tl30⟩)
    (D30 : PySem.W.codeIn K dd30 "BadEntry.__init__" = true)
    (N30 : PySem.W.keepIn K (.ref g30) = true)
    (T30 : PySem.W.typeIn K (.ref g30) = some (.type "function"))
    (o30 : ∃ nm q N bs bm sn sub ab col dd k0 k1 k2 k3 k5, K.lookup 593 = some (excClassObj nm q 593 N bs bm true sn sub ab col dd k0 k1 k2 k3 k5 "ValueError.__new__") ∧ PySem.HandSPX.refsVE bm = true)
    (M31 : PySem.W.findIn K (.ref 612) "__init__" = some (some (.ref g31)))
    (L31 : K.lookup g31 = some ⟨pc31, pd31, .func (PySem.W.fnOf "__init__" "BadAbstract.__init__" (defArgs sBadAbstract_init) (defBody sBadAbstract_init) (defScope sBadAbstract_init) .none lV31 ec31 qm31 bn31 dd31 dt31), tl31⟩)
    (D31 : PySem.W.codeIn K dd31 "BadAbstract.__init__" = true)
    (N31 : PySem.W.keepIn K (.ref g31) = true)
    (T31 : PySem.W.typeIn K (.ref g31) = some (.type "function"))
    (o31 : ∃ nm q N bs bm sn sub ab col dd k0 k1 k2 k3 k5, K.lookup 612 = some (excClassObj nm q 612 N bs bm true sn sub ab col dd k0 k1 k2 k3 k5 "ValueError.__new__") ∧ PySem.HandSPX.refsVE bm = true)
    (M32 : PySem.W.findIn K (.ref 631) "__init__" = some (some (.ref g32)))
    (L32 : K.lookup g32 = some ⟨pc32, pd32, .func (PySem.W.fnOf "__init__" "BadBook.__init__" (defArgs sBadBook_init) (defBody sBadBook_init) (defScope sBadBook_init) .none lV32 ec32 qm32 bn32 dd32 dt32), tl32⟩)
    (D32 : PySem.W.codeIn K dd32 "BadBook.__init__" = true)
    (N32 : PySem.W.keepIn K (.ref g32) = true)
    (T32 : PySem.W.typeIn K (.ref g32) = some (.type "function"))
    (o32 : ∃ nm q N bs bm sn sub ab col dd k0 k1 k2 k3 k5, K.lookup 631 = some (excClassObj nm q 631 N bs bm true sn sub ab col dd k0 k1 k2 k3 k5 "ValueError.__new__") ∧ PySem.HandSPX.refsVE bm = true)
    (M33 : PySem.W.findIn K (.ref 650) "__init__" = some (some (.ref g33)))
    (L33 : K.lookup g33 = some ⟨pc33, pd33, .func (PySem.W.fnOf "__init__" "BadShelf.__init__" (defArgs sBadShelf_init) (defBody sBadShelf_init) (defScope sBadShelf_init) .none lV33 ec33 qm33 bn33 dd33 dt33), tl33⟩)
    (D33 : PySem.W.codeIn K dd33 "BadShelf.__init__" = true)
    (N33 : PySem.W.keepIn K (.ref g33) = true)
    (T33 : PySem.W.typeIn K (.ref g33) = some (.type "function"))
    (o33 : ∃ nm q N bs bm sn sub ab col dd k0 k1 k2 k3 k5, K.lookup 650 = some (excClassObj nm q 650 N bs bm true sn sub ab col dd k0 k1 k2 k3 k5 "ValueError.__new__") ∧ PySem.HandSPX.refsVE bm = true)
    (M34 : PySem.W.findIn K (.ref 669) "__init__" = some (some (.ref g34)))
    (L34 : K.lookup g34 = some ⟨pc34, pd34, .func (PySem.W.fnOf "__init__" "BadRound.__init__" (defArgs sBadRound_init) (defBody sBadRound_init) (defScope sBadRound_init) .none lV34 ec34 qm34 bn34 dd34 dt34), tl34⟩)
    (D34 : PySem.W.codeIn K dd34 "BadRound.__init__" = true)
    (N34 : PySem.W.keepIn K (.ref g34) = true)
    (T34 : PySem.W.typeIn K (.ref g34) = some (.type "function"))
    (o34 : ∃ nm q N bs bm sn sub ab col dd k0 k1 k2 k3 k5, K.lookup 669 = some (excClassObj nm q 669 N bs bm true sn sub ab col dd k0 k1 k2 k3 k5 "ValueError.__new__") ∧ PySem.HandSPX.refsVE bm = true)
    (M35 : PySem.W.findIn K (.ref 688) "__init__" = some (some (.ref g35)))
    (L35 : K.lookup g35 = some ⟨pc35, pd35, .func (PySem.W.fnOf "__init__" "BadRest.__init__" (defArgs sBadRest_init) (defBody sBadRest_init) (defScope sBadRest_init) .none lV35 ec35 qm35 bn35 dd35 dt35), tl35⟩)
    (D35 : PySem.W.codeIn K dd35 "BadRest.__init__" = true)
    (N35 : PySem.W.keepIn K (.ref g35) = true)
    (T35 : PySem.W.typeIn K (.ref g35) = some (.type "function"))
    (o35 : ∃ nm q N bs bm sn sub ab col dd k0 k1 k2 k3 k5, K.lookup 688 = some (excClassObj nm q 688 N bs bm true sn sub ab col dd k0 k1 k2 k3 k5 "ValueError.__new__") ∧ PySem.HandSPX.refsVE bm = true)
    (M39 : PySem.W.findIn K (.ref 743) "__init__" = some (some (.ref g39)))
    (L39 : K.lookup g39 = some ⟨pc39, pd39, .func (PySem.W.fnOf "__init__" "BadDocket.__init__" (defArgs sBadDocket_init) (defBody sBadDocket_init) (defScope sBadDocket_init) .none lV39 ec39 qm39 bn39 dd39 dt39), tl39⟩)
    (D39 : PySem.W.codeIn K dd39 "BadDocket.__init__" = true)
    (N39 : PySem.W.keepIn K (.ref g39) = true)
    (T39 : PySem.W.typeIn K (.ref g39) = some (.type "function"))
    (o39 : ∃ nm q N bs bm sn sub ab col dd k0 k1 k2 k3 k5, K.lookup 743 = some (excClassObj nm q 743 N bs bm true sn sub ab col dd k0 k1 k2 k3 k5 "ValueError.__new__") ∧ PySem.HandSPX.refsVE bm = true)
    (M40 : PySem.W.findIn K (.ref 762) "__init__" = some (some (.ref g40)))
    (L40 : K.lookup g40 = some ⟨pc40, pd40, .func (PySem.W.fnOf "__init__" "NoYear.__init__" (defArgs sNoYear_init) (defBody sNoYear_init) (defScope sNoYear_init) .none lV40 ec40 qm40 bn40 dd40 dt40), tl40⟩)
    (D40 : PySem.W.codeIn K dd40 "NoYear.__init__" = true)
    (N40 : PySem.W.keepIn K (.ref g40) = true)
    (T40 : PySem.W.typeIn K (.ref g40) = some (.type "function"))
    (o40 : ∃ nm q N bs bm sn sub ab col dd k0 k1 k2 k3 k5, K.lookup 762 = some (excClassObj nm q 762 N bs bm true sn sub ab col dd k0 k1 k2 k3 k5 "ValueError.__new__") ∧ PySem.HandSPX.refsVE bm = true)
    (M41 : PySem.W.findIn K (.ref 781) "__init__" = some (some (.ref g41)))
    (L41 : K.lookup g41 = some ⟨pc41, pd41, .func (PySem.W.fnOf "__init__" "YearIsShut.__init__" (defArgs sYearIsShut_init) (defBody sYearIsShut_init) (defScope sYearIsShut_init) .none lV41 ec41 qm41 bn41 dd41 dt41), tl41⟩)
    (D41 : PySem.W.codeIn K dd41 "YearIsShut.__init__" = true)
    (N41 : PySem.W.keepIn K (.ref g41) = true)
    (T41 : PySem.W.typeIn K (.ref g41) = some (.type "function"))
    (o41 : ∃ nm q N bs bm sn sub ab col dd k0 k1 k2 k3 k5, K.lookup 781 = some (excClassObj nm q 781 N bs bm true sn sub ab col dd k0 k1 k2 k3 k5 "ValueError.__new__") ∧ PySem.HandSPX.refsVE bm = true)
    (M42 : PySem.W.findIn K (.ref 800) "__init__" = some (some (.ref g42)))
    (L42 : K.lookup g42 = some ⟨pc42, pd42, .func (PySem.W.fnOf "__init__" "YearIsNotShut.__init__" (defArgs sYearIsNotShut_init) (defBody sYearIsNotShut_init) (defScope sYearIsNotShut_init) .none lV42 ec42 qm42 bn42 dd42 dt42), tl42⟩)
    (D42 : PySem.W.codeIn K dd42 "YearIsNotShut.__init__" = true)
    (N42 : PySem.W.keepIn K (.ref g42) = true)
    (T42 : PySem.W.typeIn K (.ref g42) = some (.type "function"))
    (o42 : ∃ nm q N bs bm sn sub ab col dd k0 k1 k2 k3 k5, K.lookup 800 = some (excClassObj nm q 800 N bs bm true sn sub ab col dd k0 k1 k2 k3 k5 "ValueError.__new__") ∧ PySem.HandSPX.refsVE bm = true)
    (M43 : PySem.W.findIn K (.ref 819) "__init__" = some (some (.ref g43)))
    (L43 : K.lookup g43 = some ⟨pc43, pd43, .func (PySem.W.fnOf "__init__" "NoPlace.__init__" (defArgs sNoPlace_init) (defBody sNoPlace_init) (defScope sNoPlace_init) .none lV43 ec43 qm43 bn43 dd43 dt43), tl43⟩)
    (D43 : PySem.W.codeIn K dd43 "NoPlace.__init__" = true)
    (N43 : PySem.W.keepIn K (.ref g43) = true)
    (T43 : PySem.W.typeIn K (.ref g43) = some (.type "function"))
    (o43 : ∃ nm q N bs bm sn sub ab col dd k0 k1 k2 k3 k5, K.lookup 819 = some (excClassObj nm q 819 N bs bm true sn sub ab col dd k0 k1 k2 k3 k5 "ValueError.__new__") ∧ PySem.HandSPX.refsVE bm = true)
    (M44 : PySem.W.findIn K (.ref 838) "__init__" = some (some (.ref g44)))
    (L44 : K.lookup g44 = some ⟨pc44, pd44, .func (PySem.W.fnOf "__init__" "NoNews.__init__" (defArgs sNoNews_init) (defBody sNoNews_init) (defScope sNoNews_init) .none lV44 ec44 qm44 bn44 dd44 dt44), tl44⟩)
    (D44 : PySem.W.codeIn K dd44 "NoNews.__init__" = true)
    (N44 : PySem.W.keepIn K (.ref g44) = true)
    (T44 : PySem.W.typeIn K (.ref g44) = some (.type "function"))
    (o44 : ∃ nm q N bs bm sn sub ab col dd k0 k1 k2 k3 k5, K.lookup 838 = some (excClassObj nm q 838 N bs bm true sn sub ab col dd k0 k1 k2 k3 k5 "ValueError.__new__") ∧ PySem.HandSPX.refsVE bm = true)
    (M45 : PySem.W.findIn K (.ref 857) "__init__" = some (some (.ref g45)))
    (L45 : K.lookup g45 = some ⟨pc45, pd45, .func (PySem.W.fnOf "__init__" "Overfull.__init__" (defArgs sOverfull_init) (defBody sOverfull_init) (defScope sOverfull_init) .none lV45 ec45 qm45 bn45 dd45 dt45), tl45⟩)
    (D45 : PySem.W.codeIn K dd45 "Overfull.__init__" = true)
    (N45 : PySem.W.keepIn K (.ref g45) = true)
    (T45 : PySem.W.typeIn K (.ref g45) = some (.type "function"))
    (o45 : ∃ nm q N bs bm sn sub ab col dd k0 k1 k2 k3 k5, K.lookup 857 = some (excClassObj nm q 857 N bs bm true sn sub ab col dd k0 k1 k2 k3 k5 "ValueError.__new__") ∧ PySem.HandSPX.refsVE bm = true)
    (M47 : PySem.W.findIn K (.ref 888) "__init__" = some (some (.ref g47)))
    (L47 : K.lookup g47 = some ⟨pc47, pd47, .func (PySem.W.fnOf "__init__" "TooLoose.__init__" (defArgs sTooLoose_init) (defBody sTooLoose_init) (defScope sTooLoose_init) .none lV47 ec47 qm47 bn47 dd47 dt47), tl47⟩)
    (D47 : PySem.W.codeIn K dd47 "TooLoose.__init__" = true)
    (N47 : PySem.W.keepIn K (.ref g47) = true)
    (T47 : PySem.W.typeIn K (.ref g47) = some (.type "function"))
    (o47 : ∃ nm q N bs bm sn sub ab col dd k0 k1 k2 k3 k5, K.lookup 888 = some (excClassObj nm q 888 N bs bm true sn sub ab col dd k0 k1 k2 k3 k5 "ValueError.__new__") ∧ PySem.HandSPX.refsVE bm = true)
    (M48 : PySem.W.findIn K (.ref 907) "__init__" = some (some (.ref g48)))
    (L48 : K.lookup g48 = some ⟨pc48, pd48, .func (PySem.W.fnOf "__init__" "BadAmendment.__init__" (defArgs sBadAmendment_init) (defBody sBadAmendment_init) (defScope sBadAmendment_init) .none lV48 ec48 qm48 bn48 dd48 dt48), tl48⟩)
    (D48 : PySem.W.codeIn K dd48 "BadAmendment.__init__" = true)
    (N48 : PySem.W.keepIn K (.ref g48) = true)
    (T48 : PySem.W.typeIn K (.ref g48) = some (.type "function"))
    (o48 : ∃ nm q N bs bm sn sub ab col dd k0 k1 k2 k3 k5, K.lookup 907 = some (excClassObj nm q 907 N bs bm true sn sub ab col dd k0 k1 k2 k3 k5 "ValueError.__new__") ∧ PySem.HandSPX.refsVE bm = true)
    (M49 : PySem.W.findIn K (.ref 926) "__init__" = some (some (.ref g49)))
    (L49 : K.lookup g49 = some ⟨pc49, pd49, .func (PySem.W.fnOf "__init__" "BadPool.__init__" (defArgs sBadPool_init) (defBody sBadPool_init) (defScope sBadPool_init) .none lV49 ec49 qm49 bn49 dd49 dt49), tl49⟩)
    (D49 : PySem.W.codeIn K dd49 "BadPool.__init__" = true)
    (N49 : PySem.W.keepIn K (.ref g49) = true)
    (T49 : PySem.W.typeIn K (.ref g49) = some (.type "function"))
    (o49 : ∃ nm q N bs bm sn sub ab col dd k0 k1 k2 k3 k5, K.lookup 926 = some (excClassObj nm q 926 N bs bm true sn sub ab col dd k0 k1 k2 k3 k5 "ValueError.__new__") ∧ PySem.HandSPX.refsVE bm = true)
    (M50 : PySem.W.findIn K (.ref 945) "__init__" = some (some (.ref g50)))
    (L50 : K.lookup g50 = some ⟨pc50, pd50, .func (PySem.W.fnOf "__init__" "BadLot.__init__" (defArgs sBadLot_init) (defBody sBadLot_init) (defScope sBadLot_init) .none lV50 ec50 qm50 bn50 dd50 dt50), tl50⟩)
    (D50 : PySem.W.codeIn K dd50 "BadLot.__init__" = true)
    (N50 : PySem.W.keepIn K (.ref g50) = true)
    (T50 : PySem.W.typeIn K (.ref g50) = some (.type "function"))
    (o50 : ∃ nm q N bs bm sn sub ab col dd k0 k1 k2 k3 k5, K.lookup 945 = some (excClassObj nm q 945 N bs bm true sn sub ab col dd k0 k1 k2 k3 k5 "ValueError.__new__") ∧ PySem.HandSPX.refsVE bm = true)
    (M51 : PySem.W.findIn K (.ref 964) "__init__" = some (some (.ref g51)))
    (L51 : K.lookup g51 = some ⟨pc51, pd51, .func (PySem.W.fnOf "__init__" "Clash.__init__" (defArgs sClash_init) (defBody sClash_init) (defScope sClash_init) .none lV51 ec51 qm51 bn51 dd51 dt51), tl51⟩)
    (D51 : PySem.W.codeIn K dd51 "Clash.__init__" = true)
    (N51 : PySem.W.keepIn K (.ref g51) = true)
    (T51 : PySem.W.typeIn K (.ref g51) = some (.type "function"))
    (o51 : ∃ nm q N bs bm sn sub ab col dd k0 k1 k2 k3 k5, K.lookup 964 = some (excClassObj nm q 964 N bs bm true sn sub ab col dd k0 k1 k2 k3 k5 "ValueError.__new__") ∧ PySem.HandSPX.refsVE bm = true)
    (M52 : PySem.W.findIn K (.ref 983) "__init__" = some (some (.ref g52)))
    (L52 : K.lookup g52 = some ⟨pc52, pd52, .func (PySem.W.fnOf "__init__" "NotParted.__init__" (defArgs sNotParted_init) (defBody sNotParted_init) (defScope sNotParted_init) .none lV52 ec52 qm52 bn52 dd52 dt52), tl52⟩)
    (D52 : PySem.W.codeIn K dd52 "NotParted.__init__" = true)
    (N52 : PySem.W.keepIn K (.ref g52) = true)
    (T52 : PySem.W.typeIn K (.ref g52) = some (.type "function"))
    (o52 : ∃ nm q N bs bm sn sub ab col dd k0 k1 k2 k3 k5, K.lookup 983 = some (excClassObj nm q 983 N bs bm true sn sub ab col dd k0 k1 k2 k3 k5 "ValueError.__new__") ∧ PySem.HandSPX.refsVE bm = true)
    (q4 : PySem.W.excIn K 113 excBmB "ValueError.__new__" = true)
    (q21 : PySem.W.excIn K 429 excBmB "ValueError.__new__" = true)
    (q26 : PySem.W.excIn K 517 excBmB "ValueError.__new__" = true)
    (q36 : PySem.W.excIn K 700 excBmB "ValueError.__new__" = true)
    (q37 : PySem.W.excIn K 712 excBmB "ValueError.__new__" = true)
    (q38 : PySem.W.excIn K 724 excBmB "ValueError.__new__" = true)
    (q46 : PySem.W.excIn K 869 excBmB "ValueError.__new__" = true)
    (qS : PySem.W.excIn K 24 excBmB "ValueError.__new__" = true)
    (r0 : ∃ cd, PySem.W.clsIn K 44 = some cd ∧ cd.mro = mroT 44)
    (r1 : ∃ cd, PySem.W.clsIn K 63 = some cd ∧ cd.mro = mroT 63)
    (r2 : ∃ cd, PySem.W.clsIn K 82 = some cd ∧ cd.mro = mroT 82)
    (r3 : ∃ cd, PySem.W.clsIn K 101 = some cd ∧ cd.mro = mroT 101)
    (r4 : ∃ cd, PySem.W.clsIn K 113 = some cd ∧ cd.mro = mroT 113)
    (r5 : ∃ cd, PySem.W.clsIn K 132 = some cd ∧ cd.mro = mroT 132)
    (r6 : ∃ cd, PySem.W.clsIn K 151 = some cd ∧ cd.mro = mroT 151)
    (r7 : ∃ cd, PySem.W.clsIn K 170 = some cd ∧ cd.mro = mroT 170)
    (r8 : ∃ cd, PySem.W.clsIn K 189 = some cd ∧ cd.mro = mroT 189)
    (r9 : ∃ cd, PySem.W.clsIn K 208 = some cd ∧ cd.mro = mroT 208)
    (r10 : ∃ cd, PySem.W.clsIn K 227 = some cd ∧ cd.mro = mroT 227)
    (r11 : ∃ cd, PySem.W.clsIn K 246 = some cd ∧ cd.mro = mroT 246)
    (r12 : ∃ cd, PySem.W.clsIn K 265 = some cd ∧ cd.mro = mroT 265)
    (r13 : ∃ cd, PySem.W.clsIn K 284 = some cd ∧ cd.mro = mroT 284)
    (r14 : ∃ cd, PySem.W.clsIn K 303 = some cd ∧ cd.mro = mroT 303)
    (r15 : ∃ cd, PySem.W.clsIn K 322 = some cd ∧ cd.mro = mroT 322)
    (r16 : ∃ cd, PySem.W.clsIn K 341 = some cd ∧ cd.mro = mroT 341)
    (r17 : ∃ cd, PySem.W.clsIn K 360 = some cd ∧ cd.mro = mroT 360)
    (r18 : ∃ cd, PySem.W.clsIn K 379 = some cd ∧ cd.mro = mroT 379)
    (r19 : ∃ cd, PySem.W.clsIn K 398 = some cd ∧ cd.mro = mroT 398)
    (r20 : ∃ cd, PySem.W.clsIn K 417 = some cd ∧ cd.mro = mroT 417)
    (r21 : ∃ cd, PySem.W.clsIn K 429 = some cd ∧ cd.mro = mroT 429)
    (r22 : ∃ cd, PySem.W.clsIn K 448 = some cd ∧ cd.mro = mroT 448)
    (r23 : ∃ cd, PySem.W.clsIn K 467 = some cd ∧ cd.mro = mroT 467)
    (r24 : ∃ cd, PySem.W.clsIn K 486 = some cd ∧ cd.mro = mroT 486)
    (r25 : ∃ cd, PySem.W.clsIn K 505 = some cd ∧ cd.mro = mroT 505)
    (r26 : ∃ cd, PySem.W.clsIn K 517 = some cd ∧ cd.mro = mroT 517)
    (r27 : ∃ cd, PySem.W.clsIn K 536 = some cd ∧ cd.mro = mroT 536)
    (r28 : ∃ cd, PySem.W.clsIn K 555 = some cd ∧ cd.mro = mroT 555)
    (r29 : ∃ cd, PySem.W.clsIn K 574 = some cd ∧ cd.mro = mroT 574)
    (r30 : ∃ cd, PySem.W.clsIn K 593 = some cd ∧ cd.mro = mroT 593)
    (r31 : ∃ cd, PySem.W.clsIn K 612 = some cd ∧ cd.mro = mroT 612)
    (r32 : ∃ cd, PySem.W.clsIn K 631 = some cd ∧ cd.mro = mroT 631)
    (r33 : ∃ cd, PySem.W.clsIn K 650 = some cd ∧ cd.mro = mroT 650)
    (r34 : ∃ cd, PySem.W.clsIn K 669 = some cd ∧ cd.mro = mroT 669)
    (r35 : ∃ cd, PySem.W.clsIn K 688 = some cd ∧ cd.mro = mroT 688)
    (r36 : ∃ cd, PySem.W.clsIn K 700 = some cd ∧ cd.mro = mroT 700)
    (r37 : ∃ cd, PySem.W.clsIn K 712 = some cd ∧ cd.mro = mroT 712)
    (r38 : ∃ cd, PySem.W.clsIn K 724 = some cd ∧ cd.mro = mroT 724)
    (r39 : ∃ cd, PySem.W.clsIn K 743 = some cd ∧ cd.mro = mroT 743)
    (r40 : ∃ cd, PySem.W.clsIn K 762 = some cd ∧ cd.mro = mroT 762)
    (r41 : ∃ cd, PySem.W.clsIn K 781 = some cd ∧ cd.mro = mroT 781)
    (r42 : ∃ cd, PySem.W.clsIn K 800 = some cd ∧ cd.mro = mroT 800)
    (r43 : ∃ cd, PySem.W.clsIn K 819 = some cd ∧ cd.mro = mroT 819)
    (r44 : ∃ cd, PySem.W.clsIn K 838 = some cd ∧ cd.mro = mroT 838)
    (r45 : ∃ cd, PySem.W.clsIn K 857 = some cd ∧ cd.mro = mroT 857)
    (r46 : ∃ cd, PySem.W.clsIn K 869 = some cd ∧ cd.mro = mroT 869)
    (r47 : ∃ cd, PySem.W.clsIn K 888 = some cd ∧ cd.mro = mroT 888)
    (r48 : ∃ cd, PySem.W.clsIn K 907 = some cd ∧ cd.mro = mroT 907)
    (r49 : ∃ cd, PySem.W.clsIn K 926 = some cd ∧ cd.mro = mroT 926)
    (r50 : ∃ cd, PySem.W.clsIn K 945 = some cd ∧ cd.mro = mroT 945)
    (r51 : ∃ cd, PySem.W.clsIn K 964 = some cd ∧ cd.mro = mroT 964)
    (r52 : ∃ cd, PySem.W.clsIn K 983 = some cd ∧ cd.mro = mroT 983)
    (rS : ∃ cd, PySem.W.clsIn K 24 = some cd ∧ cd.mro = mroTS)
    (w1 : ((List.range 53).all fun j => decide (PySem.W.nsIn K mainGlobals (nm j) = some (some (.ref (CsT j))))) = true)
    (w2 : ((List.range 53).all fun j => xfB K (CsT j)) = true)
    (w3 : ((List.range 53).all fun j => decide (PySem.W.findIn K (.ref (CsT j)) "__class__" = some (some (.builtin "object.__class__")))) = true)
    (w4 : ((List.range 53).all fun j => decide (PySem.W.typeIn K (.ref (CsT j)) = some (.type "type"))) = true)
    (w5 : ((List.range 53).all fun j => PySem.W.keepIn K (.ref (CsT j))) = true)
    (w6 : ((List.range 53).all fun j => decide (PySem.W.findIn K (.ref (CsT j)) "__setattr__" = some (some (.builtin "object.__setattr__")))) = true)
    (w7 : ((List.range 53).all fun j => ((flOf j).getD []).all fun f => decide (PySem.W.findIn K (.ref (CsT j)) f = some none)) = true)
    (v1 : PySem.W.nsIn K mainGlobals "SearchError" = some (some (.ref CST)))
    (v2 : xfB K CST = true)
    (v3 : PySem.W.findIn K (.ref CST) "__class__" = some (some (.builtin "object.__class__")))
    (v4 : PySem.W.typeIn K (.ref CST) = some (.type "type"))
    (v5 : PySem.W.keepIn K (.ref CST) = true)
    (u1 : PySem.W.specialIn K (.builtin "object.__class__") "__get__" = some (some (.builtin "getset_descriptor.__get__")))
    (u2 : PySem.W.takesIn K (.builtin "object.__class__") = some true)
    (z_int : PySem.W.nsIn K mainGlobals "int" = some none)
    (z_abs : PySem.W.nsIn K mainGlobals "abs" = some none)
    (z_len : PySem.W.nsIn K mainGlobals "len" = some none)
    (z_enumerate : PySem.W.nsIn K mainGlobals "enumerate" = some none)
    (z_range : PySem.W.nsIn K mainGlobals "range" = some none)
    (z_isinstance : PySem.W.nsIn K mainGlobals "isinstance" = some none)
    (z_ValueError : PySem.W.nsIn K mainGlobals "ValueError" = some none) :
    ∀ (base : Heap) (s : Shared) (H : Hp) (a : Addr) (ns : List Int), K.In base → base.Ns mainGlobals mg → Env0 l.prog w K mg base callerA [] s H → SqL K H a (ns.map V.int) → ns.length ≤ 63 →
      codeAny (model l.prog w) callerA (.call (.ref fa) ⟨[.ref a], []⟩) (_root_.L2.CR CX0 [] l.prog w H s QT EF) s := by
  have e := hfa.symm.trans (PySem.W.mg_of X G a11)
  cases e
  intro base s H a ns _ _ e0 hS hn
  have T : Bl mg := ⟨(PySem.W.mg_none_of X G z_int), (PySem.W.mg_none_of X G z_abs), (PySem.W.mg_none_of X G z_len), (PySem.W.mg_none_of X G z_enumerate), (PySem.W.mg_none_of X G z_range)⟩
  have al : ∀ {p : Nat → Bool}, ((List.range 53).all p) = true → ∀ j, j < 53 → p j = true := fun h j hj => List.all_eq_true.mp h j (List.mem_range.mpr hj)
  have mC : ∀ j, j < 53 → mg (nm j) = some (.ref (CsT j)) := fun j hj => PySem.W.mg_of X G (of_decide_eq_true (al w1 j hj))
  have xf : ∀ j, j < 53 → XfC K (CsT j) := fun j hj => xfB_ok (al w2 j hj)
  have ty : ∀ j, j < 53 → PySem.W.typeIn K (.ref (CsT j)) = some (.type "type") := fun j hj => of_decide_eq_true (al w4 j hj)
  have sa : ∀ j, j < 53 → PySem.W.findIn K (.ref (CsT j)) "__setattr__" = some (some (.builtin "object.__setattr__")) := fun j hj => of_decide_eq_true (al w6 j hj)
  have nf : ∀ j fs, j < 53 → flOf j = some fs → ∀ f ∈ fs, PySem.W.findIn K (.ref (CsT j)) f = some none := fun j fs hj hf f h => of_decide_eq_true (List.all_eq_true.mp (al w7 j hj) f (by rw [hf]; exact h))
  have TF : TabF K mg CsT CST := { cl := AllUp.all (Pr := fun j => ∃ cd, PySem.W.clsIn K (CsT j) = some cd ∧ cd.mro = mroE (CsT j) CST) (k := 53) ⟨r0, r1, r2, r3, r4, r5, r6, r7, r8, r9, r10, r11, r12, r13, r14, r15, r16, r17, r18, r19, r20, r21, r22, r23, r24, r25, r26, r27, r28, r29, r30, r31, r32, r33, r34, r35, r36, r37, r38, r39, r40, r41, r42, r43, r44, r45, r46, r47, r48, r49, r50, r51, r52, trivial⟩, ty := ty, inj := fun i j hi hj e => ads_inj i j hi hj e, ne := ads_ne, clS := rS, tyS := v4, xf := xf, xfS := xfB_ok v2, ca := fun j hj => of_decide_eq_true (al w3 j hj), caS := v3, hn := u1, ht := u2, mS := PySem.W.mg_of X G v1 }
  have E0 : ErV l.prog w K mg base (nm 0) ["index", "what"] (CsT 0) g0 _ := ⟨⟨o0, sa 0 (by decide), (xf 0 (by decide)).exC, ty 0 (by decide), al w5 0 (by decide)⟩, M0, T0, mC 0 (by decide), (fun_mk (st := sBadKinds_init) L0 D0 N0).binds (ps := ["self", "index", "what"]) (fun _ _ _ _ _ _ us hl => match us, hl with | [_, _, _], _ => rfl), ok_BadKinds (fun_mk (st := sBadKinds_init) L0 D0 N0), nf 0 _ (by decide) rfl⟩
  have E1 : ErV l.prog w K mg base (nm 1) ["name"] (CsT 1) g1 _ := ⟨⟨o1, sa 1 (by decide), (xf 1 (by decide)).exC, ty 1 (by decide), al w5 1 (by decide)⟩, M1, T1, mC 1 (by decide), (fun_mk (st := sNoKind_init) L1 D1 N1).binds (ps := ["self", "name"]) (fun _ _ _ _ _ _ us hl => match us, hl with | [_, _], _ => rfl), ok_NoKind (fun_mk (st := sNoKind_init) L1 D1 N1), nf 1 _ (by decide) rfl⟩
  have E2 : ErV l.prog w K mg base (nm 2) ["year", "index", "what"] (CsT 2) g2 _ := ⟨⟨o2, sa 2 (by decide), (xf 2 (by decide)).exC, ty 2 (by decide), al w5 2 (by decide)⟩, M2, T2, mC 2 (by decide), (fun_mk (st := sBadHistory_init) L2 D2 N2).binds (ps := ["self", "year", "index", "what"]) (fun _ _ _ _ _ _ us hl => match us, hl with | [_, _, _, _], _ => rfl), ok_BadHistory (fun_mk (st := sBadHistory_init) L2 D2 N2), nf 2 _ (by decide) rfl⟩
  have E3 : ErV l.prog w K mg base (nm 3) ["years"] (CsT 3) g3 _ := ⟨⟨o3, sa 3 (by decide), (xf 3 (by decide)).exC, ty 3 (by decide), al w5 3 (by decide)⟩, M3, T3, mC 3 (by decide), (fun_mk (st := sBadYears_init) L3 D3 N3).binds (ps := ["self", "years"]) (fun _ _ _ _ _ _ us hl => match us, hl with | [_, _], _ => rfl), ok_BadYears (fun_mk (st := sBadYears_init) L3 D3 N3), nf 3 _ (by decide) rfl⟩
  have E5 : ErV l.prog w K mg base (nm 5) ["what"] (CsT 5) g5 _ := ⟨⟨o5, sa 5 (by decide), (xf 5 (by decide)).exC, ty 5 (by decide), al w5 5 (by decide)⟩, M5, T5, mC 5 (by decide), (fun_mk (st := sBadMap_init) L5 D5 N5).binds (ps := ["self", "what"]) (fun _ _ _ _ _ _ us hl => match us, hl with | [_, _], _ => rfl), ok_BadMap (fun_mk (st := sBadMap_init) L5 D5 N5), nf 5 _ (by decide) rfl⟩
  have E6 : ErV l.prog w K mg base (nm 6) ["person"] (CsT 6) g6 _ := ⟨⟨o6, sa 6 (by decide), (xf 6 (by decide)).exC, ty 6 (by decide), al w5 6 (by decide)⟩, M6, T6, mC 6 (by decide), (fun_mk (st := sBadPerson_init) L6 D6 N6).binds (ps := ["self", "person"]) (fun _ _ _ _ _ _ us hl => match us, hl with | [_, _], _ => rfl), ok_BadPerson (fun_mk (st := sBadPerson_init) L6 D6 N6), nf 6 _ (by decide) rfl⟩
  have E7 : ErV l.prog w K mg base (nm 7) ["row", "what"] (CsT 7) g7 _ := ⟨⟨o7, sa 7 (by decide), (xf 7 (by decide)).exC, ty 7 (by decide), al w5 7 (by decide)⟩, M7, T7, mC 7 (by decide), (fun_mk (st := sBadText_init) L7 D7 N7).binds (ps := ["self", "row", "what"]) (fun _ _ _ _ _ _ us hl => match us, hl with | [_, _, _], _ => rfl), ok_BadText (fun_mk (st := sBadText_init) L7 D7 N7), nf 7 _ (by decide) rfl⟩
  have E8 : ErV l.prog w K mg base (nm 8) ["what"] (CsT 8) g8 _ := ⟨⟨o8, sa 8 (by decide), (xf 8 (by decide)).exC, ty 8 (by decide), al w5 8 (by decide)⟩, M8, T8, mC 8 (by decide), (fun_mk (st := sBadStand_init) L8 D8 N8).binds (ps := ["self", "what"]) (fun _ _ _ _ _ _ us hl => match us, hl with | [_, _], _ => rfl), ok_BadStand (fun_mk (st := sBadStand_init) L8 D8 N8), nf 8 _ (by decide) rfl⟩
  have E9 : ErV l.prog w K mg base (nm 9) ["what"] (CsT 9) g9 _ := ⟨⟨o9, sa 9 (by decide), (xf 9 (by decide)).exC, ty 9 (by decide), al w5 9 (by decide)⟩, M9, T9, mC 9 (by decide), (fun_mk (st := sBadDeed_init) L9 D9 N9).binds (ps := ["self", "what"]) (fun _ _ _ _ _ _ us hl => match us, hl with | [_, _], _ => rfl), ok_BadDeed (fun_mk (st := sBadDeed_init) L9 D9 N9), nf 9 _ (by decide) rfl⟩
  have E10 : ErV l.prog w K mg base (nm 10) ["what"] (CsT 10) g10 _ := ⟨⟨o10, sa 10 (by decide), (xf 10 (by decide)).exC, ty 10 (by decide), al w5 10 (by decide)⟩, M10, T10, mC 10 (by decide), (fun_mk (st := sBadCondition_init) L10 D10 N10).binds (ps := ["self", "what"]) (fun _ _ _ _ _ _ us hl => match us, hl with | [_, _], _ => rfl), ok_BadCondition (fun_mk (st := sBadCondition_init) L10 D10 N10), nf 10 _ (by decide) rfl⟩
  have E11 : ErV l.prog w K mg base (nm 11) ["what"] (CsT 11) g11 _ := ⟨⟨o11, sa 11 (by decide), (xf 11 (by decide)).exC, ty 11 (by decide), al w5 11 (by decide)⟩, M11, T11, mC 11 (by decide), (fun_mk (st := sBadChange_init) L11 D11 N11).binds (ps := ["self", "what"]) (fun _ _ _ _ _ _ us hl => match us, hl with | [_, _], _ => rfl), ok_BadChange (fun_mk (st := sBadChange_init) L11 D11 N11), nf 11 _ (by decide) rfl⟩
  have E12 : ErV l.prog w K mg base (nm 12) ["index", "what"] (CsT 12) g12 _ := ⟨⟨o12, sa 12 (by decide), (xf 12 (by decide)).exC, ty 12 (by decide), al w5 12 (by decide)⟩, M12, T12, mC 12 (by decide), (fun_mk (st := sBadClause_init) L12 D12 N12).binds (ps := ["self", "index", "what"]) (fun _ _ _ _ _ _ us hl => match us, hl with | [_, _, _], _ => rfl), ok_BadClause (fun_mk (st := sBadClause_init) L12 D12 N12), nf 12 _ (by decide) rfl⟩
  have E13 : ErV l.prog w K mg base (nm 13) ["index", "what"] (CsT 13) g13 _ := ⟨⟨o13, sa 13 (by decide), (xf 13 (by decide)).exC, ty 13 (by decide), al w5 13 (by decide)⟩, M13, T13, mC 13 (by decide), (fun_mk (st := sBadCustom_init) L13 D13 N13).binds (ps := ["self", "index", "what"]) (fun _ _ _ _ _ _ us hl => match us, hl with | [_, _, _], _ => rfl), ok_BadCustom (fun_mk (st := sBadCustom_init) L13 D13 N13), nf 13 _ (by decide) rfl⟩
  have E14 : ErV l.prog w K mg base (nm 14) ["what"] (CsT 14) g14 _ := ⟨⟨o14, sa 14 (by decide), (xf 14 (by decide)).exC, ty 14 (by decide), al w5 14 (by decide)⟩, M14, T14, mC 14 (by decide), (fun_mk (st := sBadQuestion_init) L14 D14 N14).binds (ps := ["self", "what"]) (fun _ _ _ _ _ _ us hl => match us, hl with | [_, _], _ => rfl), ok_BadQuestion (fun_mk (st := sBadQuestion_init) L14 D14 N14), nf 14 _ (by decide) rfl⟩
  have E15 : ErV l.prog w K mg base (nm 15) ["count"] (CsT 15) g15 _ := ⟨⟨o15, sa 15 (by decide), (xf 15 (by decide)).exC, ty 15 (by decide), al w5 15 (by decide)⟩, M15, T15, mC 15 (by decide), (fun_mk (st := sTooMany_init) L15 D15 N15).binds (ps := ["self", "count"]) (fun _ _ _ _ _ _ us hl => match us, hl with | [_, _], _ => rfl), ok_TooMany (fun_mk (st := sTooMany_init) L15 D15 N15), nf 15 _ (by decide) rfl⟩
  have E16 : ErV l.prog w K mg base (nm 16) ["seat"] (CsT 16) g16 _ := ⟨⟨o16, sa 16 (by decide), (xf 16 (by decide)).exC, ty 16 (by decide), al w5 16 (by decide)⟩, M16, T16, mC 16 (by decide), (fun_mk (st := sBadSeat_init) L16 D16 N16).binds (ps := ["self", "seat"]) (fun _ _ _ _ _ _ us hl => match us, hl with | [_, _], _ => rfl), ok_BadSeat (fun_mk (st := sBadSeat_init) L16 D16 N16), nf 16 _ (by decide) rfl⟩
  have E17 : ErV l.prog w K mg base (nm 17) ["clock"] (CsT 17) g17 _ := ⟨⟨o17, sa 17 (by decide), (xf 17 (by decide)).exC, ty 17 (by decide), al w5 17 (by decide)⟩, M17, T17, mC 17 (by decide), (fun_mk (st := sBadClock_init) L17 D17 N17).binds (ps := ["self", "clock"]) (fun _ _ _ _ _ _ us hl => match us, hl with | [_, _], _ => rfl), ok_BadClock (fun_mk (st := sBadClock_init) L17 D17 N17), nf 17 _ (by decide) rfl⟩
  have E18 : ErV l.prog w K mg base (nm 18) ["index"] (CsT 18) g18 _ := ⟨⟨o18, sa 18 (by decide), (xf 18 (by decide)).exC, ty 18 (by decide), al w5 18 (by decide)⟩, M18, T18, mC 18 (by decide), (fun_mk (st := sNoClause_init) L18 D18 N18).binds (ps := ["self", "index"]) (fun _ _ _ _ _ _ us hl => match us, hl with | [_, _], _ => rfl), ok_NoClause (fun_mk (st := sNoClause_init) L18 D18 N18), nf 18 _ (by decide) rfl⟩
  have E19 : ErV l.prog w K mg base (nm 19) ["what"] (CsT 19) g19 _ := ⟨⟨o19, sa 19 (by decide), (xf 19 (by decide)).exC, ty 19 (by decide), al w5 19 (by decide)⟩, M19, T19, mC 19 (by decide), (fun_mk (st := sBadShape_init) L19 D19 N19).binds (ps := ["self", "what"]) (fun _ _ _ _ _ _ us hl => match us, hl with | [_, _], _ => rfl), ok_BadShape (fun_mk (st := sBadShape_init) L19 D19 N19), nf 19 _ (by decide) rfl⟩
  have E20 : ErV l.prog w K mg base (nm 20) ["index"] (CsT 20) g20 _ := ⟨⟨o20, sa 20 (by decide), (xf 20 (by decide)).exC, ty 20 (by decide), al w5 20 (by decide)⟩, M20, T20, mC 20 (by decide), (fun_mk (st := sBadSpot_init) L20 D20 N20).binds (ps := ["self", "index"]) (fun _ _ _ _ _ _ us hl => match us, hl with | [_, _], _ => rfl), ok_BadSpot (fun_mk (st := sBadSpot_init) L20 D20 N20), nf 20 _ (by decide) rfl⟩
  have E22 : ErV l.prog w K mg base (nm 22) ["what"] (CsT 22) g22 _ := ⟨⟨o22, sa 22 (by decide), (xf 22 (by decide)).exC, ty 22 (by decide), al w5 22 (by decide)⟩, M22, T22, mC 22 (by decide), (fun_mk (st := sBadLikeness_init) L22 D22 N22).binds (ps := ["self", "what"]) (fun _ _ _ _ _ _ us hl => match us, hl with | [_, _], _ => rfl), ok_BadLikeness (fun_mk (st := sBadLikeness_init) L22 D22 N22), nf 22 _ (by decide) rfl⟩
  have E23 : ErV l.prog w K mg base (nm 23) ["index"] (CsT 23) g23 _ := ⟨⟨o23, sa 23 (by decide), (xf 23 (by decide)).exC, ty 23 (by decide), al w5 23 (by decide)⟩, M23, T23, mC 23 (by decide), (fun_mk (st := sBadIndex_init) L23 D23 N23).binds (ps := ["self", "index"]) (fun _ _ _ _ _ _ us hl => match us, hl with | [_, _], _ => rfl), ok_BadIndex (fun_mk (st := sBadIndex_init) L23 D23 N23), nf 23 _ (by decide) rfl⟩
  have E24 : ErV l.prog w K mg base (nm 24) ["what"] (CsT 24) g24 _ := ⟨⟨o24, sa 24 (by decide), (xf 24 (by decide)).exC, ty 24 (by decide), al w5 24 (by decide)⟩, M24, T24, mC 24 (by decide), (fun_mk (st := sBadPair_init) L24 D24 N24).binds (ps := ["self", "what"]) (fun _ _ _ _ _ _ us hl => match us, hl with | [_, _], _ => rfl), ok_BadPair (fun_mk (st := sBadPair_init) L24 D24 N24), nf 24 _ (by decide) rfl⟩
  have E25 : ErV l.prog w K mg base (nm 25) ["index", "what"] (CsT 25) g25 _ := ⟨⟨o25, sa 25 (by decide), (xf 25 (by decide)).exC, ty 25 (by decide), al w5 25 (by decide)⟩, M25, T25, mC 25 (by decide), (fun_mk (st := sBadHeights_init) L25 D25 N25).binds (ps := ["self", "index", "what"]) (fun _ _ _ _ _ _ us hl => match us, hl with | [_, _, _], _ => rfl), ok_BadHeights (fun_mk (st := sBadHeights_init) L25 D25 N25), nf 25 _ (by decide) rfl⟩
  have E27 : ErV l.prog w K mg base (nm 27) ["what"] (CsT 27) g27 _ := ⟨⟨o27, sa 27 (by decide), (xf 27 (by decide)).exC, ty 27 (by decide), al w5 27 (by decide)⟩, M27, T27, mC 27 (by decide), (fun_mk (st := sBadPasts_init) L27 D27 N27).binds (ps := ["self", "what"]) (fun _ _ _ _ _ _ us hl => match us, hl with | [_, _], _ => rfl), ok_BadPasts (fun_mk (st := sBadPasts_init) L27 D27 N27), nf 27 _ (by decide) rfl⟩
  have E28 : ErV l.prog w K mg base (nm 28) ["what"] (CsT 28) g28 _ := ⟨⟨o28, sa 28 (by decide), (xf 28 (by decide)).exC, ty 28 (by decide), al w5 28 (by decide)⟩, M28, T28, mC 28 (by decide), (fun_mk (st := sBadRings_init) L28 D28 N28).binds (ps := ["self", "what"]) (fun _ _ _ _ _ _ us hl => match us, hl with | [_, _], _ => rfl), ok_BadRings (fun_mk (st := sBadRings_init) L28 D28 N28), nf 28 _ (by decide) rfl⟩
  have E29 : ErV l.prog w K mg base (nm 29) ["turns"] (CsT 29) g29 _ := ⟨⟨o29, sa 29 (by decide), (xf 29 (by decide)).exC, ty 29 (by decide), al w5 29 (by decide)⟩, M29, T29, mC 29 (by decide), (fun_mk (st := sBadTurns_init) L29 D29 N29).binds (ps := ["self", "turns"]) (fun _ _ _ _ _ _ us hl => match us, hl with | [_, _], _ => rfl), ok_BadTurns (fun_mk (st := sBadTurns_init) L29 D29 N29), nf 29 _ (by decide) rfl⟩
  have E30 : ErV l.prog w K mg base (nm 30) ["what"] (CsT 30) g30 _ := ⟨⟨o30, sa 30 (by decide), (xf 30 (by decide)).exC, ty 30 (by decide), al w5 30 (by decide)⟩, M30, T30, mC 30 (by decide), (fun_mk (st := sBadEntry_init) L30 D30 N30).binds (ps := ["self", "what"]) (fun _ _ _ _ _ _ us hl => match us, hl with | [_, _], _ => rfl), ok_BadEntry (fun_mk (st := sBadEntry_init) L30 D30 N30), nf 30 _ (by decide) rfl⟩
  have E31 : ErV l.prog w K mg base (nm 31) ["year", "what"] (CsT 31) g31 _ := ⟨⟨o31, sa 31 (by decide), (xf 31 (by decide)).exC, ty 31 (by decide), al w5 31 (by decide)⟩, M31, T31, mC 31 (by decide), (fun_mk (st := sBadAbstract_init) L31 D31 N31).binds (ps := ["self", "year", "what"]) (fun _ _ _ _ _ _ us hl => match us, hl with | [_, _, _], _ => rfl), ok_BadAbstract (fun_mk (st := sBadAbstract_init) L31 D31 N31), nf 31 _ (by decide) rfl⟩
  have E32 : ErV l.prog w K mg base (nm 32) ["what"] (CsT 32) g32 _ := ⟨⟨o32, sa 32 (by decide), (xf 32 (by decide)).exC, ty 32 (by decide), al w5 32 (by decide)⟩, M32, T32, mC 32 (by decide), (fun_mk (st := sBadBook_init) L32 D32 N32).binds (ps := ["self", "what"]) (fun _ _ _ _ _ _ us hl => match us, hl with | [_, _], _ => rfl), ok_BadBook (fun_mk (st := sBadBook_init) L32 D32 N32), nf 32 _ (by decide) rfl⟩
  have E33 : ErV l.prog w K mg base (nm 33) ["index", "what"] (CsT 33) g33 _ := ⟨⟨o33, sa 33 (by decide), (xf 33 (by decide)).exC, ty 33 (by decide), al w5 33 (by decide)⟩, M33, T33, mC 33 (by decide), (fun_mk (st := sBadShelf_init) L33 D33 N33).binds (ps := ["self", "index", "what"]) (fun _ _ _ _ _ _ us hl => match us, hl with | [_, _, _], _ => rfl), ok_BadShelf (fun_mk (st := sBadShelf_init) L33 D33 N33), nf 33 _ (by decide) rfl⟩
  have E34 : ErV l.prog w K mg base (nm 34) ["index", "what"] (CsT 34) g34 _ := ⟨⟨o34, sa 34 (by decide), (xf 34 (by decide)).exC, ty 34 (by decide), al w5 34 (by decide)⟩, M34, T34, mC 34 (by decide), (fun_mk (st := sBadRound_init) L34 D34 N34).binds (ps := ["self", "index", "what"]) (fun _ _ _ _ _ _ us hl => match us, hl with | [_, _, _], _ => rfl), ok_BadRound (fun_mk (st := sBadRound_init) L34 D34 N34), nf 34 _ (by decide) rfl⟩
  have E35 : ErV l.prog w K mg base (nm 35) ["rest"] (CsT 35) g35 _ := ⟨⟨o35, sa 35 (by decide), (xf 35 (by decide)).exC, ty 35 (by decide), al w5 35 (by decide)⟩, M35, T35, mC 35 (by decide), (fun_mk (st := sBadRest_init) L35 D35 N35).binds (ps := ["self", "rest"]) (fun _ _ _ _ _ _ us hl => match us, hl with | [_, _], _ => rfl), ok_BadRest (fun_mk (st := sBadRest_init) L35 D35 N35), nf 35 _ (by decide) rfl⟩
  have E39 : ErV l.prog w K mg base (nm 39) ["what"] (CsT 39) g39 _ := ⟨⟨o39, sa 39 (by decide), (xf 39 (by decide)).exC, ty 39 (by decide), al w5 39 (by decide)⟩, M39, T39, mC 39 (by decide), (fun_mk (st := sBadDocket_init) L39 D39 N39).binds (ps := ["self", "what"]) (fun _ _ _ _ _ _ us hl => match us, hl with | [_, _], _ => rfl), ok_BadDocket (fun_mk (st := sBadDocket_init) L39 D39 N39), nf 39 _ (by decide) rfl⟩
  have E40 : ErV l.prog w K mg base (nm 40) ["year"] (CsT 40) g40 _ := ⟨⟨o40, sa 40 (by decide), (xf 40 (by decide)).exC, ty 40 (by decide), al w5 40 (by decide)⟩, M40, T40, mC 40 (by decide), (fun_mk (st := sNoYear_init) L40 D40 N40).binds (ps := ["self", "year"]) (fun _ _ _ _ _ _ us hl => match us, hl with | [_, _], _ => rfl), ok_NoYear (fun_mk (st := sNoYear_init) L40 D40 N40), nf 40 _ (by decide) rfl⟩
  have E41 : ErV l.prog w K mg base (nm 41) ["year"] (CsT 41) g41 _ := ⟨⟨o41, sa 41 (by decide), (xf 41 (by decide)).exC, ty 41 (by decide), al w5 41 (by decide)⟩, M41, T41, mC 41 (by decide), (fun_mk (st := sYearIsShut_init) L41 D41 N41).binds (ps := ["self", "year"]) (fun _ _ _ _ _ _ us hl => match us, hl with | [_, _], _ => rfl), ok_YearIsShut (fun_mk (st := sYearIsShut_init) L41 D41 N41), nf 41 _ (by decide) rfl⟩
  have E42 : ErV l.prog w K mg base (nm 42) ["year"] (CsT 42) g42 _ := ⟨⟨o42, sa 42 (by decide), (xf 42 (by decide)).exC, ty 42 (by decide), al w5 42 (by decide)⟩, M42, T42, mC 42 (by decide), (fun_mk (st := sYearIsNotShut_init) L42 D42 N42).binds (ps := ["self", "year"]) (fun _ _ _ _ _ _ us hl => match us, hl with | [_, _], _ => rfl), ok_YearIsNotShut (fun_mk (st := sYearIsNotShut_init) L42 D42 N42), nf 42 _ (by decide) rfl⟩
  have E43 : ErV l.prog w K mg base (nm 43) ["place"] (CsT 43) g43 _ := ⟨⟨o43, sa 43 (by decide), (xf 43 (by decide)).exC, ty 43 (by decide), al w5 43 (by decide)⟩, M43, T43, mC 43 (by decide), (fun_mk (st := sNoPlace_init) L43 D43 N43).binds (ps := ["self", "place"]) (fun _ _ _ _ _ _ us hl => match us, hl with | [_, _], _ => rfl), ok_NoPlace (fun_mk (st := sNoPlace_init) L43 D43 N43), nf 43 _ (by decide) rfl⟩
  have E44 : ErV l.prog w K mg base (nm 44) ["number"] (CsT 44) g44 _ := ⟨⟨o44, sa 44 (by decide), (xf 44 (by decide)).exC, ty 44 (by decide), al w5 44 (by decide)⟩, M44, T44, mC 44 (by decide), (fun_mk (st := sNoNews_init) L44 D44 N44).binds (ps := ["self", "number"]) (fun _ _ _ _ _ _ us hl => match us, hl with | [_, _], _ => rfl), ok_NoNews (fun_mk (st := sNoNews_init) L44 D44 N44), nf 44 _ (by decide) rfl⟩
  have E45 : ErV l.prog w K mg base (nm 45) ["what"] (CsT 45) g45 _ := ⟨⟨o45, sa 45 (by decide), (xf 45 (by decide)).exC, ty 45 (by decide), al w5 45 (by decide)⟩, M45, T45, mC 45 (by decide), (fun_mk (st := sOverfull_init) L45 D45 N45).binds (ps := ["self", "what"]) (fun _ _ _ _ _ _ us hl => match us, hl with | [_, _], _ => rfl), ok_Overfull (fun_mk (st := sOverfull_init) L45 D45 N45), nf 45 _ (by decide) rfl⟩
  have E47 : ErV l.prog w K mg base (nm 47) ["count"] (CsT 47) g47 _ := ⟨⟨o47, sa 47 (by decide), (xf 47 (by decide)).exC, ty 47 (by decide), al w5 47 (by decide)⟩, M47, T47, mC 47 (by decide), (fun_mk (st := sTooLoose_init) L47 D47 N47).binds (ps := ["self", "count"]) (fun _ _ _ _ _ _ us hl => match us, hl with | [_, _], _ => rfl), ok_TooLoose (fun_mk (st := sTooLoose_init) L47 D47 N47), nf 47 _ (by decide) rfl⟩
  have E48 : ErV l.prog w K mg base (nm 48) ["what"] (CsT 48) g48 _ := ⟨⟨o48, sa 48 (by decide), (xf 48 (by decide)).exC, ty 48 (by decide), al w5 48 (by decide)⟩, M48, T48, mC 48 (by decide), (fun_mk (st := sBadAmendment_init) L48 D48 N48).binds (ps := ["self", "what"]) (fun _ _ _ _ _ _ us hl => match us, hl with | [_, _], _ => rfl), ok_BadAmendment (fun_mk (st := sBadAmendment_init) L48 D48 N48), nf 48 _ (by decide) rfl⟩
  have E49 : ErV l.prog w K mg base (nm 49) ["index", "what"] (CsT 49) g49 _ := ⟨⟨o49, sa 49 (by decide), (xf 49 (by decide)).exC, ty 49 (by decide), al w5 49 (by decide)⟩, M49, T49, mC 49 (by decide), (fun_mk (st := sBadPool_init) L49 D49 N49).binds (ps := ["self", "index", "what"]) (fun _ _ _ _ _ _ us hl => match us, hl with | [_, _, _], _ => rfl), ok_BadPool (fun_mk (st := sBadPool_init) L49 D49 N49), nf 49 _ (by decide) rfl⟩
  have E50 : ErV l.prog w K mg base (nm 50) ["what"] (CsT 50) g50 _ := ⟨⟨o50, sa 50 (by decide), (xf 50 (by decide)).exC, ty 50 (by decide), al w5 50 (by decide)⟩, M50, T50, mC 50 (by decide), (fun_mk (st := sBadLot_init) L50 D50 N50).binds (ps := ["self", "what"]) (fun _ _ _ _ _ _ us hl => match us, hl with | [_, _], _ => rfl), ok_BadLot (fun_mk (st := sBadLot_init) L50 D50 N50), nf 50 _ (by decide) rfl⟩
  have E51 : ErV l.prog w K mg base (nm 51) ["first", "second"] (CsT 51) g51 _ := ⟨⟨o51, sa 51 (by decide), (xf 51 (by decide)).exC, ty 51 (by decide), al w5 51 (by decide)⟩, M51, T51, mC 51 (by decide), (fun_mk (st := sClash_init) L51 D51 N51).binds (ps := ["self", "first", "second"]) (fun _ _ _ _ _ _ us hl => match us, hl with | [_, _, _], _ => rfl), ok_Clash (fun_mk (st := sClash_init) L51 D51 N51), nf 51 _ (by decide) rfl⟩
  have E52 : ErV l.prog w K mg base (nm 52) ["lot"] (CsT 52) g52 _ := ⟨⟨o52, sa 52 (by decide), (xf 52 (by decide)).exC, ty 52 (by decide), al w5 52 (by decide)⟩, M52, T52, mC 52 (by decide), (fun_mk (st := sNotParted_init) L52 D52 N52).binds (ps := ["self", "lot"]) (fun _ _ _ _ _ _ us hl => match us, hl with | [_, _], _ => rfl), ok_NotParted (fun_mk (st := sNotParted_init) L52 D52 N52), nf 52 _ (by decide) rfl⟩
  have E4 : ErO K mg (nm 4) (CsT 4) "ValueError" "ValueError.__new__" "ValueError.__init__" excBmB := ⟨PySem.F.excBase_ValueError, q4, mC 4 (by decide), al w5 4 (by decide)⟩
  have E21 : ErO K mg (nm 21) (CsT 21) "ValueError" "ValueError.__new__" "ValueError.__init__" excBmB := ⟨PySem.F.excBase_ValueError, q21, mC 21 (by decide), al w5 21 (by decide)⟩
  have E26 : ErO K mg (nm 26) (CsT 26) "ValueError" "ValueError.__new__" "ValueError.__init__" excBmB := ⟨PySem.F.excBase_ValueError, q26, mC 26 (by decide), al w5 26 (by decide)⟩
  have E36 : ErO K mg (nm 36) (CsT 36) "ValueError" "ValueError.__new__" "ValueError.__init__" excBmB := ⟨PySem.F.excBase_ValueError, q36, mC 36 (by decide), al w5 36 (by decide)⟩
  have E37 : ErO K mg (nm 37) (CsT 37) "ValueError" "ValueError.__new__" "ValueError.__init__" excBmB := ⟨PySem.F.excBase_ValueError, q37, mC 37 (by decide), al w5 37 (by decide)⟩
  have E38 : ErO K mg (nm 38) (CsT 38) "ValueError" "ValueError.__new__" "ValueError.__init__" excBmB := ⟨PySem.F.excBase_ValueError, q38, mC 38 (by decide), al w5 38 (by decide)⟩
  have E46 : ErO K mg (nm 46) (CsT 46) "ValueError" "ValueError.__new__" "ValueError.__init__" excBmB := ⟨PySem.F.excBase_ValueError, q46, mC 46 (by decide), al w5 46 (by decide)⟩
  have ES : ErO K mg "SearchError" CST "ValueError" "ValueError.__new__" "ValueError.__init__" excBmB := ⟨PySem.F.excBase_ValueError, qS, PySem.W.mg_of X G v1, v5⟩
  have AE : AllE l.prog w K mg base CsT := ⟨fun j fs hj => AllUp.all (Pr := fun j => ∀ fs, flOf j = some fs → ∃ fI fd, ErV l.prog w K mg base (nm j) fs (CsT j) fI fd) (k := 53) ⟨own_mk rfl ⟨_, _, E0⟩, own_mk rfl ⟨_, _, E1⟩, own_mk rfl ⟨_, _, E2⟩, own_mk rfl ⟨_, _, E3⟩, own_no rfl, own_mk rfl ⟨_, _, E5⟩, own_mk rfl ⟨_, _, E6⟩, own_mk rfl ⟨_, _, E7⟩, own_mk rfl ⟨_, _, E8⟩, own_mk rfl ⟨_, _, E9⟩, own_mk rfl ⟨_, _, E10⟩, own_mk rfl ⟨_, _, E11⟩, own_mk rfl ⟨_, _, E12⟩, own_mk rfl ⟨_, _, E13⟩, own_mk rfl ⟨_, _, E14⟩, own_mk rfl ⟨_, _, E15⟩, own_mk rfl ⟨_, _, E16⟩, own_mk rfl ⟨_, _, E17⟩, own_mk rfl ⟨_, _, E18⟩, own_mk rfl ⟨_, _, E19⟩, own_mk rfl ⟨_, _, E20⟩, own_no rfl, own_mk rfl ⟨_, _, E22⟩, own_mk rfl ⟨_, _, E23⟩, own_mk rfl ⟨_, _, E24⟩, own_mk rfl ⟨_, _, E25⟩, own_no rfl, own_mk rfl ⟨_, _, E27⟩, own_mk rfl ⟨_, _, E28⟩, own_mk rfl ⟨_, _, E29⟩, own_mk rfl ⟨_, _, E30⟩, own_mk rfl ⟨_, _, E31⟩, own_mk rfl ⟨_, _, E32⟩, own_mk rfl ⟨_, _, E33⟩, own_mk rfl ⟨_, _, E34⟩, own_mk rfl ⟨_, _, E35⟩, own_no rfl, own_no rfl, own_no rfl, own_mk rfl ⟨_, _, E39⟩, own_mk rfl ⟨_, _, E40⟩, own_mk rfl ⟨_, _, E41⟩, own_mk rfl ⟨_, _, E42⟩, own_mk rfl ⟨_, _, E43⟩, own_mk rfl ⟨_, _, E44⟩, own_mk rfl ⟨_, _, E45⟩, own_no rfl, own_mk rfl ⟨_, _, E47⟩, own_mk rfl ⟨_, _, E48⟩, own_mk rfl ⟨_, _, E49⟩, own_mk rfl ⟨_, _, E50⟩, own_mk rfl ⟨_, _, E51⟩, own_mk rfl ⟨_, _, E52⟩, trivial⟩ j hj fs,
    AllUp.all (Pr := fun j => flOf j = none → ∃ B newId initId bmB, ErO K mg (nm j) (CsT j) B newId initId bmB) (k := 53) ⟨bare_no rfl, bare_no rfl, bare_no rfl, bare_no rfl, bare_mk ⟨_, _, _, _, E4⟩, bare_no rfl, bare_no rfl, bare_no rfl, bare_no rfl, bare_no rfl, bare_no rfl, bare_no rfl, bare_no rfl, bare_no rfl, bare_no rfl, bare_no rfl, bare_no rfl, bare_no rfl, bare_no rfl, bare_no rfl, bare_no rfl, bare_mk ⟨_, _, _, _, E21⟩, bare_no rfl, bare_no rfl, bare_no rfl, bare_no rfl, bare_mk ⟨_, _, _, _, E26⟩, bare_no rfl, bare_no rfl, bare_no rfl, bare_no rfl, bare_no rfl, bare_no rfl, bare_no rfl, bare_no rfl, bare_no rfl, bare_mk ⟨_, _, _, _, E36⟩, bare_mk ⟨_, _, _, _, E37⟩, bare_mk ⟨_, _, _, _, E38⟩, bare_no rfl, bare_no rfl, bare_no rfl, bare_no rfl, bare_no rfl, bare_no rfl, bare_no rfl, bare_mk ⟨_, _, _, _, E46⟩, bare_no rfl, bare_no rfl, bare_no rfl, bare_no rfl, bare_no rfl, bare_no rfl, trivial⟩, xf⟩
  have mix := ok_mix (P := l.prog) (w := w) (mg := mg) (base := base) (fun_mk (st := sMix) l0 c0 k0) (PySem.W.mg_of X G a0) T
  have draw := ok_draw (P := l.prog) (w := w) (mg := mg) (base := base) (fun_mk (st := sDraw) l2 c2 k2) (PySem.W.mg_of X G a2) T mix
  have hand := ok_hand (P := l.prog) (w := w) (mg := mg) (base := base) (fun_mk (st := sHand) l1 c1 k1) (PySem.W.mg_of X G a1) T
  have one := ok_one (P := l.prog) (w := w) (mg := mg) (base := base) (fun_mk (st := sOne) l3 c3 k3) (PySem.W.mg_of X G a3) T draw
  have word := ok_word (P := l.prog) (w := w) (mg := mg) (base := base) (fun_mk (st := sWord) l4 c4 k4) (PySem.W.mg_of X G a4) T draw
  have odd := ok_odd (P := l.prog) (w := w) (mg := mg) (base := base) (fun_mk (st := sOdd) l5 c5 k5) (PySem.W.mg_of X G a5) word one
  have KC : KinC mg CsT := ⟨mC, (PySem.W.mg_none_of X G z_isinstance)⟩
  have kin := ok_kin (P := l.prog) (w := w) (mg := mg) (base := base) (Cs := CsT) (fun_mk (st := sLKin) l9 c9 k9) (PySem.W.mg_of X G a9) KC
  have first := ok_first (P := l.prog) (w := w) (mg := mg) (base := base) (Cs := CsT) (fun_mk (st := sLFirst) l6 c6 k6) (PySem.W.mg_of X G a6) AE
  have second := ok_second (P := l.prog) (w := w) (mg := mg) (base := base) (Cs := CsT) (fun_mk (st := sLSecond) l7 c7 k7) (PySem.W.mg_of X G a7) AE
  have third := ok_third (P := l.prog) (w := w) (mg := mg) (base := base) (Cs := CsT) (fun_mk (st := sLThird) l8 c8 k8) (PySem.W.mg_of X G a8) AE
  have KF : KinF K mg CsT CST := TF.kinF
  have rsd := ok_raised (P := l.prog) (w := w) (mg := mg) (base := base) (Cs := CsT) (fun_mk (st := sLRaised) l10 c10 k10) (PySem.W.mg_of X G a10) AE KF KC (fun_mk (st := sLKin) l9 c9 k9) (PySem.W.mg_of X G a9)
  have A : All0 l.prog w K mg base CsT CST := { hand := hand, draw := draw, word := word, odd := odd, first := first, second := second, third := third, kin := kin, raised := rsd, F := KF, mV := (PySem.W.mg_none_of X G z_ValueError), mI := (PySem.W.mg_none_of X G z_isinstance), kS := TF.kS, kV := TF.kV, eS := TF.eS, sC := TF.sC, sV := TF.sV, ES := ⟨_, _, _, _, ES⟩ }
  exact law_at (fun_mk (st := sLaw) l11 c11 k11) scLaw ⟨rfl, by decide, by decide⟩ (law_body T A) (fun s v => .of_eq rfl) e0 hS hn
end Kx

set_option maxHeartbeats 8000000
open PySem PySem.W PyProof.Rows
set_option maxRecDepth 100000 in
set_option maxHeartbeats 0 in
theorem PySem.Challenge.cw_searchback_k00_errors_side_by_side_holds : PySem.Challenge.rw_searchback_k00_errors_side_by_side.Holds := by
  w_on; o_law
  refine Kx.head_k (by first | assumption | decide +kernel) ?hw ?hc
  (case hw => w_witness2)
  k_fill
  refine Kx.law_walk (l := PySem.Challenge.rw_searchback_k00_errors_side_by_side) rfl (by kernel_rfl) (fun w h Y => PySem.W.kIn_of Y) ?F
  case F =>
    intro w mg fa h KX G hmg0
    have hmg : mg ("law" : PySem.Str) = some (.ref fa) := by
      have e : (HandSHeadRun.topDef Kx.hR.prog 67).name = ("law" : PySem.Str) := by kernel_rfl
      rw [← e]
      exact hmg0
    exact Kx.all_mk KX G hmg (Kx.fd0 w.params).1 (Kx.fd0 w.params).2.1 (Kx.fd0 w.params).2.2.1 (Kx.fd0 w.params).2.2.2 (Kx.fd1 w.params).1 (Kx.fd1 w.params).2.1 (Kx.fd1 w.params).2.2.1 (Kx.fd1 w.params).2.2.2 (Kx.fd2 w.params).1 (Kx.fd2 w.params).2.1 (Kx.fd2 w.params).2.2.1 (Kx.fd2 w.params).2.2.2 (Kx.fd3 w.params).1 (Kx.fd3 w.params).2.1 (Kx.fd3 w.params).2.2.1 (Kx.fd3 w.params).2.2.2 (Kx.fd4 w.params).1 (Kx.fd4 w.params).2.1 (Kx.fd4 w.params).2.2.1 (Kx.fd4 w.params).2.2.2 (Kx.fd5 w.params).1 (Kx.fd5 w.params).2.1 (Kx.fd5 w.params).2.2.1 (Kx.fd5 w.params).2.2.2 (Kx.fd6 w.params).1 (Kx.fd6 w.params).2.1 (Kx.fd6 w.params).2.2.1 (Kx.fd6 w.params).2.2.2 (Kx.fd7 w.params).1 (Kx.fd7 w.params).2.1 (Kx.fd7 w.params).2.2.1 (Kx.fd7 w.params).2.2.2 (Kx.fd8 w.params).1 (Kx.fd8 w.params).2.1 (Kx.fd8 w.params).2.2.1 (Kx.fd8 w.params).2.2.2 (Kx.fd9 w.params).1 (Kx.fd9 w.params).2.1 (Kx.fd9 w.params).2.2.1 (Kx.fd9 w.params).2.2.2 (Kx.fd10 w.params).1 (Kx.fd10 w.params).2.1 (Kx.fd10 w.params).2.2.1 (Kx.fd10 w.params).2.2.2 (Kx.fd11 w.params).1 (Kx.fd11 w.params).2.1 (Kx.fd11 w.params).2.2.1 (Kx.fd11 w.params).2.2.2 (Kx.fm0 w.params).1 (Kx.fm0 w.params).2.1 (Kx.fm0 w.params).2.2.1 (Kx.fm0 w.params).2.2.2.1 (Kx.fm0 w.params).2.2.2.2 (Kx.fz_o0 w.params) (Kx.fm1 w.params).1 (Kx.fm1 w.params).2.1 (Kx.fm1 w.params).2.2.1 (Kx.fm1 w.params).2.2.2.1 (Kx.fm1 w.params).2.2.2.2 (Kx.fz_o1 w.params) (Kx.fm2 w.params).1 (Kx.fm2 w.params).2.1 (Kx.fm2 w.params).2.2.1 (Kx.fm2 w.params).2.2.2.1 (Kx.fm2 w.params).2.2.2.2 (Kx.fz_o2 w.params) (Kx.fm3 w.params).1 (Kx.fm3 w.params).2.1 (Kx.fm3 w.params).2.2.1 (Kx.fm3 w.params).2.2.2.1 (Kx.fm3 w.params).2.2.2.2 (Kx.fz_o3 w.params) (Kx.fm5 w.params).1 (Kx.fm5 w.params).2.1 (Kx.fm5 w.params).2.2.1 (Kx.fm5 w.params).2.2.2.1 (Kx.fm5 w.params).2.2.2.2 (Kx.fz_o5 w.params) (Kx.fm6 w.params).1 (Kx.fm6 w.params).2.1 (Kx.fm6 w.params).2.2.1 (Kx.fm6 w.params).2.2.2.1 (Kx.fm6 w.params).2.2.2.2 (Kx.fz_o6 w.params) (Kx.fm7 w.params).1 (Kx.fm7 w.params).2.1 (Kx.fm7 w.params).2.2.1 (Kx.fm7 w.params).2.2.2.1 (Kx.fm7 w.params).2.2.2.2 (Kx.fz_o7 w.params) (Kx.fm8 w.params).1 (Kx.fm8 w.params).2.1 (Kx.fm8 w.params).2.2.1 (Kx.fm8 w.params).2.2.2.1 (Kx.fm8 w.params).2.2.2.2 (Kx.fz_o8 w.params) (Kx.fm9 w.params).1 (Kx.fm9 w.params).2.1 (Kx.fm9 w.params).2.2.1 (Kx.fm9 w.params).2.2.2.1 (Kx.fm9 w.params).2.2.2.2 (Kx.fz_o9 w.params) (Kx.fm10 w.params).1 (Kx.fm10 w.params).2.1 (Kx.fm10 w.params).2.2.1 (Kx.fm10 w.params).2.2.2.1 (Kx.fm10 w.params).2.2.2.2 (Kx.fz_o10 w.params) (Kx.fm11 w.params).1 (Kx.fm11 w.params).2.1 (Kx.fm11 w.params).2.2.1 (Kx.fm11 w.params).2.2.2.1 (Kx.fm11 w.params).2.2.2.2 (Kx.fz_o11 w.params) (Kx.fm12 w.params).1 (Kx.fm12 w.params).2.1 (Kx.fm12 w.params).2.2.1 (Kx.fm12 w.params).2.2.2.1 (Kx.fm12 w.params).2.2.2.2 (Kx.fz_o12 w.params) (Kx.fm13 w.params).1 (Kx.fm13 w.params).2.1 (Kx.fm13 w.params).2.2.1 (Kx.fm13 w.params).2.2.2.1 (Kx.fm13 w.params).2.2.2.2 (Kx.fz_o13 w.params) (Kx.fm14 w.params).1 (Kx.fm14 w.params).2.1 (Kx.fm14 w.params).2.2.1 (Kx.fm14 w.params).2.2.2.1 (Kx.fm14 w.params).2.2.2.2 (Kx.fz_o14 w.params) (Kx.fm15 w.params).1 (Kx.fm15 w.params).2.1 (Kx.fm15 w.params).2.2.1 (Kx.fm15 w.params).2.2.2.1 (Kx.fm15 w.params).2.2.2.2 (Kx.fz_o15 w.params) (Kx.fm16 w.params).1 (Kx.fm16 w.params).2.1 (Kx.fm16 w.params).2.2.1 (Kx.fm16 w.params).2.2.2.1 (Kx.fm16 w.params).2.2.2.2 (Kx.fz_o16 w.params) (Kx.fm17 w.params).1 (Kx.fm17 w.params).2.1 (Kx.fm17 w.params).2.2.1 (Kx.fm17 w.params).2.2.2.1 (Kx.fm17 w.params).2.2.2.2 (Kx.fz_o17 w.params) (Kx.fm18 w.params).1 (Kx.fm18 w.params).2.1 (Kx.fm18 w.params).2.2.1 (Kx.fm18 w.params).2.2.2.1 (Kx.fm18 w.params).2.2.2.2 (Kx.fz_o18 w.params) (Kx.fm19 w.params).1 (Kx.fm19 w.params).2.1 (Kx.fm19 w.params).2.2.1 (Kx.fm19 w.params).2.2.2.1 (Kx.fm19 w.params).2.2.2.2 (Kx.fz_o19 w.params) (Kx.fm20 w.params).1 (Kx.fm20 w.params).2.1 (Kx.fm20 w.params).2.2.1 (Kx.fm20 w.params).2.2.2.1 (Kx.fm20 w.params).2.2.2.2 (Kx.fz_o20 w.params) (Kx.fm22 w.params).1 (Kx.fm22 w.params).2.1 (Kx.fm22 w.params).2.2.1 (Kx.fm22 w.params).2.2.2.1 (Kx.fm22 w.params).2.2.2.2 (Kx.fz_o22 w.params) (Kx.fm23 w.params).1 (Kx.fm23 w.params).2.1 (Kx.fm23 w.params).2.2.1 (Kx.fm23 w.params).2.2.2.1 (Kx.fm23 w.params).2.2.2.2 (Kx.fz_o23 w.params) (Kx.fm24 w.params).1 (Kx.fm24 w.params).2.1 (Kx.fm24 w.params).2.2.1 (Kx.fm24 w.params).2.2.2.1 (Kx.fm24 w.params).2.2.2.2 (Kx.fz_o24 w.params) (Kx.fm25 w.params).1 (Kx.fm25 w.params).2.1 (Kx.fm25 w.params).2.2.1 (Kx.fm25 w.params).2.2.2.1 (Kx.fm25 w.params).2.2.2.2 (Kx.fz_o25 w.params) (Kx.fm27 w.params).1 (Kx.fm27 w.params).2.1 (Kx.fm27 w.params).2.2.1 (Kx.fm27 w.params).2.2.2.1 (Kx.fm27 w.params).2.2.2.2 (Kx.fz_o27 w.params) (Kx.fm28 w.params).1 (Kx.fm28 w.params).2.1 (Kx.fm28 w.params).2.2.1 (Kx.fm28 w.params).2.2.2.1 (Kx.fm28 w.params).2.2.2.2 (Kx.fz_o28 w.params) (Kx.fm29 w.params).1 (Kx.fm29 w.params).2.1 (Kx.fm29 w.params).2.2.1 (Kx.fm29 w.params).2.2.2.1 (Kx.fm29 w.params).2.2.2.2 (Kx.fz_o29 w.params) (Kx.fm30 w.params).1 (Kx.fm30 w.params).2.1 (Kx.fm30 w.params).2.2.1 (Kx.fm30 w.params).2.2.2.1 (Kx.fm30 w.params).2.2.2.2 (Kx.fz_o30 w.params) (Kx.fm31 w.params).1 (Kx.fm31 w.params).2.1 (Kx.fm31 w.params).2.2.1 (Kx.fm31 w.params).2.2.2.1 (Kx.fm31 w.params).2.2.2.2 (Kx.fz_o31 w.params) (Kx.fm32 w.params).1 (Kx.fm32 w.params).2.1 (Kx.fm32 w.params).2.2.1 (Kx.fm32 w.params).2.2.2.1 (Kx.fm32 w.params).2.2.2.2 (Kx.fz_o32 w.params) (Kx.fm33 w.params).1 (Kx.fm33 w.params).2.1 (Kx.fm33 w.params).2.2.1 (Kx.fm33 w.params).2.2.2.1 (Kx.fm33 w.params).2.2.2.2 (Kx.fz_o33 w.params) (Kx.fm34 w.params).1 (Kx.fm34 w.params).2.1 (Kx.fm34 w.params).2.2.1 (Kx.fm34 w.params).2.2.2.1 (Kx.fm34 w.params).2.2.2.2 (Kx.fz_o34 w.params) (Kx.fm35 w.params).1 (Kx.fm35 w.params).2.1 (Kx.fm35 w.params).2.2.1 (Kx.fm35 w.params).2.2.2.1 (Kx.fm35 w.params).2.2.2.2 (Kx.fz_o35 w.params) (Kx.fm39 w.params).1 (Kx.fm39 w.params).2.1 (Kx.fm39 w.params).2.2.1 (Kx.fm39 w.params).2.2.2.1 (Kx.fm39 w.params).2.2.2.2 (Kx.fz_o39 w.params) (Kx.fm40 w.params).1 (Kx.fm40 w.params).2.1 (Kx.fm40 w.params).2.2.1 (Kx.fm40 w.params).2.2.2.1 (Kx.fm40 w.params).2.2.2.2 (Kx.fz_o40 w.params) (Kx.fm41 w.params).1 (Kx.fm41 w.params).2.1 (Kx.fm41 w.params).2.2.1 (Kx.fm41 w.params).2.2.2.1 (Kx.fm41 w.params).2.2.2.2 (Kx.fz_o41 w.params) (Kx.fm42 w.params).1 (Kx.fm42 w.params).2.1 (Kx.fm42 w.params).2.2.1 (Kx.fm42 w.params).2.2.2.1 (Kx.fm42 w.params).2.2.2.2 (Kx.fz_o42 w.params) (Kx.fm43 w.params).1 (Kx.fm43 w.params).2.1 (Kx.fm43 w.params).2.2.1 (Kx.fm43 w.params).2.2.2.1 (Kx.fm43 w.params).2.2.2.2 (Kx.fz_o43 w.params) (Kx.fm44 w.params).1 (Kx.fm44 w.params).2.1 (Kx.fm44 w.params).2.2.1 (Kx.fm44 w.params).2.2.2.1 (Kx.fm44 w.params).2.2.2.2 (Kx.fz_o44 w.params) (Kx.fm45 w.params).1 (Kx.fm45 w.params).2.1 (Kx.fm45 w.params).2.2.1 (Kx.fm45 w.params).2.2.2.1 (Kx.fm45 w.params).2.2.2.2 (Kx.fz_o45 w.params) (Kx.fm47 w.params).1 (Kx.fm47 w.params).2.1 (Kx.fm47 w.params).2.2.1 (Kx.fm47 w.params).2.2.2.1 (Kx.fm47 w.params).2.2.2.2 (Kx.fz_o47 w.params) (Kx.fm48 w.params).1 (Kx.fm48 w.params).2.1 (Kx.fm48 w.params).2.2.1 (Kx.fm48 w.params).2.2.2.1 (Kx.fm48 w.params).2.2.2.2 (Kx.fz_o48 w.params) (Kx.fm49 w.params).1 (Kx.fm49 w.params).2.1 (Kx.fm49 w.params).2.2.1 (Kx.fm49 w.params).2.2.2.1 (Kx.fm49 w.params).2.2.2.2 (Kx.fz_o49 w.params) (Kx.fm50 w.params).1 (Kx.fm50 w.params).2.1 (Kx.fm50 w.params).2.2.1 (Kx.fm50 w.params).2.2.2.1 (Kx.fm50 w.params).2.2.2.2 (Kx.fz_o50 w.params) (Kx.fm51 w.params).1 (Kx.fm51 w.params).2.1 (Kx.fm51 w.params).2.2.1 (Kx.fm51 w.params).2.2.2.1 (Kx.fm51 w.params).2.2.2.2 (Kx.fz_o51 w.params) (Kx.fm52 w.params).1 (Kx.fm52 w.params).2.1 (Kx.fm52 w.params).2.2.1 (Kx.fm52 w.params).2.2.2.1 (Kx.fm52 w.params).2.2.2.2 (Kx.fz_o52 w.params) (Kx.fz_q4 w.params) (Kx.fz_q21 w.params) (Kx.fz_q26 w.params) (Kx.fz_q36 w.params) (Kx.fz_q37 w.params) (Kx.fz_q38 w.params) (Kx.fz_q46 w.params) (Kx.fz_qS w.params) (Kx.fz_r0 w.params) (Kx.fz_r1 w.params) (Kx.fz_r2 w.params) (Kx.fz_r3 w.params) (Kx.fz_r4 w.params) (Kx.fz_r5 w.params) (Kx.fz_r6 w.params) (Kx.fz_r7 w.params) (Kx.fz_r8 w.params) (Kx.fz_r9 w.params) (Kx.fz_r10 w.params) (Kx.fz_r11 w.params) (Kx.fz_r12 w.params) (Kx.fz_r13 w.params) (Kx.fz_r14 w.params) (Kx.fz_r15 w.params) (Kx.fz_r16 w.params) (Kx.fz_r17 w.params) (Kx.fz_r18 w.params) (Kx.fz_r19 w.params) (Kx.fz_r20 w.params) (Kx.fz_r21 w.params) (Kx.fz_r22 w.params) (Kx.fz_r23 w.params) (Kx.fz_r24 w.params) (Kx.fz_r25 w.params) (Kx.fz_r26 w.params) (Kx.fz_r27 w.params) (Kx.fz_r28 w.params) (Kx.fz_r29 w.params) (Kx.fz_r30 w.params) (Kx.fz_r31 w.params) (Kx.fz_r32 w.params) (Kx.fz_r33 w.params) (Kx.fz_r34 w.params) (Kx.fz_r35 w.params) (Kx.fz_r36 w.params) (Kx.fz_r37 w.params) (Kx.fz_r38 w.params) (Kx.fz_r39 w.params) (Kx.fz_r40 w.params) (Kx.fz_r41 w.params) (Kx.fz_r42 w.params) (Kx.fz_r43 w.params) (Kx.fz_r44 w.params) (Kx.fz_r45 w.params) (Kx.fz_r46 w.params) (Kx.fz_r47 w.params) (Kx.fz_r48 w.params) (Kx.fz_r49 w.params) (Kx.fz_r50 w.params) (Kx.fz_r51 w.params) (Kx.fz_r52 w.params) (Kx.fz_rS w.params) (Kx.fz_w1 w.params) (Kx.fz_w2 w.params) (Kx.fz_w3 w.params) (Kx.fz_w4 w.params) (Kx.fz_w5 w.params) (Kx.fz_w6 w.params) (Kx.fz_w7 w.params) (Kx.fz_v1 w.params) (Kx.fz_v2 w.params) (Kx.fz_v3 w.params) (Kx.fz_v4 w.params) (Kx.fz_v5 w.params) (Kx.fz_u1 w.params) (Kx.fz_u2 w.params) (Kx.fz_z_int w.params) (Kx.fz_z_abs w.params) (Kx.fz_z_len w.params) (Kx.fz_z_enumerate w.params) (Kx.fz_z_range w.params) (Kx.fz_z_isinstance w.params) (Kx.fz_z_ValueError w.params)

