import PyProof.Rows.All
import Wide.All
import OpenK.AllK
import Wide.FinOn
import HandS.ForMost
import HandS.Wide
import HandS.Codes
import HandS.IsInst
import HandS.Defaults
import HandS.MakeKw
import HandS.MakeKwOnly
import HandS.ClsMeth
import HandS.TupAny
import HandS.Style
import HandS.Zip
import HandS.Deep
import KE.KStateDown
import Wide.Once
import HandS.Head0
import HandS.Head1
import HandS.Head2
import HandS.Conv
import HandS.WideBits
import HandS.Iter
import HandS.Walk
import HandS.ExcInit
import KE.KTupSum
import HandS.More
import HandS.SlotsOwn
import PyProof.InstNe
import PyProof.Rows.Range3
import PyProof.InstSpecial
import HandS.Lambda
import KE.KExcIs
import HandS.ForExc
import HandS.EndTab
import HandS.DictComp
import HandS.DeepEq
import KE.KDictList
import KE.DataEq
import HandS.RaiseMore
import PySem.Challenge.RW_evenrules_k55_pairs_at_which_rules_break
set_option Elab.async false
set_option linter.all false
set_option maxRecDepth 100000
set_option maxHeartbeats 4000000
namespace Ev
open PySem L2
def top (i : Nat) : Stmt := PySem.Challenge.pw_evenrules_k55_pairs_at_which_rules_break.main.body.getD i (.Pass ⟨0, 0, 0, 0⟩)
abbrev sKept : Stmt := top 1
abbrev sIsFlat : Stmt := top 2
abbrev sCopiedDeep : Stmt := top 3
abbrev sPartsOf : Stmt := top 4
abbrev sRebuilt : Stmt := top 5
abbrev sBadRule_init : Stmt := inClass (top 8) 0
abbrev sNoHalves_init : Stmt := inClass (top 9) 0
abbrev sBadNumber_init : Stmt := inClass (top 10) 0
abbrev sBadDeeds_init : Stmt := inClass (top 11) 0
abbrev sBadText_init : Stmt := inClass (top 12) 0
abbrev sIsInt : Stmt := top 14
abbrev sWithin : Stmt := top 15
abbrev sNumberWord : Stmt := top 19
abbrev sPairWord : Stmt := top 20
abbrev sReadNumber : Stmt := top 21
abbrev sReadPair : Stmt := top 22
abbrev sWeightRule_call : Stmt := inClass (top 29) 1
abbrev sWeightRule_greatest : Stmt := inClass (top 29) 2
abbrev sWeightRule_least : Stmt := inClass (top 29) 3
abbrev sWeightRule_read : Stmt := inClass (top 29) 4
abbrev sTurnRule_init : Stmt := inClass (top 30) 0
abbrev sTurnRule_turns : Stmt := inClass (top 30) 1
abbrev sTurnRule_eq : Stmt := inClass (top 30) 2
abbrev sTurnRule_str : Stmt := inClass (top 30) 3
abbrev sTryRule_init : Stmt := inClass (top 31) 0
abbrev sTryRule_turns : Stmt := inClass (top 31) 1
abbrev sTryRule_twice_is_fair : Stmt := inClass (top 31) 2
abbrev sTryRule_eq : Stmt := inClass (top 31) 3
abbrev sTryRule_str : Stmt := inClass (top 31) 4
abbrev sAreFair : Stmt := top 32
abbrev sGreatestBeside : Stmt := top 33
abbrev sLeastBeside : Stmt := top 34
abbrev sLeastPart : Stmt := top 35
abbrev sNeedRule : Stmt := top 36
abbrev sNeedWeight : Stmt := top 37
abbrev sPair : Stmt := top 38
abbrev sIsTimes : Stmt := top 39
abbrev sIsPlus : Stmt := top 40
abbrev sIsTurn : Stmt := top 41
abbrev sNeedTimes : Stmt := top 42
abbrev sHasHalves : Stmt := top 43
abbrev sNeedHalves : Stmt := top 44
abbrev sWrongRuleWord : Stmt := top 45
abbrev sWordValue : Stmt := top 46
abbrev sCanStand : Stmt := top 47
abbrev sIsDeed : Stmt := top 53
abbrev sGrip_init : Stmt := inClass (top 55) 0
abbrev sGrip_first_break : Stmt := inClass (top 55) 1
abbrev sGrip_first_of : Stmt := inClass (top 55) 2
abbrev sGrip_once_ends : Stmt := inClass (top 55) 3
abbrev sGrip_numbers_of : Stmt := inClass (top 55) 4
abbrev sGrip_near_ends : Stmt := inClass (top 55) 5
abbrev sGrip_with_near : Stmt := inClass (top 55) 6
abbrev sTurnEnds : Stmt := top 56
abbrev sHeavyEnds : Stmt := top 57
abbrev sWrong_init : Stmt := inClass (top 62) 0
abbrev sWrong_eq : Stmt := inClass (top 62) 1
abbrev sWrong_bool : Stmt := inClass (top 62) 2
abbrev sBreaks : Stmt := top 63
abbrev sPen : Stmt := top 65
abbrev sDraw : Stmt := top 66
abbrev sPick : Stmt := top 67
abbrev sLNumbers : Stmt := top 68
abbrev sLRule : Stmt := top 69
abbrev sLHeard : Stmt := top 70
abbrev sLIsHeavy : Stmt := top 71
abbrev sLOnceBreaks : Stmt := top 72
abbrev sLTwiceBreaks : Stmt := top 73
abbrev sLIsEven : Stmt := top 74
abbrev sLParts : Stmt := top 75
abbrev sLSeen : Stmt := top 76
abbrev sLOrder : Stmt := top 77
abbrev sLCode : Stmt := top 78
abbrev sLDue : Stmt := top 79
abbrev sLHeavies : Stmt := top 80
abbrev sLRight : Stmt := top 81
abbrev sLaw : Stmt := top 82
end Ev
section
set_option maxHeartbeats 0
namespace Ev
open PySem L2 PySem.W PyProof.Rows
/-! The head by one run of the top. -/
abbrev oS (x : String) : Str := Str.ofString x
noncomputable abbrev kH (P : Params) (x : Str) : Int := PyData.keyHash P x
noncomputable def kb2 (P : Params) : Obj := .mk .none .none (.dict #[]) #[]
noncomputable def kb3 (P : Params) : Obj := .mk (.type "dict") .none (.dict #[.mk (kH P (oS "__name__")) (.str (oS "__name__") 165) (.str (oS "law_evenrules_k55_pairs_at_which_rules_break") 1063), .mk (kH P (oS "__doc__")) (.str (oS "__doc__") 166) .none, .mk (kH P (oS "__package__")) (.str (oS "__package__") 167) .none, .mk (kH P (oS "__loader__")) (.str (oS "__loader__") 168) (.builtin "__main__.__loader__#opaque"), .mk (kH P (oS "__spec__")) (.str (oS "__spec__") 169) .none, .mk (kH P (oS "__annotations__")) (.str (oS "__annotations__") 170) (.ref 6), .mk (kH P (oS "__builtins__")) (.str (oS "__builtins__") 171) (.ref 4), .mk (kH P (oS "__file__")) (.str (oS "__file__") 173) (.str (oS "/claim/cut.py") 172), .mk (kH P (oS "__cached__")) (.str (oS "__cached__") 174) .none, .mk (kH P (oS "kept")) (.str (oS "kept") 195) (.ref 21), .mk (kH P (oS "is_flat")) (.str (oS "is_flat") 203) (.ref 28), .mk (kH P (oS "copied_deep")) (.str (oS "copied_deep") 209) (.ref 33), .mk (kH P (oS "parts_of")) (.str (oS "parts_of") 216) (.ref 40), .mk (kH P (oS "rebuilt")) (.str (oS "rebuilt") 222) (.ref 45), .mk (kH P (oS "FairError")) (.str (oS "FairError") 242) (.ref 55), .mk (kH P (oS "BadRule")) (.str (oS "BadRule") 267) (.ref 75), .mk (kH P (oS "NoHalves")) (.str (oS "NoHalves") 292) (.ref 94), .mk (kH P (oS "BadNumber")) (.str (oS "BadNumber") 317) (.ref 113), .mk (kH P (oS "BadDeeds")) (.str (oS "BadDeeds") 342) (.ref 132), .mk (kH P (oS "BadText")) (.str (oS "BadText") 369) (.ref 151), .mk (kH P (oS "is_integer")) (.str (oS "is_integer") 378) (.ref 160), .mk (kH P (oS "is_within")) (.str (oS "is_within") 387) (.ref 167), .mk (kH P (oS "PIECE")) (.str (oS "PIECE") 393) (.int 10000000000000000000000000000000000000000000000000000000000000000 392), .mk (kH P (oS "PIECE_LENGTH")) (.str (oS "PIECE_LENGTH") 395) (.int 64 394), .mk (kH P (oS "number_word")) (.str (oS "number_word") 406) (.ref 174), .mk (kH P (oS "pair_word")) (.str (oS "pair_word") 413) (.ref 181), .mk (kH P (oS "read_number")) (.str (oS "read_number") 424) (.ref 188), .mk (kH P (oS "read_pair")) (.str (oS "read_pair") 430) (.ref 193), .mk (kH P (oS "MOST_PLUS")) (.str (oS "MOST_PLUS") 434) (.int 6 433), .mk (kH P (oS "MOST_TURN")) (.str (oS "MOST_TURN") 436) (.int 8 435), .mk (kH P (oS "MOST_WEIGHT")) (.str (oS "MOST_WEIGHT") 440) (.int 1000000000000000000000000000000000000000000000000000000000000 439), .mk (kH P (oS "WORDS")) (.str (oS "WORDS") 451) (.ref 194), .mk (kH P (oS "Rule")) (.str (oS "Rule") 471) (.ref 206), .mk (kH P (oS "WeightRule")) (.str (oS "WeightRule") 532) (.ref 249), .mk (kH P (oS "TurnRule")) (.str (oS "TurnRule") 595) (.ref 291), .mk (kH P (oS "TryRule")) (.str (oS "TryRule") 662) (.ref 339), .mk (kH P (oS "are_fair")) (.str (oS "are_fair") 673) (.ref 348), .mk (kH P (oS "greatest_beside")) (.str (oS "greatest_beside") 683) (.ref 355), .mk (kH P (oS "least_beside")) (.str (oS "least_beside") 693) (.ref 362), .mk (kH P (oS "least_part")) (.str (oS "least_part") 703) (.ref 369), .mk (kH P (oS "need_rule")) (.str (oS "need_rule") 710) (.ref 376), .mk (kH P (oS "need_weight")) (.str (oS "need_weight") 717) (.ref 383), .mk (kH P (oS "is_pair")) (.str (oS "is_pair") 723) (.ref 388), .mk (kH P (oS "is_times")) (.str (oS "is_times") 730) (.ref 395), .mk (kH P (oS "is_plus")) (.str (oS "is_plus") 737) (.ref 402), .mk (kH P (oS "is_turn")) (.str (oS "is_turn") 744) (.ref 409), .mk (kH P (oS "need_times")) (.str (oS "need_times") 752) (.ref 416), .mk (kH P (oS "has_halves")) (.str (oS "has_halves") 762) (.ref 423), .mk (kH P (oS "need_halves")) (.str (oS "need_halves") 772) (.ref 430), .mk (kH P (oS "wrong_rule_word")) (.str (oS "wrong_rule_word") 782) (.ref 437), .mk (kH P (oS "word_value")) (.str (oS "word_value") 789) (.ref 444), .mk (kH P (oS "can_stand")) (.str (oS "can_stand") 797) (.ref 451), .mk (kH P (oS "DEEDS")) (.str (oS "DEEDS") 802) (.ref 452), .mk (kH P (oS "ONCE")) (.str (oS "ONCE") 811) (.ref 457), .mk (kH P (oS "STUCK")) (.str (oS "STUCK") 814) (.ref 458), .mk (kH P (oS "TWICE")) (.str (oS "TWICE") 829) (.ref 466), .mk (kH P (oS "is_deed")) (.str (oS "is_deed") 836) (.ref 473), .mk (kH P (oS "Grip")) (.str (oS "Grip") 946) (.ref 532), .mk (kH P (oS "turn_ends")) (.str (oS "turn_ends") 960) (.ref 543), .mk (kH P (oS "heavy_ends")) (.str (oS "heavy_ends") 970) (.ref 550), .mk (kH P (oS "Verdict")) (.str (oS "Verdict") 992) (.ref 560), .mk (kH P (oS "MOST_ASKED")) (.str (oS "MOST_ASKED") 998) (.int 1000000000000 997), .mk (kH P (oS "Wrong")) (.str (oS "Wrong") 1045) (.ref 595), .mk (kH P (oS "breaks")) (.str (oS "breaks") 1062) (.ref 604), .mk (kH P (oS "_law_pen")) (.str (oS "_law_pen") 1071) (.ref 611), .mk (kH P (oS "_law_draw")) (.str (oS "_law_draw") 1084) (.ref 618), .mk (kH P (oS "_law_pick")) (.str (oS "_law_pick") 1092) (.ref 625), .mk (kH P (oS "_law_numbers")) (.str (oS "_law_numbers") 1104) (.ref 632), .mk (kH P (oS "_law_rule")) (.str (oS "_law_rule") 1114) (.ref 639), .mk (kH P (oS "_law_heard")) (.str (oS "_law_heard") 1125) (.ref 646), .mk (kH P (oS "_law_is_heavy")) (.str (oS "_law_is_heavy") 1134) (.ref 653), .mk (kH P (oS "_law_once_breaks")) (.str (oS "_law_once_breaks") 1149) (.ref 660), .mk (kH P (oS "_law_twice_breaks")) (.str (oS "_law_twice_breaks") 1165) (.ref 667), .mk (kH P (oS "_law_is_even")) (.str (oS "_law_is_even") 1174) (.ref 674), .mk (kH P (oS "_law_parts")) (.str (oS "_law_parts") 1180) (.ref 679), .mk (kH P (oS "_law_seen")) (.str (oS "_law_seen") 1186) (.ref 684), .mk (kH P (oS "_law_order")) (.str (oS "_law_order") 1192) (.ref 689), .mk (kH P (oS "_law_code")) (.str (oS "_law_code") 1200) (.ref 696), .mk (kH P (oS "_law_due")) (.str (oS "_law_due") 1217) (.ref 703), .mk (kH P (oS "_law_heavies")) (.str (oS "_law_heavies") 1223) (.ref 708), .mk (kH P (oS "_law_right")) (.str (oS "_law_right") 1237) (.ref 715), .mk (kH P (oS "law")) (.str (oS "law") 1260) (.ref 722)] 82) #[]
noncomputable def kb15 (P : Params) : Obj := .mk (.type "tuple") .none (.seq #[]) #[]
noncomputable def kb17 (P : Params) : Obj := .mk (.type "tuple") .none (.seq #[.str (oS "value") 192]) #[]
noncomputable def kb18 (P : Params) : Obj := .mk (.type "tuple") .none (.seq #[]) #[]
noncomputable def kb20 (P : Params) : Obj := .mk (.type "code") .none (.fields #[.str (oS "kept") 189, .str (oS "kept") 190, .str (oS "/claim/cut.py") 191, .int 2 0, .int 1 0, .int 0 0, .int 0 0, .int 3 0, .ref 15, .bool Bool.true, .int 181 0, .ref 16, .none, .ref 17, .ref 18, .ref 19, .int 193 0, .int 2 0, .str (oS "/claim/cut.py") 194]) #[]
noncomputable def kb21 (P : Params) : Obj := .mk (.type "function") .none (.func (.mk (oS "kept") (oS "kept") (defArgs (top 1)) (.stmts (defBody (top 1))) (defScope (top 1)) 3 [] .none .none .none (.str (oS "evenrules.keeping") 187) .none (.ref 20) .none 0)) #[]
noncomputable def kb22 (P : Params) : Obj := .mk (.type "tuple") .none (.seq #[]) #[]
noncomputable def kb24 (P : Params) : Obj := .mk (.type "tuple") .none (.seq #[.str (oS "value") 199, .str (oS "part") 200]) #[]
noncomputable def kb25 (P : Params) : Obj := .mk (.type "tuple") .none (.seq #[]) #[]
noncomputable def kb27 (P : Params) : Obj := .mk (.type "code") .none (.fields #[.str (oS "is_flat") 196, .str (oS "is_flat") 197, .str (oS "/claim/cut.py") 198, .int 8 0, .int 1 0, .int 0 0, .int 0 0, .int 3 0, .ref 22, .bool Bool.true, .int 181 0, .ref 23, .none, .ref 24, .ref 25, .ref 26, .int 201 0, .int 8 0, .str (oS "/claim/cut.py") 202]) #[]
noncomputable def kb28 (P : Params) : Obj := .mk (.type "function") .none (.func (.mk (oS "is_flat") (oS "is_flat") (defArgs (top 2)) (.stmts (defBody (top 2))) (defScope (top 2)) 3 [] .none .none .none (.str (oS "evenrules.keeping") 187) .none (.ref 27) .none 0)) #[]
noncomputable def kb29 (P : Params) : Obj := .mk (.type "tuple") .none (.seq #[]) #[]
noncomputable def kb32 (P : Params) : Obj := .mk (.type "code") .none (.fields #[.str (oS "copied_deep") 204, .str (oS "copied_deep") 205, .str (oS "/claim/cut.py") 206, .int 13 0, .int 1 0, .int 0 0, .int 0 0, .int 3 0, .ref 29, .bool Bool.true, .int 181 0, .ref 30, .none, .none, .none, .ref 31, .int 207 0, .int 13 0, .str (oS "/claim/cut.py") 208]) #[]
noncomputable def kb33 (P : Params) : Obj := .mk (.type "function") .none (.func (.mk (oS "copied_deep") (oS "copied_deep") (defArgs (top 3)) (.stmts (defBody (top 3))) (defScope (top 3)) 3 [] .none .none .none (.str (oS "evenrules.keeping") 187) .none (.ref 32) .none 0)) #[]
noncomputable def kb34 (P : Params) : Obj := .mk (.type "tuple") .none (.seq #[]) #[]
noncomputable def kb36 (P : Params) : Obj := .mk (.type "tuple") .none (.seq #[.str (oS "value") 213]) #[]
noncomputable def kb37 (P : Params) : Obj := .mk (.type "tuple") .none (.seq #[]) #[]
noncomputable def kb39 (P : Params) : Obj := .mk (.type "code") .none (.fields #[.str (oS "parts_of") 210, .str (oS "parts_of") 211, .str (oS "/claim/cut.py") 212, .int 30 0, .int 1 0, .int 0 0, .int 0 0, .int 3 0, .ref 34, .bool Bool.true, .int 181 0, .ref 35, .none, .ref 36, .ref 37, .ref 38, .int 214 0, .int 30 0, .str (oS "/claim/cut.py") 215]) #[]
noncomputable def kb40 (P : Params) : Obj := .mk (.type "function") .none (.func (.mk (oS "parts_of") (oS "parts_of") (defArgs (top 4)) (.stmts (defBody (top 4))) (defScope (top 4)) 3 [] .none .none .none (.str (oS "evenrules.keeping") 187) .none (.ref 39) .none 0)) #[]
noncomputable def kb41 (P : Params) : Obj := .mk (.type "tuple") .none (.seq #[]) #[]
noncomputable def kb44 (P : Params) : Obj := .mk (.type "code") .none (.fields #[.str (oS "rebuilt") 217, .str (oS "rebuilt") 218, .str (oS "/claim/cut.py") 219, .int 34 0, .int 2 0, .int 0 0, .int 0 0, .int 3 0, .ref 41, .bool Bool.true, .int 181 0, .ref 42, .none, .none, .none, .ref 43, .int 220 0, .int 34 0, .str (oS "/claim/cut.py") 221]) #[]
noncomputable def kb45 (P : Params) : Obj := .mk (.type "function") .none (.func (.mk (oS "rebuilt") (oS "rebuilt") (defArgs (top 5)) (.stmts (defBody (top 5))) (defScope (top 5)) 3 [] .none .none .none (.str (oS "evenrules.keeping") 187) .none (.ref 44) .none 0)) #[]
noncomputable def kb46 (P : Params) : Obj := .mk (.type "tuple") .none (.seq #[.type "ValueError"]) #[]
noncomputable def kb53 (P : Params) : Obj := .mk (.type "tuple") .none (.seq #[]) #[]
noncomputable def kb54 (P : Params) : Obj := .mk (.type "dict") .none (.dict #[.mk (kH P (oS "__module__")) (.str (oS "__module__") 232) (.str (oS "evenrules.errors") 223), .mk (kH P (oS "__firstlineno__")) (.str (oS "__firstlineno__") 236) (.int 39 235), .mk (kH P (oS "__static_attributes__")) (.str (oS "__static_attributes__") 237) (.ref 53), .mk (kH P (oS "__weakref__")) (.str (oS "__weakref__") 239) (.ref 56), .mk (kH P (oS "__doc__")) (.str (oS "__doc__") 240) .none] 3) #[]
noncomputable def kb55 (P : Params) : Obj := .mk (.type "type") .none (.cls (.mk (oS "FairError") [.type "ValueError"] [.ref 55, .type "ValueError", .type "Exception", .type "BaseException", .type "object"] 54 (oS "FairError") Bool.true [] [.ref 75, .ref 94, .ref 113, .ref 132, .ref 151] Bool.false .none Bool.false)) #[Option.some (.ref 46), .none, Option.some (.str (oS "FairError") 225), Option.some (.str (oS "FairError") 233), Option.some (.builtin "ValueError.__new__"), Option.some (.bool Bool.true)]
noncomputable def kb56 (P : Params) : Obj := .mk (.type "getset_descriptor") .none (.fields #[.str (oS "__weakref__") 238, .ref 55, .builtin "ExceptionGroup.__weakref__", .none]) #[]
noncomputable def kb59 (P : Params) : Obj := .mk (.type "tuple") .none (.seq #[.ref 55]) #[]
noncomputable def kb66 (P : Params) : Obj := .mk (.type "tuple") .none (.seq #[]) #[]
noncomputable def kb68 (P : Params) : Obj := .mk (.type "tuple") .none (.seq #[.str (oS "self") 258, .str (oS "part") 259]) #[]
noncomputable def kb69 (P : Params) : Obj := .mk (.type "tuple") .none (.seq #[]) #[]
noncomputable def kb71 (P : Params) : Obj := .mk (.type "code") .none (.fields #[.str (oS "__init__") 255, .str (oS "BadRule.__init__") 256, .str (oS "/claim/cut.py") 257, .int 43 0, .int 2 0, .int 0 0, .int 0 0, .int 3 0, .ref 66, .bool Bool.true, .int 181 0, .ref 67, .none, .ref 68, .ref 69, .ref 70, .int 260 0, .int 43 0, .str (oS "/claim/cut.py") 261]) #[]
noncomputable def kb72 (P : Params) : Obj := .mk (.type "function") .none (.func (.mk (oS "__init__") (oS "BadRule.__init__") (defArgs (inClass (top 8) 0)) (.stmts (defBody (inClass (top 8) 0))) (defScope (inClass (top 8) 0)) 3 [] .none .none .none (.str (oS "evenrules.errors") 223) .none (.ref 71) .none 0)) #[]
noncomputable def kb73 (P : Params) : Obj := .mk (.type "tuple") .none (.seq #[.str (oS "part") 263]) #[]
noncomputable def kb74 (P : Params) : Obj := .mk (.type "dict") .none (.dict #[.mk (kH P (oS "__module__")) (.str (oS "__module__") 250) (.str (oS "evenrules.errors") 223), .mk (kH P (oS "__firstlineno__")) (.str (oS "__firstlineno__") 254) (.int 41 253), .mk (kH P (oS "__init__")) (.str (oS "__init__") 262) (.ref 72), .mk (kH P (oS "__static_attributes__")) (.str (oS "__static_attributes__") 264) (.ref 73), .mk (kH P (oS "__doc__")) (.str (oS "__doc__") 265) .none] 2) #[]
noncomputable def kb75 (P : Params) : Obj := .mk (.type "type") .none (.cls (.mk (oS "BadRule") [.ref 55] [.ref 75, .ref 55, .type "ValueError", .type "Exception", .type "BaseException", .type "object"] 74 (oS "BadRule") Bool.true [] [] Bool.false .none Bool.false)) #[Option.some (.ref 59), .none, Option.some (.str (oS "BadRule") 243), Option.some (.str (oS "BadRule") 251), Option.some (.builtin "ValueError.__new__"), Option.some (.bool Bool.true)]
noncomputable def kb78 (P : Params) : Obj := .mk (.type "tuple") .none (.seq #[.ref 55]) #[]
noncomputable def kb85 (P : Params) : Obj := .mk (.type "tuple") .none (.seq #[]) #[]
noncomputable def kb87 (P : Params) : Obj := .mk (.type "tuple") .none (.seq #[.str (oS "self") 283, .str (oS "weight") 284]) #[]
noncomputable def kb88 (P : Params) : Obj := .mk (.type "tuple") .none (.seq #[]) #[]
noncomputable def kb90 (P : Params) : Obj := .mk (.type "code") .none (.fields #[.str (oS "__init__") 280, .str (oS "NoHalves.__init__") 281, .str (oS "/claim/cut.py") 282, .int 47 0, .int 2 0, .int 0 0, .int 0 0, .int 3 0, .ref 85, .bool Bool.true, .int 181 0, .ref 86, .none, .ref 87, .ref 88, .ref 89, .int 285 0, .int 47 0, .str (oS "/claim/cut.py") 286]) #[]
noncomputable def kb91 (P : Params) : Obj := .mk (.type "function") .none (.func (.mk (oS "__init__") (oS "NoHalves.__init__") (defArgs (inClass (top 9) 0)) (.stmts (defBody (inClass (top 9) 0))) (defScope (inClass (top 9) 0)) 3 [] .none .none .none (.str (oS "evenrules.errors") 223) .none (.ref 90) .none 0)) #[]
noncomputable def kb92 (P : Params) : Obj := .mk (.type "tuple") .none (.seq #[.str (oS "weight") 288]) #[]
noncomputable def kb93 (P : Params) : Obj := .mk (.type "dict") .none (.dict #[.mk (kH P (oS "__module__")) (.str (oS "__module__") 275) (.str (oS "evenrules.errors") 223), .mk (kH P (oS "__firstlineno__")) (.str (oS "__firstlineno__") 279) (.int 45 278), .mk (kH P (oS "__init__")) (.str (oS "__init__") 287) (.ref 91), .mk (kH P (oS "__static_attributes__")) (.str (oS "__static_attributes__") 289) (.ref 92), .mk (kH P (oS "__doc__")) (.str (oS "__doc__") 290) .none] 2) #[]
noncomputable def kb94 (P : Params) : Obj := .mk (.type "type") .none (.cls (.mk (oS "NoHalves") [.ref 55] [.ref 94, .ref 55, .type "ValueError", .type "Exception", .type "BaseException", .type "object"] 93 (oS "NoHalves") Bool.true [] [] Bool.false .none Bool.false)) #[Option.some (.ref 78), .none, Option.some (.str (oS "NoHalves") 268), Option.some (.str (oS "NoHalves") 276), Option.some (.builtin "ValueError.__new__"), Option.some (.bool Bool.true)]
noncomputable def kb97 (P : Params) : Obj := .mk (.type "tuple") .none (.seq #[.ref 55]) #[]
noncomputable def kb104 (P : Params) : Obj := .mk (.type "tuple") .none (.seq #[]) #[]
noncomputable def kb106 (P : Params) : Obj := .mk (.type "tuple") .none (.seq #[.str (oS "self") 308, .str (oS "value") 309]) #[]
noncomputable def kb107 (P : Params) : Obj := .mk (.type "tuple") .none (.seq #[]) #[]
noncomputable def kb109 (P : Params) : Obj := .mk (.type "code") .none (.fields #[.str (oS "__init__") 305, .str (oS "BadNumber.__init__") 306, .str (oS "/claim/cut.py") 307, .int 51 0, .int 2 0, .int 0 0, .int 0 0, .int 3 0, .ref 104, .bool Bool.true, .int 181 0, .ref 105, .none, .ref 106, .ref 107, .ref 108, .int 310 0, .int 51 0, .str (oS "/claim/cut.py") 311]) #[]
noncomputable def kb110 (P : Params) : Obj := .mk (.type "function") .none (.func (.mk (oS "__init__") (oS "BadNumber.__init__") (defArgs (inClass (top 10) 0)) (.stmts (defBody (inClass (top 10) 0))) (defScope (inClass (top 10) 0)) 3 [] .none .none .none (.str (oS "evenrules.errors") 223) .none (.ref 109) .none 0)) #[]
noncomputable def kb111 (P : Params) : Obj := .mk (.type "tuple") .none (.seq #[.str (oS "value") 313]) #[]
noncomputable def kb112 (P : Params) : Obj := .mk (.type "dict") .none (.dict #[.mk (kH P (oS "__module__")) (.str (oS "__module__") 300) (.str (oS "evenrules.errors") 223), .mk (kH P (oS "__firstlineno__")) (.str (oS "__firstlineno__") 304) (.int 49 303), .mk (kH P (oS "__init__")) (.str (oS "__init__") 312) (.ref 110), .mk (kH P (oS "__static_attributes__")) (.str (oS "__static_attributes__") 314) (.ref 111), .mk (kH P (oS "__doc__")) (.str (oS "__doc__") 315) .none] 2) #[]
noncomputable def kb113 (P : Params) : Obj := .mk (.type "type") .none (.cls (.mk (oS "BadNumber") [.ref 55] [.ref 113, .ref 55, .type "ValueError", .type "Exception", .type "BaseException", .type "object"] 112 (oS "BadNumber") Bool.true [] [] Bool.false .none Bool.false)) #[Option.some (.ref 97), .none, Option.some (.str (oS "BadNumber") 293), Option.some (.str (oS "BadNumber") 301), Option.some (.builtin "ValueError.__new__"), Option.some (.bool Bool.true)]
noncomputable def kb116 (P : Params) : Obj := .mk (.type "tuple") .none (.seq #[.ref 55]) #[]
noncomputable def kb123 (P : Params) : Obj := .mk (.type "tuple") .none (.seq #[]) #[]
noncomputable def kb125 (P : Params) : Obj := .mk (.type "tuple") .none (.seq #[.str (oS "self") 333, .str (oS "value") 334]) #[]
noncomputable def kb126 (P : Params) : Obj := .mk (.type "tuple") .none (.seq #[]) #[]
noncomputable def kb128 (P : Params) : Obj := .mk (.type "code") .none (.fields #[.str (oS "__init__") 330, .str (oS "BadDeeds.__init__") 331, .str (oS "/claim/cut.py") 332, .int 55 0, .int 2 0, .int 0 0, .int 0 0, .int 3 0, .ref 123, .bool Bool.true, .int 181 0, .ref 124, .none, .ref 125, .ref 126, .ref 127, .int 335 0, .int 55 0, .str (oS "/claim/cut.py") 336]) #[]
noncomputable def kb129 (P : Params) : Obj := .mk (.type "function") .none (.func (.mk (oS "__init__") (oS "BadDeeds.__init__") (defArgs (inClass (top 11) 0)) (.stmts (defBody (inClass (top 11) 0))) (defScope (inClass (top 11) 0)) 3 [] .none .none .none (.str (oS "evenrules.errors") 223) .none (.ref 128) .none 0)) #[]
noncomputable def kb130 (P : Params) : Obj := .mk (.type "tuple") .none (.seq #[.str (oS "value") 338]) #[]
noncomputable def kb131 (P : Params) : Obj := .mk (.type "dict") .none (.dict #[.mk (kH P (oS "__module__")) (.str (oS "__module__") 325) (.str (oS "evenrules.errors") 223), .mk (kH P (oS "__firstlineno__")) (.str (oS "__firstlineno__") 329) (.int 53 328), .mk (kH P (oS "__init__")) (.str (oS "__init__") 337) (.ref 129), .mk (kH P (oS "__static_attributes__")) (.str (oS "__static_attributes__") 339) (.ref 130), .mk (kH P (oS "__doc__")) (.str (oS "__doc__") 340) .none] 2) #[]
noncomputable def kb132 (P : Params) : Obj := .mk (.type "type") .none (.cls (.mk (oS "BadDeeds") [.ref 55] [.ref 132, .ref 55, .type "ValueError", .type "Exception", .type "BaseException", .type "object"] 131 (oS "BadDeeds") Bool.true [] [] Bool.false .none Bool.false)) #[Option.some (.ref 116), .none, Option.some (.str (oS "BadDeeds") 318), Option.some (.str (oS "BadDeeds") 326), Option.some (.builtin "ValueError.__new__"), Option.some (.bool Bool.true)]
noncomputable def kb135 (P : Params) : Obj := .mk (.type "tuple") .none (.seq #[.ref 55]) #[]
noncomputable def kb142 (P : Params) : Obj := .mk (.type "tuple") .none (.seq #[]) #[]
noncomputable def kb144 (P : Params) : Obj := .mk (.type "tuple") .none (.seq #[.str (oS "self") 358, .str (oS "line") 359, .str (oS "word") 360]) #[]
noncomputable def kb145 (P : Params) : Obj := .mk (.type "tuple") .none (.seq #[]) #[]
noncomputable def kb147 (P : Params) : Obj := .mk (.type "code") .none (.fields #[.str (oS "__init__") 355, .str (oS "BadText.__init__") 356, .str (oS "/claim/cut.py") 357, .int 59 0, .int 3 0, .int 0 0, .int 0 0, .int 3 0, .ref 142, .bool Bool.true, .int 181 0, .ref 143, .none, .ref 144, .ref 145, .ref 146, .int 361 0, .int 59 0, .str (oS "/claim/cut.py") 362]) #[]
noncomputable def kb148 (P : Params) : Obj := .mk (.type "function") .none (.func (.mk (oS "__init__") (oS "BadText.__init__") (defArgs (inClass (top 12) 0)) (.stmts (defBody (inClass (top 12) 0))) (defScope (inClass (top 12) 0)) 3 [] .none .none .none (.str (oS "evenrules.errors") 223) .none (.ref 147) .none 0)) #[]
noncomputable def kb149 (P : Params) : Obj := .mk (.type "tuple") .none (.seq #[.str (oS "line") 364, .str (oS "word") 365]) #[]
noncomputable def kb150 (P : Params) : Obj := .mk (.type "dict") .none (.dict #[.mk (kH P (oS "__module__")) (.str (oS "__module__") 350) (.str (oS "evenrules.errors") 223), .mk (kH P (oS "__firstlineno__")) (.str (oS "__firstlineno__") 354) (.int 57 353), .mk (kH P (oS "__init__")) (.str (oS "__init__") 363) (.ref 148), .mk (kH P (oS "__static_attributes__")) (.str (oS "__static_attributes__") 366) (.ref 149), .mk (kH P (oS "__doc__")) (.str (oS "__doc__") 367) .none] 2) #[]
noncomputable def kb151 (P : Params) : Obj := .mk (.type "type") .none (.cls (.mk (oS "BadText") [.ref 55] [.ref 151, .ref 55, .type "ValueError", .type "Exception", .type "BaseException", .type "object"] 150 (oS "BadText") Bool.true [] [] Bool.false .none Bool.false)) #[Option.some (.ref 135), .none, Option.some (.str (oS "BadText") 343), Option.some (.str (oS "BadText") 351), Option.some (.builtin "ValueError.__new__"), Option.some (.bool Bool.true)]
noncomputable def kb154 (P : Params) : Obj := .mk (.type "tuple") .none (.seq #[]) #[]
noncomputable def kb156 (P : Params) : Obj := .mk (.type "tuple") .none (.seq #[.str (oS "value") 375]) #[]
noncomputable def kb157 (P : Params) : Obj := .mk (.type "tuple") .none (.seq #[]) #[]
noncomputable def kb159 (P : Params) : Obj := .mk (.type "code") .none (.fields #[.str (oS "is_integer") 372, .str (oS "is_integer") 373, .str (oS "/claim/cut.py") 374, .int 63 0, .int 1 0, .int 0 0, .int 0 0, .int 3 0, .ref 154, .bool Bool.true, .int 181 0, .ref 155, .none, .ref 156, .ref 157, .ref 158, .int 376 0, .int 63 0, .str (oS "/claim/cut.py") 377]) #[]
noncomputable def kb160 (P : Params) : Obj := .mk (.type "function") .none (.func (.mk (oS "is_integer") (oS "is_integer") (defArgs (top 14)) (.stmts (defBody (top 14))) (defScope (top 14)) 3 [] .none .none .none (.str (oS "evenrules.checks") 370) .none (.ref 159) .none 0)) #[]
noncomputable def kb161 (P : Params) : Obj := .mk (.type "tuple") .none (.seq #[]) #[]
noncomputable def kb163 (P : Params) : Obj := .mk (.type "tuple") .none (.seq #[.str (oS "value") 382, .str (oS "least") 383, .str (oS "most") 384]) #[]
noncomputable def kb164 (P : Params) : Obj := .mk (.type "tuple") .none (.seq #[]) #[]
noncomputable def kb166 (P : Params) : Obj := .mk (.type "code") .none (.fields #[.str (oS "is_within") 379, .str (oS "is_within") 380, .str (oS "/claim/cut.py") 381, .int 65 0, .int 3 0, .int 0 0, .int 0 0, .int 3 0, .ref 161, .bool Bool.true, .int 181 0, .ref 162, .none, .ref 163, .ref 164, .ref 165, .int 385 0, .int 65 0, .str (oS "/claim/cut.py") 386]) #[]
noncomputable def kb167 (P : Params) : Obj := .mk (.type "function") .none (.func (.mk (oS "is_within") (oS "is_within") (defArgs (top 15)) (.stmts (defBody (top 15))) (defScope (top 15)) 3 [] .none .none .none (.str (oS "evenrules.checks") 370) .none (.ref 166) .none 0)) #[]
noncomputable def kb168 (P : Params) : Obj := .mk (.type "tuple") .none (.seq #[]) #[]
noncomputable def kb170 (P : Params) : Obj := .mk (.type "tuple") .none (.seq #[.str (oS "number") 399, .str (oS "rest") 400, .str (oS "pieces") 401, .str (oS "low") 402, .str (oS "digits") 403]) #[]
noncomputable def kb171 (P : Params) : Obj := .mk (.type "tuple") .none (.seq #[]) #[]
noncomputable def kb173 (P : Params) : Obj := .mk (.type "code") .none (.fields #[.str (oS "number_word") 396, .str (oS "number_word") 397, .str (oS "/claim/cut.py") 398, .int 70 0, .int 1 0, .int 0 0, .int 0 0, .int 3 0, .ref 168, .bool Bool.true, .int 181 0, .ref 169, .none, .ref 170, .ref 171, .ref 172, .int 404 0, .int 70 0, .str (oS "/claim/cut.py") 405]) #[]
noncomputable def kb174 (P : Params) : Obj := .mk (.type "function") .none (.func (.mk (oS "number_word") (oS "number_word") (defArgs (top 19)) (.stmts (defBody (top 19))) (defScope (top 19)) 3 [] .none .none .none (.str (oS "evenrules.words") 388) .none (.ref 173) .none 0)) #[]
noncomputable def kb175 (P : Params) : Obj := .mk (.type "tuple") .none (.seq #[]) #[]
noncomputable def kb177 (P : Params) : Obj := .mk (.type "tuple") .none (.seq #[.str (oS "pair") 410]) #[]
noncomputable def kb178 (P : Params) : Obj := .mk (.type "tuple") .none (.seq #[]) #[]
noncomputable def kb180 (P : Params) : Obj := .mk (.type "code") .none (.fields #[.str (oS "pair_word") 407, .str (oS "pair_word") 408, .str (oS "/claim/cut.py") 409, .int 81 0, .int 1 0, .int 0 0, .int 0 0, .int 3 0, .ref 175, .bool Bool.true, .int 181 0, .ref 176, .none, .ref 177, .ref 178, .ref 179, .int 411 0, .int 81 0, .str (oS "/claim/cut.py") 412]) #[]
noncomputable def kb181 (P : Params) : Obj := .mk (.type "function") .none (.func (.mk (oS "pair_word") (oS "pair_word") (defArgs (top 20)) (.stmts (defBody (top 20))) (defScope (top 20)) 3 [] .none .none .none (.str (oS "evenrules.words") 388) .none (.ref 180) .none 0)) #[]
noncomputable def kb182 (P : Params) : Obj := .mk (.type "tuple") .none (.seq #[]) #[]
noncomputable def kb184 (P : Params) : Obj := .mk (.type "tuple") .none (.seq #[.str (oS "word") 417, .str (oS "digits") 418, .str (oS "first") 419, .str (oS "number") 420, .str (oS "start") 421]) #[]
noncomputable def kb185 (P : Params) : Obj := .mk (.type "tuple") .none (.seq #[]) #[]
noncomputable def kb187 (P : Params) : Obj := .mk (.type "code") .none (.fields #[.str (oS "read_number") 414, .str (oS "read_number") 415, .str (oS "/claim/cut.py") 416, .int 83 0, .int 1 0, .int 0 0, .int 0 0, .int 3 0, .ref 182, .bool Bool.true, .int 181 0, .ref 183, .none, .ref 184, .ref 185, .ref 186, .int 422 0, .int 83 0, .str (oS "/claim/cut.py") 423]) #[]
noncomputable def kb188 (P : Params) : Obj := .mk (.type "function") .none (.func (.mk (oS "read_number") (oS "read_number") (defArgs (top 21)) (.stmts (defBody (top 21))) (defScope (top 21)) 3 [] .none .none .none (.str (oS "evenrules.words") 388) .none (.ref 187) .none 0)) #[]
noncomputable def kb189 (P : Params) : Obj := .mk (.type "tuple") .none (.seq #[]) #[]
noncomputable def kb192 (P : Params) : Obj := .mk (.type "code") .none (.fields #[.str (oS "read_pair") 425, .str (oS "read_pair") 426, .str (oS "/claim/cut.py") 427, .int 94 0, .int 1 0, .int 0 0, .int 0 0, .int 3 0, .ref 189, .bool Bool.true, .int 181 0, .ref 190, .none, .none, .none, .ref 191, .int 428 0, .int 94 0, .str (oS "/claim/cut.py") 429]) #[]
noncomputable def kb193 (P : Params) : Obj := .mk (.type "function") .none (.func (.mk (oS "read_pair") (oS "read_pair") (defArgs (top 22)) (.stmts (defBody (top 22))) (defScope (top 22)) 3 [] .none .none .none (.str (oS "evenrules.words") 388) .none (.ref 192) .none 0)) #[]
noncomputable def kb194 (P : Params) : Obj := .mk (.type "dict") .none (.dict #[.mk (kH P (oS "turn")) (.str (oS "turn") 441) (.ref 195), .mk (kH P (oS "try")) (.str (oS "try") 446) (.ref 196)] 2) #[]
noncomputable def kb195 (P : Params) : Obj := .mk (.type "tuple") .none (.seq #[.str (oS "times") 442, .str (oS "plus") 443, .str (oS "turn") 444, .str (oS "plus") 445]) #[]
noncomputable def kb196 (P : Params) : Obj := .mk (.type "tuple") .none (.seq #[.str (oS "times") 447, .str (oS "plus") 448]) #[]
noncomputable def kb204 (P : Params) : Obj := .mk (.type "tuple") .none (.seq #[]) #[]
noncomputable def kb205 (P : Params) : Obj := .mk (.type "dict") .none (.dict #[.mk (kH P (oS "__module__")) (.str (oS "__module__") 459) (.str (oS "evenrules.rules") 431), .mk (kH P (oS "__firstlineno__")) (.str (oS "__firstlineno__") 463) (.int 104 462), .mk (kH P (oS "__static_attributes__")) (.str (oS "__static_attributes__") 464) (.ref 204), .mk (kH P (oS "__dict__")) (.str (oS "__dict__") 466) (.ref 207), .mk (kH P (oS "__weakref__")) (.str (oS "__weakref__") 468) (.ref 208), .mk (kH P (oS "__doc__")) (.str (oS "__doc__") 469) .none] 4) #[]
noncomputable def kb206 (P : Params) : Obj := .mk (.type "type") .none (.cls (.mk (oS "Rule") [.type "object"] [.ref 206, .type "object"] 205 (oS "Rule") Bool.true [] [.ref 249] Bool.false .none Bool.false)) #[.none, .none, Option.some (.str (oS "Rule") 452), Option.some (.str (oS "Rule") 460), Option.some (.builtin "object.__new__"), Option.some (.bool Bool.true)]
noncomputable def kb207 (P : Params) : Obj := .mk (.type "getset_descriptor") .none (.fields #[.str (oS "__dict__") 465, .ref 206, .builtin "function.__dict__", .builtin "function.__dict__#set"]) #[]
noncomputable def kb208 (P : Params) : Obj := .mk (.type "getset_descriptor") .none (.fields #[.str (oS "__weakref__") 467, .ref 206, .builtin "ExceptionGroup.__weakref__", .none]) #[]
noncomputable def kb211 (P : Params) : Obj := .mk (.type "tuple") .none (.seq #[.ref 206]) #[]
noncomputable def kb218 (P : Params) : Obj := .mk (.type "tuple") .none (.seq #[]) #[]
noncomputable def kb220 (P : Params) : Obj := .mk (.type "tuple") .none (.seq #[.str (oS "self") 489, .str (oS "x") 490, .str (oS "y") 491]) #[]
noncomputable def kb221 (P : Params) : Obj := .mk (.type "tuple") .none (.seq #[]) #[]
noncomputable def kb223 (P : Params) : Obj := .mk (.type "code") .none (.fields #[.str (oS "__call__") 486, .str (oS "WeightRule.__call__") 487, .str (oS "/claim/cut.py") 488, .int 109 0, .int 3 0, .int 0 0, .int 0 0, .int 3 0, .ref 218, .bool Bool.true, .int 181 0, .ref 219, .none, .ref 220, .ref 221, .ref 222, .int 492 0, .int 109 0, .str (oS "/claim/cut.py") 493]) #[]
noncomputable def kb224 (P : Params) : Obj := .mk (.type "function") .none (.func (.mk (oS "__call__") (oS "WeightRule.__call__") (defArgs (inClass (top 29) 1)) (.stmts (defBody (inClass (top 29) 1))) (defScope (inClass (top 29) 1)) 3 [] .none .none .none (.str (oS "evenrules.rules") 431) .none (.ref 223) .none 0)) #[]
noncomputable def kb225 (P : Params) : Obj := .mk (.type "tuple") .none (.seq #[]) #[]
noncomputable def kb227 (P : Params) : Obj := .mk (.type "tuple") .none (.seq #[.str (oS "self") 498, .str (oS "x") 499]) #[]
noncomputable def kb228 (P : Params) : Obj := .mk (.type "tuple") .none (.seq #[]) #[]
noncomputable def kb230 (P : Params) : Obj := .mk (.type "code") .none (.fields #[.str (oS "greatest") 495, .str (oS "WeightRule.greatest") 496, .str (oS "/claim/cut.py") 497, .int 114 0, .int 2 0, .int 0 0, .int 0 0, .int 3 0, .ref 225, .bool Bool.true, .int 181 0, .ref 226, .none, .ref 227, .ref 228, .ref 229, .int 500 0, .int 114 0, .str (oS "/claim/cut.py") 501]) #[]
noncomputable def kb231 (P : Params) : Obj := .mk (.type "function") .none (.func (.mk (oS "greatest") (oS "WeightRule.greatest") (defArgs (inClass (top 29) 2)) (.stmts (defBody (inClass (top 29) 2))) (defScope (inClass (top 29) 2)) 3 [] .none .none .none (.str (oS "evenrules.rules") 431) .none (.ref 230) .none 0)) #[]
noncomputable def kb232 (P : Params) : Obj := .mk (.type "tuple") .none (.seq #[]) #[]
noncomputable def kb234 (P : Params) : Obj := .mk (.type "tuple") .none (.seq #[.str (oS "self") 506, .str (oS "y") 507]) #[]
noncomputable def kb235 (P : Params) : Obj := .mk (.type "tuple") .none (.seq #[]) #[]
noncomputable def kb237 (P : Params) : Obj := .mk (.type "code") .none (.fields #[.str (oS "least") 503, .str (oS "WeightRule.least") 504, .str (oS "/claim/cut.py") 505, .int 118 0, .int 2 0, .int 0 0, .int 0 0, .int 3 0, .ref 232, .bool Bool.true, .int 181 0, .ref 233, .none, .ref 234, .ref 235, .ref 236, .int 508 0, .int 118 0, .str (oS "/claim/cut.py") 509]) #[]
noncomputable def kb238 (P : Params) : Obj := .mk (.type "function") .none (.func (.mk (oS "least") (oS "WeightRule.least") (defArgs (inClass (top 29) 3)) (.stmts (defBody (inClass (top 29) 3))) (defScope (inClass (top 29) 3)) 3 [] .none .none .none (.str (oS "evenrules.rules") 431) .none (.ref 237) .none 0)) #[]
noncomputable def kb239 (P : Params) : Obj := .mk (.type "tuple") .none (.seq #[]) #[]
noncomputable def kb242 (P : Params) : Obj := .mk (.type "code") .none (.fields #[.str (oS "read") 511, .str (oS "WeightRule.read") 512, .str (oS "/claim/cut.py") 513, .int 122 0, .int 1 0, .int 0 0, .int 0 0, .int 3 0, .ref 239, .bool Bool.true, .int 181 0, .ref 240, .none, .none, .none, .ref 241, .int 514 0, .int 122 0, .str (oS "/claim/cut.py") 515]) #[]
noncomputable def kb243 (P : Params) : Obj := .mk (.type "function") .none (.func (.mk (oS "read") (oS "WeightRule.read") (defArgs (inClass (top 29) 4)) (.stmts (defBody (inClass (top 29) 4))) (defScope (inClass (top 29) 4)) 3 [] .none .none .none (.str (oS "evenrules.rules") 431) (Option.some 246) (.ref 242) .none 0)) #[]
noncomputable def kb244 (P : Params) : Obj := .mk (.type "dict") .none (.dict #[.mk (kH P (oS "__module__")) (.str (oS "__module__") 517) (.str (oS "evenrules.rules") 431), .mk (kH P (oS "__name__")) (.str (oS "__name__") 520) (.str (oS "read") 519), .mk (kH P (oS "__qualname__")) (.str (oS "__qualname__") 523) (.str (oS "WeightRule.read") 522), .mk (kH P (oS "__doc__")) (.str (oS "__doc__") 525) .none, .mk (kH P (oS "__annotations__")) (.str (oS "__annotations__") 527) (.ref 246)] 5) #[]
noncomputable def kb245 (P : Params) : Obj := .mk (.type "staticmethod") (Option.some 244) (.fields #[.ref 243, .bool Bool.false]) #[]
noncomputable def kb246 (P : Params) : Obj := .mk (.type "dict") .none (.dict #[]) #[]
noncomputable def kb247 (P : Params) : Obj := .mk (.type "tuple") .none (.seq #[]) #[]
noncomputable def kb248 (P : Params) : Obj := .mk (.type "dict") .none (.dict #[.mk (kH P (oS "__module__")) (.str (oS "__module__") 479) (.str (oS "evenrules.rules") 431), .mk (kH P (oS "__firstlineno__")) (.str (oS "__firstlineno__") 483) (.int 106 482), .mk (kH P (oS "MOST")) (.str (oS "MOST") 485) (.int 6 484), .mk (kH P (oS "__call__")) (.str (oS "__call__") 494) (.ref 224), .mk (kH P (oS "greatest")) (.str (oS "greatest") 502) (.ref 231), .mk (kH P (oS "least")) (.str (oS "least") 510) (.ref 238), .mk (kH P (oS "read")) (.str (oS "read") 528) (.ref 245), .mk (kH P (oS "__static_attributes__")) (.str (oS "__static_attributes__") 529) (.ref 247), .mk (kH P (oS "__doc__")) (.str (oS "__doc__") 530) .none] 2) #[]
noncomputable def kb249 (P : Params) : Obj := .mk (.type "type") .none (.cls (.mk (oS "WeightRule") [.ref 206] [.ref 249, .ref 206, .type "object"] 248 (oS "WeightRule") Bool.true [] [.ref 291, .ref 339] Bool.false .none Bool.false)) #[Option.some (.ref 211), .none, Option.some (.str (oS "WeightRule") 472), Option.some (.str (oS "WeightRule") 480), Option.some (.builtin "object.__new__"), Option.some (.bool Bool.true)]
noncomputable def kb252 (P : Params) : Obj := .mk (.type "tuple") .none (.seq #[.ref 249]) #[]
noncomputable def kb259 (P : Params) : Obj := .mk (.type "tuple") .none (.seq #[.int 0 545]) #[]
noncomputable def kb260 (P : Params) : Obj := .mk (.type "dict") .none (.dict #[.mk (kH P (oS "turn_plus")) (.str (oS "turn_plus") 547) (.int 0 546)] 1) #[]
noncomputable def kb261 (P : Params) : Obj := .mk (.type "tuple") .none (.seq #[]) #[]
noncomputable def kb263 (P : Params) : Obj := .mk (.type "tuple") .none (.seq #[.str (oS "self") 551, .str (oS "times") 552, .str (oS "plus") 553, .str (oS "turn") 554, .str (oS "turn_plus") 555]) #[]
noncomputable def kb264 (P : Params) : Obj := .mk (.type "tuple") .none (.seq #[]) #[]
noncomputable def kb266 (P : Params) : Obj := .mk (.type "code") .none (.fields #[.str (oS "__init__") 548, .str (oS "TurnRule.__init__") 549, .str (oS "/claim/cut.py") 550, .int 136 0, .int 3 0, .int 0 0, .int 2 0, .int 3 0, .ref 261, .bool Bool.true, .int 181 0, .ref 262, .none, .ref 263, .ref 264, .ref 265, .int 556 0, .int 136 0, .str (oS "/claim/cut.py") 557]) #[]
noncomputable def kb267 (P : Params) : Obj := .mk (.type "function") .none (.func (.mk (oS "__init__") (oS "TurnRule.__init__") (defArgs (inClass (top 30) 0)) (.stmts (defBody (inClass (top 30) 0))) (defScope (inClass (top 30) 0)) 3 [] (.ref 259) (.ref 260) .none (.str (oS "evenrules.rules") 431) .none (.ref 266) .none 0)) #[]
noncomputable def kb268 (P : Params) : Obj := .mk (.type "tuple") .none (.seq #[]) #[]
noncomputable def kb270 (P : Params) : Obj := .mk (.type "tuple") .none (.seq #[.str (oS "self") 562, .str (oS "light") 563, .str (oS "inner") 564, .str (oS "outer") 565, .str (oS "near") 566, .str (oS "over") 567, .str (oS "under") 568]) #[]
noncomputable def kb271 (P : Params) : Obj := .mk (.type "tuple") .none (.seq #[]) #[]
noncomputable def kb273 (P : Params) : Obj := .mk (.type "code") .none (.fields #[.str (oS "turns") 559, .str (oS "TurnRule.turns") 560, .str (oS "/claim/cut.py") 561, .int 148 0, .int 5 0, .int 0 0, .int 0 0, .int 3 0, .ref 268, .bool Bool.true, .int 181 0, .ref 269, .none, .ref 270, .ref 271, .ref 272, .int 569 0, .int 148 0, .str (oS "/claim/cut.py") 570]) #[]
noncomputable def kb274 (P : Params) : Obj := .mk (.type "function") .none (.func (.mk (oS "turns") (oS "TurnRule.turns") (defArgs (inClass (top 30) 1)) (.stmts (defBody (inClass (top 30) 1))) (defScope (inClass (top 30) 1)) 3 [] .none .none .none (.str (oS "evenrules.rules") 431) .none (.ref 273) .none 0)) #[]
noncomputable def kb275 (P : Params) : Obj := .mk (.type "tuple") .none (.seq #[]) #[]
noncomputable def kb277 (P : Params) : Obj := .mk (.type "tuple") .none (.seq #[.str (oS "self") 575, .str (oS "other") 576]) #[]
noncomputable def kb278 (P : Params) : Obj := .mk (.type "tuple") .none (.seq #[]) #[]
noncomputable def kb280 (P : Params) : Obj := .mk (.type "code") .none (.fields #[.str (oS "__eq__") 572, .str (oS "TurnRule.__eq__") 573, .str (oS "/claim/cut.py") 574, .int 154 0, .int 2 0, .int 0 0, .int 0 0, .int 3 0, .ref 275, .bool Bool.true, .int 181 0, .ref 276, .none, .ref 277, .ref 278, .ref 279, .int 577 0, .int 154 0, .str (oS "/claim/cut.py") 578]) #[]
noncomputable def kb281 (P : Params) : Obj := .mk (.type "function") .none (.func (.mk (oS "__eq__") (oS "TurnRule.__eq__") (defArgs (inClass (top 30) 2)) (.stmts (defBody (inClass (top 30) 2))) (defScope (inClass (top 30) 2)) 3 [] .none .none .none (.str (oS "evenrules.rules") 431) .none (.ref 280) .none 0)) #[]
noncomputable def kb282 (P : Params) : Obj := .mk (.type "tuple") .none (.seq #[]) #[]
noncomputable def kb284 (P : Params) : Obj := .mk (.type "tuple") .none (.seq #[.str (oS "self") 583]) #[]
noncomputable def kb285 (P : Params) : Obj := .mk (.type "tuple") .none (.seq #[]) #[]
noncomputable def kb287 (P : Params) : Obj := .mk (.type "code") .none (.fields #[.str (oS "__str__") 580, .str (oS "TurnRule.__str__") 581, .str (oS "/claim/cut.py") 582, .int 157 0, .int 1 0, .int 0 0, .int 0 0, .int 3 0, .ref 282, .bool Bool.true, .int 181 0, .ref 283, .none, .ref 284, .ref 285, .ref 286, .int 584 0, .int 157 0, .str (oS "/claim/cut.py") 585]) #[]
noncomputable def kb288 (P : Params) : Obj := .mk (.type "function") .none (.func (.mk (oS "__str__") (oS "TurnRule.__str__") (defArgs (inClass (top 30) 3)) (.stmts (defBody (inClass (top 30) 3))) (defScope (inClass (top 30) 3)) 3 [] .none .none .none (.str (oS "evenrules.rules") 431) .none (.ref 287) .none 0)) #[]
noncomputable def kb289 (P : Params) : Obj := .mk (.type "tuple") .none (.seq #[.str (oS "plus") 587, .str (oS "times") 588, .str (oS "turn") 589, .str (oS "turn_plus") 590]) #[]
noncomputable def kb290 (P : Params) : Obj := .mk (.type "dict") .none (.dict #[.mk (kH P (oS "__module__")) (.str (oS "__module__") 540) (.str (oS "evenrules.rules") 431), .mk (kH P (oS "__firstlineno__")) (.str (oS "__firstlineno__") 544) (.int 134 543), .mk (kH P (oS "__init__")) (.str (oS "__init__") 558) (.ref 267), .mk (kH P (oS "turns")) (.str (oS "turns") 571) (.ref 274), .mk (kH P (oS "__eq__")) (.str (oS "__eq__") 579) (.ref 281), .mk (kH P (oS "__str__")) (.str (oS "__str__") 586) (.ref 288), .mk (kH P (oS "__static_attributes__")) (.str (oS "__static_attributes__") 591) (.ref 289), .mk (kH P (oS "__doc__")) (.str (oS "__doc__") 592) .none, .mk (kH P (oS "__hash__")) (.str (oS "__hash__") 593) .none] 3) #[]
noncomputable def kb291 (P : Params) : Obj := .mk (.type "type") .none (.cls (.mk (oS "TurnRule") [.ref 249] [.ref 291, .ref 249, .ref 206, .type "object"] 290 (oS "TurnRule") Bool.true [] [] Bool.false .none Bool.false)) #[Option.some (.ref 252), .none, Option.some (.str (oS "TurnRule") 533), Option.some (.str (oS "TurnRule") 541), Option.some (.builtin "object.__new__"), Option.some (.bool Bool.true)]
noncomputable def kb294 (P : Params) : Obj := .mk (.type "tuple") .none (.seq #[.ref 249]) #[]
noncomputable def kb301 (P : Params) : Obj := .mk (.type "tuple") .none (.seq #[.int 0 608]) #[]
noncomputable def kb302 (P : Params) : Obj := .mk (.type "tuple") .none (.seq #[]) #[]
noncomputable def kb304 (P : Params) : Obj := .mk (.type "tuple") .none (.seq #[.str (oS "self") 612, .str (oS "times") 613, .str (oS "plus") 614]) #[]
noncomputable def kb305 (P : Params) : Obj := .mk (.type "tuple") .none (.seq #[]) #[]
noncomputable def kb307 (P : Params) : Obj := .mk (.type "code") .none (.fields #[.str (oS "__init__") 609, .str (oS "TryRule.__init__") 610, .str (oS "/claim/cut.py") 611, .int 161 0, .int 3 0, .int 0 0, .int 0 0, .int 3 0, .ref 302, .bool Bool.true, .int 181 0, .ref 303, .none, .ref 304, .ref 305, .ref 306, .int 615 0, .int 161 0, .str (oS "/claim/cut.py") 616]) #[]
noncomputable def kb308 (P : Params) : Obj := .mk (.type "function") .none (.func (.mk (oS "__init__") (oS "TryRule.__init__") (defArgs (inClass (top 31) 0)) (.stmts (defBody (inClass (top 31) 0))) (defScope (inClass (top 31) 0)) 3 [] (.ref 301) .none .none (.str (oS "evenrules.rules") 431) .none (.ref 307) .none 0)) #[]
noncomputable def kb309 (P : Params) : Obj := .mk (.type "tuple") .none (.seq #[]) #[]
noncomputable def kb311 (P : Params) : Obj := .mk (.type "tuple") .none (.seq #[.str (oS "self") 621, .str (oS "light") 622, .str (oS "inner") 623, .str (oS "outer") 624, .str (oS "near") 625]) #[]
noncomputable def kb312 (P : Params) : Obj := .mk (.type "tuple") .none (.seq #[]) #[]
noncomputable def kb314 (P : Params) : Obj := .mk (.type "code") .none (.fields #[.str (oS "turns") 618, .str (oS "TryRule.turns") 619, .str (oS "/claim/cut.py") 620, .int 167 0, .int 5 0, .int 0 0, .int 0 0, .int 3 0, .ref 309, .bool Bool.true, .int 181 0, .ref 310, .none, .ref 311, .ref 312, .ref 313, .int 626 0, .int 167 0, .str (oS "/claim/cut.py") 627]) #[]
noncomputable def kb315 (P : Params) : Obj := .mk (.type "function") .none (.func (.mk (oS "turns") (oS "TryRule.turns") (defArgs (inClass (top 31) 1)) (.stmts (defBody (inClass (top 31) 1))) (defScope (inClass (top 31) 1)) 3 [] .none .none .none (.str (oS "evenrules.rules") 431) .none (.ref 314) .none 0)) #[]
noncomputable def kb316 (P : Params) : Obj := .mk (.type "tuple") .none (.seq #[]) #[]
noncomputable def kb318 (P : Params) : Obj := .mk (.type "tuple") .none (.seq #[.str (oS "self") 632, .str (oS "light") 633, .str (oS "inner") 634, .str (oS "outer") 635, .str (oS "near") 636, .str (oS "far") 637]) #[]
noncomputable def kb319 (P : Params) : Obj := .mk (.type "tuple") .none (.seq #[]) #[]
noncomputable def kb321 (P : Params) : Obj := .mk (.type "code") .none (.fields #[.str (oS "twice_is_fair") 629, .str (oS "TryRule.twice_is_fair") 630, .str (oS "/claim/cut.py") 631, .int 172 0, .int 5 0, .int 0 0, .int 0 0, .int 3 0, .ref 316, .bool Bool.true, .int 181 0, .ref 317, .none, .ref 318, .ref 319, .ref 320, .int 638 0, .int 172 0, .str (oS "/claim/cut.py") 639]) #[]
noncomputable def kb322 (P : Params) : Obj := .mk (.type "function") .none (.func (.mk (oS "twice_is_fair") (oS "TryRule.twice_is_fair") (defArgs (inClass (top 31) 2)) (.stmts (defBody (inClass (top 31) 2))) (defScope (inClass (top 31) 2)) 3 [] .none .none .none (.str (oS "evenrules.rules") 431) .none (.ref 321) .none 0)) #[]
noncomputable def kb323 (P : Params) : Obj := .mk (.type "tuple") .none (.seq #[]) #[]
noncomputable def kb325 (P : Params) : Obj := .mk (.type "tuple") .none (.seq #[.str (oS "self") 644, .str (oS "other") 645]) #[]
noncomputable def kb326 (P : Params) : Obj := .mk (.type "tuple") .none (.seq #[]) #[]
noncomputable def kb328 (P : Params) : Obj := .mk (.type "code") .none (.fields #[.str (oS "__eq__") 641, .str (oS "TryRule.__eq__") 642, .str (oS "/claim/cut.py") 643, .int 176 0, .int 2 0, .int 0 0, .int 0 0, .int 3 0, .ref 323, .bool Bool.true, .int 181 0, .ref 324, .none, .ref 325, .ref 326, .ref 327, .int 646 0, .int 176 0, .str (oS "/claim/cut.py") 647]) #[]
noncomputable def kb329 (P : Params) : Obj := .mk (.type "function") .none (.func (.mk (oS "__eq__") (oS "TryRule.__eq__") (defArgs (inClass (top 31) 3)) (.stmts (defBody (inClass (top 31) 3))) (defScope (inClass (top 31) 3)) 3 [] .none .none .none (.str (oS "evenrules.rules") 431) .none (.ref 328) .none 0)) #[]
noncomputable def kb330 (P : Params) : Obj := .mk (.type "tuple") .none (.seq #[]) #[]
noncomputable def kb332 (P : Params) : Obj := .mk (.type "tuple") .none (.seq #[.str (oS "self") 652]) #[]
noncomputable def kb333 (P : Params) : Obj := .mk (.type "tuple") .none (.seq #[]) #[]
noncomputable def kb335 (P : Params) : Obj := .mk (.type "code") .none (.fields #[.str (oS "__str__") 649, .str (oS "TryRule.__str__") 650, .str (oS "/claim/cut.py") 651, .int 179 0, .int 1 0, .int 0 0, .int 0 0, .int 3 0, .ref 330, .bool Bool.true, .int 181 0, .ref 331, .none, .ref 332, .ref 333, .ref 334, .int 653 0, .int 179 0, .str (oS "/claim/cut.py") 654]) #[]
noncomputable def kb336 (P : Params) : Obj := .mk (.type "function") .none (.func (.mk (oS "__str__") (oS "TryRule.__str__") (defArgs (inClass (top 31) 4)) (.stmts (defBody (inClass (top 31) 4))) (defScope (inClass (top 31) 4)) 3 [] .none .none .none (.str (oS "evenrules.rules") 431) .none (.ref 335) .none 0)) #[]
noncomputable def kb337 (P : Params) : Obj := .mk (.type "tuple") .none (.seq #[.str (oS "plus") 656, .str (oS "times") 657]) #[]
noncomputable def kb338 (P : Params) : Obj := .mk (.type "dict") .none (.dict #[.mk (kH P (oS "__module__")) (.str (oS "__module__") 603) (.str (oS "evenrules.rules") 431), .mk (kH P (oS "__firstlineno__")) (.str (oS "__firstlineno__") 607) (.int 159 606), .mk (kH P (oS "__init__")) (.str (oS "__init__") 617) (.ref 308), .mk (kH P (oS "turns")) (.str (oS "turns") 628) (.ref 315), .mk (kH P (oS "twice_is_fair")) (.str (oS "twice_is_fair") 640) (.ref 322), .mk (kH P (oS "__eq__")) (.str (oS "__eq__") 648) (.ref 329), .mk (kH P (oS "__str__")) (.str (oS "__str__") 655) (.ref 336), .mk (kH P (oS "__static_attributes__")) (.str (oS "__static_attributes__") 658) (.ref 337), .mk (kH P (oS "__doc__")) (.str (oS "__doc__") 659) .none, .mk (kH P (oS "__hash__")) (.str (oS "__hash__") 660) .none] 3) #[]
noncomputable def kb339 (P : Params) : Obj := .mk (.type "type") .none (.cls (.mk (oS "TryRule") [.ref 249] [.ref 339, .ref 249, .ref 206, .type "object"] 338 (oS "TryRule") Bool.true [] [] Bool.false .none Bool.false)) #[Option.some (.ref 294), .none, Option.some (.str (oS "TryRule") 596), Option.some (.str (oS "TryRule") 604), Option.some (.builtin "object.__new__"), Option.some (.bool Bool.true)]
noncomputable def kb342 (P : Params) : Obj := .mk (.type "tuple") .none (.seq #[]) #[]
noncomputable def kb344 (P : Params) : Obj := .mk (.type "tuple") .none (.seq #[.str (oS "rule") 666, .str (oS "x") 667, .str (oS "y") 668, .str (oS "over") 669, .str (oS "under") 670]) #[]
noncomputable def kb345 (P : Params) : Obj := .mk (.type "tuple") .none (.seq #[]) #[]
noncomputable def kb347 (P : Params) : Obj := .mk (.type "code") .none (.fields #[.str (oS "are_fair") 663, .str (oS "are_fair") 664, .str (oS "/claim/cut.py") 665, .int 181 0, .int 3 0, .int 0 0, .int 0 0, .int 3 0, .ref 342, .bool Bool.true, .int 181 0, .ref 343, .none, .ref 344, .ref 345, .ref 346, .int 671 0, .int 181 0, .str (oS "/claim/cut.py") 672]) #[]
noncomputable def kb348 (P : Params) : Obj := .mk (.type "function") .none (.func (.mk (oS "are_fair") (oS "are_fair") (defArgs (top 32)) (.stmts (defBody (top 32))) (defScope (top 32)) 3 [] .none .none .none (.str (oS "evenrules.rules") 431) .none (.ref 347) .none 0)) #[]
noncomputable def kb349 (P : Params) : Obj := .mk (.type "tuple") .none (.seq #[]) #[]
noncomputable def kb351 (P : Params) : Obj := .mk (.type "tuple") .none (.seq #[.str (oS "rule") 677, .str (oS "x") 678, .str (oS "over") 679, .str (oS "under") 680]) #[]
noncomputable def kb352 (P : Params) : Obj := .mk (.type "tuple") .none (.seq #[]) #[]
noncomputable def kb354 (P : Params) : Obj := .mk (.type "code") .none (.fields #[.str (oS "greatest_beside") 674, .str (oS "greatest_beside") 675, .str (oS "/claim/cut.py") 676, .int 184 0, .int 2 0, .int 0 0, .int 0 0, .int 3 0, .ref 349, .bool Bool.true, .int 181 0, .ref 350, .none, .ref 351, .ref 352, .ref 353, .int 681 0, .int 184 0, .str (oS "/claim/cut.py") 682]) #[]
noncomputable def kb355 (P : Params) : Obj := .mk (.type "function") .none (.func (.mk (oS "greatest_beside") (oS "greatest_beside") (defArgs (top 33)) (.stmts (defBody (top 33))) (defScope (top 33)) 3 [] .none .none .none (.str (oS "evenrules.rules") 431) .none (.ref 354) .none 0)) #[]
noncomputable def kb356 (P : Params) : Obj := .mk (.type "tuple") .none (.seq #[]) #[]
noncomputable def kb358 (P : Params) : Obj := .mk (.type "tuple") .none (.seq #[.str (oS "rule") 687, .str (oS "y") 688, .str (oS "over") 689, .str (oS "under") 690]) #[]
noncomputable def kb359 (P : Params) : Obj := .mk (.type "tuple") .none (.seq #[]) #[]
noncomputable def kb361 (P : Params) : Obj := .mk (.type "code") .none (.fields #[.str (oS "least_beside") 684, .str (oS "least_beside") 685, .str (oS "/claim/cut.py") 686, .int 187 0, .int 2 0, .int 0 0, .int 0 0, .int 3 0, .ref 356, .bool Bool.true, .int 181 0, .ref 357, .none, .ref 358, .ref 359, .ref 360, .int 691 0, .int 187 0, .str (oS "/claim/cut.py") 692]) #[]
noncomputable def kb362 (P : Params) : Obj := .mk (.type "function") .none (.func (.mk (oS "least_beside") (oS "least_beside") (defArgs (top 34)) (.stmts (defBody (top 34))) (defScope (top 34)) 3 [] .none .none .none (.str (oS "evenrules.rules") 431) .none (.ref 361) .none 0)) #[]
noncomputable def kb363 (P : Params) : Obj := .mk (.type "tuple") .none (.seq #[]) #[]
noncomputable def kb365 (P : Params) : Obj := .mk (.type "tuple") .none (.seq #[.str (oS "rule") 697, .str (oS "weight") 698, .str (oS "over") 699, .str (oS "under") 700]) #[]
noncomputable def kb366 (P : Params) : Obj := .mk (.type "tuple") .none (.seq #[]) #[]
noncomputable def kb368 (P : Params) : Obj := .mk (.type "code") .none (.fields #[.str (oS "least_part") 694, .str (oS "least_part") 695, .str (oS "/claim/cut.py") 696, .int 190 0, .int 2 0, .int 0 0, .int 0 0, .int 3 0, .ref 363, .bool Bool.true, .int 181 0, .ref 364, .none, .ref 365, .ref 366, .ref 367, .int 701 0, .int 190 0, .str (oS "/claim/cut.py") 702]) #[]
noncomputable def kb369 (P : Params) : Obj := .mk (.type "function") .none (.func (.mk (oS "least_part") (oS "least_part") (defArgs (top 35)) (.stmts (defBody (top 35))) (defScope (top 35)) 3 [] .none .none .none (.str (oS "evenrules.rules") 431) .none (.ref 368) .none 0)) #[]
noncomputable def kb370 (P : Params) : Obj := .mk (.type "tuple") .none (.seq #[]) #[]
noncomputable def kb372 (P : Params) : Obj := .mk (.type "tuple") .none (.seq #[.str (oS "value") 707]) #[]
noncomputable def kb373 (P : Params) : Obj := .mk (.type "tuple") .none (.seq #[]) #[]
noncomputable def kb375 (P : Params) : Obj := .mk (.type "code") .none (.fields #[.str (oS "need_rule") 704, .str (oS "need_rule") 705, .str (oS "/claim/cut.py") 706, .int 193 0, .int 1 0, .int 0 0, .int 0 0, .int 3 0, .ref 370, .bool Bool.true, .int 181 0, .ref 371, .none, .ref 372, .ref 373, .ref 374, .int 708 0, .int 193 0, .str (oS "/claim/cut.py") 709]) #[]
noncomputable def kb376 (P : Params) : Obj := .mk (.type "function") .none (.func (.mk (oS "need_rule") (oS "need_rule") (defArgs (top 36)) (.stmts (defBody (top 36))) (defScope (top 36)) 3 [] .none .none .none (.str (oS "evenrules.rules") 431) .none (.ref 375) .none 0)) #[]
noncomputable def kb377 (P : Params) : Obj := .mk (.type "tuple") .none (.seq #[]) #[]
noncomputable def kb379 (P : Params) : Obj := .mk (.type "tuple") .none (.seq #[.str (oS "value") 714]) #[]
noncomputable def kb380 (P : Params) : Obj := .mk (.type "tuple") .none (.seq #[]) #[]
noncomputable def kb382 (P : Params) : Obj := .mk (.type "code") .none (.fields #[.str (oS "need_weight") 711, .str (oS "need_weight") 712, .str (oS "/claim/cut.py") 713, .int 196 0, .int 1 0, .int 0 0, .int 0 0, .int 3 0, .ref 377, .bool Bool.true, .int 181 0, .ref 378, .none, .ref 379, .ref 380, .ref 381, .int 715 0, .int 196 0, .str (oS "/claim/cut.py") 716]) #[]
noncomputable def kb383 (P : Params) : Obj := .mk (.type "function") .none (.func (.mk (oS "need_weight") (oS "need_weight") (defArgs (top 37)) (.stmts (defBody (top 37))) (defScope (top 37)) 3 [] .none .none .none (.str (oS "evenrules.rules") 431) .none (.ref 382) .none 0)) #[]
noncomputable def kb384 (P : Params) : Obj := .mk (.type "tuple") .none (.seq #[]) #[]
noncomputable def kb387 (P : Params) : Obj := .mk (.type "code") .none (.fields #[.str (oS "is_pair") 718, .str (oS "is_pair") 719, .str (oS "/claim/cut.py") 720, .int 199 0, .int 2 0, .int 0 0, .int 0 0, .int 3 0, .ref 384, .bool Bool.true, .int 181 0, .ref 385, .none, .none, .none, .ref 386, .int 721 0, .int 199 0, .str (oS "/claim/cut.py") 722]) #[]
noncomputable def kb388 (P : Params) : Obj := .mk (.type "function") .none (.func (.mk (oS "is_pair") (oS "is_pair") (defArgs (top 38)) (.stmts (defBody (top 38))) (defScope (top 38)) 3 [] .none .none .none (.str (oS "evenrules.rules") 431) .none (.ref 387) .none 0)) #[]
noncomputable def kb389 (P : Params) : Obj := .mk (.type "tuple") .none (.seq #[]) #[]
noncomputable def kb391 (P : Params) : Obj := .mk (.type "tuple") .none (.seq #[.str (oS "value") 727]) #[]
noncomputable def kb392 (P : Params) : Obj := .mk (.type "tuple") .none (.seq #[]) #[]
noncomputable def kb394 (P : Params) : Obj := .mk (.type "code") .none (.fields #[.str (oS "is_times") 724, .str (oS "is_times") 725, .str (oS "/claim/cut.py") 726, .int 201 0, .int 1 0, .int 0 0, .int 0 0, .int 3 0, .ref 389, .bool Bool.true, .int 181 0, .ref 390, .none, .ref 391, .ref 392, .ref 393, .int 728 0, .int 201 0, .str (oS "/claim/cut.py") 729]) #[]
noncomputable def kb395 (P : Params) : Obj := .mk (.type "function") .none (.func (.mk (oS "is_times") (oS "is_times") (defArgs (top 39)) (.stmts (defBody (top 39))) (defScope (top 39)) 3 [] .none .none .none (.str (oS "evenrules.rules") 431) .none (.ref 394) .none 0)) #[]
noncomputable def kb396 (P : Params) : Obj := .mk (.type "tuple") .none (.seq #[]) #[]
noncomputable def kb398 (P : Params) : Obj := .mk (.type "tuple") .none (.seq #[.str (oS "value") 734]) #[]
noncomputable def kb399 (P : Params) : Obj := .mk (.type "tuple") .none (.seq #[]) #[]
noncomputable def kb401 (P : Params) : Obj := .mk (.type "code") .none (.fields #[.str (oS "is_plus") 731, .str (oS "is_plus") 732, .str (oS "/claim/cut.py") 733, .int 203 0, .int 1 0, .int 0 0, .int 0 0, .int 3 0, .ref 396, .bool Bool.true, .int 181 0, .ref 397, .none, .ref 398, .ref 399, .ref 400, .int 735 0, .int 203 0, .str (oS "/claim/cut.py") 736]) #[]
noncomputable def kb402 (P : Params) : Obj := .mk (.type "function") .none (.func (.mk (oS "is_plus") (oS "is_plus") (defArgs (top 40)) (.stmts (defBody (top 40))) (defScope (top 40)) 3 [] .none .none .none (.str (oS "evenrules.rules") 431) .none (.ref 401) .none 0)) #[]
noncomputable def kb403 (P : Params) : Obj := .mk (.type "tuple") .none (.seq #[]) #[]
noncomputable def kb405 (P : Params) : Obj := .mk (.type "tuple") .none (.seq #[.str (oS "value") 741]) #[]
noncomputable def kb406 (P : Params) : Obj := .mk (.type "tuple") .none (.seq #[]) #[]
noncomputable def kb408 (P : Params) : Obj := .mk (.type "code") .none (.fields #[.str (oS "is_turn") 738, .str (oS "is_turn") 739, .str (oS "/claim/cut.py") 740, .int 205 0, .int 1 0, .int 0 0, .int 0 0, .int 3 0, .ref 403, .bool Bool.true, .int 181 0, .ref 404, .none, .ref 405, .ref 406, .ref 407, .int 742 0, .int 205 0, .str (oS "/claim/cut.py") 743]) #[]
noncomputable def kb409 (P : Params) : Obj := .mk (.type "function") .none (.func (.mk (oS "is_turn") (oS "is_turn") (defArgs (top 41)) (.stmts (defBody (top 41))) (defScope (top 41)) 3 [] .none .none .none (.str (oS "evenrules.rules") 431) .none (.ref 408) .none 0)) #[]
noncomputable def kb410 (P : Params) : Obj := .mk (.type "tuple") .none (.seq #[]) #[]
noncomputable def kb412 (P : Params) : Obj := .mk (.type "tuple") .none (.seq #[.str (oS "times") 748, .str (oS "plus") 749]) #[]
noncomputable def kb413 (P : Params) : Obj := .mk (.type "tuple") .none (.seq #[]) #[]
noncomputable def kb415 (P : Params) : Obj := .mk (.type "code") .none (.fields #[.str (oS "need_times") 745, .str (oS "need_times") 746, .str (oS "/claim/cut.py") 747, .int 207 0, .int 2 0, .int 0 0, .int 0 0, .int 3 0, .ref 410, .bool Bool.true, .int 181 0, .ref 411, .none, .ref 412, .ref 413, .ref 414, .int 750 0, .int 207 0, .str (oS "/claim/cut.py") 751]) #[]
noncomputable def kb416 (P : Params) : Obj := .mk (.type "function") .none (.func (.mk (oS "need_times") (oS "need_times") (defArgs (top 42)) (.stmts (defBody (top 42))) (defScope (top 42)) 3 [] .none .none .none (.str (oS "evenrules.rules") 431) .none (.ref 415) .none 0)) #[]
noncomputable def kb417 (P : Params) : Obj := .mk (.type "tuple") .none (.seq #[]) #[]
noncomputable def kb419 (P : Params) : Obj := .mk (.type "tuple") .none (.seq #[.str (oS "times") 756, .str (oS "plus") 757, .str (oS "over") 758, .str (oS "under") 759]) #[]
noncomputable def kb420 (P : Params) : Obj := .mk (.type "tuple") .none (.seq #[]) #[]
noncomputable def kb422 (P : Params) : Obj := .mk (.type "code") .none (.fields #[.str (oS "has_halves") 753, .str (oS "has_halves") 754, .str (oS "/claim/cut.py") 755, .int 212 0, .int 2 0, .int 0 0, .int 0 0, .int 3 0, .ref 417, .bool Bool.true, .int 181 0, .ref 418, .none, .ref 419, .ref 420, .ref 421, .int 760 0, .int 212 0, .str (oS "/claim/cut.py") 761]) #[]
noncomputable def kb423 (P : Params) : Obj := .mk (.type "function") .none (.func (.mk (oS "has_halves") (oS "has_halves") (defArgs (top 43)) (.stmts (defBody (top 43))) (defScope (top 43)) 3 [] .none .none .none (.str (oS "evenrules.rules") 431) .none (.ref 422) .none 0)) #[]
noncomputable def kb424 (P : Params) : Obj := .mk (.type "tuple") .none (.seq #[]) #[]
noncomputable def kb426 (P : Params) : Obj := .mk (.type "tuple") .none (.seq #[.str (oS "times") 766, .str (oS "plus") 767, .str (oS "over") 768, .str (oS "under") 769]) #[]
noncomputable def kb427 (P : Params) : Obj := .mk (.type "tuple") .none (.seq #[]) #[]
noncomputable def kb429 (P : Params) : Obj := .mk (.type "code") .none (.fields #[.str (oS "need_halves") 763, .str (oS "need_halves") 764, .str (oS "/claim/cut.py") 765, .int 215 0, .int 2 0, .int 0 0, .int 0 0, .int 3 0, .ref 424, .bool Bool.true, .int 181 0, .ref 425, .none, .ref 426, .ref 427, .ref 428, .int 770 0, .int 215 0, .str (oS "/claim/cut.py") 771]) #[]
noncomputable def kb430 (P : Params) : Obj := .mk (.type "function") .none (.func (.mk (oS "need_halves") (oS "need_halves") (defArgs (top 44)) (.stmts (defBody (top 44))) (defScope (top 44)) 3 [] .none .none .none (.str (oS "evenrules.rules") 431) .none (.ref 429) .none 0)) #[]
noncomputable def kb431 (P : Params) : Obj := .mk (.type "tuple") .none (.seq #[]) #[]
noncomputable def kb433 (P : Params) : Obj := .mk (.type "tuple") .none (.seq #[.str (oS "words") 776, .str (oS "kinds") 777, .str (oS "at") 778, .str (oS "kind") 779]) #[]
noncomputable def kb434 (P : Params) : Obj := .mk (.type "tuple") .none (.seq #[]) #[]
noncomputable def kb436 (P : Params) : Obj := .mk (.type "code") .none (.fields #[.str (oS "wrong_rule_word") 773, .str (oS "wrong_rule_word") 774, .str (oS "/claim/cut.py") 775, .int 221 0, .int 1 0, .int 0 0, .int 0 0, .int 3 0, .ref 431, .bool Bool.true, .int 181 0, .ref 432, .none, .ref 433, .ref 434, .ref 435, .int 780 0, .int 221 0, .str (oS "/claim/cut.py") 781]) #[]
noncomputable def kb437 (P : Params) : Obj := .mk (.type "function") .none (.func (.mk (oS "wrong_rule_word") (oS "wrong_rule_word") (defArgs (top 45)) (.stmts (defBody (top 45))) (defScope (top 45)) 3 [] .none .none .none (.str (oS "evenrules.rules") 431) .none (.ref 436) .none 0)) #[]
noncomputable def kb438 (P : Params) : Obj := .mk (.type "tuple") .none (.seq #[]) #[]
noncomputable def kb440 (P : Params) : Obj := .mk (.type "tuple") .none (.seq #[.str (oS "word") 786]) #[]
noncomputable def kb441 (P : Params) : Obj := .mk (.type "tuple") .none (.seq #[]) #[]
noncomputable def kb443 (P : Params) : Obj := .mk (.type "code") .none (.fields #[.str (oS "word_value") 783, .str (oS "word_value") 784, .str (oS "/claim/cut.py") 785, .int 231 0, .int 1 0, .int 0 0, .int 0 0, .int 3 0, .ref 438, .bool Bool.true, .int 181 0, .ref 439, .none, .ref 440, .ref 441, .ref 442, .int 787 0, .int 231 0, .str (oS "/claim/cut.py") 788]) #[]
noncomputable def kb444 (P : Params) : Obj := .mk (.type "function") .none (.func (.mk (oS "word_value") (oS "word_value") (defArgs (top 46)) (.stmts (defBody (top 46))) (defScope (top 46)) 3 [] .none .none .none (.str (oS "evenrules.rules") 431) .none (.ref 443) .none 0)) #[]
noncomputable def kb445 (P : Params) : Obj := .mk (.type "tuple") .none (.seq #[]) #[]
noncomputable def kb447 (P : Params) : Obj := .mk (.type "tuple") .none (.seq #[.str (oS "kind") 793, .str (oS "value") 794]) #[]
noncomputable def kb448 (P : Params) : Obj := .mk (.type "tuple") .none (.seq #[]) #[]
noncomputable def kb450 (P : Params) : Obj := .mk (.type "code") .none (.fields #[.str (oS "can_stand") 790, .str (oS "can_stand") 791, .str (oS "/claim/cut.py") 792, .int 233 0, .int 2 0, .int 0 0, .int 0 0, .int 3 0, .ref 445, .bool Bool.true, .int 181 0, .ref 446, .none, .ref 447, .ref 448, .ref 449, .int 795 0, .int 233 0, .str (oS "/claim/cut.py") 796]) #[]
noncomputable def kb451 (P : Params) : Obj := .mk (.type "function") .none (.func (.mk (oS "can_stand") (oS "can_stand") (defArgs (top 47)) (.stmts (defBody (top 47))) (defScope (top 47)) 3 [] .none .none .none (.str (oS "evenrules.rules") 431) .none (.ref 450) .none 0)) #[]
noncomputable def kb452 (P : Params) : Obj := .mk (.type "tuple") .none (.seq #[.str (oS "put") 800, .str (oS "take") 801]) #[]
noncomputable def kb453 (P : Params) : Obj := .mk (.type "tuple") .none (.seq #[.str (oS "light") 803, .str (oS "first") 804]) #[]
noncomputable def kb454 (P : Params) : Obj := .mk (.type "tuple") .none (.seq #[.str (oS "light") 805, .str (oS "second") 806]) #[]
noncomputable def kb455 (P : Params) : Obj := .mk (.type "tuple") .none (.seq #[.str (oS "top") 807, .str (oS "first") 808]) #[]
noncomputable def kb456 (P : Params) : Obj := .mk (.type "tuple") .none (.seq #[.str (oS "top") 809, .str (oS "second") 810]) #[]
noncomputable def kb457 (P : Params) : Obj := .mk (.type "tuple") .none (.seq #[.ref 453, .ref 454, .ref 455, .ref 456]) #[]
noncomputable def kb458 (P : Params) : Obj := .mk (.type "tuple") .none (.seq #[.str (oS "inner") 812, .str (oS "none") 813]) #[]
noncomputable def kb459 (P : Params) : Obj := .mk (.type "tuple") .none (.seq #[.str (oS "inner") 815, .str (oS "none") 816]) #[]
noncomputable def kb460 (P : Params) : Obj := .mk (.type "tuple") .none (.seq #[.str (oS "light") 817, .str (oS "first") 818]) #[]
noncomputable def kb461 (P : Params) : Obj := .mk (.type "tuple") .none (.seq #[.str (oS "light") 819, .str (oS "second") 820]) #[]
noncomputable def kb462 (P : Params) : Obj := .mk (.type "tuple") .none (.seq #[.str (oS "far") 821, .str (oS "first") 822]) #[]
noncomputable def kb463 (P : Params) : Obj := .mk (.type "tuple") .none (.seq #[.str (oS "far") 823, .str (oS "second") 824]) #[]
noncomputable def kb464 (P : Params) : Obj := .mk (.type "tuple") .none (.seq #[.str (oS "top") 825, .str (oS "first") 826]) #[]
noncomputable def kb465 (P : Params) : Obj := .mk (.type "tuple") .none (.seq #[.str (oS "top") 827, .str (oS "second") 828]) #[]
noncomputable def kb466 (P : Params) : Obj := .mk (.type "tuple") .none (.seq #[.ref 459, .ref 460, .ref 461, .ref 462, .ref 463, .ref 464, .ref 465]) #[]
noncomputable def kb467 (P : Params) : Obj := .mk (.type "tuple") .none (.seq #[]) #[]
noncomputable def kb469 (P : Params) : Obj := .mk (.type "tuple") .none (.seq #[.str (oS "value") 833]) #[]
noncomputable def kb470 (P : Params) : Obj := .mk (.type "tuple") .none (.seq #[]) #[]
noncomputable def kb472 (P : Params) : Obj := .mk (.type "code") .none (.fields #[.str (oS "is_deed") 830, .str (oS "is_deed") 831, .str (oS "/claim/cut.py") 832, .int 242 0, .int 1 0, .int 0 0, .int 0 0, .int 3 0, .ref 467, .bool Bool.true, .int 181 0, .ref 468, .none, .ref 469, .ref 470, .ref 471, .int 834 0, .int 242 0, .str (oS "/claim/cut.py") 835]) #[]
noncomputable def kb473 (P : Params) : Obj := .mk (.type "function") .none (.func (.mk (oS "is_deed") (oS "is_deed") (defArgs (top 53)) (.stmts (defBody (top 53))) (defScope (top 53)) 3 [] .none .none .none (.str (oS "evenrules.cases") 798) .none (.ref 472) .none 0)) #[]
noncomputable def kb481 (P : Params) : Obj := .mk (.type "tuple") .none (.seq #[]) #[]
noncomputable def kb483 (P : Params) : Obj := .mk (.type "tuple") .none (.seq #[.str (oS "self") 854, .str (oS "rule") 855, .str (oS "light") 856, .str (oS "heavy") 857, .str (oS "over") 858, .str (oS "under") 859]) #[]
noncomputable def kb484 (P : Params) : Obj := .mk (.type "tuple") .none (.seq #[]) #[]
noncomputable def kb486 (P : Params) : Obj := .mk (.type "code") .none (.fields #[.str (oS "__init__") 851, .str (oS "Grip.__init__") 852, .str (oS "/claim/cut.py") 853, .int 247 0, .int 4 0, .int 0 0, .int 0 0, .int 3 0, .ref 481, .bool Bool.true, .int 181 0, .ref 482, .none, .ref 483, .ref 484, .ref 485, .int 860 0, .int 247 0, .str (oS "/claim/cut.py") 861]) #[]
noncomputable def kb487 (P : Params) : Obj := .mk (.type "function") .none (.func (.mk (oS "__init__") (oS "Grip.__init__") (defArgs (inClass (top 55) 0)) (.stmts (defBody (inClass (top 55) 0))) (defScope (inClass (top 55) 0)) 3 [] .none .none .none (.str (oS "evenrules.grips") 837) .none (.ref 486) .none 0)) #[]
noncomputable def kb488 (P : Params) : Obj := .mk (.type "tuple") .none (.seq #[]) #[]
noncomputable def kb490 (P : Params) : Obj := .mk (.type "tuple") .none (.seq #[.str (oS "self") 866, .str (oS "least") 867, .str (oS "found") 868]) #[]
noncomputable def kb491 (P : Params) : Obj := .mk (.type "tuple") .none (.seq #[]) #[]
noncomputable def kb493 (P : Params) : Obj := .mk (.type "code") .none (.fields #[.str (oS "first_break") 863, .str (oS "Grip.first_break") 864, .str (oS "/claim/cut.py") 865, .int 256 0, .int 1 0, .int 0 0, .int 0 0, .int 3 0, .ref 488, .bool Bool.true, .int 181 0, .ref 489, .none, .ref 490, .ref 491, .ref 492, .int 869 0, .int 256 0, .str (oS "/claim/cut.py") 870]) #[]
noncomputable def kb494 (P : Params) : Obj := .mk (.type "function") .none (.func (.mk (oS "first_break") (oS "Grip.first_break") (defArgs (inClass (top 55) 1)) (.stmts (defBody (inClass (top 55) 1))) (defScope (inClass (top 55) 1)) 3 [] .none .none .none (.str (oS "evenrules.grips") 837) .none (.ref 493) .none 0)) #[]
noncomputable def kb495 (P : Params) : Obj := .mk (.type "tuple") .none (.seq #[]) #[]
noncomputable def kb497 (P : Params) : Obj := .mk (.type "tuple") .none (.seq #[.str (oS "self") 875, .str (oS "onces") 876, .str (oS "twices") 877, .str (oS "ends") 878, .str (oS "once") 879, .str (oS "low") 880, .str (oS "high") 881, .str (oS "twice") 882, .str (oS "numbers") 883]) #[]
noncomputable def kb498 (P : Params) : Obj := .mk (.type "tuple") .none (.seq #[]) #[]
noncomputable def kb500 (P : Params) : Obj := .mk (.type "code") .none (.fields #[.str (oS "first_of") 872, .str (oS "Grip.first_of") 873, .str (oS "/claim/cut.py") 874, .int 263 0, .int 4 0, .int 0 0, .int 0 0, .int 3 0, .ref 495, .bool Bool.true, .int 181 0, .ref 496, .none, .ref 497, .ref 498, .ref 499, .int 884 0, .int 263 0, .str (oS "/claim/cut.py") 885]) #[]
noncomputable def kb501 (P : Params) : Obj := .mk (.type "function") .none (.func (.mk (oS "first_of") (oS "Grip.first_of") (defArgs (inClass (top 55) 2)) (.stmts (defBody (inClass (top 55) 2))) (defScope (inClass (top 55) 2)) 3 [] .none .none .none (.str (oS "evenrules.grips") 837) .none (.ref 500) .none 0)) #[]
noncomputable def kb502 (P : Params) : Obj := .mk (.type "tuple") .none (.seq #[]) #[]
noncomputable def kb504 (P : Params) : Obj := .mk (.type "tuple") .none (.seq #[.str (oS "self") 890, .str (oS "once") 891, .str (oS "ends") 892, .str (oS "low") 893, .str (oS "high") 894]) #[]
noncomputable def kb505 (P : Params) : Obj := .mk (.type "tuple") .none (.seq #[]) #[]
noncomputable def kb507 (P : Params) : Obj := .mk (.type "code") .none (.fields #[.str (oS "once_ends") 887, .str (oS "Grip.once_ends") 888, .str (oS "/claim/cut.py") 889, .int 273 0, .int 3 0, .int 0 0, .int 0 0, .int 3 0, .ref 502, .bool Bool.true, .int 181 0, .ref 503, .none, .ref 504, .ref 505, .ref 506, .int 895 0, .int 273 0, .str (oS "/claim/cut.py") 896]) #[]
noncomputable def kb508 (P : Params) : Obj := .mk (.type "function") .none (.func (.mk (oS "once_ends") (oS "Grip.once_ends") (defArgs (inClass (top 55) 3)) (.stmts (defBody (inClass (top 55) 3))) (defScope (inClass (top 55) 3)) 3 [] .none .none .none (.str (oS "evenrules.grips") 837) .none (.ref 507) .none 0)) #[]
noncomputable def kb509 (P : Params) : Obj := .mk (.type "tuple") .none (.seq #[]) #[]
noncomputable def kb511 (P : Params) : Obj := .mk (.type "tuple") .none (.seq #[.str (oS "self") 901, .str (oS "twice") 902, .str (oS "low") 903, .str (oS "high") 904, .str (oS "ends") 905, .str (oS "inner") 906, .str (oS "near") 907]) #[]
noncomputable def kb512 (P : Params) : Obj := .mk (.type "tuple") .none (.seq #[]) #[]
noncomputable def kb514 (P : Params) : Obj := .mk (.type "code") .none (.fields #[.str (oS "numbers_of") 898, .str (oS "Grip.numbers_of") 899, .str (oS "/claim/cut.py") 900, .int 285 0, .int 4 0, .int 0 0, .int 0 0, .int 3 0, .ref 509, .bool Bool.true, .int 181 0, .ref 510, .none, .ref 511, .ref 512, .ref 513, .int 908 0, .int 285 0, .str (oS "/claim/cut.py") 909]) #[]
noncomputable def kb515 (P : Params) : Obj := .mk (.type "function") .none (.func (.mk (oS "numbers_of") (oS "Grip.numbers_of") (defArgs (inClass (top 55) 4)) (.stmts (defBody (inClass (top 55) 4))) (defScope (inClass (top 55) 4)) 3 [] .none .none .none (.str (oS "evenrules.grips") 837) .none (.ref 514) .none 0)) #[]
noncomputable def kb516 (P : Params) : Obj := .mk (.type "tuple") .none (.seq #[]) #[]
noncomputable def kb518 (P : Params) : Obj := .mk (.type "tuple") .none (.seq #[.str (oS "self") 914, .str (oS "twice") 915, .str (oS "inner") 916, .str (oS "near") 917, .str (oS "far") 918]) #[]
noncomputable def kb519 (P : Params) : Obj := .mk (.type "tuple") .none (.seq #[]) #[]
noncomputable def kb521 (P : Params) : Obj := .mk (.type "code") .none (.fields #[.str (oS "near_ends") 911, .str (oS "Grip.near_ends") 912, .str (oS "/claim/cut.py") 913, .int 296 0, .int 3 0, .int 0 0, .int 0 0, .int 3 0, .ref 516, .bool Bool.true, .int 181 0, .ref 517, .none, .ref 518, .ref 519, .ref 520, .int 919 0, .int 296 0, .str (oS "/claim/cut.py") 920]) #[]
noncomputable def kb522 (P : Params) : Obj := .mk (.type "function") .none (.func (.mk (oS "near_ends") (oS "Grip.near_ends") (defArgs (inClass (top 55) 5)) (.stmts (defBody (inClass (top 55) 5))) (defScope (inClass (top 55) 5)) 3 [] .none .none .none (.str (oS "evenrules.grips") 837) .none (.ref 521) .none 0)) #[]
noncomputable def kb523 (P : Params) : Obj := .mk (.type "tuple") .none (.seq #[]) #[]
noncomputable def kb525 (P : Params) : Obj := .mk (.type "tuple") .none (.seq #[.str (oS "self") 925, .str (oS "least") 926, .str (oS "inner") 927, .str (oS "lowest") 928, .str (oS "near") 929]) #[]
noncomputable def kb526 (P : Params) : Obj := .mk (.type "tuple") .none (.seq #[]) #[]
noncomputable def kb528 (P : Params) : Obj := .mk (.type "code") .none (.fields #[.str (oS "with_near") 922, .str (oS "Grip.with_near") 923, .str (oS "/claim/cut.py") 924, .int 309 0, .int 3 0, .int 0 0, .int 0 0, .int 3 0, .ref 523, .bool Bool.true, .int 181 0, .ref 524, .none, .ref 525, .ref 526, .ref 527, .int 930 0, .int 309 0, .str (oS "/claim/cut.py") 931]) #[]
noncomputable def kb529 (P : Params) : Obj := .mk (.type "function") .none (.func (.mk (oS "with_near") (oS "Grip.with_near") (defArgs (inClass (top 55) 6)) (.stmts (defBody (inClass (top 55) 6))) (defScope (inClass (top 55) 6)) 3 [] .none .none .none (.str (oS "evenrules.grips") 837) .none (.ref 528) .none 0)) #[]
noncomputable def kb530 (P : Params) : Obj := .mk (.type "tuple") .none (.seq #[.str (oS "heavy") 933, .str (oS "least_light") 934, .str (oS "light") 935, .str (oS "own_rule") 936, .str (oS "too_heavy") 937, .str (oS "too_much") 938]) #[]
noncomputable def kb531 (P : Params) : Obj := .mk (.type "dict") .none (.dict #[.mk (kH P (oS "__module__")) (.str (oS "__module__") 846) (.str (oS "evenrules.grips") 837), .mk (kH P (oS "__firstlineno__")) (.str (oS "__firstlineno__") 850) (.int 245 849), .mk (kH P (oS "__init__")) (.str (oS "__init__") 862) (.ref 487), .mk (kH P (oS "first_break")) (.str (oS "first_break") 871) (.ref 494), .mk (kH P (oS "first_of")) (.str (oS "first_of") 886) (.ref 501), .mk (kH P (oS "once_ends")) (.str (oS "once_ends") 897) (.ref 508), .mk (kH P (oS "numbers_of")) (.str (oS "numbers_of") 910) (.ref 515), .mk (kH P (oS "near_ends")) (.str (oS "near_ends") 921) (.ref 522), .mk (kH P (oS "with_near")) (.str (oS "with_near") 932) (.ref 529), .mk (kH P (oS "__static_attributes__")) (.str (oS "__static_attributes__") 939) (.ref 530), .mk (kH P (oS "__dict__")) (.str (oS "__dict__") 941) (.ref 533), .mk (kH P (oS "__weakref__")) (.str (oS "__weakref__") 943) (.ref 534), .mk (kH P (oS "__doc__")) (.str (oS "__doc__") 944) .none] 4) #[]
noncomputable def kb532 (P : Params) : Obj := .mk (.type "type") .none (.cls (.mk (oS "Grip") [.type "object"] [.ref 532, .type "object"] 531 (oS "Grip") Bool.true [] [] Bool.false .none Bool.false)) #[.none, .none, Option.some (.str (oS "Grip") 839), Option.some (.str (oS "Grip") 847), Option.some (.builtin "object.__new__"), Option.some (.bool Bool.true)]
noncomputable def kb533 (P : Params) : Obj := .mk (.type "getset_descriptor") .none (.fields #[.str (oS "__dict__") 940, .ref 532, .builtin "function.__dict__", .builtin "function.__dict__#set"]) #[]
noncomputable def kb534 (P : Params) : Obj := .mk (.type "getset_descriptor") .none (.fields #[.str (oS "__weakref__") 942, .ref 532, .builtin "ExceptionGroup.__weakref__", .none]) #[]
noncomputable def kb537 (P : Params) : Obj := .mk (.type "tuple") .none (.seq #[]) #[]
noncomputable def kb539 (P : Params) : Obj := .mk (.type "tuple") .none (.seq #[.str (oS "rule") 950, .str (oS "heavy") 951, .str (oS "turns") 952, .str (oS "low") 953, .str (oS "high") 954, .str (oS "over") 955, .str (oS "under") 956, .str (oS "most") 957]) #[]
noncomputable def kb540 (P : Params) : Obj := .mk (.type "tuple") .none (.seq #[]) #[]
noncomputable def kb542 (P : Params) : Obj := .mk (.type "code") .none (.fields #[.str (oS "turn_ends") 947, .str (oS "turn_ends") 948, .str (oS "/claim/cut.py") 949, .int 314 0, .int 3 0, .int 0 0, .int 0 0, .int 3 0, .ref 537, .bool Bool.true, .int 181 0, .ref 538, .none, .ref 539, .ref 540, .ref 541, .int 958 0, .int 314 0, .str (oS "/claim/cut.py") 959]) #[]
noncomputable def kb543 (P : Params) : Obj := .mk (.type "function") .none (.func (.mk (oS "turn_ends") (oS "turn_ends") (defArgs (top 56)) (.stmts (defBody (top 56))) (defScope (top 56)) 3 [] .none .none .none (.str (oS "evenrules.grips") 837) .none (.ref 542) .none 0)) #[]
noncomputable def kb544 (P : Params) : Obj := .mk (.type "tuple") .none (.seq #[]) #[]
noncomputable def kb546 (P : Params) : Obj := .mk (.type "tuple") .none (.seq #[.str (oS "rule") 964, .str (oS "deed") 965, .str (oS "light") 966, .str (oS "least") 967]) #[]
noncomputable def kb547 (P : Params) : Obj := .mk (.type "tuple") .none (.seq #[]) #[]
noncomputable def kb549 (P : Params) : Obj := .mk (.type "code") .none (.fields #[.str (oS "heavy_ends") 961, .str (oS "heavy_ends") 962, .str (oS "/claim/cut.py") 963, .int 322 0, .int 3 0, .int 0 0, .int 0 0, .int 3 0, .ref 544, .bool Bool.true, .int 181 0, .ref 545, .none, .ref 546, .ref 547, .ref 548, .int 968 0, .int 322 0, .str (oS "/claim/cut.py") 969]) #[]
noncomputable def kb550 (P : Params) : Obj := .mk (.type "function") .none (.func (.mk (oS "heavy_ends") (oS "heavy_ends") (defArgs (top 57)) (.stmts (defBody (top 57))) (defScope (top 57)) 3 [] .none .none .none (.str (oS "evenrules.grips") 837) .none (.ref 549) .none 0)) #[]
noncomputable def kb558 (P : Params) : Obj := .mk (.type "tuple") .none (.seq #[]) #[]
noncomputable def kb559 (P : Params) : Obj := .mk (.type "dict") .none (.dict #[.mk (kH P (oS "__module__")) (.str (oS "__module__") 980) (.str (oS "evenrules.papers") 971), .mk (kH P (oS "__firstlineno__")) (.str (oS "__firstlineno__") 984) (.int 326 983), .mk (kH P (oS "__static_attributes__")) (.str (oS "__static_attributes__") 985) (.ref 558), .mk (kH P (oS "__dict__")) (.str (oS "__dict__") 987) (.ref 561), .mk (kH P (oS "__weakref__")) (.str (oS "__weakref__") 989) (.ref 562), .mk (kH P (oS "__doc__")) (.str (oS "__doc__") 990) .none] 4) #[]
noncomputable def kb560 (P : Params) : Obj := .mk (.type "type") .none (.cls (.mk (oS "Verdict") [.type "object"] [.ref 560, .type "object"] 559 (oS "Verdict") Bool.true [] [.ref 595] Bool.false .none Bool.false)) #[.none, .none, Option.some (.str (oS "Verdict") 973), Option.some (.str (oS "Verdict") 981), Option.some (.builtin "object.__new__"), Option.some (.bool Bool.true)]
noncomputable def kb561 (P : Params) : Obj := .mk (.type "getset_descriptor") .none (.fields #[.str (oS "__dict__") 986, .ref 560, .builtin "function.__dict__", .builtin "function.__dict__#set"]) #[]
noncomputable def kb562 (P : Params) : Obj := .mk (.type "getset_descriptor") .none (.fields #[.str (oS "__weakref__") 988, .ref 560, .builtin "ExceptionGroup.__weakref__", .none]) #[]
noncomputable def kb565 (P : Params) : Obj := .mk (.type "tuple") .none (.seq #[.ref 560]) #[]
noncomputable def kb572 (P : Params) : Obj := .mk (.type "tuple") .none (.seq #[]) #[]
noncomputable def kb574 (P : Params) : Obj := .mk (.type "tuple") .none (.seq #[.str (oS "self") 1014, .str (oS "deed") 1015, .str (oS "once") 1016, .str (oS "twice") 1017, .str (oS "numbers") 1018]) #[]
noncomputable def kb575 (P : Params) : Obj := .mk (.type "tuple") .none (.seq #[]) #[]
noncomputable def kb577 (P : Params) : Obj := .mk (.type "code") .none (.fields #[.str (oS "__init__") 1011, .str (oS "Wrong.__init__") 1012, .str (oS "/claim/cut.py") 1013, .int 332 0, .int 5 0, .int 0 0, .int 0 0, .int 3 0, .ref 572, .bool Bool.true, .int 181 0, .ref 573, .none, .ref 574, .ref 575, .ref 576, .int 1019 0, .int 332 0, .str (oS "/claim/cut.py") 1020]) #[]
noncomputable def kb578 (P : Params) : Obj := .mk (.type "function") .none (.func (.mk (oS "__init__") (oS "Wrong.__init__") (defArgs (inClass (top 62) 0)) (.stmts (defBody (inClass (top 62) 0))) (defScope (inClass (top 62) 0)) 3 [] .none .none .none (.str (oS "evenrules.judged") 993) .none (.ref 577) .none 0)) #[]
noncomputable def kb579 (P : Params) : Obj := .mk (.type "tuple") .none (.seq #[]) #[]
noncomputable def kb581 (P : Params) : Obj := .mk (.type "tuple") .none (.seq #[.str (oS "self") 1025, .str (oS "other") 1026]) #[]
noncomputable def kb582 (P : Params) : Obj := .mk (.type "tuple") .none (.seq #[]) #[]
noncomputable def kb584 (P : Params) : Obj := .mk (.type "code") .none (.fields #[.str (oS "__eq__") 1022, .str (oS "Wrong.__eq__") 1023, .str (oS "/claim/cut.py") 1024, .int 338 0, .int 2 0, .int 0 0, .int 0 0, .int 3 0, .ref 579, .bool Bool.true, .int 181 0, .ref 580, .none, .ref 581, .ref 582, .ref 583, .int 1027 0, .int 338 0, .str (oS "/claim/cut.py") 1028]) #[]
noncomputable def kb585 (P : Params) : Obj := .mk (.type "function") .none (.func (.mk (oS "__eq__") (oS "Wrong.__eq__") (defArgs (inClass (top 62) 1)) (.stmts (defBody (inClass (top 62) 1))) (defScope (inClass (top 62) 1)) 3 [] .none .none .none (.str (oS "evenrules.judged") 993) .none (.ref 584) .none 0)) #[]
noncomputable def kb586 (P : Params) : Obj := .mk (.type "tuple") .none (.seq #[]) #[]
noncomputable def kb588 (P : Params) : Obj := .mk (.type "tuple") .none (.seq #[.str (oS "self") 1033]) #[]
noncomputable def kb589 (P : Params) : Obj := .mk (.type "tuple") .none (.seq #[]) #[]
noncomputable def kb591 (P : Params) : Obj := .mk (.type "code") .none (.fields #[.str (oS "__bool__") 1030, .str (oS "Wrong.__bool__") 1031, .str (oS "/claim/cut.py") 1032, .int 341 0, .int 1 0, .int 0 0, .int 0 0, .int 3 0, .ref 586, .bool Bool.true, .int 181 0, .ref 587, .none, .ref 588, .ref 589, .ref 590, .int 1034 0, .int 341 0, .str (oS "/claim/cut.py") 1035]) #[]
noncomputable def kb592 (P : Params) : Obj := .mk (.type "function") .none (.func (.mk (oS "__bool__") (oS "Wrong.__bool__") (defArgs (inClass (top 62) 2)) (.stmts (defBody (inClass (top 62) 2))) (defScope (inClass (top 62) 2)) 3 [] .none .none .none (.str (oS "evenrules.judged") 993) .none (.ref 591) .none 0)) #[]
noncomputable def kb593 (P : Params) : Obj := .mk (.type "tuple") .none (.seq #[.str (oS "deed") 1037, .str (oS "numbers") 1038, .str (oS "once") 1039, .str (oS "twice") 1040]) #[]
noncomputable def kb594 (P : Params) : Obj := .mk (.type "dict") .none (.dict #[.mk (kH P (oS "__module__")) (.str (oS "__module__") 1006) (.str (oS "evenrules.judged") 993), .mk (kH P (oS "__firstlineno__")) (.str (oS "__firstlineno__") 1010) (.int 330 1009), .mk (kH P (oS "__init__")) (.str (oS "__init__") 1021) (.ref 578), .mk (kH P (oS "__eq__")) (.str (oS "__eq__") 1029) (.ref 585), .mk (kH P (oS "__bool__")) (.str (oS "__bool__") 1036) (.ref 592), .mk (kH P (oS "__static_attributes__")) (.str (oS "__static_attributes__") 1041) (.ref 593), .mk (kH P (oS "__doc__")) (.str (oS "__doc__") 1042) .none, .mk (kH P (oS "__hash__")) (.str (oS "__hash__") 1043) .none] 3) #[]
noncomputable def kb595 (P : Params) : Obj := .mk (.type "type") .none (.cls (.mk (oS "Wrong") [.ref 560] [.ref 595, .ref 560, .type "object"] 594 (oS "Wrong") Bool.true [] [] Bool.false .none Bool.false)) #[Option.some (.ref 565), .none, Option.some (.str (oS "Wrong") 999), Option.some (.str (oS "Wrong") 1007), Option.some (.builtin "object.__new__"), Option.some (.bool Bool.true)]
noncomputable def kb598 (P : Params) : Obj := .mk (.type "tuple") .none (.seq #[]) #[]
noncomputable def kb600 (P : Params) : Obj := .mk (.type "tuple") .none (.seq #[.str (oS "rule") 1049, .str (oS "deed") 1050, .str (oS "light") 1051, .str (oS "heavy") 1052, .str (oS "weight") 1053, .str (oS "least") 1054, .str (oS "most") 1055, .str (oS "found") 1056, .str (oS "once") 1057, .str (oS "twice") 1058, .str (oS "numbers") 1059]) #[]
noncomputable def kb601 (P : Params) : Obj := .mk (.type "tuple") .none (.seq #[]) #[]
noncomputable def kb603 (P : Params) : Obj := .mk (.type "code") .none (.fields #[.str (oS "breaks") 1046, .str (oS "breaks") 1047, .str (oS "/claim/cut.py") 1048, .int 343 0, .int 4 0, .int 0 0, .int 0 0, .int 3 0, .ref 598, .bool Bool.true, .int 181 0, .ref 599, .none, .ref 600, .ref 601, .ref 602, .int 1060 0, .int 343 0, .str (oS "/claim/cut.py") 1061]) #[]
noncomputable def kb604 (P : Params) : Obj := .mk (.type "function") .none (.func (.mk (oS "breaks") (oS "breaks") (defArgs (top 63)) (.stmts (defBody (top 63))) (defScope (top 63)) 3 [] .none .none .none (.str (oS "evenrules.judged") 993) .none (.ref 603) .none 0)) #[]
noncomputable def kb605 (P : Params) : Obj := .mk (.type "tuple") .none (.seq #[]) #[]
noncomputable def kb607 (P : Params) : Obj := .mk (.type "tuple") .none (.seq #[.str (oS "_law_script") 1068]) #[]
noncomputable def kb608 (P : Params) : Obj := .mk (.type "tuple") .none (.seq #[]) #[]
noncomputable def kb610 (P : Params) : Obj := .mk (.type "code") .none (.fields #[.str (oS "_law_pen") 1065, .str (oS "_law_pen") 1066, .str (oS "/claim/cut.py") 1067, .int 357 0, .int 1 0, .int 0 0, .int 0 0, .int 3 0, .ref 605, .bool Bool.true, .int 181 0, .ref 606, .none, .ref 607, .ref 608, .ref 609, .int 1069 0, .int 357 0, .str (oS "/claim/cut.py") 1070]) #[]
noncomputable def kb611 (P : Params) : Obj := .mk (.type "function") .none (.func (.mk (oS "_law_pen") (oS "_law_pen") (defArgs (top 65)) (.stmts (defBody (top 65))) (defScope (top 65)) 3 [] .none .none .none (.str (oS "law_evenrules_k55_pairs_at_which_rules_break") 1063) .none (.ref 610) .none 0)) #[]
noncomputable def kb612 (P : Params) : Obj := .mk (.type "tuple") .none (.seq #[]) #[]
noncomputable def kb614 (P : Params) : Obj := .mk (.type "tuple") .none (.seq #[.str (oS "_law_pen_here") 1075, .str (oS "_law_many") 1076, .str (oS "_law_digit") 1077, .str (oS "_law_at") 1078, .str (oS "_law_cell") 1079, .str (oS "_law_great") 1080, .str (oS "_law_mixed") 1081]) #[]
noncomputable def kb615 (P : Params) : Obj := .mk (.type "tuple") .none (.seq #[]) #[]
noncomputable def kb617 (P : Params) : Obj := .mk (.type "code") .none (.fields #[.str (oS "_law_draw") 1072, .str (oS "_law_draw") 1073, .str (oS "/claim/cut.py") 1074, .int 359 0, .int 2 0, .int 0 0, .int 0 0, .int 3 0, .ref 612, .bool Bool.true, .int 181 0, .ref 613, .none, .ref 614, .ref 615, .ref 616, .int 1082 0, .int 359 0, .str (oS "/claim/cut.py") 1083]) #[]
noncomputable def kb618 (P : Params) : Obj := .mk (.type "function") .none (.func (.mk (oS "_law_draw") (oS "_law_draw") (defArgs (top 66)) (.stmts (defBody (top 66))) (defScope (top 66)) 3 [] .none .none .none (.str (oS "law_evenrules_k55_pairs_at_which_rules_break") 1063) .none (.ref 617) .none 0)) #[]
noncomputable def kb619 (P : Params) : Obj := .mk (.type "tuple") .none (.seq #[]) #[]
noncomputable def kb621 (P : Params) : Obj := .mk (.type "tuple") .none (.seq #[.str (oS "_law_pen_here") 1088, .str (oS "_law_some") 1089]) #[]
noncomputable def kb622 (P : Params) : Obj := .mk (.type "tuple") .none (.seq #[]) #[]
noncomputable def kb624 (P : Params) : Obj := .mk (.type "code") .none (.fields #[.str (oS "_law_pick") 1085, .str (oS "_law_pick") 1086, .str (oS "/claim/cut.py") 1087, .int 376 0, .int 2 0, .int 0 0, .int 0 0, .int 3 0, .ref 619, .bool Bool.true, .int 181 0, .ref 620, .none, .ref 621, .ref 622, .ref 623, .int 1090 0, .int 376 0, .str (oS "/claim/cut.py") 1091]) #[]
noncomputable def kb625 (P : Params) : Obj := .mk (.type "function") .none (.func (.mk (oS "_law_pick") (oS "_law_pick") (defArgs (top 67)) (.stmts (defBody (top 67))) (defScope (top 67)) 3 [] .none .none .none (.str (oS "law_evenrules_k55_pairs_at_which_rules_break") 1063) .none (.ref 624) .none 0)) #[]
noncomputable def kb626 (P : Params) : Obj := .mk (.type "tuple") .none (.seq #[]) #[]
noncomputable def kb628 (P : Params) : Obj := .mk (.type "tuple") .none (.seq #[.str (oS "_law_pen_here") 1096, .str (oS "_law_q") 1097, .str (oS "_law_p") 1098, .str (oS "_law_k") 1099, .str (oS "_law_s") 1100, .str (oS "_law_t") 1101]) #[]
noncomputable def kb629 (P : Params) : Obj := .mk (.type "tuple") .none (.seq #[]) #[]
noncomputable def kb631 (P : Params) : Obj := .mk (.type "code") .none (.fields #[.str (oS "_law_numbers") 1093, .str (oS "_law_numbers") 1094, .str (oS "/claim/cut.py") 1095, .int 378 0, .int 1 0, .int 0 0, .int 0 0, .int 3 0, .ref 626, .bool Bool.true, .int 181 0, .ref 627, .none, .ref 628, .ref 629, .ref 630, .int 1102 0, .int 378 0, .str (oS "/claim/cut.py") 1103]) #[]
noncomputable def kb632 (P : Params) : Obj := .mk (.type "function") .none (.func (.mk (oS "_law_numbers") (oS "_law_numbers") (defArgs (top 68)) (.stmts (defBody (top 68))) (defScope (top 68)) 3 [] .none .none .none (.str (oS "law_evenrules_k55_pairs_at_which_rules_break") 1063) .none (.ref 631) .none 0)) #[]
noncomputable def kb633 (P : Params) : Obj := .mk (.type "tuple") .none (.seq #[]) #[]
noncomputable def kb635 (P : Params) : Obj := .mk (.type "tuple") .none (.seq #[.str (oS "_law_some") 1108, .str (oS "_law_p") 1109, .str (oS "_law_q") 1110, .str (oS "_law_k") 1111]) #[]
noncomputable def kb636 (P : Params) : Obj := .mk (.type "tuple") .none (.seq #[]) #[]
noncomputable def kb638 (P : Params) : Obj := .mk (.type "code") .none (.fields #[.str (oS "_law_rule") 1105, .str (oS "_law_rule") 1106, .str (oS "/claim/cut.py") 1107, .int 387 0, .int 1 0, .int 0 0, .int 0 0, .int 3 0, .ref 633, .bool Bool.true, .int 181 0, .ref 634, .none, .ref 635, .ref 636, .ref 637, .int 1112 0, .int 387 0, .str (oS "/claim/cut.py") 1113]) #[]
noncomputable def kb639 (P : Params) : Obj := .mk (.type "function") .none (.func (.mk (oS "_law_rule") (oS "_law_rule") (defArgs (top 69)) (.stmts (defBody (top 69))) (defScope (top 69)) 3 [] .none .none .none (.str (oS "law_evenrules_k55_pairs_at_which_rules_break") 1063) .none (.ref 638) .none 0)) #[]
noncomputable def kb640 (P : Params) : Obj := .mk (.type "tuple") .none (.seq #[]) #[]
noncomputable def kb642 (P : Params) : Obj := .mk (.type "tuple") .none (.seq #[.str (oS "_law_ask") 1118, .str (oS "_law_caught") 1119, .str (oS "_law_found") 1120, .str (oS "error") 1121, .str (oS "_law_some") 1122]) #[]
noncomputable def kb643 (P : Params) : Obj := .mk (.type "tuple") .none (.seq #[]) #[]
noncomputable def kb645 (P : Params) : Obj := .mk (.type "code") .none (.fields #[.str (oS "_law_heard") 1115, .str (oS "_law_heard") 1116, .str (oS "/claim/cut.py") 1117, .int 392 0, .int 1 0, .int 0 0, .int 0 0, .int 3 0, .ref 640, .bool Bool.true, .int 181 0, .ref 641, .none, .ref 642, .ref 643, .ref 644, .int 1123 0, .int 392 0, .str (oS "/claim/cut.py") 1124]) #[]
noncomputable def kb646 (P : Params) : Obj := .mk (.type "function") .none (.func (.mk (oS "_law_heard") (oS "_law_heard") (defArgs (top 70)) (.stmts (defBody (top 70))) (defScope (top 70)) 3 [] .none .none .none (.str (oS "law_evenrules_k55_pairs_at_which_rules_break") 1063) .none (.ref 645) .none 0)) #[]
noncomputable def kb647 (P : Params) : Obj := .mk (.type "tuple") .none (.seq #[]) #[]
noncomputable def kb649 (P : Params) : Obj := .mk (.type "tuple") .none (.seq #[.str (oS "_law_some") 1129, .str (oS "_law_heavier") 1130, .str (oS "_law_lighter") 1131]) #[]
noncomputable def kb650 (P : Params) : Obj := .mk (.type "tuple") .none (.seq #[]) #[]
noncomputable def kb652 (P : Params) : Obj := .mk (.type "code") .none (.fields #[.str (oS "_law_is_heavy") 1126, .str (oS "_law_is_heavy") 1127, .str (oS "/claim/cut.py") 1128, .int 408 0, .int 3 0, .int 0 0, .int 0 0, .int 3 0, .ref 647, .bool Bool.true, .int 181 0, .ref 648, .none, .ref 649, .ref 650, .ref 651, .int 1132 0, .int 408 0, .str (oS "/claim/cut.py") 1133]) #[]
noncomputable def kb653 (P : Params) : Obj := .mk (.type "function") .none (.func (.mk (oS "_law_is_heavy") (oS "_law_is_heavy") (defArgs (top 71)) (.stmts (defBody (top 71))) (defScope (top 71)) 3 [] .none .none .none (.str (oS "law_evenrules_k55_pairs_at_which_rules_break") 1063) .none (.ref 652) .none 0)) #[]
noncomputable def kb654 (P : Params) : Obj := .mk (.type "tuple") .none (.seq #[]) #[]
noncomputable def kb656 (P : Params) : Obj := .mk (.type "tuple") .none (.seq #[.str (oS "_law_some") 1138, .str (oS "_law_a") 1139, .str (oS "_law_c") 1140, .str (oS "_law_d") 1141, .str (oS "_law_rows") 1142, .str (oS "_law_found") 1143, .str (oS "_law_node") 1144, .str (oS "_law_one") 1145, .str (oS "_law_two") 1146]) #[]
noncomputable def kb657 (P : Params) : Obj := .mk (.type "tuple") .none (.seq #[]) #[]
noncomputable def kb659 (P : Params) : Obj := .mk (.type "code") .none (.fields #[.str (oS "_law_once_breaks") 1135, .str (oS "_law_once_breaks") 1136, .str (oS "/claim/cut.py") 1137, .int 410 0, .int 4 0, .int 0 0, .int 0 0, .int 3 0, .ref 654, .bool Bool.true, .int 181 0, .ref 655, .none, .ref 656, .ref 657, .ref 658, .int 1147 0, .int 410 0, .str (oS "/claim/cut.py") 1148]) #[]
noncomputable def kb660 (P : Params) : Obj := .mk (.type "function") .none (.func (.mk (oS "_law_once_breaks") (oS "_law_once_breaks") (defArgs (top 72)) (.stmts (defBody (top 72))) (defScope (top 72)) 3 [] .none .none .none (.str (oS "law_evenrules_k55_pairs_at_which_rules_break") 1063) .none (.ref 659) .none 0)) #[]
noncomputable def kb661 (P : Params) : Obj := .mk (.type "tuple") .none (.seq #[]) #[]
noncomputable def kb663 (P : Params) : Obj := .mk (.type "tuple") .none (.seq #[.str (oS "_law_some") 1153, .str (oS "_law_a") 1154, .str (oS "_law_e") 1155, .str (oS "_law_f") 1156, .str (oS "_law_d") 1157, .str (oS "_law_rows") 1158, .str (oS "_law_found") 1159, .str (oS "_law_node") 1160, .str (oS "_law_one") 1161, .str (oS "_law_two") 1162]) #[]
noncomputable def kb664 (P : Params) : Obj := .mk (.type "tuple") .none (.seq #[]) #[]
noncomputable def kb666 (P : Params) : Obj := .mk (.type "code") .none (.fields #[.str (oS "_law_twice_breaks") 1150, .str (oS "_law_twice_breaks") 1151, .str (oS "/claim/cut.py") 1152, .int 417 0, .int 5 0, .int 0 0, .int 0 0, .int 3 0, .ref 661, .bool Bool.true, .int 181 0, .ref 662, .none, .ref 663, .ref 664, .ref 665, .int 1163 0, .int 417 0, .str (oS "/claim/cut.py") 1164]) #[]
noncomputable def kb667 (P : Params) : Obj := .mk (.type "function") .none (.func (.mk (oS "_law_twice_breaks") (oS "_law_twice_breaks") (defArgs (top 73)) (.stmts (defBody (top 73))) (defScope (top 73)) 3 [] .none .none .none (.str (oS "law_evenrules_k55_pairs_at_which_rules_break") 1063) .none (.ref 666) .none 0)) #[]
noncomputable def kb668 (P : Params) : Obj := .mk (.type "tuple") .none (.seq #[]) #[]
noncomputable def kb670 (P : Params) : Obj := .mk (.type "tuple") .none (.seq #[.str (oS "_law_some") 1169, .str (oS "_law_one") 1170, .str (oS "_law_other") 1171]) #[]
noncomputable def kb671 (P : Params) : Obj := .mk (.type "tuple") .none (.seq #[]) #[]
noncomputable def kb673 (P : Params) : Obj := .mk (.type "code") .none (.fields #[.str (oS "_law_is_even") 1166, .str (oS "_law_is_even") 1167, .str (oS "/claim/cut.py") 1168, .int 424 0, .int 3 0, .int 0 0, .int 0 0, .int 3 0, .ref 668, .bool Bool.true, .int 181 0, .ref 669, .none, .ref 670, .ref 671, .ref 672, .int 1172 0, .int 424 0, .str (oS "/claim/cut.py") 1173]) #[]
noncomputable def kb674 (P : Params) : Obj := .mk (.type "function") .none (.func (.mk (oS "_law_is_even") (oS "_law_is_even") (defArgs (top 74)) (.stmts (defBody (top 74))) (defScope (top 74)) 3 [] .none .none .none (.str (oS "law_evenrules_k55_pairs_at_which_rules_break") 1063) .none (.ref 673) .none 0)) #[]
noncomputable def kb675 (P : Params) : Obj := .mk (.type "tuple") .none (.seq #[]) #[]
noncomputable def kb678 (P : Params) : Obj := .mk (.type "code") .none (.fields #[.str (oS "_law_parts") 1175, .str (oS "_law_parts") 1176, .str (oS "/claim/cut.py") 1177, .int 426 0, .int 2 0, .int 0 0, .int 0 0, .int 3 0, .ref 675, .bool Bool.true, .int 181 0, .ref 676, .none, .none, .none, .ref 677, .int 1178 0, .int 426 0, .str (oS "/claim/cut.py") 1179]) #[]
noncomputable def kb679 (P : Params) : Obj := .mk (.type "function") .none (.func (.mk (oS "_law_parts") (oS "_law_parts") (defArgs (top 75)) (.stmts (defBody (top 75))) (defScope (top 75)) 3 [] .none .none .none (.str (oS "law_evenrules_k55_pairs_at_which_rules_break") 1063) .none (.ref 678) .none 0)) #[]
noncomputable def kb680 (P : Params) : Obj := .mk (.type "tuple") .none (.seq #[]) #[]
noncomputable def kb683 (P : Params) : Obj := .mk (.type "code") .none (.fields #[.str (oS "_law_seen") 1181, .str (oS "_law_seen") 1182, .str (oS "/claim/cut.py") 1183, .int 428 0, .int 3 0, .int 0 0, .int 0 0, .int 3 0, .ref 680, .bool Bool.true, .int 181 0, .ref 681, .none, .none, .none, .ref 682, .int 1184 0, .int 428 0, .str (oS "/claim/cut.py") 1185]) #[]
noncomputable def kb684 (P : Params) : Obj := .mk (.type "function") .none (.func (.mk (oS "_law_seen") (oS "_law_seen") (defArgs (top 76)) (.stmts (defBody (top 76))) (defScope (top 76)) 3 [] .none .none .none (.str (oS "law_evenrules_k55_pairs_at_which_rules_break") 1063) .none (.ref 683) .none 0)) #[]
noncomputable def kb685 (P : Params) : Obj := .mk (.type "tuple") .none (.seq #[]) #[]
noncomputable def kb688 (P : Params) : Obj := .mk (.type "code") .none (.fields #[.str (oS "_law_order") 1187, .str (oS "_law_order") 1188, .str (oS "/claim/cut.py") 1189, .int 442 0, .int 1 0, .int 0 0, .int 0 0, .int 3 0, .ref 685, .bool Bool.true, .int 181 0, .ref 686, .none, .none, .none, .ref 687, .int 1190 0, .int 442 0, .str (oS "/claim/cut.py") 1191]) #[]
noncomputable def kb689 (P : Params) : Obj := .mk (.type "function") .none (.func (.mk (oS "_law_order") (oS "_law_order") (defArgs (top 77)) (.stmts (defBody (top 77))) (defScope (top 77)) 3 [] .none .none .none (.str (oS "law_evenrules_k55_pairs_at_which_rules_break") 1063) .none (.ref 688) .none 0)) #[]
noncomputable def kb690 (P : Params) : Obj := .mk (.type "tuple") .none (.seq #[]) #[]
noncomputable def kb692 (P : Params) : Obj := .mk (.type "tuple") .none (.seq #[.str (oS "_law_numbers_here") 1196, .str (oS "_law_inner") 1197]) #[]
noncomputable def kb693 (P : Params) : Obj := .mk (.type "tuple") .none (.seq #[]) #[]
noncomputable def kb695 (P : Params) : Obj := .mk (.type "code") .none (.fields #[.str (oS "_law_code") 1193, .str (oS "_law_code") 1194, .str (oS "/claim/cut.py") 1195, .int 454 0, .int 1 0, .int 0 0, .int 0 0, .int 3 0, .ref 690, .bool Bool.true, .int 181 0, .ref 691, .none, .ref 692, .ref 693, .ref 694, .int 1198 0, .int 454 0, .str (oS "/claim/cut.py") 1199]) #[]
noncomputable def kb696 (P : Params) : Obj := .mk (.type "function") .none (.func (.mk (oS "_law_code") (oS "_law_code") (defArgs (top 78)) (.stmts (defBody (top 78))) (defScope (top 78)) 3 [] .none .none .none (.str (oS "law_evenrules_k55_pairs_at_which_rules_break") 1063) .none (.ref 695) .none 0)) #[]
noncomputable def kb697 (P : Params) : Obj := .mk (.type "tuple") .none (.seq #[]) #[]
noncomputable def kb699 (P : Params) : Obj := .mk (.type "tuple") .none (.seq #[.str (oS "_law_some") 1204, .str (oS "_law_a") 1205, .str (oS "_law_b") 1206, .str (oS "_law_rows") 1207, .str (oS "_law_one") 1208, .str (oS "_law_two") 1209, .str (oS "_law_best") 1210, .str (oS "_law_once") 1211, .str (oS "_law_twice") 1212, .str (oS "_law_numbers_here") 1213, .str (oS "_law_fits") 1214]) #[]
noncomputable def kb700 (P : Params) : Obj := .mk (.type "tuple") .none (.seq #[]) #[]
noncomputable def kb702 (P : Params) : Obj := .mk (.type "code") .none (.fields #[.str (oS "_law_due") 1201, .str (oS "_law_due") 1202, .str (oS "/claim/cut.py") 1203, .int 457 0, .int 3 0, .int 0 0, .int 0 0, .int 3 0, .ref 697, .bool Bool.true, .int 181 0, .ref 698, .none, .ref 699, .ref 700, .ref 701, .int 1215 0, .int 457 0, .str (oS "/claim/cut.py") 1216]) #[]
noncomputable def kb703 (P : Params) : Obj := .mk (.type "function") .none (.func (.mk (oS "_law_due") (oS "_law_due") (defArgs (top 79)) (.stmts (defBody (top 79))) (defScope (top 79)) 3 [] .none .none .none (.str (oS "law_evenrules_k55_pairs_at_which_rules_break") 1063) .none (.ref 702) .none 0)) #[]
noncomputable def kb704 (P : Params) : Obj := .mk (.type "tuple") .none (.seq #[]) #[]
noncomputable def kb707 (P : Params) : Obj := .mk (.type "code") .none (.fields #[.str (oS "_law_heavies") 1218, .str (oS "_law_heavies") 1219, .str (oS "/claim/cut.py") 1220, .int 469 0, .int 3 0, .int 0 0, .int 0 0, .int 3 0, .ref 704, .bool Bool.true, .int 181 0, .ref 705, .none, .none, .none, .ref 706, .int 1221 0, .int 469 0, .str (oS "/claim/cut.py") 1222]) #[]
noncomputable def kb708 (P : Params) : Obj := .mk (.type "function") .none (.func (.mk (oS "_law_heavies") (oS "_law_heavies") (defArgs (top 80)) (.stmts (defBody (top 80))) (defScope (top 80)) 3 [] .none .none .none (.str (oS "law_evenrules_k55_pairs_at_which_rules_break") 1063) .none (.ref 707) .none 0)) #[]
noncomputable def kb709 (P : Params) : Obj := .mk (.type "tuple") .none (.seq #[]) #[]
noncomputable def kb711 (P : Params) : Obj := .mk (.type "tuple") .none (.seq #[.str (oS "_law_rule_so") 1227, .str (oS "_law_some") 1228, .str (oS "_law_deed") 1229, .str (oS "_law_a") 1230, .str (oS "_law_heavies_here") 1231, .str (oS "_law_b") 1232, .str (oS "_law_due_here") 1233, .str (oS "_law_told") 1234]) #[]
noncomputable def kb712 (P : Params) : Obj := .mk (.type "tuple") .none (.seq #[]) #[]
noncomputable def kb714 (P : Params) : Obj := .mk (.type "code") .none (.fields #[.str (oS "_law_right") 1224, .str (oS "_law_right") 1225, .str (oS "/claim/cut.py") 1226, .int 474 0, .int 4 0, .int 0 0, .int 0 0, .int 3 0, .ref 709, .bool Bool.true, .int 181 0, .ref 710, .none, .ref 711, .ref 712, .ref 713, .int 1235 0, .int 474 0, .str (oS "/claim/cut.py") 1236]) #[]
noncomputable def kb715 (P : Params) : Obj := .mk (.type "function") .none (.func (.mk (oS "_law_right") (oS "_law_right") (defArgs (top 81)) (.stmts (defBody (top 81))) (defScope (top 81)) 3 [] .none .none .none (.str (oS "law_evenrules_k55_pairs_at_which_rules_break") 1063) .none (.ref 714) .none 0)) #[]
noncomputable def kb716 (P : Params) : Obj := .mk (.type "tuple") .none (.seq #[]) #[]
noncomputable def kb718 (P : Params) : Obj := .mk (.type "tuple") .none (.seq #[.str (oS "_law_script") 1241, .str (oS "_law_pen_here") 1242, .str (oS "_law_lap") 1243, .str (oS "_law_some") 1244, .str (oS "_law_row") 1245, .str (oS "_law_deed") 1246, .str (oS "_law_a") 1247, .str (oS "_law_wild") 1248, .str (oS "_law_heard_here") 1249, .str (oS "_law_due_here") 1250, .str (oS "_law_far") 1251, .str (oS "_law_told") 1252, .str (oS "_law_numbers_here") 1253, .str (oS "_law_first") 1254]) #[]
noncomputable def kb719 (P : Params) : Obj := .mk (.type "tuple") .none (.seq #[.str (oS "_law_bad") 1255, .str (oS "_law_four") 1256, .str (oS "_law_odd") 1257]) #[]
noncomputable def kb721 (P : Params) : Obj := .mk (.type "code") .none (.fields #[.str (oS "law") 1238, .str (oS "law") 1239, .str (oS "/claim/cut.py") 1240, .int 486 0, .int 1 0, .int 0 0, .int 0 0, .int 3 0, .ref 716, .bool Bool.true, .int 181 0, .ref 717, .none, .ref 718, .ref 719, .ref 720, .int 1258 0, .int 486 0, .str (oS "/claim/cut.py") 1259]) #[]
noncomputable def kb722 (P : Params) : Obj := .mk (.type "function") .none (.func (.mk (oS "law") (oS "law") (defArgs (top 82)) (.stmts (defBody (top 82))) (defScope (top 82)) 3 [] .none .none .none (.str (oS "law_evenrules_k55_pairs_at_which_rules_break") 1063) .none (.ref 721) .none 0)) #[]
noncomputable def Kh : Params → Frag := fun P => (nat_lit 2, kb2 P) :: (nat_lit 3, kb3 P) :: (nat_lit 15, kb15 P) :: (nat_lit 17, kb17 P) :: (nat_lit 18, kb18 P) :: (nat_lit 20, kb20 P) :: (nat_lit 21, kb21 P) :: (nat_lit 22, kb22 P) :: (nat_lit 24, kb24 P) :: (nat_lit 25, kb25 P) :: (nat_lit 27, kb27 P) :: (nat_lit 28, kb28 P) :: (nat_lit 29, kb29 P) :: (nat_lit 32, kb32 P) :: (nat_lit 33, kb33 P) :: (nat_lit 34, kb34 P) :: (nat_lit 36, kb36 P) :: (nat_lit 37, kb37 P) :: (nat_lit 39, kb39 P) :: (nat_lit 40, kb40 P) :: (nat_lit 41, kb41 P) :: (nat_lit 44, kb44 P) :: (nat_lit 45, kb45 P) :: (nat_lit 46, kb46 P) :: (nat_lit 53, kb53 P) :: (nat_lit 54, kb54 P) :: (nat_lit 55, kb55 P) :: (nat_lit 56, kb56 P) :: (nat_lit 59, kb59 P) :: (nat_lit 66, kb66 P) :: (nat_lit 68, kb68 P) :: (nat_lit 69, kb69 P) :: (nat_lit 71, kb71 P) :: (nat_lit 72, kb72 P) :: (nat_lit 73, kb73 P) :: (nat_lit 74, kb74 P) :: (nat_lit 75, kb75 P) :: (nat_lit 78, kb78 P) :: (nat_lit 85, kb85 P) :: (nat_lit 87, kb87 P) :: (nat_lit 88, kb88 P) :: (nat_lit 90, kb90 P) :: (nat_lit 91, kb91 P) :: (nat_lit 92, kb92 P) :: (nat_lit 93, kb93 P) :: (nat_lit 94, kb94 P) :: (nat_lit 97, kb97 P) :: (nat_lit 104, kb104 P) :: (nat_lit 106, kb106 P) :: (nat_lit 107, kb107 P) :: (nat_lit 109, kb109 P) :: (nat_lit 110, kb110 P) :: (nat_lit 111, kb111 P) :: (nat_lit 112, kb112 P) :: (nat_lit 113, kb113 P) :: (nat_lit 116, kb116 P) :: (nat_lit 123, kb123 P) :: (nat_lit 125, kb125 P) :: (nat_lit 126, kb126 P) :: (nat_lit 128, kb128 P) :: (nat_lit 129, kb129 P) :: (nat_lit 130, kb130 P) :: (nat_lit 131, kb131 P) :: (nat_lit 132, kb132 P) :: (nat_lit 135, kb135 P) :: (nat_lit 142, kb142 P) :: (nat_lit 144, kb144 P) :: (nat_lit 145, kb145 P) :: (nat_lit 147, kb147 P) :: (nat_lit 148, kb148 P) :: (nat_lit 149, kb149 P) :: (nat_lit 150, kb150 P) :: (nat_lit 151, kb151 P) :: (nat_lit 154, kb154 P) :: (nat_lit 156, kb156 P) :: (nat_lit 157, kb157 P) :: (nat_lit 159, kb159 P) :: (nat_lit 160, kb160 P) :: (nat_lit 161, kb161 P) :: (nat_lit 163, kb163 P) :: (nat_lit 164, kb164 P) :: (nat_lit 166, kb166 P) :: (nat_lit 167, kb167 P) :: (nat_lit 168, kb168 P) :: (nat_lit 170, kb170 P) :: (nat_lit 171, kb171 P) :: (nat_lit 173, kb173 P) :: (nat_lit 174, kb174 P) :: (nat_lit 175, kb175 P) :: (nat_lit 177, kb177 P) :: (nat_lit 178, kb178 P) :: (nat_lit 180, kb180 P) :: (nat_lit 181, kb181 P) :: (nat_lit 182, kb182 P) :: (nat_lit 184, kb184 P) :: (nat_lit 185, kb185 P) :: (nat_lit 187, kb187 P) :: (nat_lit 188, kb188 P) :: (nat_lit 189, kb189 P) :: (nat_lit 192, kb192 P) :: (nat_lit 193, kb193 P) :: (nat_lit 194, kb194 P) :: (nat_lit 195, kb195 P) :: (nat_lit 196, kb196 P) :: (nat_lit 204, kb204 P) :: (nat_lit 205, kb205 P) :: (nat_lit 206, kb206 P) :: (nat_lit 207, kb207 P) :: (nat_lit 208, kb208 P) :: (nat_lit 211, kb211 P) :: (nat_lit 218, kb218 P) :: (nat_lit 220, kb220 P) :: (nat_lit 221, kb221 P) :: (nat_lit 223, kb223 P) :: (nat_lit 224, kb224 P) :: (nat_lit 225, kb225 P) :: (nat_lit 227, kb227 P) :: (nat_lit 228, kb228 P) :: (nat_lit 230, kb230 P) :: (nat_lit 231, kb231 P) :: (nat_lit 232, kb232 P) :: (nat_lit 234, kb234 P) :: (nat_lit 235, kb235 P) :: (nat_lit 237, kb237 P) :: (nat_lit 238, kb238 P) :: (nat_lit 239, kb239 P) :: (nat_lit 242, kb242 P) :: (nat_lit 243, kb243 P) :: (nat_lit 244, kb244 P) :: (nat_lit 245, kb245 P) :: (nat_lit 246, kb246 P) :: (nat_lit 247, kb247 P) :: (nat_lit 248, kb248 P) :: (nat_lit 249, kb249 P) :: (nat_lit 252, kb252 P) :: (nat_lit 259, kb259 P) :: (nat_lit 260, kb260 P) :: (nat_lit 261, kb261 P) :: (nat_lit 263, kb263 P) :: (nat_lit 264, kb264 P) :: (nat_lit 266, kb266 P) :: (nat_lit 267, kb267 P) :: (nat_lit 268, kb268 P) :: (nat_lit 270, kb270 P) :: (nat_lit 271, kb271 P) :: (nat_lit 273, kb273 P) :: (nat_lit 274, kb274 P) :: (nat_lit 275, kb275 P) :: (nat_lit 277, kb277 P) :: (nat_lit 278, kb278 P) :: (nat_lit 280, kb280 P) :: (nat_lit 281, kb281 P) :: (nat_lit 282, kb282 P) :: (nat_lit 284, kb284 P) :: (nat_lit 285, kb285 P) :: (nat_lit 287, kb287 P) :: (nat_lit 288, kb288 P) :: (nat_lit 289, kb289 P) :: (nat_lit 290, kb290 P) :: (nat_lit 291, kb291 P) :: (nat_lit 294, kb294 P) :: (nat_lit 301, kb301 P) :: (nat_lit 302, kb302 P) :: (nat_lit 304, kb304 P) :: (nat_lit 305, kb305 P) :: (nat_lit 307, kb307 P) :: (nat_lit 308, kb308 P) :: (nat_lit 309, kb309 P) :: (nat_lit 311, kb311 P) :: (nat_lit 312, kb312 P) :: (nat_lit 314, kb314 P) :: (nat_lit 315, kb315 P) :: (nat_lit 316, kb316 P) :: (nat_lit 318, kb318 P) :: (nat_lit 319, kb319 P) :: (nat_lit 321, kb321 P) :: (nat_lit 322, kb322 P) :: (nat_lit 323, kb323 P) :: (nat_lit 325, kb325 P) :: (nat_lit 326, kb326 P) :: (nat_lit 328, kb328 P) :: (nat_lit 329, kb329 P) :: (nat_lit 330, kb330 P) :: (nat_lit 332, kb332 P) :: (nat_lit 333, kb333 P) :: (nat_lit 335, kb335 P) :: (nat_lit 336, kb336 P) :: (nat_lit 337, kb337 P) :: (nat_lit 338, kb338 P) :: (nat_lit 339, kb339 P) :: (nat_lit 342, kb342 P) :: (nat_lit 344, kb344 P) :: (nat_lit 345, kb345 P) :: (nat_lit 347, kb347 P) :: (nat_lit 348, kb348 P) :: (nat_lit 349, kb349 P) :: (nat_lit 351, kb351 P) :: (nat_lit 352, kb352 P) :: (nat_lit 354, kb354 P) :: (nat_lit 355, kb355 P) :: (nat_lit 356, kb356 P) :: (nat_lit 358, kb358 P) :: (nat_lit 359, kb359 P) :: (nat_lit 361, kb361 P) :: (nat_lit 362, kb362 P) :: (nat_lit 363, kb363 P) :: (nat_lit 365, kb365 P) :: (nat_lit 366, kb366 P) :: (nat_lit 368, kb368 P) :: (nat_lit 369, kb369 P) :: (nat_lit 370, kb370 P) :: (nat_lit 372, kb372 P) :: (nat_lit 373, kb373 P) :: (nat_lit 375, kb375 P) :: (nat_lit 376, kb376 P) :: (nat_lit 377, kb377 P) :: (nat_lit 379, kb379 P) :: (nat_lit 380, kb380 P) :: (nat_lit 382, kb382 P) :: (nat_lit 383, kb383 P) :: (nat_lit 384, kb384 P) :: (nat_lit 387, kb387 P) :: (nat_lit 388, kb388 P) :: (nat_lit 389, kb389 P) :: (nat_lit 391, kb391 P) :: (nat_lit 392, kb392 P) :: (nat_lit 394, kb394 P) :: (nat_lit 395, kb395 P) :: (nat_lit 396, kb396 P) :: (nat_lit 398, kb398 P) :: (nat_lit 399, kb399 P) :: (nat_lit 401, kb401 P) :: (nat_lit 402, kb402 P) :: (nat_lit 403, kb403 P) :: (nat_lit 405, kb405 P) :: (nat_lit 406, kb406 P) :: (nat_lit 408, kb408 P) :: (nat_lit 409, kb409 P) :: (nat_lit 410, kb410 P) :: (nat_lit 412, kb412 P) :: (nat_lit 413, kb413 P) :: (nat_lit 415, kb415 P) :: (nat_lit 416, kb416 P) :: (nat_lit 417, kb417 P) :: (nat_lit 419, kb419 P) :: (nat_lit 420, kb420 P) :: (nat_lit 422, kb422 P) :: (nat_lit 423, kb423 P) :: (nat_lit 424, kb424 P) :: (nat_lit 426, kb426 P) :: (nat_lit 427, kb427 P) :: (nat_lit 429, kb429 P) :: (nat_lit 430, kb430 P) :: (nat_lit 431, kb431 P) :: (nat_lit 433, kb433 P) :: (nat_lit 434, kb434 P) :: (nat_lit 436, kb436 P) :: (nat_lit 437, kb437 P) :: (nat_lit 438, kb438 P) :: (nat_lit 440, kb440 P) :: (nat_lit 441, kb441 P) :: (nat_lit 443, kb443 P) :: (nat_lit 444, kb444 P) :: (nat_lit 445, kb445 P) :: (nat_lit 447, kb447 P) :: (nat_lit 448, kb448 P) :: (nat_lit 450, kb450 P) :: (nat_lit 451, kb451 P) :: (nat_lit 452, kb452 P) :: (nat_lit 453, kb453 P) :: (nat_lit 454, kb454 P) :: (nat_lit 455, kb455 P) :: (nat_lit 456, kb456 P) :: (nat_lit 457, kb457 P) :: (nat_lit 458, kb458 P) :: (nat_lit 459, kb459 P) :: (nat_lit 460, kb460 P) :: (nat_lit 461, kb461 P) :: (nat_lit 462, kb462 P) :: (nat_lit 463, kb463 P) :: (nat_lit 464, kb464 P) :: (nat_lit 465, kb465 P) :: (nat_lit 466, kb466 P) :: (nat_lit 467, kb467 P) :: (nat_lit 469, kb469 P) :: (nat_lit 470, kb470 P) :: (nat_lit 472, kb472 P) :: (nat_lit 473, kb473 P) :: (nat_lit 481, kb481 P) :: (nat_lit 483, kb483 P) :: (nat_lit 484, kb484 P) :: (nat_lit 486, kb486 P) :: (nat_lit 487, kb487 P) :: (nat_lit 488, kb488 P) :: (nat_lit 490, kb490 P) :: (nat_lit 491, kb491 P) :: (nat_lit 493, kb493 P) :: (nat_lit 494, kb494 P) :: (nat_lit 495, kb495 P) :: (nat_lit 497, kb497 P) :: (nat_lit 498, kb498 P) :: (nat_lit 500, kb500 P) :: (nat_lit 501, kb501 P) :: (nat_lit 502, kb502 P) :: (nat_lit 504, kb504 P) :: (nat_lit 505, kb505 P) :: (nat_lit 507, kb507 P) :: (nat_lit 508, kb508 P) :: (nat_lit 509, kb509 P) :: (nat_lit 511, kb511 P) :: (nat_lit 512, kb512 P) :: (nat_lit 514, kb514 P) :: (nat_lit 515, kb515 P) :: (nat_lit 516, kb516 P) :: (nat_lit 518, kb518 P) :: (nat_lit 519, kb519 P) :: (nat_lit 521, kb521 P) :: (nat_lit 522, kb522 P) :: (nat_lit 523, kb523 P) :: (nat_lit 525, kb525 P) :: (nat_lit 526, kb526 P) :: (nat_lit 528, kb528 P) :: (nat_lit 529, kb529 P) :: (nat_lit 530, kb530 P) :: (nat_lit 531, kb531 P) :: (nat_lit 532, kb532 P) :: (nat_lit 533, kb533 P) :: (nat_lit 534, kb534 P) :: (nat_lit 537, kb537 P) :: (nat_lit 539, kb539 P) :: (nat_lit 540, kb540 P) :: (nat_lit 542, kb542 P) :: (nat_lit 543, kb543 P) :: (nat_lit 544, kb544 P) :: (nat_lit 546, kb546 P) :: (nat_lit 547, kb547 P) :: (nat_lit 549, kb549 P) :: (nat_lit 550, kb550 P) :: (nat_lit 558, kb558 P) :: (nat_lit 559, kb559 P) :: (nat_lit 560, kb560 P) :: (nat_lit 561, kb561 P) :: (nat_lit 562, kb562 P) :: (nat_lit 565, kb565 P) :: (nat_lit 572, kb572 P) :: (nat_lit 574, kb574 P) :: (nat_lit 575, kb575 P) :: (nat_lit 577, kb577 P) :: (nat_lit 578, kb578 P) :: (nat_lit 579, kb579 P) :: (nat_lit 581, kb581 P) :: (nat_lit 582, kb582 P) :: (nat_lit 584, kb584 P) :: (nat_lit 585, kb585 P) :: (nat_lit 586, kb586 P) :: (nat_lit 588, kb588 P) :: (nat_lit 589, kb589 P) :: (nat_lit 591, kb591 P) :: (nat_lit 592, kb592 P) :: (nat_lit 593, kb593 P) :: (nat_lit 594, kb594 P) :: (nat_lit 595, kb595 P) :: (nat_lit 598, kb598 P) :: (nat_lit 600, kb600 P) :: (nat_lit 601, kb601 P) :: (nat_lit 603, kb603 P) :: (nat_lit 604, kb604 P) :: (nat_lit 605, kb605 P) :: (nat_lit 607, kb607 P) :: (nat_lit 608, kb608 P) :: (nat_lit 610, kb610 P) :: (nat_lit 611, kb611 P) :: (nat_lit 612, kb612 P) :: (nat_lit 614, kb614 P) :: (nat_lit 615, kb615 P) :: (nat_lit 617, kb617 P) :: (nat_lit 618, kb618 P) :: (nat_lit 619, kb619 P) :: (nat_lit 621, kb621 P) :: (nat_lit 622, kb622 P) :: (nat_lit 624, kb624 P) :: (nat_lit 625, kb625 P) :: (nat_lit 626, kb626 P) :: (nat_lit 628, kb628 P) :: (nat_lit 629, kb629 P) :: (nat_lit 631, kb631 P) :: (nat_lit 632, kb632 P) :: (nat_lit 633, kb633 P) :: (nat_lit 635, kb635 P) :: (nat_lit 636, kb636 P) :: (nat_lit 638, kb638 P) :: (nat_lit 639, kb639 P) :: (nat_lit 640, kb640 P) :: (nat_lit 642, kb642 P) :: (nat_lit 643, kb643 P) :: (nat_lit 645, kb645 P) :: (nat_lit 646, kb646 P) :: (nat_lit 647, kb647 P) :: (nat_lit 649, kb649 P) :: (nat_lit 650, kb650 P) :: (nat_lit 652, kb652 P) :: (nat_lit 653, kb653 P) :: (nat_lit 654, kb654 P) :: (nat_lit 656, kb656 P) :: (nat_lit 657, kb657 P) :: (nat_lit 659, kb659 P) :: (nat_lit 660, kb660 P) :: (nat_lit 661, kb661 P) :: (nat_lit 663, kb663 P) :: (nat_lit 664, kb664 P) :: (nat_lit 666, kb666 P) :: (nat_lit 667, kb667 P) :: (nat_lit 668, kb668 P) :: (nat_lit 670, kb670 P) :: (nat_lit 671, kb671 P) :: (nat_lit 673, kb673 P) :: (nat_lit 674, kb674 P) :: (nat_lit 675, kb675 P) :: (nat_lit 678, kb678 P) :: (nat_lit 679, kb679 P) :: (nat_lit 680, kb680 P) :: (nat_lit 683, kb683 P) :: (nat_lit 684, kb684 P) :: (nat_lit 685, kb685 P) :: (nat_lit 688, kb688 P) :: (nat_lit 689, kb689 P) :: (nat_lit 690, kb690 P) :: (nat_lit 692, kb692 P) :: (nat_lit 693, kb693 P) :: (nat_lit 695, kb695 P) :: (nat_lit 696, kb696 P) :: (nat_lit 697, kb697 P) :: (nat_lit 699, kb699 P) :: (nat_lit 700, kb700 P) :: (nat_lit 702, kb702 P) :: (nat_lit 703, kb703 P) :: (nat_lit 704, kb704 P) :: (nat_lit 707, kb707 P) :: (nat_lit 708, kb708 P) :: (nat_lit 709, kb709 P) :: (nat_lit 711, kb711 P) :: (nat_lit 712, kb712 P) :: (nat_lit 714, kb714 P) :: (nat_lit 715, kb715 P) :: (nat_lit 716, kb716 P) :: (nat_lit 718, kb718 P) :: (nat_lit 719, kb719 P) :: (nat_lit 721, kb721 P) :: (nat_lit 722, kb722 P) :: []
def asH : List Addr := [2, 3, 15, 17, 18, 20, 21, 22, 24, 25, 27, 28, 29, 32, 33, 34, 36, 37, 39, 40, 41, 44, 45, 46, 53, 54, 55, 56, 59, 66, 68, 69, 71, 72, 73, 74, 75, 78, 85, 87, 88, 90, 91, 92, 93, 94, 97, 104, 106, 107, 109, 110, 111, 112, 113, 116, 123, 125, 126, 128, 129, 130, 131, 132, 135, 142, 144, 145, 147, 148, 149, 150, 151, 154, 156, 157, 159, 160, 161, 163, 164, 166, 167, 168, 170, 171, 173, 174, 175, 177, 178, 180, 181, 182, 184, 185, 187, 188, 189, 192, 193, 194, 195, 196, 204, 205, 206, 207, 208, 211, 218, 220, 221, 223, 224, 225, 227, 228, 230, 231, 232, 234, 235, 237, 238, 239, 242, 243, 244, 245, 246, 247, 248, 249, 252, 259, 260, 261, 263, 264, 266, 267, 268, 270, 271, 273, 274, 275, 277, 278, 280, 281, 282, 284, 285, 287, 288, 289, 290, 291, 294, 301, 302, 304, 305, 307, 308, 309, 311, 312, 314, 315, 316, 318, 319, 321, 322, 323, 325, 326, 328, 329, 330, 332, 333, 335, 336, 337, 338, 339, 342, 344, 345, 347, 348, 349, 351, 352, 354, 355, 356, 358, 359, 361, 362, 363, 365, 366, 368, 369, 370, 372, 373, 375, 376, 377, 379, 380, 382, 383, 384, 387, 388, 389, 391, 392, 394, 395, 396, 398, 399, 401, 402, 403, 405, 406, 408, 409, 410, 412, 413, 415, 416, 417, 419, 420, 422, 423, 424, 426, 427, 429, 430, 431, 433, 434, 436, 437, 438, 440, 441, 443, 444, 445, 447, 448, 450, 451, 452, 453, 454, 455, 456, 457, 458, 459, 460, 461, 462, 463, 464, 465, 466, 467, 469, 470, 472, 473, 481, 483, 484, 486, 487, 488, 490, 491, 493, 494, 495, 497, 498, 500, 501, 502, 504, 505, 507, 508, 509, 511, 512, 514, 515, 516, 518, 519, 521, 522, 523, 525, 526, 528, 529, 530, 531, 532, 533, 534, 537, 539, 540, 542, 543, 544, 546, 547, 549, 550, 558, 559, 560, 561, 562, 565, 572, 574, 575, 577, 578, 579, 581, 582, 584, 585, 586, 588, 589, 591, 592, 593, 594, 595, 598, 600, 601, 603, 604, 605, 607, 608, 610, 611, 612, 614, 615, 617, 618, 619, 621, 622, 624, 625, 626, 628, 629, 631, 632, 633, 635, 636, 638, 639, 640, 642, 643, 645, 646, 647, 649, 650, 652, 653, 654, 656, 657, 659, 660, 661, 663, 664, 666, 667, 668, 670, 671, 673, 674, 675, 678, 679, 680, 683, 684, 685, 688, 689, 690, 692, 693, 695, 696, 697, 699, 700, 702, 703, 704, 707, 708, 709, 711, 712, 714, 715, 716, 718, 719, 721, 722]
abbrev RH : OpenRow := OpenLaw.row PySem.Challenge.rw_evenrules_k55_pairs_at_which_rules_break
noncomputable def qH : Program := view RH.prog [1, 2, 3, 4, 5, 7, 8, 9, 10, 11, 12, 14, 15, 17, 18, 19, 20, 21, 22, 24, 25, 26, 27, 28, 29, 30, 31, 32, 33, 34, 35, 36, 37, 38, 39, 40, 41, 42, 43, 44, 45, 46, 47, 49, 50, 51, 52, 53, 55, 56, 57, 59, 61, 62, 63, 65, 66, 67, 68, 69, 70, 71, 72, 73, 74, 75, 76, 77, 78, 79, 80, 81, 82]
def looseH : List Str := [oS "PIECE", oS "MOST_WEIGHT", oS "WORDS", oS "WeightRule", oS "TurnRule", oS "TryRule", oS "MOST_ASKED"]
theorem ekH (P : Params) : asH = (Kh P).map (·.1) := by kernel_rfl
noncomputable abbrev hkH : Hook := kHook Kh asH ekH
noncomputable def obH (s : SharedT) : List (Option Obj) := asH.map (HandSHeadRun.getT s)
theorem obH_eq (s : SharedT) : obH s = hkH.obs s.abs := List.map_congr_left fun a _ => HandSHeadRun.getT_eq s a
abbrev RunH (w : World) : Prop := HandSHeadRun.RunEq RH qH hkH obH 6556 looseH w
theorem join7 {S L O A1 A2 A3 A4 A5 A6 A7 A8 A9 : Type} (x : Option S) (f : S → L) (o : S → O) (g : S → A1 × A2 × A3 × A4 × A5 × A6 × A7 × A8 × A9) (l0 : L) (o0 : O) (y : A1 × A2 × A3 × A4 × A5 × A6 × A7 × A8 × A9)
    (h0 : x.map (fun s => (f s, o s, (g s).2.2.2.2.1, (g s).2.2.2.2.2.1, (g s).2.2.1)) = some (l0, o0, y.2.2.2.2.1, y.2.2.2.2.2.1, y.2.2.1))
    (h1 : x.map (fun s => ((g s).1, (g s).2.1)) = some (y.1, y.2.1))
    (h2 : x.map (fun s => ((g s).2.2.2.1)) = some (y.2.2.2.1))
    (h3 : x.map (fun s => ((g s).2.2.2.2.2.2.1, (g s).2.2.2.2.2.2.2.1, (g s).2.2.2.2.2.2.2.2)) = some (y.2.2.2.2.2.2.1, y.2.2.2.2.2.2.2.1, y.2.2.2.2.2.2.2.2))
    : x.map (fun s => (f s, g s, o s)) = some (l0, y, o0) := by
  cases x with
  | none => cases h0
  | some s =>
    simp only [Option.map_some, Option.some.injEq, Prod.mk.injEq] at h0 h1 h2 h3 ⊢
    generalize g s = z at h0 h1 h2 h3 ⊢
    obtain ⟨z1, z2, z3, z4, z5, z6, z7, z8, z9⟩ := z
    obtain ⟨y1, y2, y3, y4, y5, y6, y7, y8, y9⟩ := y
    simp_all
noncomputable abbrev endH (w : World) (os : OsState) : Option SharedT := HandSHeadRun.endF (HandSHeadRun.stepQ (HandSHeadRun.denQ HandSHeadRun.tabQ) RH.prog w) 6556 RH.prog w os
noncomputable abbrev snH (s : SharedT) := HandSHeadRun.seenQ qH looseH (importedModules RH.prog.main.body) (fun s => W.xlAt qH [] s && W.recOk RH.records s) s.abs
noncomputable abbrev gdH := W.openGood qH looseH
def lwH : List Str := [oS "PIECE", oS "MOST_WEIGHT", oS "WORDS", oS "WeightRule", oS "TurnRule", oS "TryRule", oS "MOST_ASKED", oS "DEEDS", oS "ONCE", oS "STUCK", oS "TWICE"]
theorem lfH : W.Fast.tw821141287760084731 qH looseH = lwH := by kernel_rfl
theorem lgH : W.looseW qH looseH = lwH := by kernel_rfl
theorem runF0 (w : World) (os : OsState) : (endH (w.withFollow "special-get-raises" false) os).map (fun s => (HandSHeadRun.looksF RH.prog (W.boot_heap (w.withFollow "special-get-raises" false).params) s.abs, obH s, (snH s).2.2.2.2.1, (snH s).2.2.2.2.2.1, (snH s).2.2.1)) = some (true, hkH.val (w.withFollow "special-get-raises" false), gdH.2.2.2.2.1, gdH.2.2.2.2.2.1, gdH.2.2.1) := by
  dsimp only [snH, gdH, HandSHeadRun.seenQ, W.Fast.tw4187177175401517315, W.openGood]
  try simp only [lfH, lgH]
  kernel_rfl
theorem runF1 (w : World) (os : OsState) : (endH (w.withFollow "special-get-raises" false) os).map (fun s => ((snH s).1, (snH s).2.1)) = some (gdH.1, gdH.2.1) := by
  dsimp only [snH, gdH, HandSHeadRun.seenQ, W.Fast.tw4187177175401517315, W.openGood]
  try simp only [lfH, lgH]
  kernel_rfl
theorem runF2 (w : World) (os : OsState) : (endH (w.withFollow "special-get-raises" false) os).map (fun s => ((snH s).2.2.2.1)) = some (gdH.2.2.2.1) := by
  dsimp only [snH, gdH, HandSHeadRun.seenQ, W.Fast.tw4187177175401517315, W.openGood]
  try simp only [lfH, lgH]
  kernel_rfl
theorem runF3 (w : World) (os : OsState) : (endH (w.withFollow "special-get-raises" false) os).map (fun s => ((snH s).2.2.2.2.2.2.1, (snH s).2.2.2.2.2.2.2.1, (snH s).2.2.2.2.2.2.2.2)) = some (gdH.2.2.2.2.2.2.1, gdH.2.2.2.2.2.2.2.1, gdH.2.2.2.2.2.2.2.2) := by
  dsimp only [snH, gdH, HandSHeadRun.seenQ, W.Fast.tw4187177175401517315, W.openGood]
  try simp only [lfH, lgH]
  kernel_rfl
theorem runF (w : World) : RunH (w.withFollow "special-get-raises" false) := by
  intro os
  exact join7 (endH (w.withFollow "special-get-raises" false) os) (fun s => HandSHeadRun.looksF RH.prog (W.boot_heap (w.withFollow "special-get-raises" false).params) s.abs) obH snH true (hkH.val (w.withFollow "special-get-raises" false)) gdH (runF0 w os) (runF1 w os) (runF2 w os) (runF3 w os)
theorem runT0 (w : World) (os : OsState) : (endH (w.withFollow "special-get-raises" true) os).map (fun s => (HandSHeadRun.looksF RH.prog (W.boot_heap (w.withFollow "special-get-raises" true).params) s.abs, obH s, (snH s).2.2.2.2.1, (snH s).2.2.2.2.2.1, (snH s).2.2.1)) = some (true, hkH.val (w.withFollow "special-get-raises" true), gdH.2.2.2.2.1, gdH.2.2.2.2.2.1, gdH.2.2.1) := by
  dsimp only [snH, gdH, HandSHeadRun.seenQ, W.Fast.tw4187177175401517315, W.openGood]
  try simp only [lfH, lgH]
  kernel_rfl
theorem runT1 (w : World) (os : OsState) : (endH (w.withFollow "special-get-raises" true) os).map (fun s => ((snH s).1, (snH s).2.1)) = some (gdH.1, gdH.2.1) := by
  dsimp only [snH, gdH, HandSHeadRun.seenQ, W.Fast.tw4187177175401517315, W.openGood]
  try simp only [lfH, lgH]
  kernel_rfl
theorem runT2 (w : World) (os : OsState) : (endH (w.withFollow "special-get-raises" true) os).map (fun s => ((snH s).2.2.2.1)) = some (gdH.2.2.2.1) := by
  dsimp only [snH, gdH, HandSHeadRun.seenQ, W.Fast.tw4187177175401517315, W.openGood]
  try simp only [lfH, lgH]
  kernel_rfl
theorem runT3 (w : World) (os : OsState) : (endH (w.withFollow "special-get-raises" true) os).map (fun s => ((snH s).2.2.2.2.2.2.1, (snH s).2.2.2.2.2.2.2.1, (snH s).2.2.2.2.2.2.2.2)) = some (gdH.2.2.2.2.2.2.1, gdH.2.2.2.2.2.2.2.1, gdH.2.2.2.2.2.2.2.2) := by
  dsimp only [snH, gdH, HandSHeadRun.seenQ, W.Fast.tw4187177175401517315, W.openGood]
  try simp only [lfH, lgH]
  kernel_rfl
theorem runT (w : World) : RunH (w.withFollow "special-get-raises" true) := by
  intro os
  exact join7 (endH (w.withFollow "special-get-raises" true) os) (fun s => HandSHeadRun.looksF RH.prog (W.boot_heap (w.withFollow "special-get-raises" true).params) s.abs) obH snH true (hkH.val (w.withFollow "special-get-raises" true)) gdH (runT0 w os) (runT1 w os) (runT2 w os) (runT3 w os)
theorem runH (w : World) : RunH w := byRow2 "special-get-raises" (P := RunH) runF runT w
theorem hd (walk : WalkO qH looseH (XL qH []) (kHook Kh asH ekH).says RH.toRowW (HandSHeadRun.topDef RH.prog 82) [] fun f vs => PySem.call f vs) : PySem.Challenge.rw_evenrules_k55_pairs_at_which_rules_break.Holds := by
  w_on
  o_law
  refine HandSHeadRun.head_any (r := RH) (q := qH) (H := hkH) (ob := obH) (M := 6556) (loose := looseH) (kwd := []) obH_eq (by kernel_rfl) (fun s => by kernel_rfl) runH (by kernel_rfl) (by kernel_rfl) (by kernel_rfl) (by rfl) (by first | assumption | decide +kernel) (by decide +kernel) ⟨rfl, rfl, rfl, rfl, rfl, by decide +kernel⟩ ?hw walk
  w_witness2
end Ev
end
namespace Ev
open PySem L2
/-- all that was tracked is as it was, but at p -/
def But (p : Addr) (H H' : Hp) : Prop := ∀ b o, b ≠ p → H b = some o → H' b = some o
theorem But.refl (p : Addr) (H : Hp) : But p H H := fun _ _ _ e => e
theorem But.trans {p : Addr} {H H1 H2 : Hp} (a : But p H H1) (b : But p H1 H2) : But p H H2 := fun c o n e => b c o n (a c o n e)
theorem Same.but {p : Addr} {H H' : Hp} (a : Same H H') : But p H H' := fun c o _ e => a c o e
theorem But.upd_new {p q : Addr} {H : Hp} {o : HO} (h : H q = none) : But p H (upd H q o) := fun b u _ e => by
  rw [upd_ne (ne_of_none e h)]; exact e
theorem But.upd_at {p : Addr} {H : Hp} {o : HO} : But p H (upd H p o) := fun b u n e => by
  rw [upd_ne n]; exact e
/-- the pen: a list of a list of ints, how often it was asked, and a rest -/
def Pen (L : Addr) (H : Hp) (p : Addr) (B : Int) : Prop := ∃ (ns : List Int) (turn carry : Int),
  H p = some (.lst [.ref L, .int turn, .int carry]) ∧ H L = some (.lst (ns.map V.int)) ∧ L ≠ p ∧ ns.length ≤ 63 ∧ 0 ≤ turn ∧ turn ≤ B ∧ 0 ≤ carry
theorem Pen.keep {L : Addr} {H H' : Hp} {p : Addr} {B : Int} (h : Pen L H p B) (k : Same H H') : Pen L H' p B := by
  obtain ⟨ns, t, c, h1, h2, h3, h4, h5, h6, h7⟩ := h
  exact ⟨ns, t, c, k _ _ h1, k _ _ h2, h3, h4, h5, h6, h7⟩
theorem Pen.mono {L : Addr} {H : Hp} {p : Addr} {B B' : Int} (h : Pen L H p B) (k : B ≤ B') : Pen L H p B' := by
  obtain ⟨ns, t, c, h1, h2, h3, h4, h5, h6, h7⟩ := h
  exact ⟨ns, t, c, h1, h2, h3, h4, h5, by omega, h7⟩
def spDraw : Sp := fun vs H Q _ => ∃ (p L : Addr) (m B : Int), vs = [.ref p, .int m] ∧ 1 ≤ m ∧ m ≤ 100000000000000000000000000000 ∧ B ≤ 1000000 ∧ Pen L H p B ∧
  ∀ (d : Int) (H' : Hp), But p H H' → Pen L H' p (B + 1) → 0 ≤ d → d < m → Q (.int d) H'
theorem dpInts {K : PySem.W.Frag} {H : Hp} : ∀ ns : List Int, DpAll K H (ns.map V.int) (ns.map PyData.int)
  | [] => .nil
  | n :: r => .cons (.int n) (dpInts r)
theorem sh_ints (ns : List Int) : SeqAt.shaped (.list (ns.map PyData.int)) = true := by
  have h1 : ∀ ns : List Int, PyData.canLayAll0 (ns.map PyData.int) = true := by
    intro ns
    induction ns with
    | nil => rfl
    | cons n r ih => simp [PyData.canLayAll0, PyData.canLay0, ih]
  have h2 : ∀ ns : List Int, PyData.depthAll (ns.map PyData.int) ≤ 1 := by
    intro ns
    induction ns with
    | nil => simp [PyData.depthAll]
    | cons n r ih => simp [PyData.depthAll, PyData.depth]; omega
  unfold SeqAt.shaped
  rw [Bool.and_eq_true]
  refine ⟨by simp [PyData.canLay0, h1], decide_eq_true ?_⟩
  have := h2 ns
  simp [PyData.depth]; omega
theorem eqv_nil (ns : List Int) : PyData.eqv (.list (ns.map PyData.int)) (.list []) = ns.isEmpty := by
  cases ns <;> simp [PyData.eqv, PyData.eqvAll]
section
variable {P : Program} {w : World} {K : PySem.W.Frag} {mg : Str → Option Value} {base : Heap}
/-- built-ins that the program does not cover -/
structure Blt (mg : Str → Option Value) : Prop where
  int : mg "int" = none
  len : mg "len" = none
  abs : mg "abs" = none
  list : mg "list" = none
  min : mg "min" = none
  max : mg "max" = none
  isi : mg "isinstance" = none
  bool : mg "bool" = none
  tuple : mg "tuple" = none
  all : mg "all" = none
  range : mg "range" = none
  repr : mg "repr" = none
theorem scD : FnScope ["_law_pen_here", "_law_many", "_law_digit", "_law_at", "_law_cell", "_law_great", "_law_mixed"] ["_law_pen_here", "_law_many"] (defScope sDraw) := ⟨rfl, rfl, rfl, by decide +kernel, rfl, by decide +kernel, by decide +kernel⟩
theorem fmod_lo (a : Int) {m : Int} (h : 1 ≤ m) : 0 ≤ a.fmod m := by rw [Int.fmod_eq_emod_of_nonneg a (by omega)]; exact Int.emod_nonneg a (by omega)
theorem fmod_hi (a : Int) {m : Int} (h : 1 ≤ m) : a.fmod m < m := by rw [Int.fmod_eq_emod_of_nonneg a (by omega)]; exact Int.emod_lt_of_pos a (by omega)
theorem fdiv_lo {a m : Int} (h : 1 ≤ m) (h0 : 0 ≤ a) : 0 ≤ a.fdiv m := by rw [Int.fdiv_eq_ediv_of_nonneg a (by omega)]; exact Int.ediv_nonneg h0 (by omega)
theorem cell_at {ns : List Int} (h : ns ≠ []) (t : Int) : ∃ c : Int, atI (ns.map V.int) (t.fmod (((ns.map V.int).length : Nat) : Int)) = some (V.int c) := by
  rw [List.length_map]
  have l : 0 < ns.length := List.length_pos_iff.mpr h
  have h1 : 0 ≤ t.fmod (ns.length : Int) := fmod_lo t (by omega)
  have h2 : t.fmod (ns.length : Int) < ns.length := fmod_hi t (by omega)
  generalize t.fmod (ns.length : Int) = i at h1 h2
  obtain ⟨j, rfl⟩ := Int.eq_ofNat_of_zero_le h1
  have hj : j < ns.length := by omega
  exact ⟨ns[j], atI_nat (by rw [List.getElem?_map, List.getElem?_eq_getElem hj]; rfl)⟩
theorem mul_le_of {a b A B : Int} (a0 : 0 ≤ a) (b0 : 0 ≤ b) (ha : a ≤ A) (hb : b ≤ B) : 0 ≤ a * b ∧ a * b ≤ A * B :=
  ⟨Int.mul_nonneg a0 b0, Int.mul_le_mul ha hb b0 (by omega)⟩
theorem bound1 (c : Int) {M C D t : Int} (hM : 1 ≤ M) (hM2 : M ≤ 4294967296) (hC : 0 ≤ C ∧ C ≤ 1000000) (hD : 0 ≤ D ∧ D ≤ 1000000) (h0 : 0 ≤ t) (h1 : t ≤ 1000000) : (c.fmod M + C * t + D).natAbs < 2 ^ 64 := by
  have a1 := fmod_lo c hM
  have a2 := fmod_hi c hM
  have ⟨a3, a4⟩ := mul_le_of hC.1 h0 hC.2 h1
  omega
theorem bound2 {x C5 C6 C7 t : Int} (hx : 0 ≤ x ∧ x < 4294967296) (h5 : 0 ≤ C5 ∧ C5 ≤ 1000000) (h6 : 0 ≤ C6 ∧ C6 ≤ 1000000) (h7 : 0 ≤ C7 ∧ C7 ≤ 1000000) (h0 : 0 ≤ t) (h1 : t ≤ 1000000) :
    (x * (2 * t + C5) + C6 * t * t + C7).natAbs < 2 ^ 64 := by
  have ⟨a1, a2⟩ := mul_le_of (b := 2 * t + C5) (A := 4294967296) (B := 3000000) hx.1 (by omega) (by omega) (by omega)
  have ⟨a3, a4⟩ := mul_le_of h6.1 h0 h6.2 h1
  have ⟨a5, a6⟩ := mul_le_of a3 h0 a4 h1
  omega
theorem great_nn {c e : Int} (h : e ≤ (if c < 0 then -c else c)) (b : Bool) : 0 ≤ 2 * ((if c < 0 then -c else c) - e) + (if b = true then 1 else 0) := by
  cases b
  · rw [if_neg Bool.false_ne_true]; omega
  · rw [if_pos rfl]; omega
theorem lt64 {x : Int} (h : 0 ≤ x ∧ x < 4294967296) : -(2 ^ 64) < x ∧ x < 2 ^ 64 := ⟨by omega, by omega⟩
theorem nz {M : Int} (h : 0 < M) : M ≠ 0 := by omega
theorem divW {i m : Int} (h : 1 ≤ m) (h2 : m ≤ 100000000000000000000000000000) : CDivW i m := wide_div (b := 97) (by omega) (by omega) (by decide) (by decide)
theorem ediv_lo {a m : Int} (h : 1 ≤ m) (h0 : 0 ≤ a) : 0 ≤ a / m := Int.ediv_nonneg h0 (by omega)
theorem ok_draw {f : Addr} {fd : FuncData} (F : Fun K "_law_draw" "_law_draw" sDraw f fd) (T : Blt mg) : FnOk P w K mg base CX0 1 f fd ["_law_pen_here", "_law_many"] spDraw := by
  refine F.ok scD (fun vs H Q E h => ?_) (fun cdv A outer s H vs Q E hr h => ?_)
  · obtain ⟨p, L, m, B, rfl, _⟩ := h
    rfl
  · obtain ⟨p, L, m, B, rfl, hm, hm2, hB, ⟨ns, tn, ca, hp, hL, Lp, hlen, t0, tB, c0⟩, k⟩ := h
    have hu := hu_of hr
    refine ⟨_, pss_cons (ps_if (pt_cmpR op_gt (pe_ix ix_list (pv 0) pe_int (fun _ _ => rfl)) pe_int (nomark _))
        (pss_cons (ps_set (i := 2) scD.nd rfl (.inl rfl) (pe_op op_modN (pe_callTy call_int1 (by rfl) T.int (by decide +kernel) (pa_cons (pe_ix ix_list (pv 0) pe_int (fun _ _ => rfl)) pa_nil)) (pv 1)))
        (pss_cons (ps_asg (pe_op op_fdivW (pe_callTy call_int1 (by rfl) T.int (by decide +kernel) (pa_cons (pe_ix ix_list (pv 0) pe_int (fun _ _ => rfl)) pa_nil)) (pv 1)) (pg_sub (pv 0) pe_int set_list))
        (pss_one (ps_ret (pv 2))))) pss_nil)
      (pss_cons (ps_set (i := 3) scD.nd rfl (.inl rfl) (pe_ix ix_list (pv 0) pe_int (fun _ _ => rfl)))
      (pss_cons (ps_asg (pe_op op_add (pv 3) pe_int) (pg_sub (pv 0) pe_int set_list))
      (pss_cons (ps_set (i := 4) scD.nd rfl (.inl rfl) (pe_op op_add (pe_op op_mul pe_int (pv 3)) pe_int))
      (pss_cons (ps_if (pt_cmpR (op_neD hr.units) (pe_ix ix_list (pv 0) pe_int (fun _ _ => rfl)) (pe_lst pa_nil) (nomark _))
        (pss_one (ps_set (i := 4) scD.nd rfl (.inl rfl) (pe_ix ix_list (pe_ix ix_list (pv 0) pe_int (fun _ _ => rfl))
          (pe_op op_modN (pe_callTy call_int1 (by rfl) T.int (by decide +kernel) (pa_cons (pv 3) pa_nil)) (pe_callB call_len_seq (by rfl) T.len PySem.boot_len (pa_cons (pe_ix ix_list (pv 0) pe_int (fun _ _ => rfl)) pa_nil))) (fun _ _ => rfl)))) pss_nil)
      (pss_cons (ps_if (PW.pt (pw_and (pt_cmpR op_lt (pv 3) (pe_callB call_len_seq (by rfl) T.len PySem.boot_len (pa_cons (pe_ix ix_list (pv 0) pe_int (fun _ _ => rfl)) pa_nil)) (nomark _))
          (pw_and1 (pt_cmpR op_ge (pe_callB call_abs (by rfl) T.abs (by decide +kernel) (pa_cons (pv 4) pa_nil)) (pe_op op_pow pe_int pe_int) (nomark _)))))
        (pss_cons (ps_set (i := 5) scD.nd rfl (.inl rfl) (pe_op op_add (pe_op op_mul pe_int (pe_op op_sub (pe_callB call_abs (by rfl) T.abs (by decide +kernel) (pa_cons (pv 4) pa_nil)) (pe_op op_pow pe_int pe_int)))
            (pe_callTy call_int1 (by rfl) T.int (by decide +kernel) (pa_cons (pe_cmpR op_lt (pv 4) pe_int (nomark _)) pa_nil))))
        (pss_cons (ps_asg (pe_op op_fdivW (pe_callTy call_int1 (by rfl) T.int (by decide +kernel) (pa_cons (pv 5) pa_nil)) (pv 1)) (pg_sub (pv 0) pe_int set_list))
        (pss_one (ps_ret (pe_op op_modN (pe_callTy call_int1 (by rfl) T.int (by decide +kernel) (pa_cons (pv 5) pa_nil)) (pv 1)))))) pss_nil)
      (pss_cons (ps_set (i := 6) scD.nd rfl (.inl rfl) (pe_op op_modN (pe_callTy call_int1 (by rfl) T.int (by decide +kernel) (pa_cons (pe_op op_pow (pe_op op_add (pe_op op_add
          (pe_op op_modN (pe_callTy call_int1 (by rfl) T.int (by decide +kernel) (pa_cons (pv 4) pa_nil)) pe_int) (pe_op op_mul pe_int (pv 3))) pe_int) pe_int) pa_nil)) pe_int))
      (pss_cons (ps_set (i := 6) scD.nd rfl (.inl rfl) (pe_op op_modN (pe_callTy call_int1 (by rfl) T.int (by decide +kernel) (pa_cons (pe_op op_pow (pe_op op_add (pe_op op_add
          (pe_op op_mul (pv 6) (pe_op op_add (pe_op op_mul pe_int (pv 3)) pe_int)) (pe_op op_mul (pe_op op_mul pe_int (pv 3)) (pv 3))) pe_int) pe_int) pa_nil)) pe_int))
      (pss_one (ps_ret (pe_op op_modN (pe_callTy call_int1 (by rfl) T.int (by decide +kernel) (pa_cons (pe_op op_fdivN (pv 6) pe_int) pa_nil)) (pv 1))))))))))), ?_⟩
    have i2 : ∀ {a b c : V}, atI [a, b, c] 2 = some c := fun {a b c} => atI_nat (j := 2) rfl
    have i1 : ∀ {a b c : V}, atI [a, b, c] 1 = some b := fun {a b c} => atI_nat (j := 1) rfl
    have i0 : ∀ {a b c : V}, atI [a, b, c] 0 = some a := fun {a b c} => atI_nat (j := 0) rfl
    -- if pen[2] > 0
    refine ⟨_, rfl, p, _, 2, _, rfl, rfl, SqL.of hp, i2, _, _, rfl, rfl, _, rfl, ite2 (fun e => ?_) (fun e => ?_)⟩
    · -- digit
      refine ⟨_, rfl, p, _, 2, _, rfl, rfl, SqL.of hp, i2, .inl ⟨_, rfl, _, rfl, _, _, rfl, rfl, (by omega), ?_⟩⟩
      refine ⟨_, rfl, p, _, 2, _, rfl, rfl, SqL.of hp, i2, .inl ⟨_, rfl, _, rfl, _, _, rfl, rfl, divW hm hm2, _, rfl, p, _, _, 2, rfl, rfl, hp, rfl, ?_⟩⟩
      refine ⟨_, rfl, ?_⟩
      exact k _ _ But.upd_at ⟨ns, tn, _, upd_same, by rw [upd_ne Lp]; exact hL, Lp, hlen, t0, by omega, ediv_lo hm c0⟩ (fmod_lo _ hm) (fmod_hi _ hm)
    · -- turn
      refine ⟨_, rfl, p, _, 1, _, rfl, rfl, SqL.of hp, i1, ?_⟩
      refine ⟨_, rfl, _, _, rfl, rfl, _, rfl, p, _, _, 1, rfl, rfl, hp, rfl, ?_⟩
      have hp1 : upd H p (.lst ([V.ref L, V.int tn, V.int ca].set 1 (V.int (tn + 1)))) p = some (.lst [.ref L, .int (tn + 1), .int ca]) := upd_same
      have hL1 : upd H p (.lst ([V.ref L, V.int tn, V.int ca].set 1 (V.int (tn + 1)))) L = some (.lst (ns.map V.int)) := by rw [upd_ne Lp]; exact hL
      have b1 : But p H (upd H p (.lst ([V.ref L, V.int tn, V.int ca].set 1 (V.int (tn + 1))))) := But.upd_at
      generalize upd H p (.lst ([V.ref L, V.int tn, V.int ca].set 1 (V.int (tn + 1)))) = H1 at hp1 hL1 b1 ⊢
      -- cell = c * turn + c'
      refine ⟨_, rfl, _, _, rfl, rfl, .inl ⟨by decide, by decide⟩, _, _, rfl, rfl, ?_⟩
      -- if pen[0] != []
      refine ⟨_, rfl, p, _, 0, _, rfl, rfl, SqL.of hp1, i0, by decide, fun l hl => ?_⟩
      have n1 : p ≠ l := ne_of_none hp1 hl
      have n2 : L ≠ l := ne_of_none hL1 hl
      have hp2 : upd H1 l (.lst []) p = some (.lst [.ref L, .int (tn + 1), .int ca]) := by rw [upd_ne n1]; exact hp1
      have hL2 : upd H1 l (.lst []) L = some (.lst (ns.map V.int)) := by rw [upd_ne n2]; exact hL1
      have hl2 : upd H1 l (.lst []) l = some (.lst []) := upd_same
      have b2 : But p H (upd H1 l (.lst [])) := b1.trans (But.upd_new hl)
      clear b1 hp1 hL1
      generalize upd H1 l (.lst []) = H2 at hp2 hL2 hl2 b2
      refine ⟨_, _, .lst (SqL.of hL2) (dpInts ns), .lst (SqL.of hl2) .nil, sh_ints ns, sh_ints [], _, rfl, ?_⟩
      rw [eqv_nil]
      -- the rest, for any cell
      have hcell : ∀ c : Int, ∃ j : Int, (if c < 0 then -c else c) = j ∧ 0 ≤ j := fun c => by
        by_cases z : c < 0
        · exact ⟨_, rfl, by rw [if_pos z]; omega⟩
        · exact ⟨_, rfl, by rw [if_neg z]; omega⟩
      have fin : ∀ H' : Hp, H' p = some (.lst [.ref L, .int (tn + 1), .int ca]) → H' L = some (.lst (ns.map V.int)) → But p H H' → Pen L H' p (B + 1) := fun H' e1 e2 _ =>
        ⟨ns, tn + 1, ca, e1, e2, Lp, hlen, by omega, by omega, c0⟩
      have ht : tn ≤ 1000000 := by omega
      have hm6 : 0 ≤ 71891 * tn ∧ 71891 * tn ≤ 71891 * 1000000 := mul_le_of (by decide) t0 (Int.le_refl _) ht
      have hq : ∀ {x m : Int}, 1 ≤ m → m ≤ 4294967296 → 0 ≤ x.fmod m ∧ x.fmod m < 4294967296 := fun {x m} h1 h2 => ⟨fmod_lo x h1, by have := fmod_hi x h1; omega⟩
      cases hn : ns with
      | nil =>
        refine iteF ?_
        refine ⟨_, rfl, _, rfl, p, _, 0, _, rfl, rfl, SqL.of hp2, i0, L, _, rfl, .inl (SqL.of hL2), _, _, rfl, rfl, _, rfl, ite2 (fun e1 => ?_) (fun e1 => ?_)⟩
        · refine ⟨_, rfl, _, rfl, _, _, rfl, rfl, ⟨by decide, by decide, by decide⟩, _, _, rfl, rfl, _, rfl, ite2 (fun e2 => ?_) (fun e2 => ?_)⟩
          · refine ⟨_, rfl, _, rfl, _, _, rfl, rfl, ⟨by decide, by decide, by decide⟩, _, _, rfl, rfl, _, _, rfl, rfl, .inl ⟨by decide, by decide⟩, _, rfl, _, _, rfl, rfl, .inr ⟨_, rfl, _, _, rfl, rfl, ?_⟩⟩
            refine ⟨_, rfl, .inl ⟨_, rfl, _, rfl, _, _, rfl, rfl, divW hm hm2, _, rfl, p, _, _, 2, rfl, rfl, hp2, rfl, ?_⟩⟩
            refine ⟨_, rfl, .inl ⟨_, rfl, _, rfl, _, _, rfl, rfl, (by omega), ?_⟩⟩
            refine k _ _ (b2.trans But.upd_at) ⟨_, tn + 1, _, upd_same, by rw [upd_ne Lp]; exact hL2, Lp, hlen, by omega, by omega, ediv_lo hm ?_⟩ (fmod_lo _ hm) (fmod_hi _ hm)
            have e3 := of_decide_eq_true e2
            exact great_nn e3 _
          · skip
            refine ⟨_, rfl, .inl ⟨_, rfl, _, _, rfl, rfl, nz (by decide), _, rfl, _, _, rfl, rfl, .inl ⟨by decide, by decide⟩, _, _, rfl, rfl, _, _, rfl, rfl, _, _, rfl, rfl, ⟨by decide, by decide, bound1 _ (by decide) (by decide) (by decide) (by decide) t0 ht⟩, .inl ⟨_, rfl, _, _, rfl, rfl, nz (by decide), ?_⟩⟩⟩
            refine ⟨_, rfl, _, rfl, _, _, rfl, rfl, .inl ⟨by decide, by decide⟩, _, _, rfl, rfl, _, _, rfl, rfl, .inl ?_, _, rfl, _, _, rfl, rfl, .inl ⟨by decide, by decide⟩, _, rfl, _, _, rfl, rfl, .inl ?_, _, _, rfl, rfl, _, _, rfl, rfl, _, _, rfl, rfl, ⟨by decide, by decide, ?_⟩, .inl ⟨_, rfl, _, _, rfl, rfl, nz (by decide), ?_⟩⟩
            · exact lt64 (hq (by decide) (by decide))
            · exact ⟨by omega, by omega⟩
            · exact bound2 (hq (by decide) (by decide)) (by decide) (by decide) (by decide) t0 ht
            · refine ⟨_, rfl, _, _, rfl, rfl, ⟨by decide, by decide⟩, .inl ⟨_, rfl, _, rfl, _, _, rfl, rfl, (by omega), ?_⟩⟩
              exact k _ _ b2 (fin _ hp2 hL2 b2) (fmod_lo _ hm) (fmod_hi _ hm)
        · skip
          refine ⟨_, rfl, .inl ⟨_, rfl, _, _, rfl, rfl, nz (by decide), _, rfl, _, _, rfl, rfl, .inl ⟨by decide, by decide⟩, _, _, rfl, rfl, _, _, rfl, rfl, _, _, rfl, rfl, ⟨by decide, by decide, bound1 _ (by decide) (by decide) (by decide) (by decide) t0 ht⟩, .inl ⟨_, rfl, _, _, rfl, rfl, nz (by decide), ?_⟩⟩⟩
          refine ⟨_, rfl, _, rfl, _, _, rfl, rfl, .inl ⟨by decide, by decide⟩, _, _, rfl, rfl, _, _, rfl, rfl, .inl ?_, _, rfl, _, _, rfl, rfl, .inl ⟨by decide, by decide⟩, _, rfl, _, _, rfl, rfl, .inl ?_, _, _, rfl, rfl, _, _, rfl, rfl, _, _, rfl, rfl, ⟨by decide, by decide, ?_⟩, .inl ⟨_, rfl, _, _, rfl, rfl, nz (by decide), ?_⟩⟩
          · exact lt64 (hq (by decide) (by decide))
          · exact ⟨by omega, by omega⟩
          · exact bound2 (hq (by decide) (by decide)) (by decide) (by decide) (by decide) t0 ht
          · refine ⟨_, rfl, _, _, rfl, rfl, ⟨by decide, by decide⟩, .inl ⟨_, rfl, _, rfl, _, _, rfl, rfl, (by omega), ?_⟩⟩
            exact k _ _ b2 (fin _ hp2 hL2 b2) (fmod_lo _ hm) (fmod_hi _ hm)
      | cons n0 nr =>
        refine iteT ?_
        obtain ⟨c, hc⟩ := cell_at (ns := ns) (by rw [hn]; exact List.cons_ne_nil _ _) tn
        refine ⟨_, rfl, p, _, 0, _, rfl, rfl, SqL.of hp2, i0, _, rfl, .inl ⟨_, rfl, _, rfl, p, _, 0, _, rfl, rfl, SqL.of hp2, i0, L, _, rfl, .inl (SqL.of hL2), _, _, rfl, rfl, (by rw [List.length_map, hn, List.length_cons]; omega), L, _, _, _, rfl, rfl, SqL.of hL2, hc, ?_⟩⟩
        refine ⟨_, rfl, _, rfl, p, _, 0, _, rfl, rfl, SqL.of hp2, i0, L, _, rfl, .inl (SqL.of hL2), _, _, rfl, rfl, _, rfl, ite2 (fun e1 => ?_) (fun e1 => ?_)⟩
        · refine ⟨_, rfl, _, rfl, _, _, rfl, rfl, ⟨by decide, by decide, by decide⟩, _, _, rfl, rfl, _, rfl, ite2 (fun e2 => ?_) (fun e2 => ?_)⟩
          · refine ⟨_, rfl, _, rfl, _, _, rfl, rfl, ⟨by decide, by decide, by decide⟩, _, _, rfl, rfl, _, _, rfl, rfl, .inl ⟨by decide, by decide⟩, _, rfl, _, _, rfl, rfl, .inr ⟨_, rfl, _, _, rfl, rfl, ?_⟩⟩
            refine ⟨_, rfl, .inl ⟨_, rfl, _, rfl, _, _, rfl, rfl, divW hm hm2, _, rfl, p, _, _, 2, rfl, rfl, hp2, rfl, ?_⟩⟩
            refine ⟨_, rfl, .inl ⟨_, rfl, _, rfl, _, _, rfl, rfl, (by omega), ?_⟩⟩
            refine k _ _ (b2.trans But.upd_at) ⟨_, tn + 1, _, upd_same, by rw [upd_ne Lp]; exact hL2, Lp, hlen, by omega, by omega, ediv_lo hm ?_⟩ (fmod_lo _ hm) (fmod_hi _ hm)
            have e3 := of_decide_eq_true e2
            exact great_nn e3 _
          · skip
            refine ⟨_, rfl, .inl ⟨_, rfl, _, _, rfl, rfl, nz (by decide), _, rfl, _, _, rfl, rfl, .inl ⟨by decide, by decide⟩, _, _, rfl, rfl, _, _, rfl, rfl, _, _, rfl, rfl, ⟨by decide, by decide, bound1 _ (by decide) (by decide) (by decide) (by decide) t0 ht⟩, .inl ⟨_, rfl, _, _, rfl, rfl, nz (by decide), ?_⟩⟩⟩
            refine ⟨_, rfl, _, rfl, _, _, rfl, rfl, .inl ⟨by decide, by decide⟩, _, _, rfl, rfl, _, _, rfl, rfl, .inl ?_, _, rfl, _, _, rfl, rfl, .inl ⟨by decide, by decide⟩, _, rfl, _, _, rfl, rfl, .inl ?_, _, _, rfl, rfl, _, _, rfl, rfl, _, _, rfl, rfl, ⟨by decide, by decide, ?_⟩, .inl ⟨_, rfl, _, _, rfl, rfl, nz (by decide), ?_⟩⟩
            · exact lt64 (hq (by decide) (by decide))
            · exact ⟨by omega, by omega⟩
            · exact bound2 (hq (by decide) (by decide)) (by decide) (by decide) (by decide) t0 ht
            · refine ⟨_, rfl, _, _, rfl, rfl, ⟨by decide, by decide⟩, .inl ⟨_, rfl, _, rfl, _, _, rfl, rfl, (by omega), ?_⟩⟩
              exact k _ _ b2 (fin _ hp2 hL2 b2) (fmod_lo _ hm) (fmod_hi _ hm)
        · skip
          refine ⟨_, rfl, .inl ⟨_, rfl, _, _, rfl, rfl, nz (by decide), _, rfl, _, _, rfl, rfl, .inl ⟨by decide, by decide⟩, _, _, rfl, rfl, _, _, rfl, rfl, _, _, rfl, rfl, ⟨by decide, by decide, bound1 _ (by decide) (by decide) (by decide) (by decide) t0 ht⟩, .inl ⟨_, rfl, _, _, rfl, rfl, nz (by decide), ?_⟩⟩⟩
          refine ⟨_, rfl, _, rfl, _, _, rfl, rfl, .inl ⟨by decide, by decide⟩, _, _, rfl, rfl, _, _, rfl, rfl, .inl ?_, _, rfl, _, _, rfl, rfl, .inl ⟨by decide, by decide⟩, _, rfl, _, _, rfl, rfl, .inl ?_, _, _, rfl, rfl, _, _, rfl, rfl, _, _, rfl, rfl, ⟨by decide, by decide, ?_⟩, .inl ⟨_, rfl, _, _, rfl, rfl, nz (by decide), ?_⟩⟩
          · exact lt64 (hq (by decide) (by decide))
          · exact ⟨by omega, by omega⟩
          · exact bound2 (hq (by decide) (by decide)) (by decide) (by decide) (by decide) t0 ht
          · refine ⟨_, rfl, _, _, rfl, rfl, ⟨by decide, by decide⟩, .inl ⟨_, rfl, _, rfl, _, _, rfl, rfl, (by omega), ?_⟩⟩
            exact k _ _ b2 (fin _ hp2 hL2 b2) (fmod_lo _ hm) (fmod_hi _ hm)
end
end Ev
namespace Ev
open PySem L2
abbrev sTryInit : Stmt := inClass (top 31) 0
abbrev sTryTurns : Stmt := inClass (top 31) 1
abbrev sTwice : Stmt := inClass (top 31) 2
abbrev sTurnInit : Stmt := inClass (top 30) 0
abbrev sTurnTurns : Stmt := inClass (top 30) 1
abbrev sGreatest : Stmt := inClass (top 29) 2
abbrev sFair : Stmt := top 32
abbrev sNeedW : Stmt := top 37
abbrev sTimes : Stmt := top 39
abbrev sPlus : Stmt := top 40
abbrev sTurn : Stmt := top 41
abbrev sNeedT : Stmt := top 42
abbrev sHalves : Stmt := top 43
abbrev sNeedH : Stmt := top 44
def fairB (p q k x y : Int) : Bool := decide (q * y ≤ p * x + k) && decide (q * x ≤ p * y + k)
def spIsInt : Sp := fun vs H Q _ => ∃ i : Int, vs = [.int i] ∧ Q (.bl true) H
def spWithin : Sp := fun vs H Q _ => ∃ v l m : Int, vs = [.int v, .int l, .int m] ∧ l ≤ v ∧ v ≤ m ∧ Q (.bl true) H
def spNeedW : Sp := fun vs H Q _ => ∃ v : Int, vs = [.int v] ∧ 1 ≤ v ∧ v ≤ 10 ^ 60 ∧ Q .non H
def spPair (_K : PySem.W.Frag) : Sp := fun vs H Q _ => ∃ (a : Addr) (x y m : Int), vs = [.ref a, .int m] ∧ H a = some (.tup [.int x, .int y]) ∧ (1 ≤ x ∧ x ≤ m) ∧ (1 ≤ y ∧ y ≤ m) ∧ ∀ H', Same H H' → Q (.bl true) H'
def spTimes (_K : PySem.W.Frag) : Sp := fun vs H Q _ => ∃ (a : Addr) (p q : Int), vs = [.ref a] ∧ H a = some (.tup [.int p, .int q]) ∧ 1 ≤ q ∧ q ≤ p ∧ p ≤ 6 ∧ ∀ H', Same H H' → Q (.bl true) H'
def spPlus : Sp := fun vs H Q _ => ∃ k : Int, vs = [.int k] ∧ -6 ≤ k ∧ k ≤ 6 ∧ Q (.bl true) H
def spTurn (_K : PySem.W.Frag) : Sp := fun vs H Q _ => ∃ (a : Addr) (p q : Int), vs = [.ref a] ∧ H a = some (.tup [.int p, .int q]) ∧ (1 ≤ p ∧ p ≤ 8) ∧ (1 ≤ q ∧ q ≤ 8) ∧ ∀ H', Same H H' → Q (.bl true) H'
def spNeedT (_K : PySem.W.Frag) : Sp := fun vs H Q _ => ∃ (a : Addr) (p q k : Int), vs = [.ref a, .int k] ∧ H a = some (.tup [.int p, .int q]) ∧ 1 ≤ q ∧ q ≤ p ∧ p ≤ 6 ∧ -6 ≤ k ∧ k ≤ 6 ∧ ∀ H', Same H H' → Q .non H'
def spHalves (_K : PySem.W.Frag) : Sp := fun vs H Q _ => ∃ (a : Addr) (p q k : Int), vs = [.ref a, .int k] ∧ H a = some (.tup [.int p, .int q]) ∧ 2 * q ≤ p + k ∧ Q (.bl true) H
def spNeedH (_K : PySem.W.Frag) : Sp := fun vs H Q _ => ∃ (a : Addr) (p q k : Int), vs = [.ref a, .int k] ∧ H a = some (.tup [.int p, .int q]) ∧ 0 ≤ q ∧ 2 * q ≤ p + k ∧ Q .non H
section
variable {P : Program} {w : World} {K : PySem.W.Frag} {mg : Str → Option Value} {base : Heap}
theorem scIsInt : FnScope ["value"] ["value"] (defScope sIsInt) := ⟨rfl, rfl, rfl, by decide +kernel, rfl, by decide +kernel, by decide +kernel⟩
theorem ok_isInt {f : Addr} {fd : FuncData} (F : Fun K "is_integer" "is_integer" sIsInt f fd) (T : Blt mg) : FnOk P w K mg base CX0 1 f fd ["value"] spIsInt := by
  refine F.ok scIsInt (fun vs H Q E h => ?_) (fun cdv A outer s H vs Q E hr h => ?_)
  · obtain ⟨i, rfl, _⟩ := h
    rfl
  · obtain ⟨i, rfl, k⟩ := h
    refine ⟨_, pss_one (ps_ret (pe_and (pe_callB call_isi (by rfl) T.isi (by decide +kernel) (pa_cons (pv 0) (pa_cons (pe_bltn (v := .ty "int") (by rfl) T.int (by decide +kernel) rfl) pa_nil)))
      (pe_one (pe_not (pe_callB call_isi (by rfl) T.isi (by decide +kernel) (pa_cons (pv 0) (pa_cons (pe_bltn (v := .ty "bool") (by rfl) T.bool (by decide +kernel) rfl) pa_nil))))))), ?_⟩
    refine ⟨_, rfl, _, _, _, _, true, rfl, .ty _, .base (.int i), kit_ty (by decide +kernel), true, rfl, iteT ⟨_, rfl, _, _, _, _, false, rfl, .ty _, .base (.int i), kit_ty (by decide +kernel), _, rfl, ?_⟩⟩
    exact k
theorem scWithin : FnScope ["value", "least", "most"] ["value", "least", "most"] (defScope sWithin) := ⟨rfl, rfl, rfl, by decide +kernel, rfl, by decide +kernel, by decide +kernel⟩
theorem ok_within {f fI : Addr} {fd fdI : FuncData} (F : Fun K "is_within" "is_within" sWithin f fd) (T : Blt mg)
    (GI : FnOk P w K mg base CX0 1 fI fdI ["value"] spIsInt) (gI : mg "is_integer" = some (.ref fI)) (kI : PySem.W.keepIn K (.ref fI) = true) (bI : Binds K fdI ["value"] []) : FnOk P w K mg base CX0 2 f fd ["value", "least", "most"] spWithin := by
  refine F.ok scWithin (fun vs H Q E h => ?_) (fun cdv A outer s H vs Q E hr h => ?_)
  · obtain ⟨v, l, m, rfl, _⟩ := h
    rfl
  · obtain ⟨v, l, m, rfl, h1, h2, k⟩ := h
    refine ⟨_, pss_one (ps_ret (pe_and (pe_call GI hr (by rfl) gI kI bI .nil pass0 (pa_cons (pv 0) pa_nil)) (pe_one (pe_chain op_le op_le (pv 1) (pv 0) (pv 2))))), ?_⟩
    refine ⟨_, rfl, v, rfl, true, rfl, iteT ⟨_, rfl, _, rfl, _, _, rfl, rfl, true, congrArg V.bl (decide_eq_true h1), iteT ⟨_, rfl, _, _, rfl, rfl, ?_⟩⟩⟩
    show Q (.bl (decide (v ≤ m))) H
    rw [decide_eq_true h2]
    exact k

/-- a def that stands under its name -/
structure Df (P : Program) (w : World) (K : PySem.W.Frag) (mg : Str → Option Value) (base : Heap) (k : Nat) (x : Str) (ps : List Str) (sp : Sp) : Prop where
  ex : ∃ (f : Addr) (fd : FuncData), FnOk P w K mg base CX0 k f fd ps sp ∧ mg x = some (.ref f) ∧ PySem.W.keepIn K (.ref f) = true ∧ Binds K fd ps []
theorem scNeedW : FnScope ["value"] ["value"] (defScope sNeedW) := ⟨rfl, rfl, rfl, by decide +kernel, rfl, by decide +kernel, by decide +kernel⟩
theorem ok_needW {f : Addr} {fd : FuncData} (F : Fun K "need_weight" "need_weight" sNeedW f fd) (D : Df P w K mg base 2 "is_within" ["value", "least", "most"] spWithin) {t : Tok} (gM : mg "MOST_WEIGHT" = some (.int (10 ^ 60) t)) :
    FnOk P w K mg base CX0 3 f fd ["value"] spNeedW := by
  obtain ⟨fW, fdW, GW, gW, kW, bW⟩ := D.ex
  refine F.ok scNeedW (fun vs H Q E h => ?_) (fun cdv A outer s H vs Q E hr h => ?_)
  · obtain ⟨i, rfl, _⟩ := h
    rfl
  · obtain ⟨i, rfl, h1, h2, k⟩ := h
    refine ⟨_, pss_one (ps_if (pt_not (pt_val (pe_call GW hr (by rfl) gW kW bW .nil pass0 (pa_cons (pv 0) (pa_cons pe_int (pa_cons (pe_glob (v := .int (10 ^ 60)) rfl gM ⟨_, rfl⟩) pa_nil)))))) (pss_one ps_never) pss_nil), ?_⟩
    exact ⟨_, rfl, _, _, _, rfl, h1, h2, true, rfl, iteF k⟩
theorem scPair : FnScope ["value", "most", "item"] ["value", "most"] (defScope sPair) := ⟨rfl, rfl, rfl, by decide +kernel, rfl, by decide +kernel, by decide +kernel⟩
theorem ok_pair {f : Addr} {fd : FuncData} (F : Fun K "is_pair" "is_pair" sPair f fd) (T : Blt mg) (D : Df P w K mg base 2 "is_within" ["value", "least", "most"] spWithin) :
    FnOk P w K mg base CX0 3 f fd ["value", "most"] (spPair K) := by
  obtain ⟨fW, fdW, GW, gW, kW, bW⟩ := D.ex
  refine F.ok scPair (fun vs H Q E h => ?_) (fun cdv A outer s H vs Q E hr h => ?_)
  · obtain ⟨a, x, y, m, rfl, _⟩ := h
    rfl
  · obtain ⟨a, x, y, m, rfl, ha, hx, hy, k⟩ := h
    refine ⟨_, pss_one (ps_ret (pe_and (pe_callB call_isi (by rfl) T.isi (by decide +kernel) (pa_cons (pv 0) (pa_cons (pe_bltn (v := .ty "tuple") (by rfl) T.tuple (by decide +kernel) rfl) pa_nil)))
      (pe_and (pe_cmpR op_eq (pe_callB call_len_seq (by rfl) T.len PySem.boot_len (pa_cons (pv 0) pa_nil)) pe_int (nomark _))
      (pe_one (pe_callB (cr_all rfl) (by rfl) T.all (by decide +kernel) (pa_cons (pe_lc (own := [("item", 2)]) (g := gName 2) (by rfl) scPair.nd (pi_tup (pv 0)) (blkOk_by (own := [("item", 2)]) (N := ["value", "most", "item"]) (sc := defScope sPair) (by decide +kernel))
          (fun _ _ _ _ _ => pg_name (i := 2) scPair.nd rfl (.inl rfl)) (fun _ _ _ _ _ => pts_nil) (fun _ _ _ _ _ => pe_call GW hr (by rfl) gW kW bW .nil pass0 (pa_cons (pv 2) (pa_cons pe_int (pa_cons (pv 1) pa_nil))))) pa_nil)))))), ?_⟩
    refine ⟨_, rfl, _, _, _, _, true, rfl, .ty _, .base (.tup ha), kit_ty (by decide +kernel), true, rfl, iteT ⟨_, rfl, a, _, rfl, .inr (SqT.of ha), rfl, true, congrArg V.bl (decide_eq_true rfl), iteT ⟨_, rfl, a, rfl, ⟨_, SqT.of ha⟩, fun D nD => ?_⟩⟩⟩
    have naD : a ≠ D := ne_of_none ha nD
    refine lc_tup (xs := [V.int x, V.int y]) (fun i H' => H' D = some (.lst ((List.replicate i true).map V.bl)) ∧ But D H H') ⟨upd_same, But.upd_at⟩ (fun i H' _ h => SqT.of (h.2 _ _ naD ha)) (fun i v H' hi ⟨e1, e2⟩ => ?_) (fun H' ⟨e1, e2⟩ => ?_)
    · obtain ⟨z, rfl, z1, z2⟩ : ∃ z : Int, v = .int z ∧ 1 ≤ z ∧ z ≤ m := by
        match i, hi with
        | 0, hi => exact ⟨x, (Option.some.inj hi).symm, hx.1, hx.2⟩
        | 1, hi => exact ⟨y, (Option.some.inj hi).symm, hy.1, hy.2⟩
        | n + 2, hi => cases hi
      have hil : i < 2 := (List.getElem?_eq_some_iff.mp hi).1
      refine ⟨rfl, _, rfl, _, rfl, _, _, _, rfl, z1, z2, _, e1, ?_, ?_, ?_⟩
      · rw [List.length_map, List.length_replicate]; exact small1000 (by omega)
      · rw [List.replicate_succ', List.map_append]
        exact upd_same
      · exact e2.trans But.upd_at
    · refine ⟨D, [true, true], rfl, SqL.of e1, ?_⟩
      exact k H' fun b o e => e2 b o (ne_of_none e nD) e
end
end Ev
namespace Ev
open PySem L2
section
variable {P : Program} {w : World} {K : PySem.W.Frag} {mg : Str → Option Value} {base : Heap}
theorem tup1 {a b : V} : atI [a, b] 1 = some b := atI_nat (j := 1) rfl
theorem tup0 {a b : V} : atI [a, b] 0 = some a := atI_nat (j := 0) rfl
theorem scTimes : FnScope ["value"] ["value"] (defScope sTimes) := ⟨rfl, rfl, rfl, by decide +kernel, rfl, by decide +kernel, by decide +kernel⟩
theorem ok_times {f : Addr} {fd : FuncData} (F : Fun K "is_times" "is_times" sTimes f fd) (D : Df P w K mg base 3 "is_pair" ["value", "most"] (spPair K)) {CW : Addr} {mc u : Value} (gW : mg "WeightRule" = some (.ref CW)) (cr : ClX.CRead K CW mc) (cv : ClX.CVal K CW mc "MOST" (.int 6) u) :
    FnOk P w K mg base CX0 4 f fd ["value"] (spTimes K) := by
  obtain ⟨fP, fdP, GP, gP, kP, bP⟩ := D.ex
  refine F.ok scTimes (fun vs H Q E h => ?_) (fun cdv A outer s H vs Q E hr h => ?_)
  · obtain ⟨a, p, q, rfl, _⟩ := h
    rfl
  · obtain ⟨a, p, q, rfl, ha, h1, h2, h3, k⟩ := h
    refine ⟨_, pss_one (ps_ret (pe_and (pe_call GP hr (by rfl) gP kP bP .nil pass0 (pa_cons (pv 0) (pa_cons (ClX.pe_cval (pe_glob (v := .ref CW) rfl gW rfl)) pa_nil)))
      (pe_one (pe_cmpR op_le (pe_ix ix_tup (pv 0) pe_int (fun _ _ => rfl)) (pe_ix ix_tup (pv 0) pe_int (fun _ _ => rfl)) (nomark _))))), ?_⟩
    refine ⟨_, rfl, CW, mc, _, u, rfl, cr, cv, a, p, q, _, rfl, ha, ⟨by omega, by omega⟩, ⟨by omega, by omega⟩, fun H' s => ⟨true, rfl, ?_⟩⟩
    refine ⟨_, rfl, a, _, 1, _, rfl, rfl, SqT.of (s _ _ ha), tup1, _, rfl, a, _, 0, _, rfl, rfl, SqT.of (s _ _ ha), tup0, _, _, rfl, rfl, ?_⟩
    show Q (.bl (decide (q ≤ p))) H'
    rw [decide_eq_true h2]
    exact k H' s
theorem scPlus : FnScope ["value"] ["value"] (defScope sPlus) := ⟨rfl, rfl, rfl, by decide +kernel, rfl, by decide +kernel, by decide +kernel⟩
theorem ok_plus {f : Addr} {fd : FuncData} (F : Fun K "is_plus" "is_plus" sPlus f fd) (D : Df P w K mg base 2 "is_within" ["value", "least", "most"] spWithin) {t : Tok} (gM : mg "MOST_PLUS" = some (.int 6 t)) : FnOk P w K mg base CX0 3 f fd ["value"] spPlus := by
  obtain ⟨fW, fdW, GW, gW, kW, bW⟩ := D.ex
  refine F.ok scPlus (fun vs H Q E h => ?_) (fun cdv A outer s H vs Q E hr h => ?_)
  · obtain ⟨i, rfl, _⟩ := h
    rfl
  · obtain ⟨i, rfl, h1, h2, k⟩ := h
    refine ⟨_, pss_one (ps_ret (pe_call GW hr (by rfl) gW kW bW .nil pass0 (pa_cons (pv 0) (pa_cons (pe_un un_neg (pe_glob (v := .int 6) rfl gM ⟨_, rfl⟩)) (pa_cons (pe_glob (v := .int 6) rfl gM ⟨_, rfl⟩) pa_nil))))), ?_⟩
    exact ⟨_, rfl, _, rfl, _, _, _, rfl, h1, h2, k⟩
theorem scTurn : FnScope ["value"] ["value"] (defScope sTurn) := ⟨rfl, rfl, rfl, by decide +kernel, rfl, by decide +kernel, by decide +kernel⟩
theorem ok_turn {f : Addr} {fd : FuncData} (F : Fun K "is_turn" "is_turn" sTurn f fd) (D : Df P w K mg base 3 "is_pair" ["value", "most"] (spPair K)) {t : Tok} (gM : mg "MOST_TURN" = some (.int 8 t)) : FnOk P w K mg base CX0 4 f fd ["value"] (spTurn K) := by
  obtain ⟨fP, fdP, GP, gP, kP, bP⟩ := D.ex
  refine F.ok scTurn (fun vs H Q E h => ?_) (fun cdv A outer s H vs Q E hr h => ?_)
  · obtain ⟨a, p, q, rfl, _⟩ := h
    rfl
  · obtain ⟨a, p, q, rfl, ha, h1, h2, k⟩ := h
    refine ⟨_, pss_one (ps_ret (pe_call GP hr (by rfl) gP kP bP .nil pass0 (pa_cons (pv 0) (pa_cons (pe_glob (v := .int 8) rfl gM ⟨_, rfl⟩) pa_nil)))), ?_⟩
    exact ⟨_, rfl, a, p, q, _, rfl, ha, h1, h2, k⟩
theorem scNeedT : FnScope ["times", "plus"] ["times", "plus"] (defScope sNeedT) := ⟨rfl, rfl, rfl, by decide +kernel, rfl, by decide +kernel, by decide +kernel⟩
theorem ok_needT {f : Addr} {fd : FuncData} (F : Fun K "need_times" "need_times" sNeedT f fd) (D1 : Df P w K mg base 4 "is_times" ["value"] (spTimes K)) (D2 : Df P w K mg base 3 "is_plus" ["value"] spPlus) : FnOk P w K mg base CX0 5 f fd ["times", "plus"] (spNeedT K) := by
  obtain ⟨f1, fd1, G1, g1, k1, b1⟩ := D1.ex
  obtain ⟨f2, fd2, G2, g2, k2, b2⟩ := D2.ex
  refine F.ok scNeedT (fun vs H Q E h => ?_) (fun cdv A outer s H vs Q E hr h => ?_)
  · obtain ⟨a, p, q, k, rfl, _⟩ := h
    rfl
  · obtain ⟨a, p, q, k, rfl, ha, h1, h2, h3, h4, h5, kk⟩ := h
    refine ⟨_, pss_cons (ps_if (pt_not (pt_val (pe_call G1 hr (by rfl) g1 k1 b1 .nil pass0 (pa_cons (pv 0) pa_nil)))) (pss_one ps_never) pss_nil)
      (pss_one (ps_if (pt_not (pt_val (pe_call G2 (hr.mono (by decide)) (by rfl) g2 k2 b2 .nil pass0 (pa_cons (pv 1) pa_nil)))) (pss_one ps_never) pss_nil)), ?_⟩
    exact ⟨_, rfl, a, p, q, rfl, ha, h1, h2, h3, fun H' s => ⟨true, rfl, iteF ⟨_, rfl, k, rfl, h4, h5, true, rfl, iteF (kk H' s)⟩⟩⟩
theorem scHalves : FnScope ["times", "plus", "over", "under"] ["times", "plus"] (defScope sHalves) := ⟨rfl, rfl, rfl, by decide +kernel, rfl, by decide +kernel, by decide +kernel⟩
theorem ok_halves {f : Addr} {fd : FuncData} (F : Fun K "has_halves" "has_halves" sHalves f fd) : FnOk P w K mg base CX0 1 f fd ["times", "plus"] (spHalves K) := by
  refine F.ok scHalves (fun vs H Q E h => ?_) (fun cdv A outer s H vs Q E hr h => ?_)
  · obtain ⟨a, p, q, k, rfl, _⟩ := h
    rfl
  · obtain ⟨a, p, q, k, rfl, ha, h1, kk⟩ := h
    refine ⟨_, pss_cons (ps_asg (pv 0) (pg_tup (by rfl) (pgs_cons (pg_name (i := 2) scHalves.nd rfl (.inl rfl)) (pgs_cons (pg_name (i := 3) scHalves.nd rfl (.inl rfl)) pgs_nil))))
      (pss_one (ps_ret (pe_cmpR op_ge (pe_op op_add (pv 2) (pv 1)) (pe_op op_mul pe_int (pv 3)) (nomark _)))), ?_⟩
    refine ⟨_, rfl, a, _, rfl, SqT.of ha, rfl, _, _, rfl, _, _, rfl, rfl, ?_⟩
    refine ⟨_, rfl, _, rfl, _, _, rfl, rfl, _, rfl, _, _, rfl, rfl, .inl ⟨by decide, by decide⟩, _, _, rfl, rfl, ?_⟩
    show Q (.bl (decide (2 * q ≤ p + k))) H
    rw [decide_eq_true h1]
    exact kk
theorem scNeedH : FnScope ["times", "plus", "over", "under"] ["times", "plus"] (defScope sNeedH) := ⟨rfl, rfl, rfl, by decide +kernel, rfl, by decide +kernel, by decide +kernel⟩
theorem ok_needH {f : Addr} {fd : FuncData} (F : Fun K "need_halves" "need_halves" sNeedH f fd) (D : Df P w K mg base 1 "has_halves" ["times", "plus"] (spHalves K)) : FnOk P w K mg base CX0 2 f fd ["times", "plus"] (spNeedH K) := by
  obtain ⟨f1, fd1, G1, g1, k1, b1⟩ := D.ex
  refine F.ok scNeedH (fun vs H Q E h => ?_) (fun cdv A outer s H vs Q E hr h => ?_)
  · obtain ⟨a, p, q, k, rfl, _⟩ := h
    rfl
  · obtain ⟨a, p, q, k, rfl, ha, h0, h1, kk⟩ := h
    refine ⟨_, pss_cons (ps_asg (pv 0) (pg_tup (by rfl) (pgs_cons (pg_name (i := 2) scNeedH.nd rfl (.inl rfl)) (pgs_cons (pg_name (i := 3) scNeedH.nd rfl (.inl rfl)) pgs_nil))))
      (pss_cons (ps_if (pt_cmpR op_lt (pe_op op_add (pv 2) (pv 1)) (pv 3) (nomark _)) (pss_one ps_never) pss_nil)
      (pss_one (ps_if (pt_not (pt_val (pe_call G1 hr (by rfl) g1 k1 b1 .nil pass0 (pa_cons (pv 0) (pa_cons (pv 1) pa_nil))))) (pss_one ps_never) pss_nil))), ?_⟩
    refine ⟨_, rfl, a, _, rfl, SqT.of ha, rfl, _, _, rfl, _, _, rfl, rfl, ?_⟩
    refine ⟨_, rfl, _, rfl, _, _, rfl, rfl, _, rfl, _, _, rfl, rfl, _, rfl, ite2 (fun e => ?_) (fun _ => ?_)⟩
    · have := of_decide_eq_true e; omega
    · exact ⟨_, rfl, _, rfl, a, p, q, k, rfl, ha, h1, true, rfl, iteF kk⟩
end
end Ev
namespace Ev
open PySem L2
/-- the part of a rule object that every rule has -/
structure RB (K : PySem.W.Frag) (H : Hp) (r : Addr) (p q k : Int) : Prop where
  ex : ∃ (C dx : Addr) (fs : List (Str × V)) (a : Addr), H r = some (.ins C dx fs) ∧ Cls K C ∧ NoAttr K C "times" ∧ NoAttr K C "plus" ∧ fs.lookup ("times" : Str) = some (.ref a) ∧ fs.lookup ("plus" : Str) = some (.int k) ∧ H a = some (.tup [.int p, .int q])
  b1 : 1 ≤ q
  b2 : q ≤ p
  b3 : p ≤ 6
  b4 : -6 ≤ k
  b5 : k ≤ 6
def tryF (a : Addr) (k : Int) : List (Str × V) := [("times", .ref a), ("plus", .int k)]
def turnF (a : Addr) (k : Int) (b : Addr) (r : Int) : List (Str × V) := [("times", .ref a), ("plus", .int k), ("turn", .ref b), ("turn_plus", .int r)]
def tryT (p q k l i o : Int) (n : Option Int) : Int :=
  if (fairB p q k l i && fairB p q k (l + i) o) = true then 1 else
    match n with
    | none => 1
    | some n => if (decide (1 < i) && (fairB p q k l n && (fairB p q k (i - n) o && fairB p q k (l + n) (i - n + o)))) = true then 2 else 1
def turnT (t s r i o : Int) : Int := if s * i ≤ t * o + r then 1 else if 1 < i then 2 else 0
def spFair (K : PySem.W.Frag) : Sp := fun vs H Q _ => ∃ (r : Addr) (p q k x y : Int), vs = [.ref r, .int x, .int y] ∧ RB K H r p q k ∧ Q (.bl (fairB p q k x y)) H
def spGreatest (K : PySem.W.Frag) : Sp := fun vs H Q _ => ∃ (r : Addr) (p q k x : Int), vs = [.ref r, .int x] ∧ RB K H r p q k ∧ 1 ≤ x ∧ x ≤ 10 ^ 60 ∧ Q (.int ((p * x + k).fdiv q)) H
def spTwice (K : PySem.W.Frag) : Sp := fun vs H Q _ => ∃ (r : Addr) (p q k l i o n : Int), vs = [.ref r, .int l, .int i, .int o, .int n] ∧ RB K H r p q k ∧ Q (.bl (fairB p q k l n && (fairB p q k (i - n) o && fairB p q k (l + n) (i - n + o)))) H
def vOpt : Option Int → V
  | none => .non
  | some n => .int n
def spTryTurns (K : PySem.W.Frag) (C : Addr) : Sp := fun vs H Q _ => ∃ (r : Addr) (p q k l i o : Int) (n : Option Int) (dx : Addr) (fs : List (Str × V)), vs = [.ref r, .int l, .int i, .int o, vOpt n] ∧ RB K H r p q k ∧ H r = some (.ins C dx fs) ∧ fs.lookup ("twice_is_fair" : Str) = none ∧ (n = none → i = 1) ∧
  Q (.int (tryT p q k l i o n)) H
def spTurnTurns (K : PySem.W.Frag) (C : Addr) : Sp := fun vs H Q _ => ∃ (r : Addr) (l i o : Int) (n : Option Int) (dx a b : Addr) (k t s c : Int), vs = [.ref r, .int l, .int i, .int o, vOpt n] ∧ H r = some (.ins C dx (turnF a k b c)) ∧ H b = some (.tup [.int t, .int s]) ∧ (1 ≤ t ∧ t ≤ 8) ∧ (1 ≤ s ∧ s ≤ 8) ∧
  Q (.int (turnT t s c i o)) H
section
variable {P : Program} {w : World} {K : PySem.W.Frag} {mg : Str → Option Value} {base : Heap}
theorem m64 {q : Int} (h1 : 1 ≤ q) (h2 : q ≤ 8) : -(2 ^ 64) < q ∧ q < 2 ^ 64 := ⟨by omega, by omega⟩
theorem scFair : FnScope ["rule", "x", "y", "over", "under"] ["rule", "x", "y"] (defScope sFair) := ⟨rfl, rfl, rfl, by decide +kernel, rfl, by decide +kernel, by decide +kernel⟩
theorem ok_fair {f : Addr} {fd : FuncData} (F : Fun K "are_fair" "are_fair" sFair f fd) : FnOk P w K mg base CX0 1 f fd ["rule", "x", "y"] (spFair K) := by
  refine F.ok scFair (fun vs H Q E h => ?_) (fun cdv A outer s H vs Q E hr h => ?_)
  · obtain ⟨r, p, q, k, x, y, rfl, _⟩ := h
    rfl
  · obtain ⟨r, p, q, k, x, y, rfl, ⟨⟨C, dx, fs, a, hr1, cl, n1, n2, l1, l2, ha⟩, b1, b2, b3, b4, b5⟩, kk⟩ := h
    refine ⟨_, pss_cons (ps_asg (pe_fld (pv 0) rfl) (pg_tup (by rfl) (pgs_cons (pg_name (i := 3) scFair.nd rfl (.inl rfl)) (pgs_cons (pg_name (i := 4) scFair.nd rfl (.inl rfl)) pgs_nil))))
      (pss_one (ps_ret (pe_and (pe_cmpR op_le (pe_op op_mul (pv 4) (pv 2)) (pe_op op_add (pe_op op_mul (pv 3) (pv 1)) (pe_fld (pv 0) rfl)) (nomark _))
        (pe_one (pe_cmpR op_le (pe_op op_mul (pv 4) (pv 1)) (pe_op op_add (pe_op op_mul (pv 3) (pv 2)) (pe_fld (pv 0) rfl)) (nomark _)))))), ?_⟩
    have q6 := m64 b1 (show q ≤ 8 by omega)
    have p6 := m64 (show 1 ≤ p by omega) (show p ≤ 8 by omega)
    refine ⟨_, rfl, r, C, dx, fs, _, rfl, hr1, cl, n1, l1, a, _, rfl, SqT.of ha, rfl, _, _, rfl, _, _, rfl, rfl, ?_⟩
    refine ⟨_, rfl, _, rfl, _, _, rfl, rfl, .inl q6, _, rfl, _, rfl, _, _, rfl, rfl, .inl p6, _, rfl, r, C, dx, fs, _, rfl, hr1, cl, n2, l2, _, _, rfl, rfl, _, _, rfl, rfl, _, rfl, ite2 (fun e => ?_) (fun e => ?_)⟩
    · refine ⟨_, rfl, _, rfl, _, _, rfl, rfl, .inl q6, _, rfl, _, rfl, _, _, rfl, rfl, .inl p6, _, rfl, r, C, dx, fs, _, rfl, hr1, cl, n2, l2, _, _, rfl, rfl, _, _, rfl, rfl, ?_⟩
      show Q (.bl (decide (q * x ≤ p * y + k))) H
      rw [show fairB p q k x y = decide (q * x ≤ p * y + k) by unfold fairB; rw [show decide (q * y ≤ p * x + k) = true from e, Bool.true_and]] at kk
      exact kk
    · rw [show fairB p q k x y = false by unfold fairB; rw [show decide (q * y ≤ p * x + k) = false from Bool.eq_false_iff.mpr e, Bool.false_and]] at kk
      exact kk
theorem scTwice : FnScope ["self", "light", "inner", "outer", "near", "far"] ["self", "light", "inner", "outer", "near"] (defScope sTwice) := ⟨rfl, rfl, rfl, by decide +kernel, rfl, by decide +kernel, by decide +kernel⟩
theorem ok_twice {f : Addr} {fd : FuncData} (F : Fun K "twice_is_fair" "TryRule.twice_is_fair" sTwice f fd) (D : Df P w K mg base 1 "are_fair" ["rule", "x", "y"] (spFair K)) : FnOk P w K mg base CX0 2 f fd ["self", "light", "inner", "outer", "near"] (spTwice K) := by
  obtain ⟨f1, fd1, G1, g1, k1, b1⟩ := D.ex
  refine F.ok scTwice (fun vs H Q E h => ?_) (fun cdv A outer s H vs Q E hr h => ?_)
  · obtain ⟨r, p, q, k, l, i, o, n, rfl, _⟩ := h
    rfl
  · obtain ⟨r, p, q, k, l, i, o, n, rfl, R, kk⟩ := h
    refine ⟨_, pss_cons (ps_set (i := 5) scTwice.nd rfl (.inl rfl) (pe_op op_sub (pv 2) (pv 4)))
      (pss_one (ps_ret (pe_and (pe_call G1 hr (by rfl) g1 k1 b1 .nil pass0 (pa_cons (pv 0) (pa_cons (pv 1) (pa_cons (pv 4) pa_nil))))
        (pe_and (pe_call G1 hr (by rfl) g1 k1 b1 .nil pass0 (pa_cons (pv 0) (pa_cons (pv 5) (pa_cons (pv 3) pa_nil))))
        (pe_one (pe_call G1 hr (by rfl) g1 k1 b1 .nil pass0 (pa_cons (pv 0) (pa_cons (pe_op op_add (pv 1) (pv 4)) (pa_cons (pe_op op_add (pv 5) (pv 3)) pa_nil))))))))), ?_⟩
    refine ⟨_, rfl, _, rfl, _, _, rfl, rfl, _, rfl, _, rfl, _, rfl, r, p, q, k, _, _, rfl, R, _, rfl, ite2 (fun e => ?_) (fun e => ?_)⟩
    · rw [e, Bool.true_and] at kk
      refine ⟨_, rfl, _, rfl, _, rfl, r, p, q, k, _, _, rfl, R, _, rfl, ite2 (fun e => ?_) (fun e => ?_)⟩
      · rw [show fairB p q k (i - n) o = true from e, Bool.true_and] at kk
        exact ⟨_, rfl, _, rfl, _, rfl, _, _, rfl, rfl, _, rfl, _, rfl, _, _, rfl, rfl, r, p, q, k, _, _, rfl, R, kk⟩
      · rw [show fairB p q k (i - n) o = false from Bool.eq_false_iff.mpr e, Bool.false_and] at kk
        exact kk
    · rw [Bool.eq_false_iff.mpr e, Bool.false_and] at kk
      exact kk
end
end Ev
namespace Ev
open PySem L2 PySem.Spec PyProof.Rows
theorem same_new {H : Hp} {q : Addr} {o : HO} (n : H q = none) : Same H (upd H q o) := fun b u e => by rw [upd_ne (ne_of_none e n)]; exact e
theorem lk_hit {k : Str} {v : V} {l : List (Str × V)} : List.lookup k ((k, v) :: l) = some v := by simp [List.lookup]
theorem lk_miss {k k' : Str} {v : V} {l : List (Str × V)} (h : ¬ k = k') : List.lookup k ((k', v) :: l) = List.lookup k l := by
  have : (k == k') = false := by simpa using h
  simp [List.lookup, this]
theorem try_times (a : Addr) (k : Int) : (tryF a k).lookup ("times" : Str) = some (.ref a) := lk_hit
theorem try_plus (a : Addr) (k : Int) : (tryF a k).lookup ("plus" : Str) = some (.int k) := (lk_miss (by decide +kernel)).trans lk_hit
theorem turn_times (a : Addr) (k : Int) (b : Addr) (c : Int) : (turnF a k b c).lookup ("times" : Str) = some (.ref a) := lk_hit
theorem turn_plus (a : Addr) (k : Int) (b : Addr) (c : Int) : (turnF a k b c).lookup ("plus" : Str) = some (.int k) := (lk_miss (by decide +kernel)).trans lk_hit
theorem turn_turn (a : Addr) (k : Int) (b : Addr) (c : Int) : (turnF a k b c).lookup ("turn" : Str) = some (.ref b) := (lk_miss (by decide +kernel)).trans ((lk_miss (by decide +kernel)).trans lk_hit)
theorem turn_tp (a : Addr) (k : Int) (b : Addr) (c : Int) : (turnF a k b c).lookup ("turn_plus" : Str) = some (.int c) := (lk_miss (by decide +kernel)).trans ((lk_miss (by decide +kernel)).trans ((lk_miss (by decide +kernel)).trans lk_hit))
theorem try_no (a : Addr) (k : Int) {m : Str} (h1 : ¬ m = "times") (h2 : ¬ m = "plus") : (tryF a k).lookup m = none := (lk_miss h1).trans ((lk_miss h2).trans rfl)
theorem turn_no (a : Addr) (k : Int) (b : Addr) (c : Int) {m : Str} (h1 : ¬ m = "times") (h2 : ¬ m = "plus") (h3 : ¬ m = "turn") (h4 : ¬ m = "turn_plus") : (turnF a k b c).lookup m = none := (lk_miss h1).trans ((lk_miss h2).trans ((lk_miss h3).trans ((lk_miss h4).trans rfl)))
theorem put_try (a : Addr) (k : Int) : putF "plus" (.int k) (putF "times" (.ref a) []) = tryF a k := by
  show (if ("times" : Str) = "plus" then _ else _) = _
  rw [if_neg (by decide +kernel)]
  rfl
theorem put_turn1 (a : Addr) (k : Int) (b : Addr) : putF "turn" (V.ref b) (tryF a k) = ([("times", V.ref a), ("plus", V.int k), ("turn", V.ref b)] : List (Str × V)) := by
  show (if ("times" : Str) = "turn" then _ else _ :: (if ("plus" : Str) = "turn" then _ else _)) = _
  rw [if_neg (by decide +kernel), if_neg (by decide +kernel)]
  rfl
theorem put_turn2 (a : Addr) (k : Int) (b : Addr) (c : Int) : putF "turn_plus" (.int c) (putF "turn" (.ref b) (tryF a k)) = turnF a k b c := by
  rw [put_turn1]
  show (if ("times" : Str) = "turn_plus" then _ else _ :: (if ("plus" : Str) = "turn_plus" then _ else _ :: (if ("turn" : Str) = "turn_plus" then _ else _))) = _
  rw [if_neg (by decide +kernel), if_neg (by decide +kernel), if_neg (by decide +kernel)]
  rfl
/-- a class of rules -/
structure RCls (K : PySem.W.Frag) (C : Addr) : Prop where
  cl : Cls K C
  n1 : NoAttr K C "times"
  n2 : NoAttr K C "plus"
  n3 : NoAttr K C "turn"
  n4 : NoAttr K C "turn_plus"
def spTryInit (C : Addr) : Sp := fun vs H Q _ => ∃ (x dx a : Addr) (p q k : Int), vs = [.ref x, .ref a, .int k] ∧ H x = some (.ins C dx []) ∧ H a = some (.tup [.int p, .int q]) ∧ 1 ≤ q ∧ q ≤ p ∧ p ≤ 6 ∧ -6 ≤ k ∧ k ≤ 6 ∧ 2 * q ≤ p + k ∧
  ∀ H', But x H H' → H' x = some (.ins C dx (tryF a k)) → Q .non H'
def spTurnInit (C : Addr) : Sp := fun vs H Q _ => ∃ (x dx a b : Addr) (p q k t s c : Int), vs = [.ref x, .ref a, .int k, .ref b, .int c] ∧ H x = some (.ins C dx []) ∧ H a = some (.tup [.int p, .int q]) ∧ H b = some (.tup [.int t, .int s]) ∧
  1 ≤ q ∧ q ≤ p ∧ p ≤ 6 ∧ -6 ≤ k ∧ k ≤ 6 ∧ 2 * q ≤ p + k ∧ (1 ≤ t ∧ t ≤ 8) ∧ (1 ≤ s ∧ s ≤ 8) ∧ -6 ≤ c ∧ c ≤ 6 ∧ ∀ H', But x H H' → H' x = some (.ins C dx (turnF a k b c)) → Q .non H'
section
variable {P : Program} {w : World} {K : PySem.W.Frag} {mg : Str → Option Value} {base : Heap}
theorem scTryInit : FnScope ["self", "times", "plus"] ["self", "times", "plus"] (defScope sTryInit) := ⟨rfl, rfl, rfl, by decide +kernel, rfl, by decide +kernel, by decide +kernel⟩
theorem ok_tryInit {f C : Addr} {fd : FuncData} {dvs : List V} {kws : List (Str × V)} (F : FunD K "__init__" "TryRule.__init__" (defArgs sTryInit) (defBody sTryInit) (defScope sTryInit) dvs kws f fd) (T : RCls K C) (D1 : Df P w K mg base 5 "need_times" ["times", "plus"] (spNeedT K))
    (D2 : Df P w K mg base 2 "need_halves" ["times", "plus"] (spNeedH K)) : FnOk P w K mg base CX0 6 f fd ["self", "times", "plus"] (spTryInit C) := by
  obtain ⟨f1, fd1, G1, g1, k1, bb1⟩ := D1.ex
  obtain ⟨f2, fd2, G2, g2, k2, bb2⟩ := D2.ex
  refine F.ok scTryInit (fun vs H Q E h => ?_) (fun cdv A outer s H vs Q E hr h => ?_)
  · obtain ⟨x, dx, a, p, q, k, rfl, _⟩ := h
    rfl
  · obtain ⟨x, dx, a, p, q, k, rfl, hx, ha, h1, h2, h3, h4, h5, h6, kk⟩ := h
    refine ⟨_, PSs.nox (pss_cons (ps_expr (pe_call G1 hr (by rfl) g1 k1 bb1 .nil pass0 (pa_cons (pv 1) (pa_cons (pv 2) pa_nil))))
      (pss_cons (ps_expr (pe_call G2 (hr.mono (by decide)) (by rfl) g2 k2 bb2 .nil pass0 (pa_cons (pv 1) (pa_cons (pv 2) pa_nil))))
      (pss_cons (ps_fld (pv 0) (pv 1) rfl) (pss_one (ps_fld (pv 0) (pv 2) rfl))))), ?_⟩
    refine ⟨_, rfl, _, rfl, a, p, q, k, rfl, ha, h1, h2, h3, h4, h5, fun H1 s1 => ?_⟩
    refine ⟨_, rfl, _, rfl, a, p, q, k, rfl, s1 _ _ ha, by omega, h6, ?_⟩
    refine ⟨_, rfl, _, rfl, x, C, dx, _, rfl, s1 _ _ hx, T.cl, T.n1, (by show 0 < 1000; decide), _, rfl, _, rfl, x, C, dx, _, rfl, upd_same, T.cl, T.n2, (by show 1 < 1000; decide), ?_⟩
    refine kk _ ((Same.but s1).trans (But.upd_at.trans But.upd_at)) ?_
    rw [upd_same, put_try]
theorem scTurnInit : FnScope ["self", "times", "plus", "turn", "turn_plus"] ["self", "times", "plus", "turn", "turn_plus"] (defScope sTurnInit) := ⟨rfl, rfl, rfl, by decide +kernel, rfl, by decide +kernel, by decide +kernel⟩
theorem ok_turnInit {f C : Addr} {fd : FuncData} {dvs : List V} {kws : List (Str × V)} (F : FunD K "__init__" "TurnRule.__init__" (defArgs sTurnInit) (defBody sTurnInit) (defScope sTurnInit) dvs kws f fd) (T : RCls K C) (D1 : Df P w K mg base 5 "need_times" ["times", "plus"] (spNeedT K))
    (D2 : Df P w K mg base 2 "need_halves" ["times", "plus"] (spNeedH K)) (D3 : Df P w K mg base 4 "is_turn" ["value"] (spTurn K)) (D4 : Df P w K mg base 3 "is_plus" ["value"] spPlus) : FnOk P w K mg base CX0 6 f fd ["self", "times", "plus", "turn", "turn_plus"] (spTurnInit C) := by
  obtain ⟨f1, fd1, G1, g1, k1, bb1⟩ := D1.ex
  obtain ⟨f2, fd2, G2, g2, k2, bb2⟩ := D2.ex
  obtain ⟨f3, fd3, G3, g3, k3, bb3⟩ := D3.ex
  obtain ⟨f4, fd4, G4, g4, k4, bb4⟩ := D4.ex
  refine F.ok scTurnInit (fun vs H Q E h => ?_) (fun cdv A outer s H vs Q E hr h => ?_)
  · obtain ⟨x, dx, a, b, p, q, k, t, s, c, rfl, _⟩ := h
    rfl
  · obtain ⟨x, dx, a, b, p, q, k, t, s, c, rfl, hx, ha, hb, h1, h2, h3, h4, h5, h6, h7, h8, h9, h10, kk⟩ := h
    refine ⟨_, PSs.nox (pss_cons (ps_expr (pe_call G1 hr (by rfl) g1 k1 bb1 .nil pass0 (pa_cons (pv 1) (pa_cons (pv 2) pa_nil))))
      (pss_cons (ps_if (pt_not (pt_val (pe_call G3 (hr.mono (by decide)) (by rfl) g3 k3 bb3 .nil pass0 (pa_cons (pv 3) pa_nil)))) (pss_one ps_never) pss_nil)
      (pss_cons (ps_if (pt_not (pt_val (pe_call G4 (hr.mono (by decide)) (by rfl) g4 k4 bb4 .nil pass0 (pa_cons (pv 4) pa_nil)))) (pss_one ps_never) pss_nil)
      (pss_cons (ps_expr (pe_call G2 (hr.mono (by decide)) (by rfl) g2 k2 bb2 .nil pass0 (pa_cons (pv 1) (pa_cons (pv 2) pa_nil))))
      (pss_cons (ps_fld (pv 0) (pv 1) rfl) (pss_cons (ps_fld (pv 0) (pv 2) rfl) (pss_cons (ps_fld (pv 0) (pv 3) rfl) (pss_one (ps_fld (pv 0) (pv 4) rfl))))))))), ?_⟩
    refine ⟨_, rfl, _, rfl, a, p, q, k, rfl, ha, h1, h2, h3, h4, h5, fun H1 s1 => ?_⟩
    refine ⟨_, rfl, b, t, s, rfl, s1 _ _ hb, h7, h8, fun H2 s2 => ⟨true, rfl, iteF ?_⟩⟩
    refine ⟨_, rfl, c, rfl, h9, h10, true, rfl, iteF ?_⟩
    have s3 := s1.trans s2
    refine ⟨_, rfl, _, rfl, a, p, q, k, rfl, s3 _ _ ha, by omega, h6, ?_⟩
    refine ⟨_, rfl, _, rfl, x, C, dx, _, rfl, s3 _ _ hx, T.cl, T.n1, (by show 0 < 1000; decide), _, rfl, _, rfl, x, C, dx, _, rfl, upd_same, T.cl, T.n2, (by show 1 < 1000; decide), ?_⟩
    refine ⟨_, rfl, _, rfl, x, C, dx, _, rfl, upd_same, T.cl, T.n3, (by rw [put_try]; show 2 < 1000; decide), _, rfl, _, rfl, x, C, dx, _, rfl, upd_same, T.cl, T.n4, (by rw [put_try, put_turn1]; show 3 < 1000; decide), ?_⟩
    refine kk _ ((Same.but s3).trans (But.upd_at.trans (But.upd_at.trans (But.upd_at.trans But.upd_at)))) ?_
    rw [upd_same, put_try, put_turn2]
end
end Ev
namespace Ev
open PySem L2 PySem.Spec PyProof.Rows
/-! Promises of defs that are called while no repr is under way (so what they make can be shown). -/
structure FnG (P : Program) (w : World) (K : PySem.W.Frag) (mg : Str → Option Value) (base : Heap) (k : Nat) (f : Addr)
    (fd : FuncData) (ps : List Str) (sp : Sp) : Prop where
  many : ∀ vs H Q E, sp vs H Q E → vs.length = ps.length
  goes : ∀ (A : Around) (above : List Env) (s : Shared) (H : Hp) (args : Args) (us : List Value) (vs : List V) (Q : VK)
    (E : XK), Room k A → A.guards = some [] → Env0 P w K mg base A above s H → BindsTo s fd args (ps.zip us) → Vals vs us →
    sp vs H Q E → codeAny (model P w) A (.call (.ref f) args) (CR CX0 above P w H s Q E) s
theorem FnG.of {P : Program} {w : World} {K : PySem.W.Frag} {mg : Str → Option Value} {base : Heap} {k : Nat} {f : Addr}
    {fd : FuncData} {ps : List Str} {sp : Sp} (F : FnOk P w K mg base CX0 k f fd ps sp) : FnG P w K mg base k f fd ps sp :=
  ⟨F.len, fun A above s H args us vs Q E hr _ => F.run A above s H args us vs Q E hr⟩
section
variable {P : Program} {w : World} {K : PySem.W.Frag} {mg : Str → Option Value} {base : Heap}
/-- a def by its body, where no repr is under way -/
theorem fng_of {x qual : Str} {st : Stmt} {f : Addr} {fd : FuncData} {N ps : List Str} {k : Nat} {sp : Sp} (F : Fun K x qual st f fd)
    (S : FnScope N ps (defScope st)) (many : ∀ vs H Q E, sp vs H Q E → vs.length = ps.length)
    (body : ∀ (cdv : Value) (A : Around) (above : List Env) (s : Shared) (H : Hp) (vs : List V) (Q : VK) (E : XK),
      Room k (A.deeper (envOfC qual (defScope st) s.heap.objs.size f cdv)) → A.guards = some [] → sp vs H Q E →
      ∃ t, PSs (cxOf CX0 P w K mg base N qual (defScope st) f cdv A above s H E).nox (defBody st) t ∧
        t { nx := fun _ H' => Q .non H', rt := Q } (start N vs) H) : FnG P w K mg base (k + 1) f fd ps sp := by
  obtain ⟨oc, od, kV, doc, pm, an, cdv, ct, osl, rfl, lk, hcd⟩ := F.ex
  constructor
  · exact many
  · intro A above s H args us vs Q E room gd env bt rv hs
    have inK : K.In s.heap := env.mod.kin.keeps fun b o e => (env.bs b o e).1
    have noLim : s.heap.NoLimit := env.mod.nolimit.keeps fun b o e => (env.bs b o e).1
    have kinds : ∀ y ∈ ps.zip us, (defScope st).names.lookup y.1 = some .local ∨
        ((defScope st).names.lookup y.1 = some .cell ∧ ((cellsFrom (s.heap.objs.size + 1) (defScope st).names []).lookup y.1).isSome = true) := by
      rintro ⟨n, v⟩ hy
      cases S.par n (List.of_mem_zip hy).1 with
      | inl q => exact .inl q
      | inr q => exact .inr ⟨q, PySem.W.cellsFrom_some _ _ _ (.inl q)⟩
    refine codeAny_call_function room.depth (inK _ _ lk) rfl S.co S.gen rfl (PySem.W.codeRec_of inK hcd) (bt _ _ _ _ ?_)
    refine wpAny_newFunctionEnv_cells S.kind kinds fun e2 he s2 x => ?_
    subst he
    refine ⟨noLim.keeps x.toInCall.keep, codeAny_func ?_⟩
    obtain ⟨t, ht, hq⟩ := body cdv A above s H vs Q E (room.deeper _) gd hs
    have inv := inv_start (CX := CX0) (E := E) S room.hd env (many _ _ _ _ hs) rv x
    refine wpAny_mono (ht.nox.run [] s2 (start N vs) H _ inv hq) (fun fl s3 h3 => ?_) fun e s3 h3 => h3
    cases fl with
    | ret u =>
      obtain ⟨v, σ3, H3, J, rr, q⟩ := h3
      exact ⟨v, H3, J.os, J.bare, J.base, J.hok, rr, q⟩
    | next =>
      obtain ⟨σ3, H3, J, q⟩ := h3
      exact ⟨.non, H3, J.os, J.bare, J.base, J.hok, rfl, q⟩
    | brk =>
      obtain ⟨_, _, _, z⟩ := h3
      exact False.elim z
    | cont =>
      obtain ⟨_, _, _, z⟩ := h3
      exact False.elim z
end
section
variable {X : Cx}
/-- f(e, ..) of such a def -/
theorem pe_callG {k : Nat} {f : Addr} {fd : FuncData} {ps : List Str} {sp : Sp} {E : XK} {x : Str} {p pos : Pos} {e : Expr} {es : List Expr} {t : TA}
    (F : FnG X.prog X.w X.K X.mg X.base k f fd ps sp) (room : Room k X.A) (gd : X.A.guards = some []) (hg : Gl X x)
    (hm : X.mg x = some (.ref f)) (kp : PySem.W.keepIn X.K (.ref f) = true) (hb : Binds X.K fd ps []) (ha : PA X (e :: es) t)
    (hdb : (x == ("__debug__" : Str)) = false := by decide)
    (he : starEach (e :: es) X.env = (false, eval e X.env) :: starEach es X.env := by rfl)
    (hpl : (backTo pos (starEach es X.env)).any (·.1) = false := by rfl) :
    PE X (.Call (.Name x p) (e :: es) [] pos) (tCall sp [] E t) := by
  constructor
  intro pins s σ H Q I h
  refine wpAny_Call_Name_kw (ld_glob I hg hm ?_ hdb)
  refine PySem.W.callWith_K (h₀ := X.base) I.ok.mod.kin kp (thn (ha.run pos pins s σ H _ I h) fun us s1 d => ?_) he hpl
  obtain ⟨vs, H1, I1, rv, q⟩ := d
  refine ⟨I1.kIn, ?_⟩
  have q : sp vs H1 Q E := by
    have q' : sp (vs ++ []) H1 Q E := q
    rw [List.append_nil] at q'
    exact q'
  have hl : us.length = ps.length := rv.length.symm.trans (F.many _ _ _ _ q)
  have bt := hb s1 us I1.kIn (by rw [List.append_nil]; exact hl)
  rw [List.append_nil] at bt
  refine wpAny_call (codeAny_mono (F.goes X.A X.stack s1 H1 ⟨us, []⟩ us vs Q E room gd I1.env0 bt rv q) fun r s2 h2 => ?_)
  cases r with
  | error e => exact False.elim h2
  | ok fl =>
    cases fl with
    | ret u => exact I1.after h2
    | next => exact False.elim h2
    | brk => exact False.elim h2
    | cont => exact False.elim h2
/-- repr of data, where none is under way -/
def rRepr (K : PySem.W.Frag) : List V → Hp → VK → Prop := fun xs H Q => ∃ (a : Addr) (d : PyData), xs = [.ref a] ∧ Dp K H (.ref a) d ∧
  d.showable = true ∧ d.hasDict = false ∧ d.depth ≤ 32 ∧ d.shown.length ≤ sizeLine ∧ Q (.str d.shown) H
theorem call_repr (gd : X.A.guards = some []) (hu : X.A.units + 64 < cLine) : CallR X (.builtin "repr") (rRepr X.K) := by
  intro pins s σ H xs us Q I r h
  obtain ⟨a, d, rfl, hd, h1, h2, h3, h4, q⟩ := h
  cases r with
  | cons r1 r2 =>
    cases r2
    cases r1
    obtain ⟨as, rd⟩ := Dp.reads I d (.ref a) (.ref a) hd rfl
    exact repr_of_reads' rd h1 (fun z => by rw [h2] at z; cases z) gd (by omega) (fun _ _ e => e)
      (fun h' u tk hk => ⟨.str d.shown, H, I.kept hk, ⟨u, rfl⟩, q⟩) h4
end
/-! ### the law's own call -/
section
variable {P : Program} {w : World} {K : PySem.W.Frag} {mg mb : Str → Option Value}
theorem law_callG {k : Nat} {fa a : Addr} {fd : FuncData} {x : Str} {sp : Sp} {s : Shared} {vs : List Value} {ns : List Int}
    (inK : K.In s.heap) (ns1 : s.heap.Ns mainGlobals mg) (ns2 : s.heap.Ns builtinsNs mb) (blt : ∀ x : Str, x ≠ "__name__" → mb x = bootBuiltins x)
    (noLim : s.heap.NoLimit) (hg : s.gens = #[]) (ha : s.heap.get? a = some { cls := .type "list", data := .seq vs.toArray })
    (hi : IntsAre vs ns) (hl : ns.length ≤ sizeLine) (hr : Room k callerA)
    (F : ∀ base : Heap, K.In base → base.Ns mainGlobals mg → FnG P w K mg base k fa fd [x] sp)
    (bt : ∀ (s : Shared) (u : Value), BindsTo s fd ⟨[u], []⟩ [(x, u)])
    (hsp : ∀ H : Hp, SqL K H a (ns.map V.int) → sp [.ref a] H (fun v _ => v = .bl true) fun _ _ _ => False) :
    codeAny (model P w) callerA (.call (.ref fa) ⟨[.ref a], []⟩)
      (fun r s' => r = .ok (.ret (.bool true)) ∧ OldK s.heap s'.heap ∧ s'.os = s.os ∧ AllBare s'.gens) s := by
  have rv := vals_ints hi
  have lv := hi.length
  have key : ∀ H : Hp, (∀ b u, H b = some u → b = a ∧ K.lookup a = none ∧ u = .frz { cls := .type "list", data := .seq vs.toArray } (.lst (ns.map V.int))) →
      SqL K H a (ns.map V.int) → codeAny (model P w) callerA (.call (.ref fa) ⟨[.ref a], []⟩)
        (fun r s' => r = .ok (.ret (.bool true)) ∧ OldK s.heap s'.heap ∧ s'.os = s.os ∧ AllBare s'.gens) s := by
    intro H only sq
    have ok : HOk P w H s.heap := by
      intro b u e
      obtain ⟨rfl, _, rfl⟩ := only b u e
      exact ⟨ha, by rw [List.length_map]; exact hl, vs, _, rv, ha⟩
    have plain : ∀ {b : Addr} {o : Obj} {es : Array DictEntry} {n : Nat}, s.heap.get? b = some o → o.data = .dict es n → H b = none := by
      intro b o es n e d
      cases q : H b with
      | none => rfl
      | some u =>
        obtain ⟨rfl, _, _⟩ := only b u q
        rw [ha] at e
        cases e
        exact nomatch d
    have names : ∀ {b : Addr} {m : Str → Option Value}, s.heap.Ns b m → (hidT s.heap H).Ns b m := by
      rintro b m ⟨o, es, n, e, d, r⟩
      exact ⟨o, es, n, hidT_get e (plain e d), d, r⟩
    have inB : K.In (hidT s.heap H) := by
      intro b o e
      refine hidT_get (inK b o e) ?_
      cases q : H b with
      | none => rfl
      | some u =>
        obtain ⟨rfl, n, _⟩ := only b u q
        rw [n] at e
        cases e
    obtain ⟨mc, l1, l2⟩ := noLim
    have md : Mod K mg (hidT s.heap H) := ⟨inB, names ns1, ⟨mb, names ns2, blt⟩, ⟨mc, names l1, l2⟩⟩
    have env : Env0 P w K mg (hidT s.heap H) callerA [] s H :=
      ⟨rfl, md, fun b o e => of_hidT e, Nat.le_of_eq (hidT_size _ _), trivial, (fun b hb => by cases hb), ok, .of_eq hg⟩
    have go := (F _ inB (names ns1)).goes callerA [] s H ⟨[.ref a], []⟩ [.ref a] [.ref a] _ _ hr rfl env (bt s (.ref a)) (.cons rfl .nil) (hsp H sq)
    refine codeAny_mono go fun r s2 h2 => ?_
    cases r with
    | error e => exact False.elim h2
    | ok fl =>
      cases fl with
      | next => exact False.elim h2
      | brk => exact False.elim h2
      | cont => exact False.elim h2
      | ret u =>
        obtain ⟨v, H2, os, bare, un, ok2, rr, q⟩ := h2
        obtain rfl : v = V.bl true := q
        obtain rfl : u = Value.bool true := rr
        refine ⟨rfl, OldK.of_keep fun b o e => ?_, os, bare⟩
        cases q : H b with
        | none => exact un.keep b o e q (by intro z; cases z) (by simp)
        | some u =>
          obtain ⟨rfl, _, rfl⟩ := only b u q
          obtain ⟨e1, _⟩ := ok b _ q
          obtain ⟨e2, _⟩ := ok2 b _ (un.frzs b _ _ q)
          rw [e] at e1
          cases e1
          exact e2
  cases hk : K.lookup a with
  | none =>
    refine key (fun b => if b = a then some (.frz { cls := .type "list", data := .seq vs.toArray } (.lst (ns.map V.int))) else none) (fun b u e => ?_) (.inl (.inr ⟨_, if_pos rfl⟩))
    by_cases z : b = a
    · rw [if_pos z] at e
      cases e
      exact ⟨z, hk, rfl⟩
    · rw [if_neg z] at e
      cases e
  | some o =>
    have e := inK a o hk
    rw [ha] at e
    cases e
    refine key (fun _ => none) (fun b u e => by cases e) (.inr ⟨_, vs.toArray, _, hk, rfl, rfl, rfl, ?_, by simpa using rv⟩)
    rw [List.size_toArray, lv]
    exact hl
end
theorem walk_ofG {l : PySem.W.OpenLaw} {n k : Nat} {q : Program} {loose : List Str} {XP : (Str → Option Value) → Heap → Prop} {YP : World → Heap → Prop}
    {d : DefRec} {K : Params → PySem.W.Frag} {sp : World → Sp} {x : Str} (hn : l.most = some n) (hn2 : n ≤ sizeLine) (hdf : d.params.defaults = [])
    (hr : Room k callerA) (hY : ∀ (w : World) (h : Heap), YP w h → (K w.params).In h)
    (F : ∀ (w : World) (mg : Str → Option Value) (fa : Addr) (h : Heap), (K w.params).In h → h.Ns mainGlobals mg → mg d.name = some (.ref fa) →
      ∃ fd : FuncData, (∀ (s : Shared) (u : Value), BindsTo s fd ⟨[u], []⟩ [(x, u)]) ∧
        ∀ base : Heap, (K w.params).In base → base.Ns mainGlobals mg → FnG l.prog w (K w.params) mg base k fa fd [x] (sp w))
    (hsp : ∀ (w : World) (H : Hp) (a : Addr) (ns : List Int), ns.length ≤ n → SqL (K w.params) H a (ns.map V.int) → sp w [.ref a] H (fun v _ => v = .bl true) fun _ _ _ => False) :
    PySem.W.WalkO q loose XP YP l.row.toRowW d [] (fun f vs => PySem.call f vs) := by
  refine Att.attach_call hn hdf fun w s0 s1 mg mb fa o pm cd doc a vs ns G Y h1 h2 h3 h4 h5 h6 h7 h8 => ?_
  obtain ⟨fd, bt, hF⟩ := F w mg fa _ (hY w _ Y) G.T.g h4
  exact law_callG (hY w _ Y) G.T.g G.T.b G.T.builtins G.T.nolimit h8 h5 h6 (Nat.le_trans h7 hn2) hr hF bt (fun H sq => hsp w H a ns h7 sq)
end Ev
namespace Ev
open PySem L2 PySem.Spec PyProof.Rows
theorem walk_ofGE {l : PySem.W.OpenLaw} {n k : Nat} {q : Program} {loose : List Str} {XP : (Str → Option Value) → Heap → Prop} {YP : World → Heap → Prop}
    {d : DefRec} {x : Str} (hn : l.most = some n) (hn2 : n ≤ sizeLine) (hdf : d.params.defaults = []) (hr : Room k callerA)
    (F : ∀ (w : World) (mg : Str → Option Value) (fa : Addr) (h : Heap), YP w h → h.Ns mainGlobals mg → mg d.name = some (.ref fa) →
      ∃ (K : PySem.W.Frag) (fd : FuncData) (sp : Sp), K.In h ∧ (∀ (s : Shared) (u : Value), BindsTo s fd ⟨[u], []⟩ [(x, u)]) ∧
        (∀ (H : Hp) (a : Addr) (ns : List Int), ns.length ≤ n → SqL K H a (ns.map V.int) → sp [.ref a] H (fun v _ => v = .bl true) fun _ _ _ => False) ∧
        ∀ base : Heap, K.In base → base.Ns mainGlobals mg → FnG l.prog w K mg base k fa fd [x] sp) :
    PySem.W.WalkO q loose XP YP l.row.toRowW d [] (fun f vs => PySem.call f vs) := by
  refine Att.attach_call hn hdf fun w s0 s1 mg mb fa o pm cd doc a vs ns G Y h1 h2 h3 h4 h5 h6 h7 h8 => ?_
  obtain ⟨K, fd, sp, inK, bt, hsp, hF⟩ := F w mg fa _ Y G.T.g h4
  exact law_callG inK G.T.g G.T.b G.T.builtins G.T.nolimit h8 h5 h6 (Nat.le_trans h7 hn2) hr hF bt (fun H sq => hsp H a ns h7 sq)
end Ev
namespace Ev
open PySem L2 PySem.Spec PyProof.Rows
theorem Pen.new {L : Addr} {H : Hp} {p q : Addr} {B : Int} {o : HO} (h : Pen L H p B) (n : H q = none) : Pen L (upd H q o) p B := h.keep (fun b u e => by rw [upd_ne (ne_of_none e n)]; exact e)
theorem Pen.some {L : Addr} {H : Hp} {p : Addr} {B : Int} (h : Pen L H p B) : ∃ xs, H p = some (.lst xs) := by
  obtain ⟨ns, t, c, h1, _⟩ := h
  exact ⟨_, h1⟩
theorem Pen.ne {L : Addr} {H : Hp} {p q : Addr} {B : Int} (h : Pen L H p B) (n : H q = none) : q ≠ p := by
  obtain ⟨xs, e⟩ := h.some
  exact (ne_of_none e n).symm
theorem But.free {L p a : Addr} {H H' : Hp} {B : Int} (t : But p H H') (h : Pen L H' p B) (n : H' a = none) : H a = none := by
  cases e : H a with
  | none => rfl
  | some o =>
    have := t a o (h.ne n) e
    rw [n] at this
    cases this
def spPick : Sp := fun vs H Q _ => ∃ (p l L : Addr) (xs : List V) (B : Int), vs = [.ref p, .ref l] ∧ H l = some (.lst xs) ∧ l ≠ p ∧ 1 ≤ xs.length ∧ xs.length ≤ 1000 ∧ B ≤ 1000000 ∧ Pen L H p B ∧
  ∀ (d : V) (H' : Hp), d ∈ xs → But p H H' → Pen L H' p (B + 1) → Q d H'
inductive Row
  | tr (p q k : Int)
  | tn (p q k t s c : Int)
def Row.vs : Row → List V
  | .tr p q k => [.int p, .int q, .int k]
  | .tn p q k t s c => [.int p, .int q, .int k, .int t, .int s, .int c]
def Row.p : Row → Int
  | .tr p _ _ => p
  | .tn p _ _ _ _ _ => p
def Row.q : Row → Int
  | .tr _ q _ => q
  | .tn _ q _ _ _ _ => q
def Row.k : Row → Int
  | .tr _ _ k => k
  | .tn _ _ k _ _ _ => k
def okN (p q k : Int) : Prop := 1 ≤ q ∧ q ≤ p ∧ p ≤ 6 ∧ -6 ≤ k ∧ k ≤ 6 ∧ 2 * q ≤ p + k
def okT (t s c : Int) : Prop := (1 ≤ t ∧ t ≤ 8) ∧ (1 ≤ s ∧ s ≤ 8) ∧ -6 ≤ c ∧ c ≤ 6
def Row.ok : Row → Prop
  | .tr p q k => okN p q k
  | .tn p q k t s c => okN p q k ∧ okT t s c
def spNums : Sp := fun vs H Q _ => ∃ (p L : Addr) (B : Int), vs = [.ref p] ∧ B ≤ 900000 ∧ Pen L H p B ∧
  ∀ (a : Addr) (p' q k t s c : Int) (H' : Hp), okN p' q k → okT t s c → H a = none → H' a = some (.tup (Row.tn p' q k t s c).vs) → But p H H' → Pen L H' p (B + 9) → Q (.ref a) H'
section
variable {P : Program} {w : World} {K : PySem.W.Frag} {mg : Str → Option Value} {base : Heap}
theorem scPick : FnScope ["_law_pen_here", "_law_some"] ["_law_pen_here", "_law_some"] (defScope sPick) := ⟨rfl, rfl, rfl, by decide +kernel, rfl, by decide +kernel, by decide +kernel⟩
theorem ok_pick {f : Addr} {fd : FuncData} (F : Fun K "_law_pick" "_law_pick" sPick f fd) (T : Blt mg) (D : Df P w K mg base 1 "_law_draw" ["_law_pen_here", "_law_many"] spDraw) : FnOk P w K mg base CX0 2 f fd ["_law_pen_here", "_law_some"] spPick := by
  obtain ⟨f1, fd1, G1, g1, k1, b1⟩ := D.ex
  refine F.ok scPick (fun vs H Q E h => ?_) (fun cdv A outer s H vs Q E hr h => ?_)
  · obtain ⟨p, l, L, xs, B, rfl, _⟩ := h
    rfl
  · obtain ⟨p, l, L, xs, B, rfl, hl, hne, x1, x2, hB, hp, kk⟩ := h
    refine ⟨_, pss_one (ps_ret (pe_ix ix_list (pv 1) (pe_call G1 hr (by rfl) g1 k1 b1 .nil pass0 (pa_cons (pv 0) (pa_cons (pe_callB call_len_seq (by rfl) T.len PySem.boot_len (pa_cons (pv 1) pa_nil)) pa_nil))) (fun _ _ => rfl))), ?_⟩
    refine ⟨_, rfl, _, rfl, _, rfl, l, _, rfl, .inl (SqL.of hl), p, L, _, B, rfl, by omega, by omega, hB, hp, fun d H1 bt pn d0 d1 => ?_⟩
    obtain ⟨j, rfl⟩ := Int.eq_ofNat_of_zero_le d0
    have hj : j < xs.length := by omega
    refine ⟨l, xs, _, xs[j], rfl, rfl, SqL.of (bt _ _ hne hl), atI_nat (List.getElem?_eq_getElem hj), ?_⟩
    exact kk _ _ (List.getElem_mem hj) bt pn
end
end Ev
namespace Ev
open PySem L2 PySem.Spec PyProof.Rows
def ObjAt (Ct Cn : Addr) (H : Hp) (r : Addr) : Row → Prop
  | .tr p q k => ∃ dx a : Addr, H r = some (.ins Ct dx (tryF a k)) ∧ H a = some (.tup [.int p, .int q])
  | .tn p q k t s c => ∃ dx a b : Addr, H r = some (.ins Cn dx (turnF a k b c)) ∧ H a = some (.tup [.int p, .int q]) ∧ H b = some (.tup [.int t, .int s])
theorem ObjAt.keep {Ct Cn : Addr} {H H' : Hp} {r : Addr} {row : Row} (h : ObjAt Ct Cn H r row) (k : Same H H') : ObjAt Ct Cn H' r row := by
  cases row with
  | tr p q kk =>
    obtain ⟨dx, a, h1, h2⟩ := h
    exact ⟨dx, a, k _ _ h1, k _ _ h2⟩
  | tn p q kk t s c =>
    obtain ⟨dx, a, b, h1, h2, h3⟩ := h
    exact ⟨dx, a, b, k _ _ h1, k _ _ h2, k _ _ h3⟩
theorem ObjAt.but {Ct Cn p : Addr} {H H' : Hp} {r : Addr} {row : Row} {xs : List V} (h : ObjAt Ct Cn H r row) (hp : H p = some (.lst xs)) (k : But p H H') : ObjAt Ct Cn H' r row := by
  cases row with
  | tr p q kk =>
    obtain ⟨dx, a, h1, h2⟩ := h
    exact ⟨dx, a, k _ _ (ne_of h1 hp (by intro z; cases z)) h1, k _ _ (ne_of h2 hp (by intro z; cases z)) h2⟩
  | tn p q kk t s c =>
    obtain ⟨dx, a, b, h1, h2, h3⟩ := h
    exact ⟨dx, a, b, k _ _ (ne_of h1 hp (by intro z; cases z)) h1, k _ _ (ne_of h2 hp (by intro z; cases z)) h2, k _ _ (ne_of h3 hp (by intro z; cases z)) h3⟩
theorem ObjAt.rb {K : PySem.W.Frag} {Ct Cn : Addr} {H : Hp} {r : Addr} {row : Row} (h : ObjAt Ct Cn H r row) (T : RCls K Ct) (N : RCls K Cn) (o : row.ok) : RB K H r row.p row.q row.k := by
  cases row with
  | tr p q kk =>
    obtain ⟨dx, a, h1, h2⟩ := h
    obtain ⟨o1, o2, o3, o4, o5, o6⟩ := o
    exact ⟨⟨Ct, dx, _, a, h1, T.cl, T.n1, T.n2, try_times a kk, try_plus a kk, h2⟩, o1, o2, o3, o4, o5⟩
  | tn p q kk t s c =>
    obtain ⟨dx, a, b, h1, h2, h3⟩ := h
    obtain ⟨⟨o1, o2, o3, o4, o5, o6⟩, _⟩ := o
    exact ⟨⟨Cn, dx, _, a, h1, N.cl, N.n1, N.n2, turn_times a kk b c, turn_plus a kk b c, h2⟩, o1, o2, o3, o4, o5⟩
def spRule (Ct Cn : Addr) : Sp := fun vs H Q _ => ∃ (l : Addr) (p q k t s c : Int) (b : Bool), vs = [.ref l, .bl b] ∧ H l = some (.tup (Row.tn p q k t s c).vs) ∧ okN p q k ∧ okT t s c ∧
  ∀ (r : Addr) (H' : Hp) (row : Row), Same H H' → ObjAt Ct Cn H' r row → row.ok → row.p = p → row.q = q → row.k = k → Q (.ref r) H'
section
variable {P : Program} {w : World} {K : PySem.W.Frag} {mg : Str → Option Value} {base : Heap}
theorem Row.okN {row : Row} (o : row.ok) : Ev.okN row.p row.q row.k := by
  cases row with
  | tr p q k => exact o
  | tn p q k t s c => exact o.1
theorem max6 {c : Int} (h : -6 ≤ c) : (if c > -6 then c else -6) = c := by
  by_cases z : c > -6
  · exact if_pos z
  · rw [if_neg z]; omega
end
end Ev
namespace Ev
open PySem L2 PySem.Spec PyProof.Rows
def leastV (p q k y : Int) : Int := if -((k - q * y).fdiv p) > 1 then -((k - q * y).fdiv p) else 1
theorem least_le {p q k y x : Int} (hp : 1 ≤ p) (hx : 1 ≤ x) : leastV p q k y ≤ x ↔ q * y ≤ p * x + k := by
  unfold leastV
  rw [Int.fdiv_eq_ediv_of_nonneg _ (by omega)]
  have h1 : -x ≤ (k - q * y) / p ↔ -x * p ≤ k - q * y := Int.le_ediv_iff_mul_le (by omega)
  have h2 : -x * p = -(p * x) := by rw [Int.neg_mul, Int.mul_comm]
  rw [h2] at h1
  generalize q * y = a at h1 ⊢
  generalize p * x = b at h1 ⊢
  generalize (k - a) / p = c at h1 ⊢
  by_cases z : -c > 1
  · rw [if_pos z]
    constructor
    · intro h; have := h1.mp (by omega); omega
    · intro h; have := h1.mpr (by omega); omega
  · rw [if_neg z]
    constructor
    · intro h; have := h1.mp (by omega); omega
    · intro h; omega
theorem least_pos (p q k y : Int) : 1 ≤ leastV p q k y := by
  unfold leastV
  by_cases z : -((k - q * y).fdiv p) > 1
  · rw [if_pos z]; omega
  · rw [if_neg z]; omega
def greatV (p q k x : Int) : Int := (p * x + k).fdiv q
theorem le_great {p q k x y : Int} (hq : 1 ≤ q) : y ≤ greatV p q k x ↔ q * y ≤ p * x + k := by
  unfold greatV
  rw [Int.fdiv_eq_ediv_of_nonneg _ (by omega), Int.le_ediv_iff_mul_le (by omega), Int.mul_comm]
theorem great_ge {p q k x : Int} (o : okN p q k) (hx : 1 ≤ x) : x + 1 ≤ greatV p q k x := by
  obtain ⟨o1, o2, o3, o4, o5, o6⟩ := o
  refine (le_great o1).mpr ?_
  have h1 : q * (x - 1) ≤ p * (x - 1) := Int.mul_le_mul_of_nonneg_right o2 (by omega)
  rw [Int.mul_sub, Int.mul_sub, Int.mul_one, Int.mul_one] at h1
  rw [Int.mul_add, Int.mul_one]
  omega
def Wt (p q k : Int) : Nat → Int
  | 0 => 1
  | n + 1 => Wt p q k n + leastV p q k (Wt p q k n)
theorem Wt_lt (p q k : Int) (n : Nat) : Wt p q k n + 1 ≤ Wt p q k (n + 1) := by
  have := least_pos p q k (Wt p q k n)
  show Wt p q k n + 1 ≤ Wt p q k n + leastV p q k (Wt p q k n)
  omega
theorem Wt_ge (p q k : Int) : ∀ n : Nat, (n : Int) + 1 ≤ Wt p q k n
  | 0 => by show ((0 : Nat) : Int) + 1 ≤ 1; decide
  | n + 1 => by
    have h1 := Wt_ge p q k n
    have h2 := Wt_lt p q k n
    omega
theorem Wt_add (p q k : Int) (m : Nat) : ∀ d : Nat, Wt p q k m + (d : Int) ≤ Wt p q k (m + d)
  | 0 => by simp
  | d + 1 => by
    have h1 := Wt_add p q k m d
    have h2 := Wt_lt p q k (m + d)
    rw [show m + (d + 1) = m + d + 1 by omega]
    omega
theorem Wt_mono (p q k : Int) {m n : Nat} (h : m ≤ n) : Wt p q k m ≤ Wt p q k n := by
  obtain ⟨d, rfl⟩ := Nat.exists_eq_add_of_le h
  have := Wt_add p q k m d
  omega
/-- the greatest height whose least weight is not above m -/
def IsH (p q k m : Int) (h : Nat) : Prop := Wt p q k h ≤ m ∧ m < Wt p q k (h + 1)
theorem IsH.mono {p q k m m' : Int} {h h' : Nat} (a : IsH p q k m h) (b : IsH p q k m' h') (l : m ≤ m') : h ≤ h' := by
  by_cases z : h ≤ h'
  · exact z
  · have := Wt_mono p q k (show h' + 1 ≤ h by omega)
    have := a.1
    have := b.2
    omega
theorem IsH.uniq {p q k m : Int} {h h' : Nat} (a : IsH p q k m h) (b : IsH p q k m h') : h = h' :=
  Nat.le_antisymm (a.mono b (Int.le_refl _)) (b.mono a (Int.le_refl _))
theorem IsH.at (p q k : Int) (n : Nat) : IsH p q k (Wt p q k n) n := ⟨Int.le_refl _, by have := Wt_lt p q k n; omega⟩
theorem IsH.small {p q k m : Int} {h : Nat} (a : IsH p q k m h) : (h : Int) + 1 ≤ m := by
  have := Wt_ge p q k h
  have := a.1
  omega
theorem least_lt {p q k y : Int} (o : okN p q k) (h : 2 ≤ y) : leastV p q k y ≤ y - 1 := by
  have g := great_ge (x := y - 1) o (by omega)
  have g := (le_great o.1).mp (show y ≤ greatV p q k (y - 1) by omega)
  obtain ⟨o1, o2, o3, o4, o5, o6⟩ := o
  exact (least_le (by omega) (by omega)).mpr g
theorem least_ge {p q k y : Int} (o : okN p q k) (h : 12 ≤ y) : y ≤ 12 * leastV p q k y := by
  obtain ⟨o1, o2, o3, o4, o5, o6⟩ := o
  have l1 := least_pos p q k y
  have l := (least_le (p := p) (k := k) (q := q) (y := y) (by omega) l1).mp (Int.le_refl _)
  have a : 1 * y ≤ q * y := Int.mul_le_mul_of_nonneg_right o1 (by omega)
  have b : p * leastV p q k y ≤ 6 * leastV p q k y := Int.mul_le_mul_of_nonneg_right o3 (by omega)
  omega
theorem Wt_one {p q k : Int} (o : okN p q k) : Wt p q k 1 = 2 := by
  show 1 + leastV p q k 1 = 2
  have l1 := least_pos p q k 1
  have : leastV p q k 1 ≤ 1 := (least_le (by have := o.1; have := o.2.1; omega) (Int.le_refl 1)).mpr (by
    obtain ⟨o1, o2, o3, o4, o5, o6⟩ := o
    omega)
  omega
/-- the tree of halves is a fair one -/
theorem Wt_two {p q k : Int} (o : okN p q k) : ∀ b : Nat, Wt p q k (b + 1) ≤ 2 ^ b + 1
  | 0 => by rw [Wt_one o]; decide
  | b + 1 => by
    have h := Wt_two o b
    have g := Wt_ge p q k (b + 1)
    have l := least_lt o (show 2 ≤ Wt p q k (b + 1) by omega)
    show Wt p q k (b + 1) + leastV p q k (Wt p q k (b + 1)) ≤ 2 ^ (b + 1) + 1
    rw [Int.pow_succ]
    omega
theorem Wt_dbl {p q k : Int} (o : okN p q k) {n : Nat} (h : 12 ≤ Wt p q k n) : ∀ d : Nat, 12 * Wt p q k n + d * Wt p q k n ≤ 12 * Wt p q k (n + d)
  | 0 => by simp
  | d + 1 => by
    have h1 := Wt_dbl o h d
    have m := Wt_mono p q k (show n ≤ n + d by omega)
    have l := least_ge o (show 12 ≤ Wt p q k (n + d) by omega)
    show 12 * Wt p q k n + ((d + 1 : Nat) : Int) * Wt p q k n ≤ 12 * (Wt p q k (n + d) + leastV p q k (Wt p q k (n + d)))
    rw [show ((d + 1 : Nat) : Int) * Wt p q k n = (d : Int) * Wt p q k n + Wt p q k n by rw [show ((d + 1 : Nat) : Int) = (d : Int) + 1 by omega, Int.add_mul, Int.one_mul]]
    omega
theorem Wt_exp {p q k : Int} (o : okN p q k) : ∀ j : Nat, 12 * 2 ^ j ≤ Wt p q k (11 + 12 * j)
  | 0 => by
    have := Wt_ge p q k 11
    simpa using this
  | j + 1 => by
    have h := Wt_exp o j
    have t : (1 : Int) ≤ 2 ^ j := by
      have : (0 : Int) < 2 ^ j := Int.pow_pos (by decide)
      omega
    have d := Wt_dbl o (show 12 ≤ Wt p q k (11 + 12 * j) by omega) 12
    rw [show 11 + 12 * (j + 1) = 11 + 12 * j + 12 by omega, Int.pow_succ]
    omega
theorem Wt_long {p q k : Int} (o : okN p q k) {n : Nat} (h : Wt p q k n ≤ 10 ^ 31) : n < 1300 := by
  by_cases z : n < 1300
  · exact z
  · have e := Wt_exp o 104
    have m := Wt_mono p q k (show 11 + 12 * 104 ≤ n by omega)
    have : (10 : Int) ^ 31 < 12 * 2 ^ 104 := by decide
    omega
/-- the least weights of the heights up to n -/
def wl (p q k : Int) (n : Nat) : List V := (List.range (n + 1)).map fun i => V.int (Wt p q k i)
theorem wl_zero (p q k : Int) : wl p q k 0 = [.int 1] := rfl
theorem wl_succ (p q k : Int) (n : Nat) : wl p q k n ++ [.int (Wt p q k (n + 1))] = wl p q k (n + 1) := by
  unfold wl
  rw [List.range_succ (n := n + 1), List.map_append]
  rfl
theorem wl_len (p q k : Int) (n : Nat) : (wl p q k n).length = n + 1 := by unfold wl; simp
theorem wl_get (p q k : Int) {n i : Nat} (h : i ≤ n) : (wl p q k n)[i]? = some (.int (Wt p q k i)) := by
  unfold wl
  rw [List.getElem?_map, List.getElem?_range (by omega)]
  rfl
end Ev
namespace Ev
open PySem L2 PySem.Spec PyProof.Rows
abbrev sLeastB : Stmt := top 34
abbrev sNeedR : Stmt := top 36
/-- a class of rules beneath the common one -/
structure RK (K : PySem.W.Frag) (C CW : Addr) : Prop where
  cl : RCls K C
  ha : PySem.W.findIn K (.ref C) "__class__" = some (some (.builtin "object.__class__"))
  hm : PySem.W.mroIn K C (.type "object") = some true
  is : PySem.W.kitOne K (.ref C) (.ref CW) = some true
/-- what the kind of an instance asks -/
structure InsK (K : PySem.W.Frag) : Prop where
  hn : PySem.W.specialIn K (.builtin "object.__class__") "__get__" = some (some (.builtin "getset_descriptor.__get__"))
  htk : PySem.W.takesIn K (.builtin "object.__class__") = some true
def spLeastB (K : PySem.W.Frag) : Sp := fun vs H Q _ => ∃ (r : Addr) (p q k y : Int), vs = [.ref r, .int y] ∧ RB K H r p q k ∧ Q (.int (leastV p q k y)) H
def spNeedR (Ct Cn : Addr) : Sp := fun vs H Q _ => ∃ (r : Addr) (row : Row), vs = [.ref r] ∧ ObjAt Ct Cn H r row ∧ Q .non H
section
variable {P : Program} {w : World} {K : PySem.W.Frag} {mg : Str → Option Value} {base : Heap}
theorem scLeastB : FnScope ["rule", "y", "over", "under"] ["rule", "y"] (defScope sLeastB) := ⟨rfl, rfl, rfl, by decide +kernel, rfl, by decide +kernel, by decide +kernel⟩
theorem ok_leastB {f : Addr} {fd : FuncData} (F : Fun K "least_beside" "least_beside" sLeastB f fd) (T : Blt mg) : FnOk P w K mg base CX0 1 f fd ["rule", "y"] (spLeastB K) := by
  refine F.ok scLeastB (fun vs H Q E h => ?_) (fun cdv A outer s H vs Q E hr h => ?_)
  · obtain ⟨r, p, q, k, x, rfl, _⟩ := h
    rfl
  · obtain ⟨r, p, q, k, x, rfl, ⟨⟨C, dx, fs, a, hr1, cl, n1, n2, l1, l2, ha⟩, b1, b2, b3, b4, b5⟩, kk⟩ := h
    refine ⟨_, pss_cons (ps_asg (pe_fld (pv 0) rfl) (pg_tup (by rfl) (pgs_cons (pg_name (i := 2) scLeastB.nd rfl (.inl rfl)) (pgs_cons (pg_name (i := 3) scLeastB.nd rfl (.inl rfl)) pgs_nil))))
      (pss_one (ps_ret (pe_callB (call_max2 rfl) (by rfl) T.max (by decide +kernel) (pa_cons pe_int (pa_cons (pe_un un_neg (pe_op op_fdivN (pe_op op_sub (pe_fld (pv 0) rfl) (pe_op op_mul (pv 3) (pv 1))) (pv 2))) pa_nil))))), ?_⟩
    have q6 := m64 b1 (show q ≤ 8 by omega)
    refine ⟨_, rfl, r, C, dx, fs, _, rfl, hr1, cl, n1, l1, a, _, rfl, SqT.of ha, rfl, _, _, rfl, _, _, rfl, rfl, ?_⟩
    exact ⟨_, rfl, r, C, dx, fs, _, rfl, hr1, cl, n2, l2, _, rfl, _, rfl, _, _, rfl, rfl, .inl q6, _, _, rfl, rfl, _, rfl, _, _, rfl, rfl, ⟨by omega, by omega⟩, _, rfl, _, _, rfl, kk⟩
theorem scNeedR : FnScope ["value"] ["value"] (defScope sNeedR) := ⟨rfl, rfl, rfl, by decide +kernel, rfl, by decide +kernel, by decide +kernel⟩
theorem ok_needR {f Ct Cn CW : Addr} {fd : FuncData} (F : Fun K "need_rule" "need_rule" sNeedR f fd) (T : Blt mg) (gW : mg "WeightRule" = some (.ref CW)) (MT : RK K Ct CW) (MN : RK K Cn CW) (ik : InsK K) : FnOk P w K mg base CX0 1 f fd ["value"] (spNeedR Ct Cn) := by
  refine F.ok scNeedR (fun vs H Q E h => ?_) (fun cdv A outer s H vs Q E hr h => ?_)
  · obtain ⟨r, row, rfl, _⟩ := h
    rfl
  · obtain ⟨r, row, rfl, ob, kk⟩ := h
    refine ⟨_, pss_one (ps_if (pt_not (pt_val (pe_callB call_isi (by rfl) T.isi (by decide +kernel) (pa_cons (pv 0) (pa_cons (pe_glob (v := .ref CW) rfl gW rfl) pa_nil))))) (pss_one ps_never) pss_nil), ?_⟩
    cases row with
    | tr p q k =>
      obtain ⟨dx, a, h1, h2⟩ := ob
      exact ⟨_, rfl, _, _, _, _, true, rfl, .own CW, .base (.ins h1 MT.cl.cl MT.ha ik.hn ik.htk MT.hm), MT.is, true, rfl, iteF kk⟩
    | tn p q k t s c =>
      obtain ⟨dx, a, b, h1, h2, h3⟩ := ob
      exact ⟨_, rfl, _, _, _, _, true, rfl, .own CW, .base (.ins h1 MN.cl.cl MN.ha ik.hn ik.htk MN.hm), MN.is, true, rfl, iteF kk⟩
end
end Ev
namespace Ev
open PySem L2 PySem.Spec PyProof.Rows
/-! What a grip reckons. -/
inductive Bk | st | li1 | li2 | fa1 | fa2 | to1 | to2
deriving DecidableEq
def Bk.n : Bk → Str
  | .st => "inner" | .li1 => "light" | .li2 => "light" | .fa1 => "far" | .fa2 => "far" | .to1 => "top" | .to2 => "top"
def Bk.s : Bk → Str
  | .st => "none" | .li1 => "first" | .li2 => "second" | .fa1 => "first" | .fa2 => "second" | .to1 => "first" | .to2 => "second"
def onces : List (Option Bk) := [some .li1, some .li2, some .to1, some .to2]
def twices : List (Option Bk) := [some .st, some .li1, some .li2, some .fa1, some .fa2, some .to1, some .to2]
def partV (p q k c : Int) : Int := leastV (p + q) q k c
def muchV (p q k a b : Int) : Int := -((q * a - p * b - k - 1).fdiv (p + q))
def topV (p q k a : Int) : Int := greatV p q k a + 1
/-- a grip: the rule's numbers and the sides -/
structure Gp where
  p : Int
  q : Int
  k : Int
  a : Int
  b : Int
def Gp.L (g : Gp) : Int := leastV g.p g.q g.k g.a
def Gp.T (g : Gp) : Int := topV g.p g.q g.k g.a
def Gp.M (g : Gp) : Int := muchV g.p g.q g.k g.a g.b
def Gp.part (g : Gp) (c : Int) : Int := partV g.p g.q g.k c
def Gp.least (g : Gp) (c : Int) : Int := leastV g.p g.q g.k c
def Gp.ends (g : Gp) (o : Option Bk) (l h : Int) : Int × Int :=
  match o with
  | none => (l, h)
  | some .li1 => (l, if h < g.L then h else g.L - 1)
  | some .li2 => (if l > g.T then l else g.T, h)
  | some .to1 => (if l > g.M then l else g.M, h)
  | some _ => (1, 0)
def Gp.with (g : Gp) (m i : Int) : Int × Int :=
  let i' := if i > m + g.least m then i else m + g.least m
  (i', if g.part i' > m then g.part i' else m)
def Gp.near (g : Gp) (t : Bk) (i : Int) : Option (Int × Int) :=
  match t with
  | .li2 => some (g.with g.T i)
  | .to1 => some (g.with g.M i)
  | .li1 => if g.part i < g.L then some (i, g.part i) else none
  | .fa2 => if g.part i ≤ g.least (g.b - i) - 1 then some (i, if g.part i > i - (g.least (g.b - i) - 1) then g.part i else i - (g.least (g.b - i) - 1)) else none
  | _ => none
def Gp.nums (g : Gp) (t : Option Bk) (l h : Int) : Option (List Int) :=
  match t with
  | none => some [g.a, l, g.b - l]
  | some .st => if l = 1 then some [g.a, 1, g.b - 1] else none
  | some t => match g.near t (if l > 1 then l else 2) with
    | none => none
    | some (i, e) => if i > h then none else some [g.a, e, i - e, g.b - i]
def Gp.second (g : Gp) (o : Option Bk) (l h : Int) : List (Option Bk) → Option (Option Bk × Option Bk × List Int)
  | [] => none
  | t :: ts => match g.nums t l h with
    | some ns => some (o, t, ns)
    | none => g.second o l h ts
def Gp.first (g : Gp) (ts : List (Option Bk)) (l h : Int) : List (Option Bk) → Option (Option Bk × Option Bk × List Int)
  | [] => none
  | o :: os => if (g.ends o l h).1 ≤ (g.ends o l h).2 then
      match g.second o (g.ends o l h).1 (g.ends o l h).2 ts with
      | some r => some r
      | none => g.first ts l h os
    else g.first ts l h os
/-! what it means -/
def Gp.heavy (g : Gp) (x y : Int) : Prop := g.p * y + g.k < g.q * x
def Gp.once (g : Gp) (o : Bk) (c : Int) : Prop :=
  match o with
  | .li1 => g.heavy g.a c
  | .li2 => g.heavy c g.a
  | .to1 => g.heavy (g.a + c) (g.b - c)
  | _ => False
def Gp.twice (g : Gp) (t : Bk) (c e : Int) : Prop :=
  match t with
  | .li1 => g.heavy g.a e
  | .li2 => g.heavy e g.a
  | .fa2 => g.heavy (g.b - c) (c - e)
  | .to1 => g.heavy (g.a + e) (g.b - e)
  | _ => False
theorem six {p : Int} (h1 : 1 ≤ p) (h2 : p ≤ 6) : p = 1 ∨ p = 2 ∨ p = 3 ∨ p = 4 ∨ p = 5 ∨ p = 6 := by omega
theorem part_le {p q k c x : Int} (hp : 1 ≤ p) (hq : 1 ≤ q) (hx : 1 ≤ x) : partV p q k c ≤ x ↔ q * (c - x) ≤ p * x + k := by
  unfold partV
  rw [least_le (by omega) hx, Int.add_mul, Int.mul_sub]
  constructor <;> intro h <;> omega
theorem part_pos (p q k c : Int) : 1 ≤ partV p q k c := least_pos _ _ _ _
theorem much_le {p q k a b c : Int} (hp : 1 ≤ p) (hq : 1 ≤ q) : muchV p q k a b ≤ c ↔ p * (b - c) + k < q * (a + c) := by
  unfold muchV
  rw [Int.fdiv_eq_ediv_of_nonneg _ (by omega)]
  have h1 : -c ≤ (q * a - p * b - k - 1) / (p + q) ↔ -c * (p + q) ≤ q * a - p * b - k - 1 := Int.le_ediv_iff_mul_le (by omega)
  have h2 : -c * (p + q) = -(p * c) - q * c := by rw [Int.neg_mul, Int.mul_add, Int.mul_comm c p, Int.mul_comm c q]; omega
  rw [Int.mul_sub, Int.mul_add]
  constructor <;> intro h <;> omega
theorem top_le {p q k a c : Int} (hq : 1 ≤ q) : topV p q k a ≤ c ↔ p * a + k < q * c := by
  unfold topV
  have := le_great (p := p) (k := k) (x := a) (y := c) hq
  constructor
  · intro h
    refine Int.not_le.mp fun z => ?_
    have := this.mpr z
    omega
  · intro h
    refine Int.not_lt.mp fun z => ?_
    have := this.mp (by omega)
    omega
theorem least_lt_iff {p q k y x : Int} (hp : 1 ≤ p) (hx : 1 ≤ x) : x < leastV p q k y ↔ p * x + k < q * y := by
  have := least_le (k := k) (q := q) (y := y) hp hx
  constructor
  · intro h
    refine Int.not_le.mp fun z => ?_
    have := this.mpr z
    omega
  · intro h
    refine Int.not_le.mp fun z => ?_
    have := this.mp z
    omega
theorem part_mono {p q k c c' : Int} (hp : 1 ≤ p) (hq : 1 ≤ q) (h : c ≤ c') : partV p q k c ≤ partV p q k c' := by
  have a := (part_le hp hq (part_pos p q k c')).mp (Int.le_refl (partV p q k c'))
  refine (part_le hp hq (part_pos p q k c')).mpr (Int.le_trans (Int.mul_le_mul_of_nonneg_left (by omega) (by omega)) a)
theorem least_mono {p q k c c' : Int} (hp : 1 ≤ p) (hq : 1 ≤ q) (h : c ≤ c') : leastV p q k c ≤ leastV p q k c' := by
  have a := (least_le (q := q) (k := k) (y := c') hp (least_pos p q k c')).mp (Int.le_refl (leastV p q k c'))
  exact (least_le hp (least_pos p q k c')).mpr (Int.le_trans (Int.mul_le_mul_of_nonneg_left (by omega) (by omega)) a)
/-- the lighter half of a weight -/
theorem part_half {p q k c : Int} (o : okN p q k) (h : 2 ≤ c) : partV p q k c ≤ c / 2 := by
  obtain ⟨o1, o2, o3, o4, o5, o6⟩ := o
  refine (part_le (by omega) o1 (by omega)).mpr ?_
  have e : c = 2 * (c / 2) ∨ c = 2 * (c / 2) + 1 := by omega
  generalize c / 2 = x at e
  rcases six (show 1 ≤ p by omega) o3 with rfl | rfl | rfl | rfl | rfl | rfl <;> rcases six o1 (by omega) with rfl | rfl | rfl | rfl | rfl | rfl <;> omega
theorem self_fair {p q k x y : Int} (o : okN p q k) (h1 : 1 ≤ x) (h : x ≤ y) : q * x ≤ p * y + k := by
  obtain ⟨o1, o2, o3, o4, o5, o6⟩ := o
  rcases six (show 1 ≤ p by omega) o3 with rfl | rfl | rfl | rfl | rfl | rfl <;> rcases six o1 (by omega) with rfl | rfl | rfl | rfl | rfl | rfl <;> omega
theorem much_pos {p q k a b : Int} (o : okN p q k) (ha : 1 ≤ a) (hb : topV p q k a ≤ b) : 1 ≤ muchV p q k a b := by
  have g := great_ge o ha
  unfold topV at hb
  obtain ⟨o1, o2, o3, o4, o5, o6⟩ := o
  refine Int.not_lt.mp fun z => ?_
  have := (much_le (p := p) (q := q) (k := k) (a := a) (b := b) (c := 0) (by omega) o1).mp (by omega)
  revert this
  rcases six (show 1 ≤ p by omega) o3 with rfl | rfl | rfl | rfl | rfl | rfl <;> rcases six o1 (by omega) with rfl | rfl | rfl | rfl | rfl | rfl <;> omega
end Ev
namespace Ev
open PySem L2 PySem.Spec PyProof.Rows
def Gp.ok (g : Gp) : Prop := okN g.p g.q g.k ∧ 1 ≤ g.a ∧ g.T ≤ g.b
theorem Gp.second_some {g : Gp} {o : Option Bk} {l h : Int} {r : Option Bk × Option Bk × List Int} : ∀ {ts : List (Option Bk)}, g.second o l h ts = some r → ∃ t ns, t ∈ ts ∧ g.nums t l h = some ns ∧ r = (o, t, ns)
  | [], e => by cases e
  | t :: ts, e => by
    unfold Gp.second at e
    cases en : g.nums t l h with
    | some ns =>
      rw [en] at e
      exact ⟨t, ns, List.mem_cons_self, en, (Option.some.inj e).symm⟩
    | none =>
      rw [en] at e
      obtain ⟨t', ns, h1, h2, h3⟩ := Gp.second_some (ts := ts) e
      exact ⟨t', ns, List.mem_cons_of_mem _ h1, h2, h3⟩
theorem Gp.second_has {g : Gp} {o : Option Bk} {l h : Int} {t : Option Bk} : ∀ {ts : List (Option Bk)}, t ∈ ts → g.nums t l h ≠ none → g.second o l h ts ≠ none
  | [], e, _ => by cases e
  | t' :: ts, e, n => by
    unfold Gp.second
    cases en : g.nums t' l h with
    | some ns => exact fun z => by cases z
    | none =>
      rcases List.mem_cons.mp e with rfl | e
      · exact absurd en n
      · exact Gp.second_has e n
theorem Gp.first_some {g : Gp} {ts : List (Option Bk)} {l h : Int} {r : Option Bk × Option Bk × List Int} : ∀ {os : List (Option Bk)}, g.first ts l h os = some r →
    ∃ o t ns, o ∈ os ∧ t ∈ ts ∧ (g.ends o l h).1 ≤ (g.ends o l h).2 ∧ g.nums t (g.ends o l h).1 (g.ends o l h).2 = some ns ∧ r = (o, t, ns)
  | [], e => by cases e
  | o :: os, e => by
    unfold Gp.first at e
    have recu : g.first ts l h os = some r → ∃ o' t ns, o' ∈ o :: os ∧ t ∈ ts ∧ (g.ends o' l h).1 ≤ (g.ends o' l h).2 ∧ g.nums t (g.ends o' l h).1 (g.ends o' l h).2 = some ns ∧ r = (o', t, ns) := fun e => by
      obtain ⟨o', t, ns, h1, h2⟩ := Gp.first_some e
      exact ⟨o', t, ns, List.mem_cons_of_mem _ h1, h2⟩
    by_cases c : (g.ends o l h).1 ≤ (g.ends o l h).2
    · rw [if_pos c] at e
      cases es : g.second o (g.ends o l h).1 (g.ends o l h).2 ts with
      | some r' =>
        rw [es] at e
        obtain rfl : r' = r := Option.some.inj e
        obtain ⟨t, ns, h1, h2, h3⟩ := Gp.second_some es
        exact ⟨o, t, ns, List.mem_cons_self, h1, c, h2, h3⟩
      | none =>
        rw [es] at e
        exact recu e
    · rw [if_neg c] at e
      exact recu e
theorem Gp.first_has {g : Gp} {ts : List (Option Bk)} {l h : Int} {o t : Option Bk} : ∀ {os : List (Option Bk)}, o ∈ os → t ∈ ts → (g.ends o l h).1 ≤ (g.ends o l h).2 → g.nums t (g.ends o l h).1 (g.ends o l h).2 ≠ none → g.first ts l h os ≠ none
  | [], e, _, _, _ => by cases e
  | o' :: os, e, ht, c, n => by
    unfold Gp.first
    rcases List.mem_cons.mp e with rfl | e
    · rw [if_pos c]
      have := Gp.second_has (o := o) ht n
      cases es : g.second o (g.ends o l h).1 (g.ends o l h).2 ts with
      | some r' => exact fun z => by cases z
      | none => exact absurd es this
    · have recu := Gp.first_has e ht c n
      by_cases c' : (g.ends o' l h).1 ≤ (g.ends o' l h).2
      · rw [if_pos c']
        cases es : g.second o' (g.ends o' l h).1 (g.ends o' l h).2 ts with
        | some r' => exact fun z => by cases z
        | none => exact recu
      · rw [if_neg c']
        exact recu
/-- the inner sides of c are fair -/
def Gp.inner (g : Gp) (c e : Int) : Prop := 1 ≤ e ∧ 1 ≤ c - e ∧ g.q * e ≤ g.p * (c - e) + g.k ∧ g.q * (c - e) ≤ g.p * e + g.k
theorem Gp.part_inner {g : Gp} (o : okN g.p g.q g.k) {c : Int} (h : 2 ≤ c) : g.inner c (g.part c) := by
  have hh := part_half o h
  have hp := part_pos g.p g.q g.k c
  refine ⟨hp, (show 1 ≤ c - partV g.p g.q g.k c by omega), self_fair o hp (show partV g.p g.q g.k c ≤ c - partV g.p g.q g.k c by omega), ?_⟩
  exact (part_le (by obtain ⟨o1, o2, _⟩ := o; omega) o.1 hp).mp (Int.le_refl _)
theorem Gp.with_inner {g : Gp} (o : okN g.p g.q g.k) {m i : Int} (hm : 1 ≤ m) (h : 2 ≤ i) : i ≤ (g.with m i).1 ∧ m ≤ (g.with m i).2 ∧ g.inner (g.with m i).1 (g.with m i).2 := by
  have hp : 1 ≤ g.p := by obtain ⟨o1, o2, _⟩ := o; omega
  have lp := least_pos g.p g.q g.k m
  have e1 : (g.with m i).1 = if i > m + g.least m then i else m + g.least m := rfl
  have e2 : (g.with m i).2 = if g.part (g.with m i).1 > m then g.part (g.with m i).1 else m := rfl
  have c1 : i ≤ (g.with m i).1 ∧ m + leastV g.p g.q g.k m ≤ (g.with m i).1 := by
    rw [e1]
    show i ≤ (if i > m + leastV g.p g.q g.k m then i else m + leastV g.p g.q g.k m) ∧ m + leastV g.p g.q g.k m ≤ (if i > m + leastV g.p g.q g.k m then i else m + leastV g.p g.q g.k m)
    split <;> constructor <;> omega
  rw [e2]
  generalize (g.with m i).1 = c at c1 ⊢
  have pi := Gp.part_inner o (show 2 ≤ c by omega)
  refine ⟨c1.1, ?_⟩
  by_cases z : g.part c > m
  · rw [if_pos z]
    exact ⟨by omega, pi⟩
  · rw [if_neg z]
    refine ⟨Int.le_refl _, hm, by omega, ?_, ?_⟩
    · exact (least_le hp (by omega)).mp (by omega)
    · exact (part_le hp o.1 hm).mp (Int.not_lt.mp z)
theorem Gp.near_sound {g : Gp} (w : g.ok) {t : Bk} {i c e : Int} (h : 2 ≤ i) (hn : g.near t i = some (c, e)) : i ≤ c ∧ g.inner c e ∧ g.twice t c e := by
  obtain ⟨o, ha, hb⟩ := w
  have hp : 1 ≤ g.p := by obtain ⟨o1, o2, _⟩ := o; omega
  have hq := o.1
  cases t with
  | st => cases hn
  | fa1 => cases hn
  | to2 => cases hn
  | li2 =>
    have T1 : 1 ≤ g.T := by have := great_ge o ha; show 1 ≤ greatV g.p g.q g.k g.a + 1; omega
    obtain ⟨h1, h2, h3⟩ := Gp.with_inner o T1 h
    have e' : g.with g.T i = (c, e) := Option.some.inj hn
    rw [e'] at h1 h2 h3
    exact ⟨h1, h3, (top_le hq).mp h2⟩
  | to1 =>
    have M1 : 1 ≤ g.M := much_pos o ha hb
    obtain ⟨h1, h2, h3⟩ := Gp.with_inner o M1 h
    have e' : g.with g.M i = (c, e) := Option.some.inj hn
    rw [e'] at h1 h2 h3
    exact ⟨h1, h3, (much_le hp hq).mp h2⟩
  | li1 =>
    unfold Gp.near at hn
    by_cases z : g.part i < g.L
    · simp only [if_pos z] at hn
      injection hn with hn
      injection hn with e1 e2
      subst e1 e2
      exact ⟨Int.le_refl _, Gp.part_inner o h, (least_lt_iff hp (part_pos _ _ _ _)).mp z⟩
    · simp only [if_neg z] at hn
      cases hn
  | fa2 =>
    unfold Gp.near at hn
    have pi := Gp.part_inner o h
    by_cases z : g.part i ≤ g.least (g.b - i) - 1
    · simp only [if_pos z] at hn
      injection hn with hn
      injection hn with e1 e2
      subst e1
      refine ⟨Int.le_refl _, ?_⟩
      have fl : ∀ f : Int, 1 ≤ f → f ≤ g.least (g.b - i) - 1 → g.p * f + g.k < g.q * (g.b - i) := by
        intro f h1 h2
        have h3 : f < leastV g.p g.q g.k (g.b - i) := by
          have h4 : leastV g.p g.q g.k (g.b - i) = g.least (g.b - i) := rfl
          omega
        exact (least_lt_iff hp h1).mp h3
      generalize g.least (g.b - i) - 1 = far at z e2 fl
      by_cases y : g.part i > i - far
      · rw [if_pos y] at e2
        subst e2
        exact ⟨pi, fl _ pi.2.1 (by omega)⟩
      · rw [if_neg y] at e2
        subst e2
        have e3 : i - (i - far) = far := by omega
        have p1 := pi.1
        have hx : 1 ≤ i - far := by omega
        refine ⟨⟨hx, by omega, ?_, ?_⟩, ?_⟩
        · rw [e3]
          exact (part_le hp hq (show 1 ≤ far by omega)).mp z
        · exact (part_le hp hq hx).mp (Int.not_lt.mp y)
        · show g.p * (i - (i - far)) + g.k < _
          rw [e3]
          exact fl far (by omega) (Int.le_refl _)
    · simp only [if_neg z] at hn
      cases hn
/-- with less to begin with there is room, too -/
theorem Gp.near_less {g : Gp} (o : okN g.p g.q g.k) {t : Bk} {i j c e : Int} (hn : g.near t i = some (c, e)) (h : j ≤ c) (hl : t = .li1 ∨ t = .fa2 → i = c) : ∃ c' e', g.near t j = some (c', e') ∧ c' ≤ c := by
  have hp : 1 ≤ g.p := by obtain ⟨o1, o2, _⟩ := o; omega
  have hq := o.1
  have wl : ∀ m, g.with m i = (c, e) → (g.with m j).1 ≤ c := fun m e1 => by
    have e2 : (if i > m + g.least m then i else m + g.least m) = c := congrArg Prod.fst e1
    show (if j > m + g.least m then j else m + g.least m) ≤ c
    by_cases z : j > m + g.least m
    · rw [if_pos z]; exact h
    · rw [if_neg z]
      by_cases y : i > m + g.least m
      · rw [if_pos y] at e2; omega
      · rw [if_neg y] at e2; omega
  cases t with
  | st => cases hn
  | fa1 => cases hn
  | to2 => cases hn
  | li2 => exact ⟨_, _, rfl, wl _ (Option.some.inj hn)⟩
  | to1 => exact ⟨_, _, rfl, wl _ (Option.some.inj hn)⟩
  | li1 =>
    obtain rfl := hl (.inl rfl)
    unfold Gp.near at hn ⊢
    by_cases z : g.part i < g.L
    · have : g.part j ≤ g.part i := part_mono hp hq h
      exact ⟨j, g.part j, if_pos (by omega), h⟩
    · simp only [if_neg z] at hn
      cases hn
  | fa2 =>
    obtain rfl := hl (.inr rfl)
    unfold Gp.near at hn ⊢
    by_cases z : g.part i ≤ g.least (g.b - i) - 1
    · have h1 : g.part j ≤ g.part i := part_mono hp hq h
      have h2 : g.least (g.b - i) ≤ g.least (g.b - j) := least_mono hp hq (by omega)
      exact ⟨j, _, if_pos (by omega), h⟩
    · simp only [if_neg z] at hn
      cases hn
theorem Gp.near_at {g : Gp} {t : Bk} {i c e : Int} (hn : g.near t i = some (c, e)) (hl : t = .li1 ∨ t = .fa2) : i = c := by
  rcases hl with rfl | rfl
  · unfold Gp.near at hn
    by_cases z : g.part i < g.L
    · simp only [if_pos z] at hn
      injection hn with hn
      injection hn
    · simp only [if_neg z] at hn
      cases hn
  · unfold Gp.near at hn
    by_cases z : g.part i ≤ g.least (g.b - i) - 1
    · simp only [if_pos z] at hn
      injection hn with hn
      injection hn
    · simp only [if_neg z] at hn
      cases hn
theorem Gp.ends_once {g : Gp} (w : g.ok) {o : Option Bk} (ho : o ∈ onces) {l h c : Int} (l1 : 1 ≤ l) (h1 : (g.ends o l h).1 ≤ c) (h2 : c ≤ (g.ends o l h).2) : ∃ b, o = some b ∧ l ≤ c ∧ c ≤ h ∧ g.once b c := by
  obtain ⟨ok, ha, hb⟩ := w
  have hp : 1 ≤ g.p := by obtain ⟨o1, o2, _⟩ := ok; omega
  have hq := ok.1
  simp only [onces, List.mem_cons, List.not_mem_nil, or_false] at ho
  rcases ho with rfl | rfl | rfl | rfl
  · have h1 : l ≤ c := h1
    have h2 : c ≤ (if h < g.L then h else g.L - 1) := h2
    refine ⟨_, rfl, h1, ?_, (least_lt_iff hp (by omega)).mp ?_⟩
    · split at h2 <;> omega
    · show c < g.L
      split at h2 <;> omega
  · have h1 : (if l > g.T then l else g.T) ≤ c := h1
    refine ⟨_, rfl, ?_, h2, (top_le hq).mp ?_⟩
    · split at h1 <;> omega
    · show g.T ≤ c
      split at h1 <;> omega
  · have h1 : (if l > g.M then l else g.M) ≤ c := h1
    refine ⟨_, rfl, ?_, h2, (much_le hp hq).mp ?_⟩
    · split at h1 <;> omega
    · show g.M ≤ c
      split at h1 <;> omega
  · have h1 : (1 : Int) ≤ c := h1
    have h2 : c ≤ (0 : Int) := h2
    omega
theorem Gp.once_ends {g : Gp} (w : g.ok) {b : Bk} (ho : some b ∈ onces) {l h c : Int} (c1 : 1 ≤ c) (h1 : l ≤ c) (h2 : c ≤ h) (hc : g.once b c) : (g.ends (some b) l h).1 ≤ c ∧ c ≤ (g.ends (some b) l h).2 := by
  obtain ⟨ok, ha, hb⟩ := w
  have hp : 1 ≤ g.p := by obtain ⟨o1, o2, _⟩ := ok; omega
  have hq := ok.1
  simp only [onces, List.mem_cons, List.not_mem_nil, or_false, Option.some.injEq] at ho
  rcases ho with rfl | rfl | rfl | rfl
  · have : c < g.L := (least_lt_iff hp c1).mpr hc
    show l ≤ c ∧ c ≤ (if h < g.L then h else g.L - 1)
    split <;> constructor <;> omega
  · have : g.T ≤ c := (top_le hq).mpr hc
    show (if l > g.T then l else g.T) ≤ c ∧ c ≤ h
    split <;> constructor <;> omega
  · have : g.M ≤ c := (much_le hp hq).mpr hc
    show (if l > g.M then l else g.M) ≤ c ∧ c ≤ h
    split <;> constructor <;> omega
  · exact absurd hc id
/-- what is told of a try rule -/
inductive Gp.Found (g : Gp) : Bk → Bk → List Int → Prop
  | stuck {o : Bk} : some o ∈ onces → g.once o 1 → g.part g.b ≤ 1 → 1 ≤ g.b - g.part g.b → g.Found o .st [g.a, 1, g.b - 1]
  | twice {o t : Bk} {c e : Int} : some o ∈ onces → some t ∈ twices → t ≠ .st → g.once o c → g.part g.b ≤ c → c ≤ g.b - g.part g.b → 2 ≤ c → g.inner c e → g.twice t c e →
      (∀ j, j ≤ c → ∃ c' e', g.near t j = some (c', e') ∧ c' ≤ c) → g.Found o t [g.a, e, c - e, g.b - c]
def Gp.tryB (g : Gp) : Option (Option Bk × Option Bk × List Int) := g.first twices (g.part g.b) (g.b - g.part g.b) onces
theorem Gp.try_found {g : Gp} (w : g.ok) {o t : Option Bk} {ns : List Int} (h : g.tryB = some (o, t, ns)) : ∃ o' t', o = some o' ∧ t = some t' ∧ g.Found o' t' ns := by
  obtain ⟨o2, t2, ns2, h1, h2, h3, h4, h5⟩ := Gp.first_some h
  injection h5 with e1 e2
  injection e2 with e2 e3
  subst e1 e2 e3
  have pp : 1 ≤ g.part g.b := part_pos _ _ _ _
  cases t with
  | none => simp [twices] at h2
  | some t =>
    by_cases st : t = .st
    · subst st
      unfold Gp.nums at h4
      by_cases z : (g.ends o (g.part g.b) (g.b - g.part g.b)).1 = 1
      · simp only [if_pos z] at h4
        injection h4 with h4
        subst h4
        obtain ⟨b, rfl, q1, q2, q3⟩ := Gp.ends_once (l := g.part g.b) (h := g.b - g.part g.b) w h1 pp (c := 1) (by omega) (by omega)
        exact ⟨b, .st, rfl, rfl, .stuck h1 q3 q1 q2⟩
      · simp only [if_neg z] at h4
        cases h4
    · have h4 : (match g.near t (if (g.ends o (g.part g.b) (g.b - g.part g.b)).1 > 1 then (g.ends o (g.part g.b) (g.b - g.part g.b)).1 else 2) with
        | none => none
        | some (i, e) => if i > (g.ends o (g.part g.b) (g.b - g.part g.b)).2 then none else some [g.a, e, i - e, g.b - i]) = some ns := by
        cases t <;> first | exact h4 | exact absurd rfl st
      have lo : 2 ≤ (if (g.ends o (g.part g.b) (g.b - g.part g.b)).1 > 1 then (g.ends o (g.part g.b) (g.b - g.part g.b)).1 else 2) := by split <;> omega
      have lo2 : (g.ends o (g.part g.b) (g.b - g.part g.b)).1 ≤ (if (g.ends o (g.part g.b) (g.b - g.part g.b)).1 > 1 then (g.ends o (g.part g.b) (g.b - g.part g.b)).1 else 2) := by split <;> omega
      generalize (if (g.ends o (g.part g.b) (g.b - g.part g.b)).1 > 1 then (g.ends o (g.part g.b) (g.b - g.part g.b)).1 else 2) = i at h4 lo lo2
      cases en : g.near t i with
      | none => rw [en] at h4; cases h4
      | some ce =>
        obtain ⟨c, e⟩ := ce
        rw [en] at h4
        dsimp only at h4
        by_cases z : c > (g.ends o (g.part g.b) (g.b - g.part g.b)).2
        · rw [if_pos z] at h4; cases h4
        · rw [if_neg z] at h4
          injection h4 with h4
          subst h4
          obtain ⟨n1, n2, n3⟩ := Gp.near_sound w lo en
          obtain ⟨b, rfl, q1, q2, q3⟩ := Gp.ends_once (l := g.part g.b) (h := g.b - g.part g.b) w h1 pp (c := c) (by omega) (by omega)
          exact ⟨b, t, rfl, rfl, .twice h1 h2 st q3 q1 q2 (by omega) n2 n3 fun j hj => Gp.near_less w.1 en hj fun hl => Gp.near_at en hl⟩
def Gp.turnB (g : Gp) (t s r : Int) : Option (Option Bk × Option Bk × List Int) :=
  let m := (t * g.b + r).fdiv (t + s)
  match g.first [none] (g.part g.b) (if g.b - g.part g.b < m then g.b - g.part g.b else m) onces with
  | some x => some x
  | none => g.first twices (if g.part g.b > m then g.part g.b else m + 1) (g.b - g.part g.b) [none]
theorem most_le {t s r b c : Int} (ht : 1 ≤ t) (hs : 1 ≤ s) : c ≤ (t * b + r).fdiv (t + s) ↔ s * c ≤ t * (b - c) + r := by
  rw [Int.fdiv_eq_ediv_of_nonneg _ (by omega), Int.le_ediv_iff_mul_le (by omega), Int.mul_add, Int.mul_sub, Int.mul_comm c t, Int.mul_comm c s]
  constructor <;> intro h <;> omega
theorem Gp.turn_too {g : Gp} (w : g.ok) {o t : Bk} {ns : List Int} (f : g.Found o t ns) {u s r : Int} (hu : 1 ≤ u) (hs : 1 ≤ s) : g.turnB u s r ≠ none := by
  unfold Gp.turnB
  dsimp only
  cases e1 : g.first [none] (g.part g.b) (if g.b - g.part g.b < (u * g.b + r).fdiv (u + s) then g.b - g.part g.b else (u * g.b + r).fdiv (u + s)) onces with
  | some x => exact fun z => by cases z
  | none =>
    dsimp only
    have onceN : ∀ c : Int, some o ∈ onces → 1 ≤ c → g.part g.b ≤ c → c ≤ g.b - g.part g.b → g.once o c → (u * g.b + r).fdiv (u + s) + 1 ≤ c := fun c ho c1 c2 c3 c4 => by
      refine Int.not_lt.mp fun z => ?_
      have := Gp.once_ends w ho (l := g.part g.b) (h := if g.b - g.part g.b < (u * g.b + r).fdiv (u + s) then g.b - g.part g.b else (u * g.b + r).fdiv (u + s)) c1 c2 (by split <;> omega) c4
      exact Gp.first_has (t := none) ho List.mem_cons_self (Int.le_trans this.1 this.2) (by intro z; cases z) e1
    rcases f with ⟨ho, h1, h2, h3⟩ | ⟨ho, ht, st, h1, h2, h3, h4, h5, h6, h7⟩
    · skip
      have := onceN 1 ho (by omega) h2 h3 h1
      refine Gp.first_has (o := none) (t := some .st) List.mem_cons_self (by simp [twices]) ?_ ?_
      · show (if g.part g.b > _ then g.part g.b else _) ≤ g.b - g.part g.b
        split <;> omega
      · have e : (if g.part g.b > (u * g.b + r).fdiv (u + s) then g.part g.b else (u * g.b + r).fdiv (u + s) + 1) = 1 := by
          have : 1 ≤ g.part g.b := part_pos _ _ _ _
          split <;> omega
        show (if (if g.part g.b > (u * g.b + r).fdiv (u + s) then g.part g.b else (u * g.b + r).fdiv (u + s) + 1) = 1 then some [g.a, 1, g.b - 1] else none) ≠ none
        rw [if_pos e]
        exact fun z => by cases z
    · rename_i c e
      have hm := onceN c ho (by omega) h2 h3 h1
      refine Gp.first_has (o := none) (t := some t) List.mem_cons_self ht ?_ ?_
      · show (if g.part g.b > _ then g.part g.b else _) ≤ g.b - g.part g.b
        split <;> omega
      · have lo : (if (if g.part g.b > (u * g.b + r).fdiv (u + s) then g.part g.b else (u * g.b + r).fdiv (u + s) + 1) > 1 then (if g.part g.b > (u * g.b + r).fdiv (u + s) then g.part g.b else (u * g.b + r).fdiv (u + s) + 1) else 2) ≤ c := by
          split
          · split <;> omega
          · omega
        have e2 : g.nums (some t) (g.ends none (if g.part g.b > (u * g.b + r).fdiv (u + s) then g.part g.b else (u * g.b + r).fdiv (u + s) + 1) (g.b - g.part g.b)).1 (g.ends none (if g.part g.b > (u * g.b + r).fdiv (u + s) then g.part g.b else (u * g.b + r).fdiv (u + s) + 1) (g.b - g.part g.b)).2 =
          (match g.near t (if (if g.part g.b > (u * g.b + r).fdiv (u + s) then g.part g.b else (u * g.b + r).fdiv (u + s) + 1) > 1 then (if g.part g.b > (u * g.b + r).fdiv (u + s) then g.part g.b else (u * g.b + r).fdiv (u + s) + 1) else 2) with
            | none => none
            | some (i, e) => if i > g.b - g.part g.b then none else some [g.a, e, i - e, g.b - i]) := by
          cases t <;> first | rfl | exact absurd rfl st
        rw [e2]
        obtain ⟨c', e', en, hc'⟩ := h7 _ lo
        rw [en]
        dsimp only
        rw [if_neg (by omega)]
        exact fun z => by cases z
end Ev
namespace Ev
open PySem L2 PySem.Spec PyProof.Rows
/-! The least numbers of a case, found by going through all. -/
theorem Gp.inner_iff {g : Gp} (o : okN g.p g.q g.k) {c e : Int} : g.inner c e ↔ g.part c ≤ e ∧ e ≤ c - g.part c := by
  have hp : 1 ≤ g.p := by obtain ⟨o1, o2, _⟩ := o; omega
  have hq := o.1
  have pp : 1 ≤ g.part c := part_pos _ _ _ _
  constructor
  · rintro ⟨h1, h2, h3, h4⟩
    have a1 : g.part c ≤ e := (part_le hp hq h1).mpr h4
    have a2 : g.part c ≤ c - e := (part_le hp hq h2).mpr (by rw [show c - (c - e) = e by omega]; exact h3)
    exact ⟨a1, by omega⟩
  · rintro ⟨h1, h2⟩
    have a1 := (part_le hp hq (show 1 ≤ e by omega)).mp h1
    have a2 := (part_le hp hq (show 1 ≤ c - e by omega)).mp (show g.part c ≤ c - e by omega)
    rw [show c - (c - e) = e by omega] at a2
    exact ⟨by omega, by omega, a2, a1⟩
theorem Gp.with_least {g : Gp} (o : okN g.p g.q g.k) {m i c e : Int} (hm : 1 ≤ m) (h : i ≤ c) (n : g.inner c e) (he : m ≤ e) : (g.with m i).1 < c ∨ (g.with m i).1 = c ∧ (g.with m i).2 ≤ e := by
  have hp : 1 ≤ g.p := by obtain ⟨o1, o2, _⟩ := o; omega
  have hq := o.1
  have e1 : (g.with m i).1 = if i > m + g.least m then i else m + g.least m := rfl
  have e2 : (g.with m i).2 = if g.part (g.with m i).1 > m then g.part (g.with m i).1 else m := rfl
  have l1 : g.least m ≤ g.least e := least_mono hp hq he
  have l2 : g.least e ≤ c - e := (least_le hp n.2.1).mpr n.2.2.1
  have le : (g.with m i).1 ≤ c := by rw [e1]; split <;> omega
  by_cases z : (g.with m i).1 = c
  · refine .inr ⟨z, ?_⟩
    rw [e2, z]
    have := ((Gp.inner_iff o).mp n).1
    split <;> omega
  · exact .inl (by omega)
/-- what near tells is the least -/
theorem Gp.near_least {g : Gp} (w : g.ok) {t : Bk} {i c e c' e' : Int} (hn : g.near t i = some (c, e)) (h : i ≤ c') (n : g.inner c' e') (ht : g.twice t c' e') : c < c' ∨ c = c' ∧ e ≤ e' := by
  obtain ⟨o, ha, hb⟩ := w
  have hp : 1 ≤ g.p := by obtain ⟨o1, o2, _⟩ := o; omega
  have hq := o.1
  cases t with
  | st => cases hn
  | fa1 => cases hn
  | to2 => cases hn
  | li2 =>
    have T1 : 1 ≤ g.T := by have := great_ge o ha; show 1 ≤ greatV g.p g.q g.k g.a + 1; omega
    have := Gp.with_least o T1 h n ((top_le hq).mpr ht)
    rw [Option.some.inj hn] at this
    exact this
  | to1 =>
    have M1 : 1 ≤ g.M := much_pos o ha hb
    have := Gp.with_least o M1 h n ((much_le hp hq).mpr ht)
    rw [Option.some.inj hn] at this
    exact this
  | li1 =>
    unfold Gp.near at hn
    by_cases z : g.part i < g.L
    · simp only [if_pos z] at hn
      injection hn with hn
      injection hn with e1 e2
      subst e1 e2
      by_cases y : i = c'
      · subst y
        exact .inr ⟨rfl, ((Gp.inner_iff o).mp n).1⟩
      · exact .inl (by omega)
    · simp only [if_neg z] at hn
      cases hn
  | fa2 =>
    unfold Gp.near at hn
    by_cases z : g.part i ≤ g.least (g.b - i) - 1
    · simp only [if_pos z] at hn
      injection hn with hn
      injection hn with e1 e2
      subst e1
      by_cases y : i = c'
      · subst y
        refine .inr ⟨rfl, ?_⟩
        have n1 := ((Gp.inner_iff o).mp n).1
        have : i - e' < g.least (g.b - i) := (least_lt_iff hp n.2.1).mpr ht
        rw [← e2]
        split <;> omega
      · exact .inl (by omega)
    · simp only [if_neg z] at hn
      cases hn
theorem Gp.near_none {g : Gp} (w : g.ok) {t : Bk} {i c' e' : Int} (hn : g.near t i = none) (h : i ≤ c') (n : g.inner c' e') : ¬ g.twice t c' e' := by
  obtain ⟨o, ha, hb⟩ := w
  have hp : 1 ≤ g.p := by obtain ⟨o1, o2, _⟩ := o; omega
  have hq := o.1
  intro ht
  cases t with
  | st => exact ht
  | fa1 => exact ht
  | to2 => exact ht
  | li2 => cases hn
  | to1 => cases hn
  | li1 =>
    unfold Gp.near at hn
    by_cases z : g.part i < g.L
    · simp only [if_pos z] at hn
      cases hn
    · have h1 : e' < g.L := (least_lt_iff hp n.1).mpr ht
      have h2 : g.part i ≤ g.part c' := part_mono hp hq h
      have h3 := ((Gp.inner_iff o).mp n).1
      omega
  | fa2 =>
    unfold Gp.near at hn
    by_cases z : g.part i ≤ g.least (g.b - i) - 1
    · simp only [if_pos z] at hn
      cases hn
    · have h1 : c' - e' < g.least (g.b - c') := (least_lt_iff hp n.2.1).mpr ht
      have h2 : g.part i ≤ g.part c' := part_mono hp hq h
      have h3 : g.least (g.b - c') ≤ g.least (g.b - i) := least_mono hp hq (by omega)
      have h4 := ((Gp.inner_iff o).mp n).2
      omega
theorem Gp.nums_t {g : Gp} {t : Bk} (h : t ≠ .st) {l u : Int} : g.nums (some t) l u = match g.near t (if l > 1 then l else 2) with
    | none => none
    | some (i, e) => if i > u then none else some [g.a, e, i - e, g.b - i] := by
  cases t <;> first | rfl | exact absurd rfl h
theorem Gp.nums_some {g : Gp} (w : g.ok) {t : Bk} (ht : t ≠ .st) {l u : Int} {ns : List Int} (h : g.nums (some t) l u = some ns) :
    ∃ c e, ns = [g.a, e, c - e, g.b - c] ∧ l ≤ c ∧ c ≤ u ∧ g.inner c e ∧ g.twice t c e ∧ ∀ c' e', l ≤ c' → g.inner c' e' → g.twice t c' e' → c < c' ∨ c = c' ∧ e ≤ e' := by
  rw [Gp.nums_t ht] at h
  have lo : 2 ≤ (if l > 1 then l else 2) := by split <;> omega
  have lo2 : l ≤ (if l > 1 then l else 2) := by split <;> omega
  have lo3 : ∀ c, l ≤ c → 2 ≤ c → (if l > 1 then l else 2) ≤ c := fun c h1 h2 => by split <;> omega
  generalize (if l > 1 then l else 2) = i at h lo lo2 lo3
  cases en : g.near t i with
  | none => rw [en] at h; cases h
  | some ce =>
    obtain ⟨c, e⟩ := ce
    rw [en] at h
    dsimp only at h
    by_cases z : c > u
    · rw [if_pos z] at h; cases h
    · rw [if_neg z] at h
      obtain ⟨n1, n2, n3⟩ := Gp.near_sound w lo en
      exact ⟨c, e, (Option.some.inj h).symm, by omega, by omega, n2, n3, fun c' e' h1 h2 h3 => Gp.near_least w en (lo3 c' h1 (by obtain ⟨a1, a2, _⟩ := h2; omega)) h2 h3⟩
theorem Gp.nums_none {g : Gp} (w : g.ok) {t : Bk} (ht : t ≠ .st) {l u : Int} (h : g.nums (some t) l u = none) {c e : Int} (h1 : l ≤ c) (h2 : c ≤ u) (n : g.inner c e) : ¬ g.twice t c e := by
  rw [Gp.nums_t ht] at h
  have lo3 : ∀ c, l ≤ c → 2 ≤ c → (if l > 1 then l else 2) ≤ c := fun c h1 h2 => by split <;> omega
  generalize (if l > 1 then l else 2) = i at h lo3
  have hi := lo3 c h1 (by obtain ⟨a1, a2, _⟩ := n; omega)
  intro hc
  cases en : g.near t i with
  | none => exact Gp.near_none w en hi n hc
  | some ce =>
    obtain ⟨c0, e0⟩ := ce
    rw [en] at h
    dsimp only at h
    by_cases z : c0 > u
    · rcases Gp.near_least w en hi n hc with h5 | ⟨h5, _⟩ <;> omega
    · rw [if_neg z] at h; cases h
/-! the law's own way -/
def Gp.hv (g : Gp) (x y : Int) : Bool := decide (g.p * y + g.k < g.q * x)
def ifB (b : Bool) (x : Bk) : List Bk := if b then [x] else []
theorem mem_ifB {b : Bool} {x y : Bk} : y ∈ ifB b x ↔ y = x ∧ b = true := by
  cases b <;> simp [ifB]
def Gp.onceL (g : Gp) (c d : Int) : List Bk := ifB (g.hv g.a c) .li1 ++ ifB (g.hv c g.a) .li2 ++ ifB (g.hv (g.a + c) d) .to1 ++ ifB (g.hv d (g.a + c)) .to2
def Gp.twiceL (g : Gp) (e f d : Int) : List Bk := ifB (g.hv g.a e) .li1 ++ ifB (g.hv e g.a) .li2 ++ ifB (g.hv f d) .fa1 ++ ifB (g.hv d f) .fa2 ++ ifB (g.hv (g.a + e) (f + d)) .to1 ++ ifB (g.hv (f + d) (g.a + e)) .to2
def Gp.evenB (g : Gp) (x y : Int) : Bool := !g.hv x y && !g.hv y x
def upTo (n : Nat) : List Int := (List.range n).map fun (i : Nat) => ((i : Int) + 1)
def Gp.partsL (g : Gp) (b : Int) : List Int := (upTo (b - 1).toNat).filter fun c => g.evenB c (b - c)
abbrev Rw := Option (List Bk) × Option (List Bk) × List Int
def Gp.twL (g : Gp) (c d : Int) : List (List Bk × List Int) := (if c = 1 then [([Bk.st], [g.a, c, d])] else []) ++ (g.partsL c).map fun e => (g.twiceL e (c - e) d, [g.a, e, c - e, d])
def Row.rowsAt (g : Gp) (c : Int) : Row → List Rw
  | .tr _ _ _ => (g.twL c (g.b - c)).map fun x => (some (g.onceL c (g.b - c)), some x.1, x.2)
  | .tn _ _ _ t s r => if s * c ≤ t * (g.b - c) + r then [(some (g.onceL c (g.b - c)), none, [g.a, c, g.b - c])] else (g.twL c (g.b - c)).map fun x => (none, some x.1, x.2)
def Row.rows (g : Gp) (row : Row) : List Rw := (g.partsL g.b).flatMap fun c => row.rowsAt g c
def inO (o : Option Bk) (l : Option (List Bk)) : Bool := (o.isNone == l.isNone) && (match o, l with | some o, some l => decide (o ∈ l) | _, _ => true)
def fitsR (o t : Option Bk) (r : Rw) : Bool := inO o r.1 && inO t r.2.1
def codeV (ns : List Int) : Int := 1000 * (ns.drop 1).dropLast.sum + ns.getD 1 0
def lessR (x : List Int) : Option (List Int) → Bool
  | none => true
  | some m => decide (codeV x < codeV m)
def bestR (o t : Option Bk) : List Rw → Option (List Int) → Option (List Int)
  | [], b => b
  | r :: rows, b => bestR o t rows (if (fitsR o t r && lessR r.2.2 b) = true then some r.2.2 else b)
def dueR (rows : List Rw) : List (Option Bk × Option Bk) → Option (Option Bk × Option Bk × List Int)
  | [] => none
  | (o, t) :: ord => match bestR o t rows none with
    | some ns => some (o, t, ns)
    | none => dueR rows ord
def orderTry : List (Option Bk × Option Bk) := onces.flatMap fun o => twices.map fun t => (o, t)
def orderTurn : List (Option Bk × Option Bk) := onces.map (fun o => (o, none)) ++ twices.map fun t => (none, t)
def Row.order : Row → List (Option Bk × Option Bk)
  | .tr _ _ _ => orderTry
  | .tn _ _ _ _ _ _ => orderTurn
theorem bestR_inv {o t : Option Bk} : ∀ (rows : List Rw) (b0 : Option (List Int)),
    (bestR o t rows b0 = none ∧ b0 = none ∧ ∀ r ∈ rows, fitsR o t r = false) ∨
    ∃ m, bestR o t rows b0 = some m ∧ (b0 = some m ∨ ∃ r ∈ rows, fitsR o t r = true ∧ r.2.2 = m) ∧ (∀ r ∈ rows, fitsR o t r = true → codeV m ≤ codeV r.2.2) ∧ (∀ m0, b0 = some m0 → codeV m ≤ codeV m0)
  | [], b0 => by
    cases b0 with
    | none => exact .inl ⟨rfl, rfl, fun r h => by cases h⟩
    | some m => exact .inr ⟨m, rfl, .inl rfl, (fun r h => by cases h), (fun m0 e => by rw [Option.some.inj e]; exact Int.le_refl _)⟩
  | r :: rows, b0 => by
    show (bestR o t rows (if (fitsR o t r && lessR r.2.2 b0) = true then some r.2.2 else b0) = none ∧ _) ∨ ∃ m, bestR o t rows (if (fitsR o t r && lessR r.2.2 b0) = true then some r.2.2 else b0) = some m ∧ _
    cases hf : fitsR o t r with
    | false =>
      rw [show (false && lessR r.2.2 b0) = false from rfl, if_neg Bool.false_ne_true]
      rcases bestR_inv rows b0 with ⟨h1, h2, h3⟩ | ⟨m, h1, h2, h3, h4⟩
      · refine .inl ⟨h1, h2, fun x hx => ?_⟩
        rcases List.mem_cons.mp hx with rfl | hx
        · exact hf
        · exact h3 x hx
      · refine .inr ⟨m, h1, ?_, fun x hx fx => ?_, h4⟩
        · rcases h2 with h2 | ⟨x, hx, h2⟩
          · exact .inl h2
          · exact .inr ⟨x, List.mem_cons_of_mem _ hx, h2⟩
        · rcases List.mem_cons.mp hx with rfl | hx
          · rw [hf] at fx; cases fx
          · exact h3 x hx fx
    | true =>
      rw [Bool.true_and]
      have key : ∀ b1, b1 ≠ none → (b1 = some r.2.2 ∨ b1 = b0) → (∀ m, b1 = some m → codeV m ≤ codeV r.2.2 ∧ ∀ m0, b0 = some m0 → codeV m ≤ codeV m0) →
          (bestR o t rows b1 = none ∧ b0 = none ∧ ∀ x ∈ r :: rows, fitsR o t x = false) ∨
          ∃ m, bestR o t rows b1 = some m ∧ (b0 = some m ∨ ∃ x ∈ r :: rows, fitsR o t x = true ∧ x.2.2 = m) ∧ (∀ x ∈ r :: rows, fitsR o t x = true → codeV m ≤ codeV x.2.2) ∧ ∀ m0, b0 = some m0 → codeV m ≤ codeV m0 := fun b1 n w q => by
        rcases bestR_inv rows b1 with ⟨h1, h2, h3⟩ | ⟨m, h1, h2, h3, h4⟩
        · exact absurd h2 n
        · cases b1 with
          | none => exact absurd rfl n
          | some m1 =>
            obtain ⟨q1, q2⟩ := q m1 rfl
            have h5 := h4 m1 rfl
            refine .inr ⟨m, h1, ?_, fun x hx fx => ?_, fun m0 e0 => Int.le_trans h5 (q2 m0 e0)⟩
            · rcases h2 with h2 | ⟨x, hx, h2⟩
              · rcases w with w | w
                · exact .inr ⟨r, List.mem_cons_self, hf, by rw [w] at h2; exact Option.some.inj h2⟩
                · exact .inl (by rw [← w]; exact h2)
              · exact .inr ⟨x, List.mem_cons_of_mem _ hx, h2⟩
            · rcases List.mem_cons.mp hx with rfl | hx
              · exact Int.le_trans h5 q1
              · exact h3 x hx fx
      cases b0 with
      | none =>
        rw [show lessR r.2.2 none = true from rfl, if_pos rfl]
        exact key _ (by intro z; cases z) (.inl rfl) fun m e => by rw [← Option.some.inj e]; exact ⟨Int.le_refl _, fun m0 z => by cases z⟩
      | some m0 =>
        rw [show lessR r.2.2 (some m0) = decide (codeV r.2.2 < codeV m0) from rfl]
        by_cases z : codeV r.2.2 < codeV m0
        · rw [if_pos (decide_eq_true z)]
          exact key _ (by intro z; cases z) (.inl rfl) fun m e => by rw [← Option.some.inj e]; exact ⟨Int.le_refl _, fun m1 e1 => by rw [← Option.some.inj e1]; omega⟩
        · rw [if_neg (by rw [decide_eq_true_eq]; exact z)]
          exact key _ (by intro z; cases z) (.inr rfl) fun m e => by rw [← Option.some.inj e]; exact ⟨by omega, fun m1 e1 => by rw [← Option.some.inj e1]; exact Int.le_refl _⟩
theorem bestR_some {o t : Option Bk} {rows : List Rw} {ns : List Int} (h : ∃ r ∈ rows, fitsR o t r = true ∧ r.2.2 = ns) (l : ∀ r ∈ rows, fitsR o t r = true → r.2.2 = ns ∨ codeV ns < codeV r.2.2) : bestR o t rows none = some ns := by
  obtain ⟨r, hr, fr, er⟩ := h
  rcases bestR_inv (o := o) (t := t) rows none with ⟨h1, h2, h3⟩ | ⟨m, h1, h2, h3, h4⟩
  · rw [h3 r hr] at fr; cases fr
  · rcases h2 with h2 | ⟨x, hx, fx, ex⟩
    · cases h2
    · have a := h3 r hr fr
      rcases l x hx fx with e | e
      · rw [h1, ← ex, e]
      · rw [ex] at e
        rw [er] at a
        omega
theorem bestR_none {o t : Option Bk} {rows : List Rw} (l : ∀ r ∈ rows, fitsR o t r = false) : bestR o t rows none = none := by
  rcases bestR_inv (o := o) (t := t) rows none with ⟨h1, h2, h3⟩ | ⟨m, h1, h2, h3, h4⟩
  · exact h1
  · rcases h2 with h2 | ⟨x, hx, fx, ex⟩
    · cases h2
    · rw [l x hx] at fx; cases fx
end Ev
namespace Ev
open PySem L2 PySem.Spec PyProof.Rows
/-! What a grip tells first is what the law's own way comes to. -/
theorem hv_iff {g : Gp} {x y : Int} : g.hv x y = true ↔ g.heavy x y := decide_eq_true_iff
theorem mem_upTo {n : Nat} {c : Int} : c ∈ upTo n ↔ 1 ≤ c ∧ c ≤ n := by
  unfold upTo
  rw [List.mem_map]
  constructor
  · rintro ⟨i, h, rfl⟩
    have := List.mem_range.mp h
    omega
  · rintro ⟨h1, h2⟩
    exact ⟨(c - 1).toNat, List.mem_range.mpr (by omega), by omega⟩
theorem mem_parts {g : Gp} {b c : Int} : c ∈ g.partsL b ↔ g.inner b c := by
  unfold Gp.partsL
  rw [List.mem_filter, mem_upTo]
  unfold Gp.evenB Gp.inner
  rw [Bool.and_eq_true, Bool.not_eq_true', Bool.not_eq_true', Bool.eq_false_iff, Bool.eq_false_iff, Ne, Ne, hv_iff, hv_iff]
  unfold Gp.heavy
  constructor
  · rintro ⟨⟨h1, h2⟩, h3, h4⟩
    exact ⟨h1, by omega, by omega, by omega⟩
  · rintro ⟨h1, h2, h3, h4⟩
    exact ⟨⟨h1, by omega⟩, by omega, by omega⟩
/-- b is barely too heavy -/
def Gp.bare (g : Gp) : Prop := g.q * (g.b - 1) ≤ g.p * g.a + g.k ∨ g.q * g.b ≤ g.p * (g.a + 1) + g.k
theorem Gp.top_no {g : Gp} (w : g.ok) (hb : g.bare) {c : Int} (h : 1 ≤ c) : ¬ g.heavy (g.b - c) (g.a + c) := by
  obtain ⟨o, ha, _⟩ := w
  have hp : 1 ≤ g.p := by obtain ⟨o1, o2, _⟩ := o; omega
  have hq := o.1
  unfold Gp.heavy
  have m1 : g.q ≤ g.q * c := by
    have := Int.mul_le_mul_of_nonneg_left h (show 0 ≤ g.q by omega)
    omega
  have m2 : g.p ≤ g.p * c := by
    have := Int.mul_le_mul_of_nonneg_left h (show 0 ≤ g.p by omega)
    omega
  unfold Gp.bare at hb
  rw [Int.mul_sub, Int.mul_add, Int.mul_one, Int.mul_one] at hb
  rw [Int.mul_sub, Int.mul_add]
  omega
theorem mem_onceL {g : Gp} (w : g.ok) (hb : g.bare) {o : Bk} (ho : some o ∈ onces) {c : Int} (h : 1 ≤ c) : o ∈ g.onceL c (g.b - c) ↔ g.once o c := by
  have tn := Gp.top_no w hb h
  simp only [onces, List.mem_cons, List.not_mem_nil, or_false, Option.some.injEq] at ho
  unfold Gp.onceL
  simp only [List.mem_append, mem_ifB, hv_iff]
  rcases ho with rfl | rfl | rfl | rfl
  · simp [Gp.once]
  · simp [Gp.once]
  · simp [Gp.once]
  · simp [Gp.once, tn]
theorem mem_twiceL {g : Gp} (w : g.ok) (hb : g.bare) {t : Bk} {c e : Int} (h : g.inner g.b c) (n : g.inner c e) : t ∈ g.twiceL e (c - e) (g.b - c) ↔ g.twice t c e := by
  have hq := w.1.1
  have tn := Gp.top_no w hb n.1
  have e1 : c - e + (g.b - c) = g.b - e := by omega
  have fn : ¬ g.heavy (c - e) (g.b - c) := by
    unfold Gp.heavy
    have h3 := h.2.2.1
    have : g.q * (c - e) ≤ g.q * c := Int.mul_le_mul_of_nonneg_left (by have := n.1; omega) (by omega)
    omega
  unfold Gp.twiceL
  rw [e1]
  simp only [List.mem_append, mem_ifB, hv_iff]
  cases t <;> simp [Gp.twice, tn, fn]
def Gp.at (g : Gp) (o t : Option Bk) (l u : Int) : Option (List Int) := if (g.ends o l u).1 ≤ (g.ends o l u).2 then g.nums t (g.ends o l u).1 (g.ends o l u).2 else none
theorem dueR_congr {rows : List Rw} {f : Option Bk → Option Bk → Option (List Int)} : ∀ {ord : List (Option Bk × Option Bk)}, (∀ x ∈ ord, bestR x.1 x.2 rows none = f x.1 x.2) → dueR rows ord = ord.findSome? fun x => (f x.1 x.2).map fun ns => (x.1, x.2, ns)
  | [], _ => rfl
  | (o, t) :: ord, h => by
    unfold dueR
    rw [h (o, t) List.mem_cons_self, List.findSome?_cons]
    cases f o t with
    | some ns => rfl
    | none => exact dueR_congr fun x hx => h x (List.mem_cons_of_mem _ hx)
theorem findSome_map {α β γ : Type} {f : α → β} {k : β → Option γ} : ∀ {l : List α}, (l.map f).findSome? k = l.findSome? fun a => k (f a)
  | [] => rfl
  | a :: l => by
    rw [List.map_cons, List.findSome?_cons, List.findSome?_cons]
    cases k (f a) with
    | some x => rfl
    | none => exact findSome_map
theorem Gp.second_eq {g : Gp} {o : Option Bk} {l u : Int} : ∀ {ts : List (Option Bk)}, g.second o l u ts = ts.findSome? fun t => (g.nums t l u).map fun ns => (o, t, ns)
  | [] => rfl
  | t :: ts => by
    unfold Gp.second
    rw [List.findSome?_cons]
    cases g.nums t l u with
    | some ns => rfl
    | none => exact Gp.second_eq
theorem findSome_none {α β : Type} {f : α → Option β} : ∀ {l : List α}, (∀ a ∈ l, f a = none) → l.findSome? f = none
  | [], _ => rfl
  | a :: l, h => by
    rw [List.findSome?_cons, h a List.mem_cons_self]
    exact findSome_none fun x hx => h x (List.mem_cons_of_mem _ hx)
theorem Gp.first_eq {g : Gp} {ts : List (Option Bk)} {l u : Int} : ∀ {os : List (Option Bk)}, g.first ts l u os = os.findSome? fun o => ts.findSome? fun t => (g.at o t l u).map fun ns => (o, t, ns)
  | [] => rfl
  | o :: os => by
    unfold Gp.first
    rw [List.findSome?_cons]
    by_cases z : (g.ends o l u).1 ≤ (g.ends o l u).2
    · rw [if_pos z, Gp.second_eq]
      have e : (fun t => (g.at o t l u).map fun ns => (o, t, ns)) = fun t => (g.nums t (g.ends o l u).1 (g.ends o l u).2).map fun ns => (o, t, ns) := by
        funext t
        unfold Gp.at
        rw [if_pos z]
      rw [e]
      cases ts.findSome? fun t => (g.nums t (g.ends o l u).1 (g.ends o l u).2).map fun ns => (o, t, ns) with
      | some x => rfl
      | none => exact Gp.first_eq
    · rw [if_neg z]
      have e : (ts.findSome? fun t => (g.at o t l u).map fun ns => (o, t, ns)) = none := findSome_none fun t _ => by
        unfold Gp.at
        rw [if_neg z]
        rfl
      rw [e]
      exact Gp.first_eq
theorem findSome_flatMap {α β γ : Type} {f : α → List β} {k : β → Option γ} : ∀ {l : List α}, (l.flatMap f).findSome? k = l.findSome? fun a => (f a).findSome? k
  | [] => rfl
  | a :: l => by
    rw [List.flatMap_cons, List.findSome?_append, List.findSome?_cons, findSome_flatMap]
    cases (f a).findSome? k <;> rfl
/-! the codes of the numbers -/
theorem code3 {a c d : Int} : codeV [a, c, d] = 1000 * c + c := by
  show 1000 * (c + 0) + c = _
  omega
theorem code4 {a e f d : Int} : codeV [a, e, f, d] = 1000 * (e + f) + e := by
  show 1000 * (e + (f + 0)) + e = _
  omega
/-- numbers of two turns: the least -/
theorem code_lt {a c e d c' e' d' : Int} (h1 : 1 ≤ e) (h2 : e < c) (h3 : c ≤ 900) (h1' : 1 ≤ e') (h : c < c' ∨ c = c' ∧ e ≤ e') (hd : c = c' → d = d') : ([a, e', c' - e', d'] : List Int) = [a, e, c - e, d] ∨ codeV [a, e, c - e, d] < codeV [a, e', c' - e', d'] := by
  rcases h with h | ⟨rfl, h⟩
  · refine .inr ?_
    rw [code4, code4]
    omega
  · obtain rfl := hd rfl
    by_cases z : e = e'
    · subst z; exact .inl rfl
    · refine .inr ?_
      rw [code4, code4]
      omega
end Ev
namespace Ev
open PySem L2 PySem.Spec PyProof.Rows
def Least (N : List Int → Prop) : Option (List Int) → Prop
  | none => ∀ ns, ¬ N ns
  | some ns => N ns ∧ ∀ ns', N ns' → ns' = ns ∨ codeV ns < codeV ns'
theorem best_of {o t : Option Bk} {rows : List Rw} {N : List Int → Prop} (h : ∀ ns, (∃ r ∈ rows, fitsR o t r = true ∧ r.2.2 = ns) ↔ N ns) {x : Option (List Int)} (hx : Least N x) : bestR o t rows none = x := by
  cases x with
  | none =>
    refine bestR_none fun r hr => ?_
    cases e : fitsR o t r with
    | false => rfl
    | true => exact absurd ((h _).mp ⟨r, hr, e, rfl⟩) (hx _)
  | some ns => exact bestR_some ((h ns).mpr hx.1) fun r hr fr => hx.2 _ ((h _).mp ⟨r, hr, fr, rfl⟩)
/-- numbers with c between two ends and a break of two turns -/
def Gp.Num (g : Gp) (l u : Int) (t : Bk) (ns : List Int) : Prop := ∃ c, l ≤ c ∧ c ≤ u ∧ ((t = .st ∧ c = 1 ∧ ns = [g.a, c, g.b - c]) ∨ ∃ e, g.inner c e ∧ g.twice t c e ∧ ns = [g.a, e, c - e, g.b - c])
theorem Gp.nums_least {g : Gp} (w : g.ok) {t : Bk} {l u : Int} (l1 : 1 ≤ l) (lu : l ≤ u) (u9 : u ≤ 900) : Least (g.Num l u t) (g.nums (some t) l u) := by
  by_cases st : t = .st
  · subst st
    show Least _ (if l = 1 then some [g.a, 1, g.b - 1] else none)
    by_cases z : l = 1
    · rw [if_pos z]
      refine ⟨⟨1, by omega, by omega, .inl ⟨rfl, rfl, rfl⟩⟩, fun ns' h => ?_⟩
      obtain ⟨c, h1, h2, ⟨_, rfl, e⟩ | ⟨e, _, h4, _⟩⟩ := h
      · exact .inl e
      · exact absurd h4 id
    · rw [if_neg z]
      rintro ns ⟨c, h1, h2, ⟨_, rfl, e⟩ | ⟨e, _, h4, _⟩⟩
      · omega
      · exact absurd h4 id
  · cases e : g.nums (some t) l u with
    | none =>
      rintro ns ⟨c, h1, h2, ⟨h3, _⟩ | ⟨e', h3, h4, _⟩⟩
      · exact st h3
      · exact Gp.nums_none w st e h1 h2 h3 h4
    | some ns =>
      obtain ⟨c, e', h1, h2, h3, h4, h5, h6⟩ := Gp.nums_some w st e
      refine ⟨⟨c, h2, h3, .inr ⟨e', h4, h5, h1⟩⟩, ?_⟩
      rintro ns' ⟨c', k1, k2, ⟨k3, _⟩ | ⟨e2, k3, k4, k5⟩⟩
      · exact absurd k3 st
      · subst h1 k5
        exact code_lt h4.1 (by have := h4.2.1; omega) (by omega) k3.1 (h6 c' e2 k1 k3 k4) (fun z => by rw [z])
def Gp.Num1 (g : Gp) (l u : Int) (ns : List Int) : Prop := ∃ c, l ≤ c ∧ c ≤ u ∧ ns = [g.a, c, g.b - c]
theorem Gp.nums1_least {g : Gp} {l u : Int} (lu : l ≤ u) : Least (g.Num1 l u) (g.nums none l u) := by
  refine ⟨⟨l, Int.le_refl _, lu, rfl⟩, ?_⟩
  rintro ns' ⟨c, h1, h2, rfl⟩
  by_cases z : c = l
  · subst z; exact .inl rfl
  · refine .inr ?_
    show codeV [g.a, l, g.b - l] < _
    rw [code3, code3]
    omega
theorem Gp.at_least {g : Gp} {N : Int → Int → List Int → Prop} {o t : Option Bk} {l u : Int} (he : ∀ l u ns, u < l → ¬ N l u ns) (h : (g.ends o l u).1 ≤ (g.ends o l u).2 → Least (N (g.ends o l u).1 (g.ends o l u).2) (g.nums t (g.ends o l u).1 (g.ends o l u).2)) : Least (N (g.ends o l u).1 (g.ends o l u).2) (g.at o t l u) := by
  unfold Gp.at
  by_cases z : (g.ends o l u).1 ≤ (g.ends o l u).2
  · rw [if_pos z]
    exact h z
  · rw [if_neg z]
    exact fun ns => he _ _ _ (by omega)
theorem Gp.Num.emp {g : Gp} {l u : Int} {t : Bk} {ns : List Int} (h : u < l) : ¬ g.Num l u t ns := by
  rintro ⟨c, h1, h2, _⟩
  omega
theorem Gp.Num1.emp {g : Gp} {l u : Int} {ns : List Int} (h : u < l) : ¬ g.Num1 l u ns := by
  rintro ⟨c, h1, h2, _⟩
  omega
theorem mem_twL {g : Gp} {c d : Int} {x : List Bk × List Int} : x ∈ g.twL c d ↔ (c = 1 ∧ x = ([Bk.st], [g.a, c, d])) ∨ ∃ e, g.inner c e ∧ x = (g.twiceL e (c - e) d, [g.a, e, c - e, d]) := by
  unfold Gp.twL
  rw [List.mem_append, List.mem_map]
  constructor
  · rintro (h | ⟨e, he, rfl⟩)
    · by_cases z : c = 1
      · rw [if_pos z] at h
        exact .inl ⟨z, List.mem_singleton.mp h⟩
      · rw [if_neg z] at h
        cases h
    · exact .inr ⟨e, mem_parts.mp he, rfl⟩
  · rintro (⟨z, rfl⟩ | ⟨e, he, rfl⟩)
    · rw [if_pos z]
      exact .inl (List.mem_singleton.mpr rfl)
    · exact .inr ⟨e, mem_parts.mpr he, rfl⟩
/-- the breaks of two turns at c -/
theorem twL_num {g : Gp} (w : g.ok) (hb : g.bare) {c : Int} (hc : g.inner g.b c) {t : Bk} {ns : List Int} : (∃ x ∈ g.twL c (g.b - c), t ∈ x.1 ∧ x.2 = ns) ↔ ((t = .st ∧ c = 1 ∧ ns = [g.a, c, g.b - c]) ∨ ∃ e, g.inner c e ∧ g.twice t c e ∧ ns = [g.a, e, c - e, g.b - c]) := by
  constructor
  · rintro ⟨x, hx, ht, rfl⟩
    rcases mem_twL.mp hx with ⟨z, rfl⟩ | ⟨e, he, rfl⟩
    · exact .inl ⟨List.mem_singleton.mp ht, z, rfl⟩
    · exact .inr ⟨e, he, (mem_twiceL w hb hc he).mp ht, rfl⟩
  · rintro (⟨rfl, z, rfl⟩ | ⟨e, he, ht, rfl⟩)
    · exact ⟨_, mem_twL.mpr (.inl ⟨z, rfl⟩), List.mem_singleton.mpr rfl, rfl⟩
    · exact ⟨_, mem_twL.mpr (.inr ⟨e, he, rfl⟩), (mem_twiceL w hb hc he).mpr ht, rfl⟩
theorem inO_ss {o : Bk} {l : List Bk} : inO (some o) (some l) = true ↔ o ∈ l := by
  show (true && decide (o ∈ l)) = true ↔ _
  rw [Bool.true_and, decide_eq_true_iff]
theorem fits_ss {o t : Bk} {l m : List Bk} {ns : List Int} : fitsR (some o) (some t) (some l, some m, ns) = true ↔ o ∈ l ∧ t ∈ m := by
  show (inO (some o) (some l) && inO (some t) (some m)) = true ↔ _
  rw [Bool.and_eq_true, inO_ss, inO_ss]
theorem fits_sn {o : Bk} {l : List Bk} {ns : List Int} : fitsR (some o) none (some l, none, ns) = true ↔ o ∈ l := by
  show (inO (some o) (some l) && true) = true ↔ _
  rw [Bool.and_true, inO_ss]
theorem fits_ns {t : Bk} {m : List Bk} {ns : List Int} : fitsR none (some t) (none, some m, ns) = true ↔ t ∈ m := by
  show (true && inO (some t) (some m)) = true ↔ _
  rw [Bool.true_and, inO_ss]
/-- c between the ends -/
theorem Gp.ends_iff {g : Gp} (w : g.ok) {o : Bk} (ho : some o ∈ onces) {l u c : Int} (l1 : 1 ≤ l) : ((g.ends (some o) l u).1 ≤ c ∧ c ≤ (g.ends (some o) l u).2) ↔ l ≤ c ∧ c ≤ u ∧ g.once o c := by
  constructor
  · rintro ⟨h1, h2⟩
    obtain ⟨b, e, h3⟩ := Gp.ends_once w ho l1 h1 h2
    obtain rfl := Option.some.inj e
    exact h3
  · rintro ⟨h1, h2, h3⟩
    exact Gp.once_ends w ho (by omega) h1 h2 h3
theorem Gp.ends_pos {g : Gp} (w : g.ok) {o : Bk} (ho : some o ∈ onces) {l u : Int} (l1 : 1 ≤ l) : 1 ≤ (g.ends (some o) l u).1 ∧ (u ≤ 900 → (g.ends (some o) l u).2 ≤ 900) := by
  simp only [onces, List.mem_cons, List.not_mem_nil, or_false, Option.some.injEq] at ho
  rcases ho with rfl | rfl | rfl | rfl
  · refine ⟨l1, fun h => ?_⟩
    show (if u < g.L then u else g.L - 1) ≤ 900
    split <;> omega
  · refine ⟨?_, fun h => h⟩
    show 1 ≤ (if l > g.T then l else g.T)
    split <;> omega
  · refine ⟨?_, fun h => h⟩
    show 1 ≤ (if l > g.M then l else g.M)
    split <;> omega
  · exact ⟨Int.le_refl _, fun _ => (by decide : (0 : Int) ≤ 900)⟩
theorem tr_best {g : Gp} (w : g.ok) (hb : g.bare) (b9 : g.b ≤ 900) {p q k : Int} {o t : Bk} (ho : some o ∈ onces) : bestR (some o) (some t) ((Row.tr p q k).rows g) none = g.at (some o) (some t) (g.part g.b) (g.b - g.part g.b) := by
  have pp : 1 ≤ g.part g.b := part_pos _ _ _ _
  have ep := Gp.ends_pos w ho (u := g.b - g.part g.b) pp
  refine best_of (N := g.Num (g.ends (some o) (g.part g.b) (g.b - g.part g.b)).1 (g.ends (some o) (g.part g.b) (g.b - g.part g.b)).2 t) (fun ns => ?_)
    (Gp.at_least (N := fun l u ns => g.Num l u t ns) (fun _ _ _ h => Gp.Num.emp h) fun z => Gp.nums_least w ep.1 z (ep.2 (by omega)))
  constructor
  · rintro ⟨r, hr, fr, rfl⟩
    obtain ⟨c, hc, hr⟩ := List.mem_flatMap.mp hr
    have hc := mem_parts.mp hc
    have hc2 := (Gp.inner_iff w.1).mp hc
    obtain ⟨x, hx, rfl⟩ := List.mem_map.mp (show r ∈ (g.twL c (g.b - c)).map _ from hr)
    obtain ⟨f1, f2⟩ := fits_ss.mp fr
    obtain ⟨c1, c2⟩ := (Gp.ends_iff w ho pp).mpr ⟨hc2.1, hc2.2, (mem_onceL w hb ho hc.1).mp f1⟩
    exact ⟨c, c1, c2, (twL_num w hb hc).mp ⟨x, hx, f2, rfl⟩⟩
  · rintro ⟨c, h1, h2, h3⟩
    obtain ⟨c1, c2, c3⟩ := (Gp.ends_iff w ho pp).mp ⟨h1, h2⟩
    have hc := (Gp.inner_iff w.1).mpr ⟨c1, c2⟩
    obtain ⟨x, hx, x1, x2⟩ := (twL_num w hb hc).mpr h3
    exact ⟨_, List.mem_flatMap.mpr ⟨c, mem_parts.mpr hc, List.mem_map.mpr ⟨x, hx, rfl⟩⟩, fits_ss.mpr ⟨(mem_onceL w hb ho hc.1).mpr c3, x1⟩, x2⟩
theorem tn_best1 {g : Gp} (w : g.ok) (hb : g.bare) {p q k t s r : Int} (ht : 1 ≤ t) (hs : 1 ≤ s) {o : Bk} (ho : some o ∈ onces) :
    bestR (some o) none ((Row.tn p q k t s r).rows g) none = g.at (some o) none (g.part g.b) (if g.b - g.part g.b < (t * g.b + r).fdiv (t + s) then g.b - g.part g.b else (t * g.b + r).fdiv (t + s)) := by
  have pp : 1 ≤ g.part g.b := part_pos _ _ _ _
  have eu : ∀ c, c ≤ (if g.b - g.part g.b < (t * g.b + r).fdiv (t + s) then g.b - g.part g.b else (t * g.b + r).fdiv (t + s)) ↔ c ≤ g.b - g.part g.b ∧ s * c ≤ t * (g.b - c) + r := fun c => by
    rw [← most_le ht hs]
    split <;> constructor <;> intro h <;> first | constructor <;> omega | omega
  generalize (if g.b - g.part g.b < (t * g.b + r).fdiv (t + s) then g.b - g.part g.b else (t * g.b + r).fdiv (t + s)) = u at eu
  refine best_of (N := g.Num1 (g.ends (some o) (g.part g.b) u).1 (g.ends (some o) (g.part g.b) u).2) (fun ns => ?_)
    (Gp.at_least (N := fun l u ns => g.Num1 l u ns) (fun _ _ _ h => Gp.Num1.emp h) fun z => Gp.nums1_least z)
  constructor
  · rintro ⟨x, hr, fr, rfl⟩
    obtain ⟨c, hc, hr⟩ := List.mem_flatMap.mp hr
    have hc := mem_parts.mp hc
    have hc2 := (Gp.inner_iff w.1).mp hc
    have hr : x ∈ (if s * c ≤ t * (g.b - c) + r then [((some (g.onceL c (g.b - c)), none, [g.a, c, g.b - c]) : Rw)] else (g.twL c (g.b - c)).map fun x => (none, some x.1, x.2)) := hr
    by_cases z : s * c ≤ t * (g.b - c) + r
    · rw [if_pos z] at hr
      obtain rfl := List.mem_singleton.mp hr
      have f1 := fits_sn.mp fr
      obtain ⟨c1, c2⟩ := (Gp.ends_iff w ho pp (u := u)).mpr ⟨hc2.1, (eu c).mpr ⟨hc2.2, z⟩, (mem_onceL w hb ho hc.1).mp f1⟩
      exact ⟨c, c1, c2, rfl⟩
    · rw [if_neg z] at hr
      obtain ⟨y, hy, rfl⟩ := List.mem_map.mp hr
      cases fr
  · rintro ⟨c, h1, h2, rfl⟩
    obtain ⟨c1, c2, c3⟩ := (Gp.ends_iff w ho pp).mp ⟨h1, h2⟩
    obtain ⟨c4, c5⟩ := (eu c).mp c2
    have hc := (Gp.inner_iff w.1).mpr ⟨c1, c4⟩
    refine ⟨(some (g.onceL c (g.b - c)), none, [g.a, c, g.b - c]), List.mem_flatMap.mpr ⟨c, mem_parts.mpr hc, ?_⟩, fits_sn.mpr ((mem_onceL w hb ho hc.1).mpr c3), rfl⟩
    show _ ∈ (if s * c ≤ t * (g.b - c) + r then [((some (g.onceL c (g.b - c)), none, [g.a, c, g.b - c]) : Rw)] else (g.twL c (g.b - c)).map fun x => (none, some x.1, x.2))
    rw [if_pos c5]
    exact List.mem_singleton.mpr rfl
theorem tn_best2 {g : Gp} (w : g.ok) (hb : g.bare) (b9 : g.b ≤ 900) {p q k u s r : Int} (hu : 1 ≤ u) (hs : 1 ≤ s) {t : Bk} :
    bestR none (some t) ((Row.tn p q k u s r).rows g) none = g.at none (some t) (if g.part g.b > (u * g.b + r).fdiv (u + s) then g.part g.b else (u * g.b + r).fdiv (u + s) + 1) (g.b - g.part g.b) := by
  have pp : 1 ≤ g.part g.b := part_pos _ _ _ _
  have el : ∀ c, (if g.part g.b > (u * g.b + r).fdiv (u + s) then g.part g.b else (u * g.b + r).fdiv (u + s) + 1) ≤ c ↔ g.part g.b ≤ c ∧ ¬ s * c ≤ u * (g.b - c) + r := fun c => by
    rw [← most_le hu hs]
    split <;> constructor <;> intro h <;> first | constructor <;> omega | omega
  have l1 : 1 ≤ (if g.part g.b > (u * g.b + r).fdiv (u + s) then g.part g.b else (u * g.b + r).fdiv (u + s) + 1) := by split <;> omega
  generalize (if g.part g.b > (u * g.b + r).fdiv (u + s) then g.part g.b else (u * g.b + r).fdiv (u + s) + 1) = l at el l1
  refine best_of (N := g.Num l (g.b - g.part g.b) t) (fun ns => ?_)
    (Gp.at_least (N := fun l u ns => g.Num l u t ns) (o := none) (fun _ _ _ h => Gp.Num.emp h) fun z => Gp.nums_least w l1 z (show g.b - g.part g.b ≤ 900 by omega))
  constructor
  · rintro ⟨x, hr, fr, rfl⟩
    obtain ⟨c, hc, hr⟩ := List.mem_flatMap.mp hr
    have hc := mem_parts.mp hc
    have hc2 := (Gp.inner_iff w.1).mp hc
    have hr : x ∈ (if s * c ≤ u * (g.b - c) + r then [((some (g.onceL c (g.b - c)), none, [g.a, c, g.b - c]) : Rw)] else (g.twL c (g.b - c)).map fun x => (none, some x.1, x.2)) := hr
    by_cases z : s * c ≤ u * (g.b - c) + r
    · rw [if_pos z] at hr
      obtain rfl := List.mem_singleton.mp hr
      cases fr
    · rw [if_neg z] at hr
      obtain ⟨y, hy, rfl⟩ := List.mem_map.mp hr
      exact ⟨c, (el c).mpr ⟨hc2.1, z⟩, hc2.2, (twL_num w hb hc).mp ⟨y, hy, fits_ns.mp fr, rfl⟩⟩
  · rintro ⟨c, h1, h2, h3⟩
    obtain ⟨c1, c2⟩ := (el c).mp h1
    have hc := (Gp.inner_iff w.1).mpr ⟨c1, h2⟩
    obtain ⟨x, hx, x1, x2⟩ := (twL_num w hb hc).mpr h3
    refine ⟨(none, some x.1, x.2), List.mem_flatMap.mpr ⟨c, mem_parts.mpr hc, ?_⟩, fits_ns.mpr x1, x2⟩
    show _ ∈ (if s * c ≤ u * (g.b - c) + r then [((some (g.onceL c (g.b - c)), none, [g.a, c, g.b - c]) : Rw)] else (g.twL c (g.b - c)).map fun x => (none, some x.1, x.2))
    rw [if_neg c2]
    exact List.mem_map.mpr ⟨x, hx, rfl⟩
theorem mem_onces_some {o : Option Bk} (h : o ∈ onces) : ∃ b, o = some b := by
  simp only [onces, List.mem_cons, List.not_mem_nil, or_false] at h
  rcases h with rfl | rfl | rfl | rfl <;> exact ⟨_, rfl⟩
theorem mem_twices_some {o : Option Bk} (h : o ∈ twices) : ∃ b, o = some b := by
  simp only [twices, List.mem_cons, List.not_mem_nil, or_false] at h
  rcases h with rfl | rfl | rfl | rfl | rfl | rfl | rfl <;> exact ⟨_, rfl⟩
/-- a try rule -/
theorem try_due {g : Gp} (w : g.ok) (hb : g.bare) (b9 : g.b ≤ 900) {p q k : Int} : g.tryB = dueR ((Row.tr p q k).rows g) orderTry := by
  unfold Gp.tryB orderTry
  rw [dueR_congr (f := fun o t => g.at o t (g.part g.b) (g.b - g.part g.b)), findSome_flatMap, Gp.first_eq]
  · congr 1
  · intro x hx
    obtain ⟨o, ho, hx⟩ := List.mem_flatMap.mp hx
    obtain ⟨t, ht, rfl⟩ := List.mem_map.mp hx
    obtain ⟨o, rfl⟩ := mem_onces_some ho
    obtain ⟨t, rfl⟩ := mem_twices_some ht
    exact tr_best w hb b9 ho
/-- a turn rule -/
theorem turn_due {g : Gp} (w : g.ok) (hb : g.bare) (b9 : g.b ≤ 900) {p q k t s r : Int} (ht : 1 ≤ t) (hs : 1 ≤ s) : g.turnB t s r = dueR ((Row.tn p q k t s r).rows g) orderTurn := by
  unfold orderTurn
  rw [dueR_congr (f := fun o x => match o with
    | some _ => g.at o x (g.part g.b) (if g.b - g.part g.b < (t * g.b + r).fdiv (t + s) then g.b - g.part g.b else (t * g.b + r).fdiv (t + s))
    | none => g.at o x (if g.part g.b > (t * g.b + r).fdiv (t + s) then g.part g.b else (t * g.b + r).fdiv (t + s) + 1) (g.b - g.part g.b)), List.findSome?_append]
  · unfold Gp.turnB
    dsimp only
    rw [Gp.first_eq, Gp.first_eq, findSome_map, findSome_map]
    have e1 : (onces.findSome? fun o => [(none : Option Bk)].findSome? fun t_1 => (g.at o t_1 (g.part g.b) (if g.b - g.part g.b < (t * g.b + r).fdiv (t + s) then g.b - g.part g.b else (t * g.b + r).fdiv (t + s))).map fun ns => (o, t_1, ns)) =
        onces.findSome? fun a => (match a with
          | some _ => g.at a none (g.part g.b) (if g.b - g.part g.b < (t * g.b + r).fdiv (t + s) then g.b - g.part g.b else (t * g.b + r).fdiv (t + s))
          | none => g.at a none (if g.part g.b > (t * g.b + r).fdiv (t + s) then g.part g.b else (t * g.b + r).fdiv (t + s) + 1) (g.b - g.part g.b)).map fun ns => (a, none, ns) := by
      have one : ∀ {α β : Type} (k : α → Option β) (a : α), [a].findSome? k = k a := fun k a => by
        rw [List.findSome?_cons]
        cases k a <;> rfl
      simp only [onces, List.findSome?_cons, one]
    rw [e1]
    have e3 : ∀ {α : Type} (k : Option Bk → Option α), [(none : Option Bk)].findSome? k = k none := fun k => by
      rw [List.findSome?_cons]
      cases k none <;> rfl
    rw [e3]
    dsimp only
    split <;> rename_i h <;> rw [h] <;> rfl
  · intro x hx
    rcases List.mem_append.mp hx with hx | hx
    · obtain ⟨o, ho, rfl⟩ := List.mem_map.mp hx
      obtain ⟨o, rfl⟩ := mem_onces_some ho
      exact tn_best1 w hb ht hs ho
    · obtain ⟨o, ho, rfl⟩ := List.mem_map.mp hx
      obtain ⟨o, rfl⟩ := mem_twices_some ho
      exact tn_best2 w hb b9 ht hs
end Ev
namespace Ev
open PySem L2 PySem.Spec PyProof.Rows RZ
section
variable {X : Cx}
theorem pe_never {e : Expr} : PE X e (fun _ _ _ => False) := ⟨fun _ _ _ _ _ _ h => h.elim⟩
/-- x in a tuple of data -/
def rInT (K : PySem.W.Frag) : R2 := fun x y H Q => ∃ d ds, Dp K H x d ∧ Dp K H y (.tuple ds) ∧ SeqAt.shaped d = true ∧ SeqAt.shaped (.list ds) = true ∧ Q (.bl (ds.any fun z => PyData.eqv z d)) H
theorem op_inT (hu : X.A.units + 65 < cLine) : OpR X (compareOp .In) (rInT X.K) := by
  intro pins s σ H x y v u Q I rx ry h
  obtain ⟨d, ds, hd, he, sd, se, q⟩ := h
  obtain ⟨as, r1⟩ := Dp.reads I d x v hd rx
  obtain ⟨bs, r2⟩ := Dp.reads I (.tuple ds) y u he ry
  exact SeqAt.in_tuple_reads r2 r1 (SeqAt.canLay_of_shaped se) (SeqAt.canLay_of_shaped sd) (room_in_shaped sd hu) ⟨.bl _, H, I, rfl, q⟩
end
/-- v is a value of the built-in type T, one that holds nothing -/
structure Flat (v : V) (T : String) : Prop where
  ty : ∀ (K : PySem.W.Frag) (H : Hp), TyX K H v (.type T)
  l : kitB T "list" = some false
  t : kitB T "tuple" = some false
  d : kitB T "dict" = some false
theorem flat_int (i : Int) : Flat (.int i) "int" := ⟨fun _ _ => .base (.int i), by decide +kernel, by decide +kernel, by decide +kernel⟩
theorem flat_str (x : Str) : Flat (.str x) "str" := ⟨fun _ _ => .base (.str x), by decide +kernel, by decide +kernel, by decide +kernel⟩
theorem flat_non : Flat .non "NoneType" := ⟨fun _ _ => .base .non, by decide +kernel, by decide +kernel, by decide +kernel⟩
theorem kit3 {K : PySem.W.Frag} {T a b c : String} (h1 : kitB T a = some false) (h2 : kitB T b = some false) (h3 : kitB T c = some false) : PySem.W.kitAny K (.type T) [.type a, .type b, .type c] = some false :=
  kitAny_cons (kit_ty h1) (fun _ => kitAny_cons (kit_ty h2) (fun _ => kitAny_cons (kit_ty h3) (fun _ => kitAny_nil) (fun z => by cases z)) (fun z => by cases z)) (fun z => by cases z)
theorem kit_any2 {K : PySem.W.Frag} {T a b : String} {r1 r2 : Bool} (h1 : kitB T a = some r1) (h2 : kitB T b = some r2) : PySem.W.kitAny K (.type T) [.type a, .type b] = some (r1 || r2) := by
  refine kitAny_cons (kit_ty h1) (fun e => ?_) (fun e => by rw [e]; rfl)
  refine kitAny_cons (kit_ty h2) (fun e2 => ?_) (fun e2 => by rw [e, e2]; rfl)
  rw [e, e2]
  exact kitAny_nil
theorem kit_any3 {K : PySem.W.Frag} {T a b c : String} {r1 r2 r3 : Bool} (h1 : kitB T a = some r1) (h2 : kitB T b = some r2) (h3 : kitB T c = some r3) : PySem.W.kitAny K (.type T) [.type a, .type b, .type c] = some (r1 || (r2 || r3)) := by
  refine kitAny_cons (kit_ty h1) (fun e => ?_) (fun e => by rw [e]; rfl)
  rw [e]
  exact (kit_any2 h2 h3).trans rfl
theorem SqT.keep {K : PySem.W.Frag} {H H' : Hp} {a : Addr} {xs : List V} (h : SqT K H a xs) (s : Same H H') : SqT K H' a xs :=
  h.elim (fun h => .inl (h.elim (fun h => .inl (s _ _ h)) fun ⟨o, h⟩ => .inr ⟨o, s _ _ h⟩)) fun h => .inr h
theorem tyT {K : PySem.W.Frag} {H : Hp} {a : Addr} {xs : List V} (h : SqT K H a xs) : TyX K H (.ref a) (.type "tuple") := by
  rcases h with (h | ⟨o, h⟩) | ⟨o, its, n, h1, h2, _⟩
  · exact .base (.tup h)
  · exact .fTuple h
  · exact .kTuple h1 h2
abbrev sParts : Stmt := sPartsOf
abbrev sFlat : Stmt := sIsFlat
/-- a value that holds nothing, or a tuple of such -/
def PL (K : PySem.W.Frag) (H : Hp) (v : V) : Prop := (∃ T, Flat v T) ∨ (∃ a xs, v = .ref a ∧ SqT K H a xs ∧ (∀ u ∈ xs, ∃ T, Flat u T))
theorem PL.keep {K : PySem.W.Frag} {H H' : Hp} {v : V} (h : PL K H v) (s : Same H H') : PL K H' v := by
  rcases h with h | ⟨a, xs, e, h, f⟩
  · exact .inl h
  · exact .inr ⟨a, xs, e, SqT.keep h s, f⟩
def spFlatT (K : PySem.W.Frag) : Sp := fun vs H Q _ => ∃ (a : Addr) (us : List V), vs = [.ref a] ∧ SqT K H a us ∧ (∀ u ∈ us, ∃ T, Flat u T) ∧ ∀ H', Same H H' → Q (.bl true) H'
def spKeptT (K : PySem.W.Frag) : Sp := fun vs H Q _ => ∃ v : V, vs = [v] ∧ PL K H v ∧ ∀ H', Same H H' → Q v H'
section
variable {P : Program} {w : World} {K : PySem.W.Frag} {mg : Str → Option Value} {base : Heap}
theorem scFlat : FnScope ["value", "part"] ["value"] (defScope sFlat) := ⟨rfl, rfl, rfl, by decide +kernel, rfl, by decide +kernel, by decide +kernel⟩
theorem ok_flatT {f : Addr} {fd : FuncData} (F : Fun K "is_flat" "is_flat" sFlat f fd) (T : Blt mg) (md : mg "dict" = none) : FnOk P w K mg base CX0 1 f fd ["value"] (spFlatT K) := by
  refine F.ok scFlat (fun vs H Q E h => ?_) (fun cdv A outer s H vs Q E hr h => ?_)
  · obtain ⟨a, us, rfl, _⟩ := h
    rfl
  · obtain ⟨a, us, rfl, ha, af, k⟩ := h
    refine ⟨_, pss_cons (ps_for PassesOwn.never rfl (pi_tup (pv 0)) (pg_name (i := 1) scFlat.nd rfl (.inl rfl))
        (pss_one (ps_if (pt_val (pe_callB call_isiT (by rfl) T.isi (by decide +kernel) (pa_cons (pv 1) (pa_cons (pe_tup (pa_cons (pe_bltn (v := .ty "list") (by rfl) T.list (by decide +kernel) rfl) (pa_cons (pe_bltn (v := .ty "tuple") (by rfl) T.tuple (by decide +kernel) rfl) (pa_cons (pe_bltn (v := .ty "dict") (by rfl) md (by decide +kernel) rfl) pa_nil)))) pa_nil)))) (pss_one ps_never) pss_nil)))
      (pss_one (ps_ret pe_bl)), ?_⟩
    refine ⟨_, rfl, a, rfl, ⟨_, ha⟩, ?_⟩
    refine for_it (walk_tup (K := K) (a := a) (xs := us)) (fun i σ G => Same H G ∧ ∃ z, σ = [some (.ref a), z]) ⟨Same.refl _, _, rfl⟩ (fun i σ G _ h => SqT.keep ha h.1) (fun i v σ G2 G3 hi h y => ?_) (fun σ G h => ?_)
    · obtain ⟨s2, z, rfl⟩ := h
      obtain ⟨rfl, hx⟩ := y
      obtain ⟨TT, fl⟩ := af v (List.mem_of_getElem? hx)
      exact ⟨_, rfl, (by show 3 ≤ sizeLine; decide), fun tp ntp => ⟨v, tp, _, _, _, false, rfl, upd_same, .cons (.ty _) (.cons (.ty _) (.cons (.ty _) .nil)), fl.ty _ _, kit3 fl.l fl.t fl.d, _, rfl, iteF ⟨s2.trans (same_new ntp), _, rfl⟩⟩⟩
    · obtain ⟨s2, z, rfl⟩ := h
      exact k G s2
theorem scKept : FnScope ["value"] ["value"] (defScope sKept) := ⟨rfl, rfl, rfl, by decide +kernel, rfl, by decide +kernel, by decide +kernel⟩
theorem ok_keptT {f : Addr} {fd : FuncData} (F : Fun K "kept" "kept" sKept f fd) (T : Blt mg) (md : mg "dict" = none) (D : Df P w K mg base 1 "is_flat" ["value"] (spFlatT K)) : FnOk P w K mg base CX0 2 f fd ["value"] (spKeptT K) := by
  obtain ⟨f1, fd1, G1, g1, k1, b1⟩ := D.ex
  refine F.ok scKept (fun vs H Q E h => ?_) (fun cdv A outer s H vs Q E hr h => ?_)
  · obtain ⟨v, rfl, _⟩ := h
    rfl
  · obtain ⟨v, rfl, hv, kk⟩ := h
    refine ⟨_, pss_cons (ps_if (pt_not (pt_val (pe_callB call_isiT (by rfl) T.isi (by decide +kernel) (pa_cons (pv 0) (pa_cons (pe_tup (pa_cons (pe_bltn (v := .ty "list") (by rfl) T.list (by decide +kernel) rfl) (pa_cons (pe_bltn (v := .ty "tuple") (by rfl) T.tuple (by decide +kernel) rfl) (pa_cons (pe_bltn (v := .ty "dict") (by rfl) md (by decide +kernel) rfl) pa_nil)))) pa_nil))))) (pss_one (ps_ret (pv 0))) pss_nil)
      (pss_cons (ps_if (PW.pt (pw_and (pt_val (pe_callB call_isi (by rfl) T.isi (by decide +kernel) (pa_cons (pv 0) (pa_cons (pe_bltn (v := .ty "tuple") (by rfl) T.tuple (by decide +kernel) rfl) pa_nil)))) (pw_and1 (pt_val (pe_call G1 hr (by rfl) g1 k1 b1 .nil pass0 (pa_cons (pv 0) pa_nil)))))) (pss_one (ps_ret (pv 0))) pss_nil)
      (pss_one ps_never)), ?_⟩
    rcases hv with ⟨TT, fl⟩ | ⟨a, xs, rfl, ha, af⟩
    · exact ⟨_, rfl, (by show 3 ≤ sizeLine; decide), fun tp ntp => ⟨v, tp, _, _, _, false, rfl, upd_same, .cons (.ty _) (.cons (.ty _) (.cons (.ty _) .nil)), fl.ty _ _, kit3 fl.l fl.t fl.d, _, rfl, iteT ⟨_, rfl, kk _ (same_new ntp)⟩⟩⟩
    · refine ⟨_, rfl, (by show 3 ≤ sizeLine; decide), fun tp ntp => ?_⟩
      have s1 := same_new (H := H) (o := .tup [.ty "list", .ty "tuple", .ty "dict"]) ntp
      have e1 := SqT.keep ha s1
      refine ⟨_, tp, _, _, _, true, rfl, upd_same, .cons (.ty _) (.cons (.ty _) (.cons (.ty _) .nil)), tyT e1, kit_any3 (r1 := false) (r2 := true) (r3 := false) (by decide +kernel) (by decide +kernel) (by decide +kernel), _, rfl, iteF ?_⟩
      refine ⟨_, rfl, _, _, _, _, true, rfl, .ty _, tyT e1, kit_ty (by decide +kernel), _, rfl, iteT ?_⟩
      exact ⟨_, rfl, a, xs, rfl, e1, af, fun H' s' => ⟨_, rfl, iteT ⟨_, rfl, kk _ (s1.trans s')⟩⟩⟩
end
/-! ### breaks as values -/
def BkV (K : PySem.W.Frag) (H : Hp) (v : V) : Option Bk → Prop
  | none => v = .non
  | some b => ∃ a, v = .ref a ∧ SqT K H a [.str b.n, .str b.s]
theorem BkV.keep {K : PySem.W.Frag} {H H' : Hp} {v : V} {o : Option Bk} (h : BkV K H v o) (s : Same H H') : BkV K H' v o := by
  cases o with
  | none => exact h
  | some b =>
    obtain ⟨a, e, h⟩ := h
    exact ⟨a, e, SqT.keep h s⟩
theorem BkV.but {K : PySem.W.Frag} {H H' : Hp} {v : V} {o : Option Bk} {p : Addr} {u : HO} (h : BkV K H v o) (hp : H p = some u) (hu : (∀ xs, u ≠ .tup xs) ∧ ∀ o xs, u ≠ .frz o xs) (s : But p H H') : BkV K H' v o := by
  cases o with
  | none => exact h
  | some b =>
    obtain ⟨a, e, h⟩ := h
    refine ⟨a, e, ?_⟩
    rcases h with (h | ⟨o, h⟩) | h
    · exact .inl (.inl (s _ _ (fun z => by subst z; rw [hp] at h; exact hu.1 _ (Option.some.inj h)) h))
    · exact .inl (.inr ⟨o, s _ _ (fun z => by subst z; rw [hp] at h; exact hu.2 _ _ (Option.some.inj h)) h⟩)
    · exact .inr h
theorem BkV.pl {K : PySem.W.Frag} {H : Hp} {v : V} {o : Option Bk} (h : BkV K H v o) : PL K H v := by
  cases o with
  | none => exact .inl ⟨_, by rw [show v = .non from h]; exact flat_non⟩
  | some b =>
    obtain ⟨a, e, h⟩ := h
    refine .inr ⟨a, _, e, h, fun u hu => ?_⟩
    simp only [List.mem_cons, List.not_mem_nil, or_false] at hu
    rcases hu with rfl | rfl <;> exact ⟨_, flat_str _⟩
def bkD : Option Bk → PyData
  | none => .none
  | some b => .tuple [.str b.n, .str b.s]
theorem BkV.dp {K : PySem.W.Frag} {H : Hp} {v : V} {o : Option Bk} (h : BkV K H v o) : Dp K H v (bkD o) := by
  cases o with
  | none => rw [show v = .non from h]; exact .non
  | some b =>
    obtain ⟨a, rfl, h⟩ := h
    exact .tup h (.cons (.str _) (.cons (.str _) .nil))
def allB : List (Option Bk) := [none, some .st, some .li1, some .li2, some .fa1, some .fa2, some .to1, some .to2]
theorem allB_mem (o : Option Bk) : o ∈ allB := by
  cases o with
  | none => simp [allB]
  | some b => cases b <;> simp [allB]
theorem bkD_eqv (x y : Option Bk) : PyData.eqv (bkD x) (bkD y) = decide (x = y) := by
  have : ∀ x ∈ allB, ∀ y ∈ allB, PyData.eqv (bkD x) (bkD y) = decide (x = y) := by decide +kernel
  exact this x (allB_mem x) y (allB_mem y)
theorem bkD_shaped (x : Option Bk) : SeqAt.shaped (bkD x) = true := by
  have : ∀ x ∈ allB, SeqAt.shaped (bkD x) = true := by decide +kernel
  exact this x (allB_mem x)
/-- a tuple of breaks -/
def BksV (K : PySem.W.Frag) (H : Hp) (l : Addr) (os : List (Option Bk)) : Prop := ∃ vs : List V, SqT K H l vs ∧ vs.length = os.length ∧ ∀ (i : Nat) (o : Option Bk), os[i]? = some o → ∃ v, vs[i]? = some v ∧ BkV K H v o
theorem BksV.keep {K : PySem.W.Frag} {H H' : Hp} {l : Addr} {os : List (Option Bk)} (h : BksV K H l os) (s : Same H H') : BksV K H' l os := by
  obtain ⟨vs, h1, h2, h3⟩ := h
  refine ⟨vs, SqT.keep h1 s, h2, fun i o e => ?_⟩
  obtain ⟨v, e1, e2⟩ := h3 i o e
  exact ⟨v, e1, e2.keep s⟩
theorem BksV.dp {K : PySem.W.Frag} {H : Hp} {l : Addr} {os : List (Option Bk)} (h : BksV K H l os) : Dp K H (.ref l) (.tuple (os.map bkD)) := by
  obtain ⟨vs, h1, h2, h3⟩ := h
  refine .tup h1 ?_
  clear h1
  induction os generalizing vs with
  | nil =>
    obtain rfl : vs = [] := List.eq_nil_of_length_eq_zero h2
    exact .nil
  | cons o os ih =>
    cases vs with
    | nil => cases h2
    | cons v vs =>
      obtain ⟨v', e1, e2⟩ := h3 0 o rfl
      obtain rfl : v = v' := Option.some.inj e1
      exact .cons e2.dp (ih vs (by simpa using h2) fun i o' e => h3 (i + 1) o' e)
end Ev
namespace Ev
open PySem L2 PySem.Spec PyProof.Rows RZ
def spPart (K : PySem.W.Frag) : Sp := fun vs H Q _ => ∃ (r : Addr) (p q k y : Int), vs = [.ref r, .int y] ∧ RB K H r p q k ∧ Q (.int (partV p q k y)) H
def spGreatB (K : PySem.W.Frag) : Sp := fun vs H Q _ => ∃ (r : Addr) (p q k x : Int), vs = [.ref r, .int x] ∧ RB K H r p q k ∧ Q (.int (greatV p q k x)) H
def spGreatM (K : PySem.W.Frag) : Sp := fun vs H Q _ => ∃ (r : Addr) (p q k x : Int), vs = [.ref r, .int x] ∧ RB K H r p q k ∧ 1 ≤ x ∧ x ≤ 1000 ∧ Q (.int (greatV p q k x)) H
/-- two numbers in a tuple -/
def PrV (H : Hp) (v : V) (x y : Int) : Prop := ∃ t : Addr, v = .ref t ∧ H t = some (.tup [.int x, .int y])
theorem PrV.keep {H H' : Hp} {v : V} {x y : Int} (h : PrV H v x y) (s : Same H H') : PrV H' v x y := by
  obtain ⟨t, e, h⟩ := h
  exact ⟨t, e, s _ _ h⟩
def deedS (b : Bool) : Str := if b then "put" else "take"
def heavyHi (p q k a : Int) (put : Bool) : Int := if put then topV p q k a else greatV p q k (a + 1)
def spHeavy (K : PySem.W.Frag) : Sp := fun vs H Q _ => ∃ (r : Addr) (p q k a : Int) (put : Bool), vs = [.ref r, .str (deedS put), .int a] ∧ RB K H r p q k ∧ ∀ v H', Same H H' → PrV H' v (topV p q k a) (heavyHi p q k a put) → Q v H'
def mostV (t s r b : Int) : Int := (t * b + r).fdiv (t + s)
def spTurnE (K : PySem.W.Frag) (Cn : Addr) : Sp := fun vs H Q _ => ∃ (x : Addr) (p q k t s r b n k2 : Int) (dx aa bb : Addr), vs = [.ref x, .int b, .int n] ∧ RB K H x p q k ∧ H x = some (.ins Cn dx (turnF aa k2 bb r)) ∧ H bb = some (.tup [.int t, .int s]) ∧ (1 ≤ t ∧ t ≤ 8) ∧ (1 ≤ s ∧ s ≤ 8) ∧ (n = 1 ∨ n = 2) ∧
  ∀ v H', Same H H' → PrV H' v (if n = 1 then partV p q k b else if partV p q k b > mostV t s r b then partV p q k b else mostV t s r b + 1) (if n = 1 then if b - partV p q k b < mostV t s r b then b - partV p q k b else mostV t s r b else b - partV p q k b) → Q v H'
theorem RB.keep {K : PySem.W.Frag} {H H' : Hp} {r : Addr} {p q k : Int} (h : RB K H r p q k) (s : Same H H') : RB K H' r p q k := by
  obtain ⟨⟨C, dx, fs, a, h1, h2, h3, h4, h5, h6, h7⟩, b1, b2, b3, b4, b5⟩ := h
  exact ⟨⟨C, dx, fs, a, s _ _ h1, h2, h3, h4, h5, h6, s _ _ h7⟩, b1, b2, b3, b4, b5⟩
section
variable {P : Program} {w : World} {K : PySem.W.Frag} {mg : Str → Option Value} {base : Heap}
theorem scPart : FnScope ["rule", "weight", "over", "under"] ["rule", "weight"] (defScope sLeastPart) := ⟨rfl, rfl, rfl, by decide +kernel, rfl, by decide +kernel, by decide +kernel⟩
theorem ok_part {f : Addr} {fd : FuncData} (F : Fun K "least_part" "least_part" sLeastPart f fd) (T : Blt mg) : FnOk P w K mg base CX0 1 f fd ["rule", "weight"] (spPart K) := by
  refine F.ok scPart (fun vs H Q E h => ?_) (fun cdv A outer s H vs Q E hr h => ?_)
  · obtain ⟨r, p, q, k, x, rfl, _⟩ := h
    rfl
  · obtain ⟨r, p, q, k, x, rfl, ⟨⟨C, dx, fs, a, hr1, cl, n1, n2, l1, l2, ha⟩, b1, b2, b3, b4, b5⟩, kk⟩ := h
    refine ⟨_, (pss_cons (ps_asg (pe_fld (pv 0) rfl) (pg_tup (by rfl) (pgs_cons (pg_name (i := 2) scPart.nd rfl (.inl rfl)) (pgs_cons (pg_name (i := 3) scPart.nd rfl (.inl rfl)) pgs_nil))))
      (pss_one (ps_ret (pe_callB (call_max2 rfl) (by rfl) T.max (by decide +kernel) (pa_cons pe_int (pa_cons (pe_un un_neg (pe_op op_fdivN (pe_op op_sub (pe_fld (pv 0) rfl) (pe_op op_mul (pv 3) (pv 1))) (pe_op op_add (pv 2) (pv 3)))) pa_nil)))))), ?_⟩
    have q6 := m64 b1 (show q ≤ 8 by omega)
    refine ⟨_, rfl, r, C, dx, fs, _, rfl, hr1, cl, n1, l1, a, _, rfl, SqT.of ha, rfl, _, _, rfl, _, _, rfl, rfl, ?_⟩
    exact ⟨_, rfl, r, C, dx, fs, _, rfl, hr1, cl, n2, l2, _, rfl, _, rfl, _, _, rfl, rfl, .inl q6, _, _, rfl, rfl, _, rfl, _, rfl, _, _, rfl, rfl, _, _, rfl, rfl, ⟨by omega, by omega⟩, _, rfl, _, _, rfl, kk⟩
theorem scGreatB : FnScope ["rule", "x", "over", "under"] ["rule", "x"] (defScope sGreatestBeside) := ⟨rfl, rfl, rfl, by decide +kernel, rfl, by decide +kernel, by decide +kernel⟩
theorem ok_greatB {f : Addr} {fd : FuncData} (F : Fun K "greatest_beside" "greatest_beside" sGreatestBeside f fd) : FnOk P w K mg base CX0 1 f fd ["rule", "x"] (spGreatB K) := by
  refine F.ok scGreatB (fun vs H Q E h => ?_) (fun cdv A outer s H vs Q E hr h => ?_)
  · obtain ⟨r, p, q, k, x, rfl, _⟩ := h
    rfl
  · obtain ⟨r, p, q, k, x, rfl, ⟨⟨C, dx, fs, a, hr1, cl, n1, n2, l1, l2, ha⟩, b1, b2, b3, b4, b5⟩, kk⟩ := h
    refine ⟨_, (pss_cons (ps_asg (pe_fld (pv 0) rfl) (pg_tup (by rfl) (pgs_cons (pg_name (i := 2) scGreatB.nd rfl (.inl rfl)) (pgs_cons (pg_name (i := 3) scGreatB.nd rfl (.inl rfl)) pgs_nil))))
      (pss_one (ps_ret (pe_op op_fdivN (pe_op op_add (pe_op op_mul (pv 2) (pv 1)) (pe_fld (pv 0) rfl)) (pv 3))))), ?_⟩
    have p6 := m64 (show 1 ≤ p by omega) (show p ≤ 8 by omega)
    refine ⟨_, rfl, r, C, dx, fs, _, rfl, hr1, cl, n1, l1, a, _, rfl, SqT.of ha, rfl, _, _, rfl, _, _, rfl, rfl, ?_⟩
    exact ⟨_, rfl, _, rfl, _, _, rfl, rfl, .inl p6, _, rfl, r, C, dx, fs, _, rfl, hr1, cl, n2, l2, _, _, rfl, rfl, _, rfl, _, _, rfl, rfl, ⟨by omega, by omega⟩, kk⟩
theorem scGreatM : FnScope ["self", "x"] ["self", "x"] (defScope sWeightRule_greatest) := ⟨rfl, rfl, rfl, by decide +kernel, rfl, by decide +kernel, by decide +kernel⟩
theorem ok_greatM {f : Addr} {fd : FuncData} (F : Fun K "greatest" "WeightRule.greatest" sWeightRule_greatest f fd) (D1 : Df P w K mg base 3 "need_weight" ["value"] spNeedW) (D2 : Df P w K mg base 1 "greatest_beside" ["rule", "x"] (spGreatB K)) : FnOk P w K mg base CX0 4 f fd ["self", "x"] (spGreatM K) := by
  obtain ⟨f1, fd1, G1, g1, k1, bb1⟩ := D1.ex
  obtain ⟨f2, fd2, G2, g2, k2, bb2⟩ := D2.ex
  refine F.ok scGreatM (fun vs H Q E h => ?_) (fun cdv A outer s H vs Q E hr h => ?_)
  · obtain ⟨r, p, q, k, x, rfl, _⟩ := h
    rfl
  · obtain ⟨r, p, q, k, x, rfl, R, x1, x2, kk⟩ := h
    refine ⟨_, pss_cons (ps_expr (pe_call G1 hr (by rfl) g1 k1 bb1 .nil pass0 (pa_cons (pv 1) pa_nil))) (pss_one (ps_ret (pe_call G2 (hr.mono (by decide)) (by rfl) g2 k2 bb2 .nil pass0 (pa_cons (pv 0) (pa_cons (pv 1) pa_nil))))), ?_⟩
    exact ⟨_, rfl, x, rfl, x1, Int.le_trans x2 (by decide), _, rfl, _, rfl, r, p, q, k, x, rfl, R, kk⟩
theorem scHeavy : FnScope ["rule", "deed", "light", "least"] ["rule", "deed", "light"] (defScope sHeavyEnds) := ⟨rfl, rfl, rfl, by decide +kernel, rfl, by decide +kernel, by decide +kernel⟩
theorem ok_heavy {f : Addr} {fd : FuncData} (F : Fun K "heavy_ends" "heavy_ends" sHeavyEnds f fd) (D : Df P w K mg base 1 "greatest_beside" ["rule", "x"] (spGreatB K)) : FnOk P w K mg base CX0 2 f fd ["rule", "deed", "light"] (spHeavy K) := by
  obtain ⟨f1, fd1, G1, g1, k1, b1⟩ := D.ex
  refine F.ok scHeavy (fun vs H Q E h => ?_) (fun cdv A outer s H vs Q E hr h => ?_)
  · obtain ⟨r, p, q, k, a, put, rfl, _⟩ := h
    rfl
  · obtain ⟨r, p, q, k, a, put, rfl, R, kk⟩ := h
    refine ⟨_, (pss_cons (ps_set (i := 3) scHeavy.nd rfl (.inl rfl) (pe_op op_add (pe_call G1 hr (by rfl) g1 k1 b1 .nil pass0 (pa_cons (pv 0) (pa_cons (pv 2) pa_nil))) pe_int))
      (pss_one (ps_ret (pe_tup (pa_cons (pv 3) (pa_cons (pe_ifExp (pt_cmpR op_eq (pv 1) pe_str (nomark _)) (pv 3) (pe_call G1 hr (by rfl) g1 k1 b1 .nil pass0 (pa_cons (pv 0) (pa_cons (pe_op op_add (pv 2) pe_int) pa_nil)))) pa_nil)))))), ?_⟩
    refine ⟨_, rfl, _, rfl, r, p, q, k, a, rfl, R, _, _, rfl, rfl, ?_⟩
    refine ⟨_, rfl, _, rfl, rfl, _, rfl, ?_⟩
    cases put with
    | true =>
      rw [show decide (V.str (deedS true) = V.str "put") = true by decide +kernel]
      exact iteT ⟨_, rfl, (by show 2 ≤ sizeLine; decide), fun t ht => kk _ _ (same_new ht) ⟨t, rfl, upd_same⟩⟩
    | false =>
      rw [show decide (V.str (deedS false) = V.str "put") = false by decide +kernel]
      exact iteF ⟨_, rfl, _, rfl, _, _, rfl, rfl, r, p, q, k, a + 1, rfl, R, (by show 2 ≤ sizeLine; decide), fun t ht => kk _ _ (same_new ht) ⟨t, rfl, upd_same⟩⟩
theorem scTurnE : FnScope ["rule", "heavy", "turns", "low", "high", "over", "under", "most"] ["rule", "heavy", "turns"] (defScope sTurnEnds) := ⟨rfl, rfl, rfl, by decide +kernel, rfl, by decide +kernel, by decide +kernel⟩
theorem ok_turnE {f Cn : Addr} {fd : FuncData} (F : Fun K "turn_ends" "turn_ends" sTurnEnds f fd) (TN : RCls K Cn) (D : Df P w K mg base 1 "least_part" ["rule", "weight"] (spPart K)) : FnOk P w K mg base CX0 2 f fd ["rule", "heavy", "turns"] (spTurnE K Cn) := by
  obtain ⟨f1, fd1, G1, g1, k1, b1⟩ := D.ex
  refine F.ok scTurnE (fun vs H Q E h => ?_) (fun cdv A outer s H vs Q E hr h => ?_)
  · obtain ⟨x, p, q, k, t, s', r, b, n, k2, dx, aa, bb, rfl, _⟩ := h
    rfl
  · obtain ⟨x, p, q, k, t, s', r, b, n, k2, dx, aa, bb, rfl, R, hx, hb, ht, hs, hn, kk⟩ := h
    refine ⟨_, (pss_cons (ps_set (i := 3) scTurnE.nd rfl (.inl rfl) (pe_call G1 hr (by rfl) g1 k1 b1 .nil pass0 (pa_cons (pv 0) (pa_cons (pv 1) pa_nil))))
    (pss_cons (ps_set (i := 4) scTurnE.nd rfl (.inl rfl) (pe_op op_sub (pv 1) (pv 3)))
    (pss_cons (ps_asg (pe_fld (pv 0) rfl) (pg_tup (by rfl) (pgs_cons (pg_name (i := 5) scTurnE.nd rfl (.inl rfl)) (pgs_cons (pg_name (i := 6) scTurnE.nd rfl (.inl rfl)) pgs_nil))))
    (pss_cons (ps_set (i := 7) scTurnE.nd rfl (.inl rfl) (pe_op op_fdivN (pe_op op_add (pe_op op_mul (pv 5) (pv 1)) (pe_fld (pv 0) rfl)) (pe_op op_add (pv 5) (pv 6))))
    (pss_cons (ps_if (pt_cmpR op_eq (pv 2) pe_int (nomark _))
      (pss_one (ps_ret (pe_tup (pa_cons (pv 3) (pa_cons (pe_ifExp (pt_cmpR op_lt (pv 4) (pv 7) (nomark _)) (pv 4) (pv 7)) pa_nil))))) pss_nil)
    (pss_one (ps_ret (pe_tup (pa_cons (pe_ifExp (pt_cmpR op_gt (pv 3) (pv 7) (nomark _)) (pv 3) (pe_op op_add (pv 7) pe_int)) (pa_cons (pv 4) pa_nil)))))))))), ?_⟩
    refine ⟨_, rfl, _, rfl, x, p, q, k, b, rfl, R, ?_⟩
    refine ⟨_, rfl, _, rfl, _, _, rfl, rfl, ?_⟩
    refine ⟨_, rfl, x, Cn, dx, _, _, rfl, hx, TN.cl, TN.n3, turn_turn aa k2 bb r, bb, _, rfl, SqT.of hb, rfl, _, _, rfl, _, _, rfl, rfl, ?_⟩
    refine ⟨_, rfl, _, rfl, _, _, rfl, rfl, .inl (m64 ht.1 ht.2), _, rfl, x, Cn, dx, _, _, rfl, hx, TN.cl, TN.n4, turn_tp aa k2 bb r, _, _, rfl, rfl, _, rfl, _, rfl, _, _, rfl, rfl, _, _, rfl, rfl, ⟨by omega, by omega⟩, ?_⟩
    refine ⟨_, rfl, rfl, _, rfl, ?_⟩
    rcases hn with rfl | rfl
    · refine iteT ⟨_, rfl, _, rfl, _, rfl, _, _, rfl, rfl, _, rfl, ?_⟩
      show (if decide (b - partV p q k b < mostV t s' r b) = true then _ else _)
      by_cases z : b - partV p q k b < mostV t s' r b
      · rw [if_pos (decide_eq_true z)]
        refine ⟨_, rfl, (by show 2 ≤ sizeLine; decide), fun u hu => kk _ _ (same_new hu) ⟨u, rfl, ?_⟩⟩
        rw [if_pos rfl, if_pos rfl, if_pos z]
        exact upd_same
      · rw [if_neg (fun y => z (of_decide_eq_true y))]
        refine ⟨_, rfl, (by show 2 ≤ sizeLine; decide), fun u hu => kk _ _ (same_new hu) ⟨u, rfl, ?_⟩⟩
        rw [if_pos rfl, if_pos rfl, if_neg z]
        exact upd_same
    · refine iteF ⟨_, rfl, _, rfl, _, _, rfl, rfl, _, rfl, ?_⟩
      show (if decide (partV p q k b > mostV t s' r b) = true then _ else _)
      by_cases z : partV p q k b > mostV t s' r b
      · rw [if_pos (decide_eq_true z)]
        refine ⟨_, rfl, _, rfl, (by show 2 ≤ sizeLine; decide), fun u hu => kk _ _ (same_new hu) ⟨u, rfl, ?_⟩⟩
        rw [if_neg (show ¬ ((2 : Int) = 1) by decide), if_neg (show ¬ ((2 : Int) = 1) by decide), if_pos z]
        exact upd_same
      · rw [if_neg (fun y => z (of_decide_eq_true y))]
        refine ⟨_, rfl, _, _, rfl, rfl, _, rfl, (by show 2 ≤ sizeLine; decide), fun u hu => kk _ _ (same_new hu) ⟨u, rfl, ?_⟩⟩
        rw [if_neg (show ¬ ((2 : Int) = 1) by decide), if_neg (show ¬ ((2 : Int) = 1) by decide), if_neg z]
        exact upd_same
end
end Ev
namespace Ev
open PySem L2 PySem.Spec PyProof.Rows RZ
/-! The class Grip. -/
structure GC (K : PySem.W.Frag) (C : Addr) : Prop where
  cl : Cls K C
  n1 : NoAttr K C "own_rule"
  n2 : NoAttr K C "light"
  n3 : NoAttr K C "heavy"
  n4 : NoAttr K C "least_light"
  n5 : NoAttr K C "too_heavy"
  n6 : NoAttr K C "too_much"
def gripF (r : Addr) (g : Gp) : List (Str × V) := [("own_rule", .ref r), ("light", .int g.a), ("heavy", .int g.b), ("least_light", .int g.L), ("too_heavy", .int g.T), ("too_much", .int g.M)]
section
variable (r : Addr) (g : Gp)
theorem gl1 : (gripF r g).lookup ("own_rule" : Str) = some (.ref r) := lk_hit
theorem gl2 : (gripF r g).lookup ("light" : Str) = some (.int g.a) := (lk_miss (by decide +kernel)).trans lk_hit
theorem gl3 : (gripF r g).lookup ("heavy" : Str) = some (.int g.b) := (lk_miss (by decide +kernel)).trans ((lk_miss (by decide +kernel)).trans lk_hit)
theorem gl4 : (gripF r g).lookup ("least_light" : Str) = some (.int g.L) := (lk_miss (by decide +kernel)).trans ((lk_miss (by decide +kernel)).trans ((lk_miss (by decide +kernel)).trans lk_hit))
theorem gl5 : (gripF r g).lookup ("too_heavy" : Str) = some (.int g.T) := (lk_miss (by decide +kernel)).trans ((lk_miss (by decide +kernel)).trans ((lk_miss (by decide +kernel)).trans ((lk_miss (by decide +kernel)).trans lk_hit)))
theorem gl6 : (gripF r g).lookup ("too_much" : Str) = some (.int g.M) := (lk_miss (by decide +kernel)).trans ((lk_miss (by decide +kernel)).trans ((lk_miss (by decide +kernel)).trans ((lk_miss (by decide +kernel)).trans ((lk_miss (by decide +kernel)).trans lk_hit))))
theorem gl0 {m : Str} (h : ¬ m = "own_rule" ∧ ¬ m = "light" ∧ ¬ m = "heavy" ∧ ¬ m = "least_light" ∧ ¬ m = "too_heavy" ∧ ¬ m = "too_much") : (gripF r g).lookup m = none :=
  (lk_miss h.1).trans ((lk_miss h.2.1).trans ((lk_miss h.2.2.1).trans ((lk_miss h.2.2.2.1).trans ((lk_miss h.2.2.2.2.1).trans ((lk_miss h.2.2.2.2.2).trans rfl)))))
end
theorem put_new {k : Str} {v : V} : ∀ {l : List (Str × V)}, (∀ e ∈ l, ¬ e.1 = k) → putF k v l = l ++ [(k, v)]
  | [], _ => rfl
  | (k', v') :: l, h => by
    show (if k' = k then _ else _) = _
    rw [if_neg (h _ List.mem_cons_self)]
    show (k', v') :: putF k v l = _
    rw [put_new (fun e he => h e (List.mem_cons_of_mem _ he))]
    rfl
theorem gp1 {a : V} : putF "own_rule" a [] = ([("own_rule", a)] : List (Str × V)) := rfl
theorem gp2 {a b : V} : putF "light" b [("own_rule", a)] = ([("own_rule", a), ("light", b)] : List (Str × V)) := put_new (by intro e0 he; simp only [List.mem_cons, List.not_mem_nil, or_false] at he; subst he; dsimp only; decide +kernel)
theorem gp3 {a b c : V} : putF "heavy" c [("own_rule", a), ("light", b)] = ([("own_rule", a), ("light", b), ("heavy", c)] : List (Str × V)) := put_new (by intro e0 he; simp only [List.mem_cons, List.not_mem_nil, or_false] at he; rcases he with he | he <;> subst he <;> dsimp only <;> decide +kernel)
theorem gp4 {a b c d : V} : putF "least_light" d [("own_rule", a), ("light", b), ("heavy", c)] = ([("own_rule", a), ("light", b), ("heavy", c), ("least_light", d)] : List (Str × V)) := put_new (by intro e0 he; simp only [List.mem_cons, List.not_mem_nil, or_false] at he; rcases he with he | he | he <;> subst he <;> dsimp only <;> decide +kernel)
theorem gp5 {a b c d e : V} : putF "too_heavy" e [("own_rule", a), ("light", b), ("heavy", c), ("least_light", d)] = ([("own_rule", a), ("light", b), ("heavy", c), ("least_light", d), ("too_heavy", e)] : List (Str × V)) := put_new (by intro e0 he; simp only [List.mem_cons, List.not_mem_nil, or_false] at he; rcases he with he | he | he | he <;> subst he <;> dsimp only <;> decide +kernel)
theorem gp6 {a b c d e f : V} : putF "too_much" f [("own_rule", a), ("light", b), ("heavy", c), ("least_light", d), ("too_heavy", e)] = ([("own_rule", a), ("light", b), ("heavy", c), ("least_light", d), ("too_heavy", e), ("too_much", f)] : List (Str × V)) := put_new (by intro e0 he; simp only [List.mem_cons, List.not_mem_nil, or_false] at he; rcases he with he | he | he | he | he <;> subst he <;> dsimp only <;> decide +kernel)
def GAt (K : PySem.W.Frag) (C Ct Cn : Addr) (H : Hp) (x r : Addr) (row : Row) (g : Gp) : Prop := (∃ dx, H x = some (.ins C dx (gripF r g))) ∧ ObjAt Ct Cn H r row ∧ RB K H r g.p g.q g.k
theorem GAt.keep {K : PySem.W.Frag} {C Ct Cn x r : Addr} {H H' : Hp} {row : Row} {g : Gp} (h : GAt K C Ct Cn H x r row g) (s : Same H H') : GAt K C Ct Cn H' x r row g := by
  obtain ⟨⟨dx, h1⟩, h2, h3⟩ := h
  exact ⟨⟨dx, s _ _ h1⟩, h2.keep s, h3.keep s⟩
def spGripI (K : PySem.W.Frag) (C Ct Cn : Addr) : Sp := fun vs H Q _ => ∃ (x dx r : Addr) (row : Row) (g : Gp), vs = [.ref x, .ref r, .int g.a, .int g.b] ∧ H x = some (.ins C dx []) ∧ x ≠ r ∧ ObjAt Ct Cn H r row ∧ RB K H r g.p g.q g.k ∧
  ∀ H', But x H H' → (∃ dx', H' x = some (.ins C dx' (gripF r g))) → Q .non H'
def Mt (P : Program) (w : World) (K : PySem.W.Frag) (mg : Str → Option Value) (base : Heap) (C : Addr) (m : Str) (k : Nat) (ps : List Str) (sp : Sp) : Prop := ∃ (f : Addr) (fd : FuncData), Meth K C m f ∧ FnOk P w K mg base CX0 k f fd ps sp ∧ Binds K fd ps []
/-- an answer of two numbers, or none -/
def OpV (H : Hp) (v : V) : Option (Int × Int) → Prop
  | none => v = .non
  | some (x, y) => PrV H v x y
def NsV (H : Hp) (v : V) : Option (List Int) → Prop
  | none => v = .non
  | some ns => ∃ t : Addr, v = .ref t ∧ H t = some (.tup (ns.map V.int))
theorem NsV.keep {H H' : Hp} {v : V} {o : Option (List Int)} (h : NsV H v o) (s : Same H H') : NsV H' v o := by
  cases o with
  | none => exact h
  | some ns =>
    obtain ⟨t, e, h⟩ := h
    exact ⟨t, e, s _ _ h⟩
def spWithN (K : PySem.W.Frag) (C Ct Cn : Addr) : Sp := fun vs H Q _ => ∃ (x r : Addr) (row : Row) (g : Gp) (m i : Int), vs = [.ref x, .int m, .int i] ∧ GAt K C Ct Cn H x r row g ∧ ∀ v H', Same H H' → PrV H' v (g.with m i).1 (g.with m i).2 → Q v H'
def spNearE (K : PySem.W.Frag) (C Ct Cn : Addr) : Sp := fun vs H Q _ => ∃ (x r : Addr) (row : Row) (g : Gp) (v : V) (t : Bk) (i : Int), vs = [.ref x, v, .int i] ∧ GAt K C Ct Cn H x r row g ∧ BkV K H v (some t) ∧ ∀ v' H', Same H H' → OpV H' v' (g.near t i) → Q v' H'
def spNumsO (K : PySem.W.Frag) (C Ct Cn : Addr) : Sp := fun vs H Q _ => ∃ (x r : Addr) (row : Row) (g : Gp) (v : V) (t : Option Bk) (l h : Int), vs = [.ref x, v, .int l, .int h] ∧ GAt K C Ct Cn H x r row g ∧ BkV K H v t ∧ ∀ v' H', Same H H' → NsV H' v' (g.nums t l h) → Q v' H'
def spOnceE (K : PySem.W.Frag) (C Ct Cn : Addr) : Sp := fun vs H Q _ => ∃ (x r : Addr) (row : Row) (g : Gp) (v u : V) (o : Option Bk) (l h : Int), vs = [.ref x, v, u] ∧ GAt K C Ct Cn H x r row g ∧ BkV K H v o ∧ PrV H u l h ∧ ∀ v' H', Same H H' → PrV H' v' (g.ends o l h).1 (g.ends o l h).2 → Q v' H'
/-- what is found -/
def FoV (K : PySem.W.Frag) (H : Hp) (v : V) : Option (Option Bk × Option Bk × List Int) → Prop
  | none => v = .non
  | some (o, t, ns) => ∃ (a b : Addr) (v1 v2 : V), v = .ref a ∧ H a = some (.tup [v1, v2, .ref b]) ∧ BkV K H v1 o ∧ BkV K H v2 t ∧ H b = some (.tup (ns.map V.int))
theorem FoV.keep {K : PySem.W.Frag} {H H' : Hp} {v : V} {o : Option (Option Bk × Option Bk × List Int)} (h : FoV K H v o) (s : Same H H') : FoV K H' v o := by
  cases o with
  | none => exact h
  | some o =>
    obtain ⟨o, t, ns⟩ := o
    obtain ⟨a, b, v1, v2, e, h1, h2, h3, h4⟩ := h
    exact ⟨a, b, v1, v2, e, s _ _ h1, h2.keep s, h3.keep s, s _ _ h4⟩
def spFirstOf (K : PySem.W.Frag) (C Ct Cn : Addr) : Sp := fun vs H Q _ => ∃ (x r : Addr) (row : Row) (g : Gp) (a b : Addr) (u : V) (os ts : List (Option Bk)) (l h : Int), vs = [.ref x, .ref a, .ref b, u] ∧ GAt K C Ct Cn H x r row g ∧ BksV K H a os ∧ BksV K H b ts ∧ PrV H u l h ∧
  ∀ v' H', Same H H' → FoV K H' v' (g.first ts l h os) → Q v' H'
def Row.brk (g : Gp) : Row → Option (Option Bk × Option Bk × List Int)
  | .tr _ _ _ => g.tryB
  | .tn _ _ _ t s r => g.turnB t s r
def spFirstB (K : PySem.W.Frag) (C Ct Cn : Addr) : Sp := fun vs H Q _ => ∃ (x r : Addr) (row : Row) (g : Gp), vs = [.ref x] ∧ GAt K C Ct Cn H x r row g ∧ row.ok ∧ ∀ v' H', Same H H' → FoV K H' v' (row.brk g) → Q v' H'
section
variable {P : Program} {w : World} {K : PySem.W.Frag} {mg : Str → Option Value} {base : Heap}
theorem scGripI : FnScope ["self", "rule", "light", "heavy", "over", "under"] ["self", "rule", "light", "heavy"] (defScope sGrip_init) := ⟨rfl, rfl, rfl, by decide +kernel, rfl, by decide +kernel, by decide +kernel⟩
theorem RB.but {H H' : Hp} {r x C dx : Addr} {fs : List (Str × V)} {p q k : Int} (h : RB K H r p q k) (n : x ≠ r) (hx : H x = some (.ins C dx fs)) (s : But x H H') : RB K H' r p q k := by
  obtain ⟨⟨C, dx, fs, a, h1, h2, h3, h4, h5, h6, h7⟩, b1, b2, b3, b4, b5⟩ := h
  exact ⟨⟨C, dx, fs, a, s _ _ n.symm h1, h2, h3, h4, h5, h6, s _ _ (ne_of h7 hx (by intro z; cases z)) h7⟩, b1, b2, b3, b4, b5⟩
theorem ok_gripI {f C Ct Cn : Addr} {fd : FuncData} (F : Fun K "__init__" "Grip.__init__" sGrip_init f fd) (T : GC K C) (D1 : Df P w K mg base 1 "least_beside" ["rule", "y"] (spLeastB K)) (D2 : Df P w K mg base 1 "greatest_beside" ["rule", "x"] (spGreatB K)) : FnOk P w K mg base CX0 2 f fd ["self", "rule", "light", "heavy"] (spGripI K C Ct Cn) := by
  obtain ⟨f1, fd1, G1, g1, k1, bb1⟩ := D1.ex
  obtain ⟨f2, fd2, G2, g2, k2, bb2⟩ := D2.ex
  refine F.ok scGripI (fun vs H Q E h => ?_) (fun cdv A outer s H vs Q E hr h => ?_)
  · obtain ⟨x, dx, r, row, g, rfl, _⟩ := h
    rfl
  · obtain ⟨x, dx, r, row, g, rfl, hx, xr, ob, R, kk⟩ := h
    refine ⟨_, (pss_cons (ps_fld (pv 0) (pv 1) rfl)
    (pss_cons (ps_fld (pv 0) (pv 2) rfl)
    (pss_cons (ps_fld (pv 0) (pv 3) rfl)
    (pss_cons (ps_fld (pv 0) (pe_call G1 hr (by rfl) g1 k1 bb1 .nil pass0 (pa_cons (pv 1) (pa_cons (pv 2) pa_nil))) rfl)
    (pss_cons (ps_fld (pv 0) (pe_op op_add (pe_call G2 hr (by rfl) g2 k2 bb2 .nil pass0 (pa_cons (pv 1) (pa_cons (pv 2) pa_nil))) pe_int) rfl)
    (pss_cons (ps_asg (pe_fld (pv 1) rfl) (pg_tup (by rfl) (pgs_cons (pg_name (i := 4) scGripI.nd rfl (.inl rfl)) (pgs_cons (pg_name (i := 5) scGripI.nd rfl (.inl rfl)) pgs_nil))))
    (pss_one (ps_fld (pv 0) (pe_un un_neg (pe_op op_fdivN (pe_op op_sub (pe_op op_sub (pe_op op_sub (pe_op op_mul (pv 5) (pv 2)) (pe_op op_mul (pv 4) (pv 3))) (pe_fld (pv 1) rfl)) pe_int) (pe_op op_add (pv 4) (pv 5)))) rfl)))))))), ?_⟩
    refine ⟨_, rfl, _, rfl, x, C, dx, _, rfl, hx, T.cl, T.n1, (by show 0 < 1000; decide), ?_⟩
    rw [gp1]
    have x1 : upd H x (.ins C dx [("own_rule", .ref r)]) x = some (.ins C dx [("own_rule", .ref r)]) := upd_same
    have t1 : But x H (upd H x (.ins C dx [("own_rule", .ref r)])) := But.upd_at
    generalize upd H x (.ins C dx [("own_rule", .ref r)]) = H1 at x1 t1 ⊢
    refine ⟨_, rfl, _, rfl, x, C, dx, _, rfl, x1, T.cl, T.n2, (by show 1 < 1000; decide), ?_⟩
    rw [gp2]
    have x2 : upd H1 x (.ins C dx [("own_rule", .ref r), ("light", .int g.a)]) x = some (.ins C dx [("own_rule", .ref r), ("light", .int g.a)]) := upd_same
    have t2 : But x H (upd H1 x (.ins C dx [("own_rule", .ref r), ("light", .int g.a)])) := t1.trans But.upd_at
    generalize upd H1 x (.ins C dx [("own_rule", .ref r), ("light", .int g.a)]) = H2 at x2 t2 ⊢
    refine ⟨_, rfl, _, rfl, x, C, dx, _, rfl, x2, T.cl, T.n3, (by show 2 < 1000; decide), ?_⟩
    rw [gp3]
    have x3 : upd H2 x (.ins C dx [("own_rule", .ref r), ("light", .int g.a), ("heavy", .int g.b)]) x = some (.ins C dx [("own_rule", .ref r), ("light", .int g.a), ("heavy", .int g.b)]) := upd_same
    have t3 : But x H (upd H2 x (.ins C dx [("own_rule", .ref r), ("light", .int g.a), ("heavy", .int g.b)])) := t2.trans But.upd_at
    generalize upd H2 x (.ins C dx [("own_rule", .ref r), ("light", .int g.a), ("heavy", .int g.b)]) = H3 at x3 t3 ⊢
    refine ⟨_, rfl, _, rfl, r, g.p, g.q, g.k, g.a, rfl, R.but xr hx t3, _, rfl, x, C, dx, _, rfl, x3, T.cl, T.n4, (by show 3 < 1000; decide), ?_⟩
    rw [gp4]
    have x4 : upd H3 x (.ins C dx [("own_rule", .ref r), ("light", .int g.a), ("heavy", .int g.b), ("least_light", .int g.L)]) x = some (.ins C dx [("own_rule", .ref r), ("light", .int g.a), ("heavy", .int g.b), ("least_light", .int g.L)]) := upd_same
    have t4 : But x H (upd H3 x (.ins C dx [("own_rule", .ref r), ("light", .int g.a), ("heavy", .int g.b), ("least_light", .int g.L)])) := t3.trans But.upd_at
    have e4 : upd H3 x (.ins C dx [("own_rule", .ref r), ("light", .int g.a), ("heavy", .int g.b), ("least_light", .int (leastV g.p g.q g.k g.a))]) = upd H3 x (.ins C dx [("own_rule", .ref r), ("light", .int g.a), ("heavy", .int g.b), ("least_light", .int g.L)]) := rfl
    rw [e4]
    generalize upd H3 x (.ins C dx [("own_rule", .ref r), ("light", .int g.a), ("heavy", .int g.b), ("least_light", .int g.L)]) = H4 at x4 t4 ⊢
    refine ⟨_, rfl, _, rfl, r, g.p, g.q, g.k, g.a, rfl, R.but xr hx t4, _, _, rfl, rfl, _, rfl, x, C, dx, _, rfl, x4, T.cl, T.n5, (by show 4 < 1000; decide), ?_⟩
    rw [gp5]
    have x5 : upd H4 x (.ins C dx [("own_rule", .ref r), ("light", .int g.a), ("heavy", .int g.b), ("least_light", .int g.L), ("too_heavy", .int (greatV g.p g.q g.k g.a + 1))]) x = some (.ins C dx [("own_rule", .ref r), ("light", .int g.a), ("heavy", .int g.b), ("least_light", .int g.L), ("too_heavy", .int (greatV g.p g.q g.k g.a + 1))]) := upd_same
    have t5 : But x H (upd H4 x (.ins C dx [("own_rule", .ref r), ("light", .int g.a), ("heavy", .int g.b), ("least_light", .int g.L), ("too_heavy", .int (greatV g.p g.q g.k g.a + 1))])) := t4.trans But.upd_at
    generalize upd H4 x (.ins C dx [("own_rule", .ref r), ("light", .int g.a), ("heavy", .int g.b), ("least_light", .int g.L), ("too_heavy", .int (greatV g.p g.q g.k g.a + 1))]) = H5 at x5 t5 ⊢
    obtain ⟨⟨C', dx', fs, a, hr1, cl, n1, n2, l1, l2, ha⟩, b1, b2, b3, b4, b5⟩ := R.but xr hx t5
    have q6 := m64 b1 (show g.q ≤ 8 by omega)
    have p6 := m64 (show 1 ≤ g.p by omega) (show g.p ≤ 8 by omega)
    refine ⟨_, rfl, r, C', dx', fs, _, rfl, hr1, cl, n1, l1, a, _, rfl, SqT.of ha, rfl, _, _, rfl, _, _, rfl, rfl, ?_⟩
    refine ⟨_, rfl, _, rfl, _, _, rfl, rfl, .inl q6, _, rfl, _, rfl, _, _, rfl, rfl, .inl p6, _, _, rfl, rfl, _, rfl, r, C', dx', fs, _, rfl, hr1, cl, n2, l2, _, _, rfl, rfl, _, _, rfl, rfl, _, rfl, _, rfl, _, _, rfl, rfl, _, _, rfl, rfl, ⟨by omega, by omega⟩, _, rfl, _, rfl, x, C, dx, _, rfl, x5, T.cl, T.n6, (by show 5 < 1000; decide), ?_⟩
    rw [gp6]
    exact kk _ (t5.trans But.upd_at) ⟨dx, upd_same⟩
end
end Ev
namespace Ev
open PySem L2 PySem.Spec PyProof.Rows RZ
/-! The methods of a grip. -/
section
variable {P : Program} {w : World} {K : PySem.W.Frag} {mg : Str → Option Value} {base : Heap}
/-- a break beside a written one -/
theorem lit_bk {K : PySem.W.Frag} {H : Hp} {t : Addr} (b : Bk) : BkV K (upd H t (.tup [.str b.n, .str b.s])) (.ref t) (some b) := ⟨t, rfl, SqT.of upd_same⟩
theorem scWithN : FnScope ["self", "least", "inner", "lowest", "near"] ["self", "least", "inner"] (defScope sGrip_with_near) := ⟨rfl, rfl, rfl, by decide +kernel, rfl, by decide +kernel, by decide +kernel⟩
theorem ok_withN {f C Ct Cn : Addr} {fd : FuncData} (F : Fun K "with_near" "Grip.with_near" sGrip_with_near f fd) (T : GC K C) (D1 : Df P w K mg base 1 "least_beside" ["rule", "y"] (spLeastB K)) (D2 : Df P w K mg base 1 "least_part" ["rule", "weight"] (spPart K)) : FnOk P w K mg base CX0 2 f fd ["self", "least", "inner"] (spWithN K C Ct Cn) := by
  obtain ⟨f1, fd1, G1, g1, k1, b1⟩ := D1.ex
  obtain ⟨f2, fd2, G2, g2, k2, b2⟩ := D2.ex
  refine F.ok scWithN (fun vs H Q E h => ?_) (fun cdv A outer s H vs Q E hr h => ?_)
  · obtain ⟨x, r, row, g, m, i, rfl, _⟩ := h
    rfl
  · obtain ⟨x, r, row, g, m, i, rfl, ⟨⟨dx, hx⟩, ob, R⟩, kk⟩ := h
    refine ⟨_, (pss_cons (ps_set (i := 3) scWithN.nd rfl (.inl rfl) (pe_op op_add (pv 1) (pe_call G1 hr (by rfl) g1 k1 b1 .nil pass0 (pa_cons (pe_fld (pv 0) rfl) (pa_cons (pv 1) pa_nil)))))
    (pss_cons (ps_set (i := 2) scWithN.nd rfl (.inl rfl) (pe_ifExp (pt_cmpR op_gt (pv 2) (pv 3) (nomark _)) (pv 2) (pv 3)))
    (pss_cons (ps_set (i := 4) scWithN.nd rfl (.inl rfl) (pe_call G2 hr (by rfl) g2 k2 b2 .nil pass0 (pa_cons (pe_fld (pv 0) rfl) (pa_cons (pv 2) pa_nil))))
    (pss_one (ps_ret (pe_tup (pa_cons (pv 2) (pa_cons (pe_ifExp (pt_cmpR op_gt (pv 4) (pv 1) (nomark _)) (pv 4) (pv 1)) pa_nil)))))))), ?_⟩
    have fin : ∀ (c : Int) (u : Addr), (g.with m i).1 = c → H u = none → ∀ e : Int, (g.with m i).2 = e → Q (.ref u) (upd H u (.tup [.int c, .int e])) := fun c u e1 hu e e2 => kk _ _ (same_new hu) ⟨u, rfl, by rw [e1, e2]; exact upd_same⟩
    have tail : ∀ c : Int, (g.with m i).1 = c → ∀ u : Addr, H u = none → Q (.ref u) (upd H u (.tup [.int c, .int (if g.part c > m then g.part c else m)])) := fun c e u hu => fin c u e hu _ (by
      show (if g.part (g.with m i).1 > m then g.part (g.with m i).1 else m) = _
      rw [e])
    refine ⟨_, rfl, _, rfl, x, C, dx, _, _, rfl, hx, T.cl, T.n1, gl1 r g, _, rfl, r, g.p, g.q, g.k, m, rfl, R, _, _, rfl, rfl, ?_⟩
    refine ⟨_, rfl, _, rfl, _, _, rfl, rfl, _, rfl, ?_⟩
    show (if decide (i > m + g.least m) = true then _ else _)
    have rest : ∀ c : Int, (g.with m i).1 = c → ∀ u : Addr, H u = none → Q (.ref u) (upd H u (.tup [.int c, .int (if g.part c > m then g.part c else m)])) := tail
    by_cases z : i > m + g.least m
    · rw [if_pos (decide_eq_true z)]
      have hc : (g.with m i).1 = i := if_pos z
      refine ⟨_, rfl, ?_⟩
      refine ⟨_, rfl, x, C, dx, _, _, rfl, hx, T.cl, T.n1, gl1 r g, _, rfl, r, g.p, g.q, g.k, i, rfl, R, ?_⟩
      refine ⟨_, rfl, _, rfl, _, rfl, _, _, rfl, rfl, _, rfl, ?_⟩
      show (if decide (g.part i > m) = true then _ else _)
      by_cases y : g.part i > m
      · rw [if_pos (decide_eq_true y)]
        exact ⟨_, rfl, (by show 2 ≤ sizeLine; decide), fun u hu => by have := tail i hc u hu; rw [if_pos y] at this; exact this⟩
      · rw [if_neg (fun x => y (of_decide_eq_true x))]
        exact ⟨_, rfl, (by show 2 ≤ sizeLine; decide), fun u hu => by have := tail i hc u hu; rw [if_neg y] at this; exact this⟩
    · rw [if_neg (fun x => z (of_decide_eq_true x))]
      have hc : (g.with m i).1 = m + g.least m := if_neg z
      refine ⟨_, rfl, ?_⟩
      refine ⟨_, rfl, x, C, dx, _, _, rfl, hx, T.cl, T.n1, gl1 r g, _, rfl, r, g.p, g.q, g.k, m + g.least m, rfl, R, ?_⟩
      refine ⟨_, rfl, _, rfl, _, rfl, _, _, rfl, rfl, _, rfl, ?_⟩
      show (if decide (g.part (m + g.least m) > m) = true then _ else _)
      by_cases y : g.part (m + g.least m) > m
      · rw [if_pos (decide_eq_true y)]
        exact ⟨_, rfl, (by show 2 ≤ sizeLine; decide), fun u hu => by have := tail _ hc u hu; rw [if_pos y] at this; exact this⟩
      · rw [if_neg (fun x => y (of_decide_eq_true x))]
        exact ⟨_, rfl, (by show 2 ≤ sizeLine; decide), fun u hu => by have := tail _ hc u hu; rw [if_neg y] at this; exact this⟩
theorem scNearE : FnScope ["self", "twice", "inner", "near", "far"] ["self", "twice", "inner"] (defScope sGrip_near_ends) := ⟨rfl, rfl, rfl, by decide +kernel, rfl, by decide +kernel, by decide +kernel⟩
/-- a break is compared with a written one -/
theorem cmp_bk {K : PySem.W.Frag} {H : Hp} {v : V} {t : Option Bk} (hv : BkV K H v t) (b : Bk) {Q : VK} (hQ : ∀ u : Addr, H u = none → Q (.bl (decide (t = some b))) (upd H u (.tup [.str b.n, .str b.s]))) : ∀ u : Addr, H u = none → rEqD K v (.ref u) (upd H u (.tup [.str b.n, .str b.s])) Q := fun u hu => by
  have h1 := (hv.keep (same_new (o := .tup [.str b.n, .str b.s]) hu)).dp
  have h2 := (lit_bk (K := K) (H := H) (t := u) b).dp
  refine ⟨_, _, h1, h2, bkD_shaped _, bkD_shaped _, ?_⟩
  rw [bkD_eqv]
  exact hQ u hu
theorem ok_nearE {f C Ct Cn : Addr} {fd : FuncData} (F : Fun K "near_ends" "Grip.near_ends" sGrip_near_ends f fd) (T : GC K C) (M : Mt P w K mg base C "with_near" 2 ["self", "least", "inner"] (spWithN K C Ct Cn)) (D1 : Df P w K mg base 1 "least_beside" ["rule", "y"] (spLeastB K)) (D2 : Df P w K mg base 1 "least_part" ["rule", "weight"] (spPart K)) : FnOk P w K mg base CX0 3 f fd ["self", "twice", "inner"] (spNearE K C Ct Cn) := by
  obtain ⟨f1, fd1, G1, g1, k1, b1⟩ := D1.ex
  obtain ⟨f2, fd2, G2, g2, k2, b2⟩ := D2.ex
  obtain ⟨fm, fdm, mm, Gm, bm⟩ := M
  refine F.ok scNearE (fun vs H Q E h => ?_) (fun cdv A outer s H vs Q E hr h => ?_)
  · obtain ⟨x, r, row, g, v, t, i, rfl, _⟩ := h
    rfl
  · obtain ⟨x, r, row, g, v, t, i, rfl, ga, hv, kk⟩ := h
    refine ⟨_, (pss_cons (ps_if (pt_cmpR (op_eqD hr.units) (pv 1) (pe_tup (pa_cons pe_str (pa_cons pe_str pa_nil))) (nomark _))
      (pss_one (ps_ret (pe_meth (pv 0) T.cl mm Gm hr bm .nil pass0 (pa_cons (pe_fld (pv 0) rfl) (pa_cons (pv 2) pa_nil))))) pss_nil)
    (pss_cons (ps_if (pt_cmpR (op_eqD hr.units) (pv 1) (pe_tup (pa_cons pe_str (pa_cons pe_str pa_nil))) (nomark _))
      (pss_one (ps_ret (pe_meth (pv 0) T.cl mm Gm hr bm .nil pass0 (pa_cons (pe_fld (pv 0) rfl) (pa_cons (pv 2) pa_nil))))) pss_nil)
    (pss_cons (ps_set (i := 3) scNearE.nd rfl (.inl rfl) (pe_call G2 (hr.mono (by decide)) (by rfl) g2 k2 b2 .nil pass0 (pa_cons (pe_fld (pv 0) rfl) (pa_cons (pv 2) pa_nil))))
    (pss_cons (ps_if (pt_cmpR (op_eqD hr.units) (pv 1) (pe_tup (pa_cons pe_str (pa_cons pe_str pa_nil))) (nomark _))
      (pss_one (ps_ret (pe_ifExp (pt_cmpR op_lt (pv 3) (pe_fld (pv 0) rfl) (nomark _)) (pe_tup (pa_cons (pv 2) (pa_cons (pv 3) pa_nil))) pe_non))) pss_nil)
    (pss_cons (ps_if (pt_cmpR (op_eqD hr.units) (pv 1) (pe_tup (pa_cons pe_str (pa_cons pe_str pa_nil))) (nomark _))
      (pss_cons (ps_set (i := 4) scNearE.nd rfl (.inl rfl) (pe_op op_sub (pe_call G1 (hr.mono (by decide)) (by rfl) g1 k1 b1 .nil pass0 (pa_cons (pe_fld (pv 0) rfl) (pa_cons (pe_op op_sub (pe_fld (pv 0) rfl) (pv 2)) pa_nil))) pe_int))
      (pss_one (ps_ret (pe_ifExp (pt_cmpR op_le (pv 3) (pv 4) (nomark _)) (pe_tup (pa_cons (pv 2) (pa_cons (pe_ifExp (pt_cmpR op_gt (pv 3) (pe_op op_sub (pv 2) (pv 4)) (nomark _)) (pv 3) (pe_op op_sub (pv 2) (pv 4))) pa_nil))) pe_non)))) pss_nil)
    (pss_one (ps_ret pe_non))))))), ?_⟩
    refine ⟨_, rfl, (by show 2 ≤ sizeLine; decide), cmp_bk hv .li2 fun u1 hu1 => ?_⟩
    have s1 := same_new (o := .tup [.str Bk.li2.n, .str Bk.li2.s]) hu1
    have ga1 := ga.keep s1
    have hv1 := hv.keep s1
    generalize upd H u1 (.tup [.str Bk.li2.n, .str Bk.li2.s]) = H1 at s1 ga1 hv1 ⊢
    refine ⟨_, rfl, ?_⟩
    by_cases e : t = .li2
    · subst e
      obtain ⟨⟨dx, hx⟩, ob, R⟩ := ga1
      refine iteT ⟨_, rfl, x, dx, _, rfl, hx, gl0 r g ⟨by decide +kernel, by decide +kernel, by decide +kernel, by decide +kernel, by decide +kernel, by decide +kernel⟩, _, rfl, x, C, dx, _, _, rfl, hx, T.cl, T.n5, gl5 r g, _, rfl, x, r, row, g, g.T, i, rfl, ⟨⟨dx, hx⟩, ob, R⟩, fun v' H' s' pv' => ?_⟩
      exact kk v' H' (s1.trans s') pv'
    rw [decide_eq_false (fun z => e (Option.some.inj z))]
    refine iteF ⟨_, rfl, (by show 2 ≤ sizeLine; decide), cmp_bk hv1 .to1 fun u2 hu2 => ?_⟩
    have s2 := s1.trans (same_new (o := .tup [.str Bk.to1.n, .str Bk.to1.s]) hu2)
    have ga2 := ga.keep s2
    have hv2 := hv.keep s2
    generalize upd H1 u2 (.tup [.str Bk.to1.n, .str Bk.to1.s]) = H2 at s2 ga2 hv2 ⊢
    refine ⟨_, rfl, ?_⟩
    by_cases e2 : t = .to1
    · subst e2
      obtain ⟨⟨dx, hx⟩, ob, R⟩ := ga2
      refine iteT ⟨_, rfl, x, dx, _, rfl, hx, gl0 r g ⟨by decide +kernel, by decide +kernel, by decide +kernel, by decide +kernel, by decide +kernel, by decide +kernel⟩, _, rfl, x, C, dx, _, _, rfl, hx, T.cl, T.n6, gl6 r g, _, rfl, x, r, row, g, g.M, i, rfl, ⟨⟨dx, hx⟩, ob, R⟩, fun v' H' s' pv' => ?_⟩
      exact kk v' H' (s2.trans s') pv'
    rw [decide_eq_false (fun z => e2 (Option.some.inj z))]
    obtain ⟨⟨dx, hx⟩, ob, R⟩ := ga2
    refine iteF ⟨_, rfl, x, C, dx, _, _, rfl, hx, T.cl, T.n1, gl1 r g, _, rfl, r, g.p, g.q, g.k, i, rfl, R, ?_⟩
    refine ⟨_, rfl, (by show 2 ≤ sizeLine; decide), cmp_bk hv2 .li1 fun u3 hu3 => ?_⟩
    have s23 := same_new (o := .tup [.str Bk.li1.n, .str Bk.li1.s]) hu3
    have s3 := s2.trans s23
    have hv3 := hv.keep s3
    have hx := s23 _ _ hx
    have R := R.keep s23
    generalize upd H2 u3 (.tup [.str Bk.li1.n, .str Bk.li1.s]) = H3 at s3 hv3 hx R ⊢
    refine ⟨_, rfl, ?_⟩
    by_cases e3 : t = .li1
    · subst e3
      refine iteT ⟨_, rfl, _, rfl, x, C, dx, _, _, rfl, hx, T.cl, T.n4, gl4 r g, _, _, rfl, rfl, _, rfl, ?_⟩
      show (if decide (g.part i < g.L) = true then _ else _)
      by_cases z : g.part i < g.L
      · rw [if_pos (decide_eq_true z)]
        refine ⟨_, rfl, _, rfl, (by show 2 ≤ sizeLine; decide), fun u hu => kk _ _ (s3.trans (same_new hu)) ?_⟩
        rw [show g.near .li1 i = some (i, g.part i) from if_pos z]
        exact ⟨u, rfl, upd_same⟩
      · rw [if_neg (fun y => z (of_decide_eq_true y))]
        refine kk _ _ s3 ?_
        rw [show g.near .li1 i = none from if_neg z]
        rfl
    rw [decide_eq_false (fun z => e3 (Option.some.inj z))]
    refine iteF ⟨_, rfl, (by show 2 ≤ sizeLine; decide), cmp_bk hv3 .fa2 fun u4 hu4 => ?_⟩
    have s34 := same_new (o := .tup [.str Bk.fa2.n, .str Bk.fa2.s]) hu4
    have s4 := s3.trans s34
    have hx := s34 _ _ hx
    have R := R.keep s34
    generalize upd H3 u4 (.tup [.str Bk.fa2.n, .str Bk.fa2.s]) = H4 at s4 hx R ⊢
    refine ⟨_, rfl, ?_⟩
    by_cases e4 : t = .fa2
    · subst e4
      refine iteT ⟨_, rfl, x, C, dx, _, _, rfl, hx, T.cl, T.n1, gl1 r g, _, rfl, x, C, dx, _, _, rfl, hx, T.cl, T.n3, gl3 r g, _, rfl, _, _, rfl, rfl, r, g.p, g.q, g.k, g.b - i, rfl, R, _, _, rfl, rfl, ?_⟩
      refine ⟨_, rfl, _, rfl, _, _, rfl, rfl, _, rfl, ?_⟩
      show (if decide (g.part i ≤ g.least (g.b - i) - 1) = true then _ else _)
      by_cases z : g.part i ≤ g.least (g.b - i) - 1
      · rw [if_pos (decide_eq_true z)]
        refine ⟨_, rfl, _, rfl, _, rfl, _, rfl, _, _, rfl, rfl, _, _, rfl, rfl, _, rfl, ?_⟩
        show (if decide (g.part i > i - (g.least (g.b - i) - 1)) = true then _ else _)
        by_cases y : g.part i > i - (g.least (g.b - i) - 1)
        · rw [if_pos (decide_eq_true y)]
          refine ⟨_, rfl, (by show 2 ≤ sizeLine; decide), fun u hu => kk _ _ (s4.trans (same_new hu)) ?_⟩
          rw [show g.near .fa2 i = some (i, g.part i) from (if_pos z).trans (by rw [if_pos y])]
          exact ⟨u, rfl, upd_same⟩
        · rw [if_neg (fun x => y (of_decide_eq_true x))]
          refine ⟨_, rfl, _, rfl, _, _, rfl, rfl, (by show 2 ≤ sizeLine; decide), fun u hu => kk _ _ (s4.trans (same_new hu)) ?_⟩
          rw [show g.near .fa2 i = some (i, i - (g.least (g.b - i) - 1)) from (if_pos z).trans (by rw [if_neg y])]
          exact ⟨u, rfl, upd_same⟩
      · rw [if_neg (fun x => z (of_decide_eq_true x))]
        refine kk _ _ s4 ?_
        rw [show g.near .fa2 i = none from if_neg z]
        rfl
    rw [decide_eq_false (fun z => e4 (Option.some.inj z))]
    refine iteF (kk _ _ s4 ?_)
    cases t <;> first | exact absurd rfl e | exact absurd rfl e2 | exact absurd rfl e3 | exact absurd rfl e4 | rfl
end
end Ev
namespace Ev
open PySem L2 PySem.Spec PyProof.Rows RZ
/-- the constants of the module -/
structure KB (K : PySem.W.Frag) (mg : Str → Option Value) (SK ON TW : Addr) : Prop where
  gS : mg "STUCK" = some (.ref SK)
  gO : mg "ONCE" = some (.ref ON)
  gT : mg "TWICE" = some (.ref TW)
  hS : ∀ H, BkV K H (.ref SK) (some .st)
  hO : ∀ H, BksV K H ON onces
  hT : ∀ H, BksV K H TW twices
theorem BkV.isN {K : PySem.W.Frag} {H : Hp} {v : V} {o : Option Bk} (h : BkV K H v o) : decide (v = .non) = decide (o = none) := by
  cases o with
  | none => rw [show v = .non from h]; rfl
  | some b =>
    obtain ⟨a, rfl, _⟩ := h
    rw [decide_eq_false (by intro z; cases z), decide_eq_false (by intro z; cases z)]
theorem NsV.isN {H : Hp} {v : V} {o : Option (List Int)} (h : NsV H v o) : decide (v = .non) = o.isNone := by
  cases o with
  | none => rw [show v = .non from h]; rfl
  | some b =>
    obtain ⟨a, rfl, _⟩ := h
    rw [decide_eq_false (by intro z; cases z)]; rfl
section
variable {P : Program} {w : World} {K : PySem.W.Frag} {mg : Str → Option Value} {base : Heap}
theorem scOnceE : FnScope ["self", "once", "ends", "low", "high"] ["self", "once", "ends"] (defScope sGrip_once_ends) := ⟨rfl, rfl, rfl, by decide +kernel, rfl, by decide +kernel, by decide +kernel⟩
theorem ok_onceE {f C Ct Cn : Addr} {fd : FuncData} (F : Fun K "once_ends" "Grip.once_ends" sGrip_once_ends f fd) (T : GC K C) : FnOk P w K mg base CX0 1 f fd ["self", "once", "ends"] (spOnceE K C Ct Cn) := by
  refine F.ok scOnceE (fun vs H Q E h => ?_) (fun cdv A outer s H vs Q E hr h => ?_)
  · obtain ⟨x, r, row, g, v, u, o, l, h, rfl, _⟩ := h
    rfl
  · obtain ⟨x, r, row, g, v, u, o, l, h, rfl, ga, hv, ⟨tt, rfl, ht⟩, kk⟩ := h
    refine ⟨_, (pss_cons (ps_asg (pv 2) (pg_tup (by rfl) (pgs_cons (pg_name (i := 3) scOnceE.nd rfl (.inl rfl)) (pgs_cons (pg_name (i := 4) scOnceE.nd rfl (.inl rfl)) pgs_nil))))
    (pss_cons (ps_if (pt_cmpR op_isN (pv 1) pe_non (nomark _))
      (pss_one (ps_ret (pe_tup (pa_cons (pv 3) (pa_cons (pv 4) pa_nil))))) pss_nil)
    (pss_cons (ps_if (pt_cmpR (op_eqD hr.units) (pv 1) (pe_tup (pa_cons pe_str (pa_cons pe_str pa_nil))) (nomark _))
      (pss_one (ps_ret (pe_tup (pa_cons (pv 3) (pa_cons (pe_ifExp (pt_cmpR op_lt (pv 4) (pe_fld (pv 0) rfl) (nomark _)) (pv 4) (pe_op op_sub (pe_fld (pv 0) rfl) pe_int)) pa_nil))))) pss_nil)
    (pss_cons (ps_if (pt_cmpR (op_eqD hr.units) (pv 1) (pe_tup (pa_cons pe_str (pa_cons pe_str pa_nil))) (nomark _))
      (pss_one (ps_ret (pe_tup (pa_cons (pe_ifExp (pt_cmpR op_gt (pv 3) (pe_fld (pv 0) rfl) (nomark _)) (pv 3) (pe_fld (pv 0) rfl)) (pa_cons (pv 4) pa_nil))))) pss_nil)
    (pss_cons (ps_if (pt_cmpR (op_eqD hr.units) (pv 1) (pe_tup (pa_cons pe_str (pa_cons pe_str pa_nil))) (nomark _))
      (pss_one (ps_ret (pe_tup (pa_cons (pe_ifExp (pt_cmpR op_gt (pv 3) (pe_fld (pv 0) rfl) (nomark _)) (pv 3) (pe_fld (pv 0) rfl)) (pa_cons (pv 4) pa_nil))))) pss_nil)
    (pss_one (ps_ret (pe_tup (pa_cons pe_int (pa_cons pe_int pa_nil)))))))))), ?_⟩
    refine ⟨_, rfl, tt, _, rfl, SqT.of ht, rfl, _, _, rfl, _, _, rfl, rfl, ?_⟩
    refine ⟨_, rfl, rfl, _, rfl, ?_⟩
    rw [hv.isN]
    by_cases e0 : o = none
    · subst e0
      refine iteT ⟨_, rfl, _, rfl, (by show 2 ≤ sizeLine; decide), fun z hz => kk _ _ (same_new hz) ⟨z, rfl, upd_same⟩⟩
    rw [decide_eq_false e0]
    refine iteF ⟨_, rfl, (by show 2 ≤ sizeLine; decide), cmp_bk hv .li1 fun u1 hu1 => ?_⟩
    have s1 := same_new (o := .tup [.str Bk.li1.n, .str Bk.li1.s]) hu1
    have ga1 := ga.keep s1
    have hv1 := hv.keep s1
    generalize upd H u1 (.tup [.str Bk.li1.n, .str Bk.li1.s]) = H1 at s1 ga1 hv1 ⊢
    refine ⟨_, rfl, ?_⟩
    by_cases e1 : o = some .li1
    · subst e1
      obtain ⟨⟨dx, hx⟩, ob, R⟩ := ga1
      refine iteT ⟨_, rfl, _, rfl, _, rfl, x, C, dx, _, _, rfl, hx, T.cl, T.n4, gl4 r g, _, _, rfl, rfl, _, rfl, ?_⟩
      show (if decide (h < g.L) = true then _ else _)
      by_cases z : h < g.L
      · rw [if_pos (decide_eq_true z)]
        refine ⟨_, rfl, (by show 2 ≤ sizeLine; decide), fun u hu => kk _ _ (s1.trans (same_new hu)) ⟨u, rfl, ?_⟩⟩
        rw [show (g.ends (some .li1) l h).2 = h from if_pos z]
        exact upd_same
      · rw [if_neg (fun y => z (of_decide_eq_true y))]
        refine ⟨_, rfl, x, C, dx, _, _, rfl, hx, T.cl, T.n4, gl4 r g, _, _, rfl, rfl, (by show 2 ≤ sizeLine; decide), fun u hu => kk _ _ (s1.trans (same_new hu)) ⟨u, rfl, ?_⟩⟩
        rw [show (g.ends (some .li1) l h).2 = g.L - 1 from if_neg z]
        exact upd_same
    rw [decide_eq_false e1]
    refine iteF ⟨_, rfl, (by show 2 ≤ sizeLine; decide), cmp_bk hv1 .li2 fun u2 hu2 => ?_⟩
    have s12 := same_new (o := .tup [.str Bk.li2.n, .str Bk.li2.s]) hu2
    have s2 := s1.trans s12
    have ga2 := ga1.keep s12
    have hv2 := hv1.keep s12
    generalize upd H1 u2 (.tup [.str Bk.li2.n, .str Bk.li2.s]) = H2 at s2 ga2 hv2 ⊢
    refine ⟨_, rfl, ?_⟩
    by_cases e2 : o = some .li2
    · subst e2
      obtain ⟨⟨dx, hx⟩, ob, R⟩ := ga2
      refine iteT ⟨_, rfl, _, rfl, x, C, dx, _, _, rfl, hx, T.cl, T.n5, gl5 r g, _, _, rfl, rfl, _, rfl, ?_⟩
      show (if decide (l > g.T) = true then _ else _)
      by_cases z : l > g.T
      · rw [if_pos (decide_eq_true z)]
        refine ⟨_, rfl, _, rfl, (by show 2 ≤ sizeLine; decide), fun u hu => kk _ _ (s2.trans (same_new hu)) ⟨u, rfl, ?_⟩⟩
        rw [show (g.ends (some .li2) l h).1 = l from if_pos z]
        exact upd_same
      · rw [if_neg (fun y => z (of_decide_eq_true y))]
        refine ⟨_, rfl, x, C, dx, _, _, rfl, hx, T.cl, T.n5, gl5 r g, _, rfl, (by show 2 ≤ sizeLine; decide), fun u hu => kk _ _ (s2.trans (same_new hu)) ⟨u, rfl, ?_⟩⟩
        rw [show (g.ends (some .li2) l h).1 = g.T from if_neg z]
        exact upd_same
    rw [decide_eq_false e2]
    refine iteF ⟨_, rfl, (by show 2 ≤ sizeLine; decide), cmp_bk hv2 .to1 fun u3 hu3 => ?_⟩
    have s23 := same_new (o := .tup [.str Bk.to1.n, .str Bk.to1.s]) hu3
    have s3 := s2.trans s23
    have ga3 := ga2.keep s23
    generalize upd H2 u3 (.tup [.str Bk.to1.n, .str Bk.to1.s]) = H3 at s3 ga3 ⊢
    refine ⟨_, rfl, ?_⟩
    by_cases e3 : o = some .to1
    · subst e3
      obtain ⟨⟨dx, hx⟩, ob, R⟩ := ga3
      refine iteT ⟨_, rfl, _, rfl, x, C, dx, _, _, rfl, hx, T.cl, T.n6, gl6 r g, _, _, rfl, rfl, _, rfl, ?_⟩
      show (if decide (l > g.M) = true then _ else _)
      by_cases z : l > g.M
      · rw [if_pos (decide_eq_true z)]
        refine ⟨_, rfl, _, rfl, (by show 2 ≤ sizeLine; decide), fun u hu => kk _ _ (s3.trans (same_new hu)) ⟨u, rfl, ?_⟩⟩
        rw [show (g.ends (some .to1) l h).1 = l from if_pos z]
        exact upd_same
      · rw [if_neg (fun y => z (of_decide_eq_true y))]
        refine ⟨_, rfl, x, C, dx, _, _, rfl, hx, T.cl, T.n6, gl6 r g, _, rfl, (by show 2 ≤ sizeLine; decide), fun u hu => kk _ _ (s3.trans (same_new hu)) ⟨u, rfl, ?_⟩⟩
        rw [show (g.ends (some .to1) l h).1 = g.M from if_neg z]
        exact upd_same
    rw [decide_eq_false e3]
    refine iteF ⟨(by show 2 ≤ sizeLine; decide), fun u hu => kk _ _ (s3.trans (same_new hu)) ⟨u, rfl, ?_⟩⟩
    have : g.ends o l h = (1, 0) := by
      match o, e0, e1, e2, e3 with
      | some .st, _, _, _, _ => rfl
      | some .fa1, _, _, _, _ => rfl
      | some .fa2, _, _, _, _ => rfl
      | some .to2, _, _, _, _ => rfl
      | none, e0, _, _, _ => exact absurd rfl e0
      | some .li1, _, e, _, _ => exact absurd rfl e
      | some .li2, _, _, e, _ => exact absurd rfl e
      | some .to1, _, _, _, e => exact absurd rfl e
    rw [this]
    exact upd_same
theorem scNumsO : FnScope ["self", "twice", "low", "high", "ends", "inner", "near"] ["self", "twice", "low", "high"] (defScope sGrip_numbers_of) := ⟨rfl, rfl, rfl, by decide +kernel, rfl, by decide +kernel, by decide +kernel⟩
theorem ok_numsO {f C Ct Cn SK ON TW : Addr} {fd : FuncData} (F : Fun K "numbers_of" "Grip.numbers_of" sGrip_numbers_of f fd) (T : GC K C) (B : KB K mg SK ON TW) (M : Mt P w K mg base C "near_ends" 3 ["self", "twice", "inner"] (spNearE K C Ct Cn)) : FnOk P w K mg base CX0 4 f fd ["self", "twice", "low", "high"] (spNumsO K C Ct Cn) := by
  obtain ⟨fm, fdm, mm, Gm, bm⟩ := M
  refine F.ok scNumsO (fun vs H Q E h => ?_) (fun cdv A outer s H vs Q E hr h => ?_)
  · obtain ⟨x, r, row, g, v, t, l, h, rfl, _⟩ := h
    rfl
  · obtain ⟨x, r, row, g, v, t, l, h, rfl, ga, hv, kk⟩ := h
    refine ⟨_, (pss_cons (ps_if (pt_cmpR op_isN (pv 1) pe_non (nomark _))
      (pss_one (ps_ret (pe_tup (pa_cons (pe_fld (pv 0) rfl) (pa_cons (pv 2) (pa_cons (pe_op op_sub (pe_fld (pv 0) rfl) (pv 2)) pa_nil)))))) pss_nil)
    (pss_cons (ps_if (pt_cmpR (op_eqD hr.units) (pv 1) (pe_glob (v := .ref SK) rfl B.gS rfl) (nomark _))
      (pss_one (ps_ret (pe_ifExp (pt_cmpR op_eq (pv 2) pe_int (nomark _)) (pe_tup (pa_cons (pe_fld (pv 0) rfl) (pa_cons pe_int (pa_cons (pe_op op_sub (pe_fld (pv 0) rfl) pe_int) pa_nil)))) pe_non))) pss_nil)
    (pss_cons (ps_set (i := 4) scNumsO.nd rfl (.inl rfl) (pe_meth (pv 0) T.cl mm Gm hr bm .nil pass0 (pa_cons (pv 1) (pa_cons (pe_ifExp (pt_cmpR op_gt (pv 2) pe_int (nomark _)) (pv 2) pe_int) pa_nil))))
    (pss_cons (ps_if (PW.pt (pw_or (pt_cmpR op_isN (pv 4) pe_non (nomark _)) (pw_or1 (pt_cmpR op_gt (pe_ix ix_tup (pv 4) pe_int (fun _ _ => rfl)) (pv 3) (nomark _)))))
      (pss_one (ps_ret pe_non)) pss_nil)
    (pss_cons (ps_asg (pv 4) (pg_tup (by rfl) (pgs_cons (pg_name (i := 5) scNumsO.nd rfl (.inl rfl)) (pgs_cons (pg_name (i := 6) scNumsO.nd rfl (.inl rfl)) pgs_nil))))
    (pss_one (ps_ret (pe_tup (pa_cons (pe_fld (pv 0) rfl) (pa_cons (pv 6) (pa_cons (pe_op op_sub (pv 5) (pv 6)) (pa_cons (pe_op op_sub (pe_fld (pv 0) rfl) (pv 5)) pa_nil)))))))))))), ?_⟩
    have ga0 := ga
    obtain ⟨⟨dx, hx⟩, ob, R⟩ := ga
    refine ⟨_, rfl, rfl, _, rfl, ?_⟩
    rw [hv.isN]
    by_cases e0 : t = none
    · subst e0
      exact iteT ⟨_, rfl, x, C, dx, _, _, rfl, hx, T.cl, T.n2, gl2 r g, _, rfl, _, rfl, x, C, dx, _, _, rfl, hx, T.cl, T.n3, gl3 r g, _, rfl, _, _, rfl, rfl, (by show 3 ≤ sizeLine; decide), fun z hz => kk _ _ (same_new hz) ⟨z, rfl, upd_same⟩⟩
    rw [decide_eq_false e0]
    refine iteF ⟨_, rfl, _, _, hv.dp, (B.hS H).dp, bkD_shaped _, bkD_shaped _, _, rfl, ?_⟩
    rw [bkD_eqv]
    by_cases e1 : t = some .st
    · subst e1
      refine iteT ⟨_, rfl, rfl, _, rfl, ?_⟩
      by_cases z : l = 1
      · subst z
        exact iteT ⟨_, rfl, x, C, dx, _, _, rfl, hx, T.cl, T.n2, gl2 r g, _, rfl, x, C, dx, _, _, rfl, hx, T.cl, T.n3, gl3 r g, _, _, rfl, rfl, (by show 3 ≤ sizeLine; decide), fun z hz => kk _ _ (same_new hz) ⟨z, rfl, upd_same⟩⟩
      · rw [show decide (V.int l = V.int 1) = false from decide_eq_false fun y => z (V.int.inj y)]
        refine iteF (kk _ _ (Same.refl H) ?_)
        rw [show g.nums (some .st) l h = none from if_neg z]
        rfl
    rw [decide_eq_false e1]
    obtain ⟨t, rfl⟩ : ∃ t', t = some t' := by cases t with
      | none => exact absurd rfl e0
      | some t' => exact ⟨t', rfl⟩
    have e2 : g.nums (some t) l h = (match g.near t (if l > 1 then l else 2) with
        | none => none
        | some (i, e) => if i > h then none else some [g.a, e, i - e, g.b - i]) := by
      cases t <;> first | rfl | exact absurd rfl e1
    rw [e2] at kk
    refine iteF ⟨_, rfl, x, dx, _, rfl, hx, gl0 r g ⟨by decide +kernel, by decide +kernel, by decide +kernel, by decide +kernel, by decide +kernel, by decide +kernel⟩, _, rfl, _, rfl, _, _, rfl, rfl, _, rfl, ?_⟩
    show (if decide (l > 1) = true then _ else _)
    by_cases z : l > 1
    · rw [if_pos (decide_eq_true z)]
      have en' : (if l > 1 then l else 2) = l := if_pos z
      refine ⟨_, rfl, x, r, row, g, v, t, l, rfl, ga0, hv, fun v' H' s' ov => ?_⟩
      refine ⟨_, rfl, rfl, _, rfl, ?_⟩
      have ga1 := ga0.keep s'
      obtain ⟨⟨dx1, hx1⟩, ob1, R1⟩ := ga1
      cases en : g.near t (l) with
      | none =>
        rw [en] at ov
        rw [en'] at kk
        rw [en] at kk
        rw [show v' = .non from ov]
        exact iteT (kk _ _ s' rfl)
      | some ce =>
        obtain ⟨c, e⟩ := ce
        rw [en] at ov
        rw [en'] at kk
        rw [en] at kk
        obtain ⟨tt, rfl, ht⟩ := ov
        rw [decide_eq_false (by intro z; cases z)]
        refine iteF ⟨_, rfl, tt, _, _, _, rfl, rfl, SqT.of ht, tup0, _, rfl, _, _, rfl, rfl, _, rfl, ?_⟩
        dsimp only at kk
        by_cases y : c > h
        · rw [if_pos y] at kk
          rw [show (decide (c > h)) = true from decide_eq_true y]
          exact iteT (kk _ _ s' rfl)
        · rw [if_neg y] at kk
          rw [show (decide (c > h)) = false from decide_eq_false y]
          refine iteF ⟨_, rfl, tt, _, rfl, SqT.of ht, rfl, _, _, rfl, _, _, rfl, rfl, ?_⟩
          exact ⟨_, rfl, x, C, dx1, _, _, rfl, hx1, T.cl, T.n2, gl2 r g, _, rfl, _, rfl, _, rfl, _, _, rfl, rfl, _, rfl, x, C, dx1, _, _, rfl, hx1, T.cl, T.n3, gl3 r g, _, rfl, _, _, rfl, rfl, (by show 4 ≤ sizeLine; decide), fun z hz => kk _ _ (s'.trans (same_new hz)) ⟨z, rfl, upd_same⟩⟩
    · rw [if_neg (fun y => z (of_decide_eq_true y))]
      have en' : (if l > 1 then l else 2) = 2 := if_neg z
      refine ⟨x, r, row, g, v, t, 2, rfl, ga0, hv, fun v' H' s' ov => ?_⟩
      refine ⟨_, rfl, rfl, _, rfl, ?_⟩
      have ga1 := ga0.keep s'
      obtain ⟨⟨dx1, hx1⟩, ob1, R1⟩ := ga1
      cases en : g.near t (2) with
      | none =>
        rw [en] at ov
        rw [en'] at kk
        rw [en] at kk
        rw [show v' = .non from ov]
        exact iteT (kk _ _ s' rfl)
      | some ce =>
        obtain ⟨c, e⟩ := ce
        rw [en] at ov
        rw [en'] at kk
        rw [en] at kk
        obtain ⟨tt, rfl, ht⟩ := ov
        rw [decide_eq_false (by intro z; cases z)]
        refine iteF ⟨_, rfl, tt, _, _, _, rfl, rfl, SqT.of ht, tup0, _, rfl, _, _, rfl, rfl, _, rfl, ?_⟩
        dsimp only at kk
        by_cases y : c > h
        · rw [if_pos y] at kk
          rw [show (decide (c > h)) = true from decide_eq_true y]
          exact iteT (kk _ _ s' rfl)
        · rw [if_neg y] at kk
          rw [show (decide (c > h)) = false from decide_eq_false y]
          refine iteF ⟨_, rfl, tt, _, rfl, SqT.of ht, rfl, _, _, rfl, _, _, rfl, rfl, ?_⟩
          exact ⟨_, rfl, x, C, dx1, _, _, rfl, hx1, T.cl, T.n2, gl2 r g, _, rfl, _, rfl, _, rfl, _, _, rfl, rfl, _, rfl, x, C, dx1, _, _, rfl, hx1, T.cl, T.n3, gl3 r g, _, rfl, _, _, rfl, rfl, (by show 4 ≤ sizeLine; decide), fun z hz => kk _ _ (s'.trans (same_new hz)) ⟨z, rfl, upd_same⟩⟩
end
end Ev
namespace Ev
open PySem L2 PySem.Spec PyProof.Rows RZ
section
variable {P : Program} {w : World} {K : PySem.W.Frag} {mg : Str → Option Value} {base : Heap}
theorem scFirstOf : FnScope ["self", "onces", "twices", "ends", "once", "low", "high", "twice", "numbers"] ["self", "onces", "twices", "ends"] (defScope sGrip_first_of) := ⟨rfl, rfl, rfl, by decide +kernel, rfl, by decide +kernel, by decide +kernel⟩
theorem first_drop {g : Gp} {ts : List (Option Bk)} {l h : Int} {os : List (Option Bk)} {i : Nat} {o : Option Bk} (e : os[i]? = some o) : g.first ts l h (os.drop i) = (if (g.ends o l h).1 ≤ (g.ends o l h).2 then
      match g.second o (g.ends o l h).1 (g.ends o l h).2 ts with
      | some r => some r
      | none => g.first ts l h (os.drop (i + 1))
    else g.first ts l h (os.drop (i + 1))) := by
  obtain ⟨hi, e⟩ := List.getElem?_eq_some_iff.mp e
  rw [List.drop_eq_getElem_cons hi, e]
  rfl
theorem second_drop {g : Gp} {l h : Int} {o : Option Bk} {ts : List (Option Bk)} {i : Nat} {t : Option Bk} (e : ts[i]? = some t) : g.second o l h (ts.drop i) = (match g.nums t l h with
    | some ns => some (o, t, ns)
    | none => g.second o l h (ts.drop (i + 1))) := by
  obtain ⟨hi, e⟩ := List.getElem?_eq_some_iff.mp e
  rw [List.drop_eq_getElem_cons hi, e]
  rfl
theorem BksV.at {K : PySem.W.Frag} {H : Hp} {l : Addr} {os : List (Option Bk)} (h : BksV K H l os) : ∃ vs : List V, SqT K H l vs ∧ vs.length = os.length ∧ ∀ (i : Nat) (v : V), vs[i]? = some v → ∃ o, os[i]? = some o ∧ BkV K H v o := by
  obtain ⟨vs, h1, h2, h3⟩ := h
  refine ⟨vs, h1, h2, fun i v e => ?_⟩
  have hi := (List.getElem?_eq_some_iff.mp e).1
  have hi' : i < os.length := by omega
  obtain ⟨v', e1, e2⟩ := h3 i _ (List.getElem?_eq_getElem hi')
  rw [e] at e1
  obtain rfl := Option.some.inj e1
  exact ⟨_, List.getElem?_eq_getElem hi', e2⟩
theorem ok_firstOf {f C Ct Cn : Addr} {fd : FuncData} (F : Fun K "first_of" "Grip.first_of" sGrip_first_of f fd) (T : GC K C) (M1 : Mt P w K mg base C "once_ends" 1 ["self", "once", "ends"] (spOnceE K C Ct Cn)) (M2 : Mt P w K mg base C "numbers_of" 4 ["self", "twice", "low", "high"] (spNumsO K C Ct Cn)) :
    FnOk P w K mg base CX0 5 f fd ["self", "onces", "twices", "ends"] (spFirstOf K C Ct Cn) := by
  obtain ⟨f1, fd1, m1, G1, b1⟩ := M1
  obtain ⟨f2, fd2, m2, G2, b2⟩ := M2
  refine F.ok scFirstOf (fun vs H Q E h => ?_) (fun cdv A outer s H vs Q E hr h => ?_)
  · obtain ⟨x, r, row, g, a, b, u, os, ts, l, h, rfl, _⟩ := h
    rfl
  · obtain ⟨x, r, row, g, a, b, u, os, ts, l, h, rfl, ga, ha, hb, hu, kk⟩ := h
    refine ⟨_, (pss_cons (ps_for PassesOwn.never rfl (pi_tup (pv 1)) (pg_name (i := 4) scFirstOf.nd rfl (.inl rfl))
      (pss_cons (ps_asg (pe_meth (pv 0) T.cl m1 G1 (hr.mono (by decide)) b1 .nil pass0 (pa_cons (pv 4) (pa_cons (pv 3) pa_nil))) (pg_tup (by rfl) (pgs_cons (pg_name (i := 5) scFirstOf.nd rfl (.inl rfl)) (pgs_cons (pg_name (i := 6) scFirstOf.nd rfl (.inl rfl)) pgs_nil))))
      (pss_one (ps_if (pt_cmpR op_le (pv 5) (pv 6) (nomark _))
        (pss_one (ps_for PassesOwn.never rfl (pi_tup (pv 2)) (pg_name (i := 7) scFirstOf.nd rfl (.inl rfl))
          (pss_cons (ps_set (i := 8) scFirstOf.nd rfl (.inl rfl) (pe_meth (pv 0) T.cl m2 G2 hr b2 .nil pass0 (pa_cons (pv 7) (pa_cons (pv 5) (pa_cons (pv 6) pa_nil)))))
          (pss_one (ps_if (pt_cmpR op_notN (pv 8) pe_non (nomark _))
            (pss_one (ps_ret (pe_tup (pa_cons (pv 4) (pa_cons (pv 7) (pa_cons (pv 8) pa_nil)))))) pss_nil))))) pss_nil))))
    (pss_one (ps_ret pe_non))), ?_⟩
    have no1 : ∀ m : Str, m = "once_ends" ∨ m = "numbers_of" → (gripF r g).lookup m = none := fun m hm => by
      rcases hm with rfl | rfl <;> exact gl0 r g ⟨by decide +kernel, by decide +kernel, by decide +kernel, by decide +kernel, by decide +kernel, by decide +kernel⟩
    obtain ⟨xs, sa, la, ia⟩ := ha.at
    refine ⟨_, rfl, a, rfl, ⟨_, sa⟩, ?_⟩
    refine for_tup (xs := xs) (fun i σ G => Same H G ∧ g.first ts l h os = g.first ts l h (os.drop i) ∧ ∃ v4 v5 v6 v7 v8, σ = [some (.ref x), some (.ref a), some (.ref b), some u, v4, v5, v6, v7, v8]) ⟨Same.refl _, rfl, _, _, _, _, _, rfl⟩ (fun i σ G _ h => SqT.keep sa h.1) (fun i v σ G hi hp => ?_) (fun σ G hp => ?_)
    · obtain ⟨s1, e1, v4, v5, v6, v7, v8, rfl⟩ := hp
      obtain ⟨o, ho, hv⟩ := ia i v hi
      have ga1 := ga.keep s1
      have hv1 := hv.keep s1
      obtain ⟨⟨dx, hx⟩, ob, R⟩ := ga1
      refine ⟨_, rfl, x, dx, _, rfl, hx, no1 _ (.inl rfl), _, rfl, _, rfl, x, r, row, g, v, u, o, l, h, rfl, ⟨⟨dx, hx⟩, ob, R⟩, hv1, hu.keep s1, fun w' G2 s2 hw => ?_⟩
      obtain ⟨tt, rfl, ht⟩ := hw
      refine ⟨tt, _, rfl, SqT.of ht, rfl, _, _, rfl, _, _, rfl, rfl, ?_⟩
      have s12 := s1.trans s2
      refine ⟨_, rfl, _, rfl, _, _, rfl, rfl, _, rfl, ?_⟩
      show (if decide ((g.ends o l h).1 ≤ (g.ends o l h).2) = true then _ else _)
      have fd := first_drop (g := g) (ts := ts) (l := l) (h := h) ho
      by_cases c : (g.ends o l h).1 ≤ (g.ends o l h).2
      · rw [if_pos (decide_eq_true c)]
        rw [if_pos c] at fd
        generalize (g.ends o l h).1 = l' at fd ⊢
        generalize (g.ends o l h).2 = h' at fd ⊢
        obtain ⟨ys, sb, lb, ib⟩ := (hb.keep s12).at
        refine ⟨_, rfl, b, rfl, ⟨_, sb⟩, ?_⟩
        refine for_tup (xs := ys) (fun j σ G => Same G2 G ∧ g.second o l' h' ts = g.second o l' h' (ts.drop j) ∧ ∃ v7 v8, σ = [some (.ref x), some (.ref a), some (.ref b), some u, some v, some (.int l'), some (.int h'), v7, v8]) ⟨Same.refl _, rfl, _, _, rfl⟩ (fun j σ G _ h => SqT.keep sb h.1) (fun j y σ G3 hj hp => ?_) (fun σ G3 hp => ?_)
        · obtain ⟨s3, e3, v7, v8, rfl⟩ := hp
          obtain ⟨t, ht', hy⟩ := ib j y hj
          have s13 := s12.trans s3
          obtain ⟨⟨dx, hx⟩, ob, R⟩ := ga.keep s13
          refine ⟨_, rfl, x, dx, _, rfl, hx, no1 _ (.inr rfl), _, rfl, _, rfl, _, rfl, x, r, row, g, y, t, l', h', rfl, ⟨⟨dx, hx⟩, ob, R⟩, hy.keep s3, fun v' G4 s4 hn => ?_⟩
          have sd := second_drop (g := g) (o := o) (l := l') (h := h') ht'
          refine ⟨_, rfl, rfl, _, rfl, ?_⟩
          rw [hn.isN]
          cases en : g.nums t l' h' with
          | none =>
            rw [en] at sd
            refine iteF ⟨s3.trans s4, e3.trans sd, _, _, rfl⟩
          | some ns =>
            rw [en] at sd hn
            obtain ⟨q, rfl, hq⟩ := hn
            refine iteT ⟨_, rfl, _, rfl, _, rfl, (by show 3 ≤ sizeLine; decide), fun z hz => ?_⟩
            refine kk _ _ ((s13.trans s4).trans (same_new hz)) ?_
            rw [e1, fd, e3, sd]
            exact ⟨z, q, v, y, rfl, upd_same, ((hv1.keep s2).keep (s3.trans s4)).keep (same_new hz), ((hy.keep s3).keep s4).keep (same_new hz), same_new hz _ _ hq⟩
        · obtain ⟨s3, e3, v7, v8, rfl⟩ := hp
          rw [lb, List.drop_length] at e3
          rw [show g.second o l' h' [] = none from rfl] at e3
          rw [e3] at fd
          exact ⟨s12.trans s3, e1.trans fd, _, _, _, _, _, rfl⟩
      · rw [if_neg (fun y => c (of_decide_eq_true y))]
        rw [if_neg c] at fd
        exact ⟨s12, e1.trans fd, _, _, _, _, _, rfl⟩
    · obtain ⟨s1, e1, v4, v5, v6, v7, v8, rfl⟩ := hp
      rw [la, List.drop_length] at e1
      refine kk _ _ s1 ?_
      rw [e1]
      rfl
theorem scFirstB : FnScope ["self", "least", "found"] ["self"] (defScope sGrip_first_break) := ⟨rfl, rfl, rfl, by decide +kernel, rfl, by decide +kernel, by decide +kernel⟩
theorem ok_firstB {f C Ct Cn CW SK ON TW : Addr} {fd : FuncData} (F : Fun K "first_break" "Grip.first_break" sGrip_first_break f fd) (T : GC K C) (Bl : Blt mg) (B : KB K mg SK ON TW) (gN : mg "TurnRule" = some (.ref Cn)) (MT : RK K Ct CW) (MN : RK K Cn CW) (ik : InsK K) (no : PySem.W.kitOne K (.ref Ct) (.ref Cn) = some false) (yes : PySem.W.kitOne K (.ref Cn) (.ref Cn) = some true)
    (M : Mt P w K mg base C "first_of" 5 ["self", "onces", "twices", "ends"] (spFirstOf K C Ct Cn)) (D1 : Df P w K mg base 1 "least_part" ["rule", "weight"] (spPart K)) (D2 : Df P w K mg base 2 "turn_ends" ["rule", "heavy", "turns"] (spTurnE K Cn)) :
    FnOk P w K mg base CX0 6 f fd ["self"] (spFirstB K C Ct Cn) := by
  obtain ⟨f1, fd1, G1, g1, k1, b1⟩ := D1.ex
  obtain ⟨f2, fd2, G2, g2, k2, b2⟩ := D2.ex
  obtain ⟨fm, fdm, mm, Gm, bm⟩ := M
  refine F.ok scFirstB (fun vs H Q E h => ?_) (fun cdv A outer s H vs Q E hr h => ?_)
  · obtain ⟨x, r, row, g, rfl, _⟩ := h
    rfl
  · obtain ⟨x, r, row, g, rfl, ga, ok, kk⟩ := h
    refine ⟨_, (pss_cons (ps_if (pt_not (pt_val (pe_callB call_isi (by rfl) Bl.isi (by decide +kernel) (pa_cons (pe_fld (pv 0) rfl) (pa_cons (pe_glob (v := .ref Cn) rfl gN rfl) pa_nil)))))
      (pss_cons (ps_set (i := 1) scFirstB.nd rfl (.inl rfl) (pe_call G1 (hr.mono (by decide)) (by rfl) g1 k1 b1 .nil pass0 (pa_cons (pe_fld (pv 0) rfl) (pa_cons (pe_fld (pv 0) rfl) pa_nil))))
      (pss_one (ps_ret (pe_meth (pv 0) T.cl mm Gm hr bm .nil pass0 (pa_cons (pe_glob (v := .ref ON) rfl B.gO rfl) (pa_cons (pe_glob (v := .ref TW) rfl B.gT rfl) (pa_cons (pe_tup (pa_cons (pv 1) (pa_cons (pe_op op_sub (pe_fld (pv 0) rfl) (pv 1)) pa_nil))) pa_nil))))))) pss_nil)
    (pss_cons (ps_set (i := 2) scFirstB.nd rfl (.inl rfl) (pe_meth (pv 0) T.cl mm Gm hr bm .nil pass0 (pa_cons (pe_glob (v := .ref ON) rfl B.gO rfl) (pa_cons (pe_tup (pa_cons pe_non pa_nil)) (pa_cons (pe_call G2 (hr.mono (by decide)) (by rfl) g2 k2 b2 .nil pass0 (pa_cons (pe_fld (pv 0) rfl) (pa_cons (pe_fld (pv 0) rfl) (pa_cons pe_int pa_nil)))) pa_nil)))))
    (pss_one (ps_ret (pe_ifExp (pt_cmpR op_notN (pv 2) pe_non (nomark _)) (pv 2) (pe_meth (pv 0) T.cl mm Gm hr bm .nil pass0 (pa_cons (pe_tup (pa_cons pe_non pa_nil)) (pa_cons (pe_glob (v := .ref TW) rfl B.gT rfl) (pa_cons (pe_call G2 (hr.mono (by decide)) (by rfl) g2 k2 b2 .nil pass0 (pa_cons (pe_fld (pv 0) rfl) (pa_cons (pe_fld (pv 0) rfl) (pa_cons pe_int pa_nil)))) pa_nil))))))))), ?_⟩
    have no1 : (gripF r g).lookup ("first_of" : Str) = none := gl0 r g ⟨by decide +kernel, by decide +kernel, by decide +kernel, by decide +kernel, by decide +kernel, by decide +kernel⟩
    have oneN : ∀ (H' : Hp) (u : Addr), BksV K (upd H' u (.tup [.non])) u [none] := fun H' u => ⟨[.non], SqT.of upd_same, rfl, fun i o e => by
      cases i with
      | zero => exact ⟨.non, rfl, by obtain rfl := Option.some.inj e; rfl⟩
      | succ i => cases e⟩
    have ga0 := ga
    obtain ⟨⟨dx, hx⟩, ob, R⟩ := ga
    cases row with
    | tr p q k =>
      obtain ⟨d1, a1, h1, h2⟩ := id ob
      refine ⟨_, rfl, x, C, dx, _, _, rfl, hx, T.cl, T.n1, gl1 r g, _, _, _, _, false, rfl, .own Cn, .base (.ins h1 MT.cl.cl MT.ha ik.hn ik.htk MT.hm), no, false, rfl, iteT ?_⟩
      refine ⟨_, rfl, x, C, dx, _, _, rfl, hx, T.cl, T.n1, gl1 r g, _, rfl, x, C, dx, _, _, rfl, hx, T.cl, T.n3, gl3 r g, r, g.p, g.q, g.k, g.b, rfl, R, ?_⟩
      refine ⟨_, rfl, x, dx, _, rfl, hx, no1, _, rfl, _, rfl, x, C, dx, _, _, rfl, hx, T.cl, T.n3, gl3 r g, _, rfl, _, _, rfl, rfl, (by show 2 ≤ sizeLine; decide), fun t ht => ?_⟩
      have s1 := same_new (o := .tup [.int (partV g.p g.q g.k g.b), .int (g.b - partV g.p g.q g.k g.b)]) ht
      refine ⟨x, r, _, g, ON, TW, _, onces, twices, g.part g.b, g.b - g.part g.b, rfl, ga0.keep s1, B.hO _, B.hT _, ⟨t, rfl, upd_same⟩, fun v' H' s' fv => ?_⟩
      exact kk v' H' (s1.trans s') fv
    | tn p q k t s' r' =>
      obtain ⟨d1, a1, a2, h1, h2, h3⟩ := id ob
      obtain ⟨_, ot⟩ := id ok
      refine ⟨_, rfl, x, C, dx, _, _, rfl, hx, T.cl, T.n1, gl1 r g, _, _, _, _, true, rfl, .own Cn, .base (.ins h1 MN.cl.cl MN.ha ik.hn ik.htk MN.hm), yes, true, rfl, iteF ?_⟩
      refine ⟨_, rfl, x, dx, _, rfl, hx, no1, (by show 1 ≤ sizeLine; decide), fun u hu => ?_⟩
      have s1 := same_new (o := .tup [.non]) hu
      have ou := oneN H u
      have hx1 := s1 _ _ hx
      have R1 := R.keep s1
      have h11 := s1 _ _ h1
      have h31 := s1 _ _ h3
      generalize upd H u (.tup [.non]) = H1 at s1 ou hx1 R1 h11 h31 ⊢
      refine ⟨_, rfl, x, C, dx, _, _, rfl, hx1, T.cl, T.n1, gl1 r g, _, rfl, x, C, dx, _, _, rfl, hx1, T.cl, T.n3, gl3 r g, r, g.p, g.q, g.k, t, s', r', g.b, 1, k, d1, a1, a2, rfl, R1, h11, h31, ot.1, ot.2.1, .inl rfl, fun v2 H2 s2 pv2 => ?_⟩
      have s12 := s1.trans s2
      rw [if_pos rfl, if_pos rfl] at pv2
      refine ⟨x, r, _, g, ON, u, v2, onces, [none], g.part g.b, _, rfl, ga0.keep s12, B.hO _, ou.keep s2, pv2, fun v3 H3 s3 fv => ?_⟩
      have s13 := s12.trans s3
      refine ⟨_, rfl, rfl, _, rfl, ?_⟩
      cases ef : g.first [none] (g.part g.b) (if g.b - partV g.p g.q g.k g.b < mostV t s' r' g.b then g.b - partV g.p g.q g.k g.b else mostV t s' r' g.b) onces with
      | some res =>
        rw [ef] at fv
        have fv0 := fv
        obtain ⟨o, tt, ns⟩ := res
        obtain ⟨za, zb, z1, z2, rfl, _⟩ := fv
        rw [decide_eq_false (by intro z; cases z)]
        refine iteT ⟨_, rfl, kk _ _ s13 ?_⟩
        have : (Row.tn p q k t s' r').brk g = some (o, tt, ns) := by
          show (match g.first [none] (g.part g.b) (if g.b - g.part g.b < mostV t s' r' g.b then g.b - g.part g.b else mostV t s' r' g.b) onces with
            | some x => some x
            | none => _) = _
          rw [show g.first [none] (g.part g.b) (if g.b - g.part g.b < mostV t s' r' g.b then g.b - g.part g.b else mostV t s' r' g.b) onces = some (o, tt, ns) from ef]
        rw [this]
        exact fv0
      | none =>
        rw [ef] at fv
        rw [show v3 = .non from fv]
        refine iteF ?_
        have hx3 := s13 _ _ hx
        refine ⟨_, rfl, x, dx, _, rfl, hx3, no1, (by show 1 ≤ sizeLine; decide), fun u4 hu4 => ?_⟩
        have s34 := same_new (o := .tup [.non]) hu4
        have s4 := s13.trans s34
        have ou4 := oneN H3 u4
        have hx4 := s4 _ _ hx
        have R4 := R.keep s4
        have h14 := s4 _ _ h1
        have h34 := s4 _ _ h3
        generalize upd H3 u4 (.tup [.non]) = H4 at s4 ou4 hx4 R4 h14 h34 ⊢
        refine ⟨_, rfl, x, C, dx, _, _, rfl, hx4, T.cl, T.n1, gl1 r g, _, rfl, x, C, dx, _, _, rfl, hx4, T.cl, T.n3, gl3 r g, r, g.p, g.q, g.k, t, s', r', g.b, 2, k, d1, a1, a2, rfl, R4, h14, h34, ot.1, ot.2.1, .inr rfl, fun v5 H5 s5 pv5 => ?_⟩
        have s15 := s4.trans s5
        rw [if_neg (show ¬ ((2 : Int) = 1) by decide), if_neg (show ¬ ((2 : Int) = 1) by decide)] at pv5
        refine ⟨x, r, _, g, u4, TW, v5, [none], twices, _, _, rfl, ga0.keep s15, ou4.keep s5, B.hT _, pv5, fun v6 H6 s6 fv6 => ?_⟩
        refine kk _ _ (s15.trans s6) ?_
        have : (Row.tn p q k t s' r').brk g = g.first twices (if partV g.p g.q g.k g.b > mostV t s' r' g.b then partV g.p g.q g.k g.b else mostV t s' r' g.b + 1) (g.b - partV g.p g.q g.k g.b) [none] := by
          show (match g.first [none] (g.part g.b) (if g.b - g.part g.b < mostV t s' r' g.b then g.b - g.part g.b else mostV t s' r' g.b) onces with
            | some x => some x
            | none => _) = _
          rw [show g.first [none] (g.part g.b) (if g.b - g.part g.b < mostV t s' r' g.b then g.b - g.part g.b else mostV t s' r' g.b) onces = none from ef]
          rfl
        rw [this]
        exact fv6
end
end Ev
namespace Ev
open PySem L2 PySem.Spec PyProof.Rows RZ
theorem SqT.but {K : PySem.W.Frag} {H H' : Hp} {a x : Addr} {xs : List V} {C dx : Addr} {fs : List (Str × V)} (h : SqT K H a xs) (hx : H x = some (.ins C dx fs)) (s : But x H H') : SqT K H' a xs := by
  rcases h with (h | ⟨o, h⟩) | h
  · exact .inl (.inl (s _ _ (ne_of h hx (by intro z; cases z)) h))
  · exact .inl (.inr ⟨o, s _ _ (ne_of h hx (by intro z; cases z)) h⟩)
  · exact .inr h
theorem PL.but {K : PySem.W.Frag} {H H' : Hp} {v : V} {x C dx : Addr} {fs : List (Str × V)} (h : PL K H v) (hx : H x = some (.ins C dx fs)) (s : But x H H') : PL K H' v := by
  rcases h with h | ⟨a, xs, e, h, f⟩
  · exact .inl h
  · exact .inr ⟨a, xs, e, SqT.but h hx s, f⟩
structure WC (K : PySem.W.Frag) (C : Addr) : Prop where
  cl : Cls K C
  n1 : NoAttr K C "deed"
  n2 : NoAttr K C "once"
  n3 : NoAttr K C "twice"
  n4 : NoAttr K C "numbers"
def wrongF (a b c d : V) : List (Str × V) := [("deed", a), ("once", b), ("twice", c), ("numbers", d)]
def caseF (a b c : V) : List (Str × V) := [("deed", a), ("once", b), ("twice", c)]
section
variable (a b c d : V)
theorem wl1 : (wrongF a b c d).lookup ("deed" : Str) = some a := lk_hit
theorem wl2 : (wrongF a b c d).lookup ("once" : Str) = some b := (lk_miss (by decide +kernel)).trans lk_hit
theorem wl3 : (wrongF a b c d).lookup ("twice" : Str) = some c := (lk_miss (by decide +kernel)).trans ((lk_miss (by decide +kernel)).trans lk_hit)
theorem wl4 : (wrongF a b c d).lookup ("numbers" : Str) = some d := (lk_miss (by decide +kernel)).trans ((lk_miss (by decide +kernel)).trans ((lk_miss (by decide +kernel)).trans lk_hit))
theorem cl1 : (caseF a b c).lookup ("deed" : Str) = some a := lk_hit
theorem cl2 : (caseF a b c).lookup ("once" : Str) = some b := (lk_miss (by decide +kernel)).trans lk_hit
theorem cl3 : (caseF a b c).lookup ("twice" : Str) = some c := (lk_miss (by decide +kernel)).trans ((lk_miss (by decide +kernel)).trans lk_hit)
end
theorem wp1 {a : V} : putF "deed" a [] = ([("deed", a)] : List (Str × V)) := rfl
theorem wp2 {a b : V} : putF "once" b [("deed", a)] = ([("deed", a), ("once", b)] : List (Str × V)) := put_new (by intro e0 he; simp only [List.mem_cons, List.not_mem_nil, or_false] at he; subst he; dsimp only; decide +kernel)
theorem wp3 {a b c : V} : putF "twice" c [("deed", a), ("once", b)] = ([("deed", a), ("once", b), ("twice", c)] : List (Str × V)) := put_new (by intro e0 he; simp only [List.mem_cons, List.not_mem_nil, or_false] at he; rcases he with he | he <;> subst he <;> dsimp only <;> decide +kernel)
theorem wp4 {a b c d : V} : putF "numbers" d [("deed", a), ("once", b), ("twice", c)] = ([("deed", a), ("once", b), ("twice", c), ("numbers", d)] : List (Str × V)) := put_new (by intro e0 he; simp only [List.mem_cons, List.not_mem_nil, or_false] at he; rcases he with he | he | he <;> subst he <;> dsimp only <;> decide +kernel)
def spWrongI (K : PySem.W.Frag) (C : Addr) : Sp := fun vs H Q _ => ∃ (x dx : Addr) (a b c d : V), vs = [.ref x, a, b, c, d] ∧ H x = some (.ins C dx []) ∧ PL K H a ∧ PL K H b ∧ PL K H c ∧ PL K H d ∧ ∀ H', But x H H' → H' x = some (.ins C dx (wrongF a b c d)) → Q .non H'
def spCaseI (K : PySem.W.Frag) (C : Addr) : Sp := fun vs H Q _ => ∃ (x dx : Addr) (a b c : V), vs = [.ref x, a, b, c] ∧ H x = some (.ins C dx []) ∧ PL K H a ∧ PL K H b ∧ PL K H c ∧ ∀ H', But x H H' → H' x = some (.ins C dx (caseF a b c)) → Q .non H'
/-- what breaks tells -/
def WrV (K : PySem.W.Frag) (W : Addr) (H : Hp) (v : V) (put : Bool) : Option (Option Bk × Option Bk × List Int) → Prop
  | none => v = .non
  | some (o, t, ns) => ∃ (x dx b : Addr) (v1 v2 : V), v = .ref x ∧ H x = some (.ins W dx (wrongF (.str (deedS put)) v1 v2 (.ref b))) ∧ BkV K H v1 o ∧ BkV K H v2 t ∧ H b = some (.tup (ns.map V.int))
theorem WrV.keep {K : PySem.W.Frag} {W : Addr} {H H' : Hp} {v : V} {put : Bool} {o : Option (Option Bk × Option Bk × List Int)} (h : WrV K W H v put o) (s : Same H H') : WrV K W H' v put o := by
  cases o with
  | none => exact h
  | some o =>
    obtain ⟨o, t, ns⟩ := o
    obtain ⟨x, dx, b, v1, v2, e, h1, h2, h3, h4⟩ := h
    exact ⟨x, dx, b, v1, v2, e, s _ _ h1, h2.keep s, h3.keep s, s _ _ h4⟩
def Row.told (row : Row) (put : Bool) (a b : Int) : Option (Option Bk × Option Bk × List Int) :=
  if topV row.p row.q row.k a ≤ b ∧ b ≤ heavyHi row.p row.q row.k a put then row.brk ⟨row.p, row.q, row.k, a, b⟩ else none
def spBreaks (K : PySem.W.Frag) (W Ct Cn : Addr) : Sp := fun vs H Q _ => ∃ (r : Addr) (row : Row) (put : Bool) (a b : Int), vs = [.ref r, .str (deedS put), .int a, .int b] ∧ ObjAt Ct Cn H r row ∧ row.ok ∧ (1 ≤ a ∧ a ≤ 1000000000000) ∧ (1 ≤ b ∧ b ≤ 1000000000000) ∧
  ∀ v H', Same H H' → WrV K W H' v put (row.told put a b) → Q v H'
def spIsDeed : Sp := fun vs H Q _ => ∃ put : Bool, vs = [.str (deedS put)] ∧ Q (.bl true) H
section
variable {P : Program} {w : World} {K : PySem.W.Frag} {mg : Str → Option Value} {base : Heap}
theorem scWrongI : FnScope ["self", "deed", "once", "twice", "numbers"] ["self", "deed", "once", "twice", "numbers"] (defScope sWrong_init) := ⟨rfl, rfl, rfl, by decide +kernel, rfl, by decide +kernel, by decide +kernel⟩
theorem ok_wrongI {f C : Addr} {fd : FuncData} (F : Fun K "__init__" "Wrong.__init__" sWrong_init f fd) (T : WC K C) (D : Df P w K mg base 2 "kept" ["value"] (spKeptT K)) : FnOk P w K mg base CX0 3 f fd ["self", "deed", "once", "twice", "numbers"] (spWrongI K C) := by
  obtain ⟨f1, fd1, G1, g1, k1, b1⟩ := D.ex
  refine F.ok scWrongI (fun vs H Q E h => ?_) (fun cdv A outer s H vs Q E hr h => ?_)
  · obtain ⟨x, dx, a, b, c, d, rfl, _⟩ := h
    rfl
  · obtain ⟨x, dx, a, b, c, d, rfl, hx, pa, pb, pc, pd, kk⟩ := h
    refine ⟨_, (pss_cons (ps_fld (pv 0) (pe_call G1 hr (by rfl) g1 k1 b1 .nil pass0 (pa_cons (pv 1) pa_nil)) rfl)
    (pss_cons (ps_fld (pv 0) (pe_call G1 hr (by rfl) g1 k1 b1 .nil pass0 (pa_cons (pv 2) pa_nil)) rfl)
    (pss_cons (ps_fld (pv 0) (pe_call G1 hr (by rfl) g1 k1 b1 .nil pass0 (pa_cons (pv 3) pa_nil)) rfl)
    (pss_one (ps_fld (pv 0) (pe_call G1 hr (by rfl) g1 k1 b1 .nil pass0 (pa_cons (pv 4) pa_nil)) rfl))))), ?_⟩
    refine ⟨_, rfl, a, rfl, pa, fun H1 s1 => ⟨_, rfl, x, C, dx, _, rfl, s1 _ _ hx, T.cl, T.n1, (by show 0 < 1000; decide), ?_⟩⟩
    rw [wp1]
    have x1 : upd H1 x (.ins C dx [("deed", a)]) x = some (.ins C dx [("deed", a)]) := upd_same
    have t1 : But x H (upd H1 x (.ins C dx [("deed", a)])) := (Same.but s1).trans But.upd_at
    generalize upd H1 x (.ins C dx [("deed", a)]) = G1 at x1 t1 ⊢
    refine ⟨_, rfl, b, rfl, pb.but hx t1, fun H2 s2 => ⟨_, rfl, x, C, dx, _, rfl, s2 _ _ x1, T.cl, T.n2, (by show 1 < 1000; decide), ?_⟩⟩
    rw [wp2]
    have x2 : upd H2 x (.ins C dx [("deed", a), ("once", b)]) x = some (.ins C dx [("deed", a), ("once", b)]) := upd_same
    have t2 : But x H (upd H2 x (.ins C dx [("deed", a), ("once", b)])) := t1.trans ((Same.but s2).trans But.upd_at)
    generalize upd H2 x (.ins C dx [("deed", a), ("once", b)]) = G2 at x2 t2 ⊢
    refine ⟨_, rfl, c, rfl, pc.but hx t2, fun H3 s3 => ⟨_, rfl, x, C, dx, _, rfl, s3 _ _ x2, T.cl, T.n3, (by show 2 < 1000; decide), ?_⟩⟩
    rw [wp3]
    have x3 : upd H3 x (.ins C dx [("deed", a), ("once", b), ("twice", c)]) x = some (.ins C dx [("deed", a), ("once", b), ("twice", c)]) := upd_same
    have t3 : But x H (upd H3 x (.ins C dx [("deed", a), ("once", b), ("twice", c)])) := t2.trans ((Same.but s3).trans But.upd_at)
    generalize upd H3 x (.ins C dx [("deed", a), ("once", b), ("twice", c)]) = G3 at x3 t3 ⊢
    refine ⟨_, rfl, d, rfl, pd.but hx t3, fun H4 s4 => ⟨_, rfl, x, C, dx, _, rfl, s4 _ _ x3, T.cl, T.n4, (by show 3 < 1000; decide), ?_⟩⟩
    rw [wp4]
    exact kk _ (t3.trans ((Same.but s4).trans But.upd_at)) upd_same
theorem scIsDeed : FnScope ["value"] ["value"] (defScope sIsDeed) := ⟨rfl, rfl, rfl, by decide +kernel, rfl, by decide +kernel, by decide +kernel⟩
theorem ok_isDeed {f DE : Addr} {fd : FuncData} (F : Fun K "is_deed" "is_deed" sIsDeed f fd) (gD : mg "DEEDS" = some (.ref DE)) (hD : ∀ H, SqT K H DE [.str "put", .str "take"]) : FnOk P w K mg base CX0 1 f fd ["value"] spIsDeed := by
  refine F.ok scIsDeed (fun vs H Q E h => ?_) (fun cdv A outer s H vs Q E hr h => ?_)
  · obtain ⟨put, rfl, _⟩ := h
    rfl
  · obtain ⟨put, rfl, k⟩ := h
    refine ⟨_, (pss_one (ps_ret (pe_cmpR op_in_seq (pv 0) (pe_glob (v := .ref DE) rfl gD rfl) (by rfl)))), ?_⟩
    refine ⟨_, rfl, DE, _, rfl, .inr (hD H), rfl, rfl, ?_⟩
    cases put with
    | true =>
      rw [show (if false = true then !inV (.str (deedS true)) [.str "put", .str "take"] else inV (.str (deedS true)) [.str "put", .str "take"]) = true by decide +kernel]
      exact k
    | false =>
      rw [show (if false = true then !inV (.str (deedS false)) [.str "put", .str "take"] else inV (.str (deedS false)) [.str "put", .str "take"]) = true by decide +kernel]
      exact k
end
end Ev
namespace Ev
open PySem L2 PySem.Spec PyProof.Rows RZ
/-- a class whose things are made -/
def Mak (P : Program) (w : World) (K : PySem.W.Frag) (mg : Str → Option Value) (base : Heap) (C : Addr) (name : Str) (k : Nat) (ps : List Str) (sp : Sp) : Prop := mg name = some (.ref C) ∧ ∃ (f : Addr) (fd : FuncData), Mk K C f ∧ FnOk P w K mg base CX0 k f fd ps sp ∧ Binds K fd ps []
theorem FoV.isN {K : PySem.W.Frag} {H : Hp} {v : V} {o : Option (Option Bk × Option Bk × List Int)} (h : FoV K H v o) : decide (v = .non) = o.isNone := by
  cases o with
  | none => rw [show v = .non from h]; rfl
  | some b =>
    obtain ⟨o, t, ns⟩ := b
    obtain ⟨a, b, v1, v2, rfl, _⟩ := h
    rw [decide_eq_false (by intro z; cases z)]; rfl
theorem ObjAt.ins {Ct Cn : Addr} {H : Hp} {r : Addr} {row : Row} (h : ObjAt Ct Cn H r row) : ∃ C dx fs, H r = some (.ins C dx fs) := by
  cases row with
  | tr p q k =>
    obtain ⟨dx, a, h1, h2⟩ := h
    exact ⟨_, _, _, h1⟩
  | tn p q k t s c =>
    obtain ⟨dx, a, b, h1, h2, h3⟩ := h
    exact ⟨_, _, _, h1⟩
section
variable {P : Program} {w : World} {K : PySem.W.Frag} {mg : Str → Option Value} {base : Heap}
theorem scBreaks : FnScope ["rule", "deed", "light", "heavy", "weight", "least", "most", "found", "once", "twice", "numbers"] ["rule", "deed", "light", "heavy"] (defScope sBreaks) := ⟨rfl, rfl, rfl, by decide +kernel, rfl, by decide +kernel, by decide +kernel⟩
theorem ok_breaks {f C W Ct Cn : Addr} {fd : FuncData} (F : Fun K "breaks" "breaks" sBreaks f fd) (T : GC K C) (TW : WC K W) (RT : RCls K Ct) (RN : RCls K Cn) {t0 : Tok} (gA : mg "MOST_ASKED" = some (.int (10 ^ 12) t0))
    (MG : Mak P w K mg base C "Grip" 2 ["self", "rule", "light", "heavy"] (spGripI K C Ct Cn)) (MW : Mak P w K mg base W "Wrong" 3 ["self", "deed", "once", "twice", "numbers"] (spWrongI K W)) (MF : Mt P w K mg base C "first_break" 6 ["self"] (spFirstB K C Ct Cn))
    (D1 : Df P w K mg base 1 "need_rule" ["value"] (spNeedR Ct Cn)) (D2 : Df P w K mg base 1 "is_deed" ["value"] spIsDeed) (D3 : Df P w K mg base 2 "is_within" ["value", "least", "most"] spWithin) (D4 : Df P w K mg base 2 "heavy_ends" ["rule", "deed", "light"] (spHeavy K)) :
    FnOk P w K mg base CX0 7 f fd ["rule", "deed", "light", "heavy"] (spBreaks K W Ct Cn) := by
  obtain ⟨f1, fd1, G1, g1, k1, b1⟩ := D1.ex
  obtain ⟨f2, fd2, G2, g2, k2, b2⟩ := D2.ex
  obtain ⟨f3, fd3, G3, g3, k3, b3⟩ := D3.ex
  obtain ⟨f4, fd4, G4, g4, k4, b4⟩ := D4.ex
  obtain ⟨gG, fg, fdg, mG, GG, bG⟩ := MG
  obtain ⟨gW, fw, fdw, mW, GW, bW⟩ := MW
  obtain ⟨fm, fdm, mm, Gm, bm⟩ := MF
  refine F.ok scBreaks (fun vs H Q E h => ?_) (fun cdv A outer s H vs Q E hr h => ?_)
  · obtain ⟨r, row, put, a, b, rfl, _⟩ := h
    rfl
  · obtain ⟨r, row, put, a, b, rfl, ob, ok, ha, hb, kk⟩ := h
    refine ⟨_, (pss_cons (ps_expr (pe_call G1 (hr.mono (by decide)) (by rfl) g1 k1 b1 .nil pass0 (pa_cons (pv 0) pa_nil)))
    (pss_cons (ps_if (pt_not (pt_val (pe_call G2 (hr.mono (by decide)) (by rfl) g2 k2 b2 .nil pass0 (pa_cons (pv 1) pa_nil))))
      (pss_one ps_never) pss_nil)
    (pss_cons (ps_for PassesOwn.never rfl (pi_tup (pe_tup (pa_cons (pv 2) (pa_cons (pv 3) pa_nil)))) (pg_name (i := 4) scBreaks.nd rfl (.inl rfl))
      (pss_one (ps_if (pt_not (pt_val (pe_call G3 (hr.mono (by decide)) (by rfl) g3 k3 b3 .nil pass0 (pa_cons (pv 4) (pa_cons pe_int (pa_cons (pe_glob (v := .int (10 ^ 12)) rfl gA ⟨_, rfl⟩) pa_nil))))))
        (pss_one ps_never) pss_nil)))
    (pss_cons (ps_asg (pe_call G4 (hr.mono (by decide)) (by rfl) g4 k4 b4 .nil pass0 (pa_cons (pv 0) (pa_cons (pv 1) (pa_cons (pv 2) pa_nil)))) (pg_tup (by rfl) (pgs_cons (pg_name (i := 5) scBreaks.nd rfl (.inl rfl)) (pgs_cons (pg_name (i := 6) scBreaks.nd rfl (.inl rfl)) pgs_nil))))
    (pss_cons (ps_set (i := 7) scBreaks.nd rfl (.inl rfl) (pe_ifExp (pt_chain op_le op_le (pv 5) (pv 3) (pv 6)) (pe_meth0 (pe_make mG GG (hr.mono (by decide)) (by rfl) gG bG .nil pass0 (pa_cons (pv 0) (pa_cons (pv 2) (pa_cons (pv 3) pa_nil)))) T.cl mm Gm hr bm .nil pass0) pe_non))
    (pss_cons (ps_if (pt_cmpR op_isN (pv 7) pe_non (nomark _))
      (pss_one (ps_ret pe_non)) pss_nil)
    (pss_cons (ps_asg (pv 7) (pg_tup (by rfl) (pgs_cons (pg_name (i := 8) scBreaks.nd rfl (.inl rfl)) (pgs_cons (pg_name (i := 9) scBreaks.nd rfl (.inl rfl)) (pgs_cons (pg_name (i := 10) scBreaks.nd rfl (.inl rfl)) pgs_nil)))))
    (pss_one (ps_ret (pe_make mW GW (hr.mono (by decide)) (by rfl) gW bW .nil pass0 (pa_cons (pv 1) (pa_cons (pv 8) (pa_cons (pv 9) (pa_cons (pv 10) pa_nil)))))))))))))), ?_⟩
    refine ⟨_, rfl, r, row, rfl, ob, ?_⟩
    refine ⟨_, rfl, put, rfl, true, rfl, iteF ?_⟩
    refine ⟨_, rfl, _, rfl, (by show 2 ≤ sizeLine; decide), fun t ht => ?_⟩
    have st := same_new (o := .tup [.int a, .int b]) ht
    have hT : SqT K (upd H t (.tup [.int a, .int b])) t [.int a, .int b] := SqT.of upd_same
    generalize upd H t (.tup [.int a, .int b]) = H1 at st hT ⊢
    refine ⟨t, rfl, ⟨_, hT⟩, ?_⟩
    refine for_tup (xs := [.int a, .int b]) (fun i σ G => G = H1 ∧ ∃ v4, σ = [some (.ref r), some (.str (deedS put)), some (.int a), some (.int b), v4, none, none, none, none, none, none]) ⟨rfl, _, rfl⟩ (fun i σ G _ h => by rw [h.1]; exact hT) (fun i v σ G hi hp => ?_) (fun σ G hp => ?_)
    · obtain ⟨rfl, v4, rfl⟩ := hp
      obtain ⟨n, rfl, n1, n2⟩ : ∃ n : Int, v = .int n ∧ 1 ≤ n ∧ n ≤ 10 ^ 12 := by
        match i, hi with
        | 0, hi => exact ⟨a, (Option.some.inj hi).symm, ha.1, Int.le_trans ha.2 (by decide)⟩
        | 1, hi => exact ⟨b, (Option.some.inj hi).symm, hb.1, Int.le_trans hb.2 (by decide)⟩
        | _ + 2, hi => cases hi
      exact ⟨_, rfl, _, _, _, rfl, n1, n2, true, rfl, iteF ⟨rfl, _, rfl⟩⟩
    · obtain ⟨rfl, v4, rfl⟩ := hp
      have ob1 := ob.keep st
      have R1 := ob1.rb RT RN ok
      refine ⟨_, rfl, _, rfl, _, rfl, r, row.p, row.q, row.k, a, put, rfl, R1, fun v2 H2 s2 pv2 => ?_⟩
      obtain ⟨tt, rfl, htt⟩ := pv2
      refine ⟨tt, _, rfl, SqT.of htt, rfl, _, _, rfl, _, _, rfl, rfl, ?_⟩
      have s02 := st.trans s2
      refine ⟨_, rfl, _, rfl, _, _, rfl, rfl, _, rfl, ?_⟩
      show (if decide (topV row.p row.q row.k a ≤ b) = true then _ else _)
      by_cases c1 : topV row.p row.q row.k a ≤ b
      · rw [if_pos (decide_eq_true c1)]
        refine ⟨_, rfl, _, _, rfl, rfl, _, rfl, ?_⟩
        show (if decide (b ≤ heavyHi row.p row.q row.k a put) = true then _ else _)
        by_cases c2 : b ≤ heavyHi row.p row.q row.k a put
        · rw [if_pos (decide_eq_true c2)]
          have et : row.told put a b = row.brk ⟨row.p, row.q, row.k, a, b⟩ := if_pos ⟨c1, c2⟩
          rw [et] at kk
          refine ⟨_, rfl, _, rfl, _, rfl, fun x dx nx ndx nex => ?_⟩
          have keep : ∀ (o1 o2 : HO), Same H2 (upd (upd H2 dx o1) x o2) := fun o1 o2 b u e => by
            rw [upd_ne (ne_of_none e nx), upd_ne (ne_of_none e ndx)]; exact e
          have ob3 := (ob.keep s02).keep (keep (.own x) (.ins C dx []))
          obtain ⟨C', dx', fs, hro⟩ := (ob.keep s02).ins
          have xr : x ≠ r := fun z => by rw [z, hro] at nx; cases nx
          refine ⟨x, dx, r, row, ⟨row.p, row.q, row.k, a, b⟩, rfl, upd_same, xr, ob3, ob3.rb RT RN ok, fun H3 t3 hx3 => ⟨rfl, ?_⟩⟩
          obtain ⟨dx3, hx3⟩ := hx3
          have s23 : Same H2 H3 := fun b u e => t3 _ _ (ne_of_none e nx) (keep _ _ _ _ e)
          have s03 := s02.trans s23
          have ob4 := ob.keep s03
          refine ⟨x, dx3, _, rfl, hx3, gl0 r _ ⟨by decide +kernel, by decide +kernel, by decide +kernel, by decide +kernel, by decide +kernel, by decide +kernel⟩, x, r, row, ⟨row.p, row.q, row.k, a, b⟩, rfl, ⟨⟨dx3, hx3⟩, ob4, ob4.rb RT RN ok⟩, ok, fun v4 H4 s4 fv => ?_⟩
          have s04 := s03.trans s4
          refine ⟨_, rfl, rfl, _, rfl, ?_⟩
          rw [fv.isN]
          cases er : row.brk ⟨row.p, row.q, row.k, a, b⟩ with
          | none =>
            rw [er] at kk
            exact iteT (kk _ _ s04 rfl)
          | some res =>
            rw [er] at kk fv
            obtain ⟨o, t', ns⟩ := res
            obtain ⟨za, zb, z1, z2, rfl, hz, q1, q2, hzb⟩ := fv
            refine iteF ⟨_, rfl, za, _, rfl, SqT.of hz, rfl, _, _, rfl, _, _, rfl, _, _, rfl, rfl, ?_⟩
            refine ⟨_, rfl, _, rfl, _, rfl, _, rfl, fun y dy ny ndy ney => ?_⟩
            have keep2 : ∀ (o1 o2 : HO), Same H4 (upd (upd H4 dy o1) y o2) := fun o1 o2 b u e => by
              rw [upd_ne (ne_of_none e ny), upd_ne (ne_of_none e ndy)]; exact e
            have kp := keep2 (.own y) (.ins W dy [])
            refine ⟨y, dy, _, _, _, _, rfl, upd_same, .inl ⟨_, flat_str _⟩, (q1.keep kp).pl, (q2.keep kp).pl, .inr ⟨zb, _, rfl, SqT.of (kp _ _ hzb), fun u hu => ?_⟩, fun H5 t5 hy5 => ⟨rfl, ?_⟩⟩
            · obtain ⟨n, _, rfl⟩ := List.mem_map.mp hu
              exact ⟨_, flat_int n⟩
            · have s45 : Same H4 H5 := fun b u e => t5 _ _ (ne_of_none e ny) (kp _ _ e)
              exact kk _ _ (s04.trans s45) ⟨y, dy, zb, z1, z2, rfl, hy5, q1.keep s45, q2.keep s45, s45 _ _ hzb⟩
        · rw [if_neg (fun y => c2 (of_decide_eq_true y))]
          have et : row.told put a b = none := if_neg fun z => c2 z.2
          rw [et] at kk
          exact ⟨_, rfl, rfl, _, rfl, iteT (kk _ _ s02 rfl)⟩
      · rw [if_neg (fun y => c1 (of_decide_eq_true y))]
        have et : row.told put a b = none := if_neg fun z => c1 z.1
        rw [et] at kk
        exact ⟨_, rfl, _, rfl, rfl, _, rfl, iteT (kk _ _ s02 rfl)⟩
end
end Ev
namespace Ev
open PySem L2 PySem.Spec PyProof.Rows RZ
def Row.hv (row : Row) (x y : Int) : Bool := decide (row.p * y + row.k < row.q * x)
theorem Row.hv_eq {row : Row} {a b x y : Int} : (⟨row.p, row.q, row.k, a, b⟩ : Gp).hv x y = row.hv x y := rfl
/-- the row of a rule's numbers -/
def RwAt (H : Hp) (l : Addr) (row : Row) : Prop := H l = some (.tup row.vs)
def spHv : Sp := fun vs H Q _ => ∃ (l : Addr) (row : Row) (x y : Int), vs = [.ref l, .int x, .int y] ∧ RwAt H l row ∧ row.ok ∧ Q (.bl (row.hv x y)) H
def spEven : Sp := fun vs H Q _ => ∃ (l : Addr) (row : Row) (x y : Int), vs = [.ref l, .int x, .int y] ∧ RwAt H l row ∧ row.ok ∧ Q (.bl (!row.hv x y && !row.hv y x)) H
theorem Row.vs0 (row : Row) : atI row.vs 0 = some (.int row.p) ∧ atI row.vs 1 = some (.int row.q) ∧ atI row.vs 2 = some (.int row.k) := by
  cases row <;> exact ⟨atI_nat (j := 0) rfl, atI_nat (j := 1) rfl, atI_nat (j := 2) rfl⟩
section
variable {P : Program} {w : World} {K : PySem.W.Frag} {mg : Str → Option Value} {base : Heap}
theorem scLIsHeavy : FnScope ["_law_some", "_law_heavier", "_law_lighter"] ["_law_some", "_law_heavier", "_law_lighter"] (defScope sLIsHeavy) := ⟨rfl, rfl, rfl, by decide +kernel, rfl, by decide +kernel, by decide +kernel⟩
theorem ok_hv {f : Addr} {fd : FuncData} (F : Fun K "_law_is_heavy" "_law_is_heavy" sLIsHeavy f fd) : FnOk P w K mg base CX0 1 f fd ["_law_some", "_law_heavier", "_law_lighter"] spHv := by
  refine F.ok scLIsHeavy (fun vs H Q E h => ?_) (fun cdv A outer s H vs Q E hr h => ?_)
  · obtain ⟨l, row, x, y, rfl, _⟩ := h
    rfl
  · obtain ⟨l, row, x, y, rfl, hl, ok, kk⟩ := h
    obtain ⟨o1, o2, o3, o4, o5, o6⟩ := Row.okN ok
    have q6 := m64 o1 (show row.q ≤ 8 by omega)
    have p6 := m64 (show 1 ≤ row.p by omega) (show row.p ≤ 8 by omega)
    obtain ⟨i0, i1, i2⟩ := row.vs0
    refine ⟨_, (pss_one (ps_ret (pe_cmpR op_gt (pe_op op_mul (pe_ix ix_tup (pv 0) pe_int (fun _ _ => rfl)) (pv 1)) (pe_op op_add (pe_op op_mul (pe_ix ix_tup (pv 0) pe_int (fun _ _ => rfl)) (pv 2)) (pe_ix ix_tup (pv 0) pe_int (fun _ _ => rfl))) (nomark _)))), ?_⟩
    refine ⟨_, rfl, l, _, _, _, rfl, rfl, SqT.of hl, i1, _, rfl, _, _, rfl, rfl, .inl q6, _, rfl, l, _, _, _, rfl, rfl, SqT.of hl, i0, _, rfl, _, _, rfl, rfl, .inl p6, _, rfl, l, _, _, _, rfl, rfl, SqT.of hl, i2, _, _, rfl, rfl, _, _, rfl, rfl, ?_⟩
    exact kk
theorem scLIsEven : FnScope ["_law_some", "_law_one", "_law_other"] ["_law_some", "_law_one", "_law_other"] (defScope sLIsEven) := ⟨rfl, rfl, rfl, by decide +kernel, rfl, by decide +kernel, by decide +kernel⟩
theorem ok_even {f : Addr} {fd : FuncData} (F : Fun K "_law_is_even" "_law_is_even" sLIsEven f fd) (D : Df P w K mg base 1 "_law_is_heavy" ["_law_some", "_law_heavier", "_law_lighter"] spHv) : FnOk P w K mg base CX0 2 f fd ["_law_some", "_law_one", "_law_other"] spEven := by
  obtain ⟨f1, fd1, G1, g1, k1, b1⟩ := D.ex
  refine F.ok scLIsEven (fun vs H Q E h => ?_) (fun cdv A outer s H vs Q E hr h => ?_)
  · obtain ⟨l, row, x, y, rfl, _⟩ := h
    rfl
  · obtain ⟨l, row, x, y, rfl, hl, ok, kk⟩ := h
    refine ⟨_, (pss_one (ps_ret (pe_and (pe_not (pe_call G1 hr (by rfl) g1 k1 b1 .nil pass0 (pa_cons (pv 0) (pa_cons (pv 1) (pa_cons (pv 2) pa_nil))))) (pe_one (pe_not (pe_call G1 hr (by rfl) g1 k1 b1 .nil pass0 (pa_cons (pv 0) (pa_cons (pv 2) (pa_cons (pv 1) pa_nil))))))))), ?_⟩
    refine ⟨_, rfl, _, rfl, _, rfl, l, row, x, y, rfl, hl, ok, _, rfl, ?_⟩
    cases e : row.hv x y with
    | true =>
      rw [e] at kk
      exact ⟨_, rfl, iteF kk⟩
    | false =>
      rw [e] at kk
      exact ⟨_, rfl, iteT ⟨_, rfl, _, rfl, _, rfl, l, row, y, x, rfl, hl, ok, _, rfl, kk⟩⟩
end
end Ev
namespace Ev
open PySem L2 PySem.Spec PyProof.Rows RZ
/-- values that are these breaks, one by one -/
def BkAll (K : PySem.W.Frag) (H : Hp) : List V → List Bk → Prop
  | [], [] => True
  | v :: vs, b :: bs => BkV K H v (some b) ∧ BkAll K H vs bs
  | _, _ => False
theorem BkAll.keep {K : PySem.W.Frag} {H H' : Hp} (s : Same H H') : ∀ {vs : List V} {bs : List Bk}, BkAll K H vs bs → BkAll K H' vs bs
  | [], [], _ => trivial
  | _ :: _, _ :: _, h => ⟨h.1.keep s, BkAll.keep s h.2⟩
  | [], _ :: _, h => h.elim
  | _ :: _, [], h => h.elim
theorem BkAll.app {K : PySem.W.Frag} {H : Hp} : ∀ {vs us : List V} {bs cs : List Bk}, BkAll K H vs bs → BkAll K H us cs → BkAll K H (vs ++ us) (bs ++ cs)
  | [], _, [], _, _, k => k
  | _ :: _, _, _ :: _, _, h, k => ⟨h.1, BkAll.app h.2 k⟩
  | [], _, _ :: _, _, h, _ => h.elim
  | _ :: _, _, [], _, h, _ => h.elim
theorem BkAll.len {K : PySem.W.Frag} {H : Hp} : ∀ {vs : List V} {bs : List Bk}, BkAll K H vs bs → vs.length = bs.length
  | [], [], _ => rfl
  | _ :: _, _ :: _, h => congrArg (· + 1) (BkAll.len h.2)
  | [], _ :: _, h => h.elim
  | _ :: _, [], h => h.elim
theorem BkAll.dp {K : PySem.W.Frag} {H : Hp} : ∀ {vs : List V} {bs : List Bk}, BkAll K H vs bs → DpAll K H vs (bs.map fun b => bkD (some b))
  | [], [], _ => .nil
  | _ :: _, _ :: _, h => .cons h.1.dp (BkAll.dp h.2)
  | [], _ :: _, h => h.elim
  | _ :: _, [], h => h.elim
/-- a list of breaks -/
def BkL (K : PySem.W.Frag) (H : Hp) (v : V) (bs : List Bk) : Prop := ∃ (l : Addr) (vs : List V), v = .ref l ∧ H l = some (.lst vs) ∧ BkAll K H vs bs
theorem BkL.keep {K : PySem.W.Frag} {H H' : Hp} {v : V} {bs : List Bk} (h : BkL K H v bs) (s : Same H H') : BkL K H' v bs := by
  obtain ⟨l, vs, e, h1, h2⟩ := h
  exact ⟨l, vs, e, s _ _ h1, h2.keep s⟩
/-- rows that are looked at: both breaks of a node, and the weights of its sides -/
abbrev Rb := Bk × Bk × Int × Int
def Row.found (row : Row) (rs : List Rb) : List Bk := rs.flatMap fun r => ifB (row.hv r.2.2.1 r.2.2.2) r.1 ++ ifB (row.hv r.2.2.2 r.2.2.1) r.2.1
theorem ifB_len (b : Bool) (x : Bk) : (ifB b x).length ≤ 1 := by cases b <;> simp [ifB]
theorem Row.found_len (row : Row) : ∀ rs : List Rb, (row.found rs).length ≤ 2 * rs.length
  | [] => Nat.le_refl _
  | r :: rs => by
    have h1 := Row.found_len row rs
    have h2 := ifB_len (row.hv r.2.2.1 r.2.2.2) r.1
    have h3 := ifB_len (row.hv r.2.2.2 r.2.2.1) r.2.1
    have e : row.found (r :: rs) = (ifB (row.hv r.2.2.1 r.2.2.2) r.1 ++ ifB (row.hv r.2.2.2 r.2.2.1) r.2.1) ++ row.found rs := rfl
    rw [e, List.length_append, List.length_append, List.length_cons]
    omega
theorem Row.found_snoc {row : Row} {rs : List Rb} {i : Nat} {r : Rb} (h : rs[i]? = some r) : row.found (rs.take (i + 1)) = row.found (rs.take i) ++ ifB (row.hv r.2.2.1 r.2.2.2) r.1 ++ ifB (row.hv r.2.2.2 r.2.2.1) r.2.1 := by
  have e : rs.take (i + 1) = rs.take i ++ [r] := by
    rw [List.take_succ, h]
    rfl
  rw [e]
  unfold Row.found
  rw [List.flatMap_append, List.append_assoc]
  congr 1
  simp
def RbV (H : Hp) (v : V) (r : Rb) : Prop := ∃ t : Addr, v = .ref t ∧ H t = some (.tup [.str r.1.n, .int r.2.2.1, .int r.2.2.2]) ∧ r.1.s = "first" ∧ r.2.1.n = r.1.n ∧ r.2.1.s = "second"
theorem rep_bk {K : PySem.W.Frag} {H : Hp} {v : V} {b : Bk} (h : BkV K H v (some b)) (c : Bool) : BkAll K H (List.replicate (if c = true then (1 : Int) else 0).toNat [v]).flatten (ifB c b) := by
  cases c with
  | true => exact ⟨h, trivial⟩
  | false => exact trivial
theorem rep_hz (v : V) (c : Bool) : ([v] : List V).length * (if c = true then (1 : Int) else 0).toNat ≤ sizeLine := by
  cases c with
  | true => show 1 ≤ sizeLine; decide
  | false => show 0 ≤ sizeLine; decide
theorem rep_64 (c : Bool) : -2 ^ 63 ≤ (if c = true then (1 : Int) else 0) ∧ (if c = true then (1 : Int) else 0) < 2 ^ 63 := by cases c <;> decide
theorem Same.none {H H' : Hp} (s : Same H H') {a : Addr} (h : H' a = none) : H a = none := by
  cases e : H a with
  | none => rfl
  | some o => rw [s a o e] at h; cases h
/-- what is told is a new thing -/
def New (H : Hp) (v : V) : Prop := ∀ l : Addr, v = .ref l → H l = none
def spOnceB (K : PySem.W.Frag) : Sp := fun vs H Q _ => ∃ (l : Addr) (row : Row) (a c d : Int), vs = [.ref l, .int a, .int c, .int d] ∧ RwAt H l row ∧ row.ok ∧
  ∀ v H', Same H H' → New H v → BkL K H' v (row.found [(.li1, .li2, a, c), (.to1, .to2, a + c, d)]) → Q v H'
def spTwiceB (K : PySem.W.Frag) : Sp := fun vs H Q _ => ∃ (l : Addr) (row : Row) (a e f d : Int), vs = [.ref l, .int a, .int e, .int f, .int d] ∧ RwAt H l row ∧ row.ok ∧
  ∀ v H', Same H H' → New H v → BkL K H' v (row.found [(.li1, .li2, a, e), (.fa1, .fa2, f, d), (.to1, .to2, a + e, f + d)]) → Q v H'
theorem Row.onceL_eq {row : Row} {a b c d : Int} : (⟨row.p, row.q, row.k, a, b⟩ : Gp).onceL c d = row.found [(.li1, .li2, a, c), (.to1, .to2, a + c, d)] := by
  simp [Gp.onceL, Row.found, Row.hv_eq]
theorem Row.twiceL_eq {row : Row} {a b e f d : Int} : (⟨row.p, row.q, row.k, a, b⟩ : Gp).twiceL e f d = row.found [(.li1, .li2, a, e), (.fa1, .fa2, f, d), (.to1, .to2, a + e, f + d)] := by
  simp [Gp.twiceL, Row.found, Row.hv_eq]
section
variable {P : Program} {w : World} {K : PySem.W.Frag} {mg : Str → Option Value} {base : Heap}
theorem scLOnceBreaks : FnScope ["_law_some", "_law_a", "_law_c", "_law_d", "_law_rows", "_law_found", "_law_node", "_law_one", "_law_two"] ["_law_some", "_law_a", "_law_c", "_law_d"] (defScope sLOnceBreaks) := ⟨rfl, rfl, rfl, by decide +kernel, rfl, by decide +kernel, by decide +kernel⟩
theorem ok_onceL {f : Addr} {fd : FuncData} (F : Fun K "_law_once_breaks" "_law_once_breaks" sLOnceBreaks f fd) (T : Blt mg) (D : Df P w K mg base 1 "_law_is_heavy" ["_law_some", "_law_heavier", "_law_lighter"] spHv) : FnOk P w K mg base CX0 2 f fd ["_law_some", "_law_a", "_law_c", "_law_d"] (spOnceB K) := by
  obtain ⟨f1, fd1, G1, g1, k1, b1⟩ := D.ex
  refine F.ok scLOnceBreaks (fun vs H Q E h => ?_) (fun cdv A outer s H vs Q E hr h => ?_)
  · obtain ⟨l, row, a, c, d, rfl, _⟩ := h
    rfl
  · obtain ⟨la, row, a, c, d, rfl, hla, ok, kk⟩ := h
    refine ⟨_, (pss_cons (ps_set (i := 4) scLOnceBreaks.nd rfl (.inl rfl) (pe_lst (pa_cons (pe_tup (pa_cons pe_str (pa_cons (pv 1) (pa_cons (pv 2) pa_nil)))) (pa_cons (pe_tup (pa_cons pe_str (pa_cons (pe_op op_add (pv 1) (pv 2)) (pa_cons (pv 3) pa_nil)))) pa_nil))))
    (pss_cons (ps_set (i := 5) scLOnceBreaks.nd rfl (.inl rfl) (pe_lst pa_nil))
    (pss_cons (ps_for PassesOwn.never rfl (pi_list (pv 4)) (pg_tup (by rfl) (pgs_cons (pg_name (i := 6) scLOnceBreaks.nd rfl (.inl rfl)) (pgs_cons (pg_name (i := 7) scLOnceBreaks.nd rfl (.inl rfl)) (pgs_cons (pg_name (i := 8) scLOnceBreaks.nd rfl (.inl rfl)) pgs_nil))))
      (pss_cons (ps_set (i := 5) scLOnceBreaks.nd rfl (.inl rfl) (pe_op op_cat (pv 5) (pe_op op_rep (pe_lst (pa_cons (pe_tup (pa_cons (pv 6) (pa_cons pe_str pa_nil))) pa_nil)) (pe_callTy call_int1 (by rfl) T.int (by decide +kernel) (pa_cons (pe_call G1 hr (by rfl) g1 k1 b1 .nil pass0 (pa_cons (pv 0) (pa_cons (pv 7) (pa_cons (pv 8) pa_nil)))) pa_nil)))))
      (pss_one (ps_set (i := 5) scLOnceBreaks.nd rfl (.inl rfl) (pe_op op_cat (pv 5) (pe_op op_rep (pe_lst (pa_cons (pe_tup (pa_cons (pv 6) (pa_cons pe_str pa_nil))) pa_nil)) (pe_callTy call_int1 (by rfl) T.int (by decide +kernel) (pa_cons (pe_call G1 hr (by rfl) g1 k1 b1 .nil pass0 (pa_cons (pv 0) (pa_cons (pv 8) (pa_cons (pv 7) pa_nil)))) pa_nil))))))))
    (pss_one (ps_ret (pv 5)))))), ?_⟩
    refine ⟨_, rfl, _, rfl, (by show 3 ≤ sizeLine; decide), fun t1 n1 => ?_⟩
    have s1 := same_new (o := .tup [.str "light", .int a, .int c]) n1
    have h1 : upd H t1 (.tup [.str "light", .int a, .int c]) t1 = some (.tup [.str "light", .int a, .int c]) := upd_same
    generalize upd H t1 (.tup [.str "light", .int a, .int c]) = H1 at s1 h1 ⊢
    refine ⟨_, rfl, _, rfl, _, _, rfl, rfl, _, rfl, (by show 3 ≤ sizeLine; decide), fun t2 n2 => ?_⟩
    have s2 := same_new (o := .tup [.str "top", .int (a + c), .int d]) n2
    have h2 : upd H1 t2 (.tup [.str "top", .int (a + c), .int d]) t2 = some (.tup [.str "top", .int (a + c), .int d]) := upd_same
    generalize upd H1 t2 (.tup [.str "top", .int (a + c), .int d]) = H2 at s2 h2 ⊢
    refine ⟨(by show 2 ≤ sizeLine; decide), fun lr n3 => ?_⟩
    have s3 := same_new (o := .lst [.ref t1, .ref t2]) n3
    have h3 : upd H2 lr (.lst [.ref t1, .ref t2]) lr = some (.lst [.ref t1, .ref t2]) := upd_same
    generalize upd H2 lr (.lst [.ref t1, .ref t2]) = H3 at s3 h3 ⊢
    refine ⟨(by show 0 ≤ sizeLine; decide), fun l0 n4 => ?_⟩
    have s4 := same_new (o := .lst []) n4
    have h4 : upd H3 l0 (.lst []) l0 = some (.lst []) := upd_same
    generalize upd H3 l0 (.lst []) = H4 at s4 h4 ⊢
    have s03 := (s1.trans s2).trans s3
    have s04 := s03.trans s4
    have rv : ∀ (i : Nat) (v : V), ([.ref t1, .ref t2] : List V)[i]? = some v → ∃ r, ([(.li1, .li2, a, c), (.to1, .to2, a + c, d)] : List Rb)[i]? = some r ∧ RbV H4 v r := fun i v hi => by
      match i, hi with
      | 0, hi => exact ⟨_, rfl, t1, (Option.some.inj hi).symm, s4 _ _ (s3 _ _ (s2 _ _ h1)), rfl, rfl, rfl⟩
      | 1, hi => exact ⟨_, rfl, t2, (Option.some.inj hi).symm, s4 _ _ (s3 _ _ h2), rfl, rfl, rfl⟩
      | _ + 2, hi => cases hi
    have hlr := s4 _ _ h3
    have hla4 := s04 _ _ hla
    generalize er : ([(.li1, .li2, a, c), (.to1, .to2, a + c, d)] : List Rb) = rs at rv kk
    have lrs : rs.length = 2 := by rw [← er]; rfl
    refine ⟨_, rfl, lr, rfl, ⟨_, SqL.of hlr⟩, ?_⟩
    refine for_list (xs := [.ref t1, .ref t2]) (fun i σ G => Same H4 G ∧ ∃ l vs z6 z7 z8, H l = none ∧ σ = [some (.ref la), some (.int a), some (.int c), some (.int d), some (.ref lr), some (.ref l), z6, z7, z8] ∧ G l = some (.lst vs) ∧ BkAll K G vs (row.found (rs.take i))) ⟨Same.refl _, l0, [], _, _, _, Same.none s03 n4, rfl, h4, trivial⟩ (fun i σ G _ h => SqL.of (h.1 _ _ hlr)) (fun i v σ G hi hp => ?_) (fun σ G hp => ?_)
    · obtain ⟨sg, l, vs, z6, z7, z8, nl, rfl, hl, al⟩ := hp
      obtain ⟨r, hr', t, rfl, ht, e1, e2, e3⟩ := rv i v hi
      have hle : vs.length ≤ 8 := by
        have h1 := al.len
        have h2 := row.found_len (rs.take i)
        have h3 := List.length_take_le i rs
        rw [List.length_take] at h2
        omega
      refine ⟨t, _, rfl, SqT.of (sg _ _ ht), rfl, _, _, rfl, _, _, rfl, _, _, rfl, rfl, ?_⟩
      refine ⟨_, rfl, _, rfl, (by show 2 ≤ sizeLine; decide), fun ta na => ?_⟩
      have p1 := same_new (o := .tup [.str r.1.n, .str "first"]) na
      have b1' : BkV K (upd G ta (.tup [.str r.1.n, .str "first"])) (.ref ta) (some r.1) := ⟨ta, rfl, by rw [e1]; exact SqT.of upd_same⟩
      generalize upd G ta (.tup [.str r.1.n, .str "first"]) = G1' at p1 b1' ⊢
      refine ⟨(by show 1 ≤ sizeLine; decide), fun lb nb => ?_⟩
      have p2 := same_new (o := .lst [V.ref ta]) nb
      have hb2 : upd G1' lb (.lst [V.ref ta]) lb = some (.lst [V.ref ta]) := upd_same
      generalize upd G1' lb (.lst [V.ref ta]) = G2' at p2 hb2 ⊢
      have s42 := (sg.trans p1).trans p2
      refine ⟨_, rfl, _, rfl, _, rfl, la, row, _, _, rfl, s42 _ _ hla4, ok, .inr ⟨_, rfl, lb, _, _, rfl, rfl, hb2, (rep_64 _).1, (rep_64 _).2, rep_hz _ _, fun lc nc => ?_⟩⟩
      have p3 := same_new (o := .lst (List.replicate (if row.hv r.2.2.1 r.2.2.2 = true then (1 : Int) else 0).toNat [V.ref ta]).flatten) nc
      have hb3 : upd G2' lc (.lst (List.replicate (if row.hv r.2.2.1 r.2.2.2 = true then (1 : Int) else 0).toNat [V.ref ta]).flatten) lc = some (.lst (List.replicate (if row.hv r.2.2.1 r.2.2.2 = true then (1 : Int) else 0).toNat [V.ref ta]).flatten) := upd_same
      generalize upd G2' lc (.lst (List.replicate (if row.hv r.2.2.1 r.2.2.2 = true then (1 : Int) else 0).toNat [V.ref ta]).flatten) = G3' at p3 hb3 ⊢
      have ra := rep_bk (b1'.keep (p2.trans p3)) (row.hv r.2.2.1 r.2.2.2)
      have al3 := al.keep ((p1.trans p2).trans p3)
      have all3 := al3.app ra
      have l1 := ra.len
      have l2 := ifB_len (row.hv r.2.2.1 r.2.2.2) r.1
      generalize (List.replicate (if row.hv r.2.2.1 r.2.2.2 = true then (1 : Int) else 0).toNat [V.ref ta]).flatten = w1 at hb3 all3 l1 ⊢
      refine ⟨l, lc, _, _, rfl, rfl, p3 _ _ (p2 _ _ (p1 _ _ hl)), hb3, Nat.le_trans (by omega : _ ≤ 10) (by decide), fun ld nd => ?_⟩
      have p4 := same_new (o := .lst (vs ++ w1)) nd
      have hb4 : upd G3' ld (.lst (vs ++ w1)) ld = some (.lst (vs ++ w1)) := upd_same
      generalize upd G3' ld (.lst (vs ++ w1)) = G4' at p4 hb4 ⊢
      have all4 := all3.keep p4
      have lw1 : (vs ++ w1).length ≤ 10 := by rw [List.length_append]; omega
      generalize vs ++ w1 = us at hb4 all4 lw1
      have s44 := (s42.trans p3).trans p4
      -- the second one
      refine ⟨_, rfl, _, rfl, (by show 2 ≤ sizeLine; decide), fun ta2 na2 => ?_⟩
      have q1 := same_new (o := .tup [.str r.1.n, .str "second"]) na2
      have b2' : BkV K (upd G4' ta2 (.tup [.str r.1.n, .str "second"])) (.ref ta2) (some r.2.1) := ⟨ta2, rfl, by rw [e3, e2]; exact SqT.of upd_same⟩
      generalize upd G4' ta2 (.tup [.str r.1.n, .str "second"]) = G5' at q1 b2' ⊢
      refine ⟨(by show 1 ≤ sizeLine; decide), fun lb2 nb2 => ?_⟩
      have q2 := same_new (o := .lst [V.ref ta2]) nb2
      have hc2 : upd G5' lb2 (.lst [V.ref ta2]) lb2 = some (.lst [V.ref ta2]) := upd_same
      generalize upd G5' lb2 (.lst [V.ref ta2]) = G6' at q2 hc2 ⊢
      have s46 := (s44.trans q1).trans q2
      refine ⟨_, rfl, _, rfl, _, rfl, la, row, _, _, rfl, s46 _ _ hla4, ok, .inr ⟨_, rfl, lb2, _, _, rfl, rfl, hc2, (rep_64 _).1, (rep_64 _).2, rep_hz _ _, fun lc2 nc2 => ?_⟩⟩
      have q3 := same_new (o := .lst (List.replicate (if row.hv r.2.2.2 r.2.2.1 = true then (1 : Int) else 0).toNat [V.ref ta2]).flatten) nc2
      have hc3 : upd G6' lc2 (.lst (List.replicate (if row.hv r.2.2.2 r.2.2.1 = true then (1 : Int) else 0).toNat [V.ref ta2]).flatten) lc2 = some (.lst (List.replicate (if row.hv r.2.2.2 r.2.2.1 = true then (1 : Int) else 0).toNat [V.ref ta2]).flatten) := upd_same
      generalize upd G6' lc2 (.lst (List.replicate (if row.hv r.2.2.2 r.2.2.1 = true then (1 : Int) else 0).toNat [V.ref ta2]).flatten) = G7' at q3 hc3 ⊢
      have rb := rep_bk (b2'.keep (q2.trans q3)) (row.hv r.2.2.2 r.2.2.1)
      have all7 := (all4.keep ((q1.trans q2).trans q3)).app rb
      have l3 := rb.len
      have l4 := ifB_len (row.hv r.2.2.2 r.2.2.1) r.2.1
      generalize (List.replicate (if row.hv r.2.2.2 r.2.2.1 = true then (1 : Int) else 0).toNat [V.ref ta2]).flatten = w2 at hc3 all7 l3 ⊢
      refine ⟨ld, lc2, _, _, rfl, rfl, q3 _ _ (q2 _ _ (q1 _ _ hb4)), hc3, Nat.le_trans (by omega : _ ≤ 12) (by decide), fun le ne => ?_⟩
      have q4 := same_new (o := .lst (us ++ w2)) ne
      refine ⟨(s46.trans q3).trans q4, le, _, _, _, _, Same.none (s04.trans (s46.trans q3)) ne, rfl, upd_same, ?_⟩
      rw [Row.found_snoc hr']
      exact all7.keep q4
    · obtain ⟨sg, l, vs, z6, z7, z8, nl, rfl, hl, al⟩ := hp
      refine ⟨_, rfl, ?_⟩
      refine kk _ _ (s04.trans sg) (fun l' e => by rw [← V.ref.inj e]; exact nl) ⟨l, vs, rfl, hl, ?_⟩
      have : rs.take ([.ref t1, .ref t2] : List V).length = rs := by rw [← er]; rfl
      rw [this] at al
      exact al
theorem scLTwiceBreaks : FnScope ["_law_some", "_law_a", "_law_e", "_law_f", "_law_d", "_law_rows", "_law_found", "_law_node", "_law_one", "_law_two"] ["_law_some", "_law_a", "_law_e", "_law_f", "_law_d"] (defScope sLTwiceBreaks) := ⟨rfl, rfl, rfl, by decide +kernel, rfl, by decide +kernel, by decide +kernel⟩
theorem ok_twiceL {f : Addr} {fd : FuncData} (F : Fun K "_law_twice_breaks" "_law_twice_breaks" sLTwiceBreaks f fd) (T : Blt mg) (D : Df P w K mg base 1 "_law_is_heavy" ["_law_some", "_law_heavier", "_law_lighter"] spHv) : FnOk P w K mg base CX0 2 f fd ["_law_some", "_law_a", "_law_e", "_law_f", "_law_d"] (spTwiceB K) := by
  obtain ⟨f1, fd1, G1, g1, k1, b1⟩ := D.ex
  refine F.ok scLTwiceBreaks (fun vs H Q E h => ?_) (fun cdv A outer s H vs Q E hr h => ?_)
  · obtain ⟨l, row, a, e0, f0, d, rfl, _⟩ := h
    rfl
  · obtain ⟨la, row, a, e0, f0, d, rfl, hla, ok, kk⟩ := h
    refine ⟨_, (pss_cons (ps_set (i := 5) scLTwiceBreaks.nd rfl (.inl rfl) (pe_lst (pa_cons (pe_tup (pa_cons pe_str (pa_cons (pv 1) (pa_cons (pv 2) pa_nil)))) (pa_cons (pe_tup (pa_cons pe_str (pa_cons (pv 3) (pa_cons (pv 4) pa_nil)))) (pa_cons (pe_tup (pa_cons pe_str (pa_cons (pe_op op_add (pv 1) (pv 2)) (pa_cons (pe_op op_add (pv 3) (pv 4)) pa_nil)))) pa_nil)))))
    (pss_cons (ps_set (i := 6) scLTwiceBreaks.nd rfl (.inl rfl) (pe_lst pa_nil))
    (pss_cons (ps_for PassesOwn.never rfl (pi_list (pv 5)) (pg_tup (by rfl) (pgs_cons (pg_name (i := 7) scLTwiceBreaks.nd rfl (.inl rfl)) (pgs_cons (pg_name (i := 8) scLTwiceBreaks.nd rfl (.inl rfl)) (pgs_cons (pg_name (i := 9) scLTwiceBreaks.nd rfl (.inl rfl)) pgs_nil))))
      (pss_cons (ps_set (i := 6) scLTwiceBreaks.nd rfl (.inl rfl) (pe_op op_cat (pv 6) (pe_op op_rep (pe_lst (pa_cons (pe_tup (pa_cons (pv 7) (pa_cons pe_str pa_nil))) pa_nil)) (pe_callTy call_int1 (by rfl) T.int (by decide +kernel) (pa_cons (pe_call G1 hr (by rfl) g1 k1 b1 .nil pass0 (pa_cons (pv 0) (pa_cons (pv 8) (pa_cons (pv 9) pa_nil)))) pa_nil)))))
      (pss_one (ps_set (i := 6) scLTwiceBreaks.nd rfl (.inl rfl) (pe_op op_cat (pv 6) (pe_op op_rep (pe_lst (pa_cons (pe_tup (pa_cons (pv 7) (pa_cons pe_str pa_nil))) pa_nil)) (pe_callTy call_int1 (by rfl) T.int (by decide +kernel) (pa_cons (pe_call G1 hr (by rfl) g1 k1 b1 .nil pass0 (pa_cons (pv 0) (pa_cons (pv 9) (pa_cons (pv 8) pa_nil)))) pa_nil))))))))
    (pss_one (ps_ret (pv 6)))))), ?_⟩
    refine ⟨_, rfl, _, rfl, (by show 3 ≤ sizeLine; decide), fun t1 n1 => ?_⟩
    have s1 := same_new (o := .tup [.str "light", .int a, .int e0]) n1
    have h1 : upd H t1 (.tup [.str "light", .int a, .int e0]) t1 = some (.tup [.str "light", .int a, .int e0]) := upd_same
    generalize upd H t1 (.tup [.str "light", .int a, .int e0]) = H1 at s1 h1 ⊢
    refine ⟨_, rfl, _, rfl, (by show 3 ≤ sizeLine; decide), fun t2 n2 => ?_⟩
    have s2 := same_new (o := .tup [.str "far", .int f0, .int d]) n2
    have h2 : upd H1 t2 (.tup [.str "far", .int f0, .int d]) t2 = some (.tup [.str "far", .int f0, .int d]) := upd_same
    generalize upd H1 t2 (.tup [.str "far", .int f0, .int d]) = H2 at s2 h2 ⊢
    refine ⟨_, rfl, _, rfl, _, _, rfl, rfl, _, rfl, _, rfl, _, _, rfl, rfl, (by show 3 ≤ sizeLine; decide), fun t3 n5 => ?_⟩
    have s5 := same_new (o := .tup [.str "top", .int (a + e0), .int (f0 + d)]) n5
    have h5 : upd H2 t3 (.tup [.str "top", .int (a + e0), .int (f0 + d)]) t3 = some (.tup [.str "top", .int (a + e0), .int (f0 + d)]) := upd_same
    generalize upd H2 t3 (.tup [.str "top", .int (a + e0), .int (f0 + d)]) = H25 at s5 h5 ⊢
    refine ⟨(by show 3 ≤ sizeLine; decide), fun lr n3 => ?_⟩
    have s3 := same_new (o := .lst [.ref t1, .ref t2, .ref t3]) n3
    have h3 : upd H25 lr (.lst [.ref t1, .ref t2, .ref t3]) lr = some (.lst [.ref t1, .ref t2, .ref t3]) := upd_same
    generalize upd H25 lr (.lst [.ref t1, .ref t2, .ref t3]) = H3 at s3 h3 ⊢
    refine ⟨(by show 0 ≤ sizeLine; decide), fun l0 n4 => ?_⟩
    have s4 := same_new (o := .lst []) n4
    have h4 : upd H3 l0 (.lst []) l0 = some (.lst []) := upd_same
    generalize upd H3 l0 (.lst []) = H4 at s4 h4 ⊢
    have s03 := ((s1.trans s2).trans s5).trans s3
    have s04 := s03.trans s4
    have rv : ∀ (i : Nat) (v : V), ([.ref t1, .ref t2, .ref t3] : List V)[i]? = some v → ∃ r, ([(.li1, .li2, a, e0), (.fa1, .fa2, f0, d), (.to1, .to2, a + e0, f0 + d)] : List Rb)[i]? = some r ∧ RbV H4 v r := fun i v hi => by
      match i, hi with
      | 0, hi => exact ⟨_, rfl, t1, (Option.some.inj hi).symm, s4 _ _ (s3 _ _ (s5 _ _ (s2 _ _ h1))), rfl, rfl, rfl⟩
      | 1, hi => exact ⟨_, rfl, t2, (Option.some.inj hi).symm, s4 _ _ (s3 _ _ (s5 _ _ h2)), rfl, rfl, rfl⟩
      | 2, hi => exact ⟨_, rfl, t3, (Option.some.inj hi).symm, s4 _ _ (s3 _ _ h5), rfl, rfl, rfl⟩
      | _ + 3, hi => cases hi
    have hlr := s4 _ _ h3
    have hla4 := s04 _ _ hla
    generalize er : ([(.li1, .li2, a, e0), (.fa1, .fa2, f0, d), (.to1, .to2, a + e0, f0 + d)] : List Rb) = rs at rv kk
    have lrs : rs.length = 3 := by rw [← er]; rfl
    refine ⟨_, rfl, lr, rfl, ⟨_, SqL.of hlr⟩, ?_⟩
    refine for_list (xs := [.ref t1, .ref t2, .ref t3]) (fun i σ G => Same H4 G ∧ ∃ l vs z6 z7 z8, H l = none ∧ σ = [some (.ref la), some (.int a), some (.int e0), some (.int f0), some (.int d), some (.ref lr), some (.ref l), z6, z7, z8] ∧ G l = some (.lst vs) ∧ BkAll K G vs (row.found (rs.take i))) ⟨Same.refl _, l0, [], _, _, _, Same.none s03 n4, rfl, h4, trivial⟩ (fun i σ G _ h => SqL.of (h.1 _ _ hlr)) (fun i v σ G hi hp => ?_) (fun σ G hp => ?_)
    · obtain ⟨sg, l, vs, z6, z7, z8, nl, rfl, hl, al⟩ := hp
      obtain ⟨r, hr', t, rfl, ht, e1, e2, e3⟩ := rv i v hi
      have hle : vs.length ≤ 8 := by
        have h1 := al.len
        have h2 := row.found_len (rs.take i)
        have h3 := List.length_take_le i rs
        rw [List.length_take] at h2
        omega
      refine ⟨t, _, rfl, SqT.of (sg _ _ ht), rfl, _, _, rfl, _, _, rfl, _, _, rfl, rfl, ?_⟩
      refine ⟨_, rfl, _, rfl, (by show 2 ≤ sizeLine; decide), fun ta na => ?_⟩
      have p1 := same_new (o := .tup [.str r.1.n, .str "first"]) na
      have b1' : BkV K (upd G ta (.tup [.str r.1.n, .str "first"])) (.ref ta) (some r.1) := ⟨ta, rfl, by rw [e1]; exact SqT.of upd_same⟩
      generalize upd G ta (.tup [.str r.1.n, .str "first"]) = G1' at p1 b1' ⊢
      refine ⟨(by show 1 ≤ sizeLine; decide), fun lb nb => ?_⟩
      have p2 := same_new (o := .lst [V.ref ta]) nb
      have hb2 : upd G1' lb (.lst [V.ref ta]) lb = some (.lst [V.ref ta]) := upd_same
      generalize upd G1' lb (.lst [V.ref ta]) = G2' at p2 hb2 ⊢
      have s42 := (sg.trans p1).trans p2
      refine ⟨_, rfl, _, rfl, _, rfl, la, row, _, _, rfl, s42 _ _ hla4, ok, .inr ⟨_, rfl, lb, _, _, rfl, rfl, hb2, (rep_64 _).1, (rep_64 _).2, rep_hz _ _, fun lc nc => ?_⟩⟩
      have p3 := same_new (o := .lst (List.replicate (if row.hv r.2.2.1 r.2.2.2 = true then (1 : Int) else 0).toNat [V.ref ta]).flatten) nc
      have hb3 : upd G2' lc (.lst (List.replicate (if row.hv r.2.2.1 r.2.2.2 = true then (1 : Int) else 0).toNat [V.ref ta]).flatten) lc = some (.lst (List.replicate (if row.hv r.2.2.1 r.2.2.2 = true then (1 : Int) else 0).toNat [V.ref ta]).flatten) := upd_same
      generalize upd G2' lc (.lst (List.replicate (if row.hv r.2.2.1 r.2.2.2 = true then (1 : Int) else 0).toNat [V.ref ta]).flatten) = G3' at p3 hb3 ⊢
      have ra := rep_bk (b1'.keep (p2.trans p3)) (row.hv r.2.2.1 r.2.2.2)
      have al3 := al.keep ((p1.trans p2).trans p3)
      have all3 := al3.app ra
      have l1 := ra.len
      have l2 := ifB_len (row.hv r.2.2.1 r.2.2.2) r.1
      generalize (List.replicate (if row.hv r.2.2.1 r.2.2.2 = true then (1 : Int) else 0).toNat [V.ref ta]).flatten = w1 at hb3 all3 l1 ⊢
      refine ⟨l, lc, _, _, rfl, rfl, p3 _ _ (p2 _ _ (p1 _ _ hl)), hb3, Nat.le_trans (by omega : _ ≤ 10) (by decide), fun ld nd => ?_⟩
      have p4 := same_new (o := .lst (vs ++ w1)) nd
      have hb4 : upd G3' ld (.lst (vs ++ w1)) ld = some (.lst (vs ++ w1)) := upd_same
      generalize upd G3' ld (.lst (vs ++ w1)) = G4' at p4 hb4 ⊢
      have all4 := all3.keep p4
      have lw1 : (vs ++ w1).length ≤ 10 := by rw [List.length_append]; omega
      generalize vs ++ w1 = us at hb4 all4 lw1
      have s44 := (s42.trans p3).trans p4
      -- the second one
      refine ⟨_, rfl, _, rfl, (by show 2 ≤ sizeLine; decide), fun ta2 na2 => ?_⟩
      have q1 := same_new (o := .tup [.str r.1.n, .str "second"]) na2
      have b2' : BkV K (upd G4' ta2 (.tup [.str r.1.n, .str "second"])) (.ref ta2) (some r.2.1) := ⟨ta2, rfl, by rw [e3, e2]; exact SqT.of upd_same⟩
      generalize upd G4' ta2 (.tup [.str r.1.n, .str "second"]) = G5' at q1 b2' ⊢
      refine ⟨(by show 1 ≤ sizeLine; decide), fun lb2 nb2 => ?_⟩
      have q2 := same_new (o := .lst [V.ref ta2]) nb2
      have hc2 : upd G5' lb2 (.lst [V.ref ta2]) lb2 = some (.lst [V.ref ta2]) := upd_same
      generalize upd G5' lb2 (.lst [V.ref ta2]) = G6' at q2 hc2 ⊢
      have s46 := (s44.trans q1).trans q2
      refine ⟨_, rfl, _, rfl, _, rfl, la, row, _, _, rfl, s46 _ _ hla4, ok, .inr ⟨_, rfl, lb2, _, _, rfl, rfl, hc2, (rep_64 _).1, (rep_64 _).2, rep_hz _ _, fun lc2 nc2 => ?_⟩⟩
      have q3 := same_new (o := .lst (List.replicate (if row.hv r.2.2.2 r.2.2.1 = true then (1 : Int) else 0).toNat [V.ref ta2]).flatten) nc2
      have hc3 : upd G6' lc2 (.lst (List.replicate (if row.hv r.2.2.2 r.2.2.1 = true then (1 : Int) else 0).toNat [V.ref ta2]).flatten) lc2 = some (.lst (List.replicate (if row.hv r.2.2.2 r.2.2.1 = true then (1 : Int) else 0).toNat [V.ref ta2]).flatten) := upd_same
      generalize upd G6' lc2 (.lst (List.replicate (if row.hv r.2.2.2 r.2.2.1 = true then (1 : Int) else 0).toNat [V.ref ta2]).flatten) = G7' at q3 hc3 ⊢
      have rb := rep_bk (b2'.keep (q2.trans q3)) (row.hv r.2.2.2 r.2.2.1)
      have all7 := (all4.keep ((q1.trans q2).trans q3)).app rb
      have l3 := rb.len
      have l4 := ifB_len (row.hv r.2.2.2 r.2.2.1) r.2.1
      generalize (List.replicate (if row.hv r.2.2.2 r.2.2.1 = true then (1 : Int) else 0).toNat [V.ref ta2]).flatten = w2 at hc3 all7 l3 ⊢
      refine ⟨ld, lc2, _, _, rfl, rfl, q3 _ _ (q2 _ _ (q1 _ _ hb4)), hc3, Nat.le_trans (by omega : _ ≤ 12) (by decide), fun le ne => ?_⟩
      have q4 := same_new (o := .lst (us ++ w2)) ne
      refine ⟨(s46.trans q3).trans q4, le, _, _, _, _, Same.none (s04.trans (s46.trans q3)) ne, rfl, upd_same, ?_⟩
      rw [Row.found_snoc hr']
      exact all7.keep q4
    · obtain ⟨sg, l, vs, z6, z7, z8, nl, rfl, hl, al⟩ := hp
      refine ⟨_, rfl, ?_⟩
      refine kk _ _ (s04.trans sg) (fun l' e => by rw [← V.ref.inj e]; exact nl) ⟨l, vs, rfl, hl, ?_⟩
      have : rs.take ([.ref t1, .ref t2, .ref t3] : List V).length = rs := by rw [← er]; rfl
      rw [this] at al
      exact al
end
end Ev
namespace Ev
open PySem L2 PySem.Spec PyProof.Rows RZ
/-- values that are in a relation to other things, one by one -/
def All2 {α : Type} (R : V → α → Prop) : List V → List α → Prop
  | [], [] => True
  | v :: vs, b :: bs => R v b ∧ All2 R vs bs
  | _, _ => False
theorem All2.mono {α : Type} {R S : V → α → Prop} (s : ∀ v a, R v a → S v a) : ∀ {vs : List V} {bs : List α}, All2 R vs bs → All2 S vs bs
  | [], [], _ => trivial
  | _ :: _, _ :: _, h => ⟨s _ _ h.1, All2.mono s h.2⟩
  | [], _ :: _, h => h.elim
  | _ :: _, [], h => h.elim
theorem All2.app {α : Type} {R : V → α → Prop} : ∀ {vs us : List V} {bs cs : List α}, All2 R vs bs → All2 R us cs → All2 R (vs ++ us) (bs ++ cs)
  | [], _, [], _, _, k => k
  | _ :: _, _, _ :: _, _, h, k => ⟨h.1, All2.app h.2 k⟩
  | [], _, _ :: _, _, h, _ => h.elim
  | _ :: _, _, [], _, h, _ => h.elim
theorem All2.len {α : Type} {R : V → α → Prop} : ∀ {vs : List V} {bs : List α}, All2 R vs bs → vs.length = bs.length
  | [], [], _ => rfl
  | _ :: _, _ :: _, h => congrArg (· + 1) (All2.len h.2)
  | [], _ :: _, h => h.elim
  | _ :: _, [], h => h.elim
theorem All2.get {α : Type} {R : V → α → Prop} : ∀ {vs : List V} {bs : List α}, All2 R vs bs → ∀ {i : Nat} {v : V}, vs[i]? = some v → ∃ a, bs[i]? = some a ∧ R v a
  | [], [], _, i, v, e => by cases e
  | _ :: _, _ :: _, h, 0, v, e => ⟨_, rfl, by rw [← Option.some.inj e]; exact h.1⟩
  | _ :: _, _ :: _, h, i + 1, v, e => All2.get h.2 (i := i) e
  | [], _ :: _, h, _, _, _ => h.elim
  | _ :: _, [], h, _, _, _ => h.elim
/-- c and what is left of b -/
def PtV (H : Hp) (b : Int) (v : V) (c : Int) : Prop := ∃ t : Addr, v = .ref t ∧ H t = some (.tup [.int c, .int (b - c)])
theorem PtV.keep {H H' : Hp} (s : Same H H') {b : Int} {v : V} {c : Int} (h : PtV H b v c) : PtV H' b v c := by
  obtain ⟨t, e, h⟩ := h
  exact ⟨t, e, s _ _ h⟩
def PtL (H : Hp) (v : V) (b : Int) (cs : List Int) : Prop := ∃ (l : Addr) (vs : List V), v = .ref l ∧ H l = some (.lst vs) ∧ All2 (PtV H b) vs cs
def Row.evB (row : Row) (b c : Int) : Bool := !row.hv c (b - c) && !row.hv (b - c) c
def Row.parts (row : Row) (b : Int) : List Int := (upTo (b - 1).toNat).filter (row.evB b)
theorem Row.parts_eq {row : Row} {a b b' : Int} : (⟨row.p, row.q, row.k, a, b'⟩ : Gp).partsL b = row.parts b := rfl
theorem upTo_succ (n : Nat) : upTo (n + 1) = upTo n ++ [(n : Int) + 1] := by
  unfold upTo
  rw [List.range_succ, List.map_append]
  rfl
theorem upTo_len (n : Nat) : (upTo n).length = n := by simp [upTo]
def spPartsL (K : PySem.W.Frag) : Sp := fun vs H Q _ => ∃ (l : Addr) (row : Row) (b : Int), vs = [.ref l, .int b] ∧ RwAt H l row ∧ row.ok ∧ 1 ≤ b ∧ b ≤ 1000 ∧ ∀ v H', Same H H' → New H v → PtL H' v b (row.parts b) → Q v H'
def spCode : Sp := fun vs H Q _ => ∃ (l : Addr) (ns : List Int), vs = [.ref l] ∧ H l = some (.tup (ns.map V.int)) ∧ (ns.length = 3 ∨ ns.length = 4) ∧ ∀ H', Same H H' → Q (.int (codeV ns)) H'
theorem slA_any {K : PySem.W.Frag} {a : Addr} {xs : List V} {lo hi : Option Int} {H : Hp} {Q : VK} (h : H a = some (.tup xs)) (k : ∀ (a' : Addr) (H' : Hp), Same H H' → H' a' = some (.tup (cutV xs lo hi)) → Q (.ref a') H') : rSlA K (.ref a) lo hi H Q := by
  refine ⟨a, xs, rfl, SqT.of h, fun ⟨e1, e2⟩ => k a H (Same.refl H) ?_, fun _ p np => k p _ (same_new np) upd_same⟩
  rw [h]
  unfold cutV
  rw [e1, e2, List.drop_zero, Nat.sub_zero, List.take_length]
def rSumT (K : PySem.W.Frag) : List V → Hp → VK → Prop := fun vs H Q => ∃ (a : Addr) (ns : List Int), vs = [V.ref a] ∧ SqT K H a (ns.map V.int) ∧ Q (.int ns.sum) H
theorem cr_sumT {X : Cx} (hc : X.calm = true) : CallR X (.builtin "sum") (rSumT X.K) := by
  intro pins s σ H vs us Q I r h
  obtain ⟨a, ns, rfl, hs, q⟩ := h
  obtain ⟨its, rv, hl, _⟩ := I.tuple hs
  rw [Vals.ref1 r]
  have hi := rv.ints
  have hl : s.heap.IsTuple a its.toArray := hl
  obtain ⟨xs, hx⟩ := hi.allInts.items
  have hn : numsOf its.toArray.toList = ns := by rw [show its.toArray.toList = its from rfl, hi.numsOf]
  rw [hx] at hl hn
  rw [nums_intItems] at hn
  refine PySem.W.ktm_sumG (I.ok.hd hc) hl fun h' tk t' hk => ?_
  rw [preSum_eq, List.take_of_length_le (by simp), hn]
  exact ⟨.int _, H, I.kept hk, ⟨_, rfl⟩, q⟩
section
variable {P : Program} {w : World} {K : PySem.W.Frag} {mg : Str → Option Value} {base : Heap}
theorem scLCode : FnScope ["_law_numbers_here", "_law_inner"] ["_law_numbers_here"] (defScope sLCode) := ⟨rfl, rfl, rfl, by decide +kernel, rfl, by decide +kernel, by decide +kernel⟩
theorem ok_code {f : Addr} {fd : FuncData} (F : Fun K "_law_code" "_law_code" sLCode f fd) (ms : mg "sum" = none) : FnOk P w K mg base CX0 1 f fd ["_law_numbers_here"] spCode := by
  refine F.ok scLCode (fun vs H Q E h => ?_) (fun cdv A outer s H vs Q E hr h => ?_)
  · obtain ⟨l, ns, rfl, _⟩ := h
    rfl
  · obtain ⟨l, ns, rfl, hl, l34, kk⟩ := h
    refine ⟨_, (pss_cons (ps_set (i := 1) scLCode.nd rfl (.inl rfl) (pe_callB (cr_sumT rfl) (by rfl) ms (by decide +kernel) (pa_cons (pe_slice sl_tupA (pv 0) (po_some pe_int) (po_some (pe_un un_neg pe_int))) pa_nil)))
    (pss_one (ps_ret (pe_op op_add (pe_op op_mul pe_int (pv 1)) (pe_ix ix_tup (pv 0) pe_int (fun _ _ => rfl)))))), ?_⟩
    obtain ⟨inner, one, e1, e2, e3⟩ : ∃ (inner : List Int) (one : Int), cutV (ns.map V.int) (some 1) (some (-1)) = inner.map V.int ∧ atI (ns.map V.int) 1 = some (.int one) ∧ codeV ns = 1000 * inner.sum + one := by
      rcases l34 with h | h
      · match ns, h with
        | [x, y, z], _ => exact ⟨[y], y, rfl, atI_nat (j := 1) rfl, by rw [code3]; simp⟩
      · match ns, h with
        | [x, y, z, u], _ => exact ⟨[y, z], y, rfl, atI_nat (j := 1) rfl, by rw [code4]; simp⟩
    refine ⟨_, rfl, _, rfl, _, rfl, _, rfl, slA_any hl fun l3 H3 s3 hl3 => ?_⟩
    rw [e1] at hl3
    refine ⟨l3, inner, rfl, SqT.of hl3, ?_⟩
    refine ⟨_, rfl, _, _, rfl, rfl, .inl ⟨by decide, by decide⟩, _, rfl, l, _, _, _, rfl, rfl, SqT.of (s3 _ _ hl), e2, _, _, rfl, rfl, ?_⟩
    have k3 := kk _ s3
    rw [e3] at k3
    exact k3
theorem scLParts : FnScope ["_law_some", "_law_b", "_law_c"] ["_law_some", "_law_b"] (defScope sLParts) := ⟨rfl, rfl, rfl, by decide +kernel, rfl, by decide +kernel, by decide +kernel⟩
theorem ok_partsL {f : Addr} {fd : FuncData} (F : Fun K "_law_parts" "_law_parts" sLParts f fd) (T : Blt mg) (D : Df P w K mg base 2 "_law_is_even" ["_law_some", "_law_one", "_law_other"] spEven) : FnOk P w K mg base CX0 3 f fd ["_law_some", "_law_b"] (spPartsL K) := by
  obtain ⟨f1, fd1, G1, g1, k1, b1⟩ := D.ex
  refine F.ok scLParts (fun vs H Q E h => ?_) (fun cdv A outer s H vs Q E hr h => ?_)
  · obtain ⟨l, row, b, rfl, _⟩ := h
    rfl
  · obtain ⟨l, row, b, rfl, hl, ok, b1', b2', kk⟩ := h
    refine ⟨_, (pss_one (ps_ret (pe_lc (own := [("_law_c", 2)]) (g := gName 2) (by rfl) scLParts.nd (pi_range2 (by rfl) T.range (pa_cons pe_int (pa_cons (pv 1) pa_nil))) (blkOk_by (own := [("_law_c", 2)]) (N := ["_law_some", "_law_b", "_law_c"]) (sc := defScope sLParts) (by decide +kernel)) (fun _ _ _ _ _ => pg_name (i := 2) scLParts.nd rfl (.inl rfl)) (fun _ _ _ _ _ => pts_one (pt_val (pe_call G1 hr (by rfl) g1 k1 b1 .nil pass0 (pa_cons (pv 0) (pa_cons (pv 2) (pa_cons (pe_op op_sub (pv 1) (pv 2)) pa_nil)))))) (fun _ _ _ _ _ => (pe_tup (pa_cons (pv 2) (pa_cons (pe_op op_sub (pv 1) (pv 2)) pa_nil))))))), ?_⟩
    refine ⟨_, rfl, _, _, rfl, ⟨by decide, by decide, by omega, by omega⟩, fun D nD => lc_range (lo := 1) (n := (b - 1).toNat) (fun i H' => ∃ vs : List V, H' D = some (.lst vs) ∧ Same H H' ∧ All2 (PtV H' b) vs ((upTo i).filter (row.evB b))) ⟨[], upd_same, same_new nD, trivial⟩ (fun i H' hi h => ?_) (fun H' h => ?_)⟩
    · obtain ⟨vs, hD, sD, al⟩ := h
      have e1 : (1 : Int) + i = (i : Int) + 1 := by omega
      refine ⟨rfl, _, rfl, _, rfl, _, rfl, _, rfl, _, _, rfl, rfl, l, row, _, _, rfl, sD _ _ hl, ok, _, rfl, ?_⟩
      rw [e1]
      have eu : (upTo (i + 1)).filter (row.evB b) = (upTo i).filter (row.evB b) ++ (if row.evB b ((i : Int) + 1) = true then [(i : Int) + 1] else []) := by
        rw [upTo_succ, List.filter_append]
        congr 1
        by_cases z : row.evB b ((i : Int) + 1) = true
        · rw [if_pos z, List.filter_cons_of_pos z]; rfl
        · rw [if_neg z, List.filter_cons_of_neg z]; rfl
      show (if row.evB b ((i : Int) + 1) = true then _ else _)
      by_cases z : row.evB b ((i : Int) + 1) = true
      · rw [if_pos z]
        rw [if_pos z] at eu
        refine ⟨_, rfl, _, rfl, _, rfl, _, _, rfl, rfl, (by show 2 ≤ sizeLine; decide), fun t ht => ?_⟩
        have s2 := same_new (o := .tup [.int ((i : Int) + 1), .int (b - ((i : Int) + 1))]) ht
        have h2 : upd H' t (.tup [.int ((i : Int) + 1), .int (b - ((i : Int) + 1))]) t = some (.tup [.int ((i : Int) + 1), .int (b - ((i : Int) + 1))]) := upd_same
        generalize upd H' t (.tup [.int ((i : Int) + 1), .int (b - ((i : Int) + 1))]) = H2 at s2 h2 ⊢
        refine ⟨vs, s2 _ _ hD, ?_, ?_⟩
        · have h1 := al.len
          have h3 := List.length_filter_le (row.evB b) (upTo i)
          rw [upTo_len] at h3
          exact Nat.lt_of_le_of_lt (show vs.length ≤ 1000 by omega) (by decide)
        · have keepD : ∀ c o, c ≠ D → H2 c = some o → upd H2 D (.lst (vs ++ [.ref t])) c = some o := fun c o n e => by rw [upd_ne n]; exact e
          refine ⟨vs ++ [.ref t], upd_same, fun c o e => keepD _ _ (ne_of_none e nD) (s2 _ _ (sD _ _ e)), ?_⟩
          rw [eu]
          have tD : t ≠ D := fun z => by rw [z, hD] at ht; cases ht
          have k1 : ∀ v c, PtV H' b v c → PtV (upd H2 D (.lst (vs ++ [.ref t]))) b v c := fun v c hv => by
            obtain ⟨t', e, h'⟩ := hv
            exact ⟨t', e, keepD _ _ (fun z => by rw [z, hD] at h'; cases h') (s2 _ _ h')⟩
          exact (al.mono k1).app ⟨⟨t, rfl, keepD _ _ tD h2⟩, trivial⟩
      · rw [if_neg z]
        rw [if_neg z, List.append_nil] at eu
        exact ⟨vs, hD, sD, by rw [eu]; exact al⟩
    · obtain ⟨vs, hD, sD, al⟩ := h
      exact kk _ _ sD (fun l' e => by rw [← V.ref.inj e]; exact nD) ⟨D, vs, rfl, hD, al⟩
end
end Ev
namespace Ev
open PySem L2 PySem.Spec PyProof.Rows RZ
def rngL (lo : Int) (n : Nat) : List Int := (List.range n).map fun (i : Nat) => lo + (i : Int)
theorem rngL_succ (lo : Int) (n : Nat) : rngL lo (n + 1) = rngL lo n ++ [lo + (n : Int)] := by
  unfold rngL
  rw [List.range_succ, List.map_append]
  rfl
theorem rngL_len (lo : Int) (n : Nat) : (rngL lo n).length = n := by simp [rngL]
def Row.ahead (row : Row) (a : Int) : List Int := (rngL a (8 * a + 30 - a).toNat).filter fun b => row.hv b a
def Row.bareB (row : Row) (put : Bool) (a b : Int) : Bool := if put = true then !row.hv (b - 1) a else !row.hv b (a + 1)
def Row.heavies (row : Row) (put : Bool) (a : Int) : List Int := (row.ahead a).filter (row.bareB put a)
def spHeavies : Sp := fun vs H Q _ => ∃ (l : Addr) (row : Row) (put : Bool) (a : Int), vs = [.ref l, .str (deedS put), .int a] ∧ RwAt H l row ∧ row.ok ∧ 1 ≤ a ∧ a ≤ 10 ∧
  ∀ (D : Addr) H', Same H H' → H' D = some (.lst ((row.heavies put a).map V.int)) → Q (.ref D) H'
theorem filter_snoc {α : Type} {p : α → Bool} {xs : List α} {x : α} : (xs ++ [x]).filter p = xs.filter p ++ (if p x = true then [x] else []) := by
  rw [List.filter_append]
  congr 1
  by_cases z : p x = true
  · rw [if_pos z, List.filter_cons_of_pos z]; rfl
  · rw [if_neg z, List.filter_cons_of_neg z]; rfl
theorem take_snoc {α : Type} {xs : List α} {i : Nat} {x : α} (h : xs[i]? = some x) : xs.take (i + 1) = xs.take i ++ [x] := by
  rw [List.take_succ, h]
  rfl
section
variable {P : Program} {w : World} {K : PySem.W.Frag} {mg : Str → Option Value} {base : Heap}
theorem scLHeavies : FnScope ["_law_some", "_law_deed", "_law_a", "_law_ahead", "_law_b"] ["_law_some", "_law_deed", "_law_a"] (defScope sLHeavies) := ⟨rfl, rfl, rfl, by decide +kernel, rfl, by decide +kernel, by decide +kernel⟩
theorem ok_heavies {f : Addr} {fd : FuncData} (F : Fun K "_law_heavies" "_law_heavies" sLHeavies f fd) (T : Blt mg) (D : Df P w K mg base 1 "_law_is_heavy" ["_law_some", "_law_heavier", "_law_lighter"] spHv) : FnOk P w K mg base CX0 2 f fd ["_law_some", "_law_deed", "_law_a"] spHeavies := by
  obtain ⟨f1, fd1, G1, g1, k1, b1⟩ := D.ex
  refine F.ok scLHeavies (fun vs H Q E h => ?_) (fun cdv A outer s H vs Q E hr h => ?_)
  · obtain ⟨l, row, put, a, rfl, _⟩ := h
    rfl
  · obtain ⟨l, row, put, a, rfl, hl, ok, a1, a2, kk⟩ := h
    refine ⟨_, (pss_cons (ps_setLc (i := 3) (own := [("_law_b", 4)]) (g := gName 4) (by rfl) scLHeavies.nd rfl rfl (sw_true rfl rfl rfl (by decide +kernel)) (pi_range2 (by rfl) T.range (pa_cons (pv 2) (pa_cons (pe_op op_add (pe_op op_mul pe_int (pv 2)) pe_int) pa_nil))) (blkOk_by (own := [("_law_b", 4)]) (N := ["_law_some", "_law_deed", "_law_a", "_law_ahead", "_law_b"]) (sc := defScope sLHeavies) (by decide +kernel)) (fun _ _ _ _ _ => pg_name (i := 4) scLHeavies.nd rfl (.inl rfl)) (fun _ _ _ _ _ => pts_one (pt_val (pe_call G1 hr (by rfl) g1 k1 b1 .nil pass0 (pa_cons (pv 0) (pa_cons (pv 4) (pa_cons (pv 2) pa_nil)))))) (fun _ _ _ _ _ => (pv 4)))
    (pss_cons (ps_if (pt_cmpR op_eq (pv 1) pe_str (nomark _))
      (pss_one (ps_ret (pe_lc (own := [("_law_b", 4)]) (g := gName 4) (by rfl) scLHeavies.nd (pi_list (pv 3)) (blkOk_by (own := [("_law_b", 4)]) (N := ["_law_some", "_law_deed", "_law_a", "_law_ahead", "_law_b"]) (sc := defScope sLHeavies) (by decide +kernel)) (fun _ _ _ _ _ => pg_name (i := 4) scLHeavies.nd rfl (.inl rfl)) (fun _ _ _ _ _ => pts_one (pt_not (pt_val (pe_call G1 hr (by rfl) g1 k1 b1 .nil pass0 (pa_cons (pv 0) (pa_cons (pe_op op_sub (pv 4) pe_int) (pa_cons (pv 2) pa_nil))))))) (fun _ _ _ _ _ => (pv 4))))) pss_nil)
    (pss_one (ps_ret (pe_lc (own := [("_law_b", 4)]) (g := gName 4) (by rfl) scLHeavies.nd (pi_list (pv 3)) (blkOk_by (own := [("_law_b", 4)]) (N := ["_law_some", "_law_deed", "_law_a", "_law_ahead", "_law_b"]) (sc := defScope sLHeavies) (by decide +kernel)) (fun _ _ _ _ _ => pg_name (i := 4) scLHeavies.nd rfl (.inl rfl)) (fun _ _ _ _ _ => pts_one (pt_not (pt_val (pe_call G1 hr (by rfl) g1 k1 b1 .nil pass0 (pa_cons (pv 0) (pa_cons (pv 4) (pa_cons (pe_op op_add (pv 2) pe_int) pa_nil))))))) (fun _ _ _ _ _ => (pv 4))))))), ?_⟩
    refine ⟨_, rfl, _, rfl, _, _, rfl, rfl, .inl ⟨by decide, by decide⟩, _, _, rfl, rfl, _, _, rfl, ⟨by omega, by omega, by omega, by omega⟩, fun D nD => lc_range (lo := a) (n := (8 * a + 30 - a).toNat) (fun i H' => Same H H' ∧ H' D = some (.lst (((rngL a i).filter fun b => row.hv b a).map V.int))) ⟨same_new nD, upd_same⟩ (fun i H' hi h => ?_) (fun H' h => ?_)⟩
    · obtain ⟨sD, hD⟩ := h
      refine ⟨rfl, _, rfl, _, rfl, _, rfl, l, row, _, _, rfl, sD _ _ hl, ok, _, rfl, ?_⟩
      have eu := filter_snoc (p := fun b => row.hv b a) (xs := rngL a i) (x := a + (i : Int))
      rw [← rngL_succ] at eu
      show (if row.hv (a + (i : Int)) a = true then _ else _)
      by_cases z : row.hv (a + (i : Int)) a = true
      · rw [if_pos z]
        rw [if_pos z] at eu
        refine ⟨_, rfl, _, hD, ?_, fun c o e => ?_, ?_⟩
        · rw [List.length_map]
          have h3 := List.length_filter_le (fun b => row.hv b a) (rngL a i)
          rw [rngL_len] at h3
          exact Nat.lt_of_le_of_lt (show _ ≤ 1000 by omega) (by decide)
        · rw [upd_ne (ne_of_none e nD)]; exact sD _ _ e
        · rw [eu, List.map_append]
          exact upd_same
      · rw [if_neg z]
        rw [if_neg z, List.append_nil] at eu
        exact ⟨sD, by rw [eu]; exact hD⟩
    · obtain ⟨sD, hD⟩ := h
      have hD : H' D = some (.lst ((row.ahead a).map V.int)) := hD
      have hl' := sD _ _ hl
      have len : (row.ahead a).length ≤ 1000 := by
        have h3 := List.length_filter_le (fun b => row.hv b a) (rngL a (8 * a + 30 - a).toNat)
        rw [rngL_len] at h3
        exact Nat.le_trans h3 (by omega)
      have small : ∀ {i : Nat} {p : Int → Bool}, (((row.ahead a).take i).filter p).length < sizeLine := fun {i p} => by
        have h3 := List.length_filter_le p ((row.ahead a).take i)
        rw [List.length_take] at h3
        exact Nat.lt_of_le_of_lt (show _ ≤ 1000 by omega) (by decide)
      refine ⟨_, rfl, rfl, _, rfl, ?_⟩
      cases put with
      | true =>
        rw [show decide (V.str (deedS true) = V.str "put") = true by decide +kernel]
        refine iteT ⟨_, rfl, D, rfl, ⟨_, SqL.of hD⟩, fun E1 nE => lc_list (K := K) (a := D) (xs := (row.ahead a).map V.int) (fun i G => Same H' G ∧ G E1 = some (.lst ((((row.ahead a).take i).filter (row.bareB true a)).map V.int))) ⟨same_new nE, upd_same⟩ (fun i G _ h => SqL.of (h.1 _ _ hD)) (fun i v G hi h => ?_) (fun G h => ?_)⟩
        · obtain ⟨sE, hE⟩ := h
          rw [List.getElem?_map] at hi
          obtain ⟨b, eb, rfl⟩ := Option.map_eq_some_iff.mp hi
          refine ⟨rfl, _, rfl, _, rfl, _, _, rfl, rfl, _, rfl, l, row, _, _, rfl, sE _ _ hl', ok, _, rfl, ?_⟩
          have eu := filter_snoc (p := row.bareB true a) (xs := (row.ahead a).take i) (x := b)
          rw [← take_snoc eb] at eu
          show (if row.bareB true a b = true then _ else _)
          by_cases z : row.bareB true a b = true
          · rw [if_pos z]
            rw [if_pos z] at eu
            refine ⟨_, rfl, _, hE, by rw [List.length_map]; exact small, fun c o e => by rw [upd_ne (ne_of_none e nE)]; exact sE _ _ e, ?_⟩
            rw [eu, List.map_append]
            exact upd_same
          · rw [if_neg z]
            rw [if_neg z, List.append_nil] at eu
            exact ⟨sE, by rw [eu]; exact hE⟩
        · obtain ⟨sE, hE⟩ := h
          rw [List.length_map, List.take_length] at hE
          exact kk _ _ (sD.trans sE) hE
      | false =>
        rw [show decide (V.str (deedS false) = V.str "put") = false by decide +kernel]
        refine iteF ⟨_, rfl, D, rfl, ⟨_, SqL.of hD⟩, fun E1 nE => lc_list (K := K) (a := D) (xs := (row.ahead a).map V.int) (fun i G => Same H' G ∧ G E1 = some (.lst ((((row.ahead a).take i).filter (row.bareB false a)).map V.int))) ⟨same_new nE, upd_same⟩ (fun i G _ h => SqL.of (h.1 _ _ hD)) (fun i v G hi h => ?_) (fun G h => ?_)⟩
        · obtain ⟨sE, hE⟩ := h
          rw [List.getElem?_map] at hi
          obtain ⟨b, eb, rfl⟩ := Option.map_eq_some_iff.mp hi
          refine ⟨rfl, _, rfl, _, rfl, _, rfl, _, _, rfl, rfl, l, row, _, _, rfl, sE _ _ hl', ok, _, rfl, ?_⟩
          have eu := filter_snoc (p := row.bareB false a) (xs := (row.ahead a).take i) (x := b)
          rw [← take_snoc eb] at eu
          show (if row.bareB false a b = true then _ else _)
          by_cases z : row.bareB false a b = true
          · rw [if_pos z]
            rw [if_pos z] at eu
            refine ⟨_, rfl, _, hE, by rw [List.length_map]; exact small, fun c o e => by rw [upd_ne (ne_of_none e nE)]; exact sE _ _ e, ?_⟩
            rw [eu, List.map_append]
            exact upd_same
          · rw [if_neg z]
            rw [if_neg z, List.append_nil] at eu
            exact ⟨sE, by rw [eu]; exact hE⟩
        · obtain ⟨sE, hE⟩ := h
          rw [List.length_map, List.take_length] at hE
          exact kk _ _ (sD.trans sE) hE
end
end Ev
namespace Ev
open PySem L2 PySem.Spec PyProof.Rows RZ
/-! Rows of what the law has seen: lists of breaks that are not the list that grows. -/
theorem BkAll.but {K : PySem.W.Frag} {H H' : Hp} {l : Addr} {xs : List V} (hl : H l = some (.lst xs)) (s : But l H H') : ∀ {vs : List V} {bs : List Bk}, BkAll K H vs bs → BkAll K H' vs bs
  | [], [], _ => trivial
  | _ :: _, _ :: _, h => ⟨h.1.but hl ⟨fun _ z => (by cases z), fun _ _ z => (by cases z)⟩ s, BkAll.but hl s h.2⟩
  | [], _ :: _, h => h.elim
  | _ :: _, [], h => h.elim
/-- a list of breaks other than l, or None -/
def OL (K : PySem.W.Frag) (H : Hp) (l : Addr) (v : V) : Option (List Bk) → Prop
  | none => v = .non
  | some bs => ∃ (a : Addr) (vs : List V), v = .ref a ∧ a ≠ l ∧ H a = some (.lst vs) ∧ BkAll K H vs bs
theorem OL.keep {K : PySem.W.Frag} {H H' : Hp} {l : Addr} {v : V} {o : Option (List Bk)} (h : OL K H l v o) (s : Same H H') : OL K H' l v o := by
  cases o with
  | none => exact h
  | some bs =>
    obtain ⟨a, vs, e, n, h1, h2⟩ := h
    exact ⟨a, vs, e, n, s _ _ h1, h2.keep s⟩
theorem OL.but {K : PySem.W.Frag} {H H' : Hp} {l : Addr} {v : V} {o : Option (List Bk)} {xs : List V} (h : OL K H l v o) (hl : H l = some (.lst xs)) (s : But l H H') : OL K H' l v o := by
  cases o with
  | none => exact h
  | some bs =>
    obtain ⟨a, vs, e, n, h1, h2⟩ := h
    exact ⟨a, vs, e, n, s _ _ n h1, h2.but hl s⟩
theorem OL.new {K : PySem.W.Frag} {H : Hp} {l l' : Addr} {v : V} {o : Option (List Bk)} (h : OL K H l v o) (n : H l' = none) : OL K H l' v o := by
  cases o with
  | none => exact h
  | some bs =>
    obtain ⟨a, vs, e, _, h1, h2⟩ := h
    exact ⟨a, vs, e, fun z => (by rw [z, n] at h1; cases h1), h1, h2⟩
theorem BkL.ol {K : PySem.W.Frag} {H : Hp} {l : Addr} {v : V} {bs : List Bk} (h : BkL K H v bs) (n : ∀ a, v = .ref a → a ≠ l) : OL K H l v (some bs) := by
  obtain ⟨a, vs, e, h1, h2⟩ := h
  exact ⟨a, vs, e, n a e, h1, h2⟩
def RwV (K : PySem.W.Frag) (H : Hp) (l : Addr) (v : V) (r : Rw) : Prop := ∃ (t n : Addr) (v1 v2 : V), v = .ref t ∧ H t = some (.tup [v1, v2, .ref n]) ∧ OL K H l v1 r.1 ∧ OL K H l v2 r.2.1 ∧ H n = some (.tup (r.2.2.map V.int))
def TwV (K : PySem.W.Frag) (H : Hp) (l : Addr) (v : V) (x : List Bk × List Int) : Prop := ∃ (t n : Addr) (v1 : V), v = .ref t ∧ H t = some (.tup [v1, .ref n]) ∧ OL K H l v1 (some x.1) ∧ H n = some (.tup (x.2.map V.int))
theorem RwV.keep {K : PySem.W.Frag} {H H' : Hp} {l : Addr} {v : V} {r : Rw} (s : Same H H') (h : RwV K H l v r) : RwV K H' l v r := by
  obtain ⟨t, n, v1, v2, e, h1, h2, h3, h4⟩ := h
  exact ⟨t, n, v1, v2, e, s _ _ h1, h2.keep s, h3.keep s, s _ _ h4⟩
theorem RwV.but {K : PySem.W.Frag} {H H' : Hp} {l : Addr} {v : V} {r : Rw} {xs : List V} (hl : H l = some (.lst xs)) (s : But l H H') (h : RwV K H l v r) : RwV K H' l v r := by
  obtain ⟨t, n, v1, v2, e, h1, h2, h3, h4⟩ := h
  exact ⟨t, n, v1, v2, e, s _ _ (ne_of h1 hl (by intro z; cases z)) h1, h2.but hl s, h3.but hl s, s _ _ (ne_of h4 hl (by intro z; cases z)) h4⟩
theorem RwV.new {K : PySem.W.Frag} {H : Hp} {l l' : Addr} {v : V} {r : Rw} (n : H l' = none) (h : RwV K H l v r) : RwV K H l' v r := by
  obtain ⟨t, m, v1, v2, e, h1, h2, h3, h4⟩ := h
  exact ⟨t, m, v1, v2, e, h1, h2.new n, h3.new n, h4⟩
theorem TwV.keep {K : PySem.W.Frag} {H H' : Hp} {l : Addr} {v : V} {x : List Bk × List Int} (s : Same H H') (h : TwV K H l v x) : TwV K H' l v x := by
  obtain ⟨t, n, v1, e, h1, h2, h4⟩ := h
  exact ⟨t, n, v1, e, s _ _ h1, h2.keep s, s _ _ h4⟩
theorem TwV.but {K : PySem.W.Frag} {H H' : Hp} {l : Addr} {v : V} {x : List Bk × List Int} {xs : List V} (hl : H l = some (.lst xs)) (s : But l H H') (h : TwV K H l v x) : TwV K H' l v x := by
  obtain ⟨t, n, v1, e, h1, h2, h4⟩ := h
  exact ⟨t, n, v1, e, s _ _ (ne_of h1 hl (by intro z; cases z)) h1, h2.but hl s, s _ _ (ne_of h4 hl (by intro z; cases z)) h4⟩
theorem TwV.new {K : PySem.W.Frag} {H : Hp} {l l' : Addr} {v : V} {x : List Bk × List Int} (n : H l' = none) (h : TwV K H l v x) : TwV K H l' v x := by
  obtain ⟨t, m, v1, e, h1, h2, h4⟩ := h
  exact ⟨t, m, v1, e, h1, h2.new n, h4⟩
/-- the rows, told -/
def SeenV (K : PySem.W.Frag) (H : Hp) (v : V) (rs : List Rw) : Prop := ∃ (l : Addr) (vs : List V), v = .ref l ∧ H l = some (.lst vs) ∧ All2 (RwV K H l) vs rs
def spSeen (K : PySem.W.Frag) : Sp := fun vs H Q _ => ∃ (l : Addr) (row : Row) (a b : Int), vs = [.ref l, .int a, .int b] ∧ RwAt H l row ∧ row.ok ∧ (1 ≤ a ∧ a ≤ 1000) ∧ (1 ≤ b ∧ b ≤ 60) ∧
  ∀ v H', Same H H' → SeenV K H' v (row.rows ⟨row.p, row.q, row.k, a, b⟩) → Q v H'
end Ev
namespace Ev
open PySem L2 PySem.Spec PyProof.Rows RZ
/-! Wrongs are the same. -/
structure InsT (K : PySem.W.Frag) (C : Addr) : Prop where
  ha : PySem.W.findIn K (.ref C) "__class__" = some (some (.builtin "object.__class__"))
  hn : PySem.W.specialIn K (.builtin "object.__class__") "__get__" = some (some (.builtin "getset_descriptor.__get__"))
  htk : PySem.W.takesIn K (.builtin "object.__class__") = some true
  hm : PySem.W.mroIn K C (.type "object") = some true
  ic : PySem.W.isClsIn K C = true
  tt : PySem.W.typeIn K (.ref C) = some (.type "type")
theorem tyI {K : PySem.W.Frag} {C : Addr} {H : Hp} {x dx : Addr} {fs : List (Str × V)} (cl : Cls K C) (it : InsT K C) (h : H x = some (.ins C dx fs)) : TyX K H (.ref x) (.ref C) := .base (.ins h cl it.ha it.hn it.htk it.hm)
theorem kit_self {K : PySem.W.Frag} {C : Addr} : PySem.W.kitOne K (.ref C) (.ref C) = some true := by
  unfold PySem.W.kitOne
  rw [if_pos (by simp)]
def WrAt (K : PySem.W.Frag) (W : Addr) (H : Hp) (x : Addr) (put : Bool) (o t : Option Bk) (ns : List Int) : Prop := ∃ (dx b : Addr) (v1 v2 : V), H x = some (.ins W dx (wrongF (.str (deedS put)) v1 v2 (.ref b))) ∧ BkV K H v1 o ∧ BkV K H v2 t ∧ H b = some (.tup (ns.map V.int))
theorem eqvAll_ints : ∀ a b : List Int, PyData.eqvAll (a.map PyData.int) (b.map PyData.int) = decide (a = b)
  | [], [] => rfl
  | [], _ :: _ => rfl
  | _ :: _, [] => rfl
  | x :: a, y :: b => by
    have ih := eqvAll_ints a b
    show (PyData.eqv (.int x) (.int y) && PyData.eqvAll (a.map PyData.int) (b.map PyData.int)) = decide (x :: a = y :: b)
    rw [ih]
    have e : PyData.eqv (.int x) (.int y) = decide (x = y) := by
      show (x == y) = decide (x = y)
      by_cases z : x = y <;> simp [z]
    rw [e]
    by_cases h1 : x = y <;> by_cases h2 : a = b <;> simp [h1, h2]
theorem eqv_intsT (a b : List Int) : PyData.eqv (.tuple (a.map PyData.int)) (.tuple (b.map PyData.int)) = decide (a = b) := by
  have := eqvAll_ints a b
  simpa [PyData.eqv] using this
theorem sh_intsT (ns : List Int) : SeqAt.shaped (.tuple (ns.map PyData.int)) = true := by
  have h1 : ∀ ns : List Int, PyData.canLayAll0 (ns.map PyData.int) = true := by
    intro ns
    induction ns with
    | nil => rfl
    | cons n r ih => simp [PyData.canLayAll0, PyData.canLay0, ih]
  have h2 : ∀ ns : List Int, PyData.depthAll (ns.map PyData.int) ≤ 1 := by
    intro ns
    induction ns with
    | nil => simp [PyData.depthAll]
    | cons n r ih => simp [PyData.depthAll, PyData.depth]; omega
  unfold SeqAt.shaped
  rw [Bool.and_eq_true]
  refine ⟨by simp [PyData.canLay0, h1], decide_eq_true ?_⟩
  have := h2 ns
  simp [PyData.depth]; omega
theorem deed_eqv (p q : Bool) : PyData.eqv (.str (deedS p)) (.str (deedS q)) = decide (p = q) := by cases p <;> cases q <;> decide +kernel
theorem deed_sh (p : Bool) : SeqAt.shaped (.str (deedS p)) = true := by cases p <;> decide +kernel
def spWrE (K : PySem.W.Frag) (W : Addr) : Sp := fun vs H Q _ => ∃ (x y : Addr) (p q : Bool) (o1 t1 o2 t2 : Option Bk) (n1 n2 : List Int), vs = [.ref x, .ref y] ∧ WrAt K W H x p o1 t1 n1 ∧ WrAt K W H y q o2 t2 n2 ∧ Q (.bl (decide (p = q) && (decide (o1 = o2) && (decide (t1 = t2) && decide (n1 = n2))))) H
def spWrB (K : PySem.W.Frag) (W : Addr) : Sp := fun vs H Q _ => ∃ v : V, vs = [v] ∧ Q (.bl false) H
section
variable {P : Program} {w : World} {K : PySem.W.Frag} {mg : Str → Option Value} {base : Heap}
theorem scWrong_bool : FnScope ["self"] ["self"] (defScope sWrong_bool) := ⟨rfl, rfl, rfl, by decide +kernel, rfl, by decide +kernel, by decide +kernel⟩
theorem ok_wrB {f C : Addr} {fd : FuncData} (F : Fun K "__bool__" "Wrong.__bool__" sWrong_bool f fd) : FnOk P w K mg base CX0 1 f fd ["self"] (spWrB K C) := by
  refine F.ok scWrong_bool (fun vs H Q E h => ?_) (fun cdv A outer s H vs Q E hr h => ?_)
  · obtain ⟨v, rfl, _⟩ := h
    rfl
  · obtain ⟨v, rfl, k⟩ := h
    exact ⟨_, (pss_one (ps_ret pe_bl)), k⟩
theorem scWrong_eq : FnScope ["self", "other"] ["self", "other"] (defScope sWrong_eq) := ⟨rfl, rfl, rfl, by decide +kernel, rfl, by decide +kernel, by decide +kernel⟩
theorem ok_wrE {f C : Addr} {fd : FuncData} (F : Fun K "__eq__" "Wrong.__eq__" sWrong_eq f fd) (T : Blt mg) (TC : WC K C) (IT : InsT K C) (gC : mg "Wrong" = some (.ref C)) : FnOk P w K mg base CX0 1 f fd ["self", "other"] (spWrE K C) := by
  refine F.ok scWrong_eq (fun vs H Q E h => ?_) (fun cdv A outer s H vs Q E hr h => ?_)
  · obtain ⟨x, y, p, q, o1, t1, o2, t2, n1, n2, rfl, _⟩ := h
    rfl
  · obtain ⟨x, y, p, q, o1, t1, o2, t2, n1, n2, rfl, ⟨dx, bx, v1, v2, hx, b1, b2, hbx⟩, ⟨dy, by', w1, w2, hy, c1, c2, hby⟩, k⟩ := h
    have hu : (cxOf CX0 P w K mg base ["self", "other"] "Wrong.__eq__" (defScope sWrong_eq) f cdv A outer s H E).nox.A.units + 64 < cLine := Room.units hr
    refine ⟨_, (pss_one (ps_ret (pe_and (pe_callB call_isi (by rfl) T.isi (by decide +kernel) (pa_cons (pv 1) (pa_cons (pe_glob (v := .ref C) rfl gC rfl) pa_nil))) (pe_and (pe_cmpR (op_eqD hu) (pe_fld (pv 0) rfl) (pe_fld (pv 1) rfl) (nomark _)) (pe_and (pe_cmpR (op_eqD hu) (pe_fld (pv 0) rfl) (pe_fld (pv 1) rfl) (nomark _)) (pe_and (pe_cmpR (op_eqD hu) (pe_fld (pv 0) rfl) (pe_fld (pv 1) rfl) (nomark _)) (pe_one (pe_cmpR (op_eqD hu) (pe_fld (pv 0) rfl) (pe_fld (pv 1) rfl) (nomark _))))))))), ?_⟩
    refine ⟨_, rfl, _, _, _, _, true, rfl, .own C, tyI TC.cl IT hy, kit_self, _, rfl, iteT ⟨_, rfl, x, C, dx, _, _, rfl, hx, TC.cl, TC.n1, wl1 _ _ _ _, _, rfl, y, C, dy, _, _, rfl, hy, TC.cl, TC.n1, wl1 _ _ _ _, .str (deedS p), .str (deedS q), .str _, .str _, deed_sh p, deed_sh q, ?_⟩⟩
    rw [deed_eqv]
    refine ⟨_, rfl, ?_⟩
    cases e1 : decide (p = q) with
    | false => rw [e1] at k; exact iteF k
    | true =>
    rw [e1] at k
    refine iteT ⟨_, rfl, x, C, dx, _, _, rfl, hx, TC.cl, TC.n2, wl2 _ _ _ _, _, rfl, y, C, dy, _, _, rfl, hy, TC.cl, TC.n2, wl2 _ _ _ _, bkD o1, bkD o2, b1.dp, c1.dp, bkD_shaped o1, bkD_shaped o2, ?_⟩
    rw [bkD_eqv]
    refine ⟨_, rfl, ?_⟩
    cases e2 : decide (o1 = o2) with
    | false => rw [e2] at k; exact iteF k
    | true =>
    rw [e2] at k
    refine iteT ⟨_, rfl, x, C, dx, _, _, rfl, hx, TC.cl, TC.n3, wl3 _ _ _ _, _, rfl, y, C, dy, _, _, rfl, hy, TC.cl, TC.n3, wl3 _ _ _ _, bkD t1, bkD t2, b2.dp, c2.dp, bkD_shaped t1, bkD_shaped t2, ?_⟩
    rw [bkD_eqv]
    refine ⟨_, rfl, ?_⟩
    cases e3 : decide (t1 = t2) with
    | false => rw [e3] at k; exact iteF k
    | true =>
    rw [e3] at k
    refine iteT ⟨_, rfl, x, C, dx, _, _, rfl, hx, TC.cl, TC.n4, wl4 _ _ _ _, _, rfl, y, C, dy, _, _, rfl, hy, TC.cl, TC.n4, wl4 _ _ _ _, .tuple (n1.map PyData.int), .tuple (n2.map PyData.int), .tup (SqT.of hbx) (dpInts n1), .tup (SqT.of hby) (dpInts n2), sh_intsT n1, sh_intsT n2, ?_⟩
    rw [eqv_intsT]
    exact k
end
end Ev
namespace Ev
open PySem L2 PySem.Spec PyProof.Rows RZ
section
variable {X : Cx}
/-- x in a list of data -/
def rInL (K : PySem.W.Frag) : R2 := fun x y H Q => ∃ d ds, Dp K H x d ∧ Dp K H y (.list ds) ∧ SeqAt.shaped d = true ∧ SeqAt.shaped (.list ds) = true ∧ Q (.bl (ds.any fun z => PyData.eqv z d)) H
theorem op_inL (hu : X.A.units + 65 < cLine) : OpR X (compareOp .In) (rInL X.K) := by
  intro pins s σ H x y v u Q I rx ry h
  obtain ⟨d, ds, hd, he, sd, se, q⟩ := h
  obtain ⟨as, r1⟩ := Dp.reads I d x v hd rx
  obtain ⟨bs, r2⟩ := Dp.reads I (.list ds) y u he ry
  exact SeqAt.in_list_reads r2 r1 (SeqAt.canLay_of_shaped se) (SeqAt.canLay_of_shaped sd) (room_in_shaped sd hu) ⟨.bl _, H, I, rfl, q⟩
end
theorem bks_shaped (bs : List Bk) : SeqAt.shaped (.list (bs.map fun b => bkD (some b))) = true := by
  have c0 : ∀ b : Bk, PyData.canLay0 (bkD (some b)) = true := fun b => by cases b <;> decide +kernel
  have d0 : ∀ b : Bk, PyData.depth (bkD (some b)) ≤ 3 := fun b => by cases b <;> decide +kernel
  have h1 : ∀ bs : List Bk, PyData.canLayAll0 (bs.map fun b => bkD (some b)) = true := by
    intro bs
    induction bs with
    | nil => rfl
    | cons b r ih => simp [PyData.canLayAll0, c0, ih]
  have h2 : ∀ bs : List Bk, PyData.depthAll (bs.map fun b => bkD (some b)) ≤ 3 := by
    intro bs
    induction bs with
    | nil => simp [PyData.depthAll]
    | cons b r ih =>
      have := d0 b
      simp [PyData.depthAll]; omega
  unfold SeqAt.shaped
  rw [Bool.and_eq_true]
  refine ⟨by simp [PyData.canLay0, h1], decide_eq_true ?_⟩
  have := h2 bs
  simp [PyData.depth]; omega
theorem bks_any (b : Bk) : ∀ bs : List Bk, ((bs.map fun b => bkD (some b)).any fun z => PyData.eqv z (bkD (some b))) = decide (b ∈ bs)
  | [] => rfl
  | c :: bs => by
    rw [List.map_cons, List.any_cons, bkD_eqv, bks_any b bs]
    by_cases h1 : c = b
    · subst h1; simp
    · have : ¬ b = c := fun z => h1 z.symm
      simp [h1, this]
/-- a break in a list of breaks -/
theorem in_bks {K : PySem.W.Frag} {H : Hp} {v : V} {l : Addr} {vs : List V} {b : Bk} {bs : List Bk} {Q : VK} (hv : BkV K H v (some b)) (hl : H l = some (.lst vs)) (al : BkAll K H vs bs) (k : Q (.bl (decide (b ∈ bs))) H) : rInL K v (.ref l) H Q := by
  refine ⟨_, _, hv.dp, .lst (SqL.of hl) al.dp, bkD_shaped _, bks_shaped bs, ?_⟩
  rw [bks_any]
  exact k
end Ev
namespace Ev
open PySem L2 PySem.Spec PyProof.Rows RZ
/-! The law's own order of the breaks. -/
def OrV (K : PySem.W.Frag) (H : Hp) (v : V) (x : Option Bk × Option Bk) : Prop := ∃ (t : Addr) (v1 v2 : V), v = .ref t ∧ H t = some (.tup [v1, v2]) ∧ BkV K H v1 x.1 ∧ BkV K H v2 x.2
theorem OrV.keep {K : PySem.W.Frag} {H H' : Hp} (s : Same H H') (v : V) (x : Option Bk × Option Bk) (h : OrV K H v x) : OrV K H' v x := by
  obtain ⟨t, v1, v2, e, h1, h2, h3⟩ := h
  exact ⟨t, v1, v2, e, s _ _ h1, h2.keep s, h3.keep s⟩
theorem OrV.but {K : PySem.W.Frag} {H H' : Hp} {l : Addr} {xs : List V} (hl : H l = some (.lst xs)) (s : But l H H') (v : V) (x : Option Bk × Option Bk) (h : OrV K H v x) : OrV K H' v x := by
  obtain ⟨t, v1, v2, e, h1, h2, h3⟩ := h
  have nt : (∀ ys, (HO.lst xs) ≠ .tup ys) ∧ ∀ o ys, (HO.lst xs) ≠ .frz o ys := ⟨fun _ z => (by cases z), fun _ _ z => (by cases z)⟩
  exact ⟨t, v1, v2, e, s _ _ (ne_of h1 hl (by intro z; cases z)) h1, h2.but hl nt s, h3.but hl nt s⟩
theorem BkAll.get {K : PySem.W.Frag} {H : Hp} : ∀ {vs : List V} {bs : List Bk}, BkAll K H vs bs → ∀ {i : Nat} {v : V}, vs[i]? = some v → ∃ b, bs[i]? = some b ∧ BkV K H v (some b)
  | [], [], _, i, v, e => by cases e
  | _ :: _, _ :: _, h, 0, v, e => ⟨_, rfl, by rw [← Option.some.inj e]; exact h.1⟩
  | _ :: _, _ :: _, h, i + 1, v, e => BkAll.get h.2 (i := i) e
  | [], _ :: _, h, _, _, _ => h.elim
  | _ :: _, [], h, _, _, _ => h.elim
def OrdV (K : PySem.W.Frag) (H : Hp) (v : V) (ord : List (Option Bk × Option Bk)) : Prop := ∃ (l : Addr) (vs : List V), v = .ref l ∧ H l = some (.lst vs) ∧ All2 (OrV K H) vs ord
def spOrder (K : PySem.W.Frag) : Sp := fun vs H Q _ => ∃ (l : Addr) (row : Row), vs = [.ref l] ∧ RwAt H l row ∧ ∀ v H', Same H H' → OrdV K H' v row.order → Q v H'
/-- the nodes that the loop goes through -/
def ndS : Nat → Str | 0 => "light" | 1 => "far" | _ => "top"
def ndB : Nat → Bk × Bk | 0 => (.li1, .li2) | 1 => (.fa1, .fa2) | _ => (.to1, .to2)
def onU : Nat → List Bk | 0 => [] | 1 => [.li1, .li2] | 2 => [.li1, .li2] | _ => [.li1, .li2, .to1, .to2]
def twU : Nat → List Bk | 0 => [.st] | 1 => [.st, .li1, .li2] | 2 => [.st, .li1, .li2, .fa1, .fa2] | _ => [.st, .li1, .li2, .fa1, .fa2, .to1, .to2]
theorem ndB_n : ∀ i, i < 3 → (ndB i).1.n = ndS i ∧ (ndB i).2.n = ndS i ∧ (ndB i).1.s = "first" ∧ (ndB i).2.s = "second"
  | 0, _ => ⟨rfl, rfl, rfl, rfl⟩
  | 1, _ => ⟨rfl, rfl, rfl, rfl⟩
  | 2, _ => ⟨rfl, rfl, rfl, rfl⟩
  | _ + 3, h => absurd h (by omega)
section
variable {P : Program} {w : World} {K : PySem.W.Frag} {mg : Str → Option Value} {base : Heap}
theorem scLOrder : FnScope ["_law_some", "_law_once", "_law_twice", "_law_node", "_law_both", "_law_one", "_law_two", "_law_found"] ["_law_some"] (defScope sLOrder) := ⟨rfl, rfl, rfl, by decide +kernel, rfl, by decide +kernel, by decide +kernel⟩
/-- the comprehension over breaks: each is put into a tuple -/
theorem lc_or {la : Addr} {σ : L2.St} {xs : List V} {bs : List Bk} {G : Hp} {D : Addr} {Qd : Hp → Prop} {g : TG} {te : TE} {vs : List Nat} (mkO : Bk → Option Bk × Option Bk) (nD : G D = none) (hl : G la = some (.lst xs)) (al : BkAll K G xs bs) (b10 : bs.length ≤ 10)
    (step : ∀ (x : V) (b : Bk) (H : Hp) (R : VK), Same G H → BkV K H x (some b) → (∀ t H', Same H H' → H t = none → OrV K H' (.ref t) (mkO b) → R (.ref t) H') → g x (wipe σ vs) H fun σ2 H2 => wipe σ2 vs = wipe σ vs ∧ te σ2 H2 R)
    (fin : ∀ (H : Hp) (us : List V), Same G H → H D = some (.lst us) → All2 (OrV K H) us (bs.map mkO) → Qd H) :
    ∃ W : Nat → Nat → Hp → Prop, (∃ m, W 0 m (upd G D (HO.lst []))) ∧ ∀ (i m : Nat) (H : Hp), W i m H → (Itl K la).stop i H ∧ Qd H ∨ (Itl K la).go i H ∧ ∃ Nx : Hp → Prop, (∀ (H' : Hp), Nx H' → ∃ m', m' < m ∧ W (i + 1) m' H') ∧
      ∀ (x : V) (H' : Hp), (Itl K la).yld i H x H' → g x (wipe σ vs) H' fun σ2 H2 => wipe σ2 vs = wipe σ vs ∧ tYes σ2 H2 fun b H3 =>
        if b = true then te σ2 H3 fun y H4 => ∃ acc, H4 D = some (HO.lst acc) ∧ acc.length < sizeLine ∧ Nx (upd H4 D (HO.lst (acc ++ [y]))) else Nx H3 := by
  refine lc_list (K := K) (a := la) (xs := xs) (fun i H => Same G H ∧ ∃ us : List V, H D = some (.lst us) ∧ All2 (OrV K H) us ((bs.take i).map mkO)) ⟨same_new nD, [], upd_same, trivial⟩ (fun i H _ h => SqL.of (h.1 _ _ hl)) (fun i x H hi h => ?_) (fun H h => ?_)
  · obtain ⟨sg, us, hD, a2⟩ := h
    have hb := al.get hi
    obtain ⟨b, eb, hx⟩ := hb
    have st := step x b H (fun y H4 => ∃ acc, H4 D = some (HO.lst acc) ∧ acc.length < sizeLine ∧ (fun H => Same G H ∧ ∃ us : List V, H D = some (.lst us) ∧ All2 (OrV K H) us ((bs.take (i + 1)).map mkO)) (upd H4 D (HO.lst (acc ++ [y])))) sg (hx.keep sg) (fun t H' s' nt o => ?_)
    · exact st
    · refine ⟨us, s' _ _ hD, ?_, fun c o' e => ?_, us ++ [.ref t], upd_same, ?_⟩
      · have := a2.len
        rw [List.length_map, List.length_take] at this
        exact Nat.lt_of_le_of_lt (show us.length ≤ 10 by omega) (by decide)
      · rw [upd_ne (ne_of_none e nD)]; exact s' _ _ (sg _ _ e)
      · rw [take_snoc eb, List.map_append]
        have u : But D H' (upd H' D (.lst (us ++ [.ref t]))) := But.upd_at
        exact ((a2.mono (OrV.keep s')).mono (OrV.but (s' _ _ hD) u)).app ⟨OrV.but (s' _ _ hD) u _ _ o, trivial⟩
  · obtain ⟨sg, us, hD, a2⟩ := h
    have e : xs.length = bs.length := al.len
    rw [e, List.take_length] at a2
    exact fin H us sg hD a2
end
end Ev
set_option maxHeartbeats 1000000
namespace Ev
open PySem L2 PySem.Spec PyProof.Rows RZ
theorem ext_ok (K : PySem.W.Frag) (H : Hp) (a b : Addr) (i : Nat) (hi : i < 3) (h1 : H a = some (.tup [.str (ndS i), .str "first"])) (h2 : H b = some (.tup [.str (ndS i), .str "second"])) : BkAll K H [.ref a, .ref b] [(ndB i).1, (ndB i).2] := by
  obtain ⟨e1, e2, e3, e4⟩ := ndB_n i hi
  exact ⟨⟨a, rfl, by rw [e1, e3]; exact SqT.of h1⟩, ⟨b, rfl, by rw [e2, e4]; exact SqT.of h2⟩, trivial⟩
theorem onU_succ (i : Nat) (hi : i < 3) : onU (i + 1) = onU i ++ (if i = 1 then [] else [(ndB i).1, (ndB i).2]) := by
  match i, hi with
  | 0, _ => rfl
  | 1, _ => rfl
  | 2, _ => rfl
theorem twU_succ (i : Nat) (hi : i < 3) : twU (i + 1) = twU i ++ [(ndB i).1, (ndB i).2] := by
  match i, hi with
  | 0, _ => rfl
  | 1, _ => rfl
  | 2, _ => rfl
theorem onU_len (i : Nat) (hi : i < 3) : (onU i).length ≤ 4 := by
  match i, hi with
  | 0, _ => decide
  | 1, _ => decide
  | 2, _ => decide
theorem twU_len (i : Nat) (hi : i < 3) : (twU i).length ≤ 5 := by
  match i, hi with
  | 0, _ => decide
  | 1, _ => decide
  | 2, _ => decide
theorem nd_far (i : Nat) (hi : i < 3) : decide (V.str (ndS i) = V.str "far") = decide (i = 1) := by
  match i, hi with
  | 0, _ => decide +kernel
  | 1, _ => decide +kernel
  | 2, _ => decide +kernel
theorem nd_at {i : Nat} {v : V} (h : ([.str "light", .str "far", .str "top"] : List V)[i]? = some v) : i < 3 ∧ v = .str (ndS i) := by
  match i, h with
  | 0, h => exact ⟨by decide, (Option.some.inj h).symm⟩
  | 1, h => exact ⟨by decide, (Option.some.inj h).symm⟩
  | 2, h => exact ⟨by decide, (Option.some.inj h).symm⟩
  | _ + 3, h => cases h
abbrev nOrd : List Str := ["_law_some", "_law_once", "_law_twice", "_law_node", "_law_both", "_law_one", "_law_two", "_law_found"]
section
variable {P : Program} {w : World} {K : PySem.W.Frag} {mg : Str → Option Value} {base : Heap}
theorem ok_order {f : Addr} {fd : FuncData} (F : Fun K "_law_order" "_law_order" sLOrder f fd) (T : Blt mg) : FnOk P w K mg base CX0 1 f fd ["_law_some"] (spOrder K) := by
  refine F.ok scLOrder (fun vs H Q E h => ?_) (fun cdv A outer s H vs Q E hr h => ?_)
  · obtain ⟨l, row, rfl, _⟩ := h
    rfl
  · obtain ⟨la, row, rfl, hla, kk⟩ := h
    refine ⟨_, (pss_cons (ps_par (i := 1) (j := 2) (by rfl) scLOrder.nd rfl rfl (by decide) rfl rfl (pa_cons (pe_lst pa_nil) (pa_cons (pe_lst (pa_cons (pe_tup (pa_cons pe_str (pa_cons pe_str pa_nil))) pa_nil)) pa_nil)) (by rfl))
    (pss_cons (ps_for PassesOwn.never rfl (pi_tup (pe_tup (pa_cons pe_str (pa_cons pe_str (pa_cons pe_str pa_nil))))) (pg_name (i := 3) scLOrder.nd rfl (.inl rfl))
      (pss_cons (ps_set (i := 4) scLOrder.nd rfl (.inl rfl) (pe_lst (pa_cons (pe_tup (pa_cons (pv 3) (pa_cons pe_str pa_nil))) (pa_cons (pe_tup (pa_cons (pv 3) (pa_cons pe_str pa_nil))) pa_nil))))
      (pss_cons (ps_set (i := 1) scLOrder.nd rfl (.inl rfl) (pe_op op_cat (pv 1) (pe_ifExp (pt_cmpR op_ne (pv 3) pe_str (nomark _)) (pv 4) (pe_lst pa_nil))))
      (pss_one (ps_set (i := 2) scLOrder.nd rfl (.inl rfl) (pe_op op_cat (pv 2) (pv 4)))))))
    (pss_cons (ps_if (pt_cmpR op_eq (pe_callB call_len_seq (by rfl) T.len PySem.boot_len (pa_cons (pv 0) pa_nil)) pe_int (nomark _))
      (pss_one (ps_ret (pe_op op_cat (pe_lc (own := [("_law_one", 5)]) (g := gName 5) (by rfl) scLOrder.nd (pi_list (pv 1)) (blkOk_by (own := [("_law_one", 5)]) (N := nOrd) (sc := defScope sLOrder) (by decide +kernel)) (fun _ _ _ _ _ => pg_name (i := 5) scLOrder.nd rfl (.inl rfl)) (fun _ _ _ _ _ => pts_nil) (fun _ _ _ _ _ => (pe_tup (pa_cons (pv 5) (pa_cons pe_non pa_nil))))) (pe_lc (own := [("_law_two", 6)]) (g := gName 6) (by rfl) scLOrder.nd (pi_list (pv 2)) (blkOk_by (own := [("_law_two", 6)]) (N := nOrd) (sc := defScope sLOrder) (by decide +kernel)) (fun _ _ _ _ _ => pg_name (i := 6) scLOrder.nd rfl (.inl rfl)) (fun _ _ _ _ _ => pts_nil) (fun _ _ _ _ _ => (pe_tup (pa_cons pe_non (pa_cons (pv 6) pa_nil)))))))) pss_nil)
    (pss_cons (ps_set (i := 7) scLOrder.nd rfl (.inl rfl) (pe_lst pa_nil))
    (pss_cons (ps_for PassesOwn.never rfl (pi_list (pv 1)) (pg_name (i := 5) scLOrder.nd rfl (.inr rfl))
      (pss_one (ps_set (i := 7) scLOrder.nd rfl (.inl rfl) (pe_op op_cat (pv 7) (pe_lc (own := [("_law_two", 6)]) (g := gName 6) (by rfl) scLOrder.nd (pi_list (pv 2)) (blkOk_by (own := [("_law_two", 6)]) (N := nOrd) (sc := defScope sLOrder) (by decide +kernel)) (fun _ _ _ _ _ => pg_name (i := 6) scLOrder.nd rfl (.inl rfl)) (fun _ _ _ _ _ => pts_nil) (fun _ _ _ _ _ => (pe_tup (pa_cons (pv 5) (pa_cons (pv 6) pa_nil)))))))))
    (pss_one (ps_ret (pv 7)))))))), ?_⟩
    refine ⟨(by show 0 ≤ sizeLine; decide), fun l1 n1 => ?_⟩
    have s1 := same_new (o := .lst []) n1
    have h1 : upd H l1 (.lst []) l1 = some (.lst []) := upd_same
    generalize upd H l1 (.lst []) = H1 at s1 h1 ⊢
    refine ⟨(by show 2 ≤ sizeLine; decide), fun t2 n2 => ?_⟩
    have s2 := same_new (o := .tup [.str "inner", .str "none"]) n2
    have h2 : upd H1 t2 (.tup [.str "inner", .str "none"]) t2 = some (.tup [.str "inner", .str "none"]) := upd_same
    generalize upd H1 t2 (.tup [.str "inner", .str "none"]) = H2 at s2 h2 ⊢
    refine ⟨(by show 1 ≤ sizeLine; decide), fun l2 n3 => ?_⟩
    have s3 := same_new (o := .lst [.ref t2]) n3
    have h3 : upd H2 l2 (.lst [.ref t2]) l2 = some (.lst [.ref t2]) := upd_same
    generalize upd H2 l2 (.lst [.ref t2]) = H3 at s3 h3 ⊢
    refine ⟨_, _, rfl, ?_⟩
    refine ⟨(by show 3 ≤ sizeLine; decide), fun tt n4 => ?_⟩
    have s4 := same_new (o := .tup [.str "light", .str "far", .str "top"]) n4
    have h4 : upd H3 tt (.tup [.str "light", .str "far", .str "top"]) tt = some (.tup [.str "light", .str "far", .str "top"]) := upd_same
    generalize upd H3 tt (.tup [.str "light", .str "far", .str "top"]) = H4 at s4 h4 ⊢
    have s04 := ((s1.trans s2).trans s3).trans s4
    have hla4 := s04 _ _ hla
    have b0 : BkAll K H4 [.ref t2] [.st] := ⟨⟨t2, rfl, SqT.of (s4 _ _ (s3 _ _ h2))⟩, trivial⟩
    have h14 := s4 _ _ (s3 _ _ (s2 _ _ h1))
    have h24 := s4 _ _ h3
    refine ⟨tt, rfl, ⟨_, SqT.of h4⟩, ?_⟩
    refine for_tup (xs := [.str "light", .str "far", .str "top"]) (fun i σ G => Same H4 G ∧ ∃ (a1 a2 : Addr) (v1 v2 : List V) (z3 z4 z5 z6 z7 : Option V), σ = [some (.ref la), some (.ref a1), some (.ref a2), z3, z4, z5, z6, z7] ∧ G a1 = some (.lst v1) ∧ BkAll K G v1 (onU i) ∧ G a2 = some (.lst v2) ∧ BkAll K G v2 (twU i)) ⟨Same.refl _, l1, l2, [], [.ref t2], _, _, _, _, _, rfl, h14, trivial, h24, b0⟩ (fun i σ G _ h => SqT.of (h.1 _ _ h4)) (fun i v σ G hi hp => ?_) (fun σ G hp => ?_)
    · obtain ⟨sg, a1, a2, v1, v2, z3, z4, z5, z6, z7, rfl, e1, q1, e2, q2⟩ := hp
      obtain ⟨hi3, rfl⟩ := nd_at hi
      refine ⟨_, rfl, (by show 2 ≤ sizeLine; decide), fun ta na => ?_⟩
      have p1 := same_new (o := .tup [.str (ndS i), .str "first"]) na
      have g1 : upd G ta (.tup [.str (ndS i), .str "first"]) ta = some (.tup [.str (ndS i), .str "first"]) := upd_same
      generalize upd G ta (.tup [.str (ndS i), .str "first"]) = G1 at p1 g1 ⊢
      refine ⟨_, rfl, (by show 2 ≤ sizeLine; decide), fun tb nb => ?_⟩
      have p2 := same_new (o := .tup [.str (ndS i), .str "second"]) nb
      have g2 : upd G1 tb (.tup [.str (ndS i), .str "second"]) tb = some (.tup [.str (ndS i), .str "second"]) := upd_same
      generalize upd G1 tb (.tup [.str (ndS i), .str "second"]) = G2 at p2 g2 ⊢
      refine ⟨(by show 2 ≤ sizeLine; decide), fun lb nlb => ?_⟩
      have p3 := same_new (o := .lst [V.ref ta, V.ref tb]) nlb
      have g3 : upd G2 lb (.lst [V.ref ta, V.ref tb]) lb = some (.lst [V.ref ta, V.ref tb]) := upd_same
      generalize upd G2 lb (.lst [V.ref ta, V.ref tb]) = G3 at p3 g3 ⊢
      have p03 := (p1.trans p2).trans p3
      have ex : BkAll K G3 [V.ref ta, V.ref tb] [(ndB i).1, (ndB i).2] := ext_ok K G3 ta tb i hi3 (p3 _ _ (p2 _ _ g1)) (p3 _ _ g2)
      have le1 := q1.len
      have le2 := q2.len
      have lo1 := onU_len i hi3
      have lo2 := twU_len i hi3
      have key : ∀ (lx p : Addr) (zs : List V) (G4 : Hp), Same G3 G4 → G4 lx = some (.lst zs) → BkAll K G4 zs (if i = 1 then [] else [(ndB i).1, (ndB i).2]) → G4 p = none → ∀ G5, G5 = upd G4 p (.lst (v1 ++ zs)) → Same G3 G5 ∧ G5 p = some (.lst (v1 ++ zs)) ∧ BkAll K G5 (v1 ++ zs) (onU (i + 1)) := fun lx p zs G4 s4' hx hb np G5 e5 => by
        subst e5
        have u := same_new (o := .lst (v1 ++ zs)) np
        refine ⟨s4'.trans u, upd_same, ?_⟩
        rw [onU_succ i hi3]
        exact (q1.keep ((p03.trans s4').trans u)).app (hb.keep u)
      refine ⟨_, rfl, _, rfl, rfl, _, rfl, ?_⟩
      show (if (!decide (V.str (ndS i) = V.str "far")) = true then _ else _)
      rw [nd_far i hi3]
      have fin : ∀ (p p2 : Addr) (zs : List V) (G5 : Hp), Same G3 G5 → G5 p = some (.lst (v1 ++ zs)) → BkAll K G5 (v1 ++ zs) (onU (i + 1)) → G5 p2 = none →
          Same H4 (upd G5 p2 (.lst (v2 ++ [V.ref ta, V.ref tb]))) ∧ (upd G5 p2 (.lst (v2 ++ [V.ref ta, V.ref tb]))) p = some (.lst (v1 ++ zs)) ∧ BkAll K (upd G5 p2 (.lst (v2 ++ [V.ref ta, V.ref tb]))) (v1 ++ zs) (onU (i + 1)) ∧ BkAll K (upd G5 p2 (.lst (v2 ++ [V.ref ta, V.ref tb]))) (v2 ++ [V.ref ta, V.ref tb]) (twU (i + 1)) := fun p p2 zs G5 s5 hp hb np2 => by
        have u := same_new (o := .lst (v2 ++ [V.ref ta, V.ref tb])) np2
        refine ⟨((sg.trans p03).trans s5).trans u, u _ _ hp, hb.keep u, ?_⟩
        rw [twU_succ i hi3]
        exact (q2.keep ((p03.trans s5).trans u)).app (ex.keep (s5.trans u))
      have e13 := p03 _ _ e1
      have e23 := p03 _ _ e2
      by_cases z : i = 1
      · rw [show (!decide (i = 1)) = false by simp [z]]
        refine iteF ⟨(by show 0 ≤ sizeLine; decide), fun le nle => ?_⟩
        have s5 := same_new (o := .lst []) nle
        refine ⟨a1, le, _, _, rfl, rfl, s5 _ _ e13, upd_same, Nat.le_trans (show _ ≤ 10 by simp only [List.length_nil]; omega) (by decide), fun p np => ?_⟩
        obtain ⟨k1, k2, k3⟩ := key le p [] _ s5 upd_same (by rw [if_pos z]; trivial) np _ rfl
        generalize upd (upd G3 le (.lst [])) p (.lst (v1 ++ [])) = G5 at k1 k2 k3 ⊢
        refine ⟨_, rfl, _, rfl, a2, lb, _, _, rfl, rfl, k1 _ _ e23, k1 _ _ g3, Nat.le_trans (show _ ≤ 10 by simp only [List.length_cons, List.length_nil]; omega) (by decide), fun p2 np2 => ?_⟩
        obtain ⟨w1, w2, w3, w4⟩ := fin p p2 _ _ k1 k2 k3 np2
        exact ⟨w1, p, p2, _, _, _, _, _, _, _, rfl, w2, w3, upd_same, w4⟩
      · rw [show (!decide (i = 1)) = true by simp [z]]
        refine iteT ⟨_, rfl, ?_⟩
        refine ⟨a1, lb, _, _, rfl, rfl, e13, g3, Nat.le_trans (show _ ≤ 10 by simp only [List.length_cons, List.length_nil]; omega) (by decide), fun p np => ?_⟩
        obtain ⟨k1, k2, k3⟩ := key lb p _ _ (Same.refl _) g3 (by rw [if_neg z]; exact ex) np _ rfl
        generalize upd G3 p (.lst (v1 ++ [V.ref ta, V.ref tb])) = G5 at k1 k2 k3 ⊢
        refine ⟨_, rfl, _, rfl, a2, lb, _, _, rfl, rfl, k1 _ _ e23, k1 _ _ g3, Nat.le_trans (show _ ≤ 10 by simp only [List.length_cons, List.length_nil]; omega) (by decide), fun p2 np2 => ?_⟩
        obtain ⟨w1, w2, w3, w4⟩ := fin p p2 _ _ k1 k2 k3 np2
        exact ⟨w1, p, p2, _, _, _, _, _, _, _, rfl, w2, w3, upd_same, w4⟩
    · obtain ⟨sg, a1, a2, v1, v2, z3, z4, z5, z6, z7, rfl, e1, q1, e2, q2⟩ := hp
      have q1 : BkAll K G v1 (onU 3) := q1
      have q2 : BkAll K G v2 (twU 3) := q2
      have le1 : v1.length = 4 := q1.len
      have le2 : v2.length = 7 := q2.len
      have hlaG := sg _ _ hla4
      have sHG : Same H G := s04.trans sg
      cases row with
      | tn p q k t s' r =>
        refine ⟨_, rfl, la, _, rfl, .inr (SqT.of hlaG), rfl, _, rfl, iteT ?_⟩
        refine ⟨_, rfl, a1, rfl, ⟨_, SqL.of e1⟩, fun D nD => lc_or (K := K) (la := a1) (fun b => (some b, none)) nD e1 q1 (by decide) (fun x b H0 R s0 hx o => ?_) (fun H1 us1 s1' hD1 al1 => ?_)⟩
        · exact ⟨rfl, _, rfl, (by show 2 ≤ sizeLine; decide), fun t ht => o t _ (same_new ht) ht ⟨t, x, .non, rfl, upd_same, hx.keep (same_new ht), rfl⟩⟩
        · refine ⟨_, rfl, a2, rfl, ⟨_, SqL.of (s1' _ _ e2)⟩, fun D2 nD2 => lc_or (K := K) (la := a2) (fun b => (none, some b)) nD2 (s1' _ _ e2) (q2.keep s1') (by decide) (fun x b H0 R s0 hx o => ?_) (fun H2 us2 s2' hD2 al2 => ?_)⟩
          · exact ⟨rfl, _, rfl, (by show 2 ≤ sizeLine; decide), fun t ht => o t _ (same_new ht) ht ⟨t, .non, x, rfl, upd_same, rfl, hx.keep (same_new ht)⟩⟩
          · have l1 := al1.len
            have l2 := al2.len
            refine ⟨D, D2, _, _, rfl, rfl, s2' _ _ hD1, hD2, by rw [l1, l2]; decide, fun pp npp => ?_⟩
            have u := same_new (o := .lst (us1 ++ us2)) npp
            exact kk _ _ (((sHG.trans s1').trans s2').trans u) ⟨pp, _, rfl, upd_same, ((al1.mono (OrV.keep (s2'.trans u))).app (al2.mono (OrV.keep u)))⟩
      | tr p q k =>
        refine ⟨_, rfl, la, _, rfl, .inr (SqT.of hlaG), rfl, _, rfl, iteF ?_⟩
        refine ⟨(by show 0 ≤ sizeLine; decide), fun l7 n7 => ?_⟩
        have s7 := same_new (o := .lst []) n7
        have h7 : upd G l7 (.lst []) l7 = some (.lst []) := upd_same
        generalize upd G l7 (.lst []) = G7 at s7 h7 ⊢
        refine ⟨_, rfl, a1, rfl, ⟨_, SqL.of (s7 _ _ e1)⟩, ?_⟩
        refine for_list (xs := v1) (fun i σ G' => Same G7 G' ∧ ∃ (lf : Addr) (vf : List V) (z5 z6 : Option V), σ = [some (.ref la), some (.ref a1), some (.ref a2), z3, z4, z5, z6, some (.ref lf)] ∧ G' lf = some (.lst vf) ∧ All2 (OrV K G') vf (((onU 3).take i).flatMap fun o => (twU 3).map fun t => (some o, some t))) ⟨Same.refl _, l7, [], _, _, rfl, h7, trivial⟩ (fun i σ G' _ h => SqL.of (h.1 _ _ (s7 _ _ e1))) (fun i v σ G' hi hp => ?_) (fun σ G' hp => ?_)
        · obtain ⟨sg', lf, vf, z5, z6, rfl, hf, af⟩ := hp
          obtain ⟨o, eo, ho⟩ := q1.get hi
          have s77 := s7.trans sg'
          refine ⟨_, rfl, _, rfl, a2, rfl, ⟨_, SqL.of (s77 _ _ e2)⟩, fun D nD => lc_or (K := K) (la := a2) (fun b => (some o, some b)) nD (s77 _ _ e2) (q2.keep s77) (by decide) (fun x b H0 R s0 hx oo => ?_) (fun H1 us1 s1' hD1 al1 => ?_)⟩
          · exact ⟨rfl, _, rfl, _, rfl, (by show 2 ≤ sizeLine; decide), fun t ht => oo t _ (same_new ht) ht ⟨t, v, x, rfl, upd_same, ho.keep ((s77.trans s0).trans (same_new ht)), hx.keep (same_new ht)⟩⟩
          · have l1 := al1.len
            have l2 := af.len
            have i4 : i < 4 := by
              have := (List.getElem?_eq_some_iff.mp eo).1
              exact this
            refine ⟨lf, D, _, _, rfl, rfl, s1' _ _ hf, hD1, Nat.le_trans (m := 100) ?_ (by decide), fun pp npp => ?_⟩
            · rw [l1, l2, List.length_map]
              match i, i4 with
              | 0, _ => decide
              | 1, _ => decide
              | 2, _ => decide
              | 3, _ => decide
            · have u := same_new (o := .lst (vf ++ us1)) npp
              refine ⟨(sg'.trans s1').trans u, pp, _, _, _, rfl, upd_same, ?_⟩
              rw [take_snoc eo, List.flatMap_append]
              refine (af.mono (OrV.keep (s1'.trans u))).app ?_
              have e : ([o].flatMap fun o => (twU 3).map fun t => (some o, some t)) = (twU 3).map fun b => (some o, some b) := by simp
              rw [e]
              exact al1.mono (OrV.keep u)
        · obtain ⟨sg', lf, vf, z5, z6, rfl, hf, af⟩ := hp
          rw [le1] at af
          exact ⟨_, rfl, kk _ _ ((sHG.trans s7).trans sg') ⟨lf, vf, rfl, hf, af⟩⟩
end
end Ev
set_option maxHeartbeats 1000000
namespace Ev
open PySem L2 PySem.Spec PyProof.Rows RZ
/-! Readings of our own for pieces of _law_seen. -/
theorem ps_imp {X : Cx} {st : Stmt} {t t' : TS} (h : PS X st t) (k : ∀ D σ H, t' D σ H → t D σ H) : PS X st t' := ⟨fun pins s σ H D I q => h.run pins s σ H D I (k D σ H q)⟩
theorem pe_imp {X : Cx} {e : Expr} {t t' : TE} (h : PE X e t) (k : ∀ σ H Q, t' σ H Q → t σ H Q) : PE X e t' := ⟨fun pins s σ H Q I q => h.run pins s σ H Q I (k σ H Q q)⟩
abbrev Row.g (row : Row) (a b : Int) : Gp := ⟨row.p, row.q, row.k, a, b⟩
theorem twL_len {g : Gp} {c d : Int} : (g.twL c d).length ≤ 1 + (c - 1).toNat := by
  unfold Gp.twL Gp.partsL
  rw [List.length_append, List.length_map]
  have h3 := List.length_filter_le (fun c' => g.evenB c' (c - c')) (upTo (c - 1).toNat)
  rw [upTo_len] at h3
  by_cases z : c = 1
  · rw [if_pos z]
    simp only [List.length_cons, List.length_nil]
    omega
  · rw [if_neg z]
    simp only [List.length_nil]
    omega
theorem rowsAt_len {row : Row} {g : Gp} {c : Int} : (row.rowsAt g c).length ≤ 1 + (c - 1).toNat := by
  have h := twL_len (g := g) (c := c) (d := g.b - c)
  cases row with
  | tr p q k =>
    show ((g.twL c (g.b - c)).map _).length ≤ _
    rw [List.length_map]; exact h
  | tn p q k t s r =>
    show (if s * c ≤ t * (g.b - c) + r then _ else _ : List Rw).length ≤ _
    by_cases z : s * c ≤ t * (g.b - c) + r
    · rw [if_pos z]; simp
    · rw [if_neg z, List.length_map]; exact h
theorem parts_mem {row : Row} {b c : Int} (h : c ∈ row.parts b) : 1 ≤ c ∧ c ≤ b - 1 := by
  have h1 := (List.mem_filter.mp h).1
  have h2 := mem_upTo.mp h1
  omega
/-- the list that the law begins with: one break where the inner side has no key -/
def tTw (K : PySem.W.Frag) : TE := fun σ H Q => ∃ a c d : Int, σ[1]? = some (some (.int a)) ∧ σ[4]? = some (some (.int c)) ∧ σ[5]? = some (some (.int d)) ∧
  ∀ (lt : Addr) (G : Hp) (vt : List V), Same H G → H lt = none → G lt = some (.lst vt) → All2 (TwV K G lt) vt (if c = 1 then [([Bk.st], [a, c, d])] else []) → Q (.ref lt) G
/-- rows of once and twice -/
def tRwA (K : PySem.W.Frag) : TE := fun σ H Q => ∃ (v1 : V) (bs : List Bk) (lt : Addr) (vt : List V) (tw : List (List Bk × List Int)) (x0 x1 x2 x3 x4 x5 x8 x9 x10 x11 : Option V), σ = [x0, x1, x2, x3, x4, x5, some v1, some (.ref lt), x8, x9, x10, x11] ∧ OL K H lt v1 (some bs) ∧ H lt = some (.lst vt) ∧ All2 (TwV K H lt) vt tw ∧ tw.length ≤ 100 ∧
  ∀ (D : Addr) (G : Hp) (us : List V), Same H G → H D = none → G D = some (.lst us) → All2 (RwV K G D) us (tw.map fun x => (some bs, some x.1, x.2)) → Q (.ref D) G
def tRwB (K : PySem.W.Frag) : TE := fun σ H Q => ∃ (v1 : Option V) (lt : Addr) (vt : List V) (tw : List (List Bk × List Int)) (x0 x1 x2 x3 x4 x5 x8 x9 x10 x11 : Option V), σ = [x0, x1, x2, x3, x4, x5, v1, some (.ref lt), x8, x9, x10, x11] ∧ H lt = some (.lst vt) ∧ All2 (TwV K H lt) vt tw ∧ tw.length ≤ 100 ∧
  ∀ (D : Addr) (G : Hp) (us : List V), Same H G → H D = none → G D = some (.lst us) → All2 (RwV K G D) us (tw.map fun x => (none, some x.1, x.2)) → Q (.ref D) G
/-- the comprehension over pairs of breaks and numbers -/
theorem lc_rw {K : PySem.W.Frag} {la : Addr} {σ : L2.St} {xs : List V} {tw : List (List Bk × List Int)} {G : Hp} {D : Addr} {Qd : Hp → Prop} {g : TG} {te : TE} {vs : List Nat} (mkR : List Bk × List Int → Rw) (nD : G D = none) (hl : G la = some (.lst xs)) (al : All2 (TwV K G la) xs tw) (b10 : tw.length ≤ 100)
    (step : ∀ (x : V) (b : List Bk × List Int) (H : Hp) (R : VK), Same G H → TwV K H D x b → H D ≠ none → (∀ t H', Same H H' → H t = none → RwV K H' D (.ref t) (mkR b) → R (.ref t) H') → g x (wipe σ vs) H fun σ2 H2 => wipe σ2 vs = wipe σ vs ∧ te σ2 H2 R)
    (fin : ∀ (H : Hp) (us : List V), Same G H → H D = some (.lst us) → All2 (RwV K H D) us (tw.map mkR) → Qd H) :
    ∃ W : Nat → Nat → Hp → Prop, (∃ m, W 0 m (upd G D (HO.lst []))) ∧ ∀ (i m : Nat) (H : Hp), W i m H → (Itl K la).stop i H ∧ Qd H ∨ (Itl K la).go i H ∧ ∃ Nx : Hp → Prop, (∀ (H' : Hp), Nx H' → ∃ m', m' < m ∧ W (i + 1) m' H') ∧
      ∀ (x : V) (H' : Hp), (Itl K la).yld i H x H' → g x (wipe σ vs) H' fun σ2 H2 => wipe σ2 vs = wipe σ vs ∧ tYes σ2 H2 fun b H3 =>
        if b = true then te σ2 H3 fun y H4 => ∃ acc, H4 D = some (HO.lst acc) ∧ acc.length < sizeLine ∧ Nx (upd H4 D (HO.lst (acc ++ [y]))) else Nx H3 := by
  refine lc_list (K := K) (a := la) (xs := xs) (fun i H => Same G H ∧ ∃ us : List V, H D = some (.lst us) ∧ All2 (RwV K H D) us ((tw.take i).map mkR)) ⟨same_new nD, [], upd_same, trivial⟩ (fun i H _ h => SqL.of (h.1 _ _ hl)) (fun i x H hi h => ?_) (fun H h => ?_)
  · obtain ⟨sg, us, hD, a2⟩ := h
    obtain ⟨b, eb, hx⟩ := al.get hi
    have hx' : TwV K H D x b := (hx.new nD).keep sg
    have st := step x b H (fun y H4 => ∃ acc, H4 D = some (HO.lst acc) ∧ acc.length < sizeLine ∧ (fun H => Same G H ∧ ∃ us : List V, H D = some (.lst us) ∧ All2 (RwV K H D) us ((tw.take (i + 1)).map mkR)) (upd H4 D (HO.lst (acc ++ [y])))) sg hx' (by rw [hD]; intro z; cases z) (fun t H' s' nt o => ?_)
    · exact st
    · refine ⟨us, s' _ _ hD, ?_, fun c o' e => ?_, us ++ [.ref t], upd_same, ?_⟩
      · have := a2.len
        rw [List.length_map, List.length_take] at this
        exact Nat.lt_of_le_of_lt (show us.length ≤ 100 by omega) (by decide)
      · rw [upd_ne (ne_of_none e nD)]; exact s' _ _ (sg _ _ e)
      · rw [take_snoc eb, List.map_append]
        have u : But D H' (upd H' D (.lst (us ++ [.ref t]))) := But.upd_at
        exact ((a2.mono (fun _ _ => RwV.keep s')).mono (fun _ _ => RwV.but (s' _ _ hD) u)).app ⟨RwV.but (s' _ _ hD) u o, trivial⟩
  · obtain ⟨sg, us, hD, a2⟩ := h
    have e : xs.length = tw.length := al.len
    rw [e, List.take_length] at a2
    exact fin H us sg hD a2
end Ev
set_option maxHeartbeats 1000000
namespace Ev
open PySem L2 PySem.Spec PyProof.Rows RZ
abbrev nSeen : List Str := ["_law_some", "_law_a", "_law_b", "_law_found", "_law_c", "_law_d", "_law_once", "_law_twice", "_law_e", "_law_f", "_law_more", "_law_numbers_here"]
theorem scLSeen : FnScope ["_law_some", "_law_a", "_law_b", "_law_found", "_law_c", "_law_d", "_law_once", "_law_twice", "_law_e", "_law_f", "_law_more", "_law_numbers_here"] ["_law_some", "_law_a", "_law_b"] (defScope sLSeen) := ⟨rfl, rfl, rfl, by decide +kernel, rfl, by decide +kernel, by decide +kernel⟩
/-- what is added for an inner weight -/
def tAdd (K : PySem.W.Frag) : TS := fun D σ H => ∃ (la lf lt : Addr) (row : Row) (a b c : Int) (v1 : V) (vs vt : List V) (rs : List Rw) (z8 z9 z10 z11 : Option V),
  σ = [some (.ref la), some (.int a), some (.int b), some (.ref lf), some (.int c), some (.int (b - c)), some v1, some (.ref lt), z8, z9, z10, z11] ∧ RwAt H la row ∧ row.ok ∧ (1 ≤ c ∧ c ≤ b - 1 ∧ b ≤ 60) ∧
  H lf = some (.lst vs) ∧ vs.length ≤ 10000 ∧ All2 (RwV K H lf) vs rs ∧ OL K H lf v1 (some ((row.g a b).onceL c (b - c))) ∧ H lt = some (.lst vt) ∧ OL K H lt v1 (some ((row.g a b).onceL c (b - c))) ∧ All2 (TwV K H lt) vt ((row.g a b).twL c (b - c)) ∧
  ∀ (lf' : Addr) (G : Hp) (vs' : List V), But lf H G → (lf' = lf ∨ H lf' = none) → G lf' = some (.lst vs') → All2 (RwV K G lf') vs' (rs ++ row.rowsAt (row.g a b) c) →
    D.nx [some (.ref la), some (.int a), some (.int b), some (.ref lf'), some (.int c), some (.int (b - c)), some v1, some (.ref lt), z8, z9, z10, z11] G
theorem OL.but2 {K : PySem.W.Frag} {H H' : Hp} {l l' : Addr} {v : V} {o : Option (List Bk)} {xs : List V} (h : OL K H l v o) (h2 : OL K H l' v o) (hl : H l' = some (.lst xs)) (s : But l' H H') : OL K H' l v o := by
  cases o with
  | none => exact h
  | some bs =>
    obtain ⟨a, vs, e, n, h1, b⟩ := h
    obtain ⟨a', vs', e', n', _⟩ := h2
    rw [e] at e'
    obtain rfl := V.ref.inj e'
    exact ⟨a, vs, e, n, s _ _ n' h1, b.but hl s⟩
theorem RwV.but2 {K : PySem.W.Frag} {H H' : Hp} {l l' : Addr} {v : V} {r : Rw} {xs : List V} (hl : H l' = some (.lst xs)) (s : But l' H H') (h : RwV K H l v r) (h' : RwV K H l' v r) : RwV K H' l v r := by
  obtain ⟨t, n, v1, v2, e, h1, h2, h3, h4⟩ := h
  obtain ⟨t', n', w1, w2, e', k1, k2, k3, k4⟩ := h'
  rw [e] at e'
  obtain rfl := V.ref.inj e'
  rw [h1] at k1
  obtain ⟨rfl, rfl, rfl⟩ : v1 = w1 ∧ v2 = w2 ∧ n = n' := by
    have := Option.some.inj k1
    injection this with this
    simp only [List.cons.injEq, V.ref.injEq, and_true] at this
    exact this
  exact ⟨t, n, v1, v2, e, s _ _ (ne_of h1 hl (by intro z; cases z)) h1, h2.but2 k2 hl s, h3.but2 k3 hl s, s _ _ (ne_of h4 hl (by intro z; cases z)) h4⟩
theorem All2.mono2 {α : Type} {R R2 S : V → α → Prop} (s : ∀ v a, R v a → R2 v a → S v a) : ∀ {vs : List V} {bs : List α}, All2 R vs bs → All2 R2 vs bs → All2 S vs bs
  | [], [], _, _ => trivial
  | _ :: _, _ :: _, h, k => ⟨s _ _ h.1 k.1, All2.mono2 s h.2 k.2⟩
  | [], _ :: _, h, _ => h.elim
  | _ :: _, [], h, _ => h.elim
theorem tw_imp {K : PySem.W.Frag} {σ : L2.St} {H : Hp} {Q : VK} (h : tTw K σ H Q) : tIf (tTest (tOp rEq (tVar 4) (tC (.int 1)))) (tLst (tCons (tTup (tCons (tLst (tCons (tTup (tCons (tC (.str "inner")) (tCons (tC (.str "none")) tNil))) tNil)) (tCons (tTup (tCons (tVar 1) (tCons (tVar 4) (tCons (tVar 5) tNil)))) tNil))) tNil)) (tLst tNil) σ H Q := by
  obtain ⟨a, c, d, e1, e4, e5, k⟩ := h
  refine ⟨_, e4, rfl, _, rfl, ?_⟩
  show (if decide (V.int c = V.int 1) = true then _ else _)
  by_cases z : c = 1
  · rw [if_pos z] at k
    rw [show decide (V.int c = V.int 1) = true by rw [z]; decide]
    refine iteT ⟨(by show 2 ≤ sizeLine; decide), fun t1 n1 => ?_⟩
    have s1 := same_new (o := .tup [.str "inner", .str "none"]) n1
    have h1 : upd H t1 (.tup [.str "inner", .str "none"]) t1 = some (.tup [.str "inner", .str "none"]) := upd_same
    generalize upd H t1 (.tup [.str "inner", .str "none"]) = H1 at s1 h1 ⊢
    refine ⟨(by show 1 ≤ sizeLine; decide), fun l1 nl1 => ?_⟩
    have s2 := same_new (o := .lst [.ref t1]) nl1
    have h2 : upd H1 l1 (.lst [.ref t1]) l1 = some (.lst [.ref t1]) := upd_same
    generalize upd H1 l1 (.lst [.ref t1]) = H2 at s2 h2 ⊢
    refine ⟨_, e1, _, e4, _, e5, (by show 3 ≤ sizeLine; decide), fun t2 n2 => ?_⟩
    have s3 := same_new (o := .tup [.int a, .int c, .int d]) n2
    have h3 : upd H2 t2 (.tup [.int a, .int c, .int d]) t2 = some (.tup [.int a, .int c, .int d]) := upd_same
    generalize upd H2 t2 (.tup [.int a, .int c, .int d]) = H3 at s3 h3 ⊢
    refine ⟨(by show 2 ≤ sizeLine; decide), fun t3 n3 => ?_⟩
    have s4 := same_new (o := .tup [.ref l1, .ref t2]) n3
    have h4 : upd H3 t3 (.tup [.ref l1, .ref t2]) t3 = some (.tup [.ref l1, .ref t2]) := upd_same
    generalize upd H3 t3 (.tup [.ref l1, .ref t2]) = H4 at s4 h4 ⊢
    refine ⟨(by show 1 ≤ sizeLine; decide), fun lt nt => ?_⟩
    have s5 := same_new (o := .lst [.ref t3]) nt
    have s04 := ((s1.trans s2).trans s3).trans s4
    have l1t : l1 ≠ lt := fun z => by rw [← z, s4 _ _ (s3 _ _ h2)] at nt; cases nt
    refine k lt _ [.ref t3] (s04.trans s5) (Same.none s04 nt) upd_same ⟨⟨t3, t2, .ref l1, rfl, s5 _ _ h4, ⟨l1, [.ref t1], rfl, l1t, s5 _ _ (s4 _ _ (s3 _ _ h2)), ⟨⟨t1, rfl, SqT.of (s5 _ _ (s4 _ _ (s3 _ _ (s2 _ _ h1))))⟩, trivial⟩⟩, s5 _ _ (s4 _ _ h3)⟩, trivial⟩
  · rw [if_neg z] at k
    rw [show decide (V.int c = V.int 1) = false by simp [z]]
    exact iteF ⟨(by show 0 ≤ sizeLine; decide), fun lt nt => k lt _ [] (same_new nt) nt upd_same trivial⟩
theorem rwA_imp {K : PySem.W.Frag} {σ : L2.St} {H : Hp} {Q : VK} (h : tRwA K σ H Q) : tLc (iList K (tVar 7)) (gTup K 2 (gCons (gName 10) (gCons (gName 11) gNil))) tYes (tTup (tCons (tVar 6) (tCons (tVar 10) (tCons (tVar 11) tNil)))) [10, 11] σ H Q := by
  obtain ⟨v1, bs, lt, vt, tw, x0, x1, x2, x3, x4, x5, x8, x9, x10, x11, rfl, ol, hlt, al, len, k⟩ := h
  refine ⟨_, rfl, lt, rfl, ⟨_, SqL.of hlt⟩, fun D nD => lc_rw (K := K) (la := lt) (fun x => (some bs, some x.1, x.2)) nD hlt al len (fun x b H0 R s0 hx dn o => ?_) (fun H1 us s1 hD al1 => ?_)⟩
  · obtain ⟨t, n, v2, rfl, h1, h2, h3⟩ := hx
    refine ⟨t, _, rfl, SqT.of h1, rfl, _, _, rfl, _, _, rfl, rfl, ?_⟩
    refine ⟨rfl, _, rfl, _, rfl, _, rfl, (by show 3 ≤ sizeLine; decide), fun t' nt => ?_⟩
    have u := same_new (o := .tup [v1, v2, .ref n]) nt
    exact o t' _ u nt ⟨t', n, v1, v2, rfl, upd_same, (ol.new nD).keep (s0.trans u), h2.keep u, u _ _ h3⟩
  · exact k D H1 us s1 nD hD al1
theorem rwB_imp {K : PySem.W.Frag} {σ : L2.St} {H : Hp} {Q : VK} (h : tRwB K σ H Q) : tLc (iList K (tVar 7)) (gTup K 2 (gCons (gName 10) (gCons (gName 11) gNil))) tYes (tTup (tCons (tC .non) (tCons (tVar 10) (tCons (tVar 11) tNil)))) [10, 11] σ H Q := by
  obtain ⟨v1, lt, vt, tw, x0, x1, x2, x3, x4, x5, x8, x9, x10, x11, rfl, hlt, al, len, k⟩ := h
  refine ⟨_, rfl, lt, rfl, ⟨_, SqL.of hlt⟩, fun D nD => lc_rw (K := K) (la := lt) (fun x => (none, some x.1, x.2)) nD hlt al len (fun x b H0 R s0 hx dn o => ?_) (fun H1 us s1 hD al1 => ?_)⟩
  · obtain ⟨t, n, v2, rfl, h1, h2, h3⟩ := hx
    refine ⟨t, _, rfl, SqT.of h1, rfl, _, _, rfl, _, _, rfl, rfl, ?_⟩
    refine ⟨rfl, _, rfl, _, rfl, (by show 3 ≤ sizeLine; decide), fun t' nt => ?_⟩
    have u := same_new (o := .tup [.non, v2, .ref n]) nt
    exact o t' _ u nt ⟨t', n, .non, v2, rfl, upd_same, rfl, h2.keep u, u _ _ h3⟩
  · exact k D H1 us s1 nD hD al1
theorem add_imp {K : PySem.W.Frag} {D : Ends} {σ : L2.St} {H : Hp} (h : tAdd K D σ H) : tIfS (tTest (tOp rEq (tCB (fun xs H Q => ∃ p ys, xs = [V.ref p] ∧ (SqL K H p ys ∨ SqT K H p ys) ∧ Q (V.int ↑ys.length) H) (tCons (tVar 0) tNil)) (tC (V.int 3))))
    (tAsg (tOp rCat (tVar 3) (tRwA K)) (gName 3))
    (tIfS (tTest (tOp (rI0 fun i j => V.bl (decide (i ≤ j))) (tOp (rI CMul fun i j => V.int (i * j)) (tOp (rIxT K) (tVar 0) (tC (V.int 4))) (tVar 4)) (tOp (rI0 fun i j => V.int (i + j)) (tOp (rI CMul fun i j => V.int (i * j)) (tOp (rIxT K) (tVar 0) (tC (V.int 3))) (tVar 5)) (tOp (rIxT K) (tVar 0) (tC (V.int 5))))))
      (tDrop (tBM K "list" rAppend (tVar 3) (tCons (tTup (tCons (tVar 6) (tCons (tC V.non) (tCons (tTup (tCons (tVar 1) (tCons (tVar 4) (tCons (tVar 5) tNil)))) tNil)))) tNil)))
      (tAsg (tOp rCat (tVar 3) (tRwB K)) (gName 3))) D σ H := by
  obtain ⟨la, lf, lt, row, a, b, c, v1, vs, vt, rs, z8, z9, z10, z11, rfl, hla, ok, ⟨c1, c2, b2⟩, hlf, lvs, al, olf, hlt, olt, at', k⟩ := h
  have tl := twL_len (g := row.g a b) (c := c) (d := b - c)
  have tl2 : ((row.g a b).twL c (b - c)).length ≤ 100 := by omega
  cases row with
  | tr p q k' =>
    refine ⟨_, rfl, la, _, rfl, .inr (SqT.of hla), rfl, _, rfl, iteT ?_⟩
    refine ⟨_, rfl, v1, _, lt, vt, _, _, _, _, _, _, _, _, _, _, _, rfl, olt, hlt, at', tl2, fun D1 G us s1 nD hD alD => ?_⟩
    have lu := alD.len
    rw [List.length_map] at lu
    refine ⟨lf, D1, _, _, rfl, rfl, s1 _ _ hlf, hD, Nat.le_trans (show _ ≤ 10100 by omega) (by decide), fun p np => ?_⟩
    have u := same_new (o := .lst (vs ++ us)) np
    exact k p _ _ (fun a o _ e => u _ _ (s1 _ _ e)) (.inr (Same.none s1 np)) upd_same ((al.mono fun _ _ x => ((RwV.keep s1 x).new np).keep u).app (alD.mono fun _ _ x => (RwV.new np x).keep u))
  | tn p q k' t s' r =>
    obtain ⟨⟨t1, t2⟩, ⟨s1, s2⟩, r1, r2⟩ := ok.2
    refine ⟨_, rfl, la, _, rfl, .inr (SqT.of hla), rfl, _, rfl, iteF ?_⟩
    refine ⟨_, rfl, la, _, _, _, rfl, rfl, SqT.of hla, atI_nat (j := 4) rfl, _, rfl, _, _, rfl, rfl, .inl (m64 s1 s2), _, rfl, la, _, _, _, rfl, rfl, SqT.of hla, atI_nat (j := 3) rfl, _, rfl, _, _, rfl, rfl, .inl (m64 t1 t2), _, rfl, la, _, _, _, rfl, rfl, SqT.of hla, atI_nat (j := 5) rfl, _, _, rfl, rfl, _, _, rfl, rfl, _, rfl, ?_⟩
    show (if decide (s' * c ≤ t * (b - c) + r) = true then _ else _)
    by_cases z : s' * c ≤ t * (b - c) + r
    · rw [show decide (s' * c ≤ t * (b - c) + r) = true from decide_eq_true z]
      have er : (Row.tn p q k' t s' r).rowsAt ((Row.tn p q k' t s' r).g a b) c = [(some (((Row.tn p q k' t s' r).g a b).onceL c (b - c)), none, [a, c, b - c])] := if_pos z
      rw [er] at k
      refine iteT ⟨_, rfl, .inl ⟨rfl, _, SqL.of hlf⟩, _, rfl, _, rfl, _, rfl, _, rfl, (by show 3 ≤ sizeLine; decide), fun n nn => ?_⟩
      have u1 := same_new (o := .tup [.int a, .int c, .int (b - c)]) nn
      have h1 : upd H n (.tup [.int a, .int c, .int (b - c)]) n = some (.tup [.int a, .int c, .int (b - c)]) := upd_same
      generalize upd H n (.tup [.int a, .int c, .int (b - c)]) = H1 at u1 h1 ⊢
      refine ⟨(by show 3 ≤ sizeLine; decide), fun t' nt => ?_⟩
      have u2 := same_new (o := .tup [v1, .non, .ref n]) nt
      have h2 : upd H1 t' (.tup [v1, .non, .ref n]) t' = some (.tup [v1, .non, .ref n]) := upd_same
      generalize upd H1 t' (.tup [v1, .non, .ref n]) = H2 at u2 h2 ⊢
      have u12 := u1.trans u2
      have hlf2 := u12 _ _ hlf
      refine ⟨lf, _, _, rfl, rfl, hlf2, Nat.lt_of_le_of_lt lvs (by decide), ?_⟩
      have u : But lf H2 (upd H2 lf (.lst (vs ++ [.ref t']))) := But.upd_at
      refine k lf _ _ (fun a o n e => u _ _ n (u12 _ _ e)) (.inl rfl) upd_same ((al.mono fun _ _ x => RwV.but hlf2 u (RwV.keep u12 x)).app ⟨RwV.but hlf2 u ⟨t', n, v1, .non, rfl, h2, olf.keep u12, rfl, u2 _ _ h1⟩, trivial⟩)
    · rw [show decide (s' * c ≤ t * (b - c) + r) = false from decide_eq_false z]
      have er : (Row.tn p q k' t s' r).rowsAt ((Row.tn p q k' t s' r).g a b) c = (((Row.tn p q k' t s' r).g a b).twL c (b - c)).map fun x => (none, some x.1, x.2) := if_neg z
      rw [er] at k
      refine iteF ⟨_, rfl, _, lt, vt, _, _, _, _, _, _, _, _, _, _, _, rfl, hlt, at', tl2, fun D1 G us s1 nD hD alD => ?_⟩
      have lu := alD.len
      rw [List.length_map] at lu
      refine ⟨lf, D1, _, _, rfl, rfl, s1 _ _ hlf, hD, Nat.le_trans (show _ ≤ 10100 by omega) (by decide), fun p np => ?_⟩
      have u := same_new (o := .lst (vs ++ us)) np
      exact k p _ _ (fun a o _ e => u _ _ (s1 _ _ e)) (.inr (Same.none s1 np)) upd_same ((al.mono fun _ _ x => ((RwV.keep s1 x).new np).keep u).app (alD.mono fun _ _ x => (RwV.new np x).keep u))
section
variable {P : Program} {w : World} {K : PySem.W.Frag} {mg : Str → Option Value} {base : Heap}
theorem ok_seen {f : Addr} {fd : FuncData} (F : Fun K "_law_seen" "_law_seen" sLSeen f fd) (T : Blt mg) (D1 : Df P w K mg base 3 "_law_parts" ["_law_some", "_law_b"] (spPartsL K)) (D2 : Df P w K mg base 2 "_law_once_breaks" ["_law_some", "_law_a", "_law_c", "_law_d"] (spOnceB K)) (D3 : Df P w K mg base 2 "_law_twice_breaks" ["_law_some", "_law_a", "_law_e", "_law_f", "_law_d"] (spTwiceB K)) : FnOk P w K mg base CX0 4 f fd ["_law_some", "_law_a", "_law_b"] (spSeen K) := by
  obtain ⟨f1, fd1, G1, g1, k1, b1⟩ := D1.ex
  obtain ⟨f2, fd2, G2, g2, k2, b2⟩ := D2.ex
  obtain ⟨f3, fd3, G3, g3, k3, b3⟩ := D3.ex
  refine F.ok scLSeen (fun vs H Q E h => ?_) (fun cdv A outer s H vs Q E hr h => ?_)
  · obtain ⟨l, row, a, b, rfl, _⟩ := h
    rfl
  · obtain ⟨la, row, a, b, rfl, hla, ok, ⟨a1, a2⟩, ⟨b1', b2'⟩, kk⟩ := h
    refine ⟨_, (pss_cons (ps_set (i := 3) scLSeen.nd rfl (.inl rfl) (pe_lst pa_nil))
    (pss_cons (ps_for PassesOwn.never rfl (pi_list (pe_call G1 hr (by rfl) g1 k1 b1 .nil pass0 (pa_cons (pv 0) (pa_cons (pv 2) pa_nil)))) (pg_tup (by rfl) (pgs_cons (pg_name (i := 4) scLSeen.nd rfl (.inl rfl)) (pgs_cons (pg_name (i := 5) scLSeen.nd rfl (.inl rfl)) pgs_nil)))
      (pss_cons (ps_set (i := 6) scLSeen.nd rfl (.inr rfl) (pe_call G2 (hr.mono (by decide)) (by rfl) g2 k2 b2 .nil pass0 (pa_cons (pv 0) (pa_cons (pv 1) (pa_cons (pv 4) (pa_cons (pv 5) pa_nil))))))
      (pss_cons (ps_set (i := 7) scLSeen.nd rfl (.inl rfl) (pe_imp (t' := tTw K) (pe_ifExp (pt_cmpR op_eq (pv 4) pe_int (nomark _)) (pe_lst (pa_cons (pe_tup (pa_cons (pe_lst (pa_cons (pe_tup (pa_cons pe_str (pa_cons pe_str pa_nil))) pa_nil)) (pa_cons (pe_tup (pa_cons (pv 1) (pa_cons (pv 4) (pa_cons (pv 5) pa_nil)))) pa_nil))) pa_nil)) (pe_lst pa_nil)) (fun _ _ _ h => tw_imp h)))
      (pss_cons (ps_for PassesOwn.never rfl (pi_list (pe_call G1 hr (by rfl) g1 k1 b1 .nil pass0 (pa_cons (pv 0) (pa_cons (pv 4) pa_nil)))) (pg_tup (by rfl) (pgs_cons (pg_name (i := 8) scLSeen.nd rfl (.inl rfl)) (pgs_cons (pg_name (i := 9) scLSeen.nd rfl (.inl rfl)) pgs_nil)))
        (pss_one (ps_expr (pe_bm PySem.F.plainAttrs_list PySem.F.slot_list_append PySem.F.type_list_append mt_append (pv 7) (pa_cons (pe_tup (pa_cons (pe_call G3 (hr.mono (by decide)) (by rfl) g3 k3 b3 .nil pass0 (pa_cons (pv 0) (pa_cons (pv 1) (pa_cons (pv 8) (pa_cons (pv 9) (pa_cons (pv 5) pa_nil)))))) (pa_cons (pe_tup (pa_cons (pv 1) (pa_cons (pv 8) (pa_cons (pv 9) (pa_cons (pv 5) pa_nil))))) pa_nil))) pa_nil)))))
      (pss_one (ps_imp (t' := tAdd K) (ps_if (pt_cmpR op_eq (pe_callB call_len_seq (by rfl) T.len PySem.boot_len (pa_cons (pv 0) pa_nil)) pe_int (nomark _))
        (pss_one (ps_set (i := 3) scLSeen.nd rfl (.inl rfl) (pe_op op_cat (pv 3) (pe_imp (t' := tRwA K) (pe_lc (own := [("_law_more", 10), ("_law_numbers_here", 11)]) (g := gTup K 2 (gCons (gName 10) (gCons (gName 11) gNil))) (by rfl) scLSeen.nd (pi_list (pv 7)) (blkOk_by (own := [("_law_more", 10), ("_law_numbers_here", 11)]) (N := nSeen) (sc := defScope sLSeen) (by decide +kernel)) (fun _ _ _ _ _ => (pg_tup (by rfl) (pgs_cons (pg_name (i := 10) scLSeen.nd rfl (.inl rfl)) (pgs_cons (pg_name (i := 11) scLSeen.nd rfl (.inl rfl)) pgs_nil)))) (fun _ _ _ _ _ => pts_nil) (fun _ _ _ _ _ => (pe_tup (pa_cons (pv 6) (pa_cons (pv 10) (pa_cons (pv 11) pa_nil)))))) (fun _ _ _ h => rwA_imp h)))))
        (pss_one (ps_if (pt_cmpR op_le (pe_op op_mul (pe_ix ix_tup (pv 0) pe_int (fun _ _ => rfl)) (pv 4)) (pe_op op_add (pe_op op_mul (pe_ix ix_tup (pv 0) pe_int (fun _ _ => rfl)) (pv 5)) (pe_ix ix_tup (pv 0) pe_int (fun _ _ => rfl))) (nomark _))
          (pss_one (ps_expr (pe_bm PySem.F.plainAttrs_list PySem.F.slot_list_append PySem.F.type_list_append mt_append (pv 3) (pa_cons (pe_tup (pa_cons (pv 6) (pa_cons pe_non (pa_cons (pe_tup (pa_cons (pv 1) (pa_cons (pv 4) (pa_cons (pv 5) pa_nil)))) pa_nil)))) pa_nil))))
          (pss_one (ps_set (i := 3) scLSeen.nd rfl (.inl rfl) (pe_op op_cat (pv 3) (pe_imp (t' := tRwB K) (pe_lc (own := [("_law_more", 10), ("_law_numbers_here", 11)]) (g := gTup K 2 (gCons (gName 10) (gCons (gName 11) gNil))) (by rfl) scLSeen.nd (pi_list (pv 7)) (blkOk_by (own := [("_law_more", 10), ("_law_numbers_here", 11)]) (N := nSeen) (sc := defScope sLSeen) (by decide +kernel)) (fun _ _ _ _ _ => (pg_tup (by rfl) (pgs_cons (pg_name (i := 10) scLSeen.nd rfl (.inl rfl)) (pgs_cons (pg_name (i := 11) scLSeen.nd rfl (.inl rfl)) pgs_nil)))) (fun _ _ _ _ _ => pts_nil) (fun _ _ _ _ _ => (pe_tup (pa_cons pe_non (pa_cons (pv 10) (pa_cons (pv 11) pa_nil)))))) (fun _ _ _ h => rwB_imp h)))))))) (fun _ _ _ h => add_imp h))))))) 
    (pss_one (ps_ret (pv 3))))), ?_⟩
    refine ⟨(by show 0 ≤ sizeLine; decide), fun l0 n0 => ?_⟩
    have s0 := same_new (o := .lst []) n0
    have h0 : upd H l0 (.lst []) l0 = some (.lst []) := upd_same
    generalize upd H l0 (.lst []) = H1 at s0 h0 ⊢
    refine ⟨_, rfl, _, rfl, la, row, b, rfl, s0 _ _ hla, ok, b1', by omega, fun v H2 s1 nw pl => ?_⟩
    obtain ⟨lp, vp, rfl, hlp, a2p⟩ := pl
    have s02 := s0.trans s1
    have h02 := s1 _ _ h0
    have hla2 := s02 _ _ hla
    have lpl : lp ≠ l0 := fun z => by have := nw lp rfl; rw [z, h0] at this; cases this
    have lcs : (row.parts b).length ≤ 60 := by
      have h3 := List.length_filter_le (row.evB b) (upTo (b - 1).toNat)
      rw [upTo_len] at h3
      exact Nat.le_trans h3 (by omega)
    refine ⟨lp, rfl, ⟨_, SqL.of hlp⟩, ?_⟩
    refine for_list (xs := vp) (fun i σ G => But l0 H2 G ∧ ∃ (lf : Addr) (vs : List V) (z4 z5 z6 z7 z8 z9 z10 z11 : Option V), σ = [some (.ref la), some (.int a), some (.int b), some (.ref lf), z4, z5, z6, z7, z8, z9, z10, z11] ∧ (lf = l0 ∨ H2 lf = none) ∧ G lf = some (.lst vs) ∧ vs.length ≤ 100 * i ∧ All2 (RwV K G lf) vs (((row.parts b).take i).flatMap fun c => row.rowsAt (row.g a b) c))
      ⟨fun _ _ _ e => e, l0, [], _, _, _, _, _, _, _, _, rfl, .inl rfl, h02, Nat.zero_le _, trivial⟩ (fun i σ G _ h => SqL.of (h.1 _ _ lpl hlp)) (fun i v σ G hi hp => ?_) (fun σ G hp => ?_)
    · obtain ⟨sg, lf, vs, z4, z5, z6, z7, z8, z9, z10, z11, rfl, hlf0, hlf, lvs, al⟩ := hp
      obtain ⟨c, ec, t, rfl, ht⟩ := a2p.get hi
      have cm : c ∈ row.parts b := List.mem_of_getElem? ec
      obtain ⟨c1, c2⟩ := parts_mem cm
      have i60 : i < 60 := Nat.lt_of_lt_of_le (List.getElem?_eq_some_iff.mp ec).1 lcs
      have htG := sg _ _ (ne_of ht h02 (by intro z; cases z)) ht
      have hlaG : RwAt G la row := sg _ _ (ne_of hla2 h02 (by intro z; cases z)) hla2
      refine ⟨t, _, rfl, SqT.of htG, rfl, _, _, rfl, _, _, rfl, rfl, ?_⟩
      refine ⟨_, rfl, _, rfl, _, rfl, _, rfl, la, row, a, c, b - c, rfl, hlaG, ok, fun v1 G1 p1 nw1 bk1 => ?_⟩
      obtain ⟨lo, vo, rfl, hlo, ao⟩ := bk1
      have nlo := nw1 lo rfl
      refine ⟨a, c, b - c, rfl, rfl, rfl, fun lt G2 vt p2 nlt hlt at2 => ?_⟩
      have p12 := p1.trans p2
      have hlaG2 : RwAt G2 la row := p12 _ _ hlaG
      refine ⟨_, rfl, _, rfl, la, row, c, rfl, hlaG2, ok, c1, by omega, fun v3 G3 p3 nw3 pl3 => ?_⟩
      obtain ⟨le, ve, rfl, hle, a3⟩ := pl3
      have nle := nw3 le rfl
      have hlt3 := p3 _ _ hlt
      have lel : le ≠ lt := fun z => by rw [z, hlt] at nle; cases nle
      have nltG : G lt = none := Same.none p1 nlt
      have p13 := p12.trans p3
      refine ⟨le, rfl, ⟨_, SqL.of hle⟩, ?_⟩
      refine for_list (xs := ve) (fun j σ G' => But lt G3 G' ∧ ∃ (vt' : List V) (z8 z9 z10 z11 : Option V), σ = [some (.ref la), some (.int a), some (.int b), some (.ref lf), some (.int c), some (.int (b - c)), some (.ref lo), some (.ref lt), z8, z9, z10, z11] ∧ G' lt = some (.lst vt') ∧ All2 (TwV K G' lt) vt' ((if c = 1 then [([Bk.st], [a, c, b - c])] else []) ++ ((row.parts c).take j).map fun e => ((row.g a b).twiceL e (c - e) (b - c), [a, e, c - e, b - c])))
        ⟨fun _ _ _ e => e, vt, _, _, _, _, rfl, hlt3, by rw [List.take_zero, List.map_nil, List.append_nil]; exact at2.mono fun _ _ => TwV.keep p3⟩ (fun j σ G' _ h => SqL.of (h.1 _ _ lel hle)) (fun j v σ G' hj hp => ?_) (fun σ G' hp => ?_)
      · obtain ⟨sg', vt', z8, z9, z10, z11, rfl, hlt', al'⟩ := hp
        obtain ⟨e, ee, t', rfl, ht'⟩ := a3.get hj
        have em : e ∈ row.parts c := List.mem_of_getElem? ee
        have htG' := sg' _ _ (ne_of ht' hlt3 (by intro z; cases z)) ht'
        have hlaG' : RwAt G' la row := sg' _ _ (ne_of (p3 _ _ hlaG2) hlt3 (by intro z; cases z)) (p3 _ _ hlaG2)
        refine ⟨t', _, rfl, SqT.of htG', rfl, _, _, rfl, _, _, rfl, rfl, ?_⟩
        refine ⟨_, rfl, .inl ⟨rfl, _, SqL.of hlt'⟩, _, rfl, _, rfl, _, rfl, _, rfl, _, rfl, la, row, a, e, c - e, b - c, rfl, hlaG', ok, fun v4 G4 p4 nw4 bk4 => ?_⟩
        obtain ⟨l4, v4s, rfl, hl4, a4⟩ := bk4
        have nl4 := nw4 l4 rfl
        refine ⟨_, rfl, _, rfl, _, rfl, _, rfl, (by show 4 ≤ sizeLine; decide), fun n5 nn5 => ?_⟩
        have p5 := same_new (o := .tup [.int a, .int e, .int (c - e), .int (b - c)]) nn5
        have h5 : upd G4 n5 (.tup [.int a, .int e, .int (c - e), .int (b - c)]) n5 = some (.tup [.int a, .int e, .int (c - e), .int (b - c)]) := upd_same
        generalize upd G4 n5 (.tup [.int a, .int e, .int (c - e), .int (b - c)]) = G5 at p5 h5 ⊢
        refine ⟨(by show 2 ≤ sizeLine; decide), fun t6 nt6 => ?_⟩
        have p6 := same_new (o := .tup [.ref l4, .ref n5]) nt6
        have h6 : upd G5 t6 (.tup [.ref l4, .ref n5]) t6 = some (.tup [.ref l4, .ref n5]) := upd_same
        generalize upd G5 t6 (.tup [.ref l4, .ref n5]) = G6 at p6 h6 ⊢
        have p46 := (p4.trans p5).trans p6
        have hlt6 := p46 _ _ hlt'
        have l4t : l4 ≠ lt := fun z => by rw [z, hlt'] at nl4; cases nl4
        have lv := al'.len
        have lp3 : (row.parts c).length ≤ 60 := by
          have h3 := List.length_filter_le (row.evB c) (upTo (c - 1).toNat)
          rw [upTo_len] at h3
          exact Nat.le_trans h3 (by omega)
        have u : But lt G6 (upd G6 lt (.lst (vt' ++ [.ref t6]))) := But.upd_at
        refine ⟨lt, _, _, rfl, rfl, hlt6, ?_, fun x o n e => u _ _ n (p46 _ _ (sg' _ _ n e)), _, _, _, _, _, rfl, upd_same, ?_⟩
        · rw [List.length_append, List.length_map, List.length_take] at lv
          have : (if c = 1 then [([Bk.st], [a, c, b - c])] else [] : List (List Bk × List Int)).length ≤ 1 := by
            by_cases z : c = 1
            · rw [if_pos z]; exact Nat.le_refl _
            · rw [if_neg z]; exact Nat.zero_le _
          exact Nat.lt_of_le_of_lt (show _ ≤ 100 by omega) (by decide)
        · rw [take_snoc ee, List.map_append, ← List.append_assoc]
          refine (al'.mono fun _ _ x => TwV.but hlt6 u (TwV.keep p46 x)).app ⟨TwV.but hlt6 u ⟨t6, n5, .ref l4, rfl, h6, ⟨l4, v4s, rfl, l4t, p6 _ _ (p5 _ _ hl4), ?_⟩, p6 _ _ h5⟩, trivial⟩
          show BkAll K G6 v4s ((row.g a b).twiceL e (c - e) (b - c))
          rw [Row.twiceL_eq]
          exact a4.keep (p5.trans p6)
      · obtain ⟨sg', vt', z8, z9, z10, z11, rfl, hlt', al'⟩ := hp
        have e3 : ve.length = (row.parts c).length := a3.len
        rw [e3, List.take_length] at al'
        have al' : All2 (TwV K G' lt) vt' ((row.g a b).twL c (b - c)) := al'
        have lfl : lf ≠ lt := fun z => by rw [z, nltG] at hlf; cases hlf
        have lolf : lo ≠ lf := fun z => by rw [z, hlf] at nlo; cases nlo
        have lolt : lo ≠ lt := fun z => by rw [z, nlt] at hlo; cases hlo
        have p23 := p2.trans p3
        have olf : OL K G3 lf (.ref lo) (some ((row.g a b).onceL c (b - c))) := by
          rw [Row.onceL_eq]
          exact ⟨lo, vo, rfl, lolf, p23 _ _ hlo, ao.keep p23⟩
        have olt : OL K G3 lt (.ref lo) (some ((row.g a b).onceL c (b - c))) := by
          rw [Row.onceL_eq]
          exact ⟨lo, vo, rfl, lolt, p23 _ _ hlo, ao.keep p23⟩
        have hlaG' : RwAt G' la row := sg' _ _ (ne_of (p3 _ _ hlaG2) hlt3 (by intro z; cases z)) (p3 _ _ hlaG2)
        have hlf' := sg' _ _ lfl (p13 _ _ hlf)
        have al2 : All2 (RwV K G' lf) vs (((row.parts b).take i).flatMap fun c => row.rowsAt (row.g a b) c) := (al.mono fun _ _ x => RwV.keep p13 x).mono2 (fun _ _ x y => RwV.but2 hlt3 sg' x y) (al.mono fun _ _ x => RwV.keep p13 (RwV.new nltG x))
        refine ⟨la, lf, lt, row, a, b, c, .ref lo, vs, vt', _, z8, z9, z10, z11, rfl, hlaG', ok, ⟨c1, c2, b2'⟩, hlf', by omega, al2, olf.but2 olt hlt3 sg', hlt', olt.but hlt3 sg', al', fun lf' G'' vs' sb w hl' al3 => ?_⟩
        have through : ∀ x o, x ≠ l0 → H2 x = some o → G' x = some o := fun x o n e => by
          have e1 := sg _ _ n e
          exact sg' _ _ (fun z => by rw [z, nltG] at e1; cases e1) (p13 _ _ e1)
        refine ⟨fun x o n e => sb _ _ (fun z => ?_) (through _ _ n e), lf', vs', _, _, _, _, _, _, _, _, rfl, ?_, hl', ?_, ?_⟩
        · rcases hlf0 with h | h
          · exact n (z.trans h)
          · rw [z, h] at e; cases e
        · rcases w with w | w
          · rw [w]; exact hlf0
          · by_cases z : lf' = l0
            · exact .inl z
            · refine .inr ?_
              cases e : H2 lf' with
              | none => rfl
              | some o => rw [through _ _ z e] at w; cases w
        · have l3 := al3.len
          have l1 := al.len
          have l2 := rowsAt_len (row := row) (g := row.g a b) (c := c)
          rw [List.length_append] at l3
          omega
        · rw [take_snoc ec, List.flatMap_append]
          have e : ([c].flatMap fun c => row.rowsAt (row.g a b) c) = row.rowsAt (row.g a b) c := by simp
          rw [e]
          exact al3
    · obtain ⟨sg, lf, vs, z4, z5, z6, z7, z8, z9, z10, z11, rfl, hlf0, hlf, lvs, al⟩ := hp
      refine ⟨_, rfl, ?_⟩
      have e : vp.length = (row.parts b).length := a2p.len
      rw [e, List.take_length] at al
      refine kk _ _ (fun x o e => sg _ _ (fun z => ?_) (s02 _ _ e)) ⟨lf, vs, rfl, hlf, al⟩
      rw [z, n0] at e
      cases e
end
end Ev
set_option maxHeartbeats 1000000
namespace Ev
open PySem L2 PySem.Spec PyProof.Rows RZ
/-! The law's own way: the first case, the first numbers. -/
theorem hu65 {k : Nat} {A : Around} (hr : Room k A) : A.units + 65 < cLine := by have := hr.un; omega
theorem BkV.isN2 {K : PySem.W.Frag} {H : Hp} {v : V} {o : Option Bk} (h : BkV K H v o) : decide (v = .non) = o.isNone := by
  rw [h.isN]
  cases o <;> rfl
theorem OL.isN {K : PySem.W.Frag} {H : Hp} {l : Addr} {v : V} {o : Option (List Bk)} (h : OL K H l v o) : decide (v = .non) = o.isNone := by
  cases o with
  | none =>
    have : v = .non := h
    rw [this]
    rfl
  | some b =>
    obtain ⟨a, vs, rfl, _⟩ := h
    rfl
theorem rows_len {row : Row} {g : Gp} {r : Rw} (h : r ∈ row.rows g) : r.2.2.length = 3 ∨ r.2.2.length = 4 := by
  have tw : ∀ c d x, x ∈ g.twL c d → x.2.length = 3 ∨ x.2.length = 4 := fun c d x hx => by
    rcases mem_twL.mp hx with ⟨_, rfl⟩ | ⟨e, _, rfl⟩
    · exact .inl rfl
    · exact .inr rfl
  obtain ⟨c, _, hc⟩ := List.mem_flatMap.mp h
  cases row with
  | tr p q k =>
    obtain ⟨x, hx, rfl⟩ := List.mem_map.mp (show r ∈ (g.twL c (g.b - c)).map _ from hc)
    exact tw _ _ _ hx
  | tn p q k t s r' =>
    have hc : r ∈ (if s * c ≤ t * (g.b - c) + r' then [(some (g.onceL c (g.b - c)), none, [g.a, c, g.b - c])] else (g.twL c (g.b - c)).map fun x => (none, some x.1, x.2) : List Rw) := hc
    by_cases z : s * c ≤ t * (g.b - c) + r'
    · rw [if_pos z] at hc
      rw [List.mem_singleton.mp hc]
      exact .inl rfl
    · rw [if_neg z] at hc
      obtain ⟨x, hx, rfl⟩ := List.mem_map.mp hc
      exact tw _ _ _ hx
/-- the best numbers so far -/
def BsV (H : Hp) (v : V) : Option (List Int) → Prop
  | none => v = .non
  | some ns => ∃ n : Addr, v = .ref n ∧ H n = some (.tup (ns.map V.int)) ∧ (ns.length = 3 ∨ ns.length = 4)
theorem BsV.keep {H H' : Hp} {v : V} {o : Option (List Int)} (s : Same H H') (h : BsV H v o) : BsV H' v o := by
  cases o with
  | none => exact h
  | some ns =>
    obtain ⟨n, e, h, l⟩ := h
    exact ⟨n, e, s _ _ h, l⟩
theorem BsV.isN {H : Hp} {v : V} {o : Option (List Int)} (h : BsV H v o) : decide (v = .non) = o.isNone := by
  cases o with
  | none =>
    have : v = .non := h
    rw [this]
    rfl
  | some b =>
    obtain ⟨a, rfl, _⟩ := h
    rfl
/-- both are there or both are not -/
def tFa (K : PySem.W.Frag) : TE := fun σ H Q => ∃ (l : Addr) (v4 v5 v7 v8 : V) (o t : Option Bk) (x y : Option (List Bk)), σ[4]? = some (some v4) ∧ σ[5]? = some (some v5) ∧ σ[7]? = some (some v7) ∧ σ[8]? = some (some v8) ∧
  BkV K H v4 o ∧ BkV K H v5 t ∧ OL K H l v7 x ∧ OL K H l v8 y ∧ Q (.bl (o.isNone == x.isNone && t.isNone == y.isNone)) H
def tFb (K : PySem.W.Frag) : TE := fun σ H Q => ∃ (l : Addr) (v4 v5 v7 v8 : V) (o t : Option Bk) (x y : Option (List Bk)), σ[4]? = some (some v4) ∧ σ[5]? = some (some v5) ∧ σ[7]? = some (some v7) ∧ σ[8]? = some (some v8) ∧ σ[10]? = some (some (.bl (o.isNone == x.isNone && t.isNone == y.isNone))) ∧
  BkV K H v4 o ∧ BkV K H v5 t ∧ OL K H l v7 x ∧ OL K H l v8 y ∧ Q (.bl (inO o x && inO t y)) H
theorem drop_at {α : Type} {xs : List α} {i : Nat} {x : α} (h : xs[i]? = some x) : xs.drop i = x :: xs.drop (i + 1) := by
  obtain ⟨hi, e⟩ := List.getElem?_eq_some_iff.mp h
  rw [List.drop_eq_getElem_cons hi, e]
theorem scal_bl (x y : Bool) : scal (.bl x) (.bl y) = true := rfl
theorem dec_bl (x y : Bool) : decide (V.bl x = V.bl y) = (x == y) := by cases x <;> cases y <;> decide
theorem fa_imp {K : PySem.W.Frag} {σ : L2.St} {H : Hp} {Q : VK} (h : tFa K σ H Q) : tAndV
    (tOp rEq (tOp (fun x y H Q => y = V.non ∧ Q (V.bl (decide (x = V.non))) H) (tVar 4) (tC V.non))
      (tOp (fun x y H Q => y = V.non ∧ Q (V.bl (decide (x = V.non))) H) (tVar 7) (tC V.non)))
    (tOp rEq (tOp (fun x y H Q => y = V.non ∧ Q (V.bl (decide (x = V.non))) H) (tVar 5) (tC V.non))
      (tOp (fun x y H Q => y = V.non ∧ Q (V.bl (decide (x = V.non))) H) (tVar 8) (tC V.non)))
    σ H Q := by
  obtain ⟨l, v4, v5, v7, v8, o, t, x, y, e4, e5, e7, e8, b4, b5, b7, b8, k⟩ := h
  refine ⟨_, e4, rfl, _, e7, rfl, rfl, _, rfl, ?_⟩
  rw [b4.isN2, b7.isN, dec_bl]
  cases e : (o.isNone == x.isNone) with
  | false =>
    rw [e] at k
    exact iteF k
  | true =>
    rw [e] at k
    refine iteT ⟨_, e5, rfl, _, e8, rfl, rfl, ?_⟩
    rw [b5.isN2, b8.isN, dec_bl]
    exact k
theorem or_in {K : PySem.W.Frag} {σ : L2.St} {H : Hp} {Q : VK} {i j : Nat} {l : Addr} {v u : V} {o : Option Bk} {x : Option (List Bk)} (ei : σ[i]? = some (some v)) (ej : σ[j]? = some (some u)) (hv : BkV K H v o) (hu : OL K H l u x) (hn : (o.isNone == x.isNone) = true) (k : Q (.bl (inO o x)) H) :
    tOrV (tOp (fun x y H Q => y = V.non ∧ Q (V.bl (decide (x = V.non))) H) (tVar i) (tC V.non)) (tOp (rInL K) (tVar i) (tVar j)) σ H Q := by
  refine ⟨_, ei, rfl, _, rfl, ?_⟩
  rw [hv.isN2]
  cases o with
  | none =>
    cases x with
    | none => exact iteT k
    | some _ => cases hn
  | some b =>
    cases x with
    | none => cases hn
    | some bs =>
      obtain ⟨a, vs, rfl, n, ha, al⟩ := hu
      refine iteF ⟨_, ei, _, ej, in_bks hv ha al ?_⟩
      have e : inO (some b) (some bs) = decide (b ∈ bs) := Bool.true_and _
      rw [e] at k
      exact k
theorem fb_imp {K : PySem.W.Frag} {σ : L2.St} {H : Hp} {Q : VK} (h : tFb K σ H Q) : tAndV (tVar 10)
    (tAndV
      (tOrV (tOp (fun x y H Q => y = V.non ∧ Q (V.bl (decide (x = V.non))) H) (tVar 4) (tC V.non)) (tOp (rInL K) (tVar 4) (tVar 7)))
      (tOrV (tOp (fun x y H Q => y = V.non ∧ Q (V.bl (decide (x = V.non))) H) (tVar 5) (tC V.non)) (tOp (rInL K) (tVar 5) (tVar 8))))
    σ H Q := by
  obtain ⟨l, v4, v5, v7, v8, o, t, x, y, e4, e5, e7, e8, e10, b4, b5, b7, b8, k⟩ := h
  refine ⟨_, e10, _, rfl, ?_⟩
  cases e1 : (o.isNone == x.isNone) with
  | false =>
    have : inO o x = false := by unfold inO; rw [e1]; rfl
    rw [this] at k
    exact iteF k
  | true =>
    cases e2 : (t.isNone == y.isNone) with
    | false =>
      have : inO t y = false := by unfold inO; rw [e2]; rfl
      rw [this, Bool.and_false] at k
      exact iteF k
    | true =>
      refine iteT (or_in e4 e7 b4 b7 e1 ⟨_, rfl, ?_⟩)
      cases e3 : inO o x with
      | false =>
        rw [e3] at k
        exact iteF k
      | true =>
        rw [e3] at k
        exact iteT (or_in e5 e8 b5 b8 e2 k)
section
variable {P : Program} {w : World} {K : PySem.W.Frag} {mg : Str → Option Value} {base : Heap}
abbrev nDue : List Str := ["_law_some", "_law_a", "_law_b", "_law_rows", "_law_one", "_law_two", "_law_best", "_law_once", "_law_twice", "_law_numbers_here", "_law_fits"]
theorem scLDue : FnScope ["_law_some", "_law_a", "_law_b", "_law_rows", "_law_one", "_law_two", "_law_best", "_law_once", "_law_twice", "_law_numbers_here", "_law_fits"] ["_law_some", "_law_a", "_law_b"] (defScope sLDue) := ⟨rfl, rfl, rfl, by decide +kernel, rfl, by decide +kernel, by decide +kernel⟩
def spDue (K : PySem.W.Frag) : Sp := fun vs H Q _ => ∃ (l : Addr) (row : Row) (a b : Int), vs = [.ref l, .int a, .int b] ∧ RwAt H l row ∧ row.ok ∧ (1 ≤ a ∧ a ≤ 1000) ∧ (1 ≤ b ∧ b ≤ 60) ∧
  ∀ v H', Same H H' → FoV K H' v (dueR (row.rows (row.g a b)) row.order) → Q v H'
theorem ok_due {f : Addr} {fd : FuncData} (F : Fun K "_law_due" "_law_due" sLDue f fd) (D1 : Df P w K mg base 4 "_law_seen" ["_law_some", "_law_a", "_law_b"] (spSeen K)) (D2 : Df P w K mg base 1 "_law_order" ["_law_some"] (spOrder K)) (D3 : Df P w K mg base 1 "_law_code" ["_law_numbers_here"] spCode) : FnOk P w K mg base CX0 5 f fd ["_law_some", "_law_a", "_law_b"] (spDue K) := by
  obtain ⟨f1, fd1, G1, g1, k1, b1⟩ := D1.ex
  obtain ⟨f2, fd2, G2, g2, k2, b2⟩ := D2.ex
  obtain ⟨f3, fd3, G3, g3, k3, b3⟩ := D3.ex
  refine F.ok scLDue (fun vs H Q E h => ?_) (fun cdv A outer s H vs Q E hr h => ?_)
  · obtain ⟨l, row, a, b, rfl, _⟩ := h
    rfl
  · obtain ⟨la, row, a, b, rfl, hla, ok, ha, hb, kk⟩ := h
    refine ⟨_, (pss_cons (ps_set (i := 3) scLDue.nd rfl (.inl rfl) (pe_call G1 hr (by rfl) g1 k1 b1 .nil pass0 (pa_cons (pv 0) (pa_cons (pv 1) (pa_cons (pv 2) pa_nil)))))
    (pss_cons (ps_for PassesOwn.never rfl (pi_list (pe_call G2 (hr.mono (by decide)) (by rfl) g2 k2 b2 .nil pass0 (pa_cons (pv 0) pa_nil))) (pg_tup (by rfl) (pgs_cons (pg_name (i := 4) scLDue.nd rfl (.inl rfl)) (pgs_cons (pg_name (i := 5) scLDue.nd rfl (.inl rfl)) pgs_nil)))
      (pss_cons (ps_set (i := 6) scLDue.nd rfl (.inl rfl) pe_non)
      (pss_cons (ps_for PassesOwn.never rfl (pi_list (pv 3)) (pg_tup (by rfl) (pgs_cons (pg_name (i := 7) scLDue.nd rfl (.inl rfl)) (pgs_cons (pg_name (i := 8) scLDue.nd rfl (.inl rfl)) (pgs_cons (pg_name (i := 9) scLDue.nd rfl (.inl rfl)) pgs_nil))))
        (pss_cons (ps_set (i := 10) scLDue.nd rfl (.inl rfl) (pe_imp (t' := tFa K) (pe_and (pe_cmpR op_eq (pe_cmpR op_isN (pv 4) pe_non (nomark _)) (pe_cmpR op_isN (pv 7) pe_non (nomark _)) (nomark _)) (pe_one (pe_cmpR op_eq (pe_cmpR op_isN (pv 5) pe_non (nomark _)) (pe_cmpR op_isN (pv 8) pe_non (nomark _)) (nomark _)))) (fun _ _ _ h => fa_imp h)))
        (pss_cons (ps_set (i := 10) scLDue.nd rfl (.inl rfl) (pe_imp (t' := tFb K) (pe_and (pv 10) (pe_and (pe_or (pe_cmpR op_isN (pv 4) pe_non (nomark _)) (pe_one (pe_cmpR (op_inL (hu65 hr)) (pv 4) (pv 7) (by rfl)))) (pe_one (pe_or (pe_cmpR op_isN (pv 5) pe_non (nomark _)) (pe_one (pe_cmpR (op_inL (hu65 hr)) (pv 5) (pv 8) (by rfl))))))) (fun _ _ _ h => fb_imp h)))
        (pss_one (ps_if (PW.pt (pw_and (pt_val (pv 10)) (pw_and1 (PW.pt (pw_or (pt_cmpR op_isN (pv 6) pe_non (nomark _)) (pw_or1 (pt_cmpR op_lt (pe_call G3 (hr.mono (by decide)) (by rfl) g3 k3 b3 .nil pass0 (pa_cons (pv 9) pa_nil)) (pe_call G3 (hr.mono (by decide)) (by rfl) g3 k3 b3 .nil pass0 (pa_cons (pv 6) pa_nil)) (nomark _))))))))
          (pss_one (ps_set (i := 6) scLDue.nd rfl (.inl rfl) (pv 9))) pss_nil)))))
      (pss_one (ps_if (pt_cmpR op_notN (pv 6) pe_non (nomark _))
        (pss_one (ps_ret (pe_tup (pa_cons (pv 4) (pa_cons (pv 5) (pa_cons (pv 6) pa_nil)))))) pss_nil)))))
    (pss_one (ps_ret pe_non)))), ?_⟩
    refine ⟨_, rfl, _, rfl, _, rfl, la, row, a, b, rfl, hla, ok, ha, hb, fun v H1 s1 sv => ?_⟩
    obtain ⟨lr, vr, rfl, hlr, ar⟩ := sv
    have rl : ∀ r ∈ row.rows (row.g a b), r.2.2.length = 3 ∨ r.2.2.length = 4 := fun r => rows_len
    have ar : All2 (RwV K H1 lr) vr (row.rows (row.g a b)) := ar
    generalize row.rows (row.g a b) = rows at ar kk rl
    refine ⟨_, rfl, la, row, rfl, s1 _ _ hla, fun v2 H2 s2 ov => ?_⟩
    obtain ⟨lo, vo, rfl, hlo, ao⟩ := ov
    generalize row.order = ord at ao kk
    have hlr2 := s2 _ _ hlr
    have ar2 : All2 (RwV K H2 lr) vr rows := ar.mono fun _ _ => RwV.keep s2
    refine ⟨lo, rfl, ⟨_, SqL.of hlo⟩, ?_⟩
    refine for_list (xs := vo) (fun i σ G => Same H2 G ∧ dueR rows ord = dueR rows (ord.drop i) ∧ ∃ (z4 z5 z6 z7 z8 z9 z10 : Option V), σ = [some (.ref la), some (.int a), some (.int b), some (.ref lr), z4, z5, z6, z7, z8, z9, z10]) ⟨Same.refl _, rfl, _, _, _, _, _, _, _, rfl⟩ (fun i σ G _ h => SqL.of (h.1 _ _ hlo)) (fun i v σ G hi hp => ?_) (fun σ G hp => ?_)
    · obtain ⟨sg, ed, z4, z5, z6, z7, z8, z9, z10, rfl⟩ := hp
      obtain ⟨⟨o, t⟩, eo, ta, v1, v2, rfl, hta, q1, q2⟩ := ao.get hi
      refine ⟨ta, _, rfl, SqT.of (sg _ _ hta), rfl, _, _, rfl, _, _, rfl, rfl, ?_⟩
      refine ⟨_, rfl, lr, rfl, ⟨_, SqL.of (sg _ _ hlr2)⟩, ?_⟩
      have hlrG := sg _ _ hlr2
      refine for_list (xs := vr) (fun j σ G' => Same G G' ∧ ∃ (v6 : V) (z7 z8 z9 z10 : Option V) (best : Option (List Int)), σ = [some (.ref la), some (.int a), some (.int b), some (.ref lr), some v1, some v2, some v6, z7, z8, z9, z10] ∧ BsV G' v6 best ∧ bestR o t rows none = bestR o t (rows.drop j) best)
        ⟨Same.refl _, .non, _, _, _, _, none, rfl, rfl, rfl⟩ (fun j σ G' _ h => SqL.of (h.1 _ _ hlrG)) (fun j v σ G' hj hp => ?_) (fun σ G' hp => ?_)
      · obtain ⟨sg', v6, z7, z8, z9, z10, best, rfl, hb6, eb⟩ := hp
        obtain ⟨r, er, t3, n3, w1, w2, rfl, h3, o1, o2, hn⟩ := ar2.get hj
        have s2' := sg.trans sg'
        refine ⟨t3, _, rfl, SqT.of (s2' _ _ h3), rfl, _, _, rfl, _, _, rfl, _, _, rfl, rfl, ?_⟩
        have r1 := q1.keep s2'
        have r2 := q2.keep s2'
        have r3 := o1.keep s2'
        have r4 := o2.keep s2'
        refine ⟨lr, v1, v2, w1, w2, o, t, r.1, r.2.1, rfl, rfl, rfl, rfl, r1, r2, r3, r4, ?_⟩
        refine ⟨lr, v1, v2, w1, w2, o, t, r.1, r.2.1, rfl, rfl, rfl, rfl, rfl, r1, r2, r3, r4, ?_⟩
        rw [drop_at er] at eb
        have eb : bestR o t rows none = bestR o t (rows.drop (j + 1)) (if (fitsR o t r && lessR r.2.2 best) = true then some r.2.2 else best) := eb
        refine ⟨_, rfl, _, rfl, ?_⟩
        show (if fitsR o t r = true then _ else _)
        cases ef : fitsR o t r with
        | false =>
          rw [ef] at eb
          exact iteF ⟨sg', v6, _, _, _, _, best, rfl, hb6, eb⟩
        | true =>
          rw [ef, Bool.true_and] at eb
          have rm : r.2.2.length = 3 ∨ r.2.2.length = 4 := rl r (List.mem_of_getElem? er)
          have hnG := s2' _ _ hn
          refine iteT ⟨_, rfl, rfl, _, rfl, ?_⟩
          rw [hb6.isN]
          cases best with
          | none => exact iteT (iteT ⟨_, rfl, sg', .ref n3, _, _, _, _, some r.2.2, rfl, ⟨n3, rfl, hnG, rm⟩, eb⟩)
          | some m =>
            obtain ⟨nb, rfl, hnb, lm⟩ := hb6
            refine iteF ⟨_, rfl, n3, r.2.2, rfl, hnG, rm, fun G1 p1 => ?_⟩
            refine ⟨_, rfl, nb, m, rfl, p1 _ _ hnb, lm, fun G2 p2 => ?_⟩
            have p12 := p1.trans p2
            refine ⟨_, _, rfl, rfl, _, rfl, ?_⟩
            show (if decide (codeV r.2.2 < codeV m) = true then _ else _)
            have eb : bestR o t rows none = bestR o t (rows.drop (j + 1)) (if decide (codeV r.2.2 < codeV m) = true then some r.2.2 else some m) := eb
            cases ec : decide (codeV r.2.2 < codeV m) with
            | true =>
              rw [ec] at eb
              exact iteT ⟨_, rfl, sg'.trans p12, .ref n3, _, _, _, _, some r.2.2, rfl, ⟨n3, rfl, p12 _ _ hnG, rm⟩, eb⟩
            | false =>
              rw [ec] at eb
              exact iteF ⟨sg'.trans p12, .ref nb, _, _, _, _, some m, rfl, ⟨nb, rfl, p12 _ _ hnb, lm⟩, eb⟩
      · obtain ⟨sg', v6, z7, z8, z9, z10, best, rfl, hb6, eb⟩ := hp
        have e : vr.length = rows.length := ar.len
        rw [e, List.drop_length] at eb
        have eb : bestR o t rows none = best := eb
        rw [drop_at eo] at ed
        refine ⟨_, rfl, rfl, _, rfl, ?_⟩
        rw [hb6.isN]
        cases best with
        | none =>
          have e2 : dueR rows ((o, t) :: ord.drop (i + 1)) = dueR rows (ord.drop (i + 1)) := by
            show (match bestR o t rows none with
              | some ns => some (o, t, ns)
              | none => dueR rows (ord.drop (i + 1))) = _
            rw [eb]
          rw [e2] at ed
          exact iteF ⟨sg.trans sg', ed, _, _, _, _, _, _, _, rfl⟩
        | some ns =>
          have e2 : dueR rows ((o, t) :: ord.drop (i + 1)) = some (o, t, ns) := by
            show (match bestR o t rows none with
              | some ns => some (o, t, ns)
              | none => dueR rows (ord.drop (i + 1))) = _
            rw [eb]
          rw [e2] at ed
          rw [ed] at kk
          obtain ⟨nb, rfl, hnb, lm⟩ := hb6
          refine iteT ⟨_, rfl, _, rfl, _, rfl, (by show 3 ≤ sizeLine; decide), fun tt ntt => ?_⟩
          have u := same_new (o := .tup [v1, v2, .ref nb]) ntt
          have s2' := (sg.trans sg').trans u
          exact kk _ _ ((s1.trans s2).trans s2') ⟨tt, nb, v1, v2, rfl, upd_same, q1.keep s2', q2.keep s2', u _ _ hnb⟩
    · obtain ⟨sg, ed, z4, z5, z6, z7, z8, z9, z10, rfl⟩ := hp
      have e : vo.length = ord.length := ao.len
      rw [e, List.drop_length] at ed
      rw [ed] at kk
      exact kk _ _ ((s1.trans s2).trans sg) rfl
end
end Ev
set_option maxHeartbeats 1000000
namespace Ev
open PySem L2 PySem.Spec PyProof.Rows RZ
/-! The heavy weights that the law goes through are just those at which a deed can leave a pair. -/
def Row.lo (row : Row) (a : Int) : Int := topV row.p row.q row.k a
def Row.hi (row : Row) (put : Bool) (a : Int) : Int := heavyHi row.p row.q row.k a put
theorem hv_top {row : Row} {a b : Int} (hq : 1 ≤ row.q) : row.hv b a = decide (row.lo a ≤ b) := by
  have h := le_great (p := row.p) (q := row.q) (k := row.k) (x := a) (y := b) hq
  have hl : row.lo a = greatV row.p row.q row.k a + 1 := rfl
  unfold Row.hv
  by_cases z : row.p * a + row.k < row.q * b
  · rw [decide_eq_true z]
    symm
    refine decide_eq_true ?_
    have : ¬ b ≤ greatV row.p row.q row.k a := fun y => by have := h.mp y; omega
    omega
  · rw [decide_eq_false z]
    symm
    refine decide_eq_false ?_
    have := h.mpr (by omega)
    omega
theorem great_mono {row : Row} {a : Int} (o : okN row.p row.q row.k) : greatV row.p row.q row.k a + 1 ≤ greatV row.p row.q row.k (a + 1) := by
  have h := (le_great (p := row.p) (k := row.k) (x := a) (y := greatV row.p row.q row.k a) o.1).mp (Int.le_refl _)
  refine (le_great o.1).mpr ?_
  rw [Int.mul_add, Int.mul_add]
  have := o.2.1
  omega
theorem lo_hi {row : Row} {put : Bool} {a : Int} (o : okN row.p row.q row.k) : row.lo a ≤ row.hi put a := by
  cases put with
  | true => exact Int.le_refl _
  | false => exact great_mono o
theorem lo_ge {row : Row} {a : Int} (o : okN row.p row.q row.k) (ha : 1 ≤ a) : a + 2 ≤ row.lo a := by
  have h := great_ge o ha
  show a + 2 ≤ greatV row.p row.q row.k a + 1
  omega
theorem great_le {row : Row} {x : Int} (o : okN row.p row.q row.k) (hx : 1 ≤ x) : greatV row.p row.q row.k x ≤ 6 * x + 6 := by
  have h := (le_great (p := row.p) (k := row.k) (x := x) (y := greatV row.p row.q row.k x) o.1).mp (Int.le_refl _)
  have h0 := great_ge o hx
  have h1 : 1 * greatV row.p row.q row.k x ≤ row.q * greatV row.p row.q row.k x := Int.mul_le_mul_of_nonneg_right o.1 (by omega)
  have h2 : row.p * x ≤ 6 * x := Int.mul_le_mul_of_nonneg_right o.2.2.1 (by omega)
  have h3 := o.2.2.2.2.1
  omega
theorem hi_le {row : Row} {put : Bool} {a : Int} (o : okN row.p row.q row.k) (ha : 1 ≤ a) : row.hi put a ≤ 6 * a + 12 := by
  cases put with
  | true =>
    have h := great_le o ha
    show greatV row.p row.q row.k a + 1 ≤ _
    omega
  | false =>
    have h := great_le o (show 1 ≤ a + 1 by omega)
    show greatV row.p row.q row.k (a + 1) ≤ _
    omega
theorem heavy_iff {row : Row} {put : Bool} {a b : Int} (o : okN row.p row.q row.k) : (row.bareB put a b && row.hv b a) = decide (row.lo a ≤ b ∧ b ≤ row.hi put a) := by
  rw [hv_top o.1]
  cases put with
  | true =>
    have e : row.bareB true a b = !decide (row.lo a ≤ b - 1) := by
      show (!row.hv (b - 1) a) = _
      rw [hv_top o.1]
    rw [e]
    have eh : row.hi true a = row.lo a := rfl
    rw [eh]
    by_cases z : row.lo a ≤ b <;> by_cases y : row.lo a ≤ b - 1 <;> simp [z, y] <;> omega
  | false =>
    have e : row.bareB false a b = !decide (row.lo (a + 1) ≤ b) := by
      show (!row.hv b (a + 1)) = _
      rw [hv_top o.1]
    rw [e]
    have eh : row.hi false a = row.lo (a + 1) - 1 := by
      show greatV row.p row.q row.k (a + 1) = greatV row.p row.q row.k (a + 1) + 1 - 1
      omega
    rw [eh]
    by_cases z : row.lo a ≤ b <;> by_cases y : row.lo (a + 1) ≤ b <;> simp [z, y] <;> omega
theorem filter_rng {a lo hi : Int} (h : a ≤ lo) (hh : lo ≤ hi) : ∀ n : Nat, (rngL a n).filter (fun b => decide (lo ≤ b ∧ b ≤ hi)) = rngL lo ((if a + n ≤ hi + 1 then a + (n : Int) else hi + 1) - lo).toNat
  | 0 => by
    have : ((if a + ((0 : Nat) : Int) ≤ hi + 1 then a + ((0 : Nat) : Int) else hi + 1) - lo).toNat = 0 := by
      split <;> omega
    rw [this]
    rfl
  | n + 1 => by
    rw [rngL_succ, filter_snoc, filter_rng h hh n]
    by_cases z : lo ≤ a + (n : Int) ∧ a + (n : Int) ≤ hi
    · rw [if_pos (decide_eq_true z), if_pos (by omega), if_pos (by omega)]
      have e : (a + ((n + 1 : Nat) : Int) - lo).toNat = (a + (n : Int) - lo).toNat + 1 := by omega
      rw [e, rngL_succ]
      congr 2
      omega
    · rw [if_neg (fun y => z (of_decide_eq_true y)), List.append_nil]
      congr 1
      split <;> split <;> omega
theorem heavies_eq {row : Row} {put : Bool} {a : Int} (o : okN row.p row.q row.k) (ha : 1 ≤ a) : row.heavies put a = rngL (row.lo a) (row.hi put a + 1 - row.lo a).toNat := by
  unfold Row.heavies Row.ahead
  rw [List.filter_filter]
  have e : (fun b => row.bareB put a b && row.hv b a) = fun b => decide (row.lo a ≤ b ∧ b ≤ row.hi put a) := by
    funext b
    exact heavy_iff o
  rw [e]
  have h1 := lo_ge o ha
  have h2 := hi_le (put := put) o ha
  rw [filter_rng (by omega) (lo_hi o)]
  congr 2
  rw [if_neg (by omega)]
theorem told_due {row : Row} {put : Bool} {a b : Int} (ok : row.ok) (a1 : 1 ≤ a) (a2 : a ≤ 100) (h1 : row.lo a ≤ b) (h2 : b ≤ row.hi put a) : row.told put a b = dueR (row.rows (row.g a b)) row.order := by
  have o := Row.okN ok
  have e : row.told put a b = row.brk (row.g a b) := if_pos ⟨h1, h2⟩
  rw [e]
  have hb := hi_le (put := put) o a1
  have gok : (row.g a b).ok := ⟨o, a1, h1⟩
  have bare : (row.g a b).bare := by
    cases put with
    | true =>
      refine .inl ((le_great o.1).mp ?_)
      have h2 : b ≤ greatV row.p row.q row.k a + 1 := h2
      show b - 1 ≤ greatV row.p row.q row.k a
      omega
    | false =>
      exact .inr ((le_great o.1).mp h2)
  have b9 : (row.g a b).b ≤ 900 := by show b ≤ 900; omega
  cases row with
  | tr p q k => exact try_due gok bare b9
  | tn p q k t s r => exact turn_due gok bare b9 ok.2.1.1 ok.2.2.1.1
end Ev
namespace Ev
open PySem L2 PySem.Spec PyProof.Rows
/-! == and != by an own __eq__, both answers, beside values of other types. -/
section
variable {prog : Program} {w : World} {A : Around} {E : Value → Shared → Prop} {s : Shared} {K : PySem.W.Frag} {x C f : Addr} {ox : Obj} {od : Option Obj} {y : Value}
theorem neEntry {Q : Fin → Shared → Prop} (room : A.units < cLine) (X : K.In s.heap) (I : PySem.W.InstAt s.heap x ox C od) (he : PySem.W.findIn K (.ref C) "__eq__" = some (some (.ref f))) (hf : PySem.W.isFn K (.ref f) = true)
    (h : wpAny (model prog w) A (call (.ref f) [.ref x, y]) (fun v s' => ∃ b, v = .bool b ∧ Q (.done (.ret (.bool (!b)))) s') E s) : wpAny (model prog w) A (Builtin.«object.__ne__» ⟨[.ref x, y], []⟩) Q E s := by
  have asked : wpAny (model prog w) A (callSpecialIfBound? (.ref x) (Str.ofString "__eq__") [y]) (fun r s' => ∃ b, r = some (.bool b) ∧ Q (.done (.ret (.bool (!b)))) s') E s := by
    refine PySem.W.ifBound_K X I he hf (wpAny_mono h (fun v s' hv => ?_) fun _ _ z => z)
    obtain ⟨b, rfl, q⟩ := hv
    exact ⟨b, rfl, q⟩
  unfold Builtin.«object.__ne__»
  repeat (first
    | (with_reducible refine wpAny_cRoomFor room ?_)
    | (refine wpAny_bind (m := callSpecialIfBound? (.ref x) (Str.ofString "__eq__") [y]) (wpAny_mono asked (fun r s' hr => ?_) fun _ _ z => z)
       obtain ⟨b, rfl, q⟩ := hr)
    | exact q
    | (exact wpAny_truthy_bool q)
    | wp_step)
theorem neCall {Q : Value → Shared → Prop} (room : A.in1.units < cLine) (X : K.In s.heap) (I : PySem.W.InstAt s.heap x ox C od) (hm : PySem.W.mroIn K C (.type "object") = some true) (he : PySem.W.findIn K (.ref C) "__eq__" = some (some (.ref f))) (hf : PySem.W.isFn K (.ref f) = true)
    (h : wpAny (model prog w) A.in1 (call (.ref f) [.ref x, y]) (fun v s' => ∃ b, v = .bool b ∧ Q (.bool (!b)) s') E s) : wpAny (model prog w) A (call (.builtin "object.__ne__") [.ref x, y]) Q E s :=
  wpAny_call (codeAny_call_builtin F.cmp_object.ne.plain F.cmpEntry_ne (PySem.W.check_slot F.cmpKind_ne F.cmpSplit_ne (I.type.andThen (PySem.W.looks_mroIn X hm)) (F.cmpArgs_ne _ _)
    (neEntry room X I he hf h)))
theorem neBound {Q : Option Value → Shared → Prop} {M : Model} (X : K.In s.heap) (I : PySem.W.InstAt s.heap x ox C od) (hn : PySem.W.findIn K (.ref C) "__ne__" = some (some (.builtin "object.__ne__")))
    (h : wpAny M A (call (.builtin "object.__ne__") [.ref x, y]) (fun v => Q (some v)) E s) : wpAny M A (callSpecialIfBound? (.ref x) "__ne__" [y]) Q E s := by
  have last : wpAny M A (call (.builtin "object.__ne__") ([.ref x] ++ [y]) >>= fun v => pure (some v)) Q E s := by
    refine wpAny_bind (wpAny_mono h (fun v s' z => ?_) fun _ _ z => z)
    exact wpAny_pure z
  simp only [callSpecialIfBound?, bindSpecialIfBound?]
  refine wpAny_holding (wpAny_bind (wpAny_bind (wpAny_bind (I.type.here ?_))))
  refine (PySem.W.looks_findIn X hn).here (wpAny_bind (wpAny_askSetting (wpAny_ite ?_)))
  have bd := F.cmp_object.ne.bind (.ref x)
  split
  · refine wpAny_bind (wpAny_of_eq bd ?_)
    exact wpAny_pure (by exact last)
  · refine wpAny_tryCatch (wpAny_bind (wpAny_of_eq bd ?_))
    exact wpAny_pure (by exact last)
theorem neRich {Q : Value → Shared → Prop} {tb : Value} (room : A.units + 1 < cLine) (X : K.In s.heap) (I : PySem.W.InstAt s.heap x ox C od) (hb : PySem.W.Looks (model prog w) s.heap (typeOf y) tb) (nf : PySem.W.notFirst K C tb = true)
    (hm : PySem.W.mroIn K C (.type "object") = some true) (hn : PySem.W.findIn K (.ref C) "__ne__" = some (some (.builtin "object.__ne__"))) (he : PySem.W.findIn K (.ref C) "__eq__" = some (some (.ref f))) (hf : PySem.W.isFn K (.ref f) = true)
    (h : wpAny (model prog w) A.in1 (call (.ref f) [.ref x, y]) (fun v s' => ∃ b, v = .bool b ∧ Q (.bool (!b)) s') E s) : wpAny (model prog w) A (richCompare .NotEq (.ref x) y) Q E s := by
  have one : wpAny (model prog w) A (tryCompare (.ref x) "__ne__" y) (fun r s' => ∃ b, r = some (.bool b) ∧ Q (.bool b) s') E s := by
    unfold tryCompare
    refine wpAny_bind (neBound X I hn (neCall (show A.in1.units < cLine from room) X I hm he hf (wpAny_mono h (fun v s' z => ?_) fun _ _ z => z)))
    obtain ⟨b, rfl, q⟩ := z
    exact ⟨b, rfl, wpAny_pure ⟨_, rfl, q⟩⟩
  unfold richCompare
  simp only [oneThing_ref]
  rw [cmpInfo_NotEq]
  refine wpAny_holding (wpAny_bind (wpAny_cRoomFor (Nat.lt_of_succ_lt room) ?_))
  refine wpAny_bind (I.type.here ?_)
  refine wpAny_bind (hb.here ?_)
  split
  · rename_i q
    have sub : PySem.W.subIn K tb (.ref C) = some false := by
      rcases Bool.or_eq_true_iff.mp nf with z | z
      · rw [beq_iff_eq.mp z] at q
        simp at q
      · exact beq_iff_eq.mp z
    refine wpAny_bind ((PySem.W.looks_subIn X sub).here ?_)
    simp only [Bool.false_eq_true, if_false]
    refine wpAny_bind (wpAny_mono one (fun r s' z => ?_) fun _ _ z => z)
    obtain ⟨b, rfl, q2⟩ := z
    exact wpAny_pure q2
  · refine wpAny_bind (wpAny_pure ?_)
    simp only [Bool.false_eq_true, if_false]
    refine wpAny_bind (wpAny_mono one (fun r s' z => ?_) fun _ _ z => z)
    obtain ⟨b, rfl, q2⟩ := z
    exact wpAny_pure q2
end
/-- which types come behind an own class -/
theorem nf_own {K : PySem.W.Frag} {C : Addr} : PySem.W.notFirst K C (.ref C) = true := by
  unfold PySem.W.notFirst
  simp
theorem nf_sub {K : PySem.W.Frag} {C : Addr} {t : Value} (h : PySem.W.subIn K t (.ref C) = some false) : PySem.W.notFirst K C t = true := by
  unfold PySem.W.notFirst
  rw [h]
  simp
theorem nf_ty {K : PySem.W.Frag} {C : Addr} {T : String} {l : List String} (h : fastBuiltinMro T = some (l.map Value.type)) : PySem.W.notFirst K C (.type T) = true := by
  refine nf_sub ?_
  show (fastBuiltinMro T).map (·.contains (.ref C)) = some false
  rw [h]
  have z : (l.map Value.type).contains (.ref C) = false := by
    rw [Bool.eq_false_iff]
    intro z
    have m := List.contains_iff_mem.mp z
    simp at m
  exact congrArg some z
section
variable {X : Cx} {CX : CXT} {C g : Addr} {n : Nat} {sp : Sp} {E : XK}
/-- what an own == promises for such values: a truth -/
def rOwnB (K : PySem.W.Frag) (C : Addr) (sp : Sp) (E : XK) (neg : Bool) : R2 := fun x y H Q => ∃ (a dx : Addr) (fs : List (Str × V)) (t : Value), x = .ref a ∧ H a = some (.ins C dx fs) ∧ TyX K H y t ∧ PySem.W.notFirst K C t = true ∧ sp [x, y] H (fun z H' => ∃ b, z = .bl b ∧ Q (.bl (neg ^^ b)) H') E
theorem op_eqO (he : PySem.W.findIn X.K (.ref C) "__eq__" = some (some (.ref g))) (hf : PySem.W.isFn X.K (.ref g) = true) (F : FnR X.prog X.w X.K X.mg X.base CX n g sp) (hr : Room n X.A) (hx : Passes CX X E) : OpR X (compareOp .Eq) (rOwnB X.K C sp E false) := by
  intro pins s σ H x y v u Q I rx ry h
  obtain ⟨a, dx, fs, t, rfl, ha, ty, nf, q⟩ := h
  cases (show v = Value.ref a from rx)
  obtain ⟨mA, J, _⟩ := ins_get I.hok ha
  obtain ⟨od, J, _⟩ := J.look
  obtain ⟨m, hF⟩ := I.fr
  obtain ⟨P, Z, hP, _⟩ := kit_of I ry ty
  show wpAny _ _ (richCompare .Eq (.ref a) u) _ _ s
  refine PySem.W.cmp_K (op := .Eq) hr.units0 hF I.ok.mod.kin J (Z.ty _ _ I.kIn hP) nf he hf ?_
  refine wpAny_mono (wpAny_call (SlX.run_at (us := [.ref a, u]) (ws := [.ref a, y]) F hr I.env0 hx I (.cons rfl (.cons ry .nil)) q)) (fun w' s' z => ?_) fun _ _ z => z
  obtain ⟨z', H', I', rz, b, rfl, q'⟩ := z
  cases (show w' = Value.bool b from rz)
  have q' : Q (.bl b) H' := by simpa using q'
  exact ⟨.bl b, H', I', rfl, q'⟩
theorem op_neO (he : PySem.W.findIn X.K (.ref C) "__eq__" = some (some (.ref g))) (hn : PySem.W.findIn X.K (.ref C) "__ne__" = some (some (.builtin "object.__ne__"))) (hm : PySem.W.mroIn X.K C (.type "object") = some true) (hf : PySem.W.isFn X.K (.ref g) = true)
    (F : FnR X.prog X.w X.K X.mg X.base CX n g sp) (hr : Room (n + 1) X.A) (hx : Passes CX X E) : OpR X (compareOp .NotEq) (rOwnB X.K C sp E true) := by
  intro pins s σ H x y v u Q I rx ry h
  obtain ⟨a, dx, fs, t, rfl, ha, ty, nf, q⟩ := h
  cases (show v = Value.ref a from rx)
  obtain ⟨mA, J, _⟩ := ins_get I.hok ha
  obtain ⟨od, J, _⟩ := J.look
  obtain ⟨P, Z, hP, _⟩ := kit_of I ry ty
  have hr1 : Room n X.A.in1 := hr.in1
  show wpAny _ _ (richCompare .NotEq (.ref a) u) _ _ s
  refine neRich (by have := hr1.units0; exact this) I.kIn J (Z.ty _ _ I.kIn hP) nf hm hn he hf ?_
  refine wpAny_mono (wpAny_call (SlX.run_at (us := [.ref a, u]) (ws := [.ref a, y]) F hr1 I.env0.in1 hx I (.cons rfl (.cons ry .nil)) q)) (fun w' s' z => ?_) fun _ _ z => z
  obtain ⟨z', H', I', rz, b, rfl, q'⟩ := z
  cases (show w' = Value.bool b from rz)
  have q' : Q (.bl (!b)) H' := by simpa using q'
  exact ⟨b, rfl, .bl (!b), H', I', rfl, q'⟩
end
end Ev
namespace Ev
open PySem L2 PySem.Spec PyProof.Rows
/-! bool(an instance) by an own __bool__. -/
section
variable {prog : Program} {w : World} {A : Around} {E : Value → Shared → Prop} {s : Shared} {K : PySem.W.Frag} {x C f : Addr} {ox : Obj} {od : Option Obj}
theorem truthyOwn {M : Model} {Q : Bool → Shared → Prop} (X : K.In s.heap) (I : PySem.W.InstAt s.heap x ox C od) (hs : PySem.W.findIn K (.ref C) "__bool__" = some (some (.ref f))) (hf : PySem.W.isFn K (.ref f) = true)
    (h : wpAny M A (call (.ref f) [.ref x]) (fun v s' => ∃ b, v = .bool b ∧ Q b s') E s) : wpAny M A (truthy (.ref x)) Q E s := by
  unfold truthy
  refine wpAny_bind (m := callSpecial? (.ref x) (Str.ofString "__bool__")) (PySem.W.special_fn X I hs (beq_iff_eq.mp hf) (wpAny_mono h (fun r s' z => ?_) fun _ _ z => z))
  obtain ⟨b, rfl, q⟩ := z
  exact wpAny_pure q
theorem boolRun {Q : Value → Shared → Prop} (X : K.In s.heap) (I : PySem.W.InstAt s.heap x ox C od) (hs : PySem.W.findIn K (.ref C) "__bool__" = some (some (.ref f))) (hf : PySem.W.isFn K (.ref f) = true)
    (h : wpAny (model prog w) A.in1.in1 (call (.ref f) [.ref x]) (fun v s' => ∃ b, v = .bool b ∧ Q (.bool b) s') E s) : wpAny (model prog w) A (call (.type "bool") [.ref x]) Q E s := by
  have g : MeetsIn prog w (Builtin.«bool.__new__» ⟨[.type "bool", .ref x], []⟩) (fun A' R s' => A' = A.in1 ∧ s' = s ∧ wpAny (model prog w) A.in1.in1 (call (.ref f) [.ref x]) (fun v s2 => ∃ b, v = .bool b ∧ R (.ok (.ret (.bool b))) s2) (fun e s2 => R (.error e) s2) s) :=
    .of_wp fun A' R s' h => by
      obtain ⟨rfl, rfl, h⟩ := h
      have hsub := F.conv_sub_bool
      have tr : ∀ {Q2 : Bool → Shared → Prop} {E2 : Value → Shared → Prop}, wpAny (model prog w) A.in1.in1 (call (.ref f) [.ref x]) (fun v s' => ∃ b, v = .bool b ∧ Q2 b s') E2 s' → wpAny (model prog w) A.in1.in1 (truthy (.ref x)) Q2 E2 s' := fun h => truthyOwn X I hs hf h
      repeat (any_goals (first | assumption | (with_reducible refine tr (wpAny_mono h (fun v s2 z => ?_) fun _ _ z => z); obtain ⟨b, rfl, q⟩ := z; refine ⟨b, rfl, ?_⟩) | wp_step))
      exact ⟨_, rfl, q⟩
  refine PySem.callType_newIn (S := _) F.called_bool F.newNe_bool (F.typeCall_bool_1 (.ref x)) (F.newCall_bool_1 (.ref x)) (fun obj => F.args_object_init_2 obj (.ref x)) F.entry_bool_new g ?_
  refine ⟨rfl, rfl, wpAny_mono h (fun v s' z => ?_) fun _ _ z => z⟩
  obtain ⟨b, rfl, q⟩ := z
  exact ⟨b, rfl, rfl, q⟩
end
section
variable {X : Cx} {CX : CXT} {C g : Addr} {n : Nat} {sp : Sp} {E : XK}
/-- bool(x), x an instance with an own __bool__: what that promises -/
def rBoolO (C : Addr) (sp : Sp) (E : XK) : List V → Hp → VK → Prop := fun xs H Q => ∃ (a dx : Addr) (fs : List (Str × V)), xs = [V.ref a] ∧ H a = some (.ins C dx fs) ∧ sp [.ref a] H (fun z H' => ∃ b : Bool, z = .bl b ∧ Q (.bl b) H') E
theorem call_boolO (hs : PySem.W.findIn X.K (.ref C) "__bool__" = some (some (.ref g))) (hf : PySem.W.isFn X.K (.ref g) = true) (F : FnR X.prog X.w X.K X.mg X.base CX n g sp) (hr : Room (n + 2) X.A) (hx : Passes CX X E) : CallR X (.type "bool") (rBoolO C sp E) := by
  intro pins s σ H xs us Q I r h
  obtain ⟨a, dx, fs, rfl, ha, q⟩ := h
  obtain ⟨u, rfl, ru⟩ := vals1 r
  cases (show u = Value.ref a from ru)
  obtain ⟨mA, J, _⟩ := ins_get I.hok ha
  obtain ⟨od, J, _⟩ := J.look
  have hr1 : Room n X.A.in1.in1 := (show Room (n + 1) X.A.in1 from hr.in1).in1
  refine boolRun I.kIn J hs hf (wpAny_mono (wpAny_call (SlX.run_at (us := [.ref a]) (ws := [.ref a]) F hr1 I.env0.in1.in1 hx I (.cons rfl .nil) q)) (fun w' s' z => ?_) fun _ _ z => z)
  obtain ⟨z', H', I', rz, b, rfl, q'⟩ := z
  cases (show w' = Value.bool b from rz)
  exact ⟨b, rfl, .bl b, H', I', rfl, q'⟩
end
end Ev
set_option maxHeartbeats 1000000
namespace Ev
open PySem L2 PySem.Spec PyProof.Rows RZ
/-! _law_right: all pairs beside a light weight. -/
section
variable {X : Cx}
def tCallK0 (sp : Sp) (gV : List V → List V → List V) (E : XK) (tk : TA) : TE := fun σ H Q => tk σ H fun zs H2 => sp (gV [] zs) H2 Q E
theorem pe_callK0 {CX : CXT} {k : Nat} {f : Addr} {fd : FuncData} {ps ks : List Str} {sp : Sp} {E : XK} {x : Str} {p pos : Pos} {kws : List Keyword} {tk : TA} {g : List Value → List Value → List Value} {gV : List V → List V → List V}
    (F : FnOk X.prog X.w X.K X.mg X.base CX k f fd ps sp) (hr : Room k X.A) (hg : Gl X x) (hm : X.mg x = some (.ref f)) (hk : PySem.W.keepIn X.K (.ref f) = true) (hb : KBinds X.K fd ps ks g gV) (hx : Passes CX X E)
    (hkw : PK X kws tk) (hall : (backToKw pos (keywordEach kws X.env)).all (·.1.isSome) = true := by rfl) (hks : (backToKw pos (keywordEach kws X.env)).filterMap (·.1) = ks := by rfl)
    (hdb : (x == ("__debug__" : Str)) = false := by decide)
    (hpl : ((backTo pos (starEach [] X.env)).any (·.1) || (backToKw pos (keywordEach kws X.env)).any (·.1.isNone)) = false := by rfl) :
    PE X (.Call (.Name x p) [] kws pos) (tCallK0 sp gV E tk) := by
  refine ⟨fun pins s σ H Q I h => ?_⟩
  refine wpAny_Call_Name_kw (ld_glob I hg hm ?_ hdb)
  refine PySem.W.callWith_KW0 (first := []) (h₀ := X.base) I.ok.mod.kin hk hall ?_ hpl
  refine thn (hkw.run pos pins s σ H _ I h) fun ws s2 ⟨zs, H2, I2, rz, q2⟩ => ⟨I2.kIn, ?_⟩
  rw [hks]
  exact run_fnk (us := []) (vs := []) F hr hb hx I2 .nil rz q2
end
/-- four values by their names, the last first -/
def gR4 {α : Type} : List α → List α → List α
  | [], [a, b, c, d] => [d, c, b, a]
  | _, _ => []
theorem gR4_rel {vs zs : List V} {us ws : List Value} (r1 : Vals vs us) (r2 : Vals zs ws) : Vals (gR4 vs zs) (gR4 us ws) := by
  cases r1 with
  | cons a t => exact .nil
  | nil =>
    cases r2 with
    | nil => exact .nil
    | cons a t =>
      cases t with
      | nil => exact .nil
      | cons b t =>
        cases t with
        | nil => exact .nil
        | cons c t =>
          cases t with
          | nil => exact .nil
          | cons d t =>
            cases t with
            | nil => exact .cons d (.cons c (.cons b (.cons a .nil)))
            | cons e t => exact .nil
theorem gR4_len {α : Type} {us ws : List α} (h : (gR4 us ws).length = 4) : ∃ a b c d, us = [] ∧ ws = [a, b, c, d] := by
  match us, ws, h with
  | [], [a, b, c, d], _ => exact ⟨a, b, c, d, rfl, rfl⟩
/-- what an equal pair says: None, or Wrongs -/
structure VW (P : Program) (w : World) (K : PySem.W.Frag) (mg : Str → Option Value) (base : Heap) (W : Addr) : Prop where
  mW : Mak P w K mg base W "Wrong" 3 ["self", "deed", "once", "twice", "numbers"] (spWrongI K W)
  wc : WC K W
  it : InsT K W
  eq : ∃ f, FnR P w K mg base CX0 1 f (spWrE K W) ∧ PySem.W.findIn K (.ref W) "__eq__" = some (some (.ref f)) ∧ PySem.W.isFn K (.ref f) = true
  ne : PySem.W.findIn K (.ref W) "__ne__" = some (some (.builtin "object.__ne__"))
  bo : ∃ f, FnR P w K mg base CX0 1 f (spWrB K W) ∧ PySem.W.findIn K (.ref W) "__bool__" = some (some (.ref f)) ∧ PySem.W.isFn K (.ref f) = true
theorem WrAt.ty {K : PySem.W.Frag} {W x : Addr} {H : Hp} {put : Bool} {o t : Option Bk} {ns : List Int} (C : WC K W) (I : InsT K W) (h : WrAt K W H x put o t ns) : TyX K H (.ref x) (.ref W) := by
  obtain ⟨dx, b, v1, v2, hx, _⟩ := h
  exact tyI C.cl I hx
theorem WrAt.keep {K : PySem.W.Frag} {W x : Addr} {H H' : Hp} {put : Bool} {o t : Option Bk} {ns : List Int} (h : WrAt K W H x put o t ns) (s : Same H H') : WrAt K W H' x put o t ns := by
  obtain ⟨dx, b, v1, v2, h1, h2, h3, h4⟩ := h
  exact ⟨dx, b, v1, v2, s _ _ h1, h2.keep s, h3.keep s, s _ _ h4⟩
theorem WrV.at {K : PySem.W.Frag} {W : Addr} {H : Hp} {v : V} {put : Bool} {o t : Option Bk} {ns : List Int} (h : WrV K W H v put (some (o, t, ns))) : ∃ x, v = .ref x ∧ WrAt K W H x put o t ns := by
  obtain ⟨x, dx, b, v1, v2, e, h1, h2, h3, h4⟩ := h
  exact ⟨x, e, dx, b, v1, v2, h1, h2, h3, h4⟩
theorem wr_op {K : PySem.W.Frag} {W x y : Addr} {H : Hp} {p q : Bool} {o1 t1 o2 t2 : Option Bk} {n1 n2 : List Int} {neg : Bool} {Q : VK} (C : WC K W) (I : InsT K W) (hx : WrAt K W H x p o1 t1 n1) (hy : WrAt K W H y q o2 t2 n2)
    (k : Q (.bl (neg ^^ (decide (p = q) && (decide (o1 = o2) && (decide (t1 = t2) && decide (n1 = n2)))))) H) : rOwnB K W (spWrE K W) E0 neg (.ref x) (.ref y) H Q := by
  obtain ⟨dx, b, v1, v2, e1, _⟩ := id hx
  exact ⟨x, dx, _, _, rfl, e1, hy.ty C I, nf_own, x, y, p, q, o1, t1, o2, t2, n1, n2, rfl, hx, hy, _, rfl, k⟩
/-- the same Wrong made anew -/
theorem mkr_wr {K : PySem.W.Frag} {W : Addr} {H : Hp} {put : Bool} {o t : Option Bk} {ns : List Int} {b : Addr} {v1 v2 : V} {x dx : Addr} {E : XK} {Q : VK} (nx : H x = none) (nd : H dx = none) (ne : dx ≠ x) (h1 : BkV K H v1 o) (h2 : BkV K H v2 t) (hb : H b = some (.tup (ns.map V.int)))
    (k : ∀ G, Same H G → WrAt K W G x put o t ns → Q .non G) :
    spWrongI K W (.ref x :: ([.str (deedS put), v1, v2, .ref b] ++ [])) (upd (upd H dx (.own x)) x (.ins W dx [])) Q E := by
  have n2 : (upd H dx (.own x)) x = none := by rw [upd_ne (fun z => ne z.symm)]; exact nx
  have s1 : Same H (upd (upd H dx (.own x)) x (.ins W dx [])) := (same_new nd).trans (same_new n2)
  refine ⟨x, dx, _, _, _, _, rfl, upd_same, .inl ⟨_, flat_str _⟩, (h1.keep s1).pl, (h2.keep s1).pl, .inr ⟨b, _, rfl, SqT.of (s1 _ _ hb), fun u hu => ?_⟩, fun H' bt hx => ?_⟩
  · obtain ⟨n, _, rfl⟩ := List.mem_map.mp hu
    exact ⟨_, flat_int n⟩
  · have s2 : Same H H' := fun c o e => bt c o (ne_of_none e nx) (s1 _ _ e)
    exact k H' s2 ⟨dx, b, v1, v2, hx, h1.keep s2, h2.keep s2, s2 _ _ hb⟩
theorem rngL_get {lo : Int} {n i : Nat} {b : Int} (h : (rngL lo n)[i]? = some b) : lo ≤ b ∧ b < lo + n := by
  unfold rngL at h
  rw [List.getElem?_map] at h
  obtain ⟨j, hj, rfl⟩ := Option.map_eq_some_iff.mp h
  have := List.getElem?_eq_some_iff.mp hj
  obtain ⟨hi, e⟩ := this
  rw [List.getElem_range] at e
  rw [List.length_range] at hi
  omega
theorem mem_rngL {lo : Int} {n : Nat} {b : Int} : b ∈ rngL lo n ↔ lo ≤ b ∧ b < lo + n := by
  constructor
  · intro h
    obtain ⟨i, hi⟩ := List.mem_iff_getElem?.mp h
    exact rngL_get hi
  · intro ⟨h1, h2⟩
    unfold rngL
    exact List.mem_map.mpr ⟨(b - lo).toNat, List.mem_range.mpr (by omega), by omega⟩
theorem flat_ints (xs : List Int) : (xs.map V.int).all flatV = true := by
  rw [List.all_eq_true]
  intro v hv
  obtain ⟨i, _, rfl⟩ := List.mem_map.mp hv
  rfl
theorem inV_ints (b : Int) : ∀ xs : List Int, inV (.int b) (xs.map V.int) = decide (b ∈ xs)
  | [] => rfl
  | x :: xs => by
    have ih := inV_ints b xs
    unfold inV at ih ⊢
    rw [List.map_cons, List.any_cons, ih]
    have e : eqV (.int x) (.int b) = decide (x = b) := by
      show (x == b) = _
      by_cases z : x = b <;> simp [z]
    rw [e]
    by_cases z : x = b
    · subst z; simp
    · have : ¬ b = x := fun y => z y.symm
      simp [z, this]
theorem rngL_first {lo : Int} {n : Nat} (h : 1 ≤ n) : atI ((rngL lo n).map V.int) 0 = some (.int lo) := by
  refine atI_nat (j := 0) ?_
  unfold rngL
  rw [List.getElem?_map, List.getElem?_map, List.getElem?_range (by omega)]
  simp
theorem rngL_last {lo : Int} {n : Nat} (h : 1 ≤ n) : atI ((rngL lo n).map V.int) (-1) = some (.int (lo + n - 1)) := by
  obtain ⟨m, rfl⟩ : ∃ m, n = m + 1 := ⟨n - 1, by omega⟩
  rw [rngL_succ, List.map_append]
  have := atI_last ((rngL lo m).map V.int) (V.int (lo + (m : Int)))
  rw [show lo + ((m + 1 : Nat) : Int) - 1 = lo + (m : Int) by omega]
  exact this
def spRight (K : PySem.W.Frag) (Ct Cn : Addr) : Sp := fun vs H Q _ => ∃ (r l : Addr) (row : Row) (put : Bool) (a : Int), vs = [.ref r, .ref l, .str (deedS put), .int a] ∧ ObjAt Ct Cn H r row ∧ RwAt H l row ∧ row.ok ∧ (1 ≤ a ∧ a ≤ 3) ∧ ∀ H', Same H H' → Q (.bl true) H'
section
variable {P : Program} {w : World} {K : PySem.W.Frag} {mg : Str → Option Value} {base : Heap}
abbrev nRight : List Str := ["_law_rule_so", "_law_some", "_law_deed", "_law_a", "_law_heavies_here", "_law_b", "_law_due_here", "_law_told"]
theorem scLRight : FnScope ["_law_rule_so", "_law_some", "_law_deed", "_law_a", "_law_heavies_here", "_law_b", "_law_due_here", "_law_told"] ["_law_rule_so", "_law_some", "_law_deed", "_law_a"] (defScope sLRight) := ⟨rfl, rfl, rfl, by decide +kernel, rfl, by decide +kernel, by decide +kernel⟩
theorem ok_right {f W Ct Cn f3 : Addr} {fd fd3 : FuncData} (F : Fun K "_law_right" "_law_right" sLRight f fd) (T : Blt mg) (VV : VW P w K mg base W) (D1 : Df P w K mg base 2 "_law_heavies" ["_law_some", "_law_deed", "_law_a"] spHeavies) (D2 : Df P w K mg base 5 "_law_due" ["_law_some", "_law_a", "_law_b"] (spDue K))
    (G3 : FnOk P w K mg base CX0 7 f3 fd3 ["rule", "deed", "light", "heavy"] (spBreaks K W Ct Cn)) (g3 : mg "breaks" = some (.ref f3)) (k3 : PySem.W.keepIn K (.ref f3) = true) (b3 : Binds K fd3 ["rule", "deed", "light", "heavy"] []) (kb3 : KBinds K fd3 ["rule", "deed", "light", "heavy"] ["heavy", "light", "deed", "rule"] gR4 gR4) :
    FnOk P w K mg base CX0 8 f fd ["_law_rule_so", "_law_some", "_law_deed", "_law_a"] (spRight K Ct Cn) := by
  obtain ⟨f1, fd1, G1, g1, k1, b1⟩ := D1.ex
  obtain ⟨f2, fd2, G2, g2, k2, b2⟩ := D2.ex
  obtain ⟨gW, fW, fdW, MW, GW, bW⟩ := VV.mW
  obtain ⟨fE, EW, e1, e2⟩ := VV.eq
  obtain ⟨fB, BW, ht, hf⟩ := VV.bo
  refine F.ok scLRight (fun vs H Q E h => ?_) (fun cdv A outer s H vs Q E hr h => ?_)
  · obtain ⟨r, l, row, put, a, rfl, _⟩ := h
    rfl
  · obtain ⟨r, l, row, put, a, rfl, ob, hl, ok, ⟨a1, a2⟩, kk⟩ := h
    have hr1 : Room 1 _ := hr.mono (show 1 ≤ 7 by decide)
    have hr3 : Room 3 _ := hr.mono (show 3 ≤ 7 by decide)
    refine ⟨_, (pss_cons (ps_set (i := 4) scLRight.nd rfl (.inl rfl) (pe_call G1 (hr.mono (by decide)) (by rfl) g1 k1 b1 .nil pass0 (pa_cons (pv 1) (pa_cons (pv 2) (pa_cons (pv 3) pa_nil)))))
    (pss_cons (ps_for PassesOwn.never rfl (pi_list (pe_op op_cat (pe_op op_cat (pe_lst (pa_cons (pe_op op_sub (pe_ix ix_list (pv 4) pe_int (fun _ _ => rfl)) pe_int) pa_nil)) (pv 4)) (pe_lst (pa_cons (pe_op op_add (pe_ix ix_list (pv 4) (pe_un un_neg pe_int) (fun _ _ => rfl)) pe_int) pa_nil)))) (pg_name (i := 5) scLRight.nd rfl (.inl rfl))
      (pss_cons (ps_set (i := 6) scLRight.nd rfl (.inl rfl) (pe_ifExp (pt_cmpR op_in_seq (pv 5) (pv 4) (by rfl)) (pe_call G2 (hr.mono (by decide)) (by rfl) g2 k2 b2 .nil pass0 (pa_cons (pv 1) (pa_cons (pv 3) (pa_cons (pv 5) pa_nil)))) pe_non))
      (pss_cons (ps_set (i := 7) scLRight.nd rfl (.inl rfl) (pe_call G3 hr (by rfl) g3 k3 b3 .nil pass0 (pa_cons (pv 0) (pa_cons (pv 2) (pa_cons (pv 3) (pa_cons (pv 5) pa_nil))))))
      (pss_cons (ps_if (PW.pt (pw_and (pt_cmpR op_isN (pv 6) pe_non (nomark _)) (pw_and1 (pt_cmpR op_notN (pv 7) pe_non (nomark _)))))
        (pss_one (ps_ret pe_bl)) pss_nil)
      (pss_cons (ps_if (PW.pt (pw_and (pt_cmpR op_notN (pv 6) pe_non (nomark _)) (pw_and1 (PW.pt (pw_or (pt_not (pt_val (pe_callB call_isi (by rfl) T.isi (by decide +kernel) (pa_cons (pv 7) (pa_cons (pe_glob (v := .ref W) rfl gW rfl) pa_nil))))) (pw_or1 (pt_val (pe_callTy (r := rBoolO W (spWrB K W) E0) (by exact call_boolO (E := E0) ht hf BW hr3 pass0) (by rfl) T.bool (by decide +kernel) (pa_cons (pv 7) pa_nil)))))))))
        (pss_one (ps_ret pe_bl)) pss_nil)
      (pss_one (ps_if (PW.pt (pw_and (pt_cmpR op_notN (pv 6) pe_non (nomark _)) (pw_and1 (pt_cmpR (op_neO (E := E0) e1 VV.ne VV.it.hm e2 EW (hr.mono (show 2 ≤ 7 by decide)) pass0) (pv 7) (pe_make MW GW (hr.mono (by decide)) (by rfl) gW bW .nil pass0 (pa_cons (pv 2) (pa_cons (pe_ix ix_tup (pv 6) pe_int (fun _ _ => rfl)) (pa_cons (pe_ix ix_tup (pv 6) pe_int (fun _ _ => rfl)) (pa_cons (pe_ix ix_tup (pv 6) pe_int (fun _ _ => rfl)) pa_nil))))) (nomark _)))))
        (pss_one (ps_ret pe_bl)) pss_nil))))))
    ) (pss_one (ps_ret (pe_cmpR (OpR.or op_eq (op_eqO (E := E0) e1 e2 EW hr1 pass0)) (pe_callK0 G3 hr (by rfl) g3 k3 kb3 (E := E0) pass0 (pk_cons (pe_ix ix_list (pv 4) pe_int (fun _ _ => rfl)) (pk_cons (pv 3) (pk_cons (pv 2) (pk_cons (pv 0) pk_nil))))) (pe_call G3 hr (by rfl) g3 k3 b3 .nil pass0 (pa_cons (pv 0) (pa_cons (pv 2) (pa_cons (pv 3) (pa_cons (pe_ix ix_list (pv 4) pe_int (fun _ _ => rfl)) pa_nil))))) (nomark _)))))), ?_⟩
    have o := Row.okN ok
    have hlo := lo_ge o a1
    have hhi := hi_le (put := put) o a1
    have hlh := lo_hi (put := put) (a := a) o
    refine ⟨_, rfl, _, rfl, _, rfl, l, row, put, a, rfl, hl, ok, a1, by omega, fun D H1 s1 hD => ?_⟩
    rw [heavies_eq o a1] at hD
    obtain ⟨n, en, n1⟩ : ∃ n : Nat, row.hi put a + 1 - row.lo a = (n : Int) ∧ 1 ≤ n := ⟨(row.hi put a + 1 - row.lo a).toNat, by omega, by omega⟩
    rw [en, Int.toNat_natCast] at hD
    refine ⟨_, rfl, D, _, _, _, rfl, rfl, SqL.of hD, rngL_first n1, _, _, rfl, rfl, (by show 1 ≤ sizeLine; decide), fun l1 nl1 => ?_⟩
    have s2 := same_new (o := .lst [.int (row.lo a - 1)]) nl1
    have h2 : upd H1 l1 (.lst [.int (row.lo a - 1)]) l1 = some (.lst [.int (row.lo a - 1)]) := upd_same
    generalize upd H1 l1 (.lst [.int (row.lo a - 1)]) = H2 at s2 h2 ⊢
    have hD2 := s2 _ _ hD
    refine ⟨_, rfl, l1, D, _, _, rfl, rfl, h2, hD2, ?_, fun l2 nl2 => ?_⟩
    · rw [List.length_map, rngL_len]
      exact Nat.le_trans (show _ ≤ 100 by simp only [List.length_cons, List.length_nil]; omega) (by decide)
    have s3 := same_new (o := .lst ([.int (row.lo a - 1)] ++ (rngL (row.lo a) n).map V.int)) nl2
    have h3 : upd H2 l2 (.lst ([.int (row.lo a - 1)] ++ (rngL (row.lo a) n).map V.int)) l2 = some (.lst ([.int (row.lo a - 1)] ++ (rngL (row.lo a) n).map V.int)) := upd_same
    generalize upd H2 l2 (.lst ([.int (row.lo a - 1)] ++ (rngL (row.lo a) n).map V.int)) = H3 at s3 h3 ⊢
    have hD3 := s3 _ _ hD2
    have last : atI ((rngL (row.lo a) n).map V.int) (-1) = some (.int (row.hi put a)) := by
      rw [rngL_last n1, show row.lo a + (n : Int) - 1 = row.hi put a by omega]
    refine ⟨_, rfl, _, rfl, D, _, _, _, rfl, rfl, SqL.of hD3, last, _, _, rfl, rfl, (by show 1 ≤ sizeLine; decide), fun l3 nl3 => ?_⟩
    have s4 := same_new (o := .lst [.int (row.hi put a + 1)]) nl3
    have h4 : upd H3 l3 (.lst [.int (row.hi put a + 1)]) l3 = some (.lst [.int (row.hi put a + 1)]) := upd_same
    generalize upd H3 l3 (.lst [.int (row.hi put a + 1)]) = H4 at s4 h4 ⊢
    refine ⟨l2, l3, _, _, rfl, rfl, s4 _ _ h3, h4, ?_, fun l4 nl4 => ?_⟩
    · rw [List.length_append, List.length_map, rngL_len]
      exact Nat.le_trans (show _ ≤ 100 by simp only [List.length_cons, List.length_nil]; omega) (by decide)
    have s5 := same_new (o := .lst (([.int (row.lo a - 1)] ++ (rngL (row.lo a) n).map V.int) ++ [.int (row.hi put a + 1)])) nl4
    have h5 : upd H4 l4 (.lst (([.int (row.lo a - 1)] ++ (rngL (row.lo a) n).map V.int) ++ [.int (row.hi put a + 1)])) l4 = some (.lst (([.int (row.lo a - 1)] ++ (rngL (row.lo a) n).map V.int) ++ [.int (row.hi put a + 1)])) := upd_same
    generalize upd H4 l4 (.lst (([.int (row.lo a - 1)] ++ (rngL (row.lo a) n).map V.int) ++ [.int (row.hi put a + 1)])) = H5 at s5 h5 ⊢
    have mem : ∀ (i : Nat) (v : V), (([.int (row.lo a - 1)] ++ (rngL (row.lo a) n).map V.int) ++ [.int (row.hi put a + 1)])[i]? = some v → ∃ b : Int, v = .int b ∧ row.lo a - 1 ≤ b ∧ b ≤ row.hi put a + 1 := fun i v h => by
      have := List.mem_of_getElem? h
      simp only [List.mem_append, List.mem_cons, List.not_mem_nil, or_false, List.mem_map] at this
      rcases this with (rfl | ⟨b, hb, rfl⟩) | rfl
      · exact ⟨_, rfl, by omega, by omega⟩
      · have := mem_rngL.mp hb
        exact ⟨_, rfl, by omega, by omega⟩
      · exact ⟨_, rfl, by omega, by omega⟩
    generalize (([.int (row.lo a - 1)] ++ (rngL (row.lo a) n).map V.int) ++ [.int (row.hi put a + 1)] : List V) = xs at h5 mem
    have hD5 := s5 _ _ (s4 _ _ hD3)
    have s05 := (((s1.trans s2).trans s3).trans s4).trans s5
    have ob5 := ob.keep s05
    have hl5 : RwAt H5 l row := s05 _ _ hl
    refine ⟨l4, rfl, ⟨_, SqL.of h5⟩, ?_⟩
    refine for_list (xs := xs) (fun i σ G => Same H5 G ∧ ∃ (z5 z6 z7 : Option V), σ = [some (.ref r), some (.ref l), some (.str (deedS put)), some (.int a), some (.ref D), z5, z6, z7]) ⟨Same.refl _, _, _, _, rfl⟩ (fun i σ G _ h => SqL.of (h.1 _ _ h5)) (fun i v σ G hi hp => ?_) (fun σ G hp => ?_)
    · obtain ⟨sg, z5, z6, z7, rfl⟩ := hp
      obtain ⟨b, rfl, b1', b2'⟩ := mem i v hi
      refine ⟨_, rfl, _, rfl, D, _, rfl, .inl (SqL.of (sg _ _ hD5)), rfl, flat_ints _, _, rfl, ?_⟩
      show (if inV (.int b) ((rngL (row.lo a) n).map V.int) = true then _ else _)
      rw [inV_ints]
      by_cases z : b ∈ rngL (row.lo a) n
      · rw [show decide (b ∈ rngL (row.lo a) n) = true from decide_eq_true z]
        obtain ⟨y1, y2⟩ := mem_rngL.mp z
        refine iteT ⟨_, rfl, _, rfl, _, rfl, l, row, a, b, rfl, sg _ _ hl5, ok, ⟨a1, by omega⟩, ⟨by omega, by omega⟩, fun v6 G1 p1 fo => ?_⟩
        refine ⟨_, rfl, _, rfl, _, rfl, _, rfl, r, row, put, a, b, rfl, (ob5.keep sg).keep p1, ok, ⟨a1, by omega⟩, ⟨by omega, by omega⟩, fun v7 G2 p2 wv => ?_⟩
        rw [told_due ok a1 (by omega) y1 (by omega)] at wv
        have fo := fo.keep p2
        have sg2 := (sg.trans p1).trans p2
        generalize dueR (row.rows (row.g a b)) row.order = due at fo wv
        cases due with
        | none =>
          obtain rfl : v6 = .non := fo
          obtain rfl : v7 = .non := wv
          refine ⟨_, rfl, rfl, _, rfl, iteT ⟨_, rfl, rfl, _, rfl, iteF ?_⟩⟩
          refine ⟨_, rfl, rfl, _, rfl, iteF (iteF ?_)⟩
          refine ⟨_, rfl, rfl, _, rfl, iteF (iteF ?_)⟩
          exact ⟨sg2, _, _, _, rfl⟩
        | some d =>
          obtain ⟨o1, t1, ns⟩ := d
          obtain ⟨ta, nb, v1, v2, rfl, hta, q1, q2, hnb⟩ := fo
          obtain ⟨x, rfl, wr⟩ := wv.at
          obtain ⟨dx, xb, w1, w2, hx, _⟩ := id wr
          refine ⟨_, rfl, rfl, _, rfl, iteF (iteF ?_)⟩
          refine ⟨_, rfl, rfl, _, rfl, iteT ⟨_, rfl, _, _, _, _, true, rfl, .own W, wr.ty VV.wc VV.it, kit_self, _, rfl, iteF ⟨_, rfl, x, dx, _, rfl, hx, .ref x, rfl, _, rfl, _, rfl, iteF ?_⟩⟩⟩
          refine ⟨_, rfl, rfl, _, rfl, iteT ⟨_, rfl, _, rfl, _, rfl, ta, _, _, _, rfl, rfl, SqT.of hta, atI_nat (j := 0) rfl, _, rfl, ta, _, _, _, rfl, rfl, SqT.of hta, atI_nat (j := 1) rfl, _, rfl, ta, _, _, _, rfl, rfl, SqT.of hta, atI_nat (j := 2) rfl, ?_⟩⟩
          refine fun y dy ny nd ne => mkr_wr ny nd ne q1 q2 hnb fun G3 s3 wy => ⟨rfl, ?_⟩
          refine wr_op VV.wc VV.it (wr.keep s3) wy ?_
          simp only [decide_true, Bool.and_self, Bool.xor_self]
          exact ⟨_, rfl, iteF ⟨sg2.trans s3, _, _, _, rfl⟩⟩
      · rw [show decide (b ∈ rngL (row.lo a) n) = false from decide_eq_false z]
        have tn : row.told put a b = none := if_neg fun h => z (mem_rngL.mpr ⟨h.1, by have := h.2; unfold Row.hi at en; omega⟩)
        refine iteF ?_
        refine ⟨_, rfl, _, rfl, _, rfl, _, rfl, r, row, put, a, b, rfl, ob5.keep sg, ok, ⟨a1, by omega⟩, ⟨by omega, by omega⟩, fun v7 G2 p2 wv => ?_⟩
        rw [tn] at wv
        obtain rfl : v7 = .non := wv
        refine ⟨_, rfl, rfl, _, rfl, iteT ⟨_, rfl, rfl, _, rfl, iteF ?_⟩⟩
        refine ⟨_, rfl, rfl, _, rfl, iteF (iteF ?_)⟩
        refine ⟨_, rfl, rfl, _, rfl, iteF (iteF ?_)⟩
        exact ⟨sg.trans p2, _, _, _, rfl⟩
    · obtain ⟨sg, z5, z6, z7, rfl⟩ := hp
      have hDG := sg _ _ hD5
      have obG := ob5.keep sg
      refine ⟨_, rfl, D, _, _, _, rfl, rfl, SqL.of hDG, rngL_first n1, _, rfl, _, rfl, _, rfl, r, row, put, a, row.lo a, rfl, obG, ok, ⟨a1, by omega⟩, ⟨by omega, by omega⟩, fun v1 G1 p1 w1 => ?_⟩
      refine ⟨_, rfl, _, rfl, _, rfl, _, rfl, D, _, _, _, rfl, rfl, SqL.of (p1 _ _ hDG), rngL_first n1, r, row, put, a, row.lo a, rfl, obG.keep p1, ok, ⟨a1, by omega⟩, ⟨by omega, by omega⟩, fun v2 G2 p2 w2 => ?_⟩
      have w1 := w1.keep p2
      have fin := kk _ ((((s05.trans sg).trans p1).trans p2))
      generalize row.told put a (row.lo a) = d at w1 w2
      cases d with
      | none =>
        obtain rfl : v1 = .non := w1
        obtain rfl : v2 = .non := w2
        exact .inl ⟨rfl, fin⟩
      | some d =>
        obtain ⟨o1, t1, ns⟩ := d
        obtain ⟨x, rfl, wx⟩ := w1.at
        obtain ⟨y, rfl, wy⟩ := w2.at
        refine .inr (wr_op VV.wc VV.it wx wy ?_)
        simp only [decide_true, Bool.and_self, Bool.false_xor]
        exact fin
end
end Ev
namespace Ev2
open Ev
open PySem L2 PySem.Spec PyProof.Rows
abbrev sBRInit : Stmt := sBadRule_init
abbrev sNHInit : Stmt := sNoHalves_init
abbrev sTurnInit : Stmt := sTurnRule_init
abbrev sTurnEq : Stmt := sTurnRule_eq
abbrev sTryInit : Stmt := sTryRule_init
abbrev sTryEq : Stmt := sTryRule_eq
abbrev sTimes : Stmt := sIsTimes
abbrev sPlus : Stmt := sIsPlus
abbrev sTurn : Stmt := sIsTurn
abbrev sNeedT : Stmt := sNeedTimes
abbrev sHalves : Stmt := sHasHalves
abbrev sNeedH : Stmt := sNeedHalves
abbrev sNums : Stmt := sLNumbers
abbrev sRule : Stmt := sLRule
abbrev sHeard : Stmt := sLHeard
theorem Same.gone {H H' : Hp} {p : Addr} (k : Same H H') (n : H' p = none) : H p = none := by
  cases z : H p with
  | none => rfl
  | some o => rw [k _ _ z] at n; cases n
theorem extN_refl (H : Hp) : LamX.ExtN H H := fun _ _ e _ => e
theorem sx {H H1 H2 : Hp} (k : Same H H1) (q : LamX.ExtN H1 H2) : LamX.ExtN H H2 := fun b o e t => q b o (k b o e) t
theorem xx {H H1 H2 : Hp} (k : LamX.ExtN H H1) (q : LamX.ExtN H1 H2) : LamX.ExtN H H2 := fun b o e t => q b o (k b o e t) t
/-- no integer -/
def NoInt (H : Hp) (v : V) : Prop := (∀ i, v ≠ .int i) ∧ ∃ (T : String) (b c : Bool), (∀ (K : PySem.W.Frag) (H' : Hp), LamX.ExtN H H' → TyX K H' v (.type T)) ∧ kitB T "int" = some b ∧ kitB T "bool" = some c ∧ (b = true → c = true)
theorem NoInt.keep {H H' : Hp} {v : V} (h : NoInt H v) (k : Same H H') : NoInt H' v := by
  obtain ⟨n, T, b, c, ty, r⟩ := h
  exact ⟨n, T, b, c, fun K G q => ty K G (sx k q), r⟩
theorem NoInt.ext {H H' : Hp} {v : V} (h : NoInt H v) (k : LamX.ExtN H H') : NoInt H' v := by
  obtain ⟨n, T, b, c, ty, r⟩ := h
  exact ⟨n, T, b, c, fun K G q => ty K G (xx k q), r⟩
/-- an integer or none -/
def IntQ (H : Hp) (v : V) : Prop := (∃ i, v = .int i) ∨ NoInt H v
theorem IntQ.keep {H H' : Hp} {v : V} (h : IntQ H v) (k : Same H H') : IntQ H' v := h.imp id fun n => n.keep k
theorem IntQ.ext {H H' : Hp} {v : V} (h : IntQ H v) (k : LamX.ExtN H H') : IntQ H' v := h.imp id fun n => n.ext k
def isI : V → Bool
  | .int _ => true
  | _ => false
def inB (l m : Int) : V → Bool
  | .int i => decide (l ≤ i) && decide (i ≤ m)
  | _ => false
theorem isI_no {H : Hp} {v : V} (h : NoInt H v) : isI v = false := by
  cases v <;> first | rfl | exact absurd rfl (h.1 _)
theorem inB_no {H : Hp} {v : V} (h : NoInt H v) (l m : Int) : inB l m v = false := by
  cases v <;> first | rfl | exact absurd rfl (h.1 _)
/-- what stands in such a tuple -/
def Scal (v : V) : Prop := (∃ i, v = .int i) ∨ (∃ b, v = .bl b) ∨ v = .str "2" ∨ v = .non
theorem noInt_bl (H : Hp) (b : Bool) : NoInt H (.bl b) := ⟨fun i z => (by cases z), "bool", true, true, fun _ _ _ => .base (.bl b), by decide +kernel, by decide +kernel, fun _ => rfl⟩
theorem noInt_str (H : Hp) (x : Str) : NoInt H (.str x) := ⟨fun i z => (by cases z), "str", false, false, fun _ _ _ => .base (.str x), by decide +kernel, by decide +kernel, fun z => z⟩
theorem noInt_non (H : Hp) : NoInt H .non := ⟨fun i z => (by cases z), "NoneType", false, false, fun _ _ _ => .base .non, by decide +kernel, by decide +kernel, fun z => z⟩
theorem Scal.q {H : Hp} {v : V} (h : Scal v) : IntQ H v := by
  rcases h with ⟨i, rfl⟩ | ⟨b, rfl⟩ | rfl | rfl
  · exact .inl ⟨i, rfl⟩
  · exact .inr (noInt_bl H b)
  · exact .inr (noInt_str H _)
  · exact .inr (noInt_non H)
/-- no tuple -/
def NoTup (H : Hp) (v : V) : Prop := ∃ T : String, (∀ (K : PySem.W.Frag) (H' : Hp), LamX.ExtN H H' → TyX K H' v (.type T)) ∧ kitB T "tuple" = some false
theorem NoTup.keep {H H' : Hp} {v : V} (h : NoTup H v) (k : Same H H') : NoTup H' v := by
  obtain ⟨T, ty, r⟩ := h
  exact ⟨T, fun K G q => ty K G (sx k q), r⟩
theorem NoTup.ext {H H' : Hp} {v : V} (h : NoTup H v) (k : LamX.ExtN H H') : NoTup H' v := by
  obtain ⟨T, ty, r⟩ := h
  exact ⟨T, fun K G q => ty K G (xx k q), r⟩
/-- a tuple of such values, or no tuple: xs tells which -/
def PairQ (H : Hp) (v : V) : Option (List V) → Prop
  | some xs => ∃ a, v = .ref a ∧ H a = some (.tup xs) ∧ xs.length ≤ 1000 ∧ ∀ x ∈ xs, Scal x
  | none => NoTup H v
theorem PairQ.keep {H H' : Hp} {v : V} {o : Option (List V)} (h : PairQ H v o) (k : Same H H') : PairQ H' v o := by
  cases o with
  | none => exact NoTup.keep h k
  | some xs =>
    obtain ⟨a, e, h1, h2, h3⟩ := h
    exact ⟨a, e, k _ _ h1, h2, h3⟩
theorem PairQ.ext {H H' : Hp} {v : V} {o : Option (List V)} (h : PairQ H v o) (k : LamX.ExtN H H') : PairQ H' v o := by
  cases o with
  | none => exact NoTup.ext h k
  | some xs =>
    obtain ⟨a, e, h1, h2, h3⟩ := h
    exact ⟨a, e, k _ _ h1 (fun _ z => by cases z), h2, h3⟩
def pairB (m : Int) : Option (List V) → Bool
  | some [x, y] => inB 1 m x && inB 1 m y
  | _ => false
def leV : V → V → Bool
  | .int i, .int j => decide (j ≤ i)
  | _, _ => false
def timesB : Option (List V) → Bool
  | some [x, y] => (inB 1 6 x && inB 1 6 y) && leV x y
  | _ => false
def spIsIntA : Sp := fun vs H Q _ => ∃ v : V, vs = [v] ∧ IntQ H v ∧ Q (.bl (isI v)) H
def spWithinA : Sp := fun vs H Q _ => ∃ (v : V) (l m : Int), vs = [v, .int l, .int m] ∧ IntQ H v ∧ Q (.bl (inB l m v)) H
def spPairA : Sp := fun vs H Q _ => ∃ (v : V) (o : Option (List V)) (m : Int), vs = [v, .int m] ∧ PairQ H v o ∧ ∀ H', Same H H' → Q (.bl (pairB m o)) H'
def spTimesA : Sp := fun vs H Q _ => ∃ (v : V) (o : Option (List V)), vs = [v] ∧ PairQ H v o ∧ ∀ H', Same H H' → Q (.bl (timesB o)) H'
def spPlusA : Sp := fun vs H Q _ => ∃ v : V, vs = [v] ∧ IntQ H v ∧ Q (.bl (inB (-6) 6 v)) H
def spTurnA : Sp := fun vs H Q _ => ∃ (v : V) (o : Option (List V)), vs = [v] ∧ PairQ H v o ∧ ∀ H', Same H H' → Q (.bl (pairB 8 o)) H'
theorem lc_pureV {J : It} {n : Nat} {G : Hp → Prop} {Y : Nat → Hp → V → Hp → Prop} (W : Walk J n G Y) {g : TG} {tt : TT} {te : TE} {vs : List Nat} {σ : L2.St} {H1 : Hp} {D : Addr} {Qd : Hp → Prop} (rs : List V) (hn : rs.length = n) (hb : n ≤ 4000)
    (hG : ∀ H, But D H1 H → G H)
    (step : ∀ (i : Nat) (x : V) (H H' : Hp) (r : V), i < n → rs[i]? = some r → But D H1 H → (∃ acc, H D = some (.lst acc)) → Y i H x H' → ∀ (R : VK) (Wk : Hp → Prop), (∀ H4, Same H H4 → R r H4) →
      g x (wipe σ vs) H' fun σ2 H2 => wipe σ2 vs = wipe σ vs ∧ tt σ2 H2 fun b H3 => if b = true then te σ2 H3 R else Wk H3)
    (fin : ∀ H, But D H1 H → H D = some (.lst rs) → Qd H) :
    ∃ W : Nat → Nat → Hp → Prop, (∃ m, W 0 m (upd H1 D (HO.lst []))) ∧ ∀ (i m : Nat) (H : Hp), W i m H → J.stop i H ∧ Qd H ∨ J.go i H ∧ ∃ Nx : Hp → Prop, (∀ (H' : Hp), Nx H' → ∃ m', m' < m ∧ W (i + 1) m' H') ∧
      ∀ (x : V) (H' : Hp), J.yld i H x H' → g x (wipe σ vs) H' fun σ2 H2 => wipe σ2 vs = wipe σ vs ∧ tt σ2 H2 fun b H3 =>
        if b = true then te σ2 H3 fun y H4 => ∃ acc, H4 D = some (HO.lst acc) ∧ acc.length < sizeLine ∧ Nx (upd H4 D (HO.lst (acc ++ [y]))) else Nx H3 := by
  refine lc_it W (fun i H => H D = some (.lst (rs.take i)) ∧ But D H1 H) ⟨upd_same, But.upd_at⟩ (fun i H _ h => hG H h.2) (fun i x H H' hi h y => ?_) (fun H h => ?_)
  · obtain ⟨e1, e2⟩ := h
    have hr : rs[i]? = some rs[i] := List.getElem?_eq_getElem (by omega)
    refine step i x H H' rs[i] hi hr e2 ⟨_, e1⟩ y _ _ fun H4 s4 => ⟨_, s4 _ _ e1, ?_, ?_, ?_⟩
    · rw [List.length_take]
      exact Nat.lt_of_le_of_lt (Nat.min_le_left _ _) (Nat.lt_of_lt_of_le (show i < 4000 by omega) (by decide))
    · rw [List.take_add_one, hr]
      exact upd_same
    · exact fun c o nc ec => by rw [upd_ne nc]; exact s4 _ _ (e2 c o nc ec)
  · obtain ⟨e1, e2⟩ := h
    rw [← hn, List.take_length] at e1
    exact fin H e2 e1
section
variable {P : Program} {w : World} {K : PySem.W.Frag} {mg : Str → Option Value} {base : Heap}
theorem ok_isInt {f : Addr} {fd : FuncData} (F : Fun K "is_integer" "is_integer" sIsInt f fd) (T : Blt mg) : FnOk P w K mg base CX0 1 f fd ["value"] spIsIntA := by
  refine F.ok scIsInt (fun vs H Q E h => ?_) (fun cdv A outer s H vs Q E hr h => ?_)
  · obtain ⟨v, rfl, _⟩ := h
    rfl
  · obtain ⟨v, rfl, h, k⟩ := h
    refine ⟨_, pss_one (ps_ret (pe_and (pe_callB call_isi (by rfl) T.isi (by decide +kernel) (pa_cons (pv 0) (pa_cons (pe_bltn (v := .ty "int") (by rfl) T.int (by decide +kernel) rfl) pa_nil)))
      (pe_one (pe_not (pe_callB call_isi (by rfl) T.isi (by decide +kernel) (pa_cons (pv 0) (pa_cons (pe_bltn (v := .ty "bool") (by rfl) T.bool (by decide +kernel) rfl) pa_nil))))))), ?_⟩
    rcases h with ⟨i, rfl⟩ | no
    · exact ⟨_, rfl, _, _, _, _, true, rfl, .ty _, .base (.int i), kit_ty (by decide +kernel), true, rfl, iteT ⟨_, rfl, _, _, _, _, false, rfl, .ty _, .base (.int i), kit_ty (by decide +kernel), _, rfl, k⟩⟩
    · rw [isI_no no] at k
      obtain ⟨_, TT, b, c, ty, e1, e2, e3⟩ := no
      refine ⟨_, rfl, _, _, _, _, b, rfl, .ty _, ty _ _ (extN_refl H), kit_ty e1, b, rfl, ?_⟩
      cases b with
      | false => exact iteF k
      | true => exact iteT ⟨_, rfl, _, _, _, _, true, rfl, .ty _, ty _ _ (extN_refl H), kit_ty (by rw [e2, e3 rfl]), _, rfl, k⟩
theorem ok_within {f : Addr} {fd : FuncData} (F : Fun K "is_within" "is_within" sWithin f fd) (D : Df P w K mg base 1 "is_integer" ["value"] spIsIntA) : FnOk P w K mg base CX0 2 f fd ["value", "least", "most"] spWithinA := by
  obtain ⟨fI, fdI, GI, gI, kI, bI⟩ := D.ex
  refine F.ok scWithin (fun vs H Q E h => ?_) (fun cdv A outer s H vs Q E hr h => ?_)
  · obtain ⟨v, l, m, rfl, _⟩ := h
    rfl
  · obtain ⟨v, l, m, rfl, h, k⟩ := h
    refine ⟨_, pss_one (ps_ret (pe_and (pe_call GI hr (by rfl) gI kI bI .nil pass0 (pa_cons (pv 0) pa_nil)) (pe_one (pe_chain op_le op_le (pv 1) (pv 0) (pv 2))))), ?_⟩
    refine ⟨_, rfl, _, rfl, h, ?_⟩
    rcases h with ⟨i, rfl⟩ | no
    · refine ⟨true, rfl, iteT ⟨_, rfl, _, rfl, _, _, rfl, rfl, _, rfl, ?_⟩⟩
      have k : Q (.bl (decide (l ≤ i) && decide (i ≤ m))) H := k
      by_cases z : l ≤ i
      · rw [decide_eq_true z] at k ⊢
        refine iteT ⟨_, rfl, _, _, rfl, rfl, ?_⟩
        exact k
      · rw [decide_eq_false z] at k ⊢
        exact iteF k
    · rw [inB_no no] at k
      rw [isI_no no]
      exact ⟨false, rfl, iteF k⟩
theorem pairB_len {m : Int} {xs : List V} (h : xs.length ≠ 2) : pairB m (some xs) = false := by
  match xs, h with
  | [], _ => rfl
  | [_], _ => rfl
  | [_, _], h => exact absurd rfl h
  | _ :: _ :: _ :: _, _ => rfl
theorem ok_pair {f : Addr} {fd : FuncData} (F : Fun K "is_pair" "is_pair" sPair f fd) (T : Blt mg) (D : Df P w K mg base 2 "is_within" ["value", "least", "most"] spWithinA) : FnOk P w K mg base CX0 3 f fd ["value", "most"] spPairA := by
  obtain ⟨fW, fdW, GW, gW, kW, bW⟩ := D.ex
  refine F.ok scPair (fun vs H Q E h => ?_) (fun cdv A outer s H vs Q E hr h => ?_)
  · obtain ⟨v, o, m, rfl, _⟩ := h
    rfl
  · obtain ⟨v, o, m, rfl, hv, k⟩ := h
    refine ⟨_, pss_one (ps_ret (pe_and (pe_callB call_isi (by rfl) T.isi (by decide +kernel) (pa_cons (pv 0) (pa_cons (pe_bltn (v := .ty "tuple") (by rfl) T.tuple (by decide +kernel) rfl) pa_nil)))
      (pe_and (pe_cmpR op_eq (pe_callB call_len_seq (by rfl) T.len PySem.boot_len (pa_cons (pv 0) pa_nil)) pe_int (nomark _))
      (pe_one (pe_callB (cr_all rfl) (by rfl) T.all (by decide +kernel) (pa_cons (pe_lc (own := [("item", 2)]) (g := gName 2) (tt := tYes) (te := tCall spWithinA [] E0 (tCons (tVar 2) (tCons (tC (.int 1)) (tCons (tVar 1) tNil)))) (by rfl) scPair.nd (pi_tup (pv 0)) (blkOk_by (own := [("item", 2)]) (N := ["value", "most", "item"]) (sc := defScope sPair) (by decide +kernel))
          (fun _ _ _ _ _ => pg_name (i := 2) scPair.nd rfl (.inl rfl)) (fun _ _ _ _ _ => pts_nil) (fun _ _ _ _ _ => pe_call GW hr (by rfl) gW kW bW .nil pass0 (pa_cons (pv 2) (pa_cons pe_int (pa_cons (pv 1) pa_nil))))) pa_nil)))))), ?_⟩
    cases o with
    | none =>
      obtain ⟨TT, ty, e⟩ := hv
      exact ⟨_, rfl, _, _, _, _, false, rfl, .ty _, ty _ _ (extN_refl H), kit_ty e, false, rfl, iteF (k H (Same.refl H))⟩
    | some xs =>
      obtain ⟨a, rfl, ha, hl, hq⟩ := hv
      refine ⟨_, rfl, _, _, _, _, true, rfl, .ty _, .base (.tup ha), kit_ty (by decide +kernel), true, rfl, iteT ⟨_, rfl, a, _, rfl, .inr (SqT.of ha), rfl, _, rfl, ite2 (fun e => ?_) (fun e => ?_)⟩⟩
      · have e : xs.length = 2 := by
          have e' : (xs.length : Int) = 2 := by simpa using e
          omega
        refine ⟨_, rfl, a, rfl, ⟨_, SqT.of ha⟩, fun D nD => ?_⟩
        have aD := ne_of_none ha nD
        refine lc_pureV (n := xs.length) (walk_tup (xs := xs)) (xs.map fun x => V.bl (inB 1 m x)) (List.length_map _) (by omega) (fun H' h => SqT.of (h _ _ aD ha)) (fun i v H2 H' r hi hr bt _ y R Wk kk => ?_) (fun H' bt hD => ?_)
        · obtain ⟨rfl, hv⟩ := y
          have er : r = V.bl (inB 1 m v) := by
            rw [List.getElem?_map, hv] at hr
            exact (Option.some.inj hr).symm
          subst er
          have sq : IntQ H' v := (hq v (List.mem_of_getElem? hv)).q
          exact ⟨rfl, _, rfl, _, rfl, v, 1, m, rfl, sq, kk _ (Same.refl _)⟩
        · have s1 : Same H H' := fun c o e => bt c o (ne_of_none e nD) e
          have eq : (xs.map fun x => V.bl (inB 1 m x)) = (xs.map fun x => inB 1 m x).map V.bl := by rw [List.map_map]; rfl
          rw [eq] at hD
          refine ⟨D, _, rfl, SqL.of hD, ?_⟩
          match xs, e with
          | [x, y], _ =>
            have := k H' s1
            simpa [pairB] using this
      · have e : xs.length ≠ 2 := by
          have e' : ¬ (xs.length : Int) = 2 := by simpa using e
          omega
        have := k H (Same.refl H)
        rw [pairB_len e] at this
        simpa using this
theorem inB_int {l m : Int} {v : V} (h : inB l m v = true) : ∃ i, v = .int i ∧ l ≤ i ∧ i ≤ m := by
  cases v <;> first | cases h | skip
  rename_i i
  have h : (decide (l ≤ i) && decide (i ≤ m)) = true := h
  rw [Bool.and_eq_true, decide_eq_true_eq, decide_eq_true_eq] at h
  exact ⟨i, rfl, h.1, h.2⟩
theorem pair_cases (m : Int) (o : Option (List V)) : (∃ i j, o = some [.int i, .int j] ∧ (1 ≤ i ∧ i ≤ m) ∧ (1 ≤ j ∧ j ≤ m) ∧ pairB m o = true) ∨ pairB m o = false := by
  cases z : pairB m o with
  | false => exact .inr rfl
  | true =>
    refine .inl ?_
    match o, z with
    | some [x, y], z =>
      have z : (inB 1 m x && inB 1 m y) = true := z
      rw [Bool.and_eq_true] at z
      obtain ⟨i, rfl, h1, h2⟩ := inB_int z.1
      obtain ⟨j, rfl, h3, h4⟩ := inB_int z.2
      exact ⟨i, j, rfl, ⟨h1, h2⟩, ⟨h3, h4⟩, rfl⟩
theorem times_no {o : Option (List V)} (h : pairB 6 o = false) : timesB o = false := by
  match o, h with
  | none, _ => rfl
  | some [], _ => rfl
  | some [_], _ => rfl
  | some [x, y], h =>
    have h : (inB 1 6 x && inB 1 6 y) = false := h
    show ((inB 1 6 x && inB 1 6 y) && leV x y) = false
    rw [h]
    rfl
  | some (_ :: _ :: _ :: _), _ => rfl
theorem ok_times {f : Addr} {fd : FuncData} (F : Fun K "is_times" "is_times" sTimes f fd) (D : Df P w K mg base 3 "is_pair" ["value", "most"] spPairA) {CW : Addr} {mc u : Value} (gW : mg "WeightRule" = some (.ref CW)) (cr : ClX.CRead K CW mc) (cv : ClX.CVal K CW mc "MOST" (.int 6) u) :
    FnOk P w K mg base CX0 4 f fd ["value"] spTimesA := by
  obtain ⟨fP, fdP, GP, gP, kP, bP⟩ := D.ex
  refine F.ok scTimes (fun vs H Q E h => ?_) (fun cdv A outer s H vs Q E hr h => ?_)
  · obtain ⟨v, o, rfl, _⟩ := h
    rfl
  · obtain ⟨v, o, rfl, hv, k⟩ := h
    refine ⟨_, pss_one (ps_ret (pe_and (pe_call GP hr (by rfl) gP kP bP .nil pass0 (pa_cons (pv 0) (pa_cons (ClX.pe_cval (pe_glob (v := .ref CW) rfl gW rfl)) pa_nil)))
      (pe_one (pe_cmpR op_le (pe_ix ix_tup (pv 0) pe_int (fun _ _ => rfl)) (pe_ix ix_tup (pv 0) pe_int (fun _ _ => rfl)) (nomark _))))), ?_⟩
    refine ⟨_, rfl, CW, mc, _, u, rfl, cr, cv, v, o, _, rfl, hv, fun H' s => ?_⟩
    rcases pair_cases 6 o with ⟨i, j, rfl, h1, h2, e⟩ | e
    · rw [e]
      obtain ⟨a, rfl, ha, _⟩ := hv
      refine ⟨true, rfl, iteT ⟨_, rfl, a, _, 1, _, rfl, rfl, SqT.of (s _ _ ha), tup1, _, rfl, a, _, 0, _, rfl, rfl, SqT.of (s _ _ ha), tup0, _, _, rfl, rfl, ?_⟩⟩
      have k := k H' s
      have e : (inB 1 6 (.int i) && inB 1 6 (.int j)) = true := e
      have k : Q (.bl ((inB 1 6 (.int i) && inB 1 6 (.int j)) && decide (j ≤ i))) H' := k
      rw [e, Bool.true_and] at k
      exact k
    · have k := k H' s
      rw [times_no e] at k
      rw [e]
      exact ⟨false, rfl, iteF k⟩
theorem ok_plus {f : Addr} {fd : FuncData} (F : Fun K "is_plus" "is_plus" sPlus f fd) (D : Df P w K mg base 2 "is_within" ["value", "least", "most"] spWithinA) {t : Tok} (gM : mg "MOST_PLUS" = some (.int 6 t)) : FnOk P w K mg base CX0 3 f fd ["value"] spPlusA := by
  obtain ⟨fW, fdW, GW, gW, kW, bW⟩ := D.ex
  refine F.ok scPlus (fun vs H Q E h => ?_) (fun cdv A outer s H vs Q E hr h => ?_)
  · obtain ⟨v, rfl, _⟩ := h
    rfl
  · obtain ⟨v, rfl, hv, k⟩ := h
    refine ⟨_, pss_one (ps_ret (pe_call GW hr (by rfl) gW kW bW .nil pass0 (pa_cons (pv 0) (pa_cons (pe_un un_neg (pe_glob (v := .int 6) rfl gM ⟨_, rfl⟩)) (pa_cons (pe_glob (v := .int 6) rfl gM ⟨_, rfl⟩) pa_nil))))), ?_⟩
    exact ⟨_, rfl, _, rfl, v, _, _, rfl, hv, k⟩
theorem ok_turn {f : Addr} {fd : FuncData} (F : Fun K "is_turn" "is_turn" sTurn f fd) (D : Df P w K mg base 3 "is_pair" ["value", "most"] spPairA) {t : Tok} (gM : mg "MOST_TURN" = some (.int 8 t)) : FnOk P w K mg base CX0 4 f fd ["value"] spTurnA := by
  obtain ⟨fP, fdP, GP, gP, kP, bP⟩ := D.ex
  refine F.ok scTurn (fun vs H Q E h => ?_) (fun cdv A outer s H vs Q E hr h => ?_)
  · obtain ⟨v, o, rfl, _⟩ := h
    rfl
  · obtain ⟨v, o, rfl, hv, k⟩ := h
    refine ⟨_, pss_one (ps_ret (pe_call GP hr (by rfl) gP kP bP .nil pass0 (pa_cons (pv 0) (pa_cons (pe_glob (v := .int 8) rfl gM ⟨_, rfl⟩) pa_nil)))), ?_⟩
    exact ⟨_, rfl, v, o, _, rfl, hv, k⟩
end
end Ev2
namespace Ev2
open Ev
open PySem L2 PySem.Spec PyProof.Rows
section
variable {X : Cx}
end
theorem kit2 {K : PySem.W.Frag} {T a b : String} (h1 : kitB T a = some false) (h2 : kitB T b = some false) : PySem.W.kitAny K (.type T) [.type a, .type b] = some false :=
  kitAny_cons (kit_ty h1) (fun _ => kitAny_cons (kit_ty h2) (fun _ => kitAny_nil) (fun z => by cases z)) (fun z => by cases z)
def spParts : Sp := fun vs H Q _ => ∃ (v : V) (T : String), vs = [v] ∧ Flat v T ∧ ∀ (p : Addr) (H' : Hp), H p = none → Same H H' → H' p = some (.lst []) → Q (.ref p) H'
def spKept : Sp := fun vs H Q _ => ∃ (v : V) (T : String), vs = [v] ∧ Flat v T ∧ ∀ (H' : Hp), Same H H' → Q v H'
section
variable {P : Program} {w : World} {K : PySem.W.Frag} {mg : Str → Option Value} {base : Heap}
theorem scParts : FnScope ["value"] ["value"] (defScope sParts) := ⟨rfl, rfl, rfl, by decide +kernel, rfl, by decide +kernel, by decide +kernel⟩
theorem ok_parts {f : Addr} {fd : FuncData} (F : Fun K "parts_of" "parts_of" sParts f fd) (T : Blt mg) (md : mg "dict" = none) : FnOk P w K mg base CX0 1 f fd ["value"] spParts := by
  refine F.ok scParts (fun vs H Q E h => ?_) (fun cdv A outer s H vs Q E hr h => ?_)
  · obtain ⟨v, TT, rfl, _⟩ := h
    rfl
  · obtain ⟨v, TT, rfl, fl, kk⟩ := h
    refine ⟨_, pss_cons (ps_if (pt_val (pe_callB call_isiT (by rfl) T.isi (by decide +kernel) (pa_cons (pv 0) (pa_cons (pe_tup (pa_cons (pe_bltn (v := .ty "list") (by rfl) T.list (by decide +kernel) rfl) (pa_cons (pe_bltn (v := .ty "tuple") (by rfl) T.tuple (by decide +kernel) rfl) pa_nil))) pa_nil)))) (pss_one ps_never) pss_nil)
      (pss_one (ps_ret (pe_ifExp (pt_val (pe_callB call_isi (by rfl) T.isi (by decide +kernel) (pa_cons (pv 0) (pa_cons (pe_bltn (v := .ty "dict") (by rfl) md (by decide +kernel) rfl) pa_nil)))) pe_never (pe_lst pa_nil)))), ?_⟩
    refine ⟨_, rfl, (by show 2 ≤ sizeLine; decide), fun tp ntp => ⟨v, tp, _, _, _, false, rfl, upd_same, .cons (.ty _) (.cons (.ty _) .nil), fl.ty _ _, kit2 fl.l fl.t, _, rfl, iteF ?_⟩⟩
    refine ⟨_, rfl, v, _, _, _, false, rfl, .ty _, fl.ty _ _, kit_ty fl.d, _, rfl, iteF ⟨(by show 0 ≤ sizeLine; decide), fun p np => ?_⟩⟩
    refine kk p _ ?_ (fun b o e => ?_) upd_same
    · cases e : H p with
      | none => rfl
      | some o => rw [upd_ne (ne_of_none e ntp), e] at np; cases np
    · have e1 : upd H tp (.tup [.ty "list", .ty "tuple"]) b = some o := by rw [upd_ne (ne_of_none e ntp)]; exact e
      rw [upd_ne (ne_of_none e1 np)]; exact e1
theorem ok_kept {f : Addr} {fd : FuncData} (F : Fun K "kept" "kept" sKept f fd) (T : Blt mg) (md : mg "dict" = none) (ma : mg "any" = none) (D : Df P w K mg base 1 "parts_of" ["value"] spParts) : FnOk P w K mg base CX0 2 f fd ["value"] spKept := by
  refine F.ok scKept (fun vs H Q E h => ?_) (fun cdv A outer s H vs Q E hr h => ?_)
  · obtain ⟨v, TT, rfl, _⟩ := h
    rfl
  · obtain ⟨v, TT, rfl, fl, kk⟩ := h
    refine ⟨_, pss_cons (ps_if (pt_not (pt_val (pe_callB call_isiT (by rfl) T.isi (by decide +kernel) (pa_cons (pv 0) (pa_cons (pe_tup (pa_cons (pe_bltn (v := .ty "list") (by rfl) T.list (by decide +kernel) rfl) (pa_cons (pe_bltn (v := .ty "tuple") (by rfl) T.tuple (by decide +kernel) rfl) (pa_cons (pe_bltn (v := .ty "dict") (by rfl) md (by decide +kernel) rfl) pa_nil)))) pa_nil))))) (pss_one (ps_ret (pv 0))) pss_nil)
      (pss_cons ps_never (pss_one ps_never)), ?_⟩
    refine ⟨_, rfl, (by show 3 ≤ sizeLine; decide), fun tp ntp => ⟨v, tp, _, _, _, false, rfl, upd_same, .cons (.ty _) (.cons (.ty _) (.cons (.ty _) .nil)), fl.ty _ _, kit3 fl.l fl.t fl.d, _, rfl, iteT ⟨_, rfl, ?_⟩⟩⟩
    exact kk _ (fun b u e => by rw [upd_ne (ne_of_none e ntp)]; exact e)
end
end Ev2
namespace Ev2
open Ev
open PySem L2 PySem.Spec PyProof.Rows
/-! ### repr of a value that holds nothing but scalars -/
def sclr : V → PyData → Bool
  | .non, .none => true
  | .bl a, .bool b => a == b
  | .int a, .int b => decide (a = b)
  | .str a, .str b => a == b
  | _, _ => false
def keyD : Key → PyData
  | .inl i => .int i
  | .inr x => .str x
inductive Vd (K : PySem.W.Frag) (H : Hp) : V → PyData → Prop
  | plain {v : V} {d : PyData} : Dp K H v d → d.hasDict = false → Vd K H v d
  | dct {a : Addr} {kvs : List (Key × V)} {ds : List (PyData × PyData)} : H a = some (.dK kvs) → ds.map (·.1) = kvs.map (fun p => keyD p.1) → Paired (fun v d => sclr v d = true) (kvs.map (·.2)) (ds.map (·.2)) → Vd K H (.ref a) (.dict ds)
theorem reads_sc {h : Heap} {v : V} {d : PyData} {u : Value} (e : sclr v d = true) (r : RelV v u) : Reads h u d [] := by
  cases v <;> cases d <;> first | cases e | skip
  · cases (show u = Value.none from r); exact .none
  · obtain rfl := beq_iff_eq.mp e
    cases (show u = Value.bool _ from r); exact .bool _
  · obtain rfl := of_decide_eq_true e
    obtain ⟨t, q⟩ := (show ∃ t, u = Value.int _ t from r); cases q; exact .int _ _
  · obtain rfl := beq_iff_eq.mp e
    obtain ⟨t, q⟩ := (show ∃ t, u = Value.str _ t from r); cases q; exact .str _ _
theorem reads_scs {h : Heap} : ∀ {vs : List V} {ds : List PyData} {us : List Value}, Paired (fun v d => sclr v d = true) vs ds → Vals vs us → ReadsAll h us ds []
  | _, _, _, .nil, .nil => .nil
  | _, _, _, .cons e t, .cons r q => .cons (as := []) (bs := []) (reads_sc e r) (reads_scs t q)
theorem pair_vals {P : Program} {w : World} : ∀ {es : List DictEntry} {vs : List (Key × Value)}, Pairs (mixKind P w) es vs → es.map (·.val) = vs.map (·.2)
  | _, _, .nil => rfl
  | _, _, .cons h1 h2 t => by
    rw [List.map_cons, List.map_cons, h2, pair_vals t]
theorem reads_keys {P : Program} {w : World} {h : Heap} : ∀ {es : List DictEntry} {kvs : List (Key × V)} {vs : List (Key × Value)}, Pairs (mixKind P w) es vs → KV kvs vs → ReadsAll h (es.map (·.key)) (kvs.map fun p => keyD p.1) []
  | _, _, _, .nil, .nil => .nil
  | _, _, _, .cons h1 h2 t, .cons r q => by
    refine .cons (as := []) (bs := []) ?_ (reads_keys t q)
    dsimp only
    rw [r.1]
    rcases keyIs_shape (show keyIs _ _ = true from h1) with ⟨i, tk, e1, e2⟩ | ⟨x, tk, e1, e2⟩
    · rw [e1, e2]; exact .int _ _
    · rw [e1, e2]; exact .str _ _
theorem vals_snd : ∀ {kvs : List (Key × V)} {vs : List (Key × Value)}, KV kvs vs → Vals (kvs.map (·.2)) (vs.map (·.2))
  | _, _, .nil => .nil
  | _, _, .cons h t => .cons h.2 (vals_snd t)
section
variable {X : Cx}
/-- repr of such a value, where none is under way -/
def rReprV (K : PySem.W.Frag) : List V → Hp → VK → Prop := fun xs H Q => ∃ (v : V) (d : PyData), xs = [v] ∧ Vd K H v d ∧
  d.showable = true ∧ d.depth ≤ 32 ∧ d.shown.length ≤ sizeLine ∧ Q (.str d.shown) H
theorem call_reprV (gd : X.A.guards = some []) (hu : X.A.units + 64 < cLine) : CallR X (.builtin "repr") (rReprV X.K) := by
  intro pins s σ H xs us Q I r h
  obtain ⟨v, d, rfl, hd, h1, h3, h4, q⟩ := h
  obtain ⟨u, rfl, ru⟩ := vals1 r
  have fin : ∀ (h' : Heap) (t : Tok) (tk : Nat), (∀ b o, s.heap.get? b = some o → h'.get? b = some o) → EP X pins σ Q (.str d.shown t) { s with heap := h', toks := tk } := fun h' t tk hk => ⟨.str d.shown, H, I.kept hk, ⟨t, rfl⟩, q⟩
  have byRef : ∀ (a : Addr) (as : List Addr), u = .ref a → Reads s.heap (.ref a) d as → (d.hasDict = true → sysModules ∉ as) → wpAny (model X.prog X.w) X.A (call (.builtin "repr") [u]) (EP X pins σ Q) X.xe s := by
    intro a as eu rd hm
    subst eu
    exact repr_of_reads' rd h1 hm gd (by omega) (fun _ _ e => e) (fun h' t tk hk => fin h' t tk hk) h4
  cases hd with
  | plain dp nd =>
    cases dp with
    | non => cases ru; exact PySem.P.repr_of_none (fin s.heap _ _ fun _ _ e => e)
    | bl b => cases ru; exact PySem.P.repr_of_bool (fin s.heap _ _ fun _ _ e => e)
    | int i => obtain ⟨t, rfl⟩ := ru; exact PySem.P.repr_of_int (of_decide_eq_true h1) (fin s.heap _ _ fun _ _ e => e)
    | str x => obtain ⟨t, rfl⟩ := ru; exact PySem.P.repr_of_str (fin s.heap _ _ fun _ _ e => e) h4
    | lst sq al =>
      cases ru
      obtain ⟨as, rd⟩ := Dp.reads I _ _ _ (.lst sq al) rfl
      exact byRef _ as rfl rd fun z => by rw [nd] at z; cases z
    | tup sq al =>
      cases ru
      obtain ⟨as, rd⟩ := Dp.reads I _ _ _ (.tup sq al) rfl
      exact byRef _ as rfl rd fun z => by rw [nd] at z; cases z
  | @dct a kvs ds e ek ev =>
    cases ru
    obtain ⟨hz, hs0, vs, kv, hdo⟩ := (show ObjOk X.prog X.w H s.heap a (.dK kvs) from I.hok a _ e)
    obtain ⟨ep, ob, es, ho, ex, hdat, hko, hpr, hnd⟩ := hdo.dictAt
    have e1 : ReadsAll s.heap (es.toList.map (·.key)) (ds.map (·.1)) [] := by
      rw [ek]; exact reads_keys hpr kv
    have e2 : ReadsAll s.heap (es.toList.map (·.val)) (ds.map (·.2)) [] := by
      refine reads_scs ev ?_
      have e3 : es.toList.map (·.val) = vs.map (·.2) := pair_vals hpr
      rw [e3]; exact vals_snd kv
    refine byRef a (a :: [] ++ []) rfl (.dict ho ex.1 hdat e1 e2) fun _ z => ?_
    simp at z
    rw [← z] at hs0
    simp at hs0
end
end Ev2
namespace Ev2
open Ev
open PySem L2 PySem.Spec PyProof.Rows
/-! An error that was caught stays in a local behind its suite: its object is told of from then on. -/
def Held (cls : Value) (d : Option Addr) (a : Addr) : HO := .ext fun h => ∃ oe : Obj, h.get? a = some oe ∧ Zc cls d oe ∧ ∃ vs : Array Value, oe.data = .fields vs
theorem held_ok {P : Program} {w : World} {H : Hp} {h : Heap} {a : Addr} {cls : Value} {d : Option Addr} {oe : Obj}
    (e : h.get? a = some oe) (z : Zc cls d oe) (f : ∃ vs : Array Value, oe.data = .fields vs) : ObjOk P w H h a (Held cls d a) :=
  ⟨⟨oe, e, z, f⟩, ⟨oe, e⟩, fun _ _ t k => by obtain ⟨o, q, r⟩ := t; exact ⟨o, k _ q, r⟩⟩
section
variable {X : Cx} {pins : List (Addr × Obj)} {σ : L2.St} {H : Hp} {s : Shared} {a : Addr} {cls : Value} {d : Option Addr} {oe : Obj}
theorem inv_hold (I : Inv X pins σ H s) (e : s.heap.get? a = some oe) (z : Zc cls d oe) (f : ∃ vs : Array Value, oe.data = .fields vs) (n : H a = none)
    (n0 : X.s_0.heap.get? a = none) (nL : a ≠ X.env.locals) (np : ∀ p ∈ X.pn ++ pins, p.1 ≠ a) : Inv X pins σ (upd H a (Held cls d a)) s := by
  have other : ∀ {b : Addr} {o : HO}, H b = some o → upd H a (Held cls d a) b = some o := fun {b o} q => by rw [upd_ne (ne_of_none q n)]; exact q
  constructor
  · exact I.ok
  · exact I.os
  · exact I.bare
  · constructor
    · exact I.base.keep
    · exact I.base.slot
    · intro b o q1 q2 q3
      have nb : b ≠ a := fun t => by rw [t, n0] at q1; cases q1
      rw [upd_ne nb]; exact I.base.free b o q1 q2 q3
    · exact I.base.there
    · exact fun b xs q => other (I.base.tups b xs q)
    · exact fun b o u q => other (I.base.frzs b o u q)
    · intro b ps q
      obtain ⟨more, t⟩ := I.base.tbls b ps q
      exact ⟨more, other t⟩
  · exact I.loc
  · exact I.cell
  · rw [upd_ne nL.symm]; exact I.free
  · intro x c q
    have nb : c ≠ a := fun t => by
      obtain ⟨v, o, q1, q2⟩ := I.cell x c q
      obtain ⟨vs, q3⟩ := f
      rw [t, e] at q1; cases q1
      rw [q3] at q2; cases q2
    rw [upd_ne nb]; exact I.freeC x c q
  · intro p hp
    obtain ⟨q1, q2, q3⟩ := I.pin p hp
    exact ⟨q1, by rw [upd_ne (np p hp)]; exact q2, q3⟩
  · intro b o q
    by_cases nb : b = a
    · subst nb
      rw [upd_same] at q
      cases q
      exact held_ok e z f
    · rw [upd_ne nb] at q
      exact (I.hok b o q).stay (fun _ _ _ t => t) (fun _ t => other t) (fun _ _ t => other t)
  · exact I.len
end
/-- what the clause wishes: the suite reads the error in slot i; behind it the error is told of, slot i is empty -/
def wHeld (K : PySem.W.Frag) (c : Value) (i : Nat) (ts : Addr → Value → Option Addr → TS) (Wout : WX) (n : Nat) (D : Ends) : WX := fun cls d σ H => σ.length = n →
  ∃ b, PySem.W.exmOne K cls c = some b ∧ (b = false → Wout cls d σ H) ∧ (b = true → ∀ a, H a = none →
    ts a cls d { nx := fun τ G => G a = none → D.nx (τ.set i none) (upd G a (Held cls d a)), rt := fun v G => D.rt v G, bk := fun τ G => D.bk (τ.set i none) G, ct := fun τ G => D.ct (τ.set i none) G } (σ.set i (some (.ref a))) H)
section
variable {X : Cx} {x n : Str} {c : Value} {i : Nat} {body suite : List Stmt} {b₀ : Stmt} {np pos pos' : Pos} {tb : WX → TS} {ts : Addr → Value → Option Addr → TS} {Wout : WX}
theorem ps_try_held (hs : X.stack = X.env :: X.outer) (hf : X.env.frame = some X.env.locals) (hex : X.ex = []) (hN : X.N.Nodup) (hi : X.N[i]? = some n) (hln : X.env.kindOf n = some .local) (hc : Names X x c) (tk : Takes X Wout)
    (hb : ∀ (W : WX) (pn : List (Addr × Obj)) (xe : Value → Shared → Prop), Takes (X.tr pn xe) W → PSs (X.tr pn xe) body (tb W))
    (hsu : ∀ (a : Addr) (oe : Obj) (cls : Value) (d : Option Addr) (pn : List (Addr × Obj)), Zc cls d oe → (∃ vs, oe.data = .fields vs) → PSs (X.suite a ((a, oe) :: pn)) (b₀ :: suite) (ts a cls d)) :
    PS X (.Try body [.ExceptHandler (some (.Name x np)) (some n) (b₀ :: suite) pos'] [] [] pos) (fun D σ H => tb (wHeld X.K c i ts Wout X.N.length D) D σ H) := by
  constructor
  intro pins s σ H D I h
  have ok := I.ok
  have frames : X.A.frames = some (X.env :: X.outer) := by rw [ok.frames, hs]
  have isLoc : Loc X.env.scope n := .inl hln
  let hands : List ExceptHandler := [.ExceptHandler (some (.Name x np)) (some n) (b₀ :: suite) pos']
  let land : Value → Shared → Prop := fun e s1 => wpAny (model X.prog X.w) X.A (noteFrame e X.env) (fun _ s2 => wpAny (model X.prog X.w) X.A (setFlight e none)
    (fun _ s3 => wpAny (model X.prog X.w) X.A (handleBy e X.env hands) (SP X pins D) X.xe s3) X.xe s2) X.xe s1
  have caught : Takes (X.tr (X.pn ++ pins) land) (wHeld X.K c i ts Wout X.N.length D) := by
    rintro u s' ⟨a, B, sI, pins', σ', H', cls, d, rfl, J', nb, up, sky, na, os, ag, wish⟩
    obtain ⟨b, hb1, hno, hyes⟩ := wish J'.len
    have J : Inv X pins σ' H' sI := J'.ofTry ok
    have sky2 : Sky B (X.env :: X.outer) a (Zc cls d) X.env.locals s'.heap := by rw [← hs]; exact sky
    refine Sky.land Zc.steady frames hf sky2 fun h3 fl3 up3 => ?_
    have J3 : Inv X pins σ' H' { s' with heap := h3 } := J.landed nb fl3.1 (up.trans up3) os ag
    obtain ⟨oe3, vs3, he3, hz3, hd3⟩ := fl3.there
    have nfr : a ∉ frs (X.env :: X.outer) := by
      intro hm
      obtain ⟨_, o2, e2, nf⟩ := fl3.2.2.1.mem hm
      rw [he3] at e2; cases e2
      exact nf _ hd3
    have nfr2 : a ∉ frs X.stack := by rw [hs]; exact nfr
    have nL : a ≠ X.env.locals := fun z => nfr (List.mem_filterMap.mpr ⟨_, List.mem_cons_self, by rw [hf, z]⟩)
    have nF : a ∉ X.fs := by
      intro hm
      obtain ⟨e, he, q⟩ := List.mem_filterMap.mp hm
      exact nfr (List.mem_filterMap.mpr ⟨e, List.mem_cons_of_mem _ he, q⟩)
    have nI : sI.heap.get? a = none := by
      cases q : sI.heap.get? a with
      | none => rfl
      | some o =>
        have z := nb a o q nfr2
        rw [fl3.2.1] at z; cases z
    have n0 : X.s_0.heap.get? a = none := by
      cases q : X.s_0.heap.get? a with
      | none => rfl
      | some o =>
        obtain ⟨o2, z⟩ := J.base.there a o q (by rw [hex]; simp)
        rw [nI] at z; cases z
    have npin : ∀ p ∈ X.pn ++ pins, p.1 ≠ a := fun p hp z => by
      have q := (J.pin p hp).1
      rw [z, nI] at q; cases q
    have S3 := J3.suite he3 hd3 na nL nF
    refine wpAny_handleBy_cons (codeAny_handlers_test ?_) (fun q => nomatch q)
    have LT : PySem.W.Looks (model X.prog X.w) h3 (typeOf (.ref a)) cls := by
      intro A Q E s k q
      exact wpAny_typeOf_ref (k _ _ he3) (by rw [hz3.1]; exact q)
    have LM := PySem.W.exm_one (M := model X.prog X.w) J3.kIn LT hb1
    have named : ∀ {Q E : Value → Shared → Prop}, Q c { s' with heap := h3 } → wpAny (model X.prog X.w) (X.A.mark (some (.ref a))) (eval (.Name x np) X.env) Q E { s' with heap := h3 } := by
      intro Q E q
      obtain ⟨g1, g2, g3⟩ := hc
      rcases g3 with m | ⟨m, v, nn⟩
      · exact ld_glob (X := X.suite a ((a, oe3) :: (X.pn ++ pins))) S3 g1 m q g2
      · exact ld_blt (X := X.suite a ((a, oe3) :: (X.pn ++ pins))) S3 g1 m v q nn g2
    refine named (LM.here ?_)
    cases b with
    | false =>
      refine wpAny_handleBy_nil (e := .ref a) (env := X.env) ?_
      obtain ⟨k1, k2, k3, oe, vs, T, oT, ts', he, hz, hd, h1, hr⟩ := id fl3
      unfold PySem.passOn
      refine wpAny_bind (wpAny_field he hd h1 ?_)
      rw [if_neg (by simp : ¬ ((Value.ref T == Value.none) = true))]
      have on : wpAny (model X.prog X.w) X.A (setFlight (.ref a) X.env.frame) (fun _ s4 => wpAny (model X.prog X.w) X.A (throw (.ref a) : Sem Flow) (SP X pins D) X.xe s4) X.xe { s' with heap := h3 } := by
        rw [hf]
        refine HandSPX.setFlight_upZ fl3 fun h4 hh4 up4 => ?_
        refine wpAny_throw (tk _ _ ⟨a, B, sI, pins, σ', H', cls, d, rfl, J, nb, (up.trans up3).trans up4, ?_, na, os, ag, hno rfl⟩)
        rw [hs]; exact .inr (.inr hh4)
      first
        | exact wpAny_bind (wpAny_pure (wpAny_bind on))
        | exact wpAny_bind on
    | true =>
      refine codeAny_handlers_suite_as (HandSPX.lands_againZ fl3 fun h4 fl4 up4 => ?_)
      have J4 : Inv X pins σ' H' { s' with heap := h4 } := J.landed nb fl4.1 ((up.trans up3).trans up4) os ag
      obtain ⟨oe4, vs4, he4, hz4, hd4⟩ := fl4.there
      refine store_ok (X := X.suite a ((a, oe4) :: (X.pn ++ pins))) (v := .ref a) (J4.suite he4 hd4 na nL nF) hN hi isLoc rfl (fun s5 S5 => ?_) (.inr hln)
      have suite := (hsu a oe4 cls d (X.pn ++ pins) hz4 ⟨_, hd4⟩).run [] s5 _ H' _ S5 (hyes rfl a na)
      refine wpAny_mono suite (fun f s6 hsp => ?_) (fun _ _ z => False.elim z)
      have gone : ∀ {τ : L2.St} {G : Hp} {Q : Shared → Prop}, Inv X pins τ G s6 → (∀ s7, Inv X pins (τ.set i none) G s7 → Q s7) →
          wpAny (model X.prog X.w) X.A (do bindName X.env n .none; unbindBehindTheSuite X.env n pos') (fun _ s7 => Q s7) X.xe s6 := by
        intro τ G Q S6 hq
        exact gone_ok S6 hN hi hln hq
      cases f with
      | next =>
        obtain ⟨τ, G, S6, q6⟩ := hsp
        obtain ⟨p1, p2, _⟩ := S6.pin (a, oe4) (List.mem_append_left _ List.mem_cons_self)
        exact gone (inv_hold (S6.unsuite ok) p1 hz4 ⟨_, hd4⟩ p2 n0 nL npin) fun s7 J7 => ⟨_, _, J7, q6 p2⟩
      | brk =>
        obtain ⟨τ, G, S6, q6⟩ := hsp
        exact gone (S6.unsuite ok) fun s7 J7 => ⟨_, _, J7, q6⟩
      | cont =>
        obtain ⟨τ, G, S6, q6⟩ := hsp
        exact gone (S6.unsuite ok) fun s7 J7 => ⟨_, _, J7, q6⟩
      | ret u =>
        obtain ⟨v, τ, G, S6, r6, q6⟩ := hsp
        exact gone (S6.unsuite ok) fun s7 J7 => ⟨_, _, _, J7, r6, q6⟩
  refine wpAny_Try_except (wpAny_mono ((hb _ (X.pn ++ pins) land caught).run [] s σ H D (I.toTry _) h) (fun f s1 hsp => ?_) (fun e s1 he => he))
  cases f with
  | next =>
    obtain ⟨τ, G, J, q⟩ := hsp
    exact wpAny_execs_nil ⟨τ, G, J.ofTry ok, q⟩
  | brk =>
    obtain ⟨τ, G, J, q⟩ := hsp
    exact ⟨τ, G, J.ofTry ok, q⟩
  | cont =>
    obtain ⟨τ, G, J, q⟩ := hsp
    exact ⟨τ, G, J.ofTry ok, q⟩
  | ret u =>
    obtain ⟨v, τ, G, J, r, q⟩ := hsp
    exact ⟨v, τ, G, J.ofTry ok, r, q⟩
end
/-- what the class of such an error says -/
structure HeldC (K : PySem.W.Frag) (C : Addr) : Prop where
  cl : (PySem.W.clsIn K C).isSome = true
  ga : PySem.W.findIn K (.ref C) "__getattribute__" = some (some (.builtin "BaseException.__getattribute__"))
  gg : PySem.W.findIn K (.ref C) "__getattr__" = some none
  ex : PySem.W.subIn K (.ref C) (.type "BaseException") = some true
  hd : PySem.W.hasDictIn K C = true
  ca : PySem.W.findIn K (.ref C) "__class__" = some (some (.builtin "object.__class__"))
  sp : PySem.W.specialIn K (.builtin "object.__class__") "__get__" = some (some (.builtin "getset_descriptor.__get__"))
  tk : PySem.W.takesIn K (.builtin "object.__class__") = some true
  mo : PySem.W.mroIn K C (.type "object") = some true
section
variable {X : Cx}
theorem held_at {pins : List (Addr × Obj)} {σ : L2.St} {H : Hp} {s : Shared} {a : Addr} {cls : Value} {d : Option Addr} (I : Inv X pins σ H s) (e : H a = some (Held cls d a)) :
    ∃ oe : Obj, s.heap.get? a = some oe ∧ Zc cls d oe ∧ ∃ vs : Array Value, oe.data = .fields vs := by
  have x : ObjOk X.prog X.w H s.heap a (.ext fun h => ∃ oe : Obj, h.get? a = some oe ∧ Zc cls d oe ∧ ∃ vs : Array Value, oe.data = .fields vs) := I.hok a _ e
  exact x.1
theorem held_inst {pins : List (Addr × Obj)} {σ : L2.St} {H : Hp} {s : Shared} {a C dd : Addr} {fs : List (Str × V)} (I : Inv X pins σ H s) (e : H a = some (Held (.ref C) (some dd) a)) (ed : H dd = some (.xd fs)) :
    ∃ (oe od : Obj) (mA : Str → Option Value), PySem.W.InstAt s.heap a oe C (some od) ∧ (∀ f, RelO (fs.lookup f) (mA f)) ∧ ∀ n, PySem.W.lookIn n od = some (mA n) := by
  obtain ⟨oe, he, hz, vs, hd⟩ := held_at I e
  obtain ⟨mA, hns, hr⟩ := (show ObjOk X.prog X.w H s.heap dd (.xd fs) from I.hok dd _ ed)
  obtain ⟨od, ho, hl⟩ := lookIn_ns hns
  exact ⟨oe, od, mA, ⟨he, hz.1, by unfold PySem.W.notCls; rw [hd] <;> rfl, by rw [hz.2]; exact ho⟩, hr, hl⟩
/-- isinstance(e, c), e such an error -/
def rIsHeld (K : PySem.W.Frag) : List V → Hp → VK → Prop := fun xs H Q => ∃ (a C dd : Addr) (fs : List (Str × V)) (c : V) (u : Value) (b : Bool),
  xs = [.ref a, c] ∧ H a = some (Held (.ref C) (some dd) a) ∧ H dd = some (.xd fs) ∧ HeldC K C ∧ ClsV c u ∧ PySem.W.kitOne K (.ref C) u = some b ∧ Q (.bl b) H
theorem call_isHeld : CallR X (.builtin "isinstance") (rIsHeld X.K) := by
  intro pins s σ H xs us Q I r h
  obtain ⟨a, C, dd, fs, c, u, b, rfl, ea, ed, T, k, e, q⟩ := h
  obtain ⟨u1, u2, rfl, r1, r2⟩ := vals2 r
  have e2 := k.eq r2
  subst e2
  cases r1
  obtain ⟨oe, od, mA, J, _, _⟩ := held_inst I ea ed
  exact PySem.W.kia_one (PySem.W.kitx_exc T.cl T.ga T.gg T.ex T.ca T.sp T.tk T.mo) I.kIn J e (fun z => nomatch z) fun tk => ⟨.bl b, H, I.tok tk, rfl, q⟩
/-- e.n, e such an error -/
def tHeldFld (K : PySem.W.Frag) (n : Str) (te : TE) : TE := fun σ H Q => te σ H fun x H1 => ∃ (a C dd : Addr) (fs : List (Str × V)) (v : V),
  x = .ref a ∧ H1 a = some (Held (.ref C) (some dd) a) ∧ H1 dd = some (.xd fs) ∧ HeldC K C ∧ PySem.W.findIn K (.ref C) n = some none ∧ fs.lookup n = some v ∧ Q v H1
theorem pe_heldFld {e : Expr} {te : TE} {pos : Pos} {n : Str} (he : PE X e te) (hb : attributeBase e n X.env (eval e X.env) = eval e X.env := by rfl) : PE X (.Attribute e n pos) (tHeldFld X.K n te) := by
  constructor
  intro pins s σ H Q I h
  refine attr_of hb (thn (he.run pins s σ H _ I h) fun u s1 hh => ?_)
  obtain ⟨x, H1, I1, rx, a, C, dd, fs, v, rfl, ea, ed, T, hno, l, q⟩ := hh
  obtain rfl : u = Value.ref a := rx
  obtain ⟨oe, od, mA, J, hr, hl⟩ := held_inst I1 ea ed
  obtain ⟨u, hu, ru⟩ := RelO.some_of (v := v) (o := mA n) (by rw [← l]; exact hr n)
  exact HandSPX.exc_get I1.kIn J T.ga T.gg T.ex (PySem.W.findObj_own T.hd hno rfl (by rw [hl, hu])) (handed_of ru) ⟨v, H1, I1.tok _, ru, q⟩
end
end Ev2
namespace Ev2
open Ev
open PySem L2 PySem.Spec PyProof.Rows LamX
/-! The law's own call, where the law makes lambdas: the table of its code object is told of. -/
section
variable {P : Program} {w : World} {K : PySem.W.Frag} {mg mb : Str → Option Value}
theorem law_callT {k : Nat} {fa a c T : Addr} {fd : FuncData} {x : Str} {sp : Sp} {s : Shared} {vs : List Value} {ns : List Int}
    (inK : K.In s.heap) (ns1 : s.heap.Ns mainGlobals mg) (ns2 : s.heap.Ns builtinsNs mb) (blt : ∀ x : Str, x ≠ "__name__" → mb x = bootBuiltins x)
    (noLim : s.heap.NoLimit) (hg : s.gens = #[]) (hT : s.heap.get? T = some { cls := .none, data := .fields #[] }) (nT : K.lookup T = none) (hc : PySem.W.CodeHd s.heap c T)
    (hbm : ∃ (bm : Addr) (ob : Obj), mg "__builtins__" = some (.ref bm) ∧ bm ≠ builtinsNs ∧ s.heap.get? bm = some ob ∧ ob.cls = .type "module" ∧ ob.dict = some builtinsNs ∧ ob.data = .plain)
    (ha : s.heap.get? a = some { cls := .type "list", data := .seq vs.toArray }) (hi : IntsAre vs ns) (hl : ns.length ≤ sizeLine) (hr : Room k callerA)
    (F : ∀ base : Heap, K.In base → base.Ns mainGlobals mg → TabB base mg c T → FnG P w K mg base k fa fd [x] sp)
    (bt : ∀ (s : Shared) (u : Value), BindsTo s fd ⟨[u], []⟩ [(x, u)])
    (hsp : ∀ H : Hp, H T = some (.tbl #[]) → SqL K H a (ns.map V.int) → sp [.ref a] H (fun v _ => v = .bl true) fun _ _ _ => False) :
    codeAny (model P w) callerA (.call (.ref fa) ⟨[.ref a], []⟩)
      (fun r s' => r = .ok (.ret (.bool true)) ∧ OldK s.heap s'.heap ∧ s'.os = s.os ∧ AllBare s'.gens) s := by
  have rv := vals_ints hi
  have lv := hi.length
  have aT : a ≠ T := fun z => by
    rw [z, hT] at ha
    cases ha
  have key : ∀ H : Hp, H T = some (.tbl #[]) → (∀ b u, H b = some u → b ≠ T → b = a ∧ K.lookup a = none ∧ u = .frz { cls := .type "list", data := .seq vs.toArray } (.lst (ns.map V.int))) →
      SqL K H a (ns.map V.int) → codeAny (model P w) callerA (.call (.ref fa) ⟨[.ref a], []⟩)
        (fun r s' => r = .ok (.ret (.bool true)) ∧ OldK s.heap s'.heap ∧ s'.os = s.os ∧ AllBare s'.gens) s := by
    intro H eT only sq
    have ok : HOk P w H s.heap := by
      intro b u e
      by_cases zb : b = T
      · subst zb
        rw [eT] at e
        cases e
        exact hT
      · obtain ⟨rfl, _, rfl⟩ := only b u e zb
        exact ⟨ha, by rw [List.length_map]; exact hl, vs, _, rv, ha⟩
    have plain : ∀ {b : Addr} {o : Obj}, s.heap.get? b = some o → (∀ vs n, o.data ≠ .seq vs n) → o.data ≠ .fields #[] → H b = none := by
      intro b o e d1 d2
      cases q : H b with
      | none => rfl
      | some u =>
        by_cases zb : b = T
        · subst zb
          rw [hT] at e
          cases e
          exact absurd rfl d2
        · obtain ⟨rfl, _, _⟩ := only b u q zb
          rw [ha] at e
          cases e
          exact absurd rfl (d1 _ _)
    have names : ∀ {b : Addr} {m : Str → Option Value}, s.heap.Ns b m → (hidT s.heap H).Ns b m := by
      rintro b m ⟨o, es, n, e, d, r⟩
      exact ⟨o, es, n, hidT_get e (plain e (fun _ _ z => by rw [d] at z; cases z) fun z => by rw [d] at z; cases z), d, r⟩
    have inB : K.In (hidT s.heap H) := by
      intro b o e
      refine hidT_get (inK b o e) ?_
      cases q : H b with
      | none => rfl
      | some u =>
        by_cases zb : b = T
        · rw [zb, nT] at e
          cases e
        · obtain ⟨rfl, n, _⟩ := only b u q zb
          rw [n] at e
          cases e
    have tb : TabB (hidT s.heap H) mg c T := by
      obtain ⟨bm, ob, b1, b2, b3, b4, b5, b6⟩ := hbm
      refine ⟨?_, ⟨bm, ob, b1, b2, fun q => ?_, fun q => ?_, hidT_get b3 (plain b3 (fun _ _ z => by rw [b6] at z; cases z) fun z => by rw [b6] at z; cases z), b4, b5, b6⟩, fun z => ?_⟩
      · obtain ⟨o, us, file, tf, flags, tg, inF, text, tt, e1, r1, r2, r3, rest⟩ := hc
        refine ⟨o, us, file, tf, flags, tg, inF, text, tt, hidT_get e1 (plain e1 (fun _ _ z => by rw [r2] at z; cases z) fun z => ?_), r1, r2, r3, rest⟩
        rw [r2] at z
        cases z
        simp at r3
      · obtain ⟨o, es, n, e, d, _⟩ := ns1
        rw [q, e] at b3
        cases b3
        rw [d] at b6
        cases b6
      · rw [q, hT] at b3
        cases b3
        cases b6
      · obtain ⟨o, es, n, e, d, _⟩ := ns1
        rw [z, hT] at e
        cases e
        cases d
    obtain ⟨mc, l1, l2⟩ := noLim
    have md : Mod K mg (hidT s.heap H) := ⟨inB, names ns1, ⟨mb, names ns2, blt⟩, ⟨mc, names l1, l2⟩⟩
    have env : Env0 P w K mg (hidT s.heap H) callerA [] s H :=
      ⟨rfl, md, fun b o e => of_hidT e, Nat.le_of_eq (hidT_size _ _), trivial, (fun b hb => by cases hb), ok, .of_eq hg⟩
    have go := (F _ inB (names ns1) tb).goes callerA [] s H ⟨[.ref a], []⟩ [.ref a] [.ref a] _ _ hr rfl env (bt s (.ref a)) (.cons rfl .nil) (hsp H eT sq)
    refine codeAny_mono go fun r s2 h2 => ?_
    cases r with
    | error e => exact False.elim h2
    | ok fl =>
      cases fl with
      | next => exact False.elim h2
      | brk => exact False.elim h2
      | cont => exact False.elim h2
      | ret u =>
        obtain ⟨v, H2, os, bare, un, ok2, rr, q⟩ := h2
        obtain rfl : v = V.bl true := q
        obtain rfl : u = Value.bool true := rr
        have others : ∀ b o, b ≠ T → s.heap.get? b = some o → s2.heap.get? b = some o := by
          intro b o nb e
          cases q : H b with
          | none => exact un.keep b o e q (by intro z; cases z) (by simp)
          | some u =>
            obtain ⟨rfl, _, rfl⟩ := only b u q nb
            obtain ⟨e1, _⟩ := ok b _ q
            obtain ⟨e2, _⟩ := ok2 b _ (un.frzs b _ _ q)
            rw [e] at e1
            cases e1
            exact e2
        obtain ⟨more, eM⟩ := un.tbls T #[] eT
        have grown : s2.heap.get? T = some { cls := .none, data := .fields (#[] ++ more) } := ok2 T _ eM
        refine ⟨rfl, ⟨fun b o e => ?_, fun b o e => ?_⟩, os, bare⟩
        · by_cases nb : b = T
          · subst nb
            rw [hT] at e
            cases e
            exact .inr (.inl ⟨(hc.tab hT).isCodeTable, rfl, #[], more, rfl, grown⟩)
          · exact .inl (others b o nb e)
        · by_cases nb : b = T
          · subst nb
            exact ⟨_, grown⟩
          · exact ⟨o, others b o nb e⟩
  cases hk : K.lookup a with
  | none =>
    refine key (fun b => if b = T then some (.tbl #[]) else if b = a then some (.frz { cls := .type "list", data := .seq vs.toArray } (.lst (ns.map V.int))) else none) (if_pos rfl) (fun b u e nb => ?_)
      (.inl (.inr ⟨_, (if_neg aT).trans (if_pos rfl)⟩))
    rw [if_neg nb] at e
    by_cases z : b = a
    · rw [if_pos z] at e
      cases e
      exact ⟨z, hk, rfl⟩
    · rw [if_neg z] at e
      cases e
  | some o =>
    have e := inK a o hk
    rw [ha] at e
    cases e
    refine key (fun b => if b = T then some (.tbl #[]) else none) (if_pos rfl) (fun b u e nb => by rw [if_neg nb] at e; cases e) (.inr ⟨_, vs.toArray, _, hk, rfl, rfl, rfl, ?_, by simpa using rv⟩)
    rw [List.size_toArray, lv]
    exact hl
end
/-- the law's call, the table of another def's code object told -/
theorem walk_ofGT {l : PySem.W.OpenLaw} {n k : Nat} {q : Program} {loose : List Str} {XP : (Str → Option Value) → Heap → Prop} {YP : World → Heap → Prop}
    {d : DefRec} {x xr : Str} (hn : l.most = some n) (hn2 : n ≤ sizeLine) (hdf : d.params.defaults = []) (hr : Room k callerA) (hrec : ((recsOf q).any fun e => e.name == xr) = true)
    (F : ∀ (w : World) (mg : Str → Option Value) (fa : Addr) (h : Heap), YP w h → h.Ns mainGlobals mg → mg d.name = some (.ref fa) →
      ∃ (K : PySem.W.Frag) (fd fdr : FuncData) (sp : Sp) (fr c T : Addr) (o : Obj), K.In h ∧ (∀ (s : Shared) (u : Value), BindsTo s fd ⟨[u], []⟩ [(x, u)]) ∧
        mg xr = some (.ref fr) ∧ K.lookup fr = some o ∧ o.data = .func fdr ∧ fdr.code = .ref c ∧ PySem.W.codeHdIn K c T = true ∧ K.lookup T = none ∧
        (∀ (H : Hp) (a : Addr) (ns : List Int), ns.length ≤ n → H T = some (.tbl #[]) → SqL K H a (ns.map V.int) → sp [.ref a] H (fun v _ => v = .bl true) fun _ _ _ => False) ∧
        ∀ base : Heap, K.In base → base.Ns mainGlobals mg → TabB base mg c T → FnG l.prog w K mg base k fa fd [x] sp) :
    PySem.W.WalkO q loose XP YP l.row.toRowW d [] (fun f vs => PySem.call f vs) := by
  refine Att.attach_callB hn hdf fun w s0 s1 mg mb fa o pm cd doc a vs ns G Y h1 h2 h3 h4 h5 h6 h7 hbits h8 => ?_
  obtain ⟨K, fd, fdr, sp, fr, c, T, o1, inK, bt, k0, k1, k2, k3, kc, kT, hsp, hF⟩ := F w mg fa _ Y G.T.g h4
  have hc := PySem.W.codeHd_of_K inK kc
  have hT : s1.heap.get? T = some { cls := .none, data := .fields #[] } := by
    obtain ⟨dL, hm, e1⟩ := List.any_eq_true.mp hrec
    obtain ⟨a2, o2, fd2, c2, P2, g1, g2, g3, g4, g5, g6⟩ := G.T.tab dL hm
    rw [beq_iff_eq.mp e1, k0] at g1
    cases g1
    rw [inK _ _ k1] at g2
    cases g2
    rw [k2] at g3
    cases g3
    rw [k3] at g4
    cases g4
    obtain ⟨⟨oc, vc, e1, _, e3, e4⟩, hP⟩ := g6
    obtain ⟨oc', vs', file, tf, flags, tg, inF, text, tt, f1, f2, f3, f4, _⟩ := id hc
    rw [f1] at e1
    cases e1
    rw [f3] at e3
    cases e3
    rw [f4] at e4
    cases e4
    exact hP
  exact law_callT inK G.T.g G.T.b G.T.builtins G.T.nolimit h8 hT kT hc G.T.bmain h5 h6 (Nat.le_trans h7 hn2) hr hF bt (fun H eT sq => hsp H a ns h7 eT sq)
end Ev2
namespace Ev2
open Ev
open PySem L2 PySem.Spec PyProof.Rows RZ
/-! ### list(d.values()) -/
def tListVals (te : TE) : TE := fun σ H Q => te σ H fun x H1 => ∃ (d : Addr) (kvs : List (Key × V)), x = .ref d ∧ H1 d = some (.dK kvs) ∧ ∀ p, H1 p = none → Q (.ref p) (upd H1 p (.lst (kvs.map (·.2))))
section
variable {X : Cx} {e : Expr} {te : TE} {p apos cpos pos : Pos}
theorem pe_listVals (hc : X.calm = true) (he : PE X e te) (hg : Gl X "list") (hm : X.mg "list" = none) (hv : bootBuiltins "list" = some (.type "list")) (hbase : attributeBase e "values" X.env (eval e X.env) = eval e X.env := by rfl) (hline : (apos.endLine == cpos.line) = true := by rfl)
    (hs : starEach [.Call (.Attribute e "values" apos) [] [] cpos] X.env = (false, eval (.Call (.Attribute e "values" apos) [] [] cpos) X.env) :: starEach [] X.env := by rfl) :
    PE X (.Call (.Name "list" p) [.Call (.Attribute e "values" apos) [] [] cpos] [] pos) (tListVals te) := by
  constructor
  intro pins s σ H Q I hq
  refine wpAny_Call_Name_kw (ld_blt I hg hm hv ?_)
  refine PyProof.Rows.callWith_type1 ?_ hs rfl
  rw [hs]
  show wpAny _ _ (spliced ((false, eval (.Call (.Attribute e "values" apos) [] [] cpos) X.env) :: backTo pos (starEach [] X.env))) _ _ s
  refine Calls.spliced_cons ?_
  refine wpAny_Call_method (T := "dict") (id := "dict.values") hbase rfl hline F.plainAttrs_dict F.slot_dict_values F.type_dict_values (thn (he.run pins s σ H _ I hq) fun u s1 hh => ?_)
  obtain ⟨x, H1, I1, rx, d, kvs, rfl, hd, q⟩ := hh
  obtain rfl : u = Value.ref d := rx
  obtain ⟨hz, hs0, vs, kv, hdo⟩ := I1.hok d _ hd
  obtain ⟨ep, hat⟩ := hdo.dictAt
  have lk : kvs.length = vs.length := Paired.length kv
  refine ⟨hdo.typeIs, hdo.mapOf.noDict, ?_⟩
  show wpAny _ _ (callWith cpos (.builtin "dict.values") [.ref d] [] []) _ X.xe s1
  refine method_meetsIn F.slot_dict_values F.entry_dict_values rfl (PySem.evalArgs_none ⟨rfl, hdo.typeIs, F.args_dict_values_1 _, _, meets_dict_values (mixKind X.prog X.w) d hs0, ⟨vs, hdo⟩, ?_⟩)
  refine Calls.spliced_nil ?_
  have I2 : Inv X pins σ H1 { s1 with heap := s1.heap.push { cls := .type "dict_values", data := .fields #[.ref d] } } := I1.kept (t' := s1.toks) fun b ob q => Heap.get?_push_of_some _ q
  refine PySem.W.kdl_call (PySem.W.kdl_values (knd := mixKind X.prog X.w) (kvs := vs) (ep := ep)) (I1.ok.hd hc) ⟨⟨_, Heap.get?_push_size _ rfl, rfl, rfl⟩, hat.push _⟩ (by omega) fun h' tk acc c' hk hD hacc => ?_
  have e2 : acc.toList = vs.map (·.2) := PySem.W.kdl_vals_eq acc.toList (by rw [Array.length_toList]; exact hacc.1) fun j v e => hacc.2 j v (by rw [← Array.getElem?_toList]; exact e)
  refine ⟨.ref _, upd H1 _ (.lst (kvs.map (·.2))), I2.laid (t' := tk) hk (Nat.le_refl _) (show ObjOk X.prog X.w _ _ _ (.lst (kvs.map (·.2))) from ⟨by rw [List.length_map]; exact hz, acc.toList, c', by rw [e2]; exact vals_snd kv, by rw [Array.toArray_toList]; exact hD⟩), rfl, q _ (I2.hok.fresh (Nat.le_refl _))⟩
end
/-! ### what stands in a value -/
def AllFlat (us : List V) : Prop := ∀ u ∈ us, ∃ T, Flat u T
inductive Hold (H : Hp) : V → List V → Bool → Prop
  | flat {v : V} {T : String} : Flat v T → Hold H v [] false
  | tup {a : Addr} {us : List V} : H a = some (.tup us) → AllFlat us → us.length ≤ 900 → Hold H (.ref a) us false
  | lst {a : Addr} {us : List V} : H a = some (.lst us) → AllFlat us → us.length ≤ 900 → Hold H (.ref a) us true
  | dct {a : Addr} {kvs : List (Key × V)} : H a = some (.dK kvs) → AllFlat (kvs.map (·.2)) → kvs.length ≤ 900 → (kvs.map (·.1)).Nodup → Hold H (.ref a) (kvs.map (·.2)) true
/-- the copy of a value -/
inductive Alike (H : Hp) : V → Hp → V → Prop
  | same {v : V} {H' : Hp} : Alike H v H' v
  | lst {a b : Addr} {us : List V} {H' : Hp} : H a = some (.lst us) → H' b = some (.lst us) → Alike H (.ref a) H' (.ref b)
  | dct {a b : Addr} {kvs : List (Key × V)} {H' : Hp} : H a = some (.dK kvs) → H' b = some (.dK kvs) → Alike H (.ref a) H' (.ref b)
theorem Hold.keep {H H' : Hp} {v : V} {us : List V} {b : Bool} (h : Hold H v us b) (k : Same H H') : Hold H' v us b := by
  cases h with
  | flat f => exact .flat f
  | tup e a l => exact .tup (k _ _ e) a l
  | lst e a l => exact .lst (k _ _ e) a l
  | dct e a l n => exact .dct (k _ _ e) a l n
theorem Hold.len {H : Hp} {v : V} {us : List V} {b : Bool} (h : Hold H v us b) : us.length ≤ 900 := by
  cases h with
  | flat f => exact Nat.zero_le _
  | tup e a l => exact l
  | lst e a l => exact l
  | dct e a l n => rw [List.length_map]; exact l
theorem Hold.items {H : Hp} {v : V} {us : List V} {b : Bool} (h : Hold H v us b) : AllFlat us := by
  cases h with
  | flat f => exact fun u z => by cases z
  | tup e a l => exact a
  | lst e a l => exact a
  | dct e a l n => exact a
theorem Hold.ty {H : Hp} {v : V} {us : List V} {b : Bool} (h : Hold H v us b) : ∃ T : String, (∀ (K : PySem.W.Frag) (H' : Hp), Same H H' → TyX K H' v (.type T)) ∧ ∃ b1 b2 b3, kitB T "list" = some b1 ∧ kitB T "tuple" = some b2 ∧ kitB T "dict" = some b3 ∧ b = (b1 || b3) := by
  cases h with
  | @flat v T f => exact ⟨T, fun K H' _ => f.ty K H', false, false, false, f.l, f.t, f.d, rfl⟩
  | tup e a l => exact ⟨"tuple", fun K H' k => .base (.tup (k _ _ e)), false, true, false, by decide +kernel, by decide +kernel, by decide +kernel, rfl⟩
  | lst e a l => exact ⟨"list", fun K H' k => .base (.lst (k _ _ e)), true, false, false, by decide +kernel, by decide +kernel, by decide +kernel, rfl⟩
  | dct e a l n => exact ⟨"dict", fun K H' k => .base (.dK (k _ _ e)), false, false, true, by decide +kernel, by decide +kernel, by decide +kernel, rfl⟩
def spPartsV : Sp := fun vs H Q _ => ∃ (v : V) (us : List V) (b : Bool), vs = [v] ∧ Hold H v us b ∧ ∀ (p : Addr) (H' : Hp), H p = none → Same H H' → H' p = some (.lst us) → Q (.ref p) H'
def spRebuilt : Sp := fun vs H Q _ => ∃ (v : V) (us : List V) (p : Addr), vs = [v, .ref p] ∧ Hold H v us true ∧ H p = some (.lst us) ∧ ∀ (v' : V) (H' : Hp), Same H H' → Alike H v H' v' → Q v' H'
def spKeptV : Sp := fun vs H Q _ => ∃ (v : V) (us : List V) (b : Bool), vs = [v] ∧ Hold H v us b ∧ ∀ (v' : V) (H' : Hp), Same H H' → Alike H v H' v' → Q v' H'
section
variable {P : Program} {w : World} {K : PySem.W.Frag} {mg : Str → Option Value} {base : Heap}
theorem ok_partsV {f : Addr} {fd : FuncData} (F : Fun K "parts_of" "parts_of" sParts f fd) (T : Blt mg) (md : mg "dict" = none) : FnOk P w K mg base CX0 1 f fd ["value"] spPartsV := by
  refine F.ok scParts (fun vs H Q E h => ?_) (fun cdv A outer s H vs Q E hr h => ?_)
  · obtain ⟨v, us, b, rfl, _⟩ := h
    rfl
  · obtain ⟨v, us, b, rfl, hh, kk⟩ := h
    refine ⟨_, pss_cons (ps_if (pt_val (pe_callB call_isiT (by rfl) T.isi (by decide +kernel) (pa_cons (pv 0) (pa_cons (pe_tup (pa_cons (pe_bltn (v := .ty "list") (by rfl) T.list (by decide +kernel) rfl) (pa_cons (pe_bltn (v := .ty "tuple") (by rfl) T.tuple (by decide +kernel) rfl) pa_nil))) pa_nil))))
        (pss_one (ps_ret (pe_callTy call_list_of (by rfl) T.list (by decide +kernel) (pa_cons (pv 0) pa_nil)))) pss_nil)
      (pss_one (ps_ret (pe_ifExp (pt_val (pe_callB call_isi (by rfl) T.isi (by decide +kernel) (pa_cons (pv 0) (pa_cons (pe_bltn (v := .ty "dict") (by rfl) md (by decide +kernel) rfl) pa_nil)))) (pe_listVals rfl (pv 0) (by rfl) T.list (by decide +kernel)) (pe_lst pa_nil)))), ?_⟩
    have fin : ∀ (tp p : Addr) (ntp : H tp = none) (np : upd H tp (.tup [.ty "list", .ty "tuple"]) p = none), Q (.ref p) (upd (upd H tp (.tup [.ty "list", .ty "tuple"])) p (.lst us)) := fun tp p ntp np =>
      kk p _ (Same.gone (same_new ntp) np) ((same_new ntp).trans (same_new np)) upd_same
    cases hh with
    | @flat v TT f =>
      refine ⟨_, rfl, (by show 2 ≤ sizeLine; decide), fun tp ntp => ⟨_, tp, _, _, _, false, rfl, upd_same, .cons (.ty _) (.cons (.ty _) .nil), f.ty _ _, kit_any2 f.l f.t, _, rfl, iteF ?_⟩⟩
      exact ⟨_, rfl, _, _, _, _, false, rfl, .ty _, f.ty _ _, kit_ty f.d, _, rfl, iteF ⟨(by show 0 ≤ sizeLine; decide), fun p np => fin tp p ntp np⟩⟩
    | tup e a l =>
      refine ⟨_, rfl, (by show 2 ≤ sizeLine; decide), fun tp ntp => ⟨_, tp, _, _, _, true, rfl, upd_same, .cons (.ty _) (.cons (.ty _) .nil), .base (.tup (same_new ntp _ _ e)), kit_any2 (r1 := false) (r2 := true) (by decide +kernel) (by decide +kernel), _, rfl, iteT ?_⟩⟩
      exact ⟨_, rfl, _, _, rfl, .inr (SqT.of (same_new ntp _ _ e)), fun p np => fin tp p ntp np⟩
    | lst e a l =>
      refine ⟨_, rfl, (by show 2 ≤ sizeLine; decide), fun tp ntp => ⟨_, tp, _, _, _, true, rfl, upd_same, .cons (.ty _) (.cons (.ty _) .nil), .base (.lst (same_new ntp _ _ e)), kit_any2 (r1 := true) (r2 := false) (by decide +kernel) (by decide +kernel), _, rfl, iteT ?_⟩⟩
      exact ⟨_, rfl, _, _, rfl, .inl (SqL.of (same_new ntp _ _ e)), fun p np => fin tp p ntp np⟩
    | dct e a l n =>
      refine ⟨_, rfl, (by show 2 ≤ sizeLine; decide), fun tp ntp => ⟨_, tp, _, _, _, false, rfl, upd_same, .cons (.ty _) (.cons (.ty _) .nil), .base (.dK (same_new ntp _ _ e)), kit_any2 (r1 := false) (r2 := false) (by decide +kernel) (by decide +kernel), _, rfl, iteF ?_⟩⟩
      exact ⟨_, rfl, _, _, _, _, true, rfl, .ty _, .base (.dK (same_new ntp _ _ e)), kit_ty (by decide +kernel), _, rfl, iteT ⟨_, rfl, _, _, rfl, same_new ntp _ _ e, fun p np => fin tp p ntp np⟩⟩
theorem putK_take {kvs : List (Key × V)} (n : (kvs.map (·.1)).Nodup) {i : Nat} {k : Key} {z : V} (e : kvs[i]? = some (k, z)) : putK (kvs.take i) k z = kvs.take (i + 1) := by
  have hi : i < kvs.length := (List.getElem?_eq_some_iff.mp e).1
  have ei : kvs[i] = (k, z) := (List.getElem?_eq_some_iff.mp e).2
  have new : ((kvs.take i).any fun kv => decide (kv.1 = k)) = false := by
    rw [List.any_eq_false]
    intro p hp hq
    obtain ⟨j, hj, ej⟩ := List.mem_take_iff_getElem.mp hp
    have hq : p.1 = k := of_decide_eq_true hq
    have h1 : (kvs.map (·.1))[j]'(by rw [List.length_map]; omega) = k := by rw [List.getElem_map, ej, hq]
    have h2 : (kvs.map (·.1))[i]'(by rw [List.length_map]; omega) = k := by rw [List.getElem_map, ei]
    have h3 := (List.getElem_inj n).mp (h1.trans h2.symm)
    omega
  unfold putK
  rw [new, if_neg (by decide), List.take_add_one, e]
  rfl
theorem scRebuilt : FnScope ["value", "parts", "key", "part"] ["value", "parts"] (defScope sRebuilt) := ⟨rfl, rfl, rfl, by decide +kernel, rfl, by decide +kernel, by decide +kernel⟩
theorem ok_rebuilt {f : Addr} {fd : FuncData} (F : Fun K "rebuilt" "rebuilt" sRebuilt f fd) (T : Blt mg) (md : mg "dict" = none) (mz : mg "zip" = none) : FnOk P w K mg base CX0 1 f fd ["value", "parts"] spRebuilt := by
  refine F.ok scRebuilt (fun vs H Q E h => ?_) (fun cdv A outer s H vs Q E hr h => ?_)
  · obtain ⟨v, us, p, rfl, _⟩ := h
    rfl
  · obtain ⟨v, us, p, rfl, hh, hp, kk⟩ := h
    refine ⟨_, pss_cons (ps_if (pt_val (pe_callB call_isi (by rfl) T.isi (by decide +kernel) (pa_cons (pv 0) (pa_cons (pe_bltn (v := .ty "dict") (by rfl) md (by decide +kernel) rfl) pa_nil))))
        (pss_one (ps_ret (pe_dc (g := gTup K 2 (gCons (gName 2) (gCons (gName 3) gNil))) (tt := tYes) (tk := tVar 2) (tv := tVar 3) (own := [("key", 2), ("part", 3)]) rfl scRebuilt.nd (pi_zip (by rfl) mz (pa_cons (pe_callTy (call_list_dK rfl) (by rfl) T.list (by decide +kernel) (pa_cons (pv 0) pa_nil)) (pa_cons (pv 1) pa_nil)))
          (blkOk_by (own := [("key", 2), ("part", 3)]) (N := ["value", "parts", "key", "part"]) (sc := defScope sRebuilt) (by decide +kernel))
          (fun _ _ _ _ _ => pg_tup (by rfl) (pgs_cons (pg_name (i := 2) scRebuilt.nd rfl (.inl rfl)) (pgs_cons (pg_name (i := 3) scRebuilt.nd rfl (.inl rfl)) pgs_nil))) (fun _ _ _ _ _ => pts_nil) (fun _ _ _ _ _ => pv 2) (fun _ _ _ _ _ => pv 3)))) pss_nil)
      (pss_one (ps_ret (pe_ifExp (pt_val (pe_callB call_isi (by rfl) T.isi (by decide +kernel) (pa_cons (pv 0) (pa_cons (pe_bltn (v := .ty "tuple") (by rfl) T.tuple (by decide +kernel) rfl) pa_nil)))) pe_never (pv 1)))), ?_⟩
    generalize eb : true = bb at hh
    cases hh with
    | flat f => cases eb
    | tup e a l => cases eb
    | lst e a l =>
      refine ⟨_, rfl, _, _, _, _, false, rfl, .ty _, .base (.lst e), kit_ty (by decide +kernel), _, rfl, iteF ?_⟩
      refine ⟨_, rfl, _, _, _, _, false, rfl, .ty _, .base (.lst e), kit_ty (by decide +kernel), _, rfl, iteF ⟨_, rfl, ?_⟩⟩
      exact kk _ H (Same.refl H) (.lst e hp)
    | @dct a kvs e al l n =>
      refine ⟨_, rfl, _, _, _, _, true, rfl, .ty _, .base (.dK e), kit_ty (by decide +kernel), _, rfl, iteT ?_⟩
      refine ⟨_, rfl, a, kvs, rfl, e, fun q nq => ⟨_, rfl, q, p, _, _, rfl, SqL.of upd_same, SqL.of (same_new nq _ _ hp), fun D nD => ?_⟩⟩
      have hq1 := same_new (o := .dK []) nD _ _ (upd_same (H := H) (a := q) (o := .lst (kvs.map fun kv => kV kv.1)))
      have hp1 := same_new (o := .dK []) nD _ _ (same_new (o := .lst (kvs.map fun kv => kV kv.1)) nq _ _ hp)
      have hD1 : upd (upd H q (.lst (kvs.map fun kv => kV kv.1))) D (.dK []) D = some (.dK []) := upd_same
      have nDp : D ≠ p := fun z => by rw [z, same_new nq _ _ hp] at nD; cases nD
      have nDq : D ≠ q := fun z => by rw [z, upd_same] at nD; cases nD
      have s1 : Same H (upd (upd H q (.lst (kvs.map fun kv => kV kv.1))) D (.dK [])) := (same_new nq).trans (same_new nD)
      have nDH : H D = none := Same.gone (same_new nq) nD
      generalize upd (upd H q (.lst (kvs.map fun kv => kV kv.1))) D (.dK []) = H1 at hq1 hp1 hD1 s1
      refine ⟨fun i m G => m = kvs.length - i ∧ i ≤ kvs.length ∧ But D H1 G ∧ G D = some (.dK (kvs.take i)), ⟨_, rfl, Nat.zero_le _, But.refl _ _, hD1⟩, ?_⟩
      rintro i m G ⟨rfl, hi, bt, gD⟩
      have gq := bt _ _ nDq.symm hq1
      have gp := bt _ _ nDp.symm hp1
      by_cases hlt : i < kvs.length
      · right
        have ek : (kvs.map fun kv => kV kv.1)[i]? = some (kV kvs[i].1) := by rw [List.getElem?_map, List.getElem?_eq_getElem hlt]; rfl
        have ev : (kvs.map (·.2))[i]? = some kvs[i].2 := by rw [List.getElem?_map, List.getElem?_eq_getElem hlt]; rfl
        refine ⟨⟨_, _, _, _, SqL.of gq, SqL.of gp, ek, ev⟩, fun G' => But D H1 G' ∧ G' D = some (.dK (kvs.take (i + 1))), fun G' ⟨b2, d2⟩ => ⟨_, by omega, rfl, hlt, b2, d2⟩, fun x G' y => ?_⟩
        obtain ⟨tp, x1, x2, rfl, nt, rfl, h1, h2⟩ := y
        have e1 := h1 _ (SqL.of gq)
        have e2 := h2 _ (SqL.of gp)
        rw [ek] at e1
        rw [ev] at e2
        obtain rfl := Option.some.inj e1
        obtain rfl := Option.some.inj e2
        have gD2 := same_new (o := .tup [kV kvs[i].1, kvs[i].2]) nt _ _ gD
        refine ⟨_, _, rfl, SqT.of upd_same, rfl, _, _, rfl, _, _, rfl, rfl, rfl, ?_⟩
        refine ⟨_, rfl, _, rfl, _, kvs[i].1, rfl, gD2, ?_, ?_, ?_⟩
        · rw [List.length_take]
          exact Nat.lt_of_le_of_lt (show _ ≤ 900 by omega) (by rw [sizeLine_eq]; decide)
        · exact bt.trans ((Same.but (same_new nt)).trans But.upd_at)
        · rw [upd_same, show putK (kvs.take i) kvs[i].1 kvs[i].2 = kvs.take (i + 1) from putK_take n (by rw [List.getElem?_eq_getElem hlt])]
      · left
        have ei : i = kvs.length := by omega
        refine ⟨⟨_, _, SqL.of gq, SqL.of gp, .inl (by rw [List.length_map]; omega)⟩, ?_⟩
        rw [ei, List.take_length] at gD
        exact kk _ G (fun b o z => bt _ _ (ne_of_none z nDH) (s1 _ _ z)) (.dct e gD)
end
end Ev2
namespace Ev2
open Ev
open PySem L2 PySem.Spec PyProof.Rows RZ
theorem Alike.from {H H1 H' : Hp} {v v' : V} (k : Same H H1) (us : List V) (h : Hold H v us true) (a : Alike H1 v H' v') : Alike H v H' v' := by
  cases a with
  | same => exact .same
  | lst e1 e2 =>
    generalize eb : true = bb at h
    cases h with
    | flat f => cases eb
    | tup e a l => cases eb
    | lst e a l => rw [k _ _ e] at e1; cases e1; exact .lst e e2
    | dct e a l n => rw [k _ _ e] at e1; cases e1
  | dct e1 e2 =>
    generalize eb : true = bb at h
    cases h with
    | flat f => cases eb
    | tup e a l => cases eb
    | lst e a l => rw [k _ _ e] at e1; cases e1
    | dct e a l n => rw [k _ _ e] at e1; cases e1; exact .dct e e2
theorem flat_hold {H : Hp} {us : List V} (h : AllFlat us) {j : Nat} {u : V} (e : us[j]? = some u) : Hold H u [] false := by
  obtain ⟨T, f⟩ := h u (List.mem_of_getElem? e)
  exact .flat f
/-- the marks of the things -/
def marks (b : Bool) (n : Nat) : List Bool := b :: List.replicate n false
theorem marks_at {b : Bool} {n j : Nat} (h : j < n) : (marks b n)[j + 1]? = some false := by
  show (List.replicate n false)[j]? = some false
  rw [List.getElem?_replicate, if_pos h]
theorem ends_at {m n j : Nat} (h : j < m) : (List.replicate m (V.int (1 + (n : Int))))[j]? = some (V.int (1 + (n : Int))) := by
  rw [List.getElem?_replicate, if_pos h]
theorem cut_tail {x : V} {ys : List V} : cutV (x :: ys) (some 1) (some (1 + (ys.length : Int))) = ys := by
  unfold cutV
  have h1 : HT.sIx (x :: ys).length 0 (some 1) = 1 := by
    have := HT.sIx_nat (x :: ys).length 0 1
    rw [List.length_cons] at this ⊢
    rw [show ((1 : Nat) : Int) = 1 from rfl] at this
    rw [this]; omega
  have h2 : HT.sIx (x :: ys).length (x :: ys).length (some (1 + (ys.length : Int))) = ys.length + 1 := by
    have := HT.sIx_nat (x :: ys).length (x :: ys).length (ys.length + 1)
    rw [show ((ys.length + 1 : Nat) : Int) = 1 + (ys.length : Int) by omega] at this
    rw [this, List.length_cons]; omega
  rw [h1, h2, show (x :: ys).drop 1 = ys from rfl, show ys.length + 1 - 1 = ys.length by omega, List.take_length]
theorem cut_none {xs : List V} {h : Option Int} : cutV xs h h = [] ∨ h = none := by
  cases h with
  | none => exact .inr rfl
  | some k =>
    left
    unfold cutV
    have e : HT.sIx xs.length xs.length (some k) = HT.sIx xs.length 0 (some k) := rfl
    rw [e, Nat.sub_self, List.take_zero]
theorem cut_void {xs : List V} {k : Int} : cutV xs (some k) (some k) = [] := by
  rcases cut_none (xs := xs) (h := some k) with e | e
  · exact e
  · cases e
theorem ix_first {x : V} {ys : List V} : ixN (x :: ys).length 0 = some 0 := by
  unfold ixN
  rw [List.length_cons]
  simp
theorem any_none (n : Nat) : (List.replicate n false).any id = false := by
  rw [List.any_eq_false]
  intro x hx
  rw [List.eq_of_mem_replicate hx]
  decide
theorem Alike.put {H G : Hp} {v v' : V} {m : Addr} {xs : List V} {us : List V} (h : Alike H v G v') (hv : Hold H v us true) (hm : G m = some (.lst xs)) (nl : xs.length = us.length + 1) {o : HO} : Alike H v (upd G m o) v' := by
  cases h with
  | same => exact .same
  | lst e1 e2 =>
    refine .lst e1 ?_
    rw [upd_ne]
    · exact e2
    · intro z
      rw [z, hm] at e2
      cases e2
      generalize eb : true = bb at hv
      cases hv with
      | flat f => cases eb
      | tup e a l => cases eb
      | lst e a l => rw [e] at e1; cases e1; omega
      | dct e a l n => rw [e] at e1; cases e1
  | dct e1 e2 =>
    refine .dct e1 ?_
    rw [upd_ne]
    · exact e2
    · intro z
      rw [z, hm] at e2
      cases e2
abbrev sCopied : Stmt := sCopiedDeep
theorem scCopied : FnScope ["value", "things", "ends", "at", "made", "loose", "place", "first", "end", "thing"] ["value"] (defScope sCopied) := ⟨rfl, rfl, rfl, by decide +kernel, rfl, by decide +kernel, by decide +kernel⟩
def spFlat : Sp := fun vs H Q _ => ∃ (a : Addr) (us : List V), vs = [.ref a] ∧ H a = some (.tup us) ∧ AllFlat us ∧ us.length ≤ 900 ∧ ∀ H', Same H H' → Q (.bl true) H'
section
variable {P : Program} {w : World} {K : PySem.W.Frag} {mg : Str → Option Value} {base : Heap}
theorem ok_copied {f : Addr} {fd : FuncData} (F : Fun K "copied_deep" "copied_deep" sCopied f fd) (T : Blt mg) (md : mg "dict" = none) (ma : mg "any" = none) (D : Df P w K mg base 1 "parts_of" ["value"] spPartsV) (D2 : Df P w K mg base 1 "rebuilt" ["value", "parts"] spRebuilt) : FnOk P w K mg base CX0 2 f fd ["value"] spKeptV := by
  obtain ⟨f1, fd1, G1, g1, k1, b1⟩ := D.ex
  obtain ⟨f2, fd2, G2, g2, k2, b2⟩ := D2.ex
  refine F.ok scCopied (fun vs H Q E h => ?_) (fun cdv A outer s H vs Q E hr h => ?_)
  · obtain ⟨v, us, b, rfl, _⟩ := h
    rfl
  · obtain ⟨v, us, b, rfl, hh, kk⟩ := h
    refine ⟨_, pss_cons (ps_set (i := 1) scCopied.nd rfl (.inl rfl) (pe_lst (pa_cons (pv 0) pa_nil)))
      (pss_cons (ps_set (i := 2) scCopied.nd rfl (.inl rfl) (pe_lst pa_nil))
      (pss_cons (ps_set (i := 3) scCopied.nd rfl (.inl rfl) pe_int)
      (pss_cons (ps_while PassesOwn.never (pt_cmpR op_lt (pv 3) (pe_callB call_len_seq (by rfl) T.len PySem.boot_len (pa_cons (pv 1) pa_nil)) (nomark _))
        (pss_cons (ps_expr (pe_bm PySem.F.plainAttrs_list PySem.F.slot_list_extend PySem.F.type_list_extend mt_extend (pv 1) (pa_cons (pe_callTy call_list_of (by rfl) T.list (by decide +kernel) (pa_cons (pe_call G1 hr (by rfl) g1 k1 b1 .nil pass0 (pa_cons (pe_ix ix_list (pv 1) (pv 3) (fun _ _ => rfl)) pa_nil)) pa_nil)) pa_nil)))
        (pss_cons (ps_expr (pe_bm PySem.F.plainAttrs_list PySem.F.slot_list_append PySem.F.type_list_append mt_append (pv 2) (pa_cons (pe_callB call_len_seq (by rfl) T.len PySem.boot_len (pa_cons (pv 1) pa_nil)) pa_nil)))
        (pss_one (ps_aug (i := 3) scCopied.nd rfl (.inl rfl) pe_int ip_add)))))
      (pss_cons (ps_set (i := 4) scCopied.nd rfl (.inl rfl) (pe_callTy call_list_of (by rfl) T.list (by decide +kernel) (pa_cons (pv 1) pa_nil)))
      (pss_cons (ps_setLc (i := 5) (te := tCB (rIsiT K) (tCons (tVar 9) (tCons (tTup (tCons (tC (.ty "list")) (tCons (tC (.ty "dict")) tNil))) tNil))) (own := [("thing", 9)]) (g := gName 9) (by rfl) scCopied.nd rfl rfl (sw_true rfl rfl rfl (by decide +kernel)) (pi_list (pv 1))
          (blkOk_by (own := [("thing", 9)]) (N := ["value", "things", "ends", "at", "made", "loose", "place", "first", "end", "thing"]) (sc := defScope sCopied) (by decide +kernel))
          (fun _ _ _ _ _ => pg_name (i := 9) scCopied.nd rfl (.inl rfl)) (fun _ _ _ _ _ => pts_nil)
          (fun _ _ _ _ _ => pe_callB (id := "isinstance") call_isiT (by rfl) T.isi (by decide +kernel) (pa_cons (pv 9) (pa_cons (pe_tup (pa_cons (pe_bltn (v := .ty "list") (by rfl) T.list (by decide +kernel) rfl) (pa_cons (pe_bltn (v := .ty "dict") (by rfl) md (by decide +kernel) rfl) pa_nil))) pa_nil))))
      (pss_cons (ps_for PassesOwn.never rfl (pi_range3 rfl T.range (pa_cons (pe_op op_sub (pe_callB call_len_seq (by rfl) T.len PySem.boot_len (pa_cons (pv 1) pa_nil)) pe_int) (pa_cons (pe_un un_neg pe_int) (pa_cons (pe_un un_neg pe_int) pa_nil)))) (pg_name (i := 6) scCopied.nd rfl (.inl rfl))
        (pss_cons (ps_par (i := 7) (j := 8) rfl scCopied.nd rfl rfl (by decide) rfl rfl (pa_cons (pe_ifExp (pt_cmpR op_gt (pv 6) pe_int (nomark _)) (pe_ix ix_list (pv 2) (pe_op op_sub (pv 6) pe_int) (fun _ _ => rfl)) pe_int) (pa_cons (pe_ix ix_list (pv 2) (pv 6) (fun _ _ => rfl)) pa_nil)) (by rfl))
        (pss_cons (ps_if (pt_val (pe_callB (cr_any rfl) (by rfl) ma (by decide +kernel) (pa_cons (pe_slice sl_list (pv 5) (po_some (pv 7)) (po_some (pv 8))) pa_nil))) (pss_one ps_never) pss_nil)
        (pss_one (ps_if (pt_val (pe_ix ix_list (pv 5) (pv 6) (fun _ _ => rfl)))
          (pss_one (ps_asg (pe_call G2 hr (by rfl) g2 k2 b2 .nil pass0 (pa_cons (pe_ix ix_list (pv 1) (pv 6) (fun _ _ => rfl)) (pa_cons (pe_slice sl_list (pv 4) (po_some (pv 7)) (po_some (pv 8))) pa_nil))) (pg_sub (pv 4) (pv 6) set_list))) pss_nil)))))
      (pss_one (ps_ret (pe_ix ix_list (pv 4) pe_int (fun _ _ => rfl)))))))))), ?_⟩
    have hlen := hh.len
    have hit := hh.items
    have z1000 : ∀ {n : Nat}, n ≤ 902 → n ≤ sizeLine := fun h => Nat.le_trans h (by rw [sizeLine_eq]; decide)
    refine ⟨_, rfl, (by show 1 ≤ sizeLine; decide), fun t nt => ⟨(by show 0 ≤ sizeLine; decide), fun e ne => ?_⟩⟩
    have te : e ≠ t := fun z => by rw [z, upd_same] at ne; cases ne
    have s2 : Same H (upd (upd H t (.lst [v])) e (.lst [])) := (same_new nt).trans (same_new ne)
    have ht2 : upd (upd H t (.lst [v])) e (.lst []) t = some (.lst [v]) := same_new ne _ _ upd_same
    have he2 : upd (upd H t (.lst [v])) e (.lst []) e = some (.lst []) := upd_same
    have nte : H e = none := Same.gone (same_new nt) ne
    generalize upd (upd H t (.lst [v])) e (.lst []) = H2 at s2 ht2 he2 ⊢
    -- the walk over the things
    refine ⟨fun m σ H' => (m = us.length + 1 ∧ σ = [some v, some (.ref t), some (.ref e), some (.int 0), none, none, none, none, none, none] ∧ H' = H2) ∨
      (∃ k, k ≤ us.length ∧ m = us.length - k ∧ σ = [some v, some (.ref t), some (.ref e), some (.int (1 + (k : Int))), none, none, none, none, none, none] ∧ H' t = some (.lst (v :: us)) ∧ H' e = some (.lst (List.replicate (1 + k) (V.int (1 + (us.length : Int))))) ∧ Same H H'), ⟨_, .inl ⟨rfl, rfl, rfl⟩⟩, fun m σ H' h => ?_⟩
    rcases h with ⟨rfl, rfl, rfl⟩ | ⟨k, hk, rfl, rfl, ht, he, sm⟩
    · refine ⟨_, rfl, _, rfl, t, _, rfl, .inl (SqL.of ht2), _, _, rfl, rfl, _, rfl, ite2 (fun _ => ?_) (fun z => absurd (decide_eq_true (show (0 : Int) < ((1 : Nat) : Int) by decide)) z)⟩
      refine ⟨fun σ H' => σ = [some v, some (.ref t), some (.ref e), some (.int (1 + ((0 : Nat) : Int))), none, none, none, none, none, none] ∧ H' t = some (.lst (v :: us)) ∧ H' e = some (.lst (List.replicate (1 + 0) (V.int (1 + (us.length : Int))))) ∧ Same H H', fun σ' H' q => ⟨us.length, by omega, .inr ⟨0, Nat.zero_le _, rfl, q⟩⟩, ?_⟩
      refine ⟨_, rfl, .inl ⟨rfl, _, SqL.of ht2⟩, _, rfl, _, rfl, t, _, 0, v, rfl, rfl, SqL.of ht2, atI_nat (j := 0) rfl, v, us, b, rfl, hh.keep s2, fun p0 H30 np0 s30 hp0 => ⟨p0, _, rfl, .inl (SqL.of hp0), fun p np => ?_⟩⟩
      have s3 : Same H' (upd H30 p (.lst us)) := s30.trans (same_new np)
      have hp : upd H30 p (.lst us) p = some (.lst us) := upd_same
      generalize upd H30 p (.lst us) = H3 at s3 hp ⊢
      refine ⟨t, p, _, _, rfl, rfl, s3 _ _ ht2, hp, z1000 (by show 1 + us.length ≤ 902; omega), ?_⟩
      have he3 : upd H3 t (.lst ([v] ++ us)) e = some (.lst []) := by rw [upd_ne te]; exact s3 _ _ he2
      refine ⟨_, rfl, .inl ⟨rfl, _, SqL.of he3⟩, _, rfl, t, [v] ++ us, rfl, .inl (SqL.of upd_same), e, _, _, rfl, rfl, he3, (by show 0 < sizeLine; decide), ?_⟩
      refine ⟨_, rfl, _, _, rfl, rfl, rfl, ?_, ?_, fun b o q => ?_⟩
      · rw [upd_ne te.symm]; exact upd_same
      · have e1 : ((([v] ++ us).length : Nat) : Int) = 1 + (us.length : Int) := by rw [List.length_append, List.length_singleton]; omega
        rw [upd_same, e1]; rfl
      · rw [upd_ne (ne_of_none q nte), upd_ne (ne_of_none q nt)]
        exact s3 _ _ (s2 _ _ q)
    · by_cases hlt : k < us.length
      · have hge : (v :: us)[1 + k]? = some us[k] := by rw [Nat.add_comm]; exact List.getElem?_eq_getElem hlt
        have hix : atI (v :: us) (1 + (k : Int)) = some us[k] := by
          have := atI_nat (xs := v :: us) (j := 1 + k) hge
          rw [show ((1 + k : Nat) : Int) = 1 + (k : Int) by omega] at this
          exact this
        refine ⟨_, rfl, _, rfl, t, _, rfl, .inl (SqL.of ht), _, _, rfl, rfl, _, rfl, ite2 (fun _ => ?_) (fun z => absurd (decide_eq_true (show (1 + (k : Int)) < (((v :: us).length : Nat) : Int) by rw [List.length_cons]; omega)) z)⟩
        refine ⟨fun σ H' => σ = [some v, some (.ref t), some (.ref e), some (.int (1 + ((k + 1 : Nat) : Int))), none, none, none, none, none, none] ∧ H' t = some (.lst (v :: us)) ∧ H' e = some (.lst (List.replicate (1 + (k + 1)) (V.int (1 + (us.length : Int))))) ∧ Same H H', fun σ' H' q => ⟨us.length - (k + 1), by omega, .inr ⟨k + 1, hlt, rfl, q⟩⟩, ?_⟩
        refine ⟨_, rfl, .inl ⟨rfl, _, SqL.of ht⟩, _, rfl, _, rfl, t, _, _, us[k], rfl, rfl, SqL.of ht, hix, us[k], [], false, rfl, flat_hold hit (List.getElem?_eq_getElem hlt), fun p0 H30 np0 s30 hp0 => ⟨p0, _, rfl, .inl (SqL.of hp0), fun p np => ?_⟩⟩
        have s3 : Same H' (upd H30 p (.lst [])) := s30.trans (same_new np)
        have hp : upd H30 p (.lst []) p = some (.lst []) := upd_same
        generalize upd H30 p (.lst []) = H3 at s3 hp ⊢
        refine ⟨t, p, _, _, rfl, rfl, s3 _ _ ht, hp, z1000 (by show (v :: us).length + 0 ≤ 902; rw [List.length_cons]; omega), ?_⟩
        have he3 : upd H3 t (.lst ((v :: us) ++ [])) e = some (.lst (List.replicate (1 + k) (V.int (1 + (us.length : Int))))) := by rw [upd_ne te]; exact s3 _ _ he
        refine ⟨_, rfl, .inl ⟨rfl, _, SqL.of he3⟩, _, rfl, t, (v :: us) ++ [], rfl, .inl (SqL.of upd_same), e, _, _, rfl, rfl, he3, Nat.lt_of_lt_of_le (show (List.replicate (1 + k) (V.int (1 + (us.length : Int)))).length < 902 by rw [List.length_replicate]; omega) (z1000 (Nat.le_refl _)), ?_⟩
        refine ⟨_, rfl, _, _, rfl, rfl, ?_, ?_, ?_, fun b o q => ?_⟩
        · have e5 : (1 + (k : Int)) + 1 = 1 + ((k + 1 : Nat) : Int) := by omega
          show List.set _ 3 (some (V.int ((1 + (k : Int)) + 1))) = _
          rw [e5]; rfl
        · rw [upd_ne te.symm, upd_same, List.append_nil]
        · have e1 : ((((v :: us) ++ []).length : Nat) : Int) = 1 + (us.length : Int) := by rw [List.append_nil, List.length_cons]; omega
          rw [upd_same, e1, show 1 + (k + 1) = (1 + k) + 1 by omega, List.replicate_succ' (n := 1 + k)]
        · have e3 := s3 _ _ (sm _ _ q)
          rw [upd_ne (ne_of_none q nte), upd_ne (ne_of_none q nt)]
          exact e3
      · obtain rfl : k = us.length := by omega
        refine ⟨_, rfl, _, rfl, t, _, rfl, .inl (SqL.of ht), _, _, rfl, rfl, _, rfl, ite2 (fun z => absurd (of_decide_eq_true z) (show ¬ ((1 + (us.length : Int)) < (((v :: us).length : Nat) : Int)) by rw [List.length_cons]; omega)) (fun _ => ?_)⟩
        refine ⟨_, rfl, t, _, rfl, .inl (SqL.of ht), fun md nmd => ?_⟩
        have ht3 := same_new (o := .lst (v :: us)) nmd _ _ ht
        have he3 := same_new (o := .lst (v :: us)) nmd _ _ he
        have hm3 : upd H' md (.lst (v :: us)) md = some (.lst (v :: us)) := upd_same
        have sm3 := sm.trans (same_new (o := .lst (v :: us)) nmd)
        have nmH : H md = none := Same.gone sm nmd
        generalize upd H' md (.lst (v :: us)) = H3 at ht3 he3 hm3 sm3 ⊢
        refine ⟨_, rfl, t, rfl, ⟨_, SqL.of ht3⟩, fun D nD => ?_⟩
        refine lc_list (K := K) (a := t) (xs := v :: us) (fun i H' => H' D = some (.lst (((marks b us.length).take i).map V.bl)) ∧ But D H3 H') ⟨upd_same, But.upd_at⟩ (fun i H' _ q => SqL.of (q.2 _ _ (ne_of_none ht3 nD) ht3)) (fun i y H' hi ⟨e1, e2⟩ => ?_) (fun H' ⟨e1, e2⟩ => ?_)
        · have hil : i < us.length + 1 := (List.getElem?_eq_some_iff.mp hi).1
          obtain ⟨TT, r, hr1, ty, kit⟩ : ∃ (TT : String) (r : Bool), (marks b us.length)[i]? = some r ∧ (∀ (K : PySem.W.Frag) (G : Hp), Same H' G → TyX K G y (.type TT)) ∧ PySem.W.kitAny K (.type TT) [.type "list", .type "dict"] = some r := by
            cases i with
            | zero =>
              obtain rfl : v = y := Option.some.inj hi
              obtain ⟨TT, ty, b1, b2, b3, f1, f2, f3, eb⟩ := hh.ty
              refine ⟨TT, b, rfl, fun K G k => ty K G fun c o q => k _ _ (e2 _ _ (ne_of_none (sm3 _ _ q) nD) (sm3 _ _ q)), ?_⟩
              rw [eb]; exact kit_any2 f1 f3
            | succ j =>
              obtain ⟨TT, f⟩ := hit y (List.mem_of_getElem? (show us[j]? = some y from hi))
              exact ⟨TT, false, marks_at (by omega), fun K G _ => f.ty K G, kit_any2 f.l f.d⟩
          refine ⟨rfl, _, rfl, (by show 2 ≤ sizeLine; decide), fun tp ntp => ⟨y, tp, _, _, _, r, rfl, upd_same, .cons (.ty _) (.cons (.ty _) .nil), ty _ _ (same_new ntp), kit, _, same_new ntp _ _ e1, ?_, ?_, ?_⟩⟩
          · refine Nat.lt_of_lt_of_le (show _ < 902 from ?_) (z1000 (Nat.le_refl _))
            rw [List.length_map, List.length_take]; omega
          · rw [upd_same, List.take_add_one, hr1, List.map_append]; rfl
          · exact (e2.trans (Same.but (same_new ntp))).trans But.upd_at
        · have eM : (marks b us.length).take (v :: us).length = marks b us.length := by
            rw [List.take_of_length_le]
            show (List.replicate us.length false).length + 1 ≤ us.length + 1
            rw [List.length_replicate]; exact Nat.le_refl _
          rw [eM] at e1
          have s4 : Same H3 H' := fun b o q => e2 b o (ne_of_none q nD) q
          have ht4 := s4 _ _ ht3
          have he4 := s4 _ _ he3
          have hm4 := s4 _ _ hm3
          have s04 := sm3.trans s4
          have nDH : H D = none := Same.gone sm3 nD
          have lenI : ((((v :: us).length : Nat) : Int)) - 1 = (us.length : Int) := by rw [List.length_cons]; omega
          refine ⟨_, rfl, t, _, rfl, .inl (SqL.of ht4), _, _, rfl, rfl, _, rfl, _, rfl, (us.length : Int), -1, -1, us.length + 1, ?_, ?_, ?_⟩
          · show [V.int (((((v :: us).length : Nat) : Int)) - 1), V.int (-1), V.int (-1)] = _
            rw [lenI]
          · have h := RgC.neg (i := (us.length : Int)) (j := -1) (by omega) (by omega) (by decide) (by decide)
            rw [show ((us.length : Int) - -1).toNat = us.length + 1 by omega] at h
            exact h
          refine for_rangeC (lo := (us.length : Int)) (c := -1) (n := us.length + 1) (fun i σ H5 => (∃ v6 v7 v8 v9 : Option V, σ = [some v, some (.ref t), some (.ref e), some (.int (1 + (us.length : Int))), some (.ref md), some (.ref D), v6, v7, v8, v9]) ∧
            (i ≤ us.length → Same H' H5) ∧ (i = us.length + 1 → Same H H5 ∧ ∃ v', H5 md = some (.lst (v' :: us)) ∧ Alike H v H5 v')) ⟨⟨none, none, none, none, rfl⟩, fun _ => Same.refl _, fun z => by omega⟩ ?_ ?_
          · rintro i σ H5 hi ⟨⟨v6, v7, v8, v9, rfl⟩, u5, _⟩
            have s5 := u5 (by omega)
            clear u5
            have he5 := s5 _ _ he4
            have hD5 := s5 _ _ e1
            by_cases hlast : i = us.length
            · subst hlast
              have e0 : (us.length : Int) + ((us.length : Nat) : Int) * -1 = 0 := by omega
              rw [e0]
              refine ⟨_, rfl, _, _, rfl, rfl, _, rfl, ite2 (fun z => absurd (of_decide_eq_true z) (show ¬ ((0 : Int) < 0) by decide)) (fun _ => ?_)⟩
              refine ⟨_, rfl, _, rfl, e, _, _, _, rfl, rfl, SqL.of he5, atI_nat (j := 0) (ends_at (m := 1 + us.length) (by omega)), _, _, rfl, ?_⟩
              refine ⟨_, rfl, _, rfl, _, rfl, _, rfl, _, rfl, D, _, rfl, SqL.of hD5, fun sl nsl => ?_⟩
              have ecut : cutV ((marks b us.length).map V.bl) (some 1) (some (1 + (us.length : Int))) = (List.replicate us.length false).map V.bl := by
                have := cut_tail (x := V.bl b) (ys := (List.replicate us.length false).map V.bl)
                rw [List.length_map, List.length_replicate] at this
                exact this
              rw [ecut]
              refine ⟨sl, List.replicate us.length false, rfl, SqL.of upd_same, _, rfl, ?_⟩
              rw [any_none]
              refine iteF ?_
              have s6 := s5.trans (same_new (o := .lst ((List.replicate us.length false).map V.bl)) nsl)
              generalize upd H5 sl (.lst ((List.replicate us.length false).map V.bl)) = H6 at s6
              refine ⟨_, rfl, _, rfl, D, _, _, _, rfl, rfl, SqL.of (s6 _ _ e1), atI_nat (j := 0) rfl, _, rfl, ?_⟩
              cases b with
              | false => exact iteF ⟨⟨_, _, _, _, rfl⟩, fun z => by omega, fun _ => ⟨s04.trans s6, v, s6 _ _ hm4, .same⟩⟩
              | true =>
                refine iteT ⟨_, rfl, _, rfl, t, _, _, _, rfl, rfl, SqL.of (s6 _ _ ht4), atI_nat (j := 0) rfl, _, rfl, _, rfl, _, rfl, _, rfl, _, rfl, md, _, rfl, SqL.of (s6 _ _ hm4), fun q nq => ?_⟩
                rw [cut_tail]
                have s7 := s6.trans (same_new (o := .lst us) nq)
                have hq : upd H6 q (.lst us) q = some (.lst us) := upd_same
                generalize upd H6 q (.lst us) = H7 at s7 hq
                refine ⟨v, us, q, rfl, hh.keep (s04.trans s7), hq, fun v' H8 s8 al => ?_⟩
                have hm8 := s8 _ _ (s7 _ _ hm4)
                refine ⟨_, rfl, _, rfl, md, _, _, 0, rfl, rfl, hm8, ix_first, ?_⟩
                refine ⟨⟨_, _, _, _, rfl⟩, fun z => by omega, fun _ => ⟨fun c o z => ?_, v', upd_same, (al.from (s04.trans s7) us hh).put hh hm8 rfl⟩⟩
                rw [upd_ne (ne_of_none z nmH)]
                exact s8 _ _ (s7 _ _ (s04 _ _ z))
            · have hi2 : i < us.length := by omega
              obtain ⟨j, ej⟩ : ∃ j : Nat, us.length = i + j + 1 := ⟨us.length - i - 1, by omega⟩
              have e0 : (us.length : Int) + ((i : Nat) : Int) * -1 = ((j + 1 : Nat) : Int) := by omega
              rw [e0]
              have e9 : ((j + 1 : Nat) : Int) - 1 = ((j : Nat) : Int) := by omega
              refine ⟨_, rfl, _, _, rfl, rfl, _, rfl, ite2 (fun _ => ?_) (fun z => absurd (decide_eq_true (show (0 : Int) < ((j + 1 : Nat) : Int) by omega)) z)⟩
              have hfst : atI (List.replicate (1 + us.length) (V.int (1 + (us.length : Int)))) (((j + 1 : Nat) : Int) - 1) = some (V.int (1 + (us.length : Int))) := by
                rw [e9]
                exact atI_nat (ends_at (m := 1 + us.length) (by omega))
              refine ⟨_, rfl, _, rfl, _, _, rfl, rfl, e, _, _, V.int (1 + (us.length : Int)), rfl, rfl, SqL.of he5, hfst, ?_⟩
              refine ⟨_, rfl, _, rfl, e, _, _, _, rfl, rfl, SqL.of he5, atI_nat (j := j + 1) (ends_at (m := 1 + us.length) (by omega)), _, _, rfl, ?_⟩
              refine ⟨_, rfl, _, rfl, _, rfl, _, rfl, _, rfl, D, _, rfl, SqL.of hD5, fun sl nsl => ?_⟩
              rw [cut_void]
              refine ⟨sl, [], rfl, SqL.of upd_same, _, rfl, iteF ?_⟩
              refine ⟨_, rfl, _, rfl, D, _, _, _, rfl, rfl, SqL.of (same_new nsl _ _ hD5), atI_nat (j := j + 1) (show ((marks b us.length).map V.bl)[j + 1]? = some (V.bl false) by rw [List.getElem?_map, marks_at (by omega)]; rfl), _, rfl, iteF ?_⟩
              exact ⟨⟨_, _, _, _, rfl⟩, fun _ => s5.trans (same_new nsl), fun z => by omega⟩
          · rintro σ H5 ⟨⟨v6, v7, v8, v9, rfl⟩, _, s5⟩
            obtain ⟨s5, v', hm5, al⟩ := s5 rfl
            exact ⟨_, rfl, md, _, 0, v', rfl, rfl, SqL.of hm5, atI_nat (j := 0) rfl, kk _ H5 s5 al⟩
theorem ok_flat {f : Addr} {fd : FuncData} (F : Fun K "is_flat" "is_flat" sFlat f fd) (T : Blt mg) (md : mg "dict" = none) : FnOk P w K mg base CX0 2 f fd ["value"] spFlat := by
  refine F.ok scFlat (fun vs H Q E h => ?_) (fun cdv A outer s H vs Q E hr h => ?_)
  · obtain ⟨a, us, rfl, _⟩ := h
    rfl
  · obtain ⟨a, us, rfl, ha, af, hn, k⟩ := h
    refine ⟨_, pss_cons (ps_for PassesOwn.never rfl (pi_tup (pv 0)) (pg_name (i := 1) scFlat.nd rfl (.inl rfl))
        (pss_one (ps_if (pt_val (pe_callB call_isiT (by rfl) T.isi (by decide +kernel) (pa_cons (pv 1) (pa_cons (pe_tup (pa_cons (pe_bltn (v := .ty "list") (by rfl) T.list (by decide +kernel) rfl) (pa_cons (pe_bltn (v := .ty "tuple") (by rfl) T.tuple (by decide +kernel) rfl) (pa_cons (pe_bltn (v := .ty "dict") (by rfl) md (by decide +kernel) rfl) pa_nil)))) pa_nil)))) (pss_one ps_never) pss_nil)))
      (pss_one (ps_ret pe_bl)), ?_⟩
    refine ⟨_, rfl, a, rfl, ⟨_, SqT.of ha⟩, ?_⟩
    refine for_it (walk_tup (K := K) (a := a) (xs := us)) (fun i σ G => Same H G ∧ ∃ z, σ = [some (.ref a), z]) ⟨Same.refl _, _, rfl⟩ (fun i σ G _ h => SqT.of (h.1 _ _ ha)) (fun i v σ G2 G3 hi h y => ?_) (fun σ G h => ?_)
    · obtain ⟨s2, z, rfl⟩ := h
      obtain ⟨rfl, hx⟩ := y
      obtain ⟨TT, fl⟩ := af v (List.mem_of_getElem? hx)
      exact ⟨_, rfl, (by show 3 ≤ sizeLine; decide), fun tp ntp => ⟨v, tp, _, _, _, false, rfl, upd_same, .cons (.ty _) (.cons (.ty _) (.cons (.ty _) .nil)), fl.ty _ _, kit3 fl.l fl.t fl.d, _, rfl, iteF ⟨s2.trans (same_new ntp), _, rfl⟩⟩⟩
    · obtain ⟨s2, z, rfl⟩ := h
      exact k G s2
theorem ok_keptV {f : Addr} {fd : FuncData} (F : Fun K "kept" "kept" sKept f fd) (T : Blt mg) (md : mg "dict" = none) (D : Df P w K mg base 2 "is_flat" ["value"] spFlat) (D2 : Df P w K mg base 2 "copied_deep" ["value"] spKeptV) : FnOk P w K mg base CX0 3 f fd ["value"] spKeptV := by
  obtain ⟨f1, fd1, G1, g1, k1, b1⟩ := D.ex
  obtain ⟨f2, fd2, G2, g2, k2, b2⟩ := D2.ex
  refine F.ok scKept (fun vs H Q E h => ?_) (fun cdv A outer s H vs Q E hr h => ?_)
  · obtain ⟨v, us, b, rfl, _⟩ := h
    rfl
  · obtain ⟨v, us, b, rfl, hh, kk⟩ := h
    refine ⟨_, pss_cons (ps_if (pt_not (pt_val (pe_callB call_isiT (by rfl) T.isi (by decide +kernel) (pa_cons (pv 0) (pa_cons (pe_tup (pa_cons (pe_bltn (v := .ty "list") (by rfl) T.list (by decide +kernel) rfl) (pa_cons (pe_bltn (v := .ty "tuple") (by rfl) T.tuple (by decide +kernel) rfl) (pa_cons (pe_bltn (v := .ty "dict") (by rfl) md (by decide +kernel) rfl) pa_nil)))) pa_nil))))) (pss_one (ps_ret (pv 0))) pss_nil)
      (pss_cons (ps_if (PW.pt (pw_and (pt_val (pe_callB call_isi (by rfl) T.isi (by decide +kernel) (pa_cons (pv 0) (pa_cons (pe_bltn (v := .ty "tuple") (by rfl) T.tuple (by decide +kernel) rfl) pa_nil)))) (pw_and1 (pt_val (pe_call G1 hr (by rfl) g1 k1 b1 .nil pass0 (pa_cons (pv 0) pa_nil)))))) (pss_one (ps_ret (pv 0))) pss_nil)
      (pss_one (ps_ret (pe_call G2 hr (by rfl) g2 k2 b2 .nil pass0 (pa_cons (pv 0) pa_nil))))), ?_⟩
    cases hh with
    | @flat v TT fl =>
      refine ⟨_, rfl, (by show 3 ≤ sizeLine; decide), fun tp ntp => ⟨v, tp, _, _, _, false, rfl, upd_same, .cons (.ty _) (.cons (.ty _) (.cons (.ty _) .nil)), fl.ty _ _, kit3 fl.l fl.t fl.d, _, rfl, iteT ⟨_, rfl, ?_⟩⟩⟩
      exact kk _ _ (same_new ntp) .same
    | @tup a us e al l =>
      refine ⟨_, rfl, (by show 3 ≤ sizeLine; decide), fun tp ntp => ⟨_, tp, _, _, _, true, rfl, upd_same, .cons (.ty _) (.cons (.ty _) (.cons (.ty _) .nil)), .base (.tup (same_new ntp _ _ e)), kit_any3 (r1 := false) (r2 := true) (r3 := false) (by decide +kernel) (by decide +kernel) (by decide +kernel), _, rfl, iteF ?_⟩⟩
      have e1 := same_new (o := .tup [.ty "list", .ty "tuple", .ty "dict"]) ntp _ _ e
      refine ⟨_, rfl, _, _, _, _, true, rfl, .ty _, .base (.tup e1), kit_ty (by decide +kernel), _, rfl, iteT ?_⟩
      refine ⟨_, rfl, a, us, rfl, e1, al, l, fun H' s' => ⟨_, rfl, iteT ⟨_, rfl, ?_⟩⟩⟩
      exact kk _ _ ((same_new ntp).trans s') .same
    | @lst a us e al l =>
      refine ⟨_, rfl, (by show 3 ≤ sizeLine; decide), fun tp ntp => ⟨_, tp, _, _, _, true, rfl, upd_same, .cons (.ty _) (.cons (.ty _) (.cons (.ty _) .nil)), .base (.lst (same_new ntp _ _ e)), kit_any3 (r1 := true) (r2 := false) (r3 := false) (by decide +kernel) (by decide +kernel) (by decide +kernel), _, rfl, iteF ?_⟩⟩
      have s1 := same_new (H := H) (o := .tup [.ty "list", .ty "tuple", .ty "dict"]) ntp
      have e1 := s1 _ _ e
      refine ⟨_, rfl, _, _, _, _, false, rfl, .ty _, .base (.lst e1), kit_ty (by decide +kernel), _, rfl, iteF ?_⟩
      refine ⟨_, rfl, _, us, true, rfl, (Hold.lst e1 al l), fun v' H' s' al' => ?_⟩
      exact kk _ _ (s1.trans s') (al'.from s1 us (.lst e al l))
    | @dct a kvs e al l nd =>
      refine ⟨_, rfl, (by show 3 ≤ sizeLine; decide), fun tp ntp => ⟨_, tp, _, _, _, true, rfl, upd_same, .cons (.ty _) (.cons (.ty _) (.cons (.ty _) .nil)), .base (.dK (same_new ntp _ _ e)), kit_any3 (r1 := false) (r2 := false) (r3 := true) (by decide +kernel) (by decide +kernel) (by decide +kernel), _, rfl, iteF ?_⟩⟩
      have s1 := same_new (H := H) (o := .tup [.ty "list", .ty "tuple", .ty "dict"]) ntp
      have e1 := s1 _ _ e
      refine ⟨_, rfl, _, _, _, _, false, rfl, .ty _, .base (.dK e1), kit_ty (by decide +kernel), _, rfl, iteF ?_⟩
      refine ⟨_, rfl, _, _, true, rfl, (Hold.dct e1 al l nd), fun v' H' s' al' => ?_⟩
      exact kk _ _ (s1.trans s') (al'.from s1 _ (.dct e al l nd))
end
end Ev2
namespace Ev2
open Ev
open PySem L2 PySem.Spec PyProof.Rows RZ
abbrev sBNInit : Stmt := sBadNumber_init
/-- a contract with a lesser promise -/
theorem FnOk.less {P : Program} {w : World} {K : PySem.W.Frag} {mg : Str → Option Value} {base : Heap} {CX : CXT} {k : Nat} {f : Addr} {fd : FuncData} {ps : List Str} {sp sp' : Sp}
    (F : FnOk P w K mg base CX k f fd ps sp) (h : ∀ vs H Q E, sp' vs H Q E → sp vs H Q E) : FnOk P w K mg base CX k f fd ps sp' :=
  ⟨fun vs H Q E t => F.len vs H Q E (h _ _ _ _ t), fun A above s H args us vs Q E hr env bt rv t => F.run A above s H args us vs Q E hr env bt rv (h _ _ _ _ t)⟩
/-- .. of a call that raises nothing -/
theorem FnOk.calm {P : Program} {w : World} {K : PySem.W.Frag} {mg : Str → Option Value} {base : Heap} {k : Nat} {f : Addr} {fd : FuncData} {ps : List Str} {sp sp' : Sp}
    (F : FnOk P w K mg base (L2.CX P w) k f fd ps sp) (h : ∀ vs H Q E, sp' vs H Q E → sp vs H Q fun _ _ _ => False) : FnOk P w K mg base CX0 k f fd ps sp' := by
  constructor
  · exact fun vs H Q E t => F.len vs H Q _ (h _ _ _ _ t)
  · intro A above s H args us vs Q E hr env bt rv t
    refine codeAny_mono (F.run A above s H args us vs Q _ hr env bt rv (h _ _ _ _ t)) fun r s2 q => ?_
    cases r with
    | error e =>
      obtain ⟨_, _, _, _, _, _, _, _, _, _, _, _, z⟩ := q
      exact z.elim
    | ok fl =>
      cases fl with
      | ret u => exact q
      | next => exact q
      | brk => exact q
      | cont => exact q
/-- an error's field -/
def Told (C : Addr) (n : Str) (H : Hp) (v : V) (E : XK) : Prop := ∀ (d : Addr) (v' : V) (H' : Hp), Same H H' → H d = none → H' d = some (.xd [(n, v')]) → Alike H v H' v' → E (.ref C) (some d) H'
def spExInit (C : Addr) (n : Str) : Sp := fun vs H Q _ => ∃ (a : Addr) (v : V) (us : List V) (b : Bool), vs = [.ref a, v] ∧ H a = some (exo a C none) ∧ Hold H v us b ∧
  ∀ (d : Addr) (v' : V) (H' : Hp), H d = none → H' a = some (exo a C (some d)) → H' d = some (exd d [(n, v')]) → (∀ b o, b ≠ a → H b = some o → H' b = some o) → Alike H v H' v' → Q .non H'
theorem Alike.on {H G G' : Hp} {v v' : V} (h : Alike H v G v') (k1 : ∀ b xs, G b = some (.lst xs) → G' b = some (.lst xs)) (k2 : ∀ b kvs, G b = some (.dK kvs) → G' b = some (.dK kvs)) : Alike H v G' v' := by
  cases h with
  | same => exact .same
  | lst e1 e2 => exact .lst e1 (k1 _ _ e2)
  | dct e1 e2 => exact .dct e1 (k2 _ _ e2)
theorem exo_lst {a C : Addr} {d : Option Addr} {xs : List V} : exo a C d ≠ .lst xs := fun z => by
  have z : HO.ext _ = HO.lst xs := z
  cases z
theorem exo_dK {a C : Addr} {d : Option Addr} {xs : List (Key × V)} : exo a C d ≠ .dK xs := fun z => by
  have z : HO.ext _ = HO.dK xs := z
  cases z
theorem exd_lst {a : Addr} {d : List (Str × V)} {xs : List V} : exd a d ≠ .lst xs := fun z => by
  have z : HO.ext _ = HO.lst xs := z
  cases z
theorem exd_dK {a : Addr} {d : List (Str × V)} {xs : List (Key × V)} : exd a d ≠ .dK xs := fun z => by
  have z : HO.ext _ = HO.dK xs := z
  cases z
/-- an error class of the package with one field n -/
structure ErrV (P : Program) (w : World) (K : PySem.W.Frag) (mg : Str → Option Value) (base : Heap) (x n : Str) (C : Addr) : Prop where
  cl : OexC K C
  g : mg x = some (.ref C)
  ex : ∃ (f : Addr) (fd : FuncData), PySem.W.findIn K (.ref C) "__init__" = some (some (.ref f)) ∧ PySem.W.typeIn K (.ref f) = some (.type "function") ∧ FnOk P w K mg base CX0 4 f fd ["self", n] (spExInit C n) ∧ Binds K fd ["self", n] []
section
variable {P : Program} {w : World} {K : PySem.W.Frag} {mg : Str → Option Value} {base : Heap}
theorem scBN : FnScope ["self", "value"] ["self", "value"] (defScope sBNInit) := ⟨rfl, rfl, rfl, by decide +kernel, rfl, by decide +kernel, by decide +kernel⟩
theorem ok_bn {f C : Addr} {fd : FuncData} (F : Fun K "__init__" "BadNumber.__init__" sBNInit f fd) (T : OexC K C) (no : PySem.W.findIn K (.ref C) "value" = some none) (D : Df P w K mg base 3 "kept" ["value"] spKeptV) : FnOk P w K mg base CX0 4 f fd ["self", "value"] (spExInit C "value") := by
  obtain ⟨f1, fd1, G1, g1, k1, b1⟩ := D.ex
  refine F.ok scBN (fun vs H Q E h => ?_) (fun cdv A outer s H vs Q E hr h => ?_)
  · obtain ⟨a, v, us, b, rfl, _⟩ := h
    rfl
  · obtain ⟨a, v, us, b, rfl, ha, hv, kk⟩ := h
    refine ⟨_, pss_one (ps_ost (pv 0) (pe_call G1 hr (by rfl) g1 k1 b1 .nil pass0 (pa_cons (pv 1) pa_nil))), ?_⟩
    refine ⟨_, rfl, v, us, b, rfl, hv, fun v' H1 s1 al => ⟨_, rfl, a, C, rfl, T, no, .inl ⟨s1 _ _ ha, fun dx nd dne => ?_⟩⟩⟩
    refine kk dx v' _ (s1.free nd) upd_same (by rw [upd_ne dne]; exact upd_same) (fun b o nb e => ?_) (al.on (fun b xs e => ?_) (fun b xs e => ?_))
    · rw [upd_ne nb, upd_ne (ne_of_none (s1 _ _ e) nd)]
      exact s1 _ _ e
    · have nb : b ≠ a := fun z => by rw [z, s1 _ _ ha] at e; exact exo_lst (Option.some.inj e)
      rw [upd_ne nb, upd_ne (ne_of_none e nd)]; exact e
    · have nb : b ≠ a := fun z => by rw [z, s1 _ _ ha] at e; exact exo_dK (Option.some.inj e)
      rw [upd_ne nb, upd_ne (ne_of_none e nd)]; exact e
/-- what the raising of such an error comes to -/
theorem raisedV {C : Addr} {n : Str} {H : Hp} {v : V} {E : XK} (hv : ∃ us b, Hold H v us b) (k : Told C n H v E) (a' : Addr) (na : H a' = none) :
    spExInit C n [.ref a', v] (upd H a' (exo a' C none)) (fun v' H2 => v' = .non ∧ ∃ (d : Addr) (fs : List (Str × V)), H2 a' = some (exo a' C (some d)) ∧ H2 d = some (exd d fs) ∧ H d = none ∧ E (.ref C) (some d) (upd (del H2 a') d (.xd fs))) (fun _ _ _ => False) := by
  obtain ⟨us, b, hv⟩ := hv
  refine ⟨a', v, us, b, rfl, upd_same, hv.keep (same_new na), fun d v' H' nd ha' hd bt al => ⟨rfl, d, _, ha', hd, ?_, ?_⟩⟩
  · have dne : d ≠ a' := fun z => by rw [z, upd_same] at nd; cases nd
    rw [upd_ne dne] at nd
    exact nd
  · have dne : d ≠ a' := fun z => by rw [z, upd_same] at nd; cases nd
    rw [upd_ne dne] at nd
    have hkeep : ∀ b o, H b = some o → upd (del H' a') d (.xd [(n, v')]) b = some o := fun b o e => by
      rw [upd_ne (ne_of_none e nd), del_ne (ne_of_none e na)]
      exact bt b o (ne_of_none e na) (by rw [upd_ne (ne_of_none e na)]; exact e)
    refine k d v' _ hkeep nd upd_same ?_
    have al2 : Alike H v H' v' := by
      cases al with
      | same => exact .same
      | lst e1 e2 =>
        rename_i a b us
        refine .lst ?_ e2
        have nb : a ≠ a' := fun z => by rw [z, upd_same] at e1; exact exo_lst (Option.some.inj e1)
        rw [upd_ne nb] at e1; exact e1
      | dct e1 e2 =>
        rename_i a b us
        refine .dct ?_ e2
        have nb : a ≠ a' := fun z => by rw [z, upd_same] at e1; exact exo_dK (Option.some.inj e1)
        rw [upd_ne nb] at e1; exact e1
    refine al2.on (fun b xs e => ?_) (fun b xs e => ?_)
    · have n1 : b ≠ a' := fun z => by rw [z, ha'] at e; exact exo_lst (Option.some.inj e)
      have n2 : b ≠ d := fun z => by rw [z, hd] at e; exact exd_lst (Option.some.inj e)
      rw [upd_ne n2, del_ne n1]; exact e
    · have n1 : b ≠ a' := fun z => by rw [z, ha'] at e; exact exo_dK (Option.some.inj e)
      have n2 : b ≠ d := fun z => by rw [z, hd] at e; exact exd_dK (Option.some.inj e)
      rw [upd_ne n2, del_ne n1]; exact e
end
end Ev2
namespace Ev
open PySem L2 PySem.Spec PyProof.Rows RZ
theorem cut3 (a b c : V) (xs : List V) : cutV (a :: b :: c :: xs) none (some 3) = [a, b, c] := by
  unfold cutV
  have h1 : HT.sIx (a :: b :: c :: xs).length 0 none = 0 := rfl
  have h2 : HT.sIx (a :: b :: c :: xs).length (a :: b :: c :: xs).length (some ((3 : Nat) : Int)) = min 3 (a :: b :: c :: xs).length := HT.sIx_nat _ _ 3
  rw [h1, show (3 : Int) = ((3 : Nat) : Int) from rfl, h2]
  simp
theorem lt6 {x : Int} : (if x < 6 then x else 6) = min x 6 := by
  by_cases h : x < 6
  · rw [if_pos h]; omega
  · rw [if_neg h]; omega
def spNumsL : Sp := fun vs H Q _ => ∃ (p L : Addr) (B : Int), vs = [.ref p] ∧ B ≤ 900000 ∧ Pen L H p B ∧
  ∀ (a : Addr) (p' q k t s c : Int) (H' : Hp), okN p' q k → okT t s c → H a = none → H' a = some (.tup (Row.tn p' q k t s c).vs) → But p H H' → Pen L H' p (B + 9) → Q (.ref a) H'
section
variable {P : Program} {w : World} {K : PySem.W.Frag} {mg : Str → Option Value} {base : Heap}
theorem scNums : FnScope ["_law_pen_here", "_law_q", "_law_p", "_law_k", "_law_s", "_law_t"] ["_law_pen_here"] (defScope sLNumbers) := ⟨rfl, rfl, rfl, by decide +kernel, rfl, by decide +kernel, by decide +kernel⟩
theorem mem_int {xs : List V} {d : V} {lo hi : Int} (h : d ∈ xs) (a : ∀ x ∈ xs, ∃ n, x = .int n ∧ lo ≤ n ∧ n ≤ hi) : ∃ n, d = .int n ∧ lo ≤ n ∧ n ≤ hi := a d h
theorem ok_nums {f : Addr} {fd : FuncData} (F : Fun K "_law_numbers" "_law_numbers" sLNumbers f fd) (T : Blt mg) (D1 : Df P w K mg base 1 "_law_draw" ["_law_pen_here", "_law_many"] spDraw) (D2 : Df P w K mg base 2 "_law_pick" ["_law_pen_here", "_law_some"] spPick) :
    FnOk P w K mg base CX0 3 f fd ["_law_pen_here"] spNumsL := by
  obtain ⟨f1, fd1, G1, g1, k1, b1⟩ := D1.ex
  obtain ⟨f2, fd2, G2, g2, k2, b2⟩ := D2.ex
  refine F.ok scNums (fun vs H Q E h => ?_) (fun cdv A outer s H vs Q E hr h => ?_)
  · obtain ⟨p, L, B, rfl, _⟩ := h
    rfl
  · obtain ⟨p, L, B, rfl, hB, hp, kk⟩ := h
    have hr1 : Room 1 _ := hr.mono (by decide)
    refine ⟨_, (pss_cons (ps_set (i := 1) scNums.nd rfl (.inl rfl) (pe_op op_add pe_int (pe_call G1 hr1 (by rfl) g1 k1 b1 .nil pass0 (pa_cons (pv 0) (pa_cons pe_int pa_nil)))))
    (pss_cons (ps_set (i := 2) scNums.nd rfl (.inl rfl) (pe_callB (call_min2 rfl) (by rfl) T.min (by decide +kernel) (pa_cons pe_int (pa_cons (pe_op op_add (pv 1) (pe_call G1 hr1 (by rfl) g1 k1 b1 .nil pass0 (pa_cons (pv 0) (pa_cons (pe_op op_add pe_int (pe_op op_mul pe_int (pv 1))) pa_nil)))) pa_nil))))
    (pss_cons (ps_set (i := 3) scNums.nd rfl (.inl rfl) (pe_call G2 hr (by rfl) g2 k2 b2 .nil pass0 (pa_cons (pv 0) (pa_cons (pe_lst (pa_cons pe_int (pa_cons pe_int (pa_cons pe_int (pa_cons (pe_op op_sub (pe_call G1 hr1 (by rfl) g1 k1 b1 .nil pass0 (pa_cons (pv 0) (pa_cons pe_int pa_nil))) pe_int) (pa_cons pe_int (pa_cons (pe_un un_neg pe_int) pa_nil))))))) pa_nil))))
    (pss_cons (ps_if (pt_cmpR op_lt (pe_op op_add (pv 2) (pv 3)) (pe_op op_mul pe_int (pv 1)) (nomark _))
      (pss_one (ps_set (i := 3) scNums.nd rfl (.inl rfl) (pe_op op_sub (pe_op op_mul pe_int (pv 1)) (pv 2)))) pss_nil)
    (pss_cons (ps_set (i := 4) scNums.nd rfl (.inl rfl) (pe_op op_add pe_int (pe_call G1 hr1 (by rfl) g1 k1 b1 .nil pass0 (pa_cons (pv 0) (pa_cons pe_int pa_nil)))))
    (pss_cons (ps_set (i := 5) scNums.nd rfl (.inl rfl) (pe_callB (call_min2 rfl) (by rfl) T.min (by decide +kernel) (pa_cons pe_int (pa_cons (pe_op op_add (pv 4) (pe_call G1 hr1 (by rfl) g1 k1 b1 .nil pass0 (pa_cons (pv 0) (pa_cons (pe_op op_add (pe_op op_mul pe_int (pv 4)) pe_int) pa_nil)))) pa_nil))))
    (pss_one (ps_ret (pe_tup (pa_cons (pv 2) (pa_cons (pv 1) (pa_cons (pe_callB (call_min2 rfl) (by rfl) T.min (by decide +kernel) (pa_cons pe_int (pa_cons (pv 3) pa_nil))) (pa_cons (pv 5) (pa_cons (pv 4) (pa_cons (pe_call G2 hr (by rfl) g2 k2 b2 .nil pass0 (pa_cons (pv 0) (pa_cons (pe_lst (pa_cons pe_int (pa_cons (pe_un un_neg pe_int) (pa_cons (pe_un un_neg (pv 4)) (pa_cons (pe_op op_sub (pe_call G1 hr1 (by rfl) g1 k1 b1 .nil pass0 (pa_cons (pv 0) (pa_cons pe_int pa_nil))) pe_int) pa_nil))))) pa_nil))) pa_nil))))))))))))))), ?_⟩
    refine ⟨_, rfl, p, L, _, B, rfl, by decide, by decide, by omega, hp, fun d1 H1 t1 p1 a1 c1 => ⟨_, _, rfl, rfl, ?_⟩⟩
    refine ⟨_, rfl, _, rfl, _, rfl, _, _, rfl, rfl, .inl ⟨by decide, by decide⟩, _, _, rfl, rfl, p, L, _, _, rfl, by omega, by omega, by omega, p1, fun d2 H2 t2 p2 a2 c2 => ⟨_, _, rfl, rfl, _, _, rfl, ?_⟩⟩
    have t02 := t1.trans t2
    obtain ⟨pp, hpp, pp1, pp2⟩ : ∃ pp : Int, (if 1 + d1 + d2 < 6 then 1 + d1 + d2 else 6) = pp ∧ 1 + d1 ≤ pp ∧ pp ≤ 6 := by
      refine ⟨_, rfl, ?_, ?_⟩ <;> split <;> omega
    rw [hpp]
    refine ⟨_, rfl, _, rfl, p, L, _, _, rfl, by decide, by decide, by omega, p2, fun d3 H3 t3 p3 a3 c3 => ⟨_, _, rfl, rfl, _, rfl, (by show 6 ≤ sizeLine; decide), fun l hl => ⟨p, l, L, _, _, rfl, upd_same, p3.ne hl, (by show 1 ≤ 6; decide), (by show 6 ≤ 1000; decide), by omega, p3.new hl, fun kv H4 m4 t4 p4 => ?_⟩⟩⟩
    obtain ⟨k0, rfl, k1', k2'⟩ : ∃ k0 : Int, kv = .int k0 ∧ -6 ≤ k0 ∧ k0 ≤ 6 := by
      simp only [List.mem_cons, List.not_mem_nil, or_false] at m4
      rcases m4 with e | e | e | e | e | e
      · exact ⟨_, e, by decide, by decide⟩
      · exact ⟨_, e, by decide, by decide⟩
      · exact ⟨_, e, by decide, by decide⟩
      · exact ⟨_, e, by omega, by omega⟩
      · exact ⟨_, e, by decide, by decide⟩
      · exact ⟨_, e, by decide, by decide⟩
    have t04 : But p H H4 := t02.trans (t3.trans ((Same.but (same_new hl)).trans t4))
    refine ⟨_, rfl, _, rfl, _, _, rfl, rfl, _, rfl, _, _, rfl, rfl, .inl ⟨by decide, by decide⟩, _, _, rfl, rfl, _, rfl, ite2 (fun e => ?_) (fun e => ?_)⟩
    · have e := of_decide_eq_true e
      refine ⟨_, rfl, _, _, rfl, rfl, .inl ⟨by decide, by decide⟩, _, rfl, _, _, rfl, rfl, ?_⟩
      refine ⟨_, rfl, p, L, _, _, rfl, by decide, by decide, by omega, p4, fun d5 H5 t5 p5 a5 c5 => ⟨_, _, rfl, rfl, ?_⟩⟩
      refine ⟨_, rfl, _, rfl, _, rfl, _, _, rfl, rfl, .inl ⟨by decide, by decide⟩, _, _, rfl, rfl, p, L, _, _, rfl, by omega, by omega, by omega, p5, fun d6 H6 t6 p6 a6 c6 => ⟨_, _, rfl, rfl, _, _, rfl, ?_⟩⟩
      obtain ⟨tt, htt, tt1, tt2⟩ : ∃ tt : Int, (if 1 + d5 + d6 < 8 then 1 + d5 + d6 else 8) = tt ∧ 1 ≤ tt ∧ tt ≤ 8 := by
        refine ⟨_, rfl, ?_, ?_⟩ <;> split <;> omega
      rw [htt]
      refine ⟨_, rfl, _, rfl, _, rfl, _, _, rfl, _, rfl, _, rfl, _, rfl, _, rfl, _, rfl, _, rfl, _, rfl, p, L, _, _, rfl, by decide, by decide, by omega, p6, fun d7 H7 t7 p7 a7 c7 => ⟨_, _, rfl, rfl, (by show 4 ≤ sizeLine; decide), fun l2 hl2 => ⟨p, l2, L, _, _, rfl, upd_same, p7.ne hl2, (by show 1 ≤ 4; decide), (by show 4 ≤ 1000; decide), by omega, p7.new hl2, fun cv H8 m8 t8 p8 => ⟨(by show 6 ≤ sizeLine; decide), fun a na => ?_⟩⟩⟩⟩
      obtain ⟨c0, rfl, c1', c2'⟩ : ∃ c0 : Int, cv = .int c0 ∧ -6 ≤ c0 ∧ c0 ≤ 6 := by
        simp only [List.mem_cons, List.not_mem_nil, or_false] at m8
        rcases m8 with e | e | e | e
        · exact ⟨_, e, by decide, by decide⟩
        · exact ⟨_, e, by decide, by decide⟩
        · exact ⟨_, e, by omega, by omega⟩
        · exact ⟨_, e, by omega, by omega⟩
      have t08 : But p H H8 := t04.trans (((t5.trans t6).trans t7).trans ((Same.but (same_new hl2)).trans t8))
      refine kk a _ _ _ _ _ _ _ ?_ ?_ (t08.free p8 na) upd_same (t08.trans (Same.but (same_new na))) ((p8.new na).mono (by omega))
      · refine ⟨by omega, by omega, by omega, ?_, ?_, ?_⟩ <;> split <;> omega
      · exact ⟨⟨by omega, by omega⟩, ⟨by omega, by omega⟩, by omega, by omega⟩
    · have e : ¬ (pp + k0 < 2 * (1 + d1)) := fun z => e (decide_eq_true z)
      refine ⟨_, rfl, p, L, _, _, rfl, by decide, by decide, by omega, p4, fun d5 H5 t5 p5 a5 c5 => ⟨_, _, rfl, rfl, ?_⟩⟩
      refine ⟨_, rfl, _, rfl, _, rfl, _, _, rfl, rfl, .inl ⟨by decide, by decide⟩, _, _, rfl, rfl, p, L, _, _, rfl, by omega, by omega, by omega, p5, fun d6 H6 t6 p6 a6 c6 => ⟨_, _, rfl, rfl, _, _, rfl, ?_⟩⟩
      obtain ⟨tt, htt, tt1, tt2⟩ : ∃ tt : Int, (if 1 + d5 + d6 < 8 then 1 + d5 + d6 else 8) = tt ∧ 1 ≤ tt ∧ tt ≤ 8 := by
        refine ⟨_, rfl, ?_, ?_⟩ <;> split <;> omega
      rw [htt]
      refine ⟨_, rfl, _, rfl, _, rfl, _, _, rfl, _, rfl, _, rfl, _, rfl, _, rfl, _, rfl, _, rfl, _, rfl, p, L, _, _, rfl, by decide, by decide, by omega, p6, fun d7 H7 t7 p7 a7 c7 => ⟨_, _, rfl, rfl, (by show 4 ≤ sizeLine; decide), fun l2 hl2 => ⟨p, l2, L, _, _, rfl, upd_same, p7.ne hl2, (by show 1 ≤ 4; decide), (by show 4 ≤ 1000; decide), by omega, p7.new hl2, fun cv H8 m8 t8 p8 => ⟨(by show 6 ≤ sizeLine; decide), fun a na => ?_⟩⟩⟩⟩
      obtain ⟨c0, rfl, c1', c2'⟩ : ∃ c0 : Int, cv = .int c0 ∧ -6 ≤ c0 ∧ c0 ≤ 6 := by
        simp only [List.mem_cons, List.not_mem_nil, or_false] at m8
        rcases m8 with e | e | e | e
        · exact ⟨_, e, by decide, by decide⟩
        · exact ⟨_, e, by decide, by decide⟩
        · exact ⟨_, e, by omega, by omega⟩
        · exact ⟨_, e, by omega, by omega⟩
      have t08 : But p H H8 := t04.trans (((t5.trans t6).trans t7).trans ((Same.but (same_new hl2)).trans t8))
      refine kk a _ _ _ _ _ _ _ ?_ ?_ (t08.free p8 na) upd_same (t08.trans (Same.but (same_new na))) ((p8.new na).mono (by omega))
      · refine ⟨by omega, by omega, by omega, ?_, ?_, ?_⟩ <;> split <;> omega
      · exact ⟨⟨by omega, by omega⟩, ⟨by omega, by omega⟩, by omega, by omega⟩
end
end Ev
namespace Ev
open PySem L2 PySem.Spec PyProof.Rows RZ
/-- a row of three or of six numbers -/
def spRule3 (Ct Cn : Addr) : Sp := fun vs H Q _ => ∃ (l : Addr) (row : Row), vs = [.ref l] ∧ H l = some (.tup row.vs) ∧ row.ok ∧ ∀ (r : Addr) (H' : Hp), Same H H' → ObjAt Ct Cn H' r row → Q (.ref r) H'
section
variable {P : Program} {w : World} {K : PySem.W.Frag} {mg : Str → Option Value} {base : Heap}
theorem scRule : FnScope ["_law_some", "_law_p", "_law_q", "_law_k"] ["_law_some"] (defScope sLRule) := ⟨rfl, rfl, rfl, by decide +kernel, rfl, by decide +kernel, by decide +kernel⟩
theorem ok_rule {f Ct Cn fT fN : Addr} {fd fdT fdN : FuncData} {g : List Value → List Value → List Value} (F : Fun K "_law_rule" "_law_rule" sLRule f fd) (T : Blt mg) (gT : mg "TryRule" = some (.ref Ct)) (gN : mg "TurnRule" = some (.ref Cn)) (MT : Mk K Ct fT) (MN : Mk K Cn fN)
    (GT : FnOk P w K mg base CX0 6 fT fdT ["self", "times", "plus"] (spTryInit Ct)) (bT : Binds K fdT ["self", "times", "plus"] [])
    (GN : FnOk P w K mg base CX0 6 fN fdN ["self", "times", "plus", "turn", "turn_plus"] (spTurnInit Cn)) (bN : KBn K fdN ["self", "times", "plus", "turn", "turn_plus"] 3 ["turn", "turn_plus"] g (fun vs zs => vs ++ zs)) :
    FnOk P w K mg base CX0 8 f fd ["_law_some"] (spRule3 Ct Cn) := by
  refine F.ok scRule (fun vs H Q E h => ?_) (fun cdv A outer s H vs Q E hr h => ?_)
  · obtain ⟨l, row, rfl, _⟩ := h
    rfl
  · obtain ⟨l, row, rfl, hl, ok, kk⟩ := h
    refine ⟨_, (pss_cons (ps_asg (pe_slice sl_tupA (pv 0) po_none (po_some pe_int)) (pg_tup (by rfl) (pgs_cons (pg_name (i := 1) scRule.nd rfl (.inl rfl)) (pgs_cons (pg_name (i := 2) scRule.nd rfl (.inl rfl)) (pgs_cons (pg_name (i := 3) scRule.nd rfl (.inl rfl)) pgs_nil)))))
    (pss_cons (ps_if (pt_cmpR op_eq (pe_callB call_len_seq (by rfl) T.len PySem.boot_len (pa_cons (pv 0) pa_nil)) pe_int (nomark _))
      (pss_one (ps_ret (pe_make MT GT (hr.mono (by decide)) (by rfl) gT bT .nil pass0 (pa_cons (pe_tup (pa_cons (pv 1) (pa_cons (pv 2) pa_nil))) (pa_cons (pv 3) pa_nil))))) pss_nil)
    (pss_one (ps_ret (pe_makeN (n := 2) MN GN (hr.mono (by decide)) (by rfl) gN bN pass0 (pa_cons (pe_tup (pa_cons (pv 1) (pa_cons (pv 2) pa_nil))) (pa_cons (pv 3) pa_nil)) (pk_cons (pe_tup (pa_cons (pe_ix ix_tup (pv 0) pe_int (fun _ _ => rfl)) (pa_cons (pe_ix ix_tup (pv 0) pe_int (fun _ _ => rfl)) pa_nil))) (pk_cons (pe_ix ix_tup (pv 0) pe_int (fun _ _ => rfl)) pk_nil))))))), ?_⟩
    refine ⟨_, rfl, _, rfl, slA_any hl fun l' H1 s1 hl' => ?_⟩
    have hl1 := s1 _ _ hl
    cases row with
    | tr p q k =>
      obtain ⟨o1, o2, o3, o4, o5, o6⟩ := ok
      rw [show cutV (Row.tr p q k).vs none (some 3) = [.int p, .int q, .int k] from cut3 _ _ _ []] at hl'
      refine ⟨l', _, rfl, SqT.of hl', rfl, _, _, rfl, _, _, rfl, _, _, rfl, rfl, ?_⟩
      refine ⟨_, rfl, l, _, rfl, .inr (SqT.of hl1), rfl, _, rfl, ?_⟩
      refine iteT ⟨_, rfl, _, rfl, (by show 2 ≤ sizeLine; decide), fun tp ntp => ⟨_, rfl, fun x dx nx ndx nex => ?_⟩⟩
      have f1 : upd H1 tp (.tup [.int p, .int q]) tp = some (.tup [.int p, .int q]) := upd_same
      have s2 : Same H (upd H1 tp (.tup [.int p, .int q])) := s1.trans (same_new ntp)
      generalize upd H1 tp (.tup [.int p, .int q]) = H2 at f1 s2 nx ndx ⊢
      have keep : ∀ (o1 o2 : HO) (b : Addr) (u : HO), H2 b = some u → upd (upd H2 dx o1) x o2 b = some u := fun o1 o2 b u e => by
        rw [upd_ne (ne_of_none e nx), upd_ne (ne_of_none e ndx)]; exact e
      refine ⟨x, dx, tp, p, q, k, rfl, upd_same, keep _ _ _ _ f1, o1, o2, o3, o4, o5, o6, fun H3 t3 hx3 => ⟨rfl, ?_⟩⟩
      have s3 : ∀ b u, H2 b = some u → H3 b = some u := fun b u e => t3 _ _ (ne_of_none e nx) (keep _ _ _ _ e)
      exact kk x H3 (fun b u e => s3 _ _ (s2 _ _ e)) ⟨dx, tp, hx3, s3 _ _ f1⟩
    | tn p q k t s' c =>
      obtain ⟨⟨o1, o2, o3, o4, o5, o6⟩, ot⟩ := ok
      rw [show cutV (Row.tn p q k t s' c).vs none (some 3) = [.int p, .int q, .int k] from cut3 _ _ _ _] at hl'
      refine ⟨l', _, rfl, SqT.of hl', rfl, _, _, rfl, _, _, rfl, _, _, rfl, rfl, ?_⟩
      refine ⟨_, rfl, l, _, rfl, .inr (SqT.of hl1), rfl, _, rfl, ?_⟩
      refine iteF ⟨_, rfl, _, rfl, (by show 2 ≤ sizeLine; decide), fun tp ntp => ⟨_, rfl, ?_⟩⟩
      have sp := same_new (o := .tup [.int p, .int q]) ntp
      refine ⟨_, rfl, l, _, _, _, rfl, rfl, SqT.of (sp _ _ hl1), atI_nat (j := 3) rfl, _, rfl, l, _, _, _, rfl, rfl, SqT.of (sp _ _ hl1), atI_nat (j := 4) rfl, (by show 2 ≤ sizeLine; decide), fun tq ntq => ?_⟩
      have sq := same_new (o := .tup [.int t, .int s']) ntq
      refine ⟨_, rfl, l, _, _, _, rfl, rfl, SqT.of (sq _ _ (sp _ _ hl1)), atI_nat (j := 5) rfl, ?_⟩
      refine ⟨rfl, rfl, fun x dx nx ndx nex => ?_⟩
      have f1 : upd (upd H1 tp (.tup [.int p, .int q])) tq (.tup [.int t, .int s']) tp = some (.tup [.int p, .int q]) := same_new ntq _ _ upd_same
      have f2 : upd (upd H1 tp (.tup [.int p, .int q])) tq (.tup [.int t, .int s']) tq = some (.tup [.int t, .int s']) := upd_same
      have s2 : Same H (upd (upd H1 tp (.tup [.int p, .int q])) tq (.tup [.int t, .int s'])) := s1.trans (sp.trans sq)
      generalize upd (upd H1 tp (.tup [.int p, .int q])) tq (.tup [.int t, .int s']) = H2 at f1 f2 s2 nx ndx ⊢
      have keep : ∀ (o1 o2 : HO) (b : Addr) (u : HO), H2 b = some u → upd (upd H2 dx o1) x o2 b = some u := fun o1 o2 b u e => by
        rw [upd_ne (ne_of_none e nx), upd_ne (ne_of_none e ndx)]; exact e
      refine ⟨x, dx, tp, tq, p, q, k, t, s', c, rfl, upd_same, keep _ _ _ _ f1, keep _ _ _ _ f2, o1, o2, o3, o4, o5, o6, ot.1, ot.2.1, ot.2.2.1, ot.2.2.2, fun H3 t3 hx3 => ⟨rfl, ?_⟩⟩
      have s3 : ∀ b u, H2 b = some u → H3 b = some u := fun b u e => t3 _ _ (ne_of_none e nx) (keep _ _ _ _ e)
      exact kk x H3 (fun b u e => s3 _ _ (s2 _ _ e)) ⟨dx, tp, tq, hx3, s3 _ _ f1, s3 _ _ f2⟩
end
end Ev
namespace Ev
open PySem L2 PySem.Spec PyProof.Rows RZ
def spPen (K : PySem.W.Frag) : Sp := fun vs H Q _ => ∃ (a : Addr) (ns : List Int), vs = [.ref a] ∧ SqL K H a (ns.map V.int) ∧ ns.length ≤ 63 ∧
  ∀ (p L : Addr) (H' : Hp), H p = none → Same H H' → Pen L H' p 0 → Q (.ref p) H'
theorem But.tup {L p a : Addr} {H H' : Hp} {B : Int} {xs : List V} (h : H a = some (.tup xs)) (pn : Pen L H p B) (t : But p H H') : H' a = some (.tup xs) := by
  obtain ⟨ys, e⟩ := pn.some
  exact t _ _ (ne_of h e (by intro z; cases z)) h
theorem Pen.put {L p D : Addr} {H : Hp} {B : Int} {o : HO} (h : Pen L H p B) (d1 : D ≠ p) (d2 : D ≠ L) : Pen L (upd H D o) p B := by
  obtain ⟨ns, t, c, h1, h2, h3⟩ := h
  exact ⟨ns, t, c, by rw [upd_ne d1.symm]; exact h1, by rw [upd_ne d2.symm]; exact h2, h3⟩
theorem Pen.neL {L p D : Addr} {H : Hp} {B : Int} (h : Pen L H p B) (n : H D = none) : D ≠ L := by
  obtain ⟨ns, t, c, h1, h2, h3⟩ := h
  exact (ne_of_none h2 n).symm
theorem cut_ints (ns : List Int) (h : Int) : ∃ ms : List Int, cutV (ns.map V.int) none (some h) = ms.map V.int ∧ ms.length ≤ ns.length := by
  unfold cutV
  generalize HT.sIx (ns.map V.int).length 0 none = x
  generalize HT.sIx (ns.map V.int).length (ns.map V.int).length (some h) - x = y
  refine ⟨(ns.drop x).take y, ?_, ?_⟩
  · rw [List.map_take, List.map_drop]
  · rw [List.length_take, List.length_drop]; omega

section
variable {P : Program} {w : World} {K : PySem.W.Frag} {mg : Str → Option Value} {base : Heap}
theorem scPen : FnScope ["_law_script"] ["_law_script"] (defScope sPen) := ⟨rfl, rfl, rfl, by decide +kernel, rfl, by decide +kernel, by decide +kernel⟩
theorem ok_pen {f : Addr} {fd : FuncData} (F : Fun K "_law_pen" "_law_pen" sPen f fd) (T : Blt mg) : FnOk P w K mg base CX0 1 f fd ["_law_script"] (spPen K) := by
  refine F.ok scPen (fun vs H Q E h => ?_) (fun cdv A outer s H vs Q E hr h => ?_)
  · obtain ⟨a, ns, rfl, _⟩ := h
    rfl
  · obtain ⟨a, ns, rfl, hS, hlen, kk⟩ := h
    refine ⟨_, pss_one (ps_ret (pe_lst (pa_cons (pe_callTy call_list_of (by rfl) T.list (by decide +kernel) (pa_cons (pe_slice sl_list (pv 0) po_none (po_some pe_int)) pa_nil)) (pa_cons pe_int (pa_cons pe_int pa_nil))))), ?_⟩
    refine ⟨_, rfl, _, rfl, a, _, rfl, hS, fun l1 nl1 => ⟨l1, _, rfl, .inl (SqL.of upd_same), fun l2 nl2 => ⟨(by show 3 ≤ sizeLine; decide), fun p np => ?_⟩⟩⟩
    obtain ⟨ms, e1, e2⟩ := cut_ints ns 63
    rw [e1] at nl2 np ⊢
    have s1 : Same H (upd (upd H l1 (.lst (ms.map V.int))) l2 (.lst (ms.map V.int))) := (same_new nl1).trans (same_new nl2)
    have s2 := s1.trans (same_new (o := .lst [.ref l2, .int 0, .int 0]) np)
    refine kk p l2 _ ?_ s2 ⟨ms, 0, 0, upd_same, by rw [upd_ne (ne_of_none upd_same np)]; exact upd_same, ne_of_none upd_same np, by omega, by decide, by decide, by decide⟩
    cases z : H p with
    | none => rfl
    | some o => rw [s1 _ _ z] at np; cases np
end
end Ev
set_option maxHeartbeats 1000000
namespace Ev2
open Ev
open PySem L2 PySem.Spec PyProof.Rows RZ LamX
/-! What breaks raises. -/
/-- a dict that is empty may be asked, too -/
theorem vd_reads {X : Cx} {pins : List (Addr × Obj)} {σ : L2.St} {H : Hp} {s : Shared} (I : Inv X pins σ H s) {v : V} {d : PyData} {u : Value} (hd : Vd X.K H v d) (ru : RelV v u) : ∃ as, Reads s.heap u d as := by
  cases hd with
  | plain dp nd => exact Dp.reads I d v u dp ru
  | @dct a kvs ds e ek ev =>
    cases ru
    obtain ⟨hz, hs0, vs, kv, hdo⟩ := (show ObjOk X.prog X.w H s.heap a (.dK kvs) from I.hok a _ e)
    obtain ⟨ep, ob, es, ho, ex, hdat, hko, hpr, hnd⟩ := hdo.dictAt
    have e1 : ReadsAll s.heap (es.toList.map (·.key)) (ds.map (·.1)) [] := by
      rw [ek]; exact reads_keys hpr kv
    have e2 : ReadsAll s.heap (es.toList.map (·.val)) (ds.map (·.2)) [] := by
      refine reads_scs ev ?_
      have e3 : es.toList.map (·.val) = vs.map (·.2) := pair_vals hpr
      rw [e3]; exact vals_snd kv
    exact ⟨a :: [] ++ [], .dict ho ex.1 hdat e1 e2⟩
def rInV (K : PySem.W.Frag) : R2 := fun x y H Q => ∃ d ds, Vd K H x d ∧ Dp K H y (.tuple ds) ∧ SeqAt.shaped d = true ∧ SeqAt.shaped (.list ds) = true ∧ Q (.bl (ds.any fun z => PyData.eqv z d)) H
theorem op_inV {X : Cx} (hu : X.A.units + 65 < cLine) : OpR X (compareOp .In) (rInV X.K) := by
  intro pins s σ H x y v u Q I rx ry h
  obtain ⟨d, ds, hd, he, sd, se, q⟩ := h
  obtain ⟨as, r1⟩ := vd_reads I hd rx
  obtain ⟨bs, r2⟩ := Dp.reads I (.tuple ds) y u he ry
  exact SeqAt.in_tuple_reads r2 r1 (SeqAt.canLay_of_shaped se) (SeqAt.canLay_of_shaped sd) (room_in_shaped sd hu) ⟨.bl _, H, I, rfl, q⟩
/-- a value that names no deed -/
def OddD (K : PySem.W.Frag) (H : Hp) (v : V) (d : PyData) : Prop := Vd K H v d ∧ SeqAt.shaped d = true ∧ ([PyData.str "put", PyData.str "take"].any fun z => PyData.eqv z d) = false
def spNeedRO (B : Addr) : Sp := fun vs H Q E => vs = [.non] ∧ ∃ v : V, v = .str "rule" ∧ Told B "part" H v E
section
variable {P : Program} {w : World} {K : PySem.W.Frag} {mg : Str → Option Value} {base : Heap}
abbrev sBRInit2 : Stmt := sBadRule_init
abbrev sBDInit : Stmt := sBadDeeds_init
theorem scBR : FnScope ["self", "part"] ["self", "part"] (defScope sBRInit2) := ⟨rfl, rfl, rfl, by decide +kernel, rfl, by decide +kernel, by decide +kernel⟩
theorem ok_brV {f C : Addr} {fd : FuncData} (F : Fun K "__init__" "BadRule.__init__" sBRInit2 f fd) (T : OexC K C) (no : PySem.W.findIn K (.ref C) "part" = some none) (D : Df P w K mg base 3 "kept" ["value"] spKeptV) : FnOk P w K mg base CX0 4 f fd ["self", "part"] (spExInit C "part") := by
  obtain ⟨f1, fd1, G1, g1, k1, b1⟩ := D.ex
  refine F.ok scBR (fun vs H Q E h => ?_) (fun cdv A outer s H vs Q E hr h => ?_)
  · obtain ⟨a, v, us, b, rfl, _⟩ := h
    rfl
  · obtain ⟨a, v, us, b, rfl, ha, hv, kk⟩ := h
    refine ⟨_, pss_one (ps_ost (pv 0) (pe_call G1 hr (by rfl) g1 k1 b1 .nil pass0 (pa_cons (pv 1) pa_nil))), ?_⟩
    refine ⟨_, rfl, v, us, b, rfl, hv, fun v' H1 s1 al => ⟨_, rfl, a, C, rfl, T, no, .inl ⟨s1 _ _ ha, fun dx nd dne => ?_⟩⟩⟩
    refine kk dx v' _ (s1.free nd) upd_same (by rw [upd_ne dne]; exact upd_same) (fun b o nb e => ?_) (al.on (fun b xs e => ?_) (fun b xs e => ?_))
    · rw [upd_ne nb, upd_ne (ne_of_none (s1 _ _ e) nd)]
      exact s1 _ _ e
    · have nb : b ≠ a := fun z => by rw [z, s1 _ _ ha] at e; exact exo_lst (Option.some.inj e)
      rw [upd_ne nb, upd_ne (ne_of_none e nd)]; exact e
    · have nb : b ≠ a := fun z => by rw [z, s1 _ _ ha] at e; exact exo_dK (Option.some.inj e)
      rw [upd_ne nb, upd_ne (ne_of_none e nd)]; exact e
theorem scBD : FnScope ["self", "value"] ["self", "value"] (defScope sBDInit) := ⟨rfl, rfl, rfl, by decide +kernel, rfl, by decide +kernel, by decide +kernel⟩
theorem ok_bdV {f C : Addr} {fd : FuncData} (F : Fun K "__init__" "BadDeeds.__init__" sBDInit f fd) (T : OexC K C) (no : PySem.W.findIn K (.ref C) "value" = some none) (D : Df P w K mg base 3 "kept" ["value"] spKeptV) : FnOk P w K mg base CX0 4 f fd ["self", "value"] (spExInit C "value") := by
  obtain ⟨f1, fd1, G1, g1, k1, b1⟩ := D.ex
  refine F.ok scBD (fun vs H Q E h => ?_) (fun cdv A outer s H vs Q E hr h => ?_)
  · obtain ⟨a, v, us, b, rfl, _⟩ := h
    rfl
  · obtain ⟨a, v, us, b, rfl, ha, hv, kk⟩ := h
    refine ⟨_, pss_one (ps_ost (pv 0) (pe_call G1 hr (by rfl) g1 k1 b1 .nil pass0 (pa_cons (pv 1) pa_nil))), ?_⟩
    refine ⟨_, rfl, v, us, b, rfl, hv, fun v' H1 s1 al => ⟨_, rfl, a, C, rfl, T, no, .inl ⟨s1 _ _ ha, fun dx nd dne => ?_⟩⟩⟩
    refine kk dx v' _ (s1.free nd) upd_same (by rw [upd_ne dne]; exact upd_same) (fun b o nb e => ?_) (al.on (fun b xs e => ?_) (fun b xs e => ?_))
    · rw [upd_ne nb, upd_ne (ne_of_none (s1 _ _ e) nd)]
      exact s1 _ _ e
    · have nb : b ≠ a := fun z => by rw [z, s1 _ _ ha] at e; exact exo_lst (Option.some.inj e)
      rw [upd_ne nb, upd_ne (ne_of_none e nd)]; exact e
    · have nb : b ≠ a := fun z => by rw [z, s1 _ _ ha] at e; exact exo_dK (Option.some.inj e)
      rw [upd_ne nb, upd_ne (ne_of_none e nd)]; exact e
abbrev sNeedRule2 : Stmt := sNeedRule
theorem scNeedRO : FnScope ["value"] ["value"] (defScope sNeedRule2) := ⟨rfl, rfl, rfl, by decide +kernel, rfl, by decide +kernel, by decide +kernel⟩
theorem ok_needRO {f WR B : Addr} {fd : FuncData} (F : Fun K "need_rule" "need_rule" sNeedRule2 f fd) (T : Blt mg) (gW : mg "WeightRule" = some (.ref WR)) (no : PySem.W.kitOne K (.type "NoneType") (.ref WR) = some false) (BB : ErrV P w K mg base "BadRule" "part" B) :
    FnOk P w K mg base (L2.CX P w) 6 f fd ["value"] (spNeedRO B) := by
  obtain ⟨TC, gC, fi, fdi, iC, tI, GI, bI⟩ := id BB
  refine F.okX scNeedRO (fun vs H Q E h => ?_) (fun cdv A outer s H vs Q E hr h => ?_)
  · obtain ⟨rfl, _⟩ := h
    rfl
  · obtain ⟨rfl, v, rfl, told⟩ := h
    refine ⟨_, pss_one (ps_if (pt_not (pt_val (pe_callB call_isi (by rfl) T.isi (by decide +kernel) (pa_cons (pv 0) (pa_cons (pe_glob (v := .ref WR) rfl gW rfl) pa_nil)))))
      (pss_one (ps_raise rfl (takes_of rfl rfl rfl rfl) (pmk_oex TC iC tI GI (hr.mono (by decide)) bI .nil pass0 (by rfl) gC (pa_cons pe_str pa_nil)))) pss_nil), ?_⟩
    refine ⟨_, rfl, _, _, _, _, false, rfl, .own WR, .base .non, no, _, rfl, iteT ?_⟩
    exact ⟨(by show 1 ≤ 1000; decide), fun a' na => raisedV ⟨_, _, .flat (flat_str _)⟩ told a' na⟩
end
end Ev2
set_option maxHeartbeats 1000000
namespace Ev2
open Ev
open PySem L2 PySem.Spec PyProof.Rows RZ LamX
/-! A dict is no text: a dict in a tuple of texts. -/
theorem str_declines_dct (b : Str) (u : Tok) (l : Addr) (c : Value) (es : Array DictEntry) (n : Nat) (dd : Option Addr) (sl : Array (Option Value)) :
    Meets (Builtin.«str.__eq__» ⟨[.str b u, .ref l], []⟩) (fun _ R s => s.heap.get? l = some { cls := c, dict := dd, data := .dict es n, slots := sl } ∧ R (.ok (.ret .notImplemented)) s) :=
  .of_wp fun prog w A R s h => by obtain ⟨hp, g, d, tk, os⟩ := s; obtain ⟨hl, h⟩ := h; wp_walk using wpAny_loadPart' hl, wpAny_load hl; exact ⟨_, rfl, h⟩
theorem sub_str_dict' : isSubtype (.type "str") (.type "dict") = pure false := by rw [isSubtype_type]; kernel_rfl
theorem sub_dict_str' : isSubtype (.type "dict") (.type "str") = pure false := by rw [isSubtype_type]; kernel_rfl
theorem dct_declines_str (b : Str) (u : Tok) (l : Addr) (es : Array DictEntry) (n : Nat) (dd : Option Addr) (sl : Array (Option Value)) :
    Meets (Builtin.«dict.__eq__» ⟨[.ref l, .str b u], []⟩) (fun _ R s => s.heap.get? l = some { cls := .type "dict", dict := dd, data := .dict es n, slots := sl } ∧ R (.ok (.ret .notImplemented)) s) :=
  .of_wp fun prog w A R s h => by obtain ⟨hp, g, d, tk, os⟩ := s; obtain ⟨hl, h⟩ := h; have f1 := sub_str_dict'; wp_walk using wpAny_loadPart' hl, wpAny_load hl; exact ⟨_, rfl, h⟩
theorem eqAt_sd {A : Around} {s : Shared} (hu : A.units < cLine) {z : Str} {t : Tok} {a : Addr} {es : Array DictEntry} {ep : Nat} (ho : s.heap.get? a = some { cls := .type "dict", dict := none, data := .dict es ep, slots := #[] }) : SeqAt.EqAt A s (.str z t) (.ref a) false := fun prog w E Q hq => by
  have rc : wpAny (model prog w) A (richCompare .Eq (.str z t) (.ref a)) (fun v s' => v = .bool false ∧ Q false s') E s :=
    SeqAt.rc_eq_decline_or (k := false) (typeIs_str s z t) ⟨_, ho, rfl⟩ (by decide) sub_dict_str' PySem.F.slot_str_eq PySem.F.slot_dict_eq_refl
      (fun _ hq => call_meets PySem.F.slot_str_eq (typeIs_str s z t) PySem.F.entry_str_eq (PySem.F.args_str_eq_2 _ _) (str_declines_dct z t a (.type "dict") es ep none #[]) ⟨ho, hq⟩)
      (fun _ hq => call_meets PySem.F.slot_dict_eq_refl ⟨_, ho, rfl⟩ PySem.F.entry_dict_eq (PySem.F.args_dict_eq_2 _ _) (dct_declines_str z t a es ep none #[]) ⟨ho, hq⟩)
      (fun _ hq => wpAny_of_eq (rfl : isSame (.str z t) (.ref a) = pure false) hq) (.inr hu) ⟨rfl, hq⟩
  unfold eqBool
  refine wpAny_holding ?_
  refine wpAny_ite_split (fun hab => absurd (eq_of_beq hab) (by intro z; cases z)) (fun _ => ?_)
  refine wpAny_bind (wpAny_mono rc (fun v s' z => ?_) fun _ _ z => z)
  obtain ⟨rfl, q⟩ := z
  exact wpAny_truthy_bool q
theorem strs_mem : ∀ {zs : List Str} {us : List Value}, Vals (zs.map V.str) us → ∀ y ∈ us, ∃ z t, y = Value.str z t
  | [], _, .nil, _, h => by cases h
  | z :: zs, _, .cons r q, y, h => by
    rcases List.mem_cons.mp h with rfl | h
    · obtain ⟨t, rfl⟩ := (show ∃ t, _ = Value.str z t from r)
      exact ⟨z, t, rfl⟩
    · exact strs_mem q y h
def rInD (K : PySem.W.Frag) : R2 := fun x y H Q => ∃ (a b : Addr) (kvs : List (Key × V)) (zs : List Str), x = .ref a ∧ y = .ref b ∧ H a = some (.dK kvs) ∧ SqT K H b (zs.map V.str) ∧ Q (.bl false) H
theorem op_inD {X : Cx} (hu : X.A.units + 65 < cLine) : OpR X (compareOp .In) (rInD X.K) := by
  intro pins s σ H x y v u Q I rx ry h
  obtain ⟨a, b, kvs, zs, rfl, rfl, ha, hb, q⟩ := h
  cases (show v = Value.ref a from rx)
  cases (show u = Value.ref b from ry)
  obtain ⟨_, yy, vs, r, ⟨cls, dd, data, sl⟩, es, ep, ho, ⟨hc, hdd, hsl⟩, hd, _⟩ := (show ObjOk _ _ _ _ _ _ from I.hok _ _ ha)
  simp only at hc hd hdd hsl
  subst hc hd hdd hsl
  obtain ⟨its, rv, hl, _⟩ := I.tuple hb
  refine SeqAt.in_tupleAt (fun _ => false) hl (fun y hy => ?_) ?_
  · obtain ⟨z, t, rfl⟩ := strs_mem rv y (by simpa using hy)
    exact eqAt_sd (show X.A.in1.units < cLine by show X.A.units + 1 < cLine; omega) ho
  · have e : (its.toArray.any fun _ => false) = false := by simp
    rw [e]
    exact ⟨.bl false, H, I, rfl, q⟩
/-- either of both -/
def OddD2 (K : PySem.W.Frag) (H : Hp) (v : V) : Prop := (∃ d, OddD K H v d) ∨ ∃ a kvs, v = .ref a ∧ H a = some (.dK kvs)
def spIsDeedO (K : PySem.W.Frag) : Sp := fun vs H Q _ => ∃ v : V, vs = [v] ∧ OddD2 K H v ∧ Q (.bl false) H
section
variable {P : Program} {w : World} {K : PySem.W.Frag} {mg : Str → Option Value} {base : Heap}
theorem scIsDeedO : FnScope ["value"] ["value"] (defScope sIsDeed) := ⟨rfl, rfl, rfl, by decide +kernel, rfl, by decide +kernel, by decide +kernel⟩
theorem ok_isDeedO {f DE : Addr} {fd : FuncData} (F : Fun K "is_deed" "is_deed" sIsDeed f fd) (gD : mg "DEEDS" = some (.ref DE)) (hD : ∀ H, SqT K H DE [.str "put", .str "take"]) : FnOk P w K mg base CX0 1 f fd ["value"] (spIsDeedO K) := by
  refine F.ok scIsDeedO (fun vs H Q E h => ?_) (fun cdv A outer s H vs Q E hr h => ?_)
  · obtain ⟨v, rfl, _⟩ := h
    rfl
  · obtain ⟨v, rfl, od, k⟩ := h
    refine ⟨_, (pss_one (ps_ret (pe_cmpR (OpR.or (op_inV (hu65 hr)) (op_inD (hu65 hr))) (pv 0) (pe_glob (v := .ref DE) rfl gD rfl) (by rfl)))), ?_⟩
    refine ⟨_, rfl, ?_⟩
    rcases od with ⟨d, vd, sh, e⟩ | ⟨a, kvs, rfl, ha⟩
    · refine .inl ⟨d, [.str "put", .str "take"], vd, .tup (hD H) (.cons (.str _) (.cons (.str _) .nil)), sh, by decide +kernel, ?_⟩
      rw [e]
      exact k
    · exact .inr ⟨a, DE, kvs, ["put", "take"], rfl, rfl, ha, hD H, k⟩
end
end Ev2
set_option maxHeartbeats 1000000
namespace Ev2
open Ev
open PySem L2 PySem.Spec PyProof.Rows RZ LamX
structure DfX (P : Program) (w : World) (K : PySem.W.Frag) (mg : Str → Option Value) (base : Heap) (k : Nat) (x : Str) (ps : List Str) (sp : Sp) : Prop where
  ex : ∃ (f : Addr) (fd : FuncData), FnOk P w K mg base (L2.CX P w) k f fd ps sp ∧ mg x = some (.ref f) ∧ PySem.W.keepIn K (.ref f) = true ∧ Binds K fd ps []
/-- no rule -/
def spBrA (B : Addr) : Sp := fun vs H Q E => ∃ (u1 u2 u3 v : V), vs = [.non, u1, u2, u3] ∧ v = .str "rule" ∧ Told B "part" H v E
/-- no deed -/
def spBrB (K : PySem.W.Frag) (Ct Cn D : Addr) : Sp := fun vs H Q E => ∃ (r : Addr) (row : Ev.Row) (v u2 u3 : V), vs = [.ref r, v, u2, u3] ∧ ObjAt Ct Cn H r row ∧ OddD2 K H v ∧ (∃ us b, Hold H v us b) ∧ Told D "value" H v E
/-- no weight: the first or the second -/
def spBrC (Ct Cn N : Addr) : Sp := fun vs H Q E => ∃ (r : Addr) (row : Ev.Row) (put : Bool) (x y bad : V), vs = [.ref r, .str (deedS put), x, y] ∧ ObjAt Ct Cn H r row ∧ (∀ G, Same H G → IntQ G bad) ∧ inB 1 (10 ^ 12) bad = false ∧ (x = bad ∨ (x = .int 1 ∧ y = bad)) ∧ ∀ G, Same H G → (∃ us b, Hold G bad us b) ∧ Told N "value" G bad E
section
variable {P : Program} {w : World} {K : PySem.W.Frag} {mg : Str → Option Value} {base : Heap}
theorem ok_brA {f B : Addr} {fd : FuncData} (F : Fun K "breaks" "breaks" sBreaks f fd) (D1 : DfX P w K mg base 6 "need_rule" ["value"] (spNeedRO B)) : FnOk P w K mg base (L2.CX P w) 7 f fd ["rule", "deed", "light", "heavy"] (spBrA B) := by
  obtain ⟨f1, fd1, G1, g1, k1, b1⟩ := D1.ex
  refine F.okX scBreaks (fun vs H Q E h => ?_) (fun cdv A outer s H vs Q E hr h => ?_)
  · obtain ⟨u1, u2, u3, v, rfl, _⟩ := h
    rfl
  · obtain ⟨u1, u2, u3, v, rfl, e, told⟩ := h
    refine ⟨_, (pss_cons (ps_expr (pe_callS G1 hr (by rfl) g1 k1 b1 (fun σ => passAt (takes_of rfl rfl rfl rfl) σ) (pa_cons (pv 0) pa_nil)))
      (pss_cons ps_never (pss_cons ps_never (pss_cons ps_never (pss_cons ps_never (pss_cons ps_never (pss_cons ps_never (pss_one ps_never)))))))), ?_⟩
    exact ⟨_, rfl, rfl, v, e, told⟩
theorem ok_brB {f Ct Cn D : Addr} {fd : FuncData} (F : Fun K "breaks" "breaks" sBreaks f fd) (D1 : Df P w K mg base 1 "need_rule" ["value"] (spNeedR Ct Cn)) (D2 : Df P w K mg base 1 "is_deed" ["value"] (spIsDeedO K)) (BD : ErrV P w K mg base "BadDeeds" "value" D) : FnOk P w K mg base (L2.CX P w) 7 f fd ["rule", "deed", "light", "heavy"] (spBrB K Ct Cn D) := by
  obtain ⟨f1, fd1, G1, g1, k1, b1⟩ := D1.ex
  obtain ⟨f2, fd2, G2, g2, k2, b2⟩ := D2.ex
  obtain ⟨TC, gC, fi, fdi, iC, tI, GI, bI⟩ := id BD
  refine F.okX scBreaks (fun vs H Q E h => ?_) (fun cdv A outer s H vs Q E hr h => ?_)
  · obtain ⟨r, row, v, u2, u3, rfl, _⟩ := h
    rfl
  · obtain ⟨r, row, v, u2, u3, rfl, ob, od, hv, told⟩ := h
    refine ⟨_, (pss_cons (ps_expr (pe_call G1 (hr.mono (by decide)) (by rfl) g1 k1 b1 .nil pass0 (pa_cons (pv 0) pa_nil)))
      (pss_cons (ps_if (pt_not (pt_val (pe_call G2 (hr.mono (by decide)) (by rfl) g2 k2 b2 .nil pass0 (pa_cons (pv 1) pa_nil))))
        (pss_one (ps_raise rfl (takes_of rfl rfl rfl rfl) (pmk_oex TC iC tI GI (hr.mono (by decide)) bI .nil pass0 (by rfl) gC (pa_cons (pv 1) pa_nil)))) pss_nil)
      (pss_cons ps_never (pss_cons ps_never (pss_cons ps_never (pss_cons ps_never (pss_cons ps_never (pss_one ps_never)))))))), ?_⟩
    refine ⟨_, rfl, r, row, rfl, ob, ?_⟩
    refine ⟨_, rfl, v, rfl, od, _, rfl, iteT ?_⟩
    exact ⟨_, rfl, (by show 1 ≤ 1000; decide), fun a' na => raisedV hv told a' na⟩
theorem inB_one : inB 1 (10 ^ 12) (.int 1) = true := by decide
theorem ok_brC {f Ct Cn N : Addr} {fd : FuncData} (F : Fun K "breaks" "breaks" sBreaks f fd) {t0 : Tok} (gA : mg "MOST_ASKED" = some (.int (10 ^ 12) t0)) (D1 : Df P w K mg base 1 "need_rule" ["value"] (spNeedR Ct Cn)) (D2 : Df P w K mg base 1 "is_deed" ["value"] spIsDeed) (D3 : Df P w K mg base 2 "is_within" ["value", "least", "most"] spWithinA) (BN : ErrV P w K mg base "BadNumber" "value" N) : FnOk P w K mg base (L2.CX P w) 7 f fd ["rule", "deed", "light", "heavy"] (spBrC Ct Cn N) := by
  obtain ⟨f1, fd1, G1, g1, k1, b1⟩ := D1.ex
  obtain ⟨f2, fd2, G2, g2, k2, b2⟩ := D2.ex
  obtain ⟨f3, fd3, G3, g3, k3, b3⟩ := D3.ex
  obtain ⟨TC, gC, fi, fdi, iC, tI, GI, bI⟩ := id BN
  refine F.okX scBreaks (fun vs H Q E h => ?_) (fun cdv A outer s H vs Q E hr h => ?_)
  · obtain ⟨r, row, put, x, y, bad, rfl, _⟩ := h
    rfl
  · obtain ⟨r, row, put, x, y, bad, rfl, ob, hq, hb, hxy, told⟩ := h
    refine ⟨_, (pss_cons (ps_expr (pe_call G1 (hr.mono (by decide)) (by rfl) g1 k1 b1 .nil pass0 (pa_cons (pv 0) pa_nil)))
      (pss_cons (ps_if (pt_not (pt_val (pe_call G2 (hr.mono (by decide)) (by rfl) g2 k2 b2 .nil pass0 (pa_cons (pv 1) pa_nil))))
        (pss_one ps_never) pss_nil)
      (pss_cons (ps_for (passes_of rfl) rfl (pi_tup (pe_tup (pa_cons (pv 2) (pa_cons (pv 3) pa_nil)))) (pg_name (i := 4) scBreaks.nd rfl (.inl rfl))
        (pss_one (ps_if (pt_not (pt_val (pe_call G3 (hr.mono (by decide)) (by rfl) g3 k3 b3 .nil pass0 (pa_cons (pv 4) (pa_cons pe_int (pa_cons (pe_glob (v := .int (10 ^ 12)) rfl gA ⟨_, rfl⟩) pa_nil))))))
          (pss_one (ps_raise rfl (takes_of rfl rfl rfl rfl) (pmk_oex TC iC tI GI (hr.mono (by decide)) bI .nil pass0 (by rfl) gC (pa_cons (pv 4) pa_nil)))) pss_nil)))
      (pss_cons ps_never (pss_cons ps_never (pss_cons ps_never (pss_cons ps_never (pss_one ps_never)))))))), ?_⟩
    refine ⟨_, rfl, r, row, rfl, ob, ?_⟩
    refine ⟨_, rfl, put, rfl, true, rfl, iteF ?_⟩
    refine ⟨_, rfl, _, rfl, (by show 2 ≤ sizeLine; decide), fun t ht => ?_⟩
    have st := same_new (o := .tup [x, y]) ht
    have hT : SqT K (upd H t (.tup [x, y])) t [x, y] := SqT.of upd_same
    generalize upd H t (.tup [x, y]) = H1 at st hT ⊢
    obtain ⟨hv, tl⟩ := told H1 st
    have hq1 := hq H1 st
    refine ⟨t, rfl, ⟨_, hT⟩, ?_⟩
    refine for_tup (xs := [x, y]) (fun i σ G => G = H1 ∧ (i = 0 ∨ (i = 1 ∧ x = .int 1 ∧ y = bad)) ∧ ∃ v4, σ = [some (.ref r), some (.str (deedS put)), some x, some y, v4, none, none, none, none, none, none]) ⟨rfl, .inl rfl, _, rfl⟩ (fun i σ G _ h => by rw [h.1]; exact hT) (fun i v σ G hi hp => ?_) (fun σ G hp => ?_)
    · obtain ⟨rfl, hi', v4, rfl⟩ := hp
      rcases hi' with rfl | ⟨rfl, rfl, rfl⟩
      · obtain rfl : x = v := Option.some.inj hi
        rcases hxy with rfl | ⟨rfl, rfl⟩
        · refine ⟨_, rfl, _, _, _, rfl, hq1, _, rfl, ?_⟩
          rw [hb]
          exact iteT ⟨_, rfl, (by show 1 ≤ 1000; decide), fun a' na => raisedV hv tl a' na⟩
        · refine ⟨_, rfl, _, _, _, rfl, .inl ⟨1, rfl⟩, _, rfl, ?_⟩
          rw [inB_one]
          exact iteF ⟨rfl, .inr ⟨rfl, rfl, rfl⟩, _, rfl⟩
      · obtain rfl : y = v := Option.some.inj hi
        refine ⟨_, rfl, _, _, _, rfl, hq1, _, rfl, ?_⟩
        rw [hb]
        exact iteT ⟨_, rfl, (by show 1 ≤ 1000; decide), fun a' na => raisedV hv tl a' na⟩
    · obtain ⟨_, hi', _⟩ := hp
      rcases hi' with h | ⟨h, _⟩ <;> cases h
end
end Ev2
set_option maxHeartbeats 2000000
namespace Ev2
open Ev
open PySem L2 PySem.Spec PyProof.Rows RZ LamX
/-- v shows as x -/
def Shows (K : PySem.W.Frag) (H : Hp) (v : V) (x : Str) : Prop := ∃ d : PyData, Vd K H v d ∧ d.showable = true ∧ d.depth ≤ 32 ∧ d.shown.length ≤ sizeLine ∧ d.shown = x
theorem held_lst {cls : Value} {d : Option Addr} {a : Addr} {xs : List V} : HO.lst xs ≠ Held cls d a := fun z => by
  have z : HO.lst xs = HO.ext _ := z
  cases z
theorem sqL_keep {K : PySem.W.Frag} {H H' : Hp} {a : Addr} {xs : List V} (k : Same H H') (h : SqL K H a xs) : SqL K H' a xs := by
  rcases h with (e | ⟨o, e⟩) | e
  · exact .inl (.inl (k _ _ e))
  · exact .inl (.inr ⟨o, k _ _ e⟩)
  · exact .inr e
theorem sqT_keep {K : PySem.W.Frag} {H H' : Hp} {a : Addr} {xs : List V} (k : Same H H') (h : SqT K H a xs) : SqT K H' a xs := by
  rcases h with (e | ⟨o, e⟩) | e
  · exact .inl (.inl (k _ _ e))
  · exact .inl (.inr ⟨o, k _ _ e⟩)
  · exact .inr e
mutual
theorem dp_keep {K : PySem.W.Frag} {H H' : Hp} (k : Same H H') : ∀ (v : V) (d : PyData), Dp K H v d → Dp K H' v d
  | _, _, .non => .non
  | _, _, .bl b => .bl b
  | _, _, .int i => .int i
  | _, _, .str x => .str x
  | _, _, .lst s a => .lst (sqL_keep k s) (dps_keep k _ _ a)
  | _, _, .tup s a => .tup (sqT_keep k s) (dps_keep k _ _ a)
theorem dps_keep {K : PySem.W.Frag} {H H' : Hp} (k : Same H H') : ∀ (vs : List V) (ds : List PyData), DpAll K H vs ds → DpAll K H' vs ds
  | _, _, .nil => .nil
  | _, _, .cons h t => .cons (dp_keep k _ _ h) (dps_keep k _ _ t)
end
theorem Shows.keep {K : PySem.W.Frag} {H H' : Hp} {v : V} {x : Str} (h : Shows K H v x) (k : Same H H') : Shows K H' v x := by
  obtain ⟨d, hd, sh⟩ := h
  refine ⟨d, ?_, sh⟩
  cases hd with
  | plain dp nd => exact .plain (dp_keep k _ _ dp) nd
  | dct e ek ev => exact .dct (k _ _ e) ek ev
/-- what is heard of a call that raises: the word and how the field of its error shows -/
def EHeard (K : PySem.W.Frag) (B D N : Addr) (QQ : Addr → Hp → Prop) : XK := fun cls d H' => ∃ (dd : Addr) (v : V) (n w x : Str), d = some dd ∧ H' dd = some (.xd [(n, v)]) ∧ Shows K H' v x ∧ ((cls = .ref B ∧ n = "part" ∧ w = "rule") ∨ (cls = .ref D ∧ n = "value" ∧ w = "deeds") ∨ (cls = .ref N ∧ n = "value" ∧ w = "number")) ∧
    ∀ (r : Addr) (G : Hp), Same H' G → H' r = none → G r = some (.tup [.str w, .str x]) → QQ r G
def THeard (K : PySem.W.Frag) (B D N : Addr) : (XK → Hp → VK → Prop) → Hp → VK → Prop := fun tl H Q => ∀ (R : VK) (H1 : Hp), Same H H1 → tl (EHeard K B D N fun r G => Q (.ref r) G) H1 R
theorem five' {σ : L2.St} (h : σ.length = 5) : ∃ x0 x1 x2 x3 x4, σ = [x0, x1, x2, x3, x4] := by
  match σ, h with
  | [x0, x1, x2, x3, x4], _ => exact ⟨x0, x1, x2, x3, x4, rfl⟩
/-- the classes that are heard -/
structure ThreeH (K : PySem.W.Frag) (mg : Str → Option Value) (B D N FE : Addr) : Prop where
  mv : mg "ValueError" = none
  mr : mg "repr" = none
  gF : mg "FairError" = some (.ref FE)
  gB : mg "BadRule" = some (.ref B)
  gD : mg "BadDeeds" = some (.ref D)
  gN : mg "BadNumber" = some (.ref N)
  HB : HeldC K B
  HD : HeldC K D
  HN : HeldC K N
  noB : PySem.W.findIn K (.ref B) "part" = some none
  noD : PySem.W.findIn K (.ref D) "value" = some none
  noN : PySem.W.findIn K (.ref N) "value" = some none
  teB : PySem.W.exmOne K (.ref B) (.ref FE) = some true
  teD : PySem.W.exmOne K (.ref D) (.ref FE) = some true
  teN : PySem.W.exmOne K (.ref N) (.ref FE) = some true
  iBD : PySem.W.kitOne K (.ref B) (.ref D) = some false
  iBN : PySem.W.kitOne K (.ref B) (.ref N) = some false
  iDB : PySem.W.kitOne K (.ref D) (.ref B) = some false
  iDN : PySem.W.kitOne K (.ref D) (.ref N) = some false
  iNB : PySem.W.kitOne K (.ref N) (.ref B) = some false
  iND : PySem.W.kitOne K (.ref N) (.ref D) = some false
  vB : PySem.W.kitOne K (.ref B) (.type "ValueError") = some true
  vD : PySem.W.kitOne K (.ref D) (.type "ValueError") = some true
  vN : PySem.W.kitOne K (.ref N) (.type "ValueError") = some true
abbrev sHeard3 : Stmt := sLHeard
abbrev nHeard : List Str := ["_law_ask", "_law_caught", "_law_found", "error", "_law_some"]
theorem scHeard : FnScope nHeard ["_law_ask"] (defScope sHeard3) := ⟨rfl, rfl, rfl, by decide +kernel, rfl, by decide +kernel, by decide +kernel⟩
section
variable {X : Cx}
theorem heard_gives {B D N FE : Addr} {q : Str} {g : Addr} {cdg : Value} (gd : X.A.guards = some []) {k : Nat} (hr : Room (k + 1) X.A) (T : Blt X.mg) (Z : ThreeH X.K X.mg B D N FE) :
    GivesTo X nHeard "_law_heard" (defScope sHeard3) g cdg (defBody sHeard3) "_law_ask" q (THeard X.K B D N) := by
  intro f c' s H Q tl act hc h
  refine ⟨_, pss_cons (ps_asg (pe_tup (pa_cons pe_non (pa_cons pe_non pa_nil))) (pg_tup (by rfl) (pgs_cons (pg_name (i := 1) scHeard.nd rfl (.inl rfl)) (pgs_cons (pg_name (i := 2) scHeard.nd rfl (.inl rfl)) pgs_nil))))
    (pss_cons (ps_try_held (X := (cxOf C8.CX0 X.prog X.w X.K X.mg X.base nHeard "_law_heard" (defScope sHeard3) g cdg X.A X.stack s H C8.E0).nox) (c := .ref FE) (i := 3) (Wout := fun _ _ _ _ => False)
      (tb := fun W D' σ H => ∃ Ech : XK, (∀ cls d σ' H', Ech cls d H' → W cls d σ' H') ∧ σ[0]? = some (some (.ref f)) ∧ H c' = some (CodeO c' q) ∧ ∀ R : VK, tl Ech H R)
      (ts := fun a cls d => tAsg (tVar 3) (gName 1)) rfl rfl rfl scHeard.nd rfl rfl ⟨rfl, by decide, .inl Z.gF⟩ L2.takes0 (fun W pn xe tk => ?_) (fun a oe cls d pn _ _ => pss_one (ps_set (i := 1) scHeard.nd rfl (.inl rfl) (pv 3))))
    (pss_cons (ps_if (pt_cmpR op_isN (pv 1) pe_non (nomark _)) (pss_one ps_never) pss_nil)
    (pss_cons (ps_set (i := 4) scHeard.nd rfl (.inl rfl) (pe_lst pa_nil))
    (pss_cons (ps_if (pt_val (pe_callB call_isHeld (by rfl) T.isi (by decide +kernel) (pa_cons (pv 1) (pa_cons (pe_glob (v := .ref B) rfl Z.gB rfl) pa_nil))))
      (pss_one (ps_expr (pe_bm PySem.F.plainAttrs_list PySem.F.slot_list_append PySem.F.type_list_append mt_append (pv 4) (pa_cons (pe_tup (pa_cons pe_str (pa_cons (pe_callB (call_reprV gd (Room.units (hr.deeper _))) (by rfl) Z.mr (by decide +kernel) (pa_cons (pe_heldFld (pv 1)) pa_nil)) pa_nil))) pa_nil)))) pss_nil)
    (pss_cons (ps_if (pt_val (pe_callB call_isHeld (by rfl) T.isi (by decide +kernel) (pa_cons (pv 1) (pa_cons (pe_glob (v := .ref D) rfl Z.gD rfl) pa_nil))))
      (pss_one (ps_expr (pe_bm PySem.F.plainAttrs_list PySem.F.slot_list_append PySem.F.type_list_append mt_append (pv 4) (pa_cons (pe_tup (pa_cons pe_str (pa_cons (pe_callB (call_reprV gd (Room.units (hr.deeper _))) (by rfl) Z.mr (by decide +kernel) (pa_cons (pe_heldFld (pv 1)) pa_nil)) pa_nil))) pa_nil)))) pss_nil)
    (pss_cons (ps_if (pt_val (pe_callB call_isHeld (by rfl) T.isi (by decide +kernel) (pa_cons (pv 1) (pa_cons (pe_glob (v := .ref N) rfl Z.gN rfl) pa_nil))))
      (pss_one (ps_expr (pe_bm PySem.F.plainAttrs_list PySem.F.slot_list_append PySem.F.type_list_append mt_append (pv 4) (pa_cons (pe_tup (pa_cons pe_str (pa_cons (pe_callB (call_reprV gd (Room.units (hr.deeper _))) (by rfl) Z.mr (by decide +kernel) (pa_cons (pe_heldFld (pv 1)) pa_nil)) pa_nil))) pa_nil)))) pss_nil)
    (pss_one (ps_ret (pe_ifExp (PW.pt (pw_and (pt_cmpR op_eq (pe_callB call_len_seq (by rfl) T.len PySem.boot_len (pa_cons (pv 4) pa_nil)) pe_int (nomark _))
      (pw_and1 (pt_val (pe_callB call_isHeld (by rfl) T.isi (by decide +kernel) (pa_cons (pv 1) (pa_cons (pe_bltn (v := .ty "ValueError") (by rfl) Z.mv (by decide +kernel) rfl) pa_nil)))))))
      (pe_ix ix_list (pv 4) pe_int (fun _ _ => rfl)) pe_never))))))))), ?_⟩
  · refine ⟨fun pins s' σ H' D' I h' => ?_⟩
    obtain ⟨Ech, hW, h1, h2, h3⟩ := h'
    exact (pss_one (ps_set (i := 2) scHeard.nd rfl (.inl rfl) (act W pn xe Ech _ _ tk hW))).run pins s' σ H' D' I ⟨h1, h2, h3 _⟩
  · refine ⟨(by show 2 ≤ sizeLine; decide), fun t0 nt0 => ⟨t0, _, rfl, SqT.of upd_same, rfl, _, _, rfl, _, _, rfl, rfl, ?_⟩⟩
    have s0 := same_new (o := .tup [.non, .non]) nt0
    have hc0 := s0 _ _ hc
    have h := fun R => h R _ s0
    generalize upd H t0 (.tup [.non, .non]) = H0 at s0 hc0 h ⊢
    refine ⟨_, fun cls d σ' H' z hlen => ?_, rfl, hc0, h⟩
    obtain ⟨dd, v, n, w, x, rfl, ed, sh, hcls, fin⟩ := z
    obtain ⟨x0, x1, x2, x3, x4, rfl⟩ := five' hlen
    have te : PySem.W.exmOne X.K cls (.ref FE) = some true := by
      rcases hcls with ⟨rfl, _⟩ | ⟨rfl, _⟩ | ⟨rfl, _⟩
      · exact Z.teB
      · exact Z.teD
      · exact Z.teN
    refine ⟨true, te, (fun z => by cases z), fun _ a na => ⟨_, rfl, fun _ => ?_⟩⟩
    have sA : Same H' (upd H' a (Held cls (some dd) a)) := same_new na
    have hA : upd H' a (Held cls (some dd) a) a = some (Held cls (some dd) a) := upd_same
    have hD := sA _ _ ed
    generalize upd H' a (Held cls (some dd) a) = HA at sA hA hD
    refine ⟨_, rfl, rfl, _, rfl, iteF ?_⟩
    refine ⟨(by show 0 ≤ sizeLine; decide), fun l nl => ?_⟩
    have hA1 := same_new (o := .lst []) nl _ _ hA
    have hD1 := same_new (o := .lst []) nl _ _ hD
    have sB := sA.trans (same_new (o := .lst []) nl)
    have hl : upd HA l (.lst []) l = some (.lst []) := upd_same
    generalize upd HA l (.lst []) = HB at hA1 hD1 sB hl
    have nlH : H' l = none := Same.gone sA nl
    have tail : ∀ (tq : Addr), HB tq = none →
        upd (upd HB tq (.tup [.str w, .str x])) l (.lst [.ref tq]) a = some (Held cls (some dd) a) ∧ upd (upd HB tq (.tup [.str w, .str x])) l (.lst [.ref tq]) dd = some (.xd [(n, v)]) ∧ upd (upd HB tq (.tup [.str w, .str x])) l (.lst [.ref tq]) l = some (.lst [.ref tq]) ∧
        Q (.ref tq) (upd (upd HB tq (.tup [.str w, .str x])) l (.lst [.ref tq])) := by
      intro tq ntq
      have ltq : l ≠ tq := ne_of_none hl ntq
      have hq : upd (upd HB tq (.tup [.str w, .str x])) l (.lst [.ref tq]) tq = some (.tup [.str w, .str x]) := by rw [upd_ne ltq.symm]; exact upd_same
      refine ⟨?_, ?_, upd_same, ?_⟩
      · rw [upd_ne (fun z => by rw [z, hl] at hA1; exact held_lst (Option.some.inj hA1)), upd_ne (ne_of_none hA1 ntq)]; exact hA1
      · rw [upd_ne (fun z => by rw [z, hl] at hD1; cases hD1), upd_ne (ne_of_none hD1 ntq)]; exact hD1
      · refine fin tq _ (fun b o e => ?_) (Same.gone sB ntq) hq
        rw [upd_ne (ne_of_none e nlH), upd_ne (ne_of_none (sB _ _ e) ntq)]; exact sB _ _ e
    obtain ⟨d, vd, v1, v2, v3, v4⟩ := sh.keep sB
    rcases hcls with ⟨rfl, rfl, rfl⟩ | ⟨rfl, rfl, rfl⟩ | ⟨rfl, rfl, rfl⟩
    · refine ⟨_, rfl, a, B, dd, _, _, _, true, rfl, hA1, hD1, Z.HB, .own B, kit_self, _, rfl, iteT ?_⟩
      refine ⟨_, rfl, .inl ⟨rfl, _, SqL.of hl⟩, _, rfl, a, B, dd, _, v, rfl, hA1, hD1, Z.HB, Z.noB, rfl, v, d, rfl, vd, v1, v2, v3, (by show 2 ≤ sizeLine; decide), fun tq ntq => ?_⟩
      rw [v4]
      obtain ⟨hA3, hD3, hl3, hQ⟩ := tail tq ntq
      refine ⟨l, _, _, rfl, rfl, same_new ntq _ _ hl, (by show 0 < sizeLine; decide), ?_⟩
      refine ⟨_, rfl, a, B, dd, _, _, _, false, rfl, hA3, hD3, Z.HB, .own D, Z.iBD, _, rfl, iteF ?_⟩
      refine ⟨_, rfl, a, B, dd, _, _, _, false, rfl, hA3, hD3, Z.HB, .own N, Z.iBN, _, rfl, iteF ?_⟩
      refine ⟨_, rfl, l, _, rfl, .inl (SqL.of hl3), rfl, _, rfl, iteT ?_⟩
      exact ⟨_, rfl, a, B, dd, _, _, _, true, rfl, hA3, hD3, Z.HB, .ty _, Z.vB, _, rfl, iteT ⟨_, rfl, l, _, 0, _, rfl, rfl, SqL.of hl3, atI_nat (j := 0) rfl, hQ⟩⟩
    · refine ⟨_, rfl, a, D, dd, _, _, _, false, rfl, hA1, hD1, Z.HD, .own B, Z.iDB, _, rfl, iteF ?_⟩
      refine ⟨_, rfl, a, D, dd, _, _, _, true, rfl, hA1, hD1, Z.HD, .own D, kit_self, _, rfl, iteT ?_⟩
      refine ⟨_, rfl, .inl ⟨rfl, _, SqL.of hl⟩, _, rfl, a, D, dd, _, v, rfl, hA1, hD1, Z.HD, Z.noD, rfl, v, d, rfl, vd, v1, v2, v3, (by show 2 ≤ sizeLine; decide), fun tq ntq => ?_⟩
      rw [v4]
      obtain ⟨hA3, hD3, hl3, hQ⟩ := tail tq ntq
      refine ⟨l, _, _, rfl, rfl, same_new ntq _ _ hl, (by show 0 < sizeLine; decide), ?_⟩
      refine ⟨_, rfl, a, D, dd, _, _, _, false, rfl, hA3, hD3, Z.HD, .own N, Z.iDN, _, rfl, iteF ?_⟩
      refine ⟨_, rfl, l, _, rfl, .inl (SqL.of hl3), rfl, _, rfl, iteT ?_⟩
      exact ⟨_, rfl, a, D, dd, _, _, _, true, rfl, hA3, hD3, Z.HD, .ty _, Z.vD, _, rfl, iteT ⟨_, rfl, l, _, 0, _, rfl, rfl, SqL.of hl3, atI_nat (j := 0) rfl, hQ⟩⟩
    · refine ⟨_, rfl, a, N, dd, _, _, _, false, rfl, hA1, hD1, Z.HN, .own B, Z.iNB, _, rfl, iteF ?_⟩
      refine ⟨_, rfl, a, N, dd, _, _, _, false, rfl, hA1, hD1, Z.HN, .own D, Z.iND, _, rfl, iteF ?_⟩
      refine ⟨_, rfl, a, N, dd, _, _, _, true, rfl, hA1, hD1, Z.HN, .own N, kit_self, _, rfl, iteT ?_⟩
      refine ⟨_, rfl, .inl ⟨rfl, _, SqL.of hl⟩, _, rfl, a, N, dd, _, v, rfl, hA1, hD1, Z.HN, Z.noN, rfl, v, d, rfl, vd, v1, v2, v3, (by show 2 ≤ sizeLine; decide), fun tq ntq => ?_⟩
      rw [v4]
      obtain ⟨hA3, hD3, hl3, hQ⟩ := tail tq ntq
      refine ⟨l, _, _, rfl, rfl, same_new ntq _ _ hl, (by show 0 < sizeLine; decide), ?_⟩
      refine ⟨_, rfl, l, _, rfl, .inl (SqL.of hl3), rfl, _, rfl, iteT ?_⟩
      exact ⟨_, rfl, a, N, dd, _, _, _, true, rfl, hA3, hD3, Z.HN, .ty _, Z.vN, _, rfl, iteT ⟨_, rfl, l, _, 0, _, rfl, rfl, SqL.of hl3, atI_nat (j := 0) rfl, hQ⟩⟩
end
end Ev2
set_option maxHeartbeats 1000000
namespace Ev2
open Ev
open PySem L2 PySem.Spec PyProof.Rows RZ LamX
/-! Rules made of numbers that stand there, and what breaks tells of them. -/

theorem told1 : Ev.Row.told (.tn 3 1 0 8 1 0) false 100000000000 300000000001 = some (some .to1, none, [100000000000, 200000000001, 100000000000]) := by decide +kernel
theorem told2 : Ev.Row.told (.tn 2 1 0 1 8 (-6)) true 100000000000 200000000001 = some (none, some .li1, [100000000000, 22222222223, 44444444444, 133333333334]) := by decide +kernel
theorem told3 : (Ev.Row.told (.tn 1 1 1 8 1 0) false 999999999998 1000000000000).isSome = true := by decide +kernel
theorem told4 : Ev.Row.told (.tr 1 1 1) false 100000000000 100000000002 = some (some .li1, some .li1, [100000000000, 25000000000, 25000000001, 50000000001]) := by decide +kernel
theorem told5 : Ev.Row.told (.tn 4 1 0 2 1 (-1)) false 1 8 = some (some .li2, none, [1, 5, 3]) := by decide +kernel
theorem mkr_turn {Ct C tp tq x dx : Addr} {H : Hp} {p q k t s c : Int} {Q : VK} {E : XK} (ok : okN p q k) (ot : okT t s c) (nx : H x = none) (nd : H dx = none) (h1 : H tp = some (.tup [.int p, .int q])) (h2 : H tq = some (.tup [.int t, .int s]))
    (kk : ∀ G, Same H G → ObjAt Ct C G x (.tn p q k t s c) → Q .non G) : Ev.spTurnInit C [.ref x, .ref tp, .int k, .ref tq, .int c] (upd (upd H dx (.own x)) x (.ins C dx [])) Q E := by
  obtain ⟨o1, o2, o3, o4, o5, o6⟩ := ok
  have keep : ∀ (o1 o2 : HO) (b : Addr) (u : HO), H b = some u → upd (upd H dx o1) x o2 b = some u := fun o1 o2 b u e => by
    rw [upd_ne (ne_of_none e nx), upd_ne (ne_of_none e nd)]; exact e
  refine ⟨x, dx, tp, tq, p, q, k, t, s, c, rfl, upd_same, keep _ _ _ _ h1, keep _ _ _ _ h2, o1, o2, o3, o4, o5, o6, ot.1, ot.2.1, ot.2.2.1, ot.2.2.2, fun H3 t3 hx3 => ?_⟩
  have s3 : Same H H3 := fun b u e => t3 _ _ (ne_of_none e nx) (keep _ _ _ _ e)
  exact kk H3 s3 ⟨dx, tp, tq, hx3, s3 _ _ h1, s3 _ _ h2⟩
theorem mkr_try {C Cn tp x dx : Addr} {H : Hp} {p q k : Int} {Q : VK} {E : XK} (ok : okN p q k) (nx : H x = none) (nd : H dx = none) (h1 : H tp = some (.tup [.int p, .int q]))
    (kk : ∀ G, Same H G → ObjAt C Cn G x (.tr p q k) → Q .non G) : Ev.spTryInit C [.ref x, .ref tp, .int k] (upd (upd H dx (.own x)) x (.ins C dx [])) Q E := by
  obtain ⟨o1, o2, o3, o4, o5, o6⟩ := ok
  have keep : ∀ (o1 o2 : HO) (b : Addr) (u : HO), H b = some u → upd (upd H dx o1) x o2 b = some u := fun o1 o2 b u e => by
    rw [upd_ne (ne_of_none e nx), upd_ne (ne_of_none e nd)]; exact e
  refine ⟨x, dx, tp, p, q, k, rfl, upd_same, keep _ _ _ _ h1, o1, o2, o3, o4, o5, o6, fun H3 t3 hx3 => ?_⟩
  have s3 : Same H H3 := fun b u e => t3 _ _ (ne_of_none e nx) (keep _ _ _ _ e)
  exact kk H3 s3 ⟨dx, tp, hx3, s3 _ _ h1⟩
/-- the values that the law draws: no deeds, no weights -/
inductive Od (H : Hp) : V → PyData → Prop
  | non : Od H .non .none
  | int (i : Int) : i.natAbs.log2 < 1920 → (PyData.int i).shown.length ≤ sizeLine → (PyData.str (PyData.int i).shown).canLay0 = true → Od H (.int i) (.int i)
  | bl (b : Bool) : Od H (.bl b) (.bool b)
  | str (x : Str) : (PyData.str x).shown.length ≤ sizeLine → (PyData.str (PyData.str x).shown).canLay0 = true → Od H (.str x) (.str x)
  | tup {a : Addr} : H a = some (.tup []) → Od H (.ref a) (.tuple [])
  | dct {a : Addr} : H a = some (.dK []) → Od H (.ref a) (.dict [])
theorem Od.ext {H H' : Hp} {v : V} {d : PyData} (h : Od H v d) (k : ExtN H H') : Od H' v d := by
  cases h with
  | non => exact .non
  | int i a b c => exact .int i a b c
  | bl b => exact .bl b
  | str x a e => exact .str x a e
  | tup e => exact .tup (k _ _ e (fun _ z => by cases z))
  | dct e => exact .dct (k _ _ e (fun _ z => by cases z))
theorem Od.keep {H H' : Hp} {v : V} {d : PyData} (h : Od H v d) (k : Same H H') : Od H' v d := h.ext fun b o e _ => k b o e
theorem Od.hold {H : Hp} {v : V} {d : PyData} (h : Od H v d) : ∃ us b, Hold H v us b := by
  cases h with
  | non => exact ⟨_, _, .flat flat_non⟩
  | int i a b c => exact ⟨_, _, .flat (flat_int i)⟩
  | bl b => exact ⟨_, _, .flat ⟨fun _ _ => .base (.bl b), by decide +kernel, by decide +kernel, by decide +kernel⟩⟩
  | str x a _ => exact ⟨_, _, .flat (flat_str x)⟩
  | tup e => exact ⟨_, _, .tup e (fun u z => nomatch z) (by decide)⟩
  | dct e => exact ⟨_, _, .dct e (fun u z => nomatch z) (by decide) (by decide)⟩
theorem Od.alike {H H' : Hp} {v v' : V} {d : PyData} (h : Od H v d) (k : Same H H') (a : Alike H v H' v') : Od H' v' d := by
  cases a with
  | same => exact h.keep k
  | lst e1 e2 =>
    cases h with
    | tup e => rw [e] at e1; cases e1
    | dct e => rw [e] at e1; cases e1
  | dct e1 e2 =>
    cases h with
    | tup e => rw [e] at e1; cases e1
    | dct e => rw [e] at e1; cases e1; exact .dct e2
theorem Od.vd {K : PySem.W.Frag} {H : Hp} {v : V} {d : PyData} (h : Od H v d) : Vd K H v d ∧ d.showable = true ∧ d.depth ≤ 32 ∧ d.shown.length ≤ sizeLine := by
  cases h with
  | non => exact ⟨.plain .non rfl, rfl, by decide, by decide +kernel⟩
  | int i a b c => exact ⟨.plain (.int i) rfl, decide_eq_true a, by show 0 ≤ 32; decide, b⟩
  | bl b => exact ⟨.plain (.bl b) rfl, rfl, by show 0 ≤ 32; decide, by cases b <;> decide +kernel⟩
  | str x a _ => exact ⟨.plain (.str x) rfl, rfl, by show 0 ≤ 32; decide, a⟩
  | tup e => exact ⟨.plain (.tup (SqT.of e) .nil) rfl, by decide +kernel, by decide, by decide +kernel⟩
  | dct e => exact ⟨.dct e rfl .nil, by decide +kernel, by decide, by decide +kernel⟩
theorem Od.lay {H : Hp} {v : V} {d : PyData} (h : Od H v d) : (PyData.str d.shown).canLay0 = true := by
  cases h with
  | non => decide +kernel
  | int i a b c => exact c
  | bl b => cases b <;> decide +kernel
  | str x a e => exact e
  | tup e => decide +kernel
  | dct e => decide +kernel
theorem lam_any {K : PySem.W.Frag} {TL : List (Addr × Str)} {B D N C : Addr} {n w : Str} {t : XK → TE} {σ : L2.St} {H : Hp} {Q : VK} {v : V} {d : PyData} (hv : Od H v d) (hT : Tabs TL H) (hC : ((.ref C : Value) = .ref B ∧ n = "part" ∧ w = "rule") ∨ ((.ref C : Value) = .ref D ∧ n = "value" ∧ w = "deeds") ∨ ((.ref C : Value) = .ref N ∧ n = "value" ∧ w = "number"))
    (ht : ∀ (H1 : Hp) (E' : XK) (Q' : VK), ExtN H H1 → Od H1 v d → (∀ G, Same H1 G → Told C n G v E') → t E' σ H1 Q')
    (k : ∀ (r : Addr) (H1 G : Hp), ExtN H H1 → Tabs TL H1 → Same H1 G → G r = some (.tup [.str w, .str d.shown]) → Q (.ref r) G) : tLam TL (THeard K B D N) t σ H Q := by
  refine ⟨hT, fun H1 e1 T1 R H2 s2 => ?_⟩
  have e2 : ExtN H H2 := e1.trans (fun b o e _ => s2 b o e)
  refine ht H2 _ _ e2 (hv.ext e2) fun H3 s3 => ?_
  intro a v' H' s' nd hd al
  have h' := ((hv.ext e2).keep s3).alike s' al
  obtain ⟨v1, v2, v3, v4⟩ := h'.vd (K := K)
  exact ⟨a, v', n, w, d.shown, rfl, hd, ⟨d, v1, v2, v3, v4, rfl⟩, hC, fun r G sG nr hr => k r H1 G e1 T1 (s2.trans (s3.trans (s'.trans sG))) hr⟩
end Ev2
set_option maxHeartbeats 2000000
namespace Ev2
open Ev
open PySem L2 PySem.Spec PyProof.Rows RZ LamX
/-! The law's end: five pairs that are told. -/
abbrev nLaw : List Str := ["_law_script", "_law_pen_here", "_law_lap", "_law_some", "_law_row", "_law_deed", "_law_a", "_law_four", "_law_wild", "_law_odd", "_law_bad", "_law_heard_here", "_law_due_here", "_law_far", "_law_told", "_law_numbers_here", "_law_first"]
abbrev psN : List Str := ["self", "times", "plus", "turn", "turn_plus"]
abbrev psW : List Str := ["self", "deed", "once", "twice", "numbers"]
theorem pw_imp {n m r : Int} (e : n ^ m.toNat = r) (c : CPow n m) (σ : L2.St) (H : Hp) (Q : VK) (h : tC (.int r) σ H Q) : tOp (rI CPow fun i j => .int (i ^ j.toNat)) (tC (.int n)) (tC (.int m)) σ H Q := by
  refine ⟨_, _, rfl, rfl, c, ?_⟩
  show Q (.int (n ^ m.toNat)) H
  rw [e]
  exact h
theorem ad_imp {n m r : Int} (e : n + m = r) {te : TE} (σ : L2.St) (H : Hp) (Q : VK) (hm : ∀ Q : VK, Q (.int n) H → te σ H Q) (h : Q (.int r) H) : tOp (rI0 fun i j => .int (i + j)) te (tC (.int m)) σ H Q := by
  refine hm _ ⟨_, _, rfl, rfl, ?_⟩
  show Q (.int (n + m)) H
  rw [e]
  exact h
/-- what a fair pair of Wrongs comes to -/
theorem wr_ne {K : PySem.W.Frag} {W x y : Addr} {H : Hp} {p : Bool} {o t : Option Bk} {ns : List Int} {Q : VK} (C : WC K W) (I : Ev.InsT K W) (hx : WrAt K W H x p o t ns) (hy : WrAt K W H y p o t ns) (k : Q (.bl false) H) : rOwnB K W (spWrE K W) E0 true (.ref x) (.ref y) H Q := by
  refine wr_op C I hx hy ?_
  simp only [decide_true, Bool.and_self, Bool.xor_self]
  exact k
theorem bkv {K : PySem.W.Frag} {H : Hp} {t : Addr} {b : Bk} {n s : Str} (h : H t = some (.tup [.str n, .str s])) (e1 : b.n = n) (e2 : b.s = s) : BkV K H (.ref t) (some b) := ⟨t, rfl, by rw [e1, e2]; exact SqT.of h⟩
section
variable {P : Program} {w : World} {K : PySem.W.Frag} {mg : Str → Option Value} {base : Heap}
theorem scLaw : FnScope nLaw ["_law_script"] (defScope sLaw) := ⟨rfl, rfl, rfl, by decide +kernel, rfl, by decide +kernel, by decide +kernel⟩
/-- what the rules are made by -/
structure RuM (P : Program) (w : World) (K : PySem.W.Frag) (mg : Str → Option Value) (base : Heap) (Ct Cn : Addr) : Prop where
  gT : mg "TryRule" = some (.ref Ct)
  gN : mg "TurnRule" = some (.ref Cn)
  t : ∃ (f : Addr) (fd : FuncData), Mk K Ct f ∧ FnOk P w K mg base CX0 6 f fd ["self", "times", "plus"] (Ev.spTryInit Ct) ∧ Binds K fd ["self", "times", "plus"] []
  n : ∃ (f : Addr) (fd : FuncData), Mk K Cn f ∧ FnOk P w K mg base CX0 6 f fd psN (Ev.spTurnInit Cn) ∧ (∃ g, KBn K fd psN 2 ["turn"] g (fun vs zs => vs ++ ([.int 0] ++ (zs ++ [.int 0])))) ∧ (∃ g, KBn K fd psN 2 ["turn", "turn_plus"] g (fun vs zs => vs ++ ([.int 0] ++ zs))) ∧ (∃ g, KBn K fd psN 3 ["turn"] g (fun vs zs => vs ++ (zs ++ [.int 0])))
theorem law_end {f Ct Cn W cc f3 : Addr} {fd3 : FuncData} {A : Around} {outer : List Env} {s : Shared} {H : Hp} {E : XK} (T : Blt mg) (VV : VW P w K mg base W) (RM : RuM P w K mg base Ct Cn)
    (G3 : FnOk P w K mg base CX0 7 f3 fd3 ["rule", "deed", "light", "heavy"] (spBreaks K W Ct Cn)) (g3 : mg "breaks" = some (.ref f3)) (k3 : PySem.W.keepIn K (.ref f3) = true) (b3 : Binds K fd3 ["rule", "deed", "light", "heavy"] [])
    (D5 : Df P w K mg base 8 "_law_rule" ["_law_some"] (spRule3 Ct Cn))
    (hr : Room 11 (cxOf CX0 P w K mg base nLaw "law" (defScope sLaw) f (.ref cc) A outer s H E).nox.A) :
    ∃ t : TS, PSs (cxOf CX0 P w K mg base nLaw "law" (defScope sLaw) f (.ref cc) A outer s H E).nox ((defBody sLaw).drop 10) t ∧ ∀ (D : Ends) (G : Hp) (four lh ld : Addr) (ds : List PyData) (x0 x1 x2 x3 x4 x5 x6 x8 x9 x10 x13 x14 x15 x16 : Option V),
      G four = some (.tup (Ev.Row.tn 4 1 0 2 1 (-1)).vs) → Dp K G (.ref lh) (.list ds) → Dp K G (.ref ld) (.list ds) → SeqAt.shaped (.list ds) = true → PyData.eqv (.list ds) (.list ds) = true → (∀ G', D.rt (.bl true) G') →
      t D [x0, x1, x2, x3, x4, x5, x6, some (.ref four), x8, x9, x10, some (.ref lh), some (.ref ld), x13, x14, x15, x16] G := by
  obtain ⟨f5, fd5, G5, g5, k5, b5⟩ := D5.ex
  obtain ⟨gW, fW, fdW, MW, GW, bW⟩ := VV.mW
  obtain ⟨fE, EW, e1, e2⟩ := VV.eq
  obtain ⟨gT, gN, ⟨fT, fdT, MT, GT, bT⟩, ⟨fN, fdN, MN, GN, ⟨gn1, bN1⟩, ⟨gn2, bN2⟩, ⟨gn3, bN3⟩⟩⟩ := RM
  have hu : (cxOf CX0 P w K mg base nLaw "law" (defScope sLaw) f (.ref cc) A outer s H E).nox.A.units + 64 < cLine := Room.units hr
  have hr1 : Room 1 (cxOf CX0 P w K mg base nLaw "law" (defScope sLaw) f (.ref cc) A outer s H E).nox.A := hr.mono (by decide)
  have hr2 : Room 2 (cxOf CX0 P w K mg base nLaw "law" (defScope sLaw) f (.ref cc) A outer s H E).nox.A := hr.mono (by decide)
  refine ⟨_, (pss_cons (ps_set (i := 13) scLaw.nd rfl (.inl rfl) (pe_imp (t' := tC (.int 100000000000)) (pe_op op_pow pe_int pe_int) (pw_imp (by decide +kernel) ⟨by decide, by decide, by decide⟩)))
    (pss_cons (ps_set (i := 14) scLaw.nd rfl (.inl rfl) (pe_call G3 (hr.mono (by decide)) (by rfl) g3 k3 b3 .nil pass0 (pa_cons (pe_makeN (n := 1) MN GN (hr.mono (by decide)) (by rfl) gN bN1 pass0 (pa_cons (pe_tup (pa_cons pe_int (pa_cons pe_int pa_nil))) pa_nil) (pk_cons (pe_tup (pa_cons pe_int (pa_cons pe_int pa_nil))) pk_nil)) (pa_cons pe_str (pa_cons (pv 13) (pa_cons (pe_op op_add (pe_op op_mul pe_int (pv 13)) pe_int) pa_nil))))))
    (pss_cons (ps_if (pt_cmpR (op_neO (E := E0) e1 VV.ne VV.it.hm e2 EW hr2 pass0) (pv 14) (pe_make MW GW (hr.mono (by decide)) (by rfl) gW bW .nil pass0 (pa_cons pe_str (pa_cons (pe_tup (pa_cons pe_str (pa_cons pe_str pa_nil))) (pa_cons pe_non (pa_cons (pe_tup (pa_cons (pv 13) (pa_cons (pe_op op_add (pe_op op_mul pe_int (pv 13)) pe_int) (pa_cons (pv 13) pa_nil)))) pa_nil))))) (nomark _))
      (pss_one (ps_ret pe_bl)) pss_nil)
    (pss_cons (ps_set (i := 14) scLaw.nd rfl (.inl rfl) (pe_call G3 (hr.mono (by decide)) (by rfl) g3 k3 b3 .nil pass0 (pa_cons (pe_makeN (n := 1) MN GN (hr.mono (by decide)) (by rfl) gN bN2 pass0 (pa_cons (pe_tup (pa_cons pe_int (pa_cons pe_int pa_nil))) pa_nil) (pk_cons (pe_tup (pa_cons pe_int (pa_cons pe_int pa_nil))) (pk_cons (pe_un un_neg pe_int) pk_nil))) (pa_cons pe_str (pa_cons (pv 13) (pa_cons (pe_op op_add (pe_op op_mul pe_int (pv 13)) pe_int) pa_nil))))))
    (pss_cons (ps_set (i := 15) scLaw.nd rfl (.inl rfl) (pe_tup (pa_cons (pv 13) (pa_cons pe_int (pa_cons pe_int (pa_cons pe_int pa_nil))))))
    (pss_cons (ps_if (pt_cmpR (op_neO (E := E0) e1 VV.ne VV.it.hm e2 EW hr2 pass0) (pv 14) (pe_make MW GW (hr.mono (by decide)) (by rfl) gW bW .nil pass0 (pa_cons pe_str (pa_cons pe_non (pa_cons (pe_tup (pa_cons pe_str (pa_cons pe_str pa_nil))) (pa_cons (pv 15) pa_nil))))) (nomark _))
      (pss_one (ps_ret pe_bl)) pss_nil)
    (pss_cons (ps_if (pt_not (pt_val (pe_callB call_isi (by rfl) T.isi (by decide +kernel) (pa_cons (pe_call G3 (hr.mono (by decide)) (by rfl) g3 k3 b3 .nil pass0 (pa_cons (pe_makeN (n := 2) MN GN (hr.mono (by decide)) (by rfl) gN bN3 pass0 (pa_cons (pe_tup (pa_cons pe_int (pa_cons pe_int pa_nil))) (pa_cons pe_int pa_nil)) (pk_cons (pe_tup (pa_cons pe_int (pa_cons pe_int pa_nil))) pk_nil)) (pa_cons pe_str (pa_cons (pe_op op_sub (pe_imp (t' := tC (.int 1000000000000)) (pe_op op_pow pe_int pe_int) (pw_imp (by decide +kernel) ⟨by decide, by decide, by decide⟩)) pe_int) (pa_cons (pe_imp (t' := tC (.int 1000000000000)) (pe_op op_pow pe_int pe_int) (pw_imp (by decide +kernel) ⟨by decide, by decide, by decide⟩)) pa_nil))))) (pa_cons (pe_glob (v := .ref W) rfl gW rfl) pa_nil)))))
      (pss_one (ps_ret pe_bl)) pss_nil)
    (pss_cons (ps_par (i := 15) (j := 16) (by rfl) scLaw.nd rfl rfl (by decide) rfl rfl (pa_cons (pe_tup (pa_cons (pv 13) (pa_cons pe_int (pa_cons pe_int (pa_cons pe_int pa_nil))))) (pa_cons (pe_tup (pa_cons pe_str (pa_cons pe_str pa_nil))) pa_nil)) (by rfl))
    (pss_cons (ps_if (pt_cmpR (op_neO (E := E0) e1 VV.ne VV.it.hm e2 EW hr2 pass0) (pe_call G3 (hr.mono (by decide)) (by rfl) g3 k3 b3 .nil pass0 (pa_cons (pe_make MT GT (hr.mono (by decide)) (by rfl) gT bT .nil pass0 (pa_cons (pe_tup (pa_cons pe_int (pa_cons pe_int pa_nil))) (pa_cons pe_int pa_nil))) (pa_cons pe_str (pa_cons (pv 13) (pa_cons (pe_op op_add (pv 13) pe_int) pa_nil))))) (pe_make MW GW (hr.mono (by decide)) (by rfl) gW bW .nil pass0 (pa_cons pe_str (pa_cons (pv 16) (pa_cons (pv 16) (pa_cons (pv 15) pa_nil))))) (nomark _))
      (pss_one (ps_ret pe_bl)) pss_nil)
    (pss_one (ps_ret (pe_and (pe_cmpR (op_eqD hu) (pv 11) (pv 12) (nomark _)) (pe_one (pe_cmpR (op_eqO (E := E0) e1 e2 EW hr1 pass0) (pe_call G3 (hr.mono (by decide)) (by rfl) g3 k3 b3 .nil pass0 (pa_cons (pe_call G5 (hr.mono (by decide)) (by rfl) g5 k5 b5 .nil pass0 (pa_cons (pv 7) pa_nil)) (pa_cons pe_str (pa_cons pe_int (pa_cons pe_int pa_nil))))) (pe_make MW GW (hr.mono (by decide)) (by rfl) gW bW .nil pass0 (pa_cons pe_str (pa_cons (pe_tup (pa_cons pe_str (pa_cons pe_str pa_nil))) (pa_cons pe_non (pa_cons (pe_tup (pa_cons pe_int (pa_cons pe_int (pa_cons pe_int pa_nil)))) pa_nil))))) (nomark _))))))))))))))), ?_⟩
  intro D G four lh ld ds x0 x1 x2 x3 x4 x5 x6 x8 x9 x10 x13 x14 x15 x16 h4 dh dd sh ee kk
  -- the first rule
  refine ⟨(by show 2 ≤ sizeLine; decide), fun t1 n1 => ?_⟩
  have s1 := same_new (o := .tup [.int 3, .int 1]) n1
  have h1 : upd G t1 (.tup [.int 3, .int 1]) t1 = some (.tup [.int 3, .int 1]) := upd_same
  generalize upd G t1 (.tup [.int 3, .int 1]) = H1 at s1 h1 ⊢
  refine ⟨(by show 2 ≤ sizeLine; decide), fun t2 n2 => ?_⟩
  have s2 := same_new (o := .tup [.int 8, .int 1]) n2
  have h2 : upd H1 t2 (.tup [.int 8, .int 1]) t2 = some (.tup [.int 8, .int 1]) := upd_same
  generalize upd H1 t2 (.tup [.int 8, .int 1]) = H2 at s2 h2 ⊢
  have ok1 : (Ev.Row.tn 3 1 0 8 1 0).ok := ⟨⟨by decide, by decide, by decide, by decide, by decide, by decide⟩, ⟨⟨by decide, by decide⟩, ⟨by decide, by decide⟩, by decide, by decide⟩⟩
  have ok2 : (Ev.Row.tn 2 1 0 1 8 (-6)).ok := ⟨⟨by decide, by decide, by decide, by decide, by decide, by decide⟩, ⟨⟨by decide, by decide⟩, ⟨by decide, by decide⟩, by decide, by decide⟩⟩
  have ok3 : (Ev.Row.tn 1 1 1 8 1 0).ok := ⟨⟨by decide, by decide, by decide, by decide, by decide, by decide⟩, ⟨⟨by decide, by decide⟩, ⟨by decide, by decide⟩, by decide, by decide⟩⟩
  have ok4 : (Ev.Row.tr 1 1 1).ok := ⟨by decide, by decide, by decide, by decide, by decide, by decide⟩
  have ok5 : (Ev.Row.tn 4 1 0 2 1 (-1)).ok := ⟨⟨by decide, by decide, by decide, by decide, by decide, by decide⟩, ⟨⟨by decide, by decide⟩, ⟨by decide, by decide⟩, by decide, by decide⟩⟩
  refine ⟨rfl, rfl, fun x dx nx nd ne => mkr_turn (Ct := Ct) (p := 3) (q := 1) (k := 0) (t := 8) (s := 1) (c := 0) ok1.1 ok1.2 nx nd (s2 _ _ h1) h2 fun H3 s3 ob => ⟨rfl, ?_⟩⟩
  refine ⟨_, rfl, _, rfl, _, _, rfl, rfl, .inl ⟨by decide, by decide⟩, _, _, rfl, rfl, x, .tn 3 1 0 8 1 0, false, 100000000000, 300000000001, rfl, ob, ok1, ⟨by decide, by decide⟩, ⟨by decide, by decide⟩, fun v H4 s4 wv => ?_⟩
  rw [told1] at wv
  obtain ⟨y, rfl, wy⟩ := wv.at
  have s04 := ((s1.trans s2).trans s3).trans s4
  clear ob h1 h2 n1 n2 nx nd ne
  refine ⟨_, rfl, (by show 2 ≤ sizeLine; decide), fun t3 n3 => ?_⟩
  have s5 := same_new (o := .tup [.str "top", .str "first"]) n3
  have h5 : upd H4 t3 (.tup [.str "top", .str "first"]) t3 = some (.tup [.str "top", .str "first"]) := upd_same
  generalize upd H4 t3 (.tup [.str "top", .str "first"]) = H5 at s5 h5 ⊢
  refine ⟨_, rfl, _, rfl, _, _, rfl, rfl, .inl ⟨by decide, by decide⟩, _, _, rfl, rfl, _, rfl, (by show 3 ≤ sizeLine; decide), fun t4 n4 => ?_⟩
  have s6 := same_new (o := .tup [.int 100000000000, .int 200000000001, .int 100000000000]) n4
  refine fun x2 dx2 nx2 nd2 ne2 => mkr_wr (put := false) (o := some .to1) (t := none) (ns := [100000000000, 200000000001, 100000000000]) nx2 nd2 ne2 (bkv (s6 _ _ h5) rfl rfl) rfl upd_same fun H7 s7 wz => ⟨rfl, ?_⟩
  refine wr_ne VV.wc VV.it (wy.keep ((s5.trans s6).trans s7)) wz ⟨_, rfl, iteF ?_⟩
  have s07 := ((s04.trans s5).trans s6).trans s7
  clear wv wy wz h5 n3 n4 nx2 nd2 ne2 s1 s2 s3 s4 s5 s6 s7 s04
  -- the second rule
  refine ⟨(by show 2 ≤ sizeLine; decide), fun t1 n1 => ?_⟩
  have s1 := same_new (o := .tup [.int 2, .int 1]) n1
  have h1 : upd H7 t1 (.tup [.int 2, .int 1]) t1 = some (.tup [.int 2, .int 1]) := upd_same
  generalize upd H7 t1 (.tup [.int 2, .int 1]) = H8 at s1 h1 ⊢
  refine ⟨(by show 2 ≤ sizeLine; decide), fun t2 n2 => ?_⟩
  have s2 := same_new (o := .tup [.int 1, .int 8]) n2
  have h2 : upd H8 t2 (.tup [.int 1, .int 8]) t2 = some (.tup [.int 1, .int 8]) := upd_same
  generalize upd H8 t2 (.tup [.int 1, .int 8]) = H9 at s2 h2 ⊢
  refine ⟨_, rfl, ?_⟩
  refine ⟨rfl, rfl, fun x dx nx nd ne => mkr_turn (Ct := Ct) (p := 2) (q := 1) (k := 0) (t := 1) (s := 8) (c := -6) ok2.1 ok2.2 nx nd (s2 _ _ h1) h2 fun H10 s3 ob => ⟨rfl, ?_⟩⟩
  refine ⟨_, rfl, _, rfl, _, _, rfl, rfl, .inl ⟨by decide, by decide⟩, _, _, rfl, rfl, x, .tn 2 1 0 1 8 (-6), true, 100000000000, 200000000001, rfl, ob, ok2, ⟨by decide, by decide⟩, ⟨by decide, by decide⟩, fun v H11 s4 wv => ?_⟩
  rw [told2] at wv
  obtain ⟨y, rfl, wy⟩ := wv.at
  have s11 := (((s07.trans s1).trans s2).trans s3).trans s4
  clear ob h1 h2 n1 n2 nx nd ne
  refine ⟨_, rfl, (by show 4 ≤ sizeLine; decide), fun t3 n3 => ?_⟩
  have s5 := same_new (o := .tup [.int 100000000000, .int 22222222223, .int 44444444444, .int 133333333334]) n3
  have h5 : upd H11 t3 (.tup [.int 100000000000, .int 22222222223, .int 44444444444, .int 133333333334]) t3 = some (.tup [.int 100000000000, .int 22222222223, .int 44444444444, .int 133333333334]) := upd_same
  generalize upd H11 t3 (.tup [.int 100000000000, .int 22222222223, .int 44444444444, .int 133333333334]) = H12 at s5 h5 ⊢
  refine ⟨_, rfl, (by show 2 ≤ sizeLine; decide), fun t4 n4 => ?_⟩
  have s6 := same_new (o := .tup [.str "light", .str "first"]) n4
  refine ⟨_, rfl, fun x2 dx2 nx2 nd2 ne2 => mkr_wr (put := true) (o := none) (t := some .li1) (ns := [100000000000, 22222222223, 44444444444, 133333333334]) nx2 nd2 ne2 rfl (bkv upd_same rfl rfl) (s6 _ _ h5) fun H13 s7 wz => ⟨rfl, ?_⟩⟩
  refine wr_ne VV.wc VV.it (wy.keep ((s5.trans s6).trans s7)) wz ⟨_, rfl, iteF ?_⟩
  have s13 := ((s11.trans s5).trans s6).trans s7
  clear wv wy wz h5 n3 n4 nx2 nd2 ne2 s1 s2 s3 s4 s5 s6 s7 s11 s07
  -- the third rule
  refine ⟨(by show 2 ≤ sizeLine; decide), fun t1 n1 => ?_⟩
  have s1 := same_new (o := .tup [.int 1, .int 1]) n1
  have h1 : upd H13 t1 (.tup [.int 1, .int 1]) t1 = some (.tup [.int 1, .int 1]) := upd_same
  generalize upd H13 t1 (.tup [.int 1, .int 1]) = H14 at s1 h1 ⊢
  refine ⟨(by show 2 ≤ sizeLine; decide), fun t2 n2 => ?_⟩
  have s2 := same_new (o := .tup [.int 8, .int 1]) n2
  have h2 : upd H14 t2 (.tup [.int 8, .int 1]) t2 = some (.tup [.int 8, .int 1]) := upd_same
  generalize upd H14 t2 (.tup [.int 8, .int 1]) = H15 at s2 h2 ⊢
  refine ⟨rfl, rfl, fun x dx nx nd ne => mkr_turn (Ct := Ct) (p := 1) (q := 1) (k := 1) (t := 8) (s := 1) (c := 0) ok3.1 ok3.2 nx nd (s2 _ _ h1) h2 fun H16 s3 ob => ⟨rfl, ?_⟩⟩
  refine ⟨_, _, rfl, rfl, x, .tn 1 1 1 8 1 0, false, 999999999998, 1000000000000, rfl, ob, ok3, ⟨by decide, by decide⟩, ⟨by decide, by decide⟩, fun v H17 s4 wv => ?_⟩
  obtain ⟨⟨o3, t3, n3⟩, e3⟩ := Option.isSome_iff_exists.mp told3
  rw [e3] at wv
  obtain ⟨y, rfl, wy⟩ := wv.at
  have s17 := (((s13.trans s1).trans s2).trans s3).trans s4
  refine ⟨_, _, _, _, true, rfl, .own W, wy.ty VV.wc VV.it, kit_self, _, rfl, iteF ?_⟩
  clear ob h1 h2 n1 n2 nx nd ne wv wy s1 s2 s3 s4 s13
  -- the fourth
  refine ⟨_, rfl, (by show 4 ≤ sizeLine; decide), fun t5 n5 => ?_⟩
  have s5 := same_new (o := .tup [.int 100000000000, .int 25000000000, .int 25000000001, .int 50000000001]) n5
  have h5 : upd H17 t5 (.tup [.int 100000000000, .int 25000000000, .int 25000000001, .int 50000000001]) t5 = some (.tup [.int 100000000000, .int 25000000000, .int 25000000001, .int 50000000001]) := upd_same
  generalize upd H17 t5 (.tup [.int 100000000000, .int 25000000000, .int 25000000001, .int 50000000001]) = H18 at s5 h5 ⊢
  refine ⟨(by show 2 ≤ sizeLine; decide), fun t6 n6 => ?_⟩
  have s6 := same_new (o := .tup [.str "light", .str "first"]) n6
  have h6 : upd H18 t6 (.tup [.str "light", .str "first"]) t6 = some (.tup [.str "light", .str "first"]) := upd_same
  generalize upd H18 t6 (.tup [.str "light", .str "first"]) = H19 at s6 h6 ⊢
  refine ⟨_, _, rfl, ?_⟩
  refine ⟨(by show 2 ≤ sizeLine; decide), fun t1 n1 => ?_⟩
  have s1 := same_new (o := .tup [.int 1, .int 1]) n1
  have h1 : upd H19 t1 (.tup [.int 1, .int 1]) t1 = some (.tup [.int 1, .int 1]) := upd_same
  generalize upd H19 t1 (.tup [.int 1, .int 1]) = H20 at s1 h1 ⊢
  refine fun x dx nx nd ne => mkr_try (Cn := Cn) (p := 1) (q := 1) (k := 1) ok4 nx nd h1 fun H21 s3 ob => ⟨rfl, ?_⟩
  refine ⟨_, rfl, _, rfl, _, _, rfl, rfl, x, .tr 1 1 1, false, 100000000000, 100000000002, rfl, ob, ok4, ⟨by decide, by decide⟩, ⟨by decide, by decide⟩, fun v H22 s4 wv => ?_⟩
  rw [told4] at wv
  obtain ⟨y, rfl, wy⟩ := wv.at
  have s1922 := (s1.trans s3).trans s4
  have h6' := s1922 _ _ h6
  have h5' := s1922 _ _ (s6 _ _ h5)
  refine ⟨_, rfl, _, rfl, _, rfl, fun x2 dx2 nx2 nd2 ne2 => mkr_wr (put := false) (o := some .li1) (t := some .li1) (ns := [100000000000, 25000000000, 25000000001, 50000000001]) nx2 nd2 ne2 (bkv h6' rfl rfl) (bkv h6' rfl rfl) h5' fun H23 s7 wz => ⟨rfl, ?_⟩⟩
  refine wr_ne VV.wc VV.it (wy.keep s7) wz ⟨_, rfl, iteF ?_⟩
  have s23 := (((s17.trans s5).trans s6).trans s1922).trans s7
  clear wv wy wz ob nx2 nd2 ne2 s1 s3 s4 s5 s6 s7 s17 s1922 h1 h5 h6 h5' h6' nx nd ne n1 n5 n6
  -- the lists, and the last pair
  refine ⟨_, rfl, _, rfl, .list ds, .list ds, dp_keep s23 _ _ dh, dp_keep s23 _ _ dd, sh, sh, ?_⟩
  rw [ee]
  refine ⟨_, rfl, iteT ?_⟩
  refine ⟨_, rfl, four, .tn 4 1 0 2 1 (-1), rfl, s23 _ _ h4, ok5, fun x H24 s1 ob => ?_⟩
  refine ⟨x, .tn 4 1 0 2 1 (-1), false, 1, 8, rfl, ob, ok5, ⟨by decide, by decide⟩, ⟨by decide, by decide⟩, fun v H25 s2 wv => ?_⟩
  rw [told5] at wv
  obtain ⟨y, rfl, wy⟩ := wv.at
  refine ⟨(by show 2 ≤ sizeLine; decide), fun t3 n3 => ?_⟩
  have s5 := same_new (o := .tup [.str "light", .str "second"]) n3
  have h5 : upd H25 t3 (.tup [.str "light", .str "second"]) t3 = some (.tup [.str "light", .str "second"]) := upd_same
  generalize upd H25 t3 (.tup [.str "light", .str "second"]) = H26 at s5 h5 ⊢
  refine ⟨(by show 3 ≤ sizeLine; decide), fun t4 n4 => ?_⟩
  have s6 := same_new (o := .tup [.int 1, .int 5, .int 3]) n4
  refine fun x2 dx2 nx2 nd2 ne2 => mkr_wr (put := false) (o := some .li2) (t := none) (ns := [1, 5, 3]) nx2 nd2 ne2 (bkv (s6 _ _ h5) rfl rfl) rfl upd_same fun H27 s7 wz => ⟨rfl, ?_⟩
  refine wr_op VV.wc VV.it (wy.keep ((s5.trans s6).trans s7)) wz ?_
  simp only [decide_true, Bool.and_self, Bool.false_xor]
  exact kk _
end
end Ev2
set_option maxHeartbeats 2000000
namespace Ev2
open Ev
open PySem L2 PySem.Spec PyProof.Rows RZ LamX
/-! What is heard of four calls. -/
theorem Tabs.but {T : List (Addr × Str)} {p : Addr} {H H' : Hp} {xs : List V} (t : Tabs T H) (hp : H p = some (.lst xs)) (k : But p H H') : Tabs T H' := by
  intro q hq
  obtain ⟨ps, h1, h2, h3⟩ := t q hq
  refine ⟨ps, k _ _ (fun z => by rw [z, hp] at h1; cases h1) h1, h2, fun pos cv hc => ?_⟩
  obtain ⟨c, e1, e2⟩ := h3 pos cv hc
  refine ⟨c, e1, k _ _ (fun z => ?_) e2⟩
  rw [z, hp] at e2
  have e3 : HO.lst xs = HO.ext _ := Option.some.inj e2
  cases e3
theorem Od.but {H H' : Hp} {v : V} {d : PyData} {l : Addr} {xs : List V} (h : Od H v d) (hl : H l = some (.lst xs)) (k : But l H H') : Od H' v d := by
  cases h with
  | non => exact .non
  | int i a b c => exact .int i a b c
  | bl b => exact .bl b
  | str x a e => exact .str x a e
  | tup e => exact .tup (k _ _ (ne_of e hl (by intro z; cases z)) e)
  | dct e => exact .dct (k _ _ (ne_of e hl (by intro z; cases z)) e)
theorem tup_but {H H' : Hp} {a l : Addr} {xs ys : List V} (h : H a = some (.tup ys)) (hl : H l = some (.lst xs)) (k : But l H H') : H' a = some (.tup ys) := k _ _ (ne_of h hl (by intro z; cases z)) h
/-- a pair of texts -/
def PrS (H : Hp) (a : Addr) (x y : Str) : Prop := H a = some (.tup [.str x, .str y])
def prD (x y : Str) : PyData := .tuple [.str x, .str y]
theorem PrS.dp {K : PySem.W.Frag} {H : Hp} {a : Addr} {x y : Str} (h : PrS H a x y) : Dp K H (.ref a) (prD x y) := .tup (SqT.of h) (.cons (.str _) (.cons (.str _) .nil))
def fourD (x y : Str) : List PyData := [prD "rule" (PyData.str "rule").shown, prD "deeds" x, prD "number" y, prD "number" y]
theorem four_dp {K : PySem.W.Frag} {H : Hp} {l a b c d : Addr} {x y : Str} (hl : H l = some (.lst [.ref a, .ref b, .ref c, .ref d])) (h1 : PrS H a "rule" (PyData.str "rule").shown) (h2 : PrS H b "deeds" x) (h3 : PrS H c "number" y) (h4 : PrS H d "number" y) : Dp K H (.ref l) (.list (fourD x y)) :=
  .lst (SqL.of hl) (.cons h1.dp (.cons h2.dp (.cons h3.dp (.cons h4.dp .nil))))
theorem four_shaped {x y : Str} (hx : (PyData.str x).canLay0 = true) (hy : (PyData.str y).canLay0 = true) : SeqAt.shaped (.list (fourD x y)) = true := by
  have e1 : (PyData.str ("rule" : Str)).canLay0 = true := by decide +kernel
  have e2 : (PyData.str ("deeds" : Str)).canLay0 = true := by decide +kernel
  have e3 : (PyData.str ("number" : Str)).canLay0 = true := by decide +kernel
  have e4 : (PyData.str (PyData.str ("rule" : Str)).shown).canLay0 = true := by decide +kernel
  unfold SeqAt.shaped
  rw [Bool.and_eq_true]
  refine ⟨?_, by simp [PyData.depth, PyData.depthAll, fourD, prD]⟩
  simp only [fourD, prD, PyData.canLay0, PyData.canLayAll0, Bool.and_true, Bool.and_eq_true] at hx hy e1 e2 e3 e4 ⊢
  exact ⟨⟨e1, e4⟩, ⟨e2, hx⟩, ⟨e3, hy⟩, e3, hy⟩
theorem str_eqv (x : Str) : PyData.eqv (.str x) (.str x) = true := by
  show (x == x) = true
  simp
theorem four_eqv (x y : Str) : PyData.eqv (.list (fourD x y)) (.list (fourD x y)) = true := by
  simp [fourD, prD, PyData.eqv, PyData.eqvAll, str_eqv]
/-- the heard call -/
structure HeardB (P : Program) (w : World) (K : PySem.W.Frag) (mg : Str → Option Value) (B D N FE fh : Addr) (fdh : FuncData) : Prop where
  F : Fun K "_law_heard" "_law_heard" sHeard3 fh fdh
  g : mg "_law_heard" = some (.ref fh)
  b : Binds K fdh ["_law_ask"] []
  z : ThreeH K mg B D N FE
section
variable {P : Program} {w : World} {K : PySem.W.Frag} {mg : Str → Option Value} {base : Heap}
theorem law_lam {f B D N FE cc TT fh : Addr} {TL : List (Addr × Str)} {fdh : FuncData} {q : Str} {A : Around} {outer : List Env} {s : Shared} {H : Hp} {E : XK} (L : Blt mg) (TB : TabB base mg cc TT) (hTL : (TT, q) ∈ TL) (hTL2 : ∀ p ∈ TL, p.1 = TT → p.2 = q)
    (hq : q = (envOfC "law" (defScope sLaw) 0 f (.ref cc)).qual ++ ("<lambda>" : Str)) (HH : HeardB P w K mg B D N FE fh fdh)
    (hr : Room 11 (cxOf CX0 P w K mg base nLaw "law" (defScope sLaw) f (.ref cc) A outer s H E).nox.A) (gd : (cxOf CX0 P w K mg base nLaw "law" (defScope sLaw) f (.ref cc) A outer s H E).nox.A.guards = some [])
    {params : Arguments} {body : Expr} {scope : Scope} {lpos pos p : Pos} {t : XK → TE} (LS : LamS (defScope sLaw) scope) (hdef : defaultsOf params (cxOf CX0 P w K mg base nLaw "law" (defScope sLaw) f (.ref cc) A outer s H E).env = ([], []))
    (hbind : ∀ (q : Str) (cl : List (Str × Addr)) (pm cv ctv : Value), bindArgs (PySem.W.kla_fn "<lambda>" q params body scope cl pm cv ctv) ⟨[], []⟩ = pure [])
    (hbody : ∀ (A' : Around) (outer' : List Env) (s' : Shared) (H' : Hp) (E' : XK) (f' c' : Addr), Room 9 (A'.deeper (lamEnv (cxOf CX0 P w K mg base nLaw "law" (defScope sLaw) f (.ref cc) A outer s H E).nox scope s'.heap.objs.size f' c')) →
      PE (lamCx (cxOf CX0 P w K mg base nLaw "law" (defScope sLaw) f (.ref cc) A outer s H E).nox A' outer' s' H' E' scope f' c') body (t E')) :
    PE (cxOf CX0 P w K mg base nLaw "law" (defScope sLaw) f (.ref cc) A outer s H E).nox (.Call (.Name "_law_heard" p) [.Lambda params body scope lpos] [] pos) (tLam TL (THeard K B D N) t) := by
  have kh := HH.F.kp
  obtain ⟨och, odh, kVh, doch, pmh, anh, cdvh, cth, oslh, rfl, lkh, hcdh⟩ := HH.F.ex
  have hq' : q = (cxOf CX0 P w K mg base nLaw "law" (defScope sLaw) f (.ref cc) A outer s H E).nox.env.qual ++ ("<lambda>" : Str) := hq
  subst hq'
  have h4 : Gl (cxOf CX0 P w K mg base nLaw "law" (defScope sLaw) f (.ref cc) A outer s H E).nox "_law_heard" := by rfl
  refine pe_lamcall (X := (cxOf CX0 P w K mg base nLaw "law" (defScope sLaw) f (.ref cc) A outer s H E).nox) (k := 9) (T := TL) (TT := THeard K B D N) (x := "_law_heard") (a := "_law_ask") (g := fh) (c := cc) (P := TT) (pg := defArgs sHeard3) (bg := defBody sHeard3) (sg := defScope sHeard3)
    (Ng := nHeard) h4 HH.g kh lkh hcdh HH.b scHeard ?_ ?_ ?_ ?_ ?_ ?_ ?_ ?_ ?_ ?_ ?_ ?_ ?_ ?_ ?_
  · rfl
  · exact .inl rfl
  · exact heard_gives gd hr L HH.z
  · exact TB
  · rfl
  · exact hTL
  · exact hTL2
  · exact hr
  · exact LS
  · exact hdef
  · exact hbind
  · exact hbody
  · decide
  · decide
  · decide
end
end Ev2
set_option maxHeartbeats 2000000
namespace Ev2
open Ev
open PySem L2 PySem.Spec PyProof.Rows RZ LamX
section
variable {P : Program} {w : World} {K : PySem.W.Frag} {mg : Str → Option Value} {base : Heap}
theorem law_mid {f Ct Cn W cc f3 B DD N FE TT fh : Addr} {fd3 fdh : FuncData} {TL : List (Addr × Str)} {q : Str} {A : Around} {outer : List Env} {s : Shared} {H : Hp} {E : XK} (T : Blt mg) (VV : VW P w K mg base W) (RM : RuM P w K mg base Ct Cn)
    (G3 : FnOk P w K mg base CX0 7 f3 fd3 ["rule", "deed", "light", "heavy"] (spBreaks K W Ct Cn)) (g3 : mg "breaks" = some (.ref f3)) (k3 : PySem.W.keepIn K (.ref f3) = true) (b3 : Binds K fd3 ["rule", "deed", "light", "heavy"] [])
    (D5 : Df P w K mg base 8 "_law_rule" ["_law_some"] (spRule3 Ct Cn)) (D2 : Df P w K mg base 2 "_law_pick" ["_law_pen_here", "_law_some"] spPick)
    (DA : DfX P w K mg base 7 "breaks" ["rule", "deed", "light", "heavy"] (spBrA B)) (DB : DfX P w K mg base 7 "breaks" ["rule", "deed", "light", "heavy"] (spBrB K Ct Cn DD)) (DC : DfX P w K mg base 7 "breaks" ["rule", "deed", "light", "heavy"] (spBrC Ct Cn N))
    (TB : TabB base mg cc TT) (hTL : (TT, q) ∈ TL) (hTL2 : ∀ p ∈ TL, p.1 = TT → p.2 = q) (hq : q = (envOfC "law" (defScope sLaw) 0 f (.ref cc)).qual ++ ("<lambda>" : Str)) (HH : HeardB P w K mg B DD N FE fh fdh)
    (hr : Room 11 (cxOf CX0 P w K mg base nLaw "law" (defScope sLaw) f (.ref cc) A outer s H E).nox.A) (gd : (cxOf CX0 P w K mg base nLaw "law" (defScope sLaw) f (.ref cc) A outer s H E).nox.A.guards = some []) :
    ∃ t : TS, PSs (cxOf CX0 P w K mg base nLaw "law" (defScope sLaw) f (.ref cc) A outer s H E).nox ((defBody sLaw).drop 5) t ∧ ∀ (D : Ends) (G : Hp) (four lo lb : Addr) (vo vb : V) (dO dB : PyData) (x0 x1 x2 x3 x4 x5 x6 x8 x11 x12 x13 x14 x15 x16 : Option V),
      G four = some (.tup (Ev.Row.tn 4 1 0 2 1 (-1)).vs) → Od G vo dO → (∀ G, Od G vo dO → OddD2 K G vo) → Od G vb dB → (∀ H, IntQ H vb) → inB 1 (10 ^ 12) vb = false → Tabs TL G → (∀ G', D.rt (.bl true) G') →
      t D [x0, x1, x2, x3, x4, x5, x6, some (.ref four), x8, some vo, some vb, x11, x12, x13, x14, x15, x16] G := by
  obtain ⟨f5, fd5, G5, g5, k5, b5⟩ := D5.ex
  obtain ⟨fA, fdA, GA, gA, kA, bA⟩ := DA.ex
  obtain ⟨fB, fdB, GB, gB, kB, bB⟩ := DB.ex
  obtain ⟨fC, fdC, GC, gC, kC, bC⟩ := DC.ex
  obtain ⟨t1, h1, r1⟩ := law_end (f := f) (cc := cc) (A := A) (outer := outer) (s := s) (H := H) (E := E) T VV RM G3 g3 k3 b3 D5 hr
  have hu : (cxOf CX0 P w K mg base nLaw "law" (defScope sLaw) f (.ref cc) A outer s H E).nox.A.units + 64 < cLine := Room.units hr
  refine ⟨_, (pss_cons (ps_set (i := 11) scLaw.nd rfl (.inl rfl) (pe_lst (pa_cons (law_lam T TB hTL hTL2 hq HH hr gd (lamS_by (by decide +kernel)) rfl (fun _ _ _ _ _ => rfl) (fun _ _ _ _ E' _ _ hrL => pe_call GA (hrL.mono (by decide)) (by rfl) gA kA bA .nil (E := E') (passes_call (takes_of rfl rfl rfl rfl) (fun _ _ _ _ h => h)) (pa_cons pe_non (pa_cons (pv 9) (pa_cons (pv 10) (pa_cons (pv 10) pa_nil)))))) pa_nil)))
    (pss_cons (ps_expr (pe_bm PySem.F.plainAttrs_list PySem.F.slot_list_append PySem.F.type_list_append mt_append (pv 11) (pa_cons (law_lam T TB hTL hTL2 hq HH hr gd (lamS_by (by decide +kernel)) rfl (fun _ _ _ _ _ => rfl) (fun _ _ _ _ E' _ _ hrL => pe_call GB (hrL.mono (by decide)) (by rfl) gB kB bB .nil (E := E') (passes_call (takes_of rfl rfl rfl rfl) (fun _ _ _ _ h => h)) (pa_cons (pe_call G5 (hrL.mono (by decide)) (by rfl) g5 k5 b5 .nil pass0 (pa_cons (pv 7) pa_nil)) (pa_cons (pv 9) (pa_cons (pv 10) (pa_cons pe_int pa_nil)))))) pa_nil)))
    (pss_cons (ps_expr (pe_bm PySem.F.plainAttrs_list PySem.F.slot_list_append PySem.F.type_list_append mt_append (pv 11) (pa_cons (law_lam T TB hTL hTL2 hq HH hr gd (lamS_by (by decide +kernel)) rfl (fun _ _ _ _ _ => rfl) (fun _ _ _ _ E' _ _ hrL => pe_call GC (hrL.mono (by decide)) (by rfl) gC kC bC .nil (E := E') (passes_call (takes_of rfl rfl rfl rfl) (fun _ _ _ _ h => h)) (pa_cons (pe_call G5 (hrL.mono (by decide)) (by rfl) g5 k5 b5 .nil pass0 (pa_cons (pv 7) pa_nil)) (pa_cons pe_str (pa_cons (pv 10) (pa_cons pe_non pa_nil)))))) pa_nil)))
    (pss_cons (ps_expr (pe_bm PySem.F.plainAttrs_list PySem.F.slot_list_append PySem.F.type_list_append mt_append (pv 11) (pa_cons (law_lam T TB hTL hTL2 hq HH hr gd (lamS_by (by decide +kernel)) rfl (fun _ _ _ _ _ => rfl) (fun _ _ _ _ E' _ _ hrL => pe_call GC (hrL.mono (by decide)) (by rfl) gC kC bC .nil (E := E') (passes_call (takes_of rfl rfl rfl rfl) (fun _ _ _ _ h => h)) (pa_cons (pe_call G5 (hrL.mono (by decide)) (by rfl) g5 k5 b5 .nil pass0 (pa_cons (pv 7) pa_nil)) (pa_cons pe_str (pa_cons pe_int (pa_cons (pv 10) pa_nil)))))) pa_nil)))
    (pss_cons (ps_set (i := 12) scLaw.nd rfl (.inl rfl) (pe_lst (pa_cons (pe_tup (pa_cons pe_str (pa_cons pe_str pa_nil))) (pa_cons (pe_tup (pa_cons pe_str (pa_cons (pe_callB (call_reprV gd hu) (by rfl) HH.z.mr (by decide +kernel) (pa_cons (pv 9) pa_nil)) pa_nil))) (pa_cons (pe_tup (pa_cons pe_str (pa_cons (pe_callB (call_reprV gd hu) (by rfl) HH.z.mr (by decide +kernel) (pa_cons (pv 10) pa_nil)) pa_nil))) (pa_cons (pe_tup (pa_cons pe_str (pa_cons (pe_callB (call_reprV gd hu) (by rfl) HH.z.mr (by decide +kernel) (pa_cons (pv 10) pa_nil)) pa_nil))) pa_nil))))))
    h1))))), ?_⟩
  intro D G four lo lb vo vb dO dB x0 x1 x2 x3 x4 x5 x6 x8 x11 x12 x13 x14 x15 x16 h4 oo nO ob qB iB hT kk
  have ok5 : (Ev.Row.tn 4 1 0 2 1 (-1)).ok := ⟨⟨by decide, by decide, by decide, by decide, by decide, by decide⟩, ⟨⟨by decide, by decide⟩, ⟨by decide, by decide⟩, by decide, by decide⟩⟩
  -- no rule
  refine lam_any (C := B) (n := "part") (w := "rule") (v := .str "rule") (d := .str "rule") (.str _ (by decide +kernel) (by decide +kernel)) hT (.inl ⟨rfl, rfl, rfl⟩) (fun H1 E' Q' e1 _ told => ⟨_, rfl, _, rfl, _, rfl, _, _, _, .str "rule", rfl, rfl, told H1 (Same.refl _)⟩) fun a1 H1 Ga e1 T1 sa ha1 => ⟨(by show 1 ≤ sizeLine; decide), fun l nl => ?_⟩
  have x1' : ExtN G Ga := e1.trans (ExtN.of sa)
  have sm : Same Ga (upd Ga l (.lst [.ref a1])) := same_new nl
  have hl : upd Ga l (.lst [.ref a1]) l = some (.lst [.ref a1]) := upd_same
  generalize upd Ga l (.lst [.ref a1]) = G1 at sm hl ⊢
  have x01 : ExtN G G1 := x1'.trans (ExtN.of sm)
  have h4 := x01 _ _ h4 (fun _ z => by cases z)
  have oo := oo.ext x01
  have ob := ob.ext x01
  have hT := (T1.ext sa).ext sm
  have p1 : PrS G1 a1 "rule" (PyData.str "rule").shown := sm _ _ ha1
  clear x01 x1' sm sa e1 T1 ha1 nl
  -- no deed
  refine ⟨_, rfl, .inl ⟨rfl, _, SqL.of hl⟩, ?_⟩
  refine lam_any (C := DD) (n := "value") (w := "deeds") oo hT (.inr (.inl ⟨rfl, rfl, rfl⟩)) (fun H1 E' Q' e1 od told => ⟨_, rfl, four, _, rfl, e1 _ _ h4 (fun _ z => by cases z), ok5, fun r H2 s2 obj => ⟨_, rfl, _, rfl, r, _, vo, _, _, rfl, obj, nO _ (od.keep s2), (od.keep s2).hold, told H2 s2⟩⟩) fun a2 H1 Ga e1 T1 sa ha2 => ?_
  have x1' : ExtN G1 Ga := e1.trans (ExtN.of sa)
  have hl' := x1' _ _ hl (fun _ z => by cases z)
  have u : But l Ga (upd Ga l (.lst [.ref a1, .ref a2])) := But.upd_at
  refine ⟨l, _, _, rfl, rfl, hl', (by show 1 < sizeLine; decide), ?_⟩
  have hl2 : upd Ga l (.lst [.ref a1, .ref a2]) l = some (.lst [.ref a1, .ref a2]) := upd_same
  have h4 := tup_but (x1' _ _ h4 (fun _ z => by cases z)) hl' u
  have oo := (oo.ext x1').but hl' u
  have ob := (ob.ext x1').but hl' u
  have hT := Tabs.but (T1.ext sa) hl' u
  have p1 : PrS (upd Ga l (.lst [.ref a1, .ref a2])) a1 "rule" (PyData.str "rule").shown := tup_but (x1' _ _ p1 (fun _ z => by cases z)) hl' u
  have p2 : PrS (upd Ga l (.lst [.ref a1, .ref a2])) a2 "deeds" dO.shown := tup_but ha2 hl' u
  have e2 : ([.ref a1] ++ [.ref a2] : List V) = [.ref a1, .ref a2] := rfl
  generalize hG2 : upd Ga l (.lst [.ref a1, .ref a2]) = G2 at u hl2 h4 oo ob hT p1 p2
  have goal2 : ∀ X : Hp → Prop, X G2 → X (upd Ga l (.lst ([.ref a1] ++ [.ref a2]))) := fun X h => by rw [e2, hG2]; exact h
  refine goal2 _ ?_
  clear goal2 u hl' x1' sa e1 T1 ha2 hl
  -- no weight, the first
  refine ⟨_, rfl, .inl ⟨rfl, _, SqL.of hl2⟩, ?_⟩
  refine lam_any (C := N) (n := "value") (w := "number") ob hT (.inr (.inr ⟨rfl, rfl, rfl⟩)) (fun H1 E' Q' e1 od told => ⟨_, rfl, four, _, rfl, e1 _ _ h4 (fun _ z => by cases z), ok5, fun r H2 s2 obj => ⟨_, rfl, r, _, true, vb, .non, vb, rfl, obj, fun G _ => qB G, iB, .inl rfl, fun G s3 => ⟨(od.keep (s2.trans s3)).hold, told G (s2.trans s3)⟩⟩⟩) fun a3 H1 Ga e1 T1 sa ha3 => ?_
  have x1' : ExtN G2 Ga := e1.trans (ExtN.of sa)
  have hl' := x1' _ _ hl2 (fun _ z => by cases z)
  have u : But l Ga (upd Ga l (.lst [.ref a1, .ref a2, .ref a3])) := But.upd_at
  refine ⟨l, _, _, rfl, rfl, hl', (by show 2 < sizeLine; decide), ?_⟩
  have hl3 : upd Ga l (.lst [.ref a1, .ref a2, .ref a3]) l = some (.lst [.ref a1, .ref a2, .ref a3]) := upd_same
  have h4 := tup_but (x1' _ _ h4 (fun _ z => by cases z)) hl' u
  have oo := (oo.ext x1').but hl' u
  have ob := (ob.ext x1').but hl' u
  have hT := Tabs.but (T1.ext sa) hl' u
  have p1 : PrS (upd Ga l (.lst [.ref a1, .ref a2, .ref a3])) a1 "rule" (PyData.str "rule").shown := tup_but (x1' _ _ p1 (fun _ z => by cases z)) hl' u
  have p2 : PrS (upd Ga l (.lst [.ref a1, .ref a2, .ref a3])) a2 "deeds" dO.shown := tup_but (x1' _ _ p2 (fun _ z => by cases z)) hl' u
  have p3 : PrS (upd Ga l (.lst [.ref a1, .ref a2, .ref a3])) a3 "number" dB.shown := tup_but ha3 hl' u
  have e2 : ([.ref a1, .ref a2] ++ [.ref a3] : List V) = [.ref a1, .ref a2, .ref a3] := rfl
  generalize hG3 : upd Ga l (.lst [.ref a1, .ref a2, .ref a3]) = G3' at u hl3 h4 oo ob hT p1 p2 p3
  have goal2 : ∀ X : Hp → Prop, X G3' → X (upd Ga l (.lst ([.ref a1, .ref a2] ++ [.ref a3]))) := fun X h => by rw [e2, hG3]; exact h
  refine goal2 _ ?_
  clear goal2 u hl' x1' sa e1 T1 ha3 hl2
  -- no weight, the second
  refine ⟨_, rfl, .inl ⟨rfl, _, SqL.of hl3⟩, ?_⟩
  refine lam_any (C := N) (n := "value") (w := "number") ob hT (.inr (.inr ⟨rfl, rfl, rfl⟩)) (fun H1 E' Q' e1 od told => ⟨_, rfl, four, _, rfl, e1 _ _ h4 (fun _ z => by cases z), ok5, fun r H2 s2 obj => ⟨_, rfl, r, _, false, .int 1, vb, vb, rfl, obj, fun G _ => qB G, iB, .inr ⟨rfl, rfl⟩, fun G s3 => ⟨(od.keep (s2.trans s3)).hold, told G (s2.trans s3)⟩⟩⟩) fun a4 H1 Ga e1 T1 sa ha4 => ?_
  have x1' : ExtN G3' Ga := e1.trans (ExtN.of sa)
  have hl' := x1' _ _ hl3 (fun _ z => by cases z)
  have u : But l Ga (upd Ga l (.lst [.ref a1, .ref a2, .ref a3, .ref a4])) := But.upd_at
  refine ⟨l, _, _, rfl, rfl, hl', (by show 3 < sizeLine; decide), ?_⟩
  have hl4 : upd Ga l (.lst [.ref a1, .ref a2, .ref a3, .ref a4]) l = some (.lst [.ref a1, .ref a2, .ref a3, .ref a4]) := upd_same
  have h4 := tup_but (x1' _ _ h4 (fun _ z => by cases z)) hl' u
  have oo := (oo.ext x1').but hl' u
  have ob := (ob.ext x1').but hl' u
  have p1 : PrS (upd Ga l (.lst [.ref a1, .ref a2, .ref a3, .ref a4])) a1 "rule" (PyData.str "rule").shown := tup_but (x1' _ _ p1 (fun _ z => by cases z)) hl' u
  have p2 : PrS (upd Ga l (.lst [.ref a1, .ref a2, .ref a3, .ref a4])) a2 "deeds" dO.shown := tup_but (x1' _ _ p2 (fun _ z => by cases z)) hl' u
  have p3 : PrS (upd Ga l (.lst [.ref a1, .ref a2, .ref a3, .ref a4])) a3 "number" dB.shown := tup_but (x1' _ _ p3 (fun _ z => by cases z)) hl' u
  have p4 : PrS (upd Ga l (.lst [.ref a1, .ref a2, .ref a3, .ref a4])) a4 "number" dB.shown := tup_but ha4 hl' u
  have e2 : ([.ref a1, .ref a2, .ref a3] ++ [.ref a4] : List V) = [.ref a1, .ref a2, .ref a3, .ref a4] := rfl
  generalize hG4 : upd Ga l (.lst [.ref a1, .ref a2, .ref a3, .ref a4]) = G4' at u hl4 h4 oo ob p1 p2 p3 p4
  have goal2 : ∀ X : Hp → Prop, X G4' → X (upd Ga l (.lst ([.ref a1, .ref a2, .ref a3] ++ [.ref a4]))) := fun X h => by rw [e2, hG4]; exact h
  refine goal2 _ ?_
  clear goal2 u hl' x1' sa e1 T1 ha4 hl3 hT
  -- what is due
  refine ⟨(by show 2 ≤ sizeLine; decide), fun b1 n1 => ?_⟩
  have s1 := same_new (o := .tup [.str "rule", .str "'rule'"]) n1
  have q1 : upd G4' b1 (.tup [.str "rule", .str "'rule'"]) b1 = some (.tup [.str "rule", .str "'rule'"]) := upd_same
  generalize upd G4' b1 (.tup [.str "rule", .str "'rule'"]) = G5' at s1 q1 ⊢
  obtain ⟨v1, v2, v3, v4⟩ := (oo.keep s1).vd (K := K)
  refine ⟨_, rfl, vo, dO, rfl, v1, v2, v3, v4, (by show 2 ≤ sizeLine; decide), fun b2 n2 => ?_⟩
  have s2 := same_new (o := .tup [.str "deeds", .str dO.shown]) n2
  have q2 : upd G5' b2 (.tup [.str "deeds", .str dO.shown]) b2 = some (.tup [.str "deeds", .str dO.shown]) := upd_same
  generalize upd G5' b2 (.tup [.str "deeds", .str dO.shown]) = G6' at s2 q2 ⊢
  obtain ⟨v1, v2, v3, v4⟩ := (ob.keep (s1.trans s2)).vd (K := K)
  refine ⟨_, rfl, vb, dB, rfl, v1, v2, v3, v4, (by show 2 ≤ sizeLine; decide), fun b3' n3 => ?_⟩
  have s3 := same_new (o := .tup [.str "number", .str dB.shown]) n3
  have q3 : upd G6' b3' (.tup [.str "number", .str dB.shown]) b3' = some (.tup [.str "number", .str dB.shown]) := upd_same
  generalize upd G6' b3' (.tup [.str "number", .str dB.shown]) = G7' at s3 q3 ⊢
  obtain ⟨v1, v2, v3, v4⟩ := (ob.keep ((s1.trans s2).trans s3)).vd (K := K)
  refine ⟨_, rfl, vb, dB, rfl, v1, v2, v3, v4, (by show 2 ≤ sizeLine; decide), fun b4 n4 => ?_⟩
  have s4 := same_new (o := .tup [.str "number", .str dB.shown]) n4
  have q4 : upd G7' b4 (.tup [.str "number", .str dB.shown]) b4 = some (.tup [.str "number", .str dB.shown]) := upd_same
  generalize upd G7' b4 (.tup [.str "number", .str dB.shown]) = G8' at s4 q4 ⊢
  refine ⟨(by show 4 ≤ sizeLine; decide), fun ld nld => ?_⟩
  have s5 := same_new (o := .lst [.ref b1, .ref b2, .ref b3', .ref b4]) nld
  have hld : upd G8' ld (.lst [.ref b1, .ref b2, .ref b3', .ref b4]) ld = some (.lst [.ref b1, .ref b2, .ref b3', .ref b4]) := upd_same
  generalize upd G8' ld (.lst [.ref b1, .ref b2, .ref b3', .ref b4]) = G9' at s5 hld ⊢
  have s45 := s4.trans s5
  have s35 := s3.trans s45
  have s25 := s2.trans s35
  have s15 := s1.trans s25
  have er : (PyData.str ("rule" : Str)).shown = "'rule'" := by decide +kernel
  refine r1 D G9' four l ld (fourD dO.shown dB.shown) _ _ _ _ _ _ _ _ _ _ _ _ _ _ (s15 _ _ h4) (four_dp (s15 _ _ hl4) (s15 _ _ p1) (s15 _ _ p2) (s15 _ _ p3) (s15 _ _ p4)) (four_dp hld ?_ (s35 _ _ q2) (s45 _ _ q3) (s5 _ _ q4)) (four_shaped oo.lay ob.lay) (four_eqv _ _) kk
  show G9' b1 = _
  rw [er]
  exact s25 _ _ q1
end
end Ev2
set_option maxHeartbeats 2000000
namespace Ev2
open Ev
open PySem L2 PySem.Spec PyProof.Rows RZ LamX
def spLawT (K : PySem.W.Frag) (T : Addr) : Sp := fun vs H Q _ => ∃ (a : Addr) (ns : List Int), vs = [.ref a] ∧ SqL K H a (ns.map V.int) ∧ ns.length ≤ 63 ∧ H T = some (.tbl #[]) ∧ ∀ H', Q (.bl true) H'
section
variable {P : Program} {w : World} {K : PySem.W.Frag} {mg : Str → Option Value} {base : Heap}
theorem fng_code {x qual : Str} {st : Stmt} {f : Addr} {fd : FuncData} {N ps : List Str} {k : Nat} {sp : Sp} (F : Fun K x qual st f fd)
    (S : FnScope N ps (defScope st)) (many : ∀ vs H Q E, sp vs H Q E → vs.length = ps.length)
    (body : ∀ (cdv : Value), fd.code = cdv → ∀ (A : Around) (above : List Env) (s : Shared) (H : Hp) (vs : List V) (Q : VK) (E : XK),
      Room k (A.deeper (envOfC qual (defScope st) s.heap.objs.size f cdv)) → A.guards = some [] → sp vs H Q E →
      ∃ t, PSs (cxOf CX0 P w K mg base N qual (defScope st) f cdv A above s H E).nox (defBody st) t ∧
        t { nx := fun _ H' => Q .non H', rt := Q } (start N vs) H) : FnG P w K mg base (k + 1) f fd ps sp := by
  obtain ⟨oc, od, kV, doc, pm, an, cdv, ct, osl, rfl, lk, hcd⟩ := F.ex
  constructor
  · exact many
  · intro A above s H args us vs Q E room gd env bt rv hs
    have inK : K.In s.heap := env.mod.kin.keeps fun b o e => (env.bs b o e).1
    have noLim : s.heap.NoLimit := env.mod.nolimit.keeps fun b o e => (env.bs b o e).1
    have kinds : ∀ y ∈ ps.zip us, (defScope st).names.lookup y.1 = some .local ∨
        ((defScope st).names.lookup y.1 = some .cell ∧ ((cellsFrom (s.heap.objs.size + 1) (defScope st).names []).lookup y.1).isSome = true) := by
      rintro ⟨n, v⟩ hy
      cases S.par n (List.of_mem_zip hy).1 with
      | inl q => exact .inl q
      | inr q => exact .inr ⟨q, PySem.W.cellsFrom_some _ _ _ (.inl q)⟩
    refine codeAny_call_function room.depth (inK _ _ lk) rfl S.co S.gen rfl (PySem.W.codeRec_of inK hcd) (bt _ _ _ _ ?_)
    refine wpAny_newFunctionEnv_cells S.kind kinds fun e2 he s2 x => ?_
    subst he
    refine ⟨noLim.keeps x.toInCall.keep, codeAny_func ?_⟩
    obtain ⟨t, ht, hq⟩ := body cdv rfl A above s H vs Q E (room.deeper _) gd hs
    have inv := inv_start (CX := CX0) (E := E) S room.hd env (many _ _ _ _ hs) rv x
    refine wpAny_mono (ht.nox.run [] s2 (start N vs) H _ inv hq) (fun fl s3 h3 => ?_) fun e s3 h3 => h3
    cases fl with
    | ret u =>
      obtain ⟨v, σ3, H3, J, rr, q⟩ := h3
      exact ⟨v, H3, J.os, J.bare, J.base, J.hok, rr, q⟩
    | next =>
      obtain ⟨σ3, H3, J, q⟩ := h3
      exact ⟨.non, H3, J.os, J.bare, J.base, J.hok, rfl, q⟩
    | brk =>
      obtain ⟨_, _, _, z⟩ := h3
      exact False.elim z
    | cont =>
      obtain ⟨_, _, _, z⟩ := h3
      exact False.elim z
end
section
variable {P : Program} {w : World} {K : PySem.W.Frag} {mg : Str → Option Value} {base : Heap}
theorem ok_law {f Ct Cn W cc f3 B DD N FE TT fh : Addr} {fd fd3 fdh : FuncData} (F : Fun K "law" "law" sLaw f fd) (T : Blt mg) (hc : fd.code = .ref cc) (TB : TabB base mg cc TT) (VV : VW P w K mg base W) (RM : RuM P w K mg base Ct Cn)
    (G3 : FnOk P w K mg base CX0 7 f3 fd3 ["rule", "deed", "light", "heavy"] (spBreaks K W Ct Cn)) (g3 : mg "breaks" = some (.ref f3)) (k3 : PySem.W.keepIn K (.ref f3) = true) (b3 : Binds K fd3 ["rule", "deed", "light", "heavy"] [])
    (D0 : Df P w K mg base 1 "_law_pen" ["_law_script"] (spPen K)) (D1 : Df P w K mg base 1 "_law_draw" ["_law_pen_here", "_law_many"] spDraw) (D2 : Df P w K mg base 2 "_law_pick" ["_law_pen_here", "_law_some"] spPick) (D4 : Df P w K mg base 3 "_law_numbers" ["_law_pen_here"] spNumsL)
    (D5 : Df P w K mg base 8 "_law_rule" ["_law_some"] (spRule3 Ct Cn)) (D6 : Df P w K mg base 8 "_law_right" ["_law_rule_so", "_law_some", "_law_deed", "_law_a"] (spRight K Ct Cn))
    (DA : DfX P w K mg base 7 "breaks" ["rule", "deed", "light", "heavy"] (spBrA B)) (DB : DfX P w K mg base 7 "breaks" ["rule", "deed", "light", "heavy"] (spBrB K Ct Cn DD)) (DC : DfX P w K mg base 7 "breaks" ["rule", "deed", "light", "heavy"] (spBrC Ct Cn N))
    (HH : HeardB P w K mg B DD N FE fh fdh) : FnG P w K mg base 12 f fd ["_law_script"] (spLawT K TT) := by
  obtain ⟨f0, fd0, G0, g0, k0, b0⟩ := D0.ex
  obtain ⟨f1, fd1, G1, g1, k1, b1⟩ := D1.ex
  obtain ⟨f2, fd2, G2, g2, k2, b2⟩ := D2.ex
  obtain ⟨f4, fd4, G4, g4, k4, b4⟩ := D4.ex
  obtain ⟨f5, fd5, G5, g5, k5, b5⟩ := D5.ex
  obtain ⟨f6, fd6, G6, g6, k6, b6⟩ := D6.ex
  refine fng_code F scLaw (fun vs H Q E h => ?_) (fun cdv ecd A outer s H vs Q E hr gd h => ?_)
  · obtain ⟨a, ns, rfl, _⟩ := h
    rfl
  · obtain ⟨a, ns, rfl, hS, hlen, hT, kk⟩ := h
    obtain rfl : cdv = .ref cc := ecd.symm.trans hc
    obtain ⟨q, hq⟩ : ∃ q : Str, q = (envOfC "law" (defScope sLaw) 0 f (.ref cc)).qual ++ ("<lambda>" : Str) := ⟨_, rfl⟩
    obtain ⟨tm, hm, rm⟩ := law_mid (TL := [(TT, q)]) (q := q) (f := f) (cc := cc) (A := A) (outer := outer) (s := s) (H := H) (E := E) T VV RM G3 g3 k3 b3 D5 D2 DA DB DC TB (List.mem_singleton.mpr rfl) (fun p hp _ => by rw [List.mem_singleton.mp hp]) hq HH hr gd
    refine ⟨_, (pss_cons (ps_set (i := 1) scLaw.nd rfl (.inl rfl) (pe_call G0 (hr.mono (by decide)) (by rfl) g0 k0 b0 .nil pass0 (pa_cons (pv 0) pa_nil)))
    (pss_cons (ps_for PassesOwn.never rfl (pi_range1 (by rfl) T.range (pa_cons pe_int pa_nil)) (pg_name (i := 2) scLaw.nd rfl (.inl rfl))
      (pss_cons (ps_set (i := 3) scLaw.nd rfl (.inl rfl) (pe_call G4 (hr.mono (by decide)) (by rfl) g4 k4 b4 .nil pass0 (pa_cons (pv 1) pa_nil)))
      (pss_one (ps_for PassesOwn.never rfl (pi_tup (pe_tup (pa_cons (pv 3) (pa_cons (pe_slice sl_tupA (pv 3) po_none (po_some pe_int)) pa_nil)))) (pg_name (i := 4) scLaw.nd rfl (.inl rfl))
        (pss_cons (ps_par (i := 5) (j := 6) (by rfl) scLaw.nd rfl rfl (by decide) rfl rfl (pa_cons (pe_call G2 (hr.mono (by decide)) (by rfl) g2 k2 b2 .nil pass0 (pa_cons (pv 1) (pa_cons (pe_lst (pa_cons pe_str (pa_cons pe_str (pa_cons pe_str pa_nil)))) pa_nil))) (pa_cons (pe_op op_add pe_int (pe_call G1 (hr.mono (by decide)) (by rfl) g1 k1 b1 .nil pass0 (pa_cons (pv 1) (pa_cons pe_int pa_nil)))) pa_nil)) (by rfl))
        (pss_one (ps_if (pt_not (pt_val (pe_call G6 (hr.mono (by decide)) (by rfl) g6 k6 b6 .nil pass0 (pa_cons (pe_call G5 (hr.mono (by decide)) (by rfl) g5 k5 b5 .nil pass0 (pa_cons (pv 4) pa_nil)) (pa_cons (pv 4) (pa_cons (pv 5) (pa_cons (pv 6) pa_nil)))))))
          (pss_one (ps_ret pe_bl)) pss_nil)))))))
    (pss_cons (ps_asg (pe_tup (pa_cons (pe_tup (pa_cons pe_int (pa_cons pe_int (pa_cons pe_int (pa_cons pe_int (pa_cons pe_int (pa_cons (pe_un un_neg pe_int) pa_nil))))))) (pa_cons (pe_tup (pa_cons pe_int (pa_cons pe_int (pa_cons pe_int (pa_cons pe_int (pa_cons pe_int (pa_cons pe_int pa_nil))))))) pa_nil))) (pg_tup (by rfl) (pgs_cons (pg_name (i := 7) scLaw.nd rfl (.inr rfl)) (pgs_cons (pg_name (i := 8) scLaw.nd rfl (.inl rfl)) pgs_nil))))
    (pss_cons (ps_if (PW.pt (pw_or (pt_not (pt_val (pe_call G6 (hr.mono (by decide)) (by rfl) g6 k6 b6 .nil pass0 (pa_cons (pe_call G5 (hr.mono (by decide)) (by rfl) g5 k5 b5 .nil pass0 (pa_cons (pv 7) pa_nil)) (pa_cons (pv 7) (pa_cons pe_str (pa_cons pe_int pa_nil))))))) (pw_or1 (pt_not (pt_val (pe_call G6 (hr.mono (by decide)) (by rfl) g6 k6 b6 .nil pass0 (pa_cons (pe_call G5 (hr.mono (by decide)) (by rfl) g5 k5 b5 .nil pass0 (pa_cons (pv 8) pa_nil)) (pa_cons (pv 8) (pa_cons pe_str (pa_cons pe_int pa_nil))))))))))
      (pss_one (ps_ret pe_bl)) pss_nil)
    (pss_cons (ps_asg (pe_tup (pa_cons (pe_call G2 (hr.mono (by decide)) (by rfl) g2 k2 b2 .nil pass0 (pa_cons (pv 1) (pa_cons (pe_lst (pa_cons pe_non (pa_cons pe_int (pa_cons pe_str (pa_cons pe_str (pa_cons (pe_tup pa_nil) (pa_cons pe_dnewK pa_nil))))))) pa_nil))) (pa_cons (pe_call G2 (hr.mono (by decide)) (by rfl) g2 k2 b2 .nil pass0 (pa_cons (pv 1) (pa_cons (pe_lst (pa_cons pe_non (pa_cons pe_int (pa_cons pe_bl (pa_cons pe_str (pa_cons (pe_imp (t' := tC (.int 1000000000001)) (pe_op op_add (pe_op op_pow pe_int pe_int) pe_int) (fun σ H Q h => ad_imp (n := 1000000000000) (m := 1) (r := 1000000000001) (by decide) σ H Q (fun Q hq => pw_imp (by decide +kernel) (And.intro (by decide) (And.intro (by decide) (by decide))) σ H Q hq) h)) (pa_cons (pe_un un_neg pe_int) pa_nil))))))) pa_nil))) pa_nil))) (pg_tup (by rfl) (pgs_cons (pg_name (i := 9) scLaw.nd rfl (.inr rfl)) (pgs_cons (pg_name (i := 10) scLaw.nd rfl (.inr rfl)) pgs_nil))))
    hm))))), ?_⟩
    have hQ : ∀ G', Q (.bl true) G' := kk
    refine ⟨_, rfl, a, ns, rfl, hS, hlen, fun p L H1 np s1 pn0 => ?_⟩
    have hT1 : Tabs [(TT, q)] H1 := fun z hz => by
      rw [List.mem_singleton.mp hz]
      exact TabS.nil (s1 _ _ hT)
    refine ⟨2, rfl, by decide, by decide, for_range (n := 2) (fun i σ H2 => (∃ v2 v3 v4 v5 v6 : Option V, σ = [some (.ref a), some (.ref p), v2, v3, v4, v5, v6, none, none, none, none, none, none, none, none, none, none]) ∧ Pen L H2 p (100 * (i : Int)) ∧ Tabs [(TT, q)] H2) ⟨⟨_, _, _, _, _, rfl⟩, pn0.mono (by decide), hT1⟩ (fun i σ H2 hi h => ?_) (fun σ H2 h => ?_)⟩
    · obtain ⟨⟨v2, v3, v4, v5, v6, rfl⟩, pn, tb⟩ := h
      refine ⟨_, rfl, p, L, _, rfl, by omega, pn, fun a0 p' q' k t s' c H3 on ot nn ha0 t3 p3 => ?_⟩
      obtain ⟨ps, eps⟩ := pn.some
      have tb3 := Ev2.Tabs.but tb eps t3
      refine ⟨_, rfl, _, rfl, _, rfl, slA_any ha0 fun a1 H4 s4 ha1 => ?_⟩
      rw [show cutV (Ev.Row.tn p' q' k t s' c).vs none (some 3) = (Ev.Row.tr p' q' k).vs from cut3 _ _ _ _] at ha1
      refine ⟨(by show 2 ≤ sizeLine; decide), fun tt ntt => ?_⟩
      have s5 := same_new (o := .tup [.ref a0, .ref a1]) ntt
      have htt : upd H4 tt (.tup [.ref a0, .ref a1]) tt = some (.tup [.ref a0, .ref a1]) := upd_same
      generalize upd H4 tt (.tup [.ref a0, .ref a1]) = H5 at s5 htt ⊢
      have p5 := (p3.keep s4).keep s5
      have tb5 := (tb3.ext s4).ext s5
      have r0 : RwAt H5 a0 (.tn p' q' k t s' c) := s5 _ _ (s4 _ _ ha0)
      have r1 : RwAt H5 a1 (.tr p' q' k) := s5 _ _ ha1
      have rows : ∀ (j : Nat) (v : V), ([.ref a0, .ref a1] : List V)[j]? = some v → ∃ (ad : Addr) (row : Ev.Row), v = .ref ad ∧ RwAt H5 ad row ∧ row.ok := fun j v h => by
        match j, h with
        | 0, h => exact ⟨a0, _, (Option.some.inj h).symm, r0, on, ot⟩
        | 1, h => exact ⟨a1, _, (Option.some.inj h).symm, r1, on⟩
        | _ + 2, h => cases h
      refine ⟨tt, rfl, ⟨_, SqT.of htt⟩, ?_⟩
      refine for_tup (xs := [.ref a0, .ref a1]) (fun j σ G => But p H5 G ∧ (∃ v4 v5 v6 : Option V, σ = [some (.ref a), some (.ref p), some (.int (0 + (i : Int))), some (.ref a0), v4, v5, v6, none, none, none, none, none, none, none, none, none, none]) ∧ Pen L G p (100 * (i : Int) + 10 + 10 * (j : Int)) ∧ Tabs [(TT, q)] G) ⟨fun _ _ _ e => e, ⟨_, _, _, rfl⟩, p5.mono (by omega), tb5⟩ (fun j σ G _ h => SqT.of (But.tup htt p5 h.1)) (fun j v σ G hj h => ?_) (fun σ G h => ?_)
      · obtain ⟨b5', ⟨v4, v5, v6, rfl⟩, pj, tj⟩ := h
        obtain ⟨ad, row, rfl, had, rok⟩ := rows j v hj
        have j2 : j < 2 := (List.getElem?_eq_some_iff.mp hj).1
        have hadG : RwAt G ad row := But.tup had p5 b5'
        refine ⟨_, rfl, (by show 3 ≤ sizeLine; decide), fun l nl => ⟨p, l, L, _, _, rfl, upd_same, pj.ne nl, (by show 1 ≤ 3; decide), (by show 3 ≤ 1000; decide), by omega, pj.new nl, fun dv H6 m6 t6 p6 => ?_⟩⟩
        have sl := same_new (o := .lst [.str "put", .str "take", .str "take"]) nl
        obtain ⟨ps5, eps5⟩ := (pj.new (o := .lst [.str "put", .str "take", .str "take"]) nl).some
        have tj6 := Ev2.Tabs.but (tj.ext sl) eps5 t6
        have had6 : RwAt H6 ad row := But.tup (sl _ _ hadG) (pj.new nl) t6
        obtain ⟨put, rfl⟩ : ∃ put : Bool, dv = .str (deedS put) := by
          simp only [List.mem_cons, List.not_mem_nil, or_false] at m6
          rcases m6 with e | e | e
          · exact ⟨true, e⟩
          · exact ⟨false, e⟩
          · exact ⟨false, e⟩
        refine ⟨_, rfl, p, L, _, _, rfl, by decide, by decide, by omega, p6, fun d7 H7 t7 p7 x7 y7 => ⟨_, _, rfl, rfl, _, _, rfl, ?_⟩⟩
        obtain ⟨ps6, eps6⟩ := p6.some
        have tj7 := Ev2.Tabs.but tj6 eps6 t7
        have had7 : RwAt H7 ad row := But.tup had6 p6 t7
        refine ⟨_, rfl, ad, row, rfl, had7, rok, fun r H8 s8 ob8 => ?_⟩
        refine ⟨_, rfl, _, rfl, _, rfl, r, ad, row, put, 1 + d7, rfl, ob8, s8 _ _ had7, rok, ⟨by omega, by omega⟩, fun H9 s9 => ⟨_, rfl, iteF ?_⟩⟩
        have s79 := s8.trans s9
        refine ⟨?_, ⟨_, _, _, rfl⟩, (p7.keep s79).mono (by omega), tj7.ext s79⟩
        exact ((b5'.trans ((Same.but sl).trans t6)).trans t7).trans (Same.but s79)
      · obtain ⟨_, ⟨v4, v5, v6, rfl⟩, pj, tj⟩ := h
        exact ⟨⟨_, _, _, _, _, rfl⟩, pj.mono (by show 100 * (i : Int) + 10 + 10 * ((2 : Nat) : Int) ≤ 100 * ((i + 1 : Nat) : Int); omega), tj⟩
    · obtain ⟨⟨v2, v3, v4, v5, v6, rfl⟩, pn, tb⟩ := h
      -- two rows that stand there
      refine ⟨_, rfl, (by show 6 ≤ sizeLine; decide), fun four n4 => ?_⟩
      have s4 := same_new (o := .tup [.int 4, .int 1, .int 0, .int 2, .int 1, .int (-1)]) n4
      have h4 : upd H2 four (.tup [.int 4, .int 1, .int 0, .int 2, .int 1, .int (-1)]) four = some (.tup (Ev.Row.tn 4 1 0 2 1 (-1)).vs) := upd_same
      generalize upd H2 four (.tup [.int 4, .int 1, .int 0, .int 2, .int 1, .int (-1)]) = H4 at s4 h4 ⊢
      refine ⟨(by show 6 ≤ sizeLine; decide), fun wild n5 => ?_⟩
      have s5 := same_new (o := .tup [.int 3, .int 1, .int 0, .int 8, .int 1, .int 6]) n5
      have h5 : upd H4 wild (.tup [.int 3, .int 1, .int 0, .int 8, .int 1, .int 6]) wild = some (.tup (Ev.Row.tn 3 1 0 8 1 6).vs) := upd_same
      generalize upd H4 wild (.tup [.int 3, .int 1, .int 0, .int 8, .int 1, .int 6]) = H5 at s5 h5 ⊢
      refine ⟨(by show 2 ≤ sizeLine; decide), fun tt nt => ⟨tt, _, rfl, SqT.of upd_same, rfl, _, _, rfl, _, _, rfl, rfl, ?_⟩⟩
      have s6 := same_new (o := .tup [.ref four, .ref wild]) nt
      have h4 := s6 _ _ (s5 _ _ h4)
      have h5 := s6 _ _ h5
      have pn6 := ((pn.keep s4).keep s5).keep s6
      have tb6 := ((tb.ext s4).ext s5).ext s6
      generalize upd H5 tt (.tup [.ref four, .ref wild]) = H6 at s6 h4 h5 pn6 tb6 ⊢
      have okF : (Ev.Row.tn 4 1 0 2 1 (-1)).ok := ⟨⟨by decide, by decide, by decide, by decide, by decide, by decide⟩, ⟨⟨by decide, by decide⟩, ⟨by decide, by decide⟩, by decide, by decide⟩⟩
      have okW : (Ev.Row.tn 3 1 0 8 1 6).ok := ⟨⟨by decide, by decide, by decide, by decide, by decide, by decide⟩, ⟨⟨by decide, by decide⟩, ⟨by decide, by decide⟩, by decide, by decide⟩⟩
      refine ⟨_, rfl, four, _, rfl, h4, okF, fun r H7 s7 ob7 => ?_⟩
      refine ⟨_, rfl, r, four, _, false, 1, rfl, ob7, s7 _ _ h4, okF, ⟨by decide, by decide⟩, fun H8 s8 => ⟨_, rfl, iteF ?_⟩⟩
      have s68 := s7.trans s8
      refine ⟨_, rfl, wild, _, rfl, s68 _ _ h5, okW, fun r2 H9 s9 ob9 => ?_⟩
      refine ⟨_, rfl, r2, wild, _, true, 1, rfl, ob9, s9 _ _ (s68 _ _ h5), okW, ⟨by decide, by decide⟩, fun H10 s10 => ⟨_, rfl, iteF ?_⟩⟩
      have s610 := (s68.trans s9).trans s10
      have h4 := s610 _ _ h4
      have pn := pn6.keep s610
      have tb := tb6.ext s610
      clear s4 s5 s6 n4 n5 nt ob7 ob9 s7 s8 s9 s10 s68 s610 h5 pn6 tb6
      -- what is odd and what is bad
      refine ⟨_, rfl, (by show 0 ≤ sizeLine; decide), fun t0 nt0 => ?_⟩
      have s1' := same_new (o := .tup []) nt0
      have ht0 : upd H10 t0 (.tup []) t0 = some (.tup []) := upd_same
      generalize upd H10 t0 (.tup []) = H11 at s1' ht0 ⊢
      refine fun d0 nd0 => ?_
      have s2' := same_new (o := .dK []) nd0
      have hd0 : upd H11 d0 (.dK []) d0 = some (.dK []) := upd_same
      generalize upd H11 d0 (.dK []) = H12 at s2' hd0 ⊢
      have pn12 := (pn.keep s1').keep s2'
      have tb12 := (tb.ext s1').ext s2'
      have h4 := s2' _ _ (s1' _ _ h4)
      have ht0 := s2' _ _ ht0
      refine ⟨(by show 6 ≤ sizeLine; decide), fun l1 nl1 => ?_⟩
      have s3' := same_new (o := .lst [.non, .int 0, .str "both", .str "Put", .ref t0, .ref d0]) nl1
      have hl1 : upd H12 l1 (.lst [.non, .int 0, .str "both", .str "Put", .ref t0, .ref d0]) l1 = some (.lst [.non, .int 0, .str "both", .str "Put", .ref t0, .ref d0]) := upd_same
      have l1p := pn12.ne nl1
      generalize upd H12 l1 (.lst [.non, .int 0, .str "both", .str "Put", .ref t0, .ref d0]) = H13 at s3' hl1 ⊢
      have pn13 := pn12.keep s3'
      have tb13 := tb12.ext s3'
      refine ⟨p, l1, L, _, _, rfl, hl1, l1p, (by show 1 ≤ 6; decide), (by show 6 ≤ 1000; decide), (by show _ ≤ _; omega), pn13, fun vo H14 mo to po => ?_⟩
      obtain ⟨ps, eps⟩ := pn13.some
      have tb14 := Ev2.Tabs.but tb13 eps to
      have h4 := But.tup (s3' _ _ h4) pn13 to
      have ht0 := But.tup (s3' _ _ ht0) pn13 to
      have hd0 : H14 d0 = some (.dK []) := to _ _ (ne_of (s3' _ _ hd0) eps (by intro z; cases z)) (s3' _ _ hd0)
      obtain ⟨dO, oo, nO⟩ : ∃ dO, Od H14 vo dO ∧ (∀ G, Od G vo dO → OddD2 K G vo) := by
        have pl : ∀ {dO : PyData}, SeqAt.shaped dO = true → ([PyData.str "put", PyData.str "take"].any fun z => PyData.eqv z dO) = false → ∀ G, Od G vo dO → OddD2 K G vo := fun h1 h2 G o => .inl ⟨_, o.vd.1, h1, h2⟩
        simp only [List.mem_cons, List.not_mem_nil, or_false] at mo
        rcases mo with rfl | rfl | rfl | rfl | rfl | rfl
        · exact ⟨_, .non, pl (by decide +kernel) (by decide +kernel)⟩
        · exact ⟨_, .int 0 (by decide) (by decide +kernel) (by decide +kernel), pl (by decide +kernel) (by decide +kernel)⟩
        · exact ⟨_, .str _ (by decide +kernel) (by decide +kernel), pl (by decide +kernel) (by decide +kernel)⟩
        · exact ⟨_, .str _ (by decide +kernel) (by decide +kernel), pl (by decide +kernel) (by decide +kernel)⟩
        · exact ⟨_, .tup ht0, pl (by decide +kernel) (by decide +kernel)⟩
        · exact ⟨_, .dct hd0, fun G o => by cases o with | dct e => exact .inr ⟨_, _, rfl, e⟩⟩
      clear mo ht0 hd0 hl1 s1' s2' s3' nt0 nd0 nl1
      refine ⟨_, rfl, _, rfl, (by show 6 ≤ sizeLine; decide), fun l2 nl2 => ?_⟩
      have s3' := same_new (o := .lst [.non, .int 0, .bl true, .str "1", .int 1000000000001, .int (-1)]) nl2
      have hl2 : upd H14 l2 (.lst [.non, .int 0, .bl true, .str "1", .int 1000000000001, .int (-1)]) l2 = some (.lst [.non, .int 0, .bl true, .str "1", .int 1000000000001, .int (-1)]) := upd_same
      have l2p := po.ne nl2
      generalize upd H14 l2 (.lst [.non, .int 0, .bl true, .str "1", .int 1000000000001, .int (-1)]) = H15 at s3' hl2 ⊢
      have pn15 := po.keep s3'
      refine ⟨p, l2, L, _, _, rfl, hl2, l2p, (by show 1 ≤ 6; decide), (by show 6 ≤ 1000; decide), (by show _ ≤ _; omega), pn15, fun vb H16 mb tb' pb => ?_⟩
      obtain ⟨ps2, eps2⟩ := pn15.some
      have tb16 := Ev2.Tabs.but (tb14.ext s3') eps2 tb'
      have h4 := But.tup (s3' _ _ h4) pn15 tb'
      have oo := (oo.keep s3').but eps2 tb'
      obtain ⟨dB, ob, qB, iB⟩ : ∃ dB, Od H16 vb dB ∧ (∀ H, IntQ H vb) ∧ inB 1 (10 ^ 12) vb = false := by
        simp only [List.mem_cons, List.not_mem_nil, or_false] at mb
        rcases mb with rfl | rfl | rfl | rfl | rfl | rfl
        · exact ⟨_, .non, fun H => .inr (noInt_non H), rfl⟩
        · exact ⟨_, .int 0 (by decide) (by decide +kernel) (by decide +kernel), fun H => .inl ⟨_, rfl⟩, by decide +kernel⟩
        · exact ⟨_, .bl true, fun H => .inr (noInt_bl H _), rfl⟩
        · exact ⟨_, .str _ (by decide +kernel) (by decide +kernel), fun H => .inr (noInt_str H _), rfl⟩
        · exact ⟨_, .int 1000000000001 (by decide +kernel) (by decide +kernel) (by decide +kernel), fun H => .inl ⟨_, rfl⟩, by decide +kernel⟩
        · exact ⟨_, .int (-1) (by decide) (by decide +kernel) (by decide +kernel), fun H => .inl ⟨_, rfl⟩, by decide +kernel⟩
      refine ⟨(by show 2 ≤ sizeLine; decide), fun tt nt => ⟨tt, _, rfl, SqT.of upd_same, rfl, _, _, rfl, _, _, rfl, rfl, ?_⟩⟩
      have s6 := same_new (o := .tup [vo, vb]) nt
      exact rm _ _ four t0 t0 vo vb dO dB _ _ _ _ _ _ _ _ _ _ _ _ _ _ (s6 _ _ h4) (oo.keep s6) nO (ob.keep s6) qB iB (tb16.ext s6) hQ
end
end Ev2
namespace Ev
open PySem L2 PySem.Spec PyProof.Rows LamX
/-- the table of a code object -/
def tabAt (K : PySem.W.Frag) (c : Addr) : Addr := match K.lookup c with
  | some ⟨_, _, .fields vs, _⟩ => (match (vs[11]? : Option Value) with | some (.ref T) => T | _ => 0)
  | _ => 0
theorem kit_cls' {K : PySem.W.Frag} {t : Value} {C : Addr} (h1 : PySem.W.isClsIn K C = true) (h2 : PySem.W.typeIn K (.ref C) = some (.type "type")) (h3 : PySem.W.subIn K t (.ref C) = some true) : PySem.W.kitCls K t (.ref C) = some true := by
  have h1 : (PySem.W.clsIn K C).isSome = true := h1
  unfold PySem.W.kitCls
  simp only [h1, h2, h3]
  decide
theorem kit_own {K : PySem.W.Frag} {t : Value} {C : Addr} (h1 : PySem.W.isClsIn K C = true) (h2 : PySem.W.typeIn K (.ref C) = some (.type "type")) (h3 : PySem.W.subIn K t (.ref C) = some true) : PySem.W.kitOne K t (.ref C) = some true := by
  unfold PySem.W.kitOne
  split
  · rfl
  · exact kit_cls' h1 h2 h3
theorem exm_own {K : PySem.W.Frag} {t : Value} {C : Addr} (h1 : PySem.W.isClsIn K C = true) (h2 : PySem.W.typeIn K (.ref C) = some (.type "type")) (h3 : PySem.W.subIn K t (.ref C) = some true) (h4 : PySem.W.subIn K (.ref C) (.type "BaseException") = some true) : PySem.W.exmOne K t (.ref C) = some true := by
  unfold PySem.W.exmOne
  rw [h4, if_pos (by decide)]
  exact kit_cls' h1 h2 h3

theorem fnr_of {P : Program} {w : World} {K : PySem.W.Frag} {mg : Str → Option Value} {base : Heap} {CX : CXT} {k : Nat} {f : Addr} {fd : FuncData} {ps : List Str} {sp : Sp} (F : FnOk P w K mg base CX k f fd ps sp) (b : Binds K fd ps []) : FnR P w K mg base CX k f sp := by
  intro A above s H us vs Q E room env rv hs
  have hl : us.length = ps.length := rv.length.symm.trans (F.len _ _ _ _ hs)
  have bt := b s us (env.mod.kin.keeps fun b o e => (env.bs b o e).1) (by rw [List.append_nil]; exact hl)
  rw [List.append_nil] at bt
  exact F.run A above s H ⟨us, []⟩ us vs Q E room env bt rv hs
theorem kit_clsB {K : PySem.W.Frag} {t : Value} {C : Addr} {b : Bool} (h1 : PySem.W.isClsIn K C = true) (h2 : PySem.W.typeIn K (.ref C) = some (.type "type")) (h3 : PySem.W.subIn K t (.ref C) = some b) : PySem.W.kitCls K t (.ref C) = some b := by
  have h1 : (PySem.W.clsIn K C).isSome = true := h1
  unfold PySem.W.kitCls
  simp only [h1, h2, h3]
  cases b <;> decide
theorem kit_clsN {K : PySem.W.Frag} {x : String} {C : Addr} (h1 : PySem.W.isClsIn K C = true) (h2 : PySem.W.typeIn K (.ref C) = some (.type "type")) (h3 : PySem.W.subIn K (.type x) (.ref C) = some false) : PySem.W.kitOne K (.type x) (.ref C) = some false := by
  unfold PySem.W.kitOne
  split
  · rename_i z
    have n : ((Value.type x) == (Value.ref C)) = false := by simp
    rw [n] at z
    cases z
  · exact kit_clsB h1 h2 h3
theorem kit_not {K : PySem.W.Frag} {D C : Addr} (h1 : PySem.W.isClsIn K C = true) (h2 : PySem.W.typeIn K (.ref C) = some (.type "type")) (h3 : PySem.W.subIn K (.ref D) (.ref C) = some false) (h4 : PySem.W.subIn K (.ref C) (.ref C) = some true) : PySem.W.kitOne K (.ref D) (.ref C) = some false := by
  unfold PySem.W.kitOne
  split
  · rename_i z
    by_cases e : D = C
    · rw [e, h4] at h3
      cases h3
    · have n : ((Value.ref D) == (Value.ref C)) = false := by simp [e]
      rw [n] at z
      cases z
  · exact kit_clsB h1 h2 h3
theorem kb_r4 {K : PySem.W.Frag} {x qual y1 y2 y3 y4 : Str} {st : Stmt} {f : Addr} {fd : FuncData} (F : Fun K x qual st f fd)
    (h : ∀ (kV doc pm : Value) (an : Option Addr) (cdv ct a b c d : Value), bindArgs (PySem.W.fnOf x qual (defArgs st) (defBody st) (defScope st) .none kV doc pm an cdv ct) ⟨[], ([y1, y2, y3, y4] : List Str).zip [a, b, c, d]⟩ = pure (([y4, y3, y2, y1] : List Str).zip [d, c, b, a])) : KBinds K fd [y4, y3, y2, y1] [y1, y2, y3, y4] gR4 gR4 := by
  obtain ⟨oc, od, kV, doc, pm, an, cdv, ct, osl, rfl, lk, hcd⟩ := F.ex
  refine ⟨fun s us ws _ hl => ?_, gR4_rel⟩
  obtain ⟨a, b, c, d, rfl, rfl⟩ := gR4_len hl
  exact .of_eq (h _ _ _ _ _ _ _ _ _ _)
theorem kit_bty {K : PySem.W.Frag} {t : Value} (h : PySem.W.subIn K t (.type "ValueError") = some true) : PySem.W.kitOne K t (.type "ValueError") = some true := by
  unfold PySem.W.kitOne
  split
  · rfl
  · unfold PySem.W.kitCls
    simp only
    rw [if_pos (by decide +kernel)]
    exact h
theorem walk_ofGTK {l : PySem.W.OpenLaw} {n k : Nat} {q : Program} {loose : List Str} {XP : (Str → Option Value) → Heap → Prop} {YP : World → Heap → Prop}
    {d : DefRec} {K : Params → PySem.W.Frag} {x xr : Str} (hn : l.most = some n) (hn2 : n ≤ sizeLine) (hdf : d.params.defaults = []) (hr : Room k callerA) (hrec : ((recsOf q).any fun e => e.name == xr) = true)
    (hY : ∀ (w : World) (h : Heap), YP w h → (K w.params).In h)
    (F : ∀ (w : World) (mg : Str → Option Value) (fa : Addr) (h : Heap), (K w.params).In h → h.Ns mainGlobals mg → mg d.name = some (.ref fa) →
      ∃ (fd fdr : FuncData) (sp : Sp) (fr c T : Addr) (o : Obj), (∀ (s : Shared) (u : Value), BindsTo s fd ⟨[u], []⟩ [(x, u)]) ∧
        mg xr = some (.ref fr) ∧ (K w.params).lookup fr = some o ∧ o.data = .func fdr ∧ fdr.code = .ref c ∧ PySem.W.codeHdIn (K w.params) c T = true ∧ (K w.params).lookup T = none ∧
        (∀ (H : Hp) (a : Addr) (ns : List Int), ns.length ≤ n → H T = some (.tbl #[]) → SqL (K w.params) H a (ns.map V.int) → sp [.ref a] H (fun v _ => v = .bl true) fun _ _ _ => False) ∧
        ∀ base : Heap, (K w.params).In base → base.Ns mainGlobals mg → TabB base mg c T → FnG l.prog w (K w.params) mg base k fa fd [x] sp) :
    PySem.W.WalkO q loose XP YP l.row.toRowW d [] (fun f vs => PySem.call f vs) :=
  Ev2.walk_ofGT hn hn2 hdf hr hrec fun w mg fa h Y ns hm => by
    obtain ⟨fd, fdr, sp, fr, c, T, o, r⟩ := F w mg fa h (hY w h Y) ns hm
    exact ⟨K w.params, fd, fdr, sp, fr, c, T, o, hY w h Y, r⟩
theorem sqT_K {K : PySem.W.Frag} {H : Hp} {a : Addr} {od : Option Addr} {us : List Value} {n : Nat} {sl : Array (Option Value)} {xs : List V} (h : K.lookup a = some ⟨.type "tuple", od, .seq us.toArray n, sl⟩) (hl : xs.length ≤ 1000) (r : Vals xs us) : SqT K H a xs := by
  have hl2 : us.length ≤ 1000 := by rw [← r.length]; exact hl
  exact .inr ⟨_, us.toArray, n, h, rfl, rfl, by rw [List.size_toArray]; exact Nat.le_trans hl2 (by decide), by simpa using r⟩
set_option maxHeartbeats 4000000 in
theorem all_mk {l : PySem.W.OpenLaw} {w : World} {K : PySem.W.Frag} {h : Heap} {mg : Str → Option Value} {f0 f1 f2 f3 f4 f5 f6 f7 f8 f9 f10 f11 f12 f13 f14 f15 f16 f17 f18 f19 f20 f21 f22 f23 f24 f25 f26 f27 f28 f29 f30 f31 f32 f33 f34 f35 f36 f37 f38 f39 cL Ct Cn GR WR CW T150 f150 T151 KD151 f151 f153 f154 f155 f156 f157 f158 f159 f160 f161 f162 BR f163 BD f164 BN f165 FE DE SK ON O0 O1 O2 O3 TW V0 V1 V2 V3 V4 V5 V6 fa : Addr} {od0 an0 od1 an1 od2 an2 od3 an3 od4 an4 od5 an5 od6 an6 od7 an7 od8 an8 od9 an9 od10 an10 od11 an11 od12 an12 od13 an13 od14 an14 od15 an15 od16 an16 od17 an17 od18 an18 od19 an19 od20 an20 od21 an21 od22 an22 od23 an23 od24 an24 od25 an25 od26 an26 od27 an27 od28 an28 od29 an29 od30 an30 od31 an31 od32 an32 od33 an33 od34 an34 od35 an35 od36 an36 od37 an37 od38 an38 od39 an39 td150 od150 an150 td151 od151 an151 od153 an153 od154 an154 od155 an155 od156 an156 od157 an157 od158 an158 od159 an159 od160 an160 od161 an161 od162 an162 od163 an163 od164 an164 od165 an165 odDE odSK odON odO0 odO1 odO2 odO3 odTW odV0 odV1 odV2 odV3 odV4 odV5 odV6 : Option Addr} {sl0 sl1 sl2 sl3 sl4 sl5 sl6 sl7 sl8 sl9 sl10 sl11 sl12 sl13 sl14 sl15 sl16 sl17 sl18 sl19 sl20 sl21 sl22 sl23 sl24 sl25 sl26 sl27 sl28 sl29 sl30 sl31 sl32 sl33 sl34 sl35 sl36 sl37 sl38 sl39 ts150 sl150 ts151 sl151 sl153 sl154 sl155 sl156 sl157 sl158 sl159 sl160 sl161 sl162 sl163 sl164 sl165 slDE slSK slON slO0 slO1 slO2 slO3 slTW slV0 slV1 slV2 slV3 slV4 slV5 slV6 : Array (Option Value)} {oc0 dc0 pm0 cd0 ct0 kV0 oc1 dc1 pm1 cd1 ct1 kV1 oc2 dc2 pm2 cd2 ct2 kV2 oc3 dc3 pm3 cd3 ct3 kV3 oc4 dc4 pm4 cd4 ct4 kV4 oc5 dc5 pm5 cd5 ct5 kV5 oc6 dc6 pm6 cd6 ct6 kV6 oc7 dc7 pm7 cd7 ct7 kV7 oc8 dc8 pm8 cd8 ct8 kV8 oc9 dc9 pm9 cd9 ct9 kV9 oc10 dc10 pm10 cd10 ct10 kV10 oc11 dc11 pm11 cd11 ct11 kV11 oc12 dc12 pm12 cd12 ct12 kV12 oc13 dc13 pm13 cd13 ct13 kV13 oc14 dc14 pm14 cd14 ct14 kV14 oc15 dc15 pm15 cd15 ct15 kV15 oc16 dc16 pm16 cd16 ct16 kV16 oc17 dc17 pm17 cd17 ct17 kV17 oc18 dc18 pm18 cd18 ct18 kV18 oc19 dc19 pm19 cd19 ct19 kV19 oc20 dc20 pm20 cd20 ct20 kV20 oc21 dc21 pm21 cd21 ct21 kV21 oc22 dc22 pm22 cd22 ct22 kV22 oc23 dc23 pm23 cd23 ct23 kV23 oc24 dc24 pm24 cd24 ct24 kV24 oc25 dc25 pm25 cd25 ct25 kV25 oc26 dc26 pm26 cd26 ct26 kV26 oc27 dc27 pm27 cd27 ct27 kV27 oc28 dc28 pm28 cd28 ct28 kV28 oc29 dc29 pm29 cd29 ct29 kV29 oc30 dc30 pm30 cd30 ct30 kV30 oc31 dc31 pm31 cd31 ct31 kV31 oc32 dc32 pm32 cd32 ct32 kV32 oc33 dc33 pm33 cd33 ct33 kV33 oc34 dc34 pm34 cd34 ct34 kV34 oc35 dc35 pm35 cd35 ct35 kV35 oc36 dc36 pm36 cd36 ct36 kV36 oc37 dc37 pm37 cd37 ct37 kV37 oc38 dc38 pm38 cd38 ct38 kV38 oc39 dc39 pm39 ct39 kV39 tc150 oc150 dc150 pm150 cd150 ct150 kV150 tc151 oc151 dc151 pm151 cd151 ct151 oc153 dc153 pm153 cd153 ct153 kV153 oc154 dc154 pm154 cd154 ct154 kV154 oc155 dc155 pm155 cd155 ct155 kV155 oc156 dc156 pm156 cd156 ct156 kV156 oc157 dc157 pm157 cd157 ct157 kV157 oc158 dc158 pm158 cd158 ct158 kV158 oc159 dc159 pm159 cd159 ct159 kV159 oc160 dc160 pm160 cd160 ct160 kV160 oc161 dc161 pm161 cd161 ct161 kV161 oc162 dc162 pm162 cd162 ct162 kV162 oc163 dc163 pm163 cd163 ct163 kV163 oc164 dc164 pm164 cd164 ct164 kV164 oc165 dc165 pm165 cd165 ct165 kV165 : Value} {tt1500 tt1510 tk1510 tW tgP tgU tgK uDE0 uDE1 uSK0 uSK1 uO00 uO01 uO10 uO11 uO20 uO21 uO30 uO31 uV00 uV01 uV10 uV11 uV20 uV21 uV30 uV31 uV40 uV41 uV50 uV51 uV60 uV61 : Tok} {tn150 tn151 nDE nSK nON nO0 nO1 nO2 nO3 nTW nV0 nV1 nV2 nV3 nV4 nV5 nV6 : Nat} {nmBR qBR nsBR bsBR bmBR snBR subBR abBR colBR ddBR k0BR k1BR k2BR k3BR k5BR nmBD qBD nsBD bsBD bmBD snBD subBD abBD colBD ddBD k0BD k1BD k2BD k3BD k5BD nmBN qBN nsBN bsBN bmBN snBN subBN abBN colBN ddBN k0BN k1BN k2BN k3BN k5BN : _} (X : K.In h) (G : h.Ns mainGlobals mg) (hfa : mg "law" = some (.ref fa))
    (a0 : PySem.W.nsIn K mainGlobals "is_integer" = some (some (.ref f0)))
    (l0 : K.lookup f0 = some ⟨oc0, od0, .func (PySem.W.fnOf "is_integer" "is_integer" (defArgs sIsInt) (defBody sIsInt) (defScope sIsInt) .none kV0 dc0 pm0 an0 cd0 ct0), sl0⟩)
    (c0 : PySem.W.codeIn K cd0 "is_integer" = true)
    (k0 : PySem.W.keepIn K (.ref f0) = true)
    (a1 : PySem.W.nsIn K mainGlobals "is_within" = some (some (.ref f1)))
    (l1 : K.lookup f1 = some ⟨oc1, od1, .func (PySem.W.fnOf "is_within" "is_within" (defArgs sWithin) (defBody sWithin) (defScope sWithin) .none kV1 dc1 pm1 an1 cd1 ct1), sl1⟩)
    (c1 : PySem.W.codeIn K cd1 "is_within" = true)
    (k1 : PySem.W.keepIn K (.ref f1) = true)
    (a2 : PySem.W.nsIn K mainGlobals "is_pair" = some (some (.ref f2)))
    (l2 : K.lookup f2 = some ⟨oc2, od2, .func (PySem.W.fnOf "is_pair" "is_pair" (defArgs sPair) (defBody sPair) (defScope sPair) .none kV2 dc2 pm2 an2 cd2 ct2), sl2⟩)
    (c2 : PySem.W.codeIn K cd2 "is_pair" = true)
    (k2 : PySem.W.keepIn K (.ref f2) = true)
    (a3 : PySem.W.nsIn K mainGlobals "is_times" = some (some (.ref f3)))
    (l3 : K.lookup f3 = some ⟨oc3, od3, .func (PySem.W.fnOf "is_times" "is_times" (defArgs sTimes) (defBody sTimes) (defScope sTimes) .none kV3 dc3 pm3 an3 cd3 ct3), sl3⟩)
    (c3 : PySem.W.codeIn K cd3 "is_times" = true)
    (k3 : PySem.W.keepIn K (.ref f3) = true)
    (a4 : PySem.W.nsIn K mainGlobals "is_plus" = some (some (.ref f4)))
    (l4 : K.lookup f4 = some ⟨oc4, od4, .func (PySem.W.fnOf "is_plus" "is_plus" (defArgs sPlus) (defBody sPlus) (defScope sPlus) .none kV4 dc4 pm4 an4 cd4 ct4), sl4⟩)
    (c4 : PySem.W.codeIn K cd4 "is_plus" = true)
    (k4 : PySem.W.keepIn K (.ref f4) = true)
    (a5 : PySem.W.nsIn K mainGlobals "is_turn" = some (some (.ref f5)))
    (l5 : K.lookup f5 = some ⟨oc5, od5, .func (PySem.W.fnOf "is_turn" "is_turn" (defArgs sTurn) (defBody sTurn) (defScope sTurn) .none kV5 dc5 pm5 an5 cd5 ct5), sl5⟩)
    (c5 : PySem.W.codeIn K cd5 "is_turn" = true)
    (k5 : PySem.W.keepIn K (.ref f5) = true)
    (a6 : PySem.W.nsIn K mainGlobals "need_times" = some (some (.ref f6)))
    (l6 : K.lookup f6 = some ⟨oc6, od6, .func (PySem.W.fnOf "need_times" "need_times" (defArgs sNeedT) (defBody sNeedT) (defScope sNeedT) .none kV6 dc6 pm6 an6 cd6 ct6), sl6⟩)
    (c6 : PySem.W.codeIn K cd6 "need_times" = true)
    (k6 : PySem.W.keepIn K (.ref f6) = true)
    (a7 : PySem.W.nsIn K mainGlobals "has_halves" = some (some (.ref f7)))
    (l7 : K.lookup f7 = some ⟨oc7, od7, .func (PySem.W.fnOf "has_halves" "has_halves" (defArgs sHalves) (defBody sHalves) (defScope sHalves) .none kV7 dc7 pm7 an7 cd7 ct7), sl7⟩)
    (c7 : PySem.W.codeIn K cd7 "has_halves" = true)
    (k7 : PySem.W.keepIn K (.ref f7) = true)
    (a8 : PySem.W.nsIn K mainGlobals "need_halves" = some (some (.ref f8)))
    (l8 : K.lookup f8 = some ⟨oc8, od8, .func (PySem.W.fnOf "need_halves" "need_halves" (defArgs sNeedH) (defBody sNeedH) (defScope sNeedH) .none kV8 dc8 pm8 an8 cd8 ct8), sl8⟩)
    (c8 : PySem.W.codeIn K cd8 "need_halves" = true)
    (k8 : PySem.W.keepIn K (.ref f8) = true)
    (a9 : PySem.W.nsIn K mainGlobals "need_rule" = some (some (.ref f9)))
    (l9 : K.lookup f9 = some ⟨oc9, od9, .func (PySem.W.fnOf "need_rule" "need_rule" (defArgs sNeedR) (defBody sNeedR) (defScope sNeedR) .none kV9 dc9 pm9 an9 cd9 ct9), sl9⟩)
    (c9 : PySem.W.codeIn K cd9 "need_rule" = true)
    (k9 : PySem.W.keepIn K (.ref f9) = true)
    (a10 : PySem.W.nsIn K mainGlobals "least_beside" = some (some (.ref f10)))
    (l10 : K.lookup f10 = some ⟨oc10, od10, .func (PySem.W.fnOf "least_beside" "least_beside" (defArgs sLeastB) (defBody sLeastB) (defScope sLeastB) .none kV10 dc10 pm10 an10 cd10 ct10), sl10⟩)
    (c10 : PySem.W.codeIn K cd10 "least_beside" = true)
    (k10 : PySem.W.keepIn K (.ref f10) = true)
    (a11 : PySem.W.nsIn K mainGlobals "greatest_beside" = some (some (.ref f11)))
    (l11 : K.lookup f11 = some ⟨oc11, od11, .func (PySem.W.fnOf "greatest_beside" "greatest_beside" (defArgs sGreatestBeside) (defBody sGreatestBeside) (defScope sGreatestBeside) .none kV11 dc11 pm11 an11 cd11 ct11), sl11⟩)
    (c11 : PySem.W.codeIn K cd11 "greatest_beside" = true)
    (k11 : PySem.W.keepIn K (.ref f11) = true)
    (a12 : PySem.W.nsIn K mainGlobals "least_part" = some (some (.ref f12)))
    (l12 : K.lookup f12 = some ⟨oc12, od12, .func (PySem.W.fnOf "least_part" "least_part" (defArgs sLeastPart) (defBody sLeastPart) (defScope sLeastPart) .none kV12 dc12 pm12 an12 cd12 ct12), sl12⟩)
    (c12 : PySem.W.codeIn K cd12 "least_part" = true)
    (k12 : PySem.W.keepIn K (.ref f12) = true)
    (a13 : PySem.W.nsIn K mainGlobals "kept" = some (some (.ref f13)))
    (l13 : K.lookup f13 = some ⟨oc13, od13, .func (PySem.W.fnOf "kept" "kept" (defArgs sKept) (defBody sKept) (defScope sKept) .none kV13 dc13 pm13 an13 cd13 ct13), sl13⟩)
    (c13 : PySem.W.codeIn K cd13 "kept" = true)
    (k13 : PySem.W.keepIn K (.ref f13) = true)
    (a14 : PySem.W.nsIn K mainGlobals "is_flat" = some (some (.ref f14)))
    (l14 : K.lookup f14 = some ⟨oc14, od14, .func (PySem.W.fnOf "is_flat" "is_flat" (defArgs sIsFlat) (defBody sIsFlat) (defScope sIsFlat) .none kV14 dc14 pm14 an14 cd14 ct14), sl14⟩)
    (c14 : PySem.W.codeIn K cd14 "is_flat" = true)
    (k14 : PySem.W.keepIn K (.ref f14) = true)
    (a15 : PySem.W.nsIn K mainGlobals "parts_of" = some (some (.ref f15)))
    (l15 : K.lookup f15 = some ⟨oc15, od15, .func (PySem.W.fnOf "parts_of" "parts_of" (defArgs sPartsOf) (defBody sPartsOf) (defScope sPartsOf) .none kV15 dc15 pm15 an15 cd15 ct15), sl15⟩)
    (c15 : PySem.W.codeIn K cd15 "parts_of" = true)
    (k15 : PySem.W.keepIn K (.ref f15) = true)
    (a16 : PySem.W.nsIn K mainGlobals "rebuilt" = some (some (.ref f16)))
    (l16 : K.lookup f16 = some ⟨oc16, od16, .func (PySem.W.fnOf "rebuilt" "rebuilt" (defArgs sRebuilt) (defBody sRebuilt) (defScope sRebuilt) .none kV16 dc16 pm16 an16 cd16 ct16), sl16⟩)
    (c16 : PySem.W.codeIn K cd16 "rebuilt" = true)
    (k16 : PySem.W.keepIn K (.ref f16) = true)
    (a17 : PySem.W.nsIn K mainGlobals "copied_deep" = some (some (.ref f17)))
    (l17 : K.lookup f17 = some ⟨oc17, od17, .func (PySem.W.fnOf "copied_deep" "copied_deep" (defArgs sCopiedDeep) (defBody sCopiedDeep) (defScope sCopiedDeep) .none kV17 dc17 pm17 an17 cd17 ct17), sl17⟩)
    (c17 : PySem.W.codeIn K cd17 "copied_deep" = true)
    (k17 : PySem.W.keepIn K (.ref f17) = true)
    (a18 : PySem.W.nsIn K mainGlobals "is_deed" = some (some (.ref f18)))
    (l18 : K.lookup f18 = some ⟨oc18, od18, .func (PySem.W.fnOf "is_deed" "is_deed" (defArgs sIsDeed) (defBody sIsDeed) (defScope sIsDeed) .none kV18 dc18 pm18 an18 cd18 ct18), sl18⟩)
    (c18 : PySem.W.codeIn K cd18 "is_deed" = true)
    (k18 : PySem.W.keepIn K (.ref f18) = true)
    (a19 : PySem.W.nsIn K mainGlobals "turn_ends" = some (some (.ref f19)))
    (l19 : K.lookup f19 = some ⟨oc19, od19, .func (PySem.W.fnOf "turn_ends" "turn_ends" (defArgs sTurnEnds) (defBody sTurnEnds) (defScope sTurnEnds) .none kV19 dc19 pm19 an19 cd19 ct19), sl19⟩)
    (c19 : PySem.W.codeIn K cd19 "turn_ends" = true)
    (k19 : PySem.W.keepIn K (.ref f19) = true)
    (a20 : PySem.W.nsIn K mainGlobals "heavy_ends" = some (some (.ref f20)))
    (l20 : K.lookup f20 = some ⟨oc20, od20, .func (PySem.W.fnOf "heavy_ends" "heavy_ends" (defArgs sHeavyEnds) (defBody sHeavyEnds) (defScope sHeavyEnds) .none kV20 dc20 pm20 an20 cd20 ct20), sl20⟩)
    (c20 : PySem.W.codeIn K cd20 "heavy_ends" = true)
    (k20 : PySem.W.keepIn K (.ref f20) = true)
    (a21 : PySem.W.nsIn K mainGlobals "breaks" = some (some (.ref f21)))
    (l21 : K.lookup f21 = some ⟨oc21, od21, .func (PySem.W.fnOf "breaks" "breaks" (defArgs sBreaks) (defBody sBreaks) (defScope sBreaks) .none kV21 dc21 pm21 an21 cd21 ct21), sl21⟩)
    (c21 : PySem.W.codeIn K cd21 "breaks" = true)
    (k21 : PySem.W.keepIn K (.ref f21) = true)
    (a22 : PySem.W.nsIn K mainGlobals "_law_pen" = some (some (.ref f22)))
    (l22 : K.lookup f22 = some ⟨oc22, od22, .func (PySem.W.fnOf "_law_pen" "_law_pen" (defArgs sPen) (defBody sPen) (defScope sPen) .none kV22 dc22 pm22 an22 cd22 ct22), sl22⟩)
    (c22 : PySem.W.codeIn K cd22 "_law_pen" = true)
    (k22 : PySem.W.keepIn K (.ref f22) = true)
    (a23 : PySem.W.nsIn K mainGlobals "_law_draw" = some (some (.ref f23)))
    (l23 : K.lookup f23 = some ⟨oc23, od23, .func (PySem.W.fnOf "_law_draw" "_law_draw" (defArgs sDraw) (defBody sDraw) (defScope sDraw) .none kV23 dc23 pm23 an23 cd23 ct23), sl23⟩)
    (c23 : PySem.W.codeIn K cd23 "_law_draw" = true)
    (k23 : PySem.W.keepIn K (.ref f23) = true)
    (a24 : PySem.W.nsIn K mainGlobals "_law_pick" = some (some (.ref f24)))
    (l24 : K.lookup f24 = some ⟨oc24, od24, .func (PySem.W.fnOf "_law_pick" "_law_pick" (defArgs sPick) (defBody sPick) (defScope sPick) .none kV24 dc24 pm24 an24 cd24 ct24), sl24⟩)
    (c24 : PySem.W.codeIn K cd24 "_law_pick" = true)
    (k24 : PySem.W.keepIn K (.ref f24) = true)
    (a25 : PySem.W.nsIn K mainGlobals "_law_numbers" = some (some (.ref f25)))
    (l25 : K.lookup f25 = some ⟨oc25, od25, .func (PySem.W.fnOf "_law_numbers" "_law_numbers" (defArgs sLNumbers) (defBody sLNumbers) (defScope sLNumbers) .none kV25 dc25 pm25 an25 cd25 ct25), sl25⟩)
    (c25 : PySem.W.codeIn K cd25 "_law_numbers" = true)
    (k25 : PySem.W.keepIn K (.ref f25) = true)
    (a26 : PySem.W.nsIn K mainGlobals "_law_rule" = some (some (.ref f26)))
    (l26 : K.lookup f26 = some ⟨oc26, od26, .func (PySem.W.fnOf "_law_rule" "_law_rule" (defArgs sLRule) (defBody sLRule) (defScope sLRule) .none kV26 dc26 pm26 an26 cd26 ct26), sl26⟩)
    (c26 : PySem.W.codeIn K cd26 "_law_rule" = true)
    (k26 : PySem.W.keepIn K (.ref f26) = true)
    (a27 : PySem.W.nsIn K mainGlobals "_law_heard" = some (some (.ref f27)))
    (l27 : K.lookup f27 = some ⟨oc27, od27, .func (PySem.W.fnOf "_law_heard" "_law_heard" (defArgs sLHeard) (defBody sLHeard) (defScope sLHeard) .none kV27 dc27 pm27 an27 cd27 ct27), sl27⟩)
    (c27 : PySem.W.codeIn K cd27 "_law_heard" = true)
    (k27 : PySem.W.keepIn K (.ref f27) = true)
    (a28 : PySem.W.nsIn K mainGlobals "_law_is_heavy" = some (some (.ref f28)))
    (l28 : K.lookup f28 = some ⟨oc28, od28, .func (PySem.W.fnOf "_law_is_heavy" "_law_is_heavy" (defArgs sLIsHeavy) (defBody sLIsHeavy) (defScope sLIsHeavy) .none kV28 dc28 pm28 an28 cd28 ct28), sl28⟩)
    (c28 : PySem.W.codeIn K cd28 "_law_is_heavy" = true)
    (k28 : PySem.W.keepIn K (.ref f28) = true)
    (a29 : PySem.W.nsIn K mainGlobals "_law_once_breaks" = some (some (.ref f29)))
    (l29 : K.lookup f29 = some ⟨oc29, od29, .func (PySem.W.fnOf "_law_once_breaks" "_law_once_breaks" (defArgs sLOnceBreaks) (defBody sLOnceBreaks) (defScope sLOnceBreaks) .none kV29 dc29 pm29 an29 cd29 ct29), sl29⟩)
    (c29 : PySem.W.codeIn K cd29 "_law_once_breaks" = true)
    (k29 : PySem.W.keepIn K (.ref f29) = true)
    (a30 : PySem.W.nsIn K mainGlobals "_law_twice_breaks" = some (some (.ref f30)))
    (l30 : K.lookup f30 = some ⟨oc30, od30, .func (PySem.W.fnOf "_law_twice_breaks" "_law_twice_breaks" (defArgs sLTwiceBreaks) (defBody sLTwiceBreaks) (defScope sLTwiceBreaks) .none kV30 dc30 pm30 an30 cd30 ct30), sl30⟩)
    (c30 : PySem.W.codeIn K cd30 "_law_twice_breaks" = true)
    (k30 : PySem.W.keepIn K (.ref f30) = true)
    (a31 : PySem.W.nsIn K mainGlobals "_law_is_even" = some (some (.ref f31)))
    (l31 : K.lookup f31 = some ⟨oc31, od31, .func (PySem.W.fnOf "_law_is_even" "_law_is_even" (defArgs sLIsEven) (defBody sLIsEven) (defScope sLIsEven) .none kV31 dc31 pm31 an31 cd31 ct31), sl31⟩)
    (c31 : PySem.W.codeIn K cd31 "_law_is_even" = true)
    (k31 : PySem.W.keepIn K (.ref f31) = true)
    (a32 : PySem.W.nsIn K mainGlobals "_law_parts" = some (some (.ref f32)))
    (l32 : K.lookup f32 = some ⟨oc32, od32, .func (PySem.W.fnOf "_law_parts" "_law_parts" (defArgs sLParts) (defBody sLParts) (defScope sLParts) .none kV32 dc32 pm32 an32 cd32 ct32), sl32⟩)
    (c32 : PySem.W.codeIn K cd32 "_law_parts" = true)
    (k32 : PySem.W.keepIn K (.ref f32) = true)
    (a33 : PySem.W.nsIn K mainGlobals "_law_seen" = some (some (.ref f33)))
    (l33 : K.lookup f33 = some ⟨oc33, od33, .func (PySem.W.fnOf "_law_seen" "_law_seen" (defArgs sLSeen) (defBody sLSeen) (defScope sLSeen) .none kV33 dc33 pm33 an33 cd33 ct33), sl33⟩)
    (c33 : PySem.W.codeIn K cd33 "_law_seen" = true)
    (k33 : PySem.W.keepIn K (.ref f33) = true)
    (a34 : PySem.W.nsIn K mainGlobals "_law_order" = some (some (.ref f34)))
    (l34 : K.lookup f34 = some ⟨oc34, od34, .func (PySem.W.fnOf "_law_order" "_law_order" (defArgs sLOrder) (defBody sLOrder) (defScope sLOrder) .none kV34 dc34 pm34 an34 cd34 ct34), sl34⟩)
    (c34 : PySem.W.codeIn K cd34 "_law_order" = true)
    (k34 : PySem.W.keepIn K (.ref f34) = true)
    (a35 : PySem.W.nsIn K mainGlobals "_law_code" = some (some (.ref f35)))
    (l35 : K.lookup f35 = some ⟨oc35, od35, .func (PySem.W.fnOf "_law_code" "_law_code" (defArgs sLCode) (defBody sLCode) (defScope sLCode) .none kV35 dc35 pm35 an35 cd35 ct35), sl35⟩)
    (c35 : PySem.W.codeIn K cd35 "_law_code" = true)
    (k35 : PySem.W.keepIn K (.ref f35) = true)
    (a36 : PySem.W.nsIn K mainGlobals "_law_due" = some (some (.ref f36)))
    (l36 : K.lookup f36 = some ⟨oc36, od36, .func (PySem.W.fnOf "_law_due" "_law_due" (defArgs sLDue) (defBody sLDue) (defScope sLDue) .none kV36 dc36 pm36 an36 cd36 ct36), sl36⟩)
    (c36 : PySem.W.codeIn K cd36 "_law_due" = true)
    (k36 : PySem.W.keepIn K (.ref f36) = true)
    (a37 : PySem.W.nsIn K mainGlobals "_law_heavies" = some (some (.ref f37)))
    (l37 : K.lookup f37 = some ⟨oc37, od37, .func (PySem.W.fnOf "_law_heavies" "_law_heavies" (defArgs sLHeavies) (defBody sLHeavies) (defScope sLHeavies) .none kV37 dc37 pm37 an37 cd37 ct37), sl37⟩)
    (c37 : PySem.W.codeIn K cd37 "_law_heavies" = true)
    (k37 : PySem.W.keepIn K (.ref f37) = true)
    (a38 : PySem.W.nsIn K mainGlobals "_law_right" = some (some (.ref f38)))
    (l38 : K.lookup f38 = some ⟨oc38, od38, .func (PySem.W.fnOf "_law_right" "_law_right" (defArgs sLRight) (defBody sLRight) (defScope sLRight) .none kV38 dc38 pm38 an38 cd38 ct38), sl38⟩)
    (c38 : PySem.W.codeIn K cd38 "_law_right" = true)
    (k38 : PySem.W.keepIn K (.ref f38) = true)
    (a39 : PySem.W.nsIn K mainGlobals "law" = some (some (.ref f39)))
    (l39 : K.lookup f39 = some ⟨oc39, od39, .func (PySem.W.fnOf "law" "law" (defArgs sLaw) (defBody sLaw) (defScope sLaw) .none kV39 dc39 pm39 an39 (.ref cL) ct39), sl39⟩)
    (c39 : PySem.W.codeIn K (.ref cL) "law" = true)
    (k39 : PySem.W.keepIn K (.ref f39) = true)
    (aCt : PySem.W.nsIn K mainGlobals "TryRule" = some (some (.ref Ct)))
    (pgCt : PySem.W.plainGet K Ct Str.empty = true)
    (hdCt : PySem.W.hasDictIn K Ct = true)
    (poCt : PySem.W.plainOver K Ct = true)
    (saCt : PySem.W.findIn K (.ref Ct) "__setattr__" = some (some (.builtin "object.__setattr__")))
    (mkCt : PySem.W.makesIn K Ct = true)
    (kcCt : PySem.W.keepIn K (.ref Ct) = true)
    (n0Ct : PySem.W.findIn K (.ref Ct) "times" = some none)
    (n1Ct : PySem.W.findIn K (.ref Ct) "plus" = some none)
    (n2Ct : PySem.W.findIn K (.ref Ct) "turn" = some none)
    (n3Ct : PySem.W.findIn K (.ref Ct) "turn_plus" = some none)
    (aCn : PySem.W.nsIn K mainGlobals "TurnRule" = some (some (.ref Cn)))
    (pgCn : PySem.W.plainGet K Cn Str.empty = true)
    (hdCn : PySem.W.hasDictIn K Cn = true)
    (poCn : PySem.W.plainOver K Cn = true)
    (saCn : PySem.W.findIn K (.ref Cn) "__setattr__" = some (some (.builtin "object.__setattr__")))
    (mkCn : PySem.W.makesIn K Cn = true)
    (kcCn : PySem.W.keepIn K (.ref Cn) = true)
    (n0Cn : PySem.W.findIn K (.ref Cn) "times" = some none)
    (n1Cn : PySem.W.findIn K (.ref Cn) "plus" = some none)
    (n2Cn : PySem.W.findIn K (.ref Cn) "turn" = some none)
    (n3Cn : PySem.W.findIn K (.ref Cn) "turn_plus" = some none)
    (aGR : PySem.W.nsIn K mainGlobals "Grip" = some (some (.ref GR)))
    (pgGR : PySem.W.plainGet K GR Str.empty = true)
    (hdGR : PySem.W.hasDictIn K GR = true)
    (poGR : PySem.W.plainOver K GR = true)
    (saGR : PySem.W.findIn K (.ref GR) "__setattr__" = some (some (.builtin "object.__setattr__")))
    (mkGR : PySem.W.makesIn K GR = true)
    (kcGR : PySem.W.keepIn K (.ref GR) = true)
    (n0GR : PySem.W.findIn K (.ref GR) "own_rule" = some none)
    (n1GR : PySem.W.findIn K (.ref GR) "light" = some none)
    (n2GR : PySem.W.findIn K (.ref GR) "heavy" = some none)
    (n3GR : PySem.W.findIn K (.ref GR) "least_light" = some none)
    (n4GR : PySem.W.findIn K (.ref GR) "too_heavy" = some none)
    (n5GR : PySem.W.findIn K (.ref GR) "too_much" = some none)
    (aWR : PySem.W.nsIn K mainGlobals "Wrong" = some (some (.ref WR)))
    (pgWR : PySem.W.plainGet K WR Str.empty = true)
    (hdWR : PySem.W.hasDictIn K WR = true)
    (poWR : PySem.W.plainOver K WR = true)
    (saWR : PySem.W.findIn K (.ref WR) "__setattr__" = some (some (.builtin "object.__setattr__")))
    (mkWR : PySem.W.makesIn K WR = true)
    (kcWR : PySem.W.keepIn K (.ref WR) = true)
    (n0WR : PySem.W.findIn K (.ref WR) "deed" = some none)
    (n1WR : PySem.W.findIn K (.ref WR) "once" = some none)
    (n2WR : PySem.W.findIn K (.ref WR) "twice" = some none)
    (n3WR : PySem.W.findIn K (.ref WR) "numbers" = some none)
    (aCW : PySem.W.nsIn K mainGlobals "WeightRule" = some (some (.ref CW)))
    (hcCt : PySem.W.findIn K (.ref Ct) "__class__" = some (some (.builtin "object.__class__")))
    (moCt : PySem.W.mroIn K Ct (.type "object") = some true)
    (hcCn : PySem.W.findIn K (.ref Cn) "__class__" = some (some (.builtin "object.__class__")))
    (moCn : PySem.W.mroIn K Cn (.type "object") = some true)
    (hcWR : PySem.W.findIn K (.ref WR) "__class__" = some (some (.builtin "object.__class__")))
    (moWR : PySem.W.mroIn K WR (.type "object") = some true)
    (suCt : PySem.W.subIn K (.ref Ct) (.ref CW) = some true)
    (suCn : PySem.W.subIn K (.ref Cn) (.ref CW) = some true)
    (icCW : PySem.W.isClsIn K CW = true)
    (ttCW : PySem.W.typeIn K (.ref CW) = some (.type "type"))
    (snNW : PySem.W.subIn K (.type "NoneType") (.ref CW) = some false)
    (icCn : PySem.W.isClsIn K Cn = true)
    (ttCn : PySem.W.typeIn K (.ref Cn) = some (.type "type"))
    (sSCn : PySem.W.subIn K (.ref Cn) (.ref Cn) = some true)
    (snTN : PySem.W.subIn K (.ref Ct) (.ref Cn) = some false)
    (icWR : PySem.W.isClsIn K WR = true)
    (ttWR : PySem.W.typeIn K (.ref WR) = some (.type "type"))
    (neWR : PySem.W.findIn K (.ref WR) "__ne__" = some (some (.builtin "object.__ne__")))
    (ikn : PySem.W.specialIn K (.builtin "object.__class__") "__get__" = some (some (.builtin "getset_descriptor.__get__")))
    (ikt : PySem.W.takesIn K (.builtin "object.__class__") = some true)
    (m150 : PySem.W.findIn K (.ref Ct) "__init__" = some (some (.ref f150)))
    (i150 : PySem.W.isFn K (.ref f150) = true)
    (l150 : K.lookup f150 = some ⟨oc150, od150, .func (PySem.W.fnOf "__init__" "TryRule.__init__" (defArgs sTryInit) (defBody sTryInit) (defScope sTryInit) (.ref T150) kV150 dc150 pm150 an150 cd150 ct150), sl150⟩)
    (c150 : PySem.W.codeIn K cd150 "TryRule.__init__" = true)
    (k150 : PySem.W.keepIn K (.ref f150) = true)
    (t150 : K.lookup T150 = some ⟨tc150, td150, .seq #[Value.int 0 tt1500] tn150, ts150⟩)
    (m151 : PySem.W.findIn K (.ref Cn) "__init__" = some (some (.ref f151)))
    (i151 : PySem.W.isFn K (.ref f151) = true)
    (l151 : K.lookup f151 = some ⟨oc151, od151, .func (PySem.W.fnOf "__init__" "TurnRule.__init__" (defArgs sTurnInit) (defBody sTurnInit) (defScope sTurnInit) (.ref T151) (.ref KD151) dc151 pm151 an151 cd151 ct151), sl151⟩)
    (c151 : PySem.W.codeIn K cd151 "TurnRule.__init__" = true)
    (k151 : PySem.W.keepIn K (.ref f151) = true)
    (t151 : K.lookup T151 = some ⟨tc151, td151, .seq #[Value.int 0 tt1510] tn151, ts151⟩)
    (kd1510 : PySem.W.nsIn K KD151 "turn_plus" = some (some (.int 0 tk1510)))
    (m153 : PySem.W.findIn K (.ref GR) "__init__" = some (some (.ref f153)))
    (i153 : PySem.W.isFn K (.ref f153) = true)
    (l153 : K.lookup f153 = some ⟨oc153, od153, .func (PySem.W.fnOf "__init__" "Grip.__init__" (defArgs sGrip_init) (defBody sGrip_init) (defScope sGrip_init) .none kV153 dc153 pm153 an153 cd153 ct153), sl153⟩)
    (c153 : PySem.W.codeIn K cd153 "Grip.__init__" = true)
    (k153 : PySem.W.keepIn K (.ref f153) = true)
    (m154 : PySem.W.findIn K (.ref GR) "first_break" = some (some (.ref f154)))
    (i154 : PySem.W.isFn K (.ref f154) = true)
    (l154 : K.lookup f154 = some ⟨oc154, od154, .func (PySem.W.fnOf "first_break" "Grip.first_break" (defArgs sGrip_first_break) (defBody sGrip_first_break) (defScope sGrip_first_break) .none kV154 dc154 pm154 an154 cd154 ct154), sl154⟩)
    (c154 : PySem.W.codeIn K cd154 "Grip.first_break" = true)
    (k154 : PySem.W.keepIn K (.ref f154) = true)
    (m155 : PySem.W.findIn K (.ref GR) "first_of" = some (some (.ref f155)))
    (i155 : PySem.W.isFn K (.ref f155) = true)
    (l155 : K.lookup f155 = some ⟨oc155, od155, .func (PySem.W.fnOf "first_of" "Grip.first_of" (defArgs sGrip_first_of) (defBody sGrip_first_of) (defScope sGrip_first_of) .none kV155 dc155 pm155 an155 cd155 ct155), sl155⟩)
    (c155 : PySem.W.codeIn K cd155 "Grip.first_of" = true)
    (k155 : PySem.W.keepIn K (.ref f155) = true)
    (m156 : PySem.W.findIn K (.ref GR) "once_ends" = some (some (.ref f156)))
    (i156 : PySem.W.isFn K (.ref f156) = true)
    (l156 : K.lookup f156 = some ⟨oc156, od156, .func (PySem.W.fnOf "once_ends" "Grip.once_ends" (defArgs sGrip_once_ends) (defBody sGrip_once_ends) (defScope sGrip_once_ends) .none kV156 dc156 pm156 an156 cd156 ct156), sl156⟩)
    (c156 : PySem.W.codeIn K cd156 "Grip.once_ends" = true)
    (k156 : PySem.W.keepIn K (.ref f156) = true)
    (m157 : PySem.W.findIn K (.ref GR) "numbers_of" = some (some (.ref f157)))
    (i157 : PySem.W.isFn K (.ref f157) = true)
    (l157 : K.lookup f157 = some ⟨oc157, od157, .func (PySem.W.fnOf "numbers_of" "Grip.numbers_of" (defArgs sGrip_numbers_of) (defBody sGrip_numbers_of) (defScope sGrip_numbers_of) .none kV157 dc157 pm157 an157 cd157 ct157), sl157⟩)
    (c157 : PySem.W.codeIn K cd157 "Grip.numbers_of" = true)
    (k157 : PySem.W.keepIn K (.ref f157) = true)
    (m158 : PySem.W.findIn K (.ref GR) "near_ends" = some (some (.ref f158)))
    (i158 : PySem.W.isFn K (.ref f158) = true)
    (l158 : K.lookup f158 = some ⟨oc158, od158, .func (PySem.W.fnOf "near_ends" "Grip.near_ends" (defArgs sGrip_near_ends) (defBody sGrip_near_ends) (defScope sGrip_near_ends) .none kV158 dc158 pm158 an158 cd158 ct158), sl158⟩)
    (c158 : PySem.W.codeIn K cd158 "Grip.near_ends" = true)
    (k158 : PySem.W.keepIn K (.ref f158) = true)
    (m159 : PySem.W.findIn K (.ref GR) "with_near" = some (some (.ref f159)))
    (i159 : PySem.W.isFn K (.ref f159) = true)
    (l159 : K.lookup f159 = some ⟨oc159, od159, .func (PySem.W.fnOf "with_near" "Grip.with_near" (defArgs sGrip_with_near) (defBody sGrip_with_near) (defScope sGrip_with_near) .none kV159 dc159 pm159 an159 cd159 ct159), sl159⟩)
    (c159 : PySem.W.codeIn K cd159 "Grip.with_near" = true)
    (k159 : PySem.W.keepIn K (.ref f159) = true)
    (m160 : PySem.W.findIn K (.ref WR) "__init__" = some (some (.ref f160)))
    (i160 : PySem.W.isFn K (.ref f160) = true)
    (l160 : K.lookup f160 = some ⟨oc160, od160, .func (PySem.W.fnOf "__init__" "Wrong.__init__" (defArgs sWrong_init) (defBody sWrong_init) (defScope sWrong_init) .none kV160 dc160 pm160 an160 cd160 ct160), sl160⟩)
    (c160 : PySem.W.codeIn K cd160 "Wrong.__init__" = true)
    (k160 : PySem.W.keepIn K (.ref f160) = true)
    (m161 : PySem.W.findIn K (.ref WR) "__eq__" = some (some (.ref f161)))
    (i161 : PySem.W.isFn K (.ref f161) = true)
    (l161 : K.lookup f161 = some ⟨oc161, od161, .func (PySem.W.fnOf "__eq__" "Wrong.__eq__" (defArgs sWrong_eq) (defBody sWrong_eq) (defScope sWrong_eq) .none kV161 dc161 pm161 an161 cd161 ct161), sl161⟩)
    (c161 : PySem.W.codeIn K cd161 "Wrong.__eq__" = true)
    (k161 : PySem.W.keepIn K (.ref f161) = true)
    (m162 : PySem.W.findIn K (.ref WR) "__bool__" = some (some (.ref f162)))
    (i162 : PySem.W.isFn K (.ref f162) = true)
    (l162 : K.lookup f162 = some ⟨oc162, od162, .func (PySem.W.fnOf "__bool__" "Wrong.__bool__" (defArgs sWrong_bool) (defBody sWrong_bool) (defScope sWrong_bool) .none kV162 dc162 pm162 an162 cd162 ct162), sl162⟩)
    (c162 : PySem.W.codeIn K cd162 "Wrong.__bool__" = true)
    (k162 : PySem.W.keepIn K (.ref f162) = true)
    (aBR : PySem.W.nsIn K mainGlobals "BadRule" = some (some (.ref BR)))
    (icBR : PySem.W.isClsIn K BR = true)
    (ttBR : PySem.W.typeIn K (.ref BR) = some (.type "type"))
    (gaBR : PySem.W.findIn K (.ref BR) "__getattribute__" = some (some (.builtin "BaseException.__getattribute__")))
    (ggBR : PySem.W.findIn K (.ref BR) "__getattr__" = some none)
    (hdBR : PySem.W.hasDictIn K BR = true)
    (hcBR : PySem.W.findIn K (.ref BR) "__class__" = some (some (.builtin "object.__class__")))
    (moBR : PySem.W.mroIn K BR (.type "object") = some true)
    (saBR : PySem.W.findIn K (.ref BR) "__setattr__" = some (some (.builtin "object.__setattr__")))
    (exBR : PySem.W.subIn K (.ref BR) (.type "BaseException") = some true)
    (keBR : PySem.W.keepIn K (.ref BR) = true)
    (vEBR : PySem.W.subIn K (.ref BR) (.type "ValueError") = some true)
    (sSBR : PySem.W.subIn K (.ref BR) (.ref BR) = some true)
    (no0BR : PySem.W.findIn K (.ref BR) "part" = some none)
    (lxBR : K.lookup BR = some (excClassObj nmBR qBR BR nsBR bsBR bmBR true snBR subBR abBR colBR ddBR k0BR k1BR k2BR k3BR k5BR "ValueError.__new__"))
    (rxBR : PySem.HandSPX.refsVE bmBR = true)
    (m163 : PySem.W.findIn K (.ref BR) "__init__" = some (some (.ref f163)))
    (l163 : K.lookup f163 = some ⟨oc163, od163, .func (PySem.W.fnOf "__init__" "BadRule.__init__" (defArgs sBadRule_init) (defBody sBadRule_init) (defScope sBadRule_init) .none kV163 dc163 pm163 an163 cd163 ct163), sl163⟩)
    (c163 : PySem.W.codeIn K cd163 "BadRule.__init__" = true)
    (k163 : PySem.W.keepIn K (.ref f163) = true)
    (ty163 : PySem.W.typeIn K (.ref f163) = some (.type "function"))
    (aBD : PySem.W.nsIn K mainGlobals "BadDeeds" = some (some (.ref BD)))
    (icBD : PySem.W.isClsIn K BD = true)
    (ttBD : PySem.W.typeIn K (.ref BD) = some (.type "type"))
    (gaBD : PySem.W.findIn K (.ref BD) "__getattribute__" = some (some (.builtin "BaseException.__getattribute__")))
    (ggBD : PySem.W.findIn K (.ref BD) "__getattr__" = some none)
    (hdBD : PySem.W.hasDictIn K BD = true)
    (hcBD : PySem.W.findIn K (.ref BD) "__class__" = some (some (.builtin "object.__class__")))
    (moBD : PySem.W.mroIn K BD (.type "object") = some true)
    (saBD : PySem.W.findIn K (.ref BD) "__setattr__" = some (some (.builtin "object.__setattr__")))
    (exBD : PySem.W.subIn K (.ref BD) (.type "BaseException") = some true)
    (keBD : PySem.W.keepIn K (.ref BD) = true)
    (vEBD : PySem.W.subIn K (.ref BD) (.type "ValueError") = some true)
    (sSBD : PySem.W.subIn K (.ref BD) (.ref BD) = some true)
    (no0BD : PySem.W.findIn K (.ref BD) "value" = some none)
    (lxBD : K.lookup BD = some (excClassObj nmBD qBD BD nsBD bsBD bmBD true snBD subBD abBD colBD ddBD k0BD k1BD k2BD k3BD k5BD "ValueError.__new__"))
    (rxBD : PySem.HandSPX.refsVE bmBD = true)
    (m164 : PySem.W.findIn K (.ref BD) "__init__" = some (some (.ref f164)))
    (l164 : K.lookup f164 = some ⟨oc164, od164, .func (PySem.W.fnOf "__init__" "BadDeeds.__init__" (defArgs sBadDeeds_init) (defBody sBadDeeds_init) (defScope sBadDeeds_init) .none kV164 dc164 pm164 an164 cd164 ct164), sl164⟩)
    (c164 : PySem.W.codeIn K cd164 "BadDeeds.__init__" = true)
    (k164 : PySem.W.keepIn K (.ref f164) = true)
    (ty164 : PySem.W.typeIn K (.ref f164) = some (.type "function"))
    (aBN : PySem.W.nsIn K mainGlobals "BadNumber" = some (some (.ref BN)))
    (icBN : PySem.W.isClsIn K BN = true)
    (ttBN : PySem.W.typeIn K (.ref BN) = some (.type "type"))
    (gaBN : PySem.W.findIn K (.ref BN) "__getattribute__" = some (some (.builtin "BaseException.__getattribute__")))
    (ggBN : PySem.W.findIn K (.ref BN) "__getattr__" = some none)
    (hdBN : PySem.W.hasDictIn K BN = true)
    (hcBN : PySem.W.findIn K (.ref BN) "__class__" = some (some (.builtin "object.__class__")))
    (moBN : PySem.W.mroIn K BN (.type "object") = some true)
    (saBN : PySem.W.findIn K (.ref BN) "__setattr__" = some (some (.builtin "object.__setattr__")))
    (exBN : PySem.W.subIn K (.ref BN) (.type "BaseException") = some true)
    (keBN : PySem.W.keepIn K (.ref BN) = true)
    (vEBN : PySem.W.subIn K (.ref BN) (.type "ValueError") = some true)
    (sSBN : PySem.W.subIn K (.ref BN) (.ref BN) = some true)
    (no0BN : PySem.W.findIn K (.ref BN) "value" = some none)
    (lxBN : K.lookup BN = some (excClassObj nmBN qBN BN nsBN bsBN bmBN true snBN subBN abBN colBN ddBN k0BN k1BN k2BN k3BN k5BN "ValueError.__new__"))
    (rxBN : PySem.HandSPX.refsVE bmBN = true)
    (m165 : PySem.W.findIn K (.ref BN) "__init__" = some (some (.ref f165)))
    (l165 : K.lookup f165 = some ⟨oc165, od165, .func (PySem.W.fnOf "__init__" "BadNumber.__init__" (defArgs sBadNumber_init) (defBody sBadNumber_init) (defScope sBadNumber_init) .none kV165 dc165 pm165 an165 cd165 ct165), sl165⟩)
    (c165 : PySem.W.codeIn K cd165 "BadNumber.__init__" = true)
    (k165 : PySem.W.keepIn K (.ref f165) = true)
    (ty165 : PySem.W.typeIn K (.ref f165) = some (.type "function"))
    (aFE : PySem.W.nsIn K mainGlobals "FairError" = some (some (.ref FE)))
    (icFE : PySem.W.isClsIn K FE = true)
    (ttFE : PySem.W.typeIn K (.ref FE) = some (.type "type"))
    (suFX : PySem.W.subIn K (.ref FE) (.type "BaseException") = some true)
    (suBR : PySem.W.subIn K (.ref BR) (.ref FE) = some true)
    (suBD : PySem.W.subIn K (.ref BD) (.ref FE) = some true)
    (suBN : PySem.W.subIn K (.ref BN) (.ref FE) = some true)
    (snBRBD : PySem.W.subIn K (.ref BR) (.ref BD) = some false)
    (snBRBN : PySem.W.subIn K (.ref BR) (.ref BN) = some false)
    (snBDBR : PySem.W.subIn K (.ref BD) (.ref BR) = some false)
    (snBDBN : PySem.W.subIn K (.ref BD) (.ref BN) = some false)
    (snBNBR : PySem.W.subIn K (.ref BN) (.ref BR) = some false)
    (snBNBD : PySem.W.subIn K (.ref BN) (.ref BD) = some false)
    (rdW : PySem.W.readsIn K CW (.type "type") = true)
    (gaW : PySem.W.specialIn K (.ref CW) "__getattribute__" = some (some (.builtin "type.__getattribute__")))
    (cvW : PySem.W.findCls K (.ref CW) (.type "type") "MOST" = some (.val (.int 6 tW)))
    (hgP : PySem.W.nsIn K mainGlobals "MOST_PLUS" = some (some (.int 6 tgP)))
    (hgU : PySem.W.nsIn K mainGlobals "MOST_TURN" = some (some (.int 8 tgU)))
    (hgK : PySem.W.nsIn K mainGlobals "MOST_ASKED" = some (some (.int (10 ^ 12) tgK)))
    (aDE : PySem.W.nsIn K mainGlobals "DEEDS" = some (some (.ref DE)))
    (lDE : K.lookup DE = some ⟨.type "tuple", odDE, .seq #[.str "put" uDE0, .str "take" uDE1] nDE, slDE⟩)
    (aSK : PySem.W.nsIn K mainGlobals "STUCK" = some (some (.ref SK)))
    (lSK : K.lookup SK = some ⟨.type "tuple", odSK, .seq #[.str "inner" uSK0, .str "none" uSK1] nSK, slSK⟩)
    (aON : PySem.W.nsIn K mainGlobals "ONCE" = some (some (.ref ON)))
    (lON : K.lookup ON = some ⟨.type "tuple", odON, .seq #[.ref O0, .ref O1, .ref O2, .ref O3] nON, slON⟩)
    (lO0 : K.lookup O0 = some ⟨.type "tuple", odO0, .seq #[.str "light" uO00, .str "first" uO01] nO0, slO0⟩)
    (lO1 : K.lookup O1 = some ⟨.type "tuple", odO1, .seq #[.str "light" uO10, .str "second" uO11] nO1, slO1⟩)
    (lO2 : K.lookup O2 = some ⟨.type "tuple", odO2, .seq #[.str "top" uO20, .str "first" uO21] nO2, slO2⟩)
    (lO3 : K.lookup O3 = some ⟨.type "tuple", odO3, .seq #[.str "top" uO30, .str "second" uO31] nO3, slO3⟩)
    (aTW : PySem.W.nsIn K mainGlobals "TWICE" = some (some (.ref TW)))
    (lTW : K.lookup TW = some ⟨.type "tuple", odTW, .seq #[.ref V0, .ref V1, .ref V2, .ref V3, .ref V4, .ref V5, .ref V6] nTW, slTW⟩)
    (lV0 : K.lookup V0 = some ⟨.type "tuple", odV0, .seq #[.str "inner" uV00, .str "none" uV01] nV0, slV0⟩)
    (lV1 : K.lookup V1 = some ⟨.type "tuple", odV1, .seq #[.str "light" uV10, .str "first" uV11] nV1, slV1⟩)
    (lV2 : K.lookup V2 = some ⟨.type "tuple", odV2, .seq #[.str "light" uV20, .str "second" uV21] nV2, slV2⟩)
    (lV3 : K.lookup V3 = some ⟨.type "tuple", odV3, .seq #[.str "far" uV30, .str "first" uV31] nV3, slV3⟩)
    (lV4 : K.lookup V4 = some ⟨.type "tuple", odV4, .seq #[.str "far" uV40, .str "second" uV41] nV4, slV4⟩)
    (lV5 : K.lookup V5 = some ⟨.type "tuple", odV5, .seq #[.str "top" uV50, .str "first" uV51] nV5, slV5⟩)
    (lV6 : K.lookup V6 = some ⟨.type "tuple", odV6, .seq #[.str "top" uV60, .str "second" uV61] nV6, slV6⟩)
    (zint : PySem.W.nsIn K mainGlobals "int" = some none)
    (zlen : PySem.W.nsIn K mainGlobals "len" = some none)
    (zabs : PySem.W.nsIn K mainGlobals "abs" = some none)
    (zlist : PySem.W.nsIn K mainGlobals "list" = some none)
    (zmin : PySem.W.nsIn K mainGlobals "min" = some none)
    (zmax : PySem.W.nsIn K mainGlobals "max" = some none)
    (zisinstance : PySem.W.nsIn K mainGlobals "isinstance" = some none)
    (zbool : PySem.W.nsIn K mainGlobals "bool" = some none)
    (ztuple : PySem.W.nsIn K mainGlobals "tuple" = some none)
    (zall : PySem.W.nsIn K mainGlobals "all" = some none)
    (zrange : PySem.W.nsIn K mainGlobals "range" = some none)
    (zrepr : PySem.W.nsIn K mainGlobals "repr" = some none)
    (zdict : PySem.W.nsIn K mainGlobals "dict" = some none)
    (zzip : PySem.W.nsIn K mainGlobals "zip" = some none)
    (zsum : PySem.W.nsIn K mainGlobals "sum" = some none)
    (zany : PySem.W.nsIn K mainGlobals "any" = some none)
    (zValueError : PySem.W.nsIn K mainGlobals "ValueError" = some none)
    (hdL : PySem.W.codeHdIn K cL (tabAt K cL) = true)
    (noT : K.lookup (tabAt K cL) = none) :
    ∃ (fd fdr : FuncData) (sp : Sp) (fr c T : Addr) (o : Obj), (∀ (s : Shared) (u : Value), BindsTo s fd ⟨[u], []⟩ [("_law_script", u)]) ∧ mg "law" = some (.ref fr) ∧ K.lookup fr = some o ∧ o.data = .func fdr ∧ fdr.code = .ref c ∧ PySem.W.codeHdIn K c T = true ∧ K.lookup T = none ∧
      (∀ (H : Hp) (a : Addr) (ns : List Int), ns.length ≤ 63 → H T = some (.tbl #[]) → SqL K H a (ns.map V.int) → sp [.ref a] H (fun v _ => v = .bl true) fun _ _ _ => False) ∧
      ∀ base : Heap, K.In base → base.Ns mainGlobals mg → TabB base mg c T → FnG l.prog w K mg base 12 fa fd ["_law_script"] sp := by
  have e := hfa.symm.trans (PySem.W.mg_of X G a39)
  cases e
  have F0 := fun_mk (st := sIsInt) l0 c0 k0
  have b0 := F0.binds (ps := ["value"]) fun _ _ _ _ _ _ us hl => match us, hl with | [_], _ => rfl
  have F1 := fun_mk (st := sWithin) l1 c1 k1
  have b1 := F1.binds (ps := ["value", "least", "most"]) fun _ _ _ _ _ _ us hl => match us, hl with | [_, _, _], _ => rfl
  have F2 := fun_mk (st := sPair) l2 c2 k2
  have b2 := F2.binds (ps := ["value", "most"]) fun _ _ _ _ _ _ us hl => match us, hl with | [_, _], _ => rfl
  have F3 := fun_mk (st := sTimes) l3 c3 k3
  have b3 := F3.binds (ps := ["value"]) fun _ _ _ _ _ _ us hl => match us, hl with | [_], _ => rfl
  have F4 := fun_mk (st := sPlus) l4 c4 k4
  have b4 := F4.binds (ps := ["value"]) fun _ _ _ _ _ _ us hl => match us, hl with | [_], _ => rfl
  have F5 := fun_mk (st := sTurn) l5 c5 k5
  have b5 := F5.binds (ps := ["value"]) fun _ _ _ _ _ _ us hl => match us, hl with | [_], _ => rfl
  have F6 := fun_mk (st := sNeedT) l6 c6 k6
  have b6 := F6.binds (ps := ["times", "plus"]) fun _ _ _ _ _ _ us hl => match us, hl with | [_, _], _ => rfl
  have F7 := fun_mk (st := sHalves) l7 c7 k7
  have b7 := F7.binds (ps := ["times", "plus"]) fun _ _ _ _ _ _ us hl => match us, hl with | [_, _], _ => rfl
  have F8 := fun_mk (st := sNeedH) l8 c8 k8
  have b8 := F8.binds (ps := ["times", "plus"]) fun _ _ _ _ _ _ us hl => match us, hl with | [_, _], _ => rfl
  have F9 := fun_mk (st := sNeedR) l9 c9 k9
  have b9 := F9.binds (ps := ["value"]) fun _ _ _ _ _ _ us hl => match us, hl with | [_], _ => rfl
  have F10 := fun_mk (st := sLeastB) l10 c10 k10
  have b10 := F10.binds (ps := ["rule", "y"]) fun _ _ _ _ _ _ us hl => match us, hl with | [_, _], _ => rfl
  have F11 := fun_mk (st := sGreatestBeside) l11 c11 k11
  have b11 := F11.binds (ps := ["rule", "x"]) fun _ _ _ _ _ _ us hl => match us, hl with | [_, _], _ => rfl
  have F12 := fun_mk (st := sLeastPart) l12 c12 k12
  have b12 := F12.binds (ps := ["rule", "weight"]) fun _ _ _ _ _ _ us hl => match us, hl with | [_, _], _ => rfl
  have F13 := fun_mk (st := sKept) l13 c13 k13
  have b13 := F13.binds (ps := ["value"]) fun _ _ _ _ _ _ us hl => match us, hl with | [_], _ => rfl
  have F14 := fun_mk (st := sIsFlat) l14 c14 k14
  have b14 := F14.binds (ps := ["value"]) fun _ _ _ _ _ _ us hl => match us, hl with | [_], _ => rfl
  have F15 := fun_mk (st := sPartsOf) l15 c15 k15
  have b15 := F15.binds (ps := ["value"]) fun _ _ _ _ _ _ us hl => match us, hl with | [_], _ => rfl
  have F16 := fun_mk (st := sRebuilt) l16 c16 k16
  have b16 := F16.binds (ps := ["value", "parts"]) fun _ _ _ _ _ _ us hl => match us, hl with | [_, _], _ => rfl
  have F17 := fun_mk (st := sCopiedDeep) l17 c17 k17
  have b17 := F17.binds (ps := ["value"]) fun _ _ _ _ _ _ us hl => match us, hl with | [_], _ => rfl
  have F18 := fun_mk (st := sIsDeed) l18 c18 k18
  have b18 := F18.binds (ps := ["value"]) fun _ _ _ _ _ _ us hl => match us, hl with | [_], _ => rfl
  have F19 := fun_mk (st := sTurnEnds) l19 c19 k19
  have b19 := F19.binds (ps := ["rule", "heavy", "turns"]) fun _ _ _ _ _ _ us hl => match us, hl with | [_, _, _], _ => rfl
  have F20 := fun_mk (st := sHeavyEnds) l20 c20 k20
  have b20 := F20.binds (ps := ["rule", "deed", "light"]) fun _ _ _ _ _ _ us hl => match us, hl with | [_, _, _], _ => rfl
  have F21 := fun_mk (st := sBreaks) l21 c21 k21
  have b21 := F21.binds (ps := ["rule", "deed", "light", "heavy"]) fun _ _ _ _ _ _ us hl => match us, hl with | [_, _, _, _], _ => rfl
  have F22 := fun_mk (st := sPen) l22 c22 k22
  have b22 := F22.binds (ps := ["_law_script"]) fun _ _ _ _ _ _ us hl => match us, hl with | [_], _ => rfl
  have F23 := fun_mk (st := sDraw) l23 c23 k23
  have b23 := F23.binds (ps := ["_law_pen_here", "_law_many"]) fun _ _ _ _ _ _ us hl => match us, hl with | [_, _], _ => rfl
  have F24 := fun_mk (st := sPick) l24 c24 k24
  have b24 := F24.binds (ps := ["_law_pen_here", "_law_some"]) fun _ _ _ _ _ _ us hl => match us, hl with | [_, _], _ => rfl
  have F25 := fun_mk (st := sLNumbers) l25 c25 k25
  have b25 := F25.binds (ps := ["_law_pen_here"]) fun _ _ _ _ _ _ us hl => match us, hl with | [_], _ => rfl
  have F26 := fun_mk (st := sLRule) l26 c26 k26
  have b26 := F26.binds (ps := ["_law_some"]) fun _ _ _ _ _ _ us hl => match us, hl with | [_], _ => rfl
  have F27 := fun_mk (st := sLHeard) l27 c27 k27
  have b27 := F27.binds (ps := ["_law_ask"]) fun _ _ _ _ _ _ us hl => match us, hl with | [_], _ => rfl
  have F28 := fun_mk (st := sLIsHeavy) l28 c28 k28
  have b28 := F28.binds (ps := ["_law_some", "_law_heavier", "_law_lighter"]) fun _ _ _ _ _ _ us hl => match us, hl with | [_, _, _], _ => rfl
  have F29 := fun_mk (st := sLOnceBreaks) l29 c29 k29
  have b29 := F29.binds (ps := ["_law_some", "_law_a", "_law_c", "_law_d"]) fun _ _ _ _ _ _ us hl => match us, hl with | [_, _, _, _], _ => rfl
  have F30 := fun_mk (st := sLTwiceBreaks) l30 c30 k30
  have b30 := F30.binds (ps := ["_law_some", "_law_a", "_law_e", "_law_f", "_law_d"]) fun _ _ _ _ _ _ us hl => match us, hl with | [_, _, _, _, _], _ => rfl
  have F31 := fun_mk (st := sLIsEven) l31 c31 k31
  have b31 := F31.binds (ps := ["_law_some", "_law_one", "_law_other"]) fun _ _ _ _ _ _ us hl => match us, hl with | [_, _, _], _ => rfl
  have F32 := fun_mk (st := sLParts) l32 c32 k32
  have b32 := F32.binds (ps := ["_law_some", "_law_b"]) fun _ _ _ _ _ _ us hl => match us, hl with | [_, _], _ => rfl
  have F33 := fun_mk (st := sLSeen) l33 c33 k33
  have b33 := F33.binds (ps := ["_law_some", "_law_a", "_law_b"]) fun _ _ _ _ _ _ us hl => match us, hl with | [_, _, _], _ => rfl
  have F34 := fun_mk (st := sLOrder) l34 c34 k34
  have b34 := F34.binds (ps := ["_law_some"]) fun _ _ _ _ _ _ us hl => match us, hl with | [_], _ => rfl
  have F35 := fun_mk (st := sLCode) l35 c35 k35
  have b35 := F35.binds (ps := ["_law_numbers_here"]) fun _ _ _ _ _ _ us hl => match us, hl with | [_], _ => rfl
  have F36 := fun_mk (st := sLDue) l36 c36 k36
  have b36 := F36.binds (ps := ["_law_some", "_law_a", "_law_b"]) fun _ _ _ _ _ _ us hl => match us, hl with | [_, _, _], _ => rfl
  have F37 := fun_mk (st := sLHeavies) l37 c37 k37
  have b37 := F37.binds (ps := ["_law_some", "_law_deed", "_law_a"]) fun _ _ _ _ _ _ us hl => match us, hl with | [_, _, _], _ => rfl
  have F38 := fun_mk (st := sLRight) l38 c38 k38
  have b38 := F38.binds (ps := ["_law_rule_so", "_law_some", "_law_deed", "_law_a"]) fun _ _ _ _ _ _ us hl => match us, hl with | [_, _, _, _], _ => rfl
  have F39 := fun_mk (st := sLaw) l39 c39 k39
  have b39 := F39.binds (ps := ["_law_script"]) fun _ _ _ _ _ _ us hl => match us, hl with | [_], _ => rfl
  have F153 := fun_mk (st := sGrip_init) l153 c153 k153
  have b153 := F153.binds (ps := ["self", "rule", "light", "heavy"]) fun _ _ _ _ _ _ us hl => match us, hl with | [_, _, _, _], _ => rfl
  have F154 := fun_mk (st := sGrip_first_break) l154 c154 k154
  have b154 := F154.binds (ps := ["self"]) fun _ _ _ _ _ _ us hl => match us, hl with | [_], _ => rfl
  have F155 := fun_mk (st := sGrip_first_of) l155 c155 k155
  have b155 := F155.binds (ps := ["self", "onces", "twices", "ends"]) fun _ _ _ _ _ _ us hl => match us, hl with | [_, _, _, _], _ => rfl
  have F156 := fun_mk (st := sGrip_once_ends) l156 c156 k156
  have b156 := F156.binds (ps := ["self", "once", "ends"]) fun _ _ _ _ _ _ us hl => match us, hl with | [_, _, _], _ => rfl
  have F157 := fun_mk (st := sGrip_numbers_of) l157 c157 k157
  have b157 := F157.binds (ps := ["self", "twice", "low", "high"]) fun _ _ _ _ _ _ us hl => match us, hl with | [_, _, _, _], _ => rfl
  have F158 := fun_mk (st := sGrip_near_ends) l158 c158 k158
  have b158 := F158.binds (ps := ["self", "twice", "inner"]) fun _ _ _ _ _ _ us hl => match us, hl with | [_, _, _], _ => rfl
  have F159 := fun_mk (st := sGrip_with_near) l159 c159 k159
  have b159 := F159.binds (ps := ["self", "least", "inner"]) fun _ _ _ _ _ _ us hl => match us, hl with | [_, _, _], _ => rfl
  have F160 := fun_mk (st := sWrong_init) l160 c160 k160
  have b160 := F160.binds (ps := ["self", "deed", "once", "twice", "numbers"]) fun _ _ _ _ _ _ us hl => match us, hl with | [_, _, _, _, _], _ => rfl
  have F161 := fun_mk (st := sWrong_eq) l161 c161 k161
  have b161 := F161.binds (ps := ["self", "other"]) fun _ _ _ _ _ _ us hl => match us, hl with | [_, _], _ => rfl
  have F162 := fun_mk (st := sWrong_bool) l162 c162 k162
  have b162 := F162.binds (ps := ["self"]) fun _ _ _ _ _ _ us hl => match us, hl with | [_], _ => rfl
  have F163 := fun_mk (st := sBadRule_init) l163 c163 k163
  have b163 := F163.binds (ps := ["self", "part"]) fun _ _ _ _ _ _ us hl => match us, hl with | [_, _], _ => rfl
  have F164 := fun_mk (st := sBadDeeds_init) l164 c164 k164
  have b164 := F164.binds (ps := ["self", "value"]) fun _ _ _ _ _ _ us hl => match us, hl with | [_, _], _ => rfl
  have F165 := fun_mk (st := sBadNumber_init) l165 c165 k165
  have b165 := F165.binds (ps := ["self", "value"]) fun _ _ _ _ _ _ us hl => match us, hl with | [_, _], _ => rfl
  refine ⟨PySem.W.fnOf "law" "law" (defArgs sLaw) (defBody sLaw) (defScope sLaw) .none kV39 dc39 pm39 an39 (.ref cL) ct39, PySem.W.fnOf "law" "law" (defArgs sLaw) (defBody sLaw) (defScope sLaw) .none kV39 dc39 pm39 an39 (.ref cL) ct39, Ev2.spLawT K (tabAt K cL), f39, cL, tabAt K cL, _, fun s v => .of_eq rfl, PySem.W.mg_of X G a39, l39, rfl, rfl, hdL, noT, fun H a ns hl hT hS => ⟨a, ns, rfl, hS, hl, hT, fun _ => rfl⟩, fun base _ _ TB => ?_⟩
  have T : Blt mg := ⟨PySem.W.mg_none_of X G zint, PySem.W.mg_none_of X G zlen, PySem.W.mg_none_of X G zabs, PySem.W.mg_none_of X G zlist, PySem.W.mg_none_of X G zmin, PySem.W.mg_none_of X G zmax, PySem.W.mg_none_of X G zisinstance, PySem.W.mg_none_of X G zbool, PySem.W.mg_none_of X G ztuple, PySem.W.mg_none_of X G zall, PySem.W.mg_none_of X G zrange, PySem.W.mg_none_of X G zrepr⟩
  have RT : RCls K Ct := ⟨⟨pgCt, hdCt, poCt, saCt⟩, n0Ct, n1Ct, n2Ct, n3Ct⟩
  have RN : RCls K Cn := ⟨⟨pgCn, hdCn, poCn, saCn⟩, n0Cn, n1Cn, n2Cn, n3Cn⟩
  have TG : GC K GR := ⟨⟨pgGR, hdGR, poGR, saGR⟩, n0GR, n1GR, n2GR, n3GR, n4GR, n5GR⟩
  have TWR : WC K WR := ⟨⟨pgWR, hdWR, poWR, saWR⟩, n0WR, n1WR, n2WR, n3WR⟩
  have IWR : InsT K WR := ⟨hcWR, ikn, ikt, moWR, icWR, ttWR⟩
  have ik : InsK K := ⟨ikn, ikt⟩
  have KT : RK K Ct CW := ⟨RT, hcCt, moCt, kit_own icCW ttCW suCt⟩
  have KN : RK K Cn CW := ⟨RN, hcCn, moCn, kit_own icCW ttCW suCn⟩
  have noTN : PySem.W.kitOne K (.ref Ct) (.ref Cn) = some false := kit_not icCn ttCn snTN sSCn
  have yesN : PySem.W.kitOne K (.ref Cn) (.ref Cn) = some true := kit_self
  have hDE : ∀ H, SqT K H DE [.str "put", .str "take"] := fun H => (sqT_K lDE (by show 2 ≤ 1000; decide) (.cons ⟨_, rfl⟩ (.cons ⟨_, rfl⟩ .nil)))
  have B : KB K mg SK ON TW := by
    refine ⟨(PySem.W.mg_of X G aSK), (PySem.W.mg_of X G aON), (PySem.W.mg_of X G aTW), fun H => ⟨SK, rfl, (sqT_K lSK (by show 2 ≤ 1000; decide) (.cons ⟨_, rfl⟩ (.cons ⟨_, rfl⟩ .nil)))⟩, fun H => ?_, fun H => ?_⟩
    · refine ⟨[.ref O0, .ref O1, .ref O2, .ref O3], (sqT_K lON (by show 4 ≤ 1000; decide) (.cons rfl (.cons rfl (.cons rfl (.cons rfl .nil))))), rfl, fun i o e => ?_⟩
      match i, e with

      | 0, e => rw [← Option.some.inj e]; exact ⟨_, rfl, O0, rfl, (sqT_K lO0 (by show 2 ≤ 1000; decide) (.cons ⟨_, rfl⟩ (.cons ⟨_, rfl⟩ .nil)))⟩
      | 1, e => rw [← Option.some.inj e]; exact ⟨_, rfl, O1, rfl, (sqT_K lO1 (by show 2 ≤ 1000; decide) (.cons ⟨_, rfl⟩ (.cons ⟨_, rfl⟩ .nil)))⟩
      | 2, e => rw [← Option.some.inj e]; exact ⟨_, rfl, O2, rfl, (sqT_K lO2 (by show 2 ≤ 1000; decide) (.cons ⟨_, rfl⟩ (.cons ⟨_, rfl⟩ .nil)))⟩
      | 3, e => rw [← Option.some.inj e]; exact ⟨_, rfl, O3, rfl, (sqT_K lO3 (by show 2 ≤ 1000; decide) (.cons ⟨_, rfl⟩ (.cons ⟨_, rfl⟩ .nil)))⟩
      | _ + 4, e => cases e
    · refine ⟨[.ref V0, .ref V1, .ref V2, .ref V3, .ref V4, .ref V5, .ref V6], (sqT_K lTW (by show 7 ≤ 1000; decide) (.cons rfl (.cons rfl (.cons rfl (.cons rfl (.cons rfl (.cons rfl (.cons rfl .nil)))))))), rfl, fun i o e => ?_⟩
      match i, e with
      | 0, e => rw [← Option.some.inj e]; exact ⟨_, rfl, V0, rfl, (sqT_K lV0 (by show 2 ≤ 1000; decide) (.cons ⟨_, rfl⟩ (.cons ⟨_, rfl⟩ .nil)))⟩
      | 1, e => rw [← Option.some.inj e]; exact ⟨_, rfl, V1, rfl, (sqT_K lV1 (by show 2 ≤ 1000; decide) (.cons ⟨_, rfl⟩ (.cons ⟨_, rfl⟩ .nil)))⟩
      | 2, e => rw [← Option.some.inj e]; exact ⟨_, rfl, V2, rfl, (sqT_K lV2 (by show 2 ≤ 1000; decide) (.cons ⟨_, rfl⟩ (.cons ⟨_, rfl⟩ .nil)))⟩
      | 3, e => rw [← Option.some.inj e]; exact ⟨_, rfl, V3, rfl, (sqT_K lV3 (by show 2 ≤ 1000; decide) (.cons ⟨_, rfl⟩ (.cons ⟨_, rfl⟩ .nil)))⟩
      | 4, e => rw [← Option.some.inj e]; exact ⟨_, rfl, V4, rfl, (sqT_K lV4 (by show 2 ≤ 1000; decide) (.cons ⟨_, rfl⟩ (.cons ⟨_, rfl⟩ .nil)))⟩
      | 5, e => rw [← Option.some.inj e]; exact ⟨_, rfl, V5, rfl, (sqT_K lV5 (by show 2 ≤ 1000; decide) (.cons ⟨_, rfl⟩ (.cons ⟨_, rfl⟩ .nil)))⟩
      | 6, e => rw [← Option.some.inj e]; exact ⟨_, rfl, V6, rfl, (sqT_K lV6 (by show 2 ≤ 1000; decide) (.cons ⟨_, rfl⟩ (.cons ⟨_, rfl⟩ .nil)))⟩
      | _ + 7, e => cases e
  have D150 : FunD K "__init__" "TryRule.__init__" (defArgs sTryInit) (defBody sTryInit) (defScope sTryInit) [.int 0] [] f150 _ := ⟨⟨_, _, _, _, _, _, _, _, _, _, rfl, l150, c150, .inr ⟨by simp, T150, _, [Value.int 0 tt1500], tn150, rfl, t150, rfl, .cons ⟨_, rfl⟩ .nil⟩, .inl rfl⟩, k150⟩
  obtain ⟨ds150, v150, b150⟩ := FunD.binds1 (ps := ["self", "times", "plus"]) D150 3 1 (by simp) rfl (fun _ _ _ _ _ _ _ us its h1 h2 => match us, its, h1, h2 with | [_, _, _], [_], _, _ => ⟨_, rfl, rfl⟩)
  cases v150
  have D151 : FunD K "__init__" "TurnRule.__init__" (defArgs sTurnInit) (defBody sTurnInit) (defScope sTurnInit) [.int 0] [("turn_plus", .int 0)] f151 _ := ⟨⟨_, _, _, _, _, _, _, _, _, _, rfl, l151, c151, .inr ⟨by simp, T151, _, [Value.int 0 tt1510], tn151, rfl, t151, rfl, .cons ⟨_, rfl⟩ .nil⟩, .inr ⟨KD151, rfl, fun z hz => by
    rw [List.mem_singleton.mp hz]; exact ⟨_, kd1510, ⟨_, rfl⟩⟩⟩⟩, k151⟩
  obtain ⟨its151, b151⟩ := FunD.kbindsD (ps := ["self", "times", "plus", "turn", "turn_plus"]) D151 3 ["turn", "turn_plus"] (fun us _ ws => us ++ ws) (by simp) (fun r1 _ r2 => r1.append r2)
    (fun _ _ _ _ _ _ _ us its ws h1 h2 h3 => match us, its, ws, h1, h2, h3 with | [_, _, _], [_], [_, _], _, _, _ => ⟨_, rfl, rfl⟩)
  obtain ⟨its51, mv51, b51a⟩ := FunD.kbinds (ps := ["self", "times", "plus", "turn", "turn_plus"]) D151 2 ["turn"] [("turn_plus", .int 0)] (fun us its mv ws => us ++ (its ++ (ws ++ mv))) (by simp) (by simp) (fun _ h => h) (fun r1 r2 r3 r4 => r1.append (r2.append (r4.append r3)))
    (fun _ _ _ _ _ _ _ us its mv ws h1 h2 h3 h4 => match us, its, mv, ws, h1, h2, h3, h4 with | [_, _], [_], [_], [_], _, _, _, _ => ⟨_, rfl, ⟨_, _, _, _, _, _, rfl, rfl, rfl⟩⟩)
  obtain ⟨its52, b51b⟩ := FunD.kbindsD (ps := ["self", "times", "plus", "turn", "turn_plus"]) D151 2 ["turn", "turn_plus"] (fun us its ws => us ++ (its ++ ws)) (by simp) (fun r1 r2 r3 => r1.append (r2.append r3))
    (fun _ _ _ _ _ _ _ us its ws h1 h2 h3 => match us, its, ws, h1, h2, h3 with | [_, _], [_], [_, _], _, _, _ => ⟨_, rfl, rfl⟩)
  obtain ⟨its53, mv53, b51c⟩ := FunD.kbinds (ps := ["self", "times", "plus", "turn", "turn_plus"]) D151 3 ["turn"] [("turn_plus", .int 0)] (fun us its mv ws => us ++ (ws ++ mv)) (by simp) (by simp) (fun _ h => h) (fun r1 r2 r3 r4 => r1.append (r4.append r3))
    (fun _ _ _ _ _ _ _ us its mv ws h1 h2 h3 h4 => match us, its, mv, ws, h1, h2, h3, h4 with | [_, _, _], [_], [_], [_], _, _, _, _ => ⟨_, rfl, ⟨_, _, _, _, _, _, rfl, rfl, rfl⟩⟩)
  have d0 : Df l.prog w K mg base 1 "is_integer" ["value"] _ := ⟨f0, _, ok_isInt F0 T, PySem.W.mg_of X G a0, F0.kp, b0⟩
  obtain ⟨_, _, GI, gI, kI, bI⟩ := d0.ex
  have d1 : Df l.prog w K mg base 2 "is_within" ["value", "least", "most"] _ := ⟨f1, _, ok_within F1 T GI gI kI bI, PySem.W.mg_of X G a1, F1.kp, b1⟩
  have d2 : Df l.prog w K mg base 3 "is_pair" ["value", "most"] _ := ⟨f2, _, ok_pair F2 T d1, PySem.W.mg_of X G a2, F2.kp, b2⟩
  have d3 : Df l.prog w K mg base 4 "is_times" ["value"] _ := ⟨f3, _, ok_times F3 d2 (PySem.W.mg_of X G aCW) ⟨rdW, gaW⟩ ⟨cvW, ⟨_, rfl⟩⟩, PySem.W.mg_of X G a3, F3.kp, b3⟩
  have d4 : Df l.prog w K mg base 3 "is_plus" ["value"] _ := ⟨f4, _, ok_plus F4 d1 (PySem.W.mg_of X G hgP), PySem.W.mg_of X G a4, F4.kp, b4⟩
  have d5 : Df l.prog w K mg base 4 "is_turn" ["value"] _ := ⟨f5, _, ok_turn F5 d2 (PySem.W.mg_of X G hgU), PySem.W.mg_of X G a5, F5.kp, b5⟩
  have d6 : Df l.prog w K mg base 5 "need_times" ["times", "plus"] _ := ⟨f6, _, ok_needT F6 d3 d4, PySem.W.mg_of X G a6, F6.kp, b6⟩
  have d7 : Df l.prog w K mg base 1 "has_halves" ["times", "plus"] _ := ⟨f7, _, ok_halves F7, PySem.W.mg_of X G a7, F7.kp, b7⟩
  have d8 : Df l.prog w K mg base 2 "need_halves" ["times", "plus"] _ := ⟨f8, _, ok_needH F8 d7, PySem.W.mg_of X G a8, F8.kp, b8⟩
  have d9 : Df l.prog w K mg base 1 "need_rule" ["value"] _ := ⟨f9, _, ok_needR F9 T (PySem.W.mg_of X G aCW) KT KN ik, PySem.W.mg_of X G a9, F9.kp, b9⟩
  have d10 : Df l.prog w K mg base 1 "least_beside" ["rule", "y"] _ := ⟨f10, _, ok_leastB F10 T, PySem.W.mg_of X G a10, F10.kp, b10⟩
  have d11 : Df l.prog w K mg base 1 "greatest_beside" ["rule", "x"] _ := ⟨f11, _, ok_greatB F11, PySem.W.mg_of X G a11, F11.kp, b11⟩
  have d12 : Df l.prog w K mg base 1 "least_part" ["rule", "weight"] _ := ⟨f12, _, ok_part F12 T, PySem.W.mg_of X G a12, F12.kp, b12⟩
  have d14 : Df l.prog w K mg base 1 "is_flat" ["value"] _ := ⟨f14, _, ok_flatT F14 T (PySem.W.mg_none_of X G zdict), PySem.W.mg_of X G a14, F14.kp, b14⟩
  have d13 : Df l.prog w K mg base 2 "kept" ["value"] _ := ⟨f13, _, ok_keptT F13 T (PySem.W.mg_none_of X G zdict) d14, PySem.W.mg_of X G a13, F13.kp, b13⟩
  have d18 : Df l.prog w K mg base 1 "is_deed" ["value"] _ := ⟨f18, _, ok_isDeed F18 (PySem.W.mg_of X G aDE) hDE, PySem.W.mg_of X G a18, F18.kp, b18⟩
  have d19 : Df l.prog w K mg base 2 "turn_ends" ["rule", "heavy", "turns"] _ := ⟨f19, _, ok_turnE F19 RN d12, PySem.W.mg_of X G a19, F19.kp, b19⟩
  have d20 : Df l.prog w K mg base 2 "heavy_ends" ["rule", "deed", "light"] _ := ⟨f20, _, ok_heavy F20 d11, PySem.W.mg_of X G a20, F20.kp, b20⟩
  have eI : Df l.prog w K mg base 1 "is_integer" ["value"] _ := ⟨f0, _, Ev2.ok_isInt F0 T, PySem.W.mg_of X G a0, F0.kp, b0⟩
  have eW : Df l.prog w K mg base 2 "is_within" ["value", "least", "most"] _ := ⟨f1, _, Ev2.ok_within F1 eI, PySem.W.mg_of X G a1, F1.kp, b1⟩
  have ePV : Df l.prog w K mg base 1 "parts_of" ["value"] _ := ⟨f15, _, Ev2.ok_partsV F15 T (PySem.W.mg_none_of X G zdict), PySem.W.mg_of X G a15, F15.kp, b15⟩
  have eRb : Df l.prog w K mg base 1 "rebuilt" ["value", "parts"] _ := ⟨f16, _, Ev2.ok_rebuilt F16 T (PySem.W.mg_none_of X G zdict) (PySem.W.mg_none_of X G zzip), PySem.W.mg_of X G a16, F16.kp, b16⟩
  have eFl : Df l.prog w K mg base 2 "is_flat" ["value"] _ := ⟨f14, _, Ev2.ok_flat F14 T (PySem.W.mg_none_of X G zdict), PySem.W.mg_of X G a14, F14.kp, b14⟩
  have eCp : Df l.prog w K mg base 2 "copied_deep" ["value"] _ := ⟨f17, _, Ev2.ok_copied F17 T (PySem.W.mg_none_of X G zdict) (PySem.W.mg_none_of X G zany) ePV eRb, PySem.W.mg_of X G a17, F17.kp, b17⟩
  have eKV : Df l.prog w K mg base 3 "kept" ["value"] _ := ⟨f13, _, Ev2.ok_keptV F13 T (PySem.W.mg_none_of X G zdict) eFl eCp, PySem.W.mg_of X G a13, F13.kp, b13⟩
  have M159 : Mt l.prog w K mg base GR "with_near" 2 ["self", "least", "inner"] (spWithN K GR Ct Cn) := ⟨f159, _, ⟨m159, i159, k159⟩, ok_withN F159 TG d10 d12, b159⟩
  have M158 : Mt l.prog w K mg base GR "near_ends" 3 ["self", "twice", "inner"] (spNearE K GR Ct Cn) := ⟨f158, _, ⟨m158, i158, k158⟩, ok_nearE F158 TG M159 d10 d12, b158⟩
  have M157 : Mt l.prog w K mg base GR "numbers_of" 4 ["self", "twice", "low", "high"] (spNumsO K GR Ct Cn) := ⟨f157, _, ⟨m157, i157, k157⟩, ok_numsO F157 TG B M158, b157⟩
  have M156 : Mt l.prog w K mg base GR "once_ends" 1 ["self", "once", "ends"] (spOnceE K GR Ct Cn) := ⟨f156, _, ⟨m156, i156, k156⟩, ok_onceE F156 TG, b156⟩
  have M155 : Mt l.prog w K mg base GR "first_of" 5 ["self", "onces", "twices", "ends"] (spFirstOf K GR Ct Cn) := ⟨f155, _, ⟨m155, i155, k155⟩, ok_firstOf F155 TG M156 M157, b155⟩
  have M154 : Mt l.prog w K mg base GR "first_break" 6 ["self"] (spFirstB K GR Ct Cn) := ⟨f154, _, ⟨m154, i154, k154⟩, ok_firstB F154 TG T B (PySem.W.mg_of X G aCn) KT KN ik noTN yesN M155 d12 d19, b154⟩
  have KG : Mak l.prog w K mg base GR "Grip" 2 ["self", "rule", "light", "heavy"] (spGripI K GR Ct Cn) := ⟨(PySem.W.mg_of X G aGR), f153, _, ⟨mkGR, m153, i153, kcGR⟩, ok_gripI F153 TG d10 d11, b153⟩
  have KW : Mak l.prog w K mg base WR "Wrong" 3 ["self", "deed", "once", "twice", "numbers"] (spWrongI K WR) := ⟨(PySem.W.mg_of X G aWR), f160, _, ⟨mkWR, m160, i160, kcWR⟩, ok_wrongI F160 TWR d13, b160⟩
  have GE := ok_wrE (P := l.prog) (w := w) (mg := mg) (base := base) F161 T TWR IWR (PySem.W.mg_of X G aWR)
  have GB := ok_wrB (P := l.prog) (w := w) (mg := mg) (base := base) (C := WR) F162
  have VV : VW l.prog w K mg base WR := ⟨KW, TWR, IWR, ⟨f161, fnr_of GE b161, m161, i161⟩, neWR, ⟨f162, fnr_of GB b162, m162, i162⟩⟩
  have oR : OexC K BR := ⟨⟨_, _, _, _, _, _, _, _, _, _, _, _, _, _, _, lxBR, rxBR⟩, saBR, exBR, ttBR, keBR⟩
  have oD : OexC K BD := ⟨⟨_, _, _, _, _, _, _, _, _, _, _, _, _, _, _, lxBD, rxBD⟩, saBD, exBD, ttBD, keBD⟩
  have oN : OexC K BN := ⟨⟨_, _, _, _, _, _, _, _, _, _, _, _, _, _, _, lxBN, rxBN⟩, saBN, exBN, ttBN, keBN⟩
  have EB : Ev2.ErrV l.prog w K mg base "BadRule" "part" BR := ⟨oR, (PySem.W.mg_of X G aBR), _, _, m163, ty163, Ev2.ok_brV F163 oR no0BR eKV, b163⟩
  have ED : Ev2.ErrV l.prog w K mg base "BadDeeds" "value" BD := ⟨oD, (PySem.W.mg_of X G aBD), _, _, m164, ty164, Ev2.ok_bdV F164 oD no0BD eKV, b164⟩
  have EN : Ev2.ErrV l.prog w K mg base "BadNumber" "value" BN := ⟨oN, (PySem.W.mg_of X G aBN), _, _, m165, ty165, Ev2.ok_bn F165 oN no0BN eKV, b165⟩
  have d21 : Df l.prog w K mg base 7 "breaks" ["rule", "deed", "light", "heavy"] _ := ⟨f21, _, ok_breaks F21 TG TWR RT RN (PySem.W.mg_of X G hgK) KG KW M154 d9 d18 d1 d20, PySem.W.mg_of X G a21, F21.kp, b21⟩
  have xN : Ev2.DfX l.prog w K mg base 6 "need_rule" ["value"] _ := ⟨f9, _, Ev2.ok_needRO F9 T (PySem.W.mg_of X G aCW) (kit_clsN icCW ttCW snNW) EB, PySem.W.mg_of X G a9, F9.kp, b9⟩
  have eDO : Df l.prog w K mg base 1 "is_deed" ["value"] _ := ⟨f18, _, Ev2.ok_isDeedO F18 (PySem.W.mg_of X G aDE) hDE, PySem.W.mg_of X G a18, F18.kp, b18⟩
  have xA : Ev2.DfX l.prog w K mg base 7 "breaks" ["rule", "deed", "light", "heavy"] _ := ⟨f21, _, Ev2.ok_brA F21 xN, PySem.W.mg_of X G a21, F21.kp, b21⟩
  have xB : Ev2.DfX l.prog w K mg base 7 "breaks" ["rule", "deed", "light", "heavy"] _ := ⟨f21, _, Ev2.ok_brB F21 d9 eDO ED, PySem.W.mg_of X G a21, F21.kp, b21⟩
  have xC : Ev2.DfX l.prog w K mg base 7 "breaks" ["rule", "deed", "light", "heavy"] _ := ⟨f21, _, Ev2.ok_brC F21 (PySem.W.mg_of X G hgK) d9 d18 eW EN, PySem.W.mg_of X G a21, F21.kp, b21⟩
  have d22 : Df l.prog w K mg base 1 "_law_pen" ["_law_script"] _ := ⟨f22, _, ok_pen F22 T, PySem.W.mg_of X G a22, F22.kp, b22⟩
  have d23 : Df l.prog w K mg base 1 "_law_draw" ["_law_pen_here", "_law_many"] _ := ⟨f23, _, ok_draw F23 T, PySem.W.mg_of X G a23, F23.kp, b23⟩
  have d24 : Df l.prog w K mg base 2 "_law_pick" ["_law_pen_here", "_law_some"] _ := ⟨f24, _, ok_pick F24 T d23, PySem.W.mg_of X G a24, F24.kp, b24⟩
  have d25 : Df l.prog w K mg base 3 "_law_numbers" ["_law_pen_here"] _ := ⟨f25, _, ok_nums F25 T d23 d24, PySem.W.mg_of X G a25, F25.kp, b25⟩
  have GT0 := ok_tryInit (P := l.prog) (w := w) (mg := mg) (base := base) D150 RT d6 d8
  have GN0 := ok_turnInit (P := l.prog) (w := w) (mg := mg) (base := base) D151 RN d6 d8 d5 d4
  have MCt : Mk K Ct f150 := ⟨mkCt, m150, i150, kcCt⟩
  have MCn : Mk K Cn f151 := ⟨mkCn, m151, i151, kcCn⟩
  have RM : Ev2.RuM l.prog w K mg base Ct Cn := ⟨(PySem.W.mg_of X G aCt), (PySem.W.mg_of X G aCn), ⟨f150, _, MCt, GT0, b150⟩, ⟨f151, _, MCn, GN0, ⟨_, b51a⟩, ⟨_, b51b⟩, ⟨_, b51c⟩⟩⟩
  have d26 : Df l.prog w K mg base 8 "_law_rule" ["_law_some"] _ := ⟨f26, _, ok_rule F26 T (PySem.W.mg_of X G aCt) (PySem.W.mg_of X G aCn) MCt MCn GT0 b150 GN0 b151, PySem.W.mg_of X G a26, F26.kp, b26⟩
  have d28 : Df l.prog w K mg base 1 "_law_is_heavy" ["_law_some", "_law_heavier", "_law_lighter"] _ := ⟨f28, _, ok_hv F28, PySem.W.mg_of X G a28, F28.kp, b28⟩
  have d31 : Df l.prog w K mg base 2 "_law_is_even" ["_law_some", "_law_one", "_law_other"] _ := ⟨f31, _, ok_even F31 d28, PySem.W.mg_of X G a31, F31.kp, b31⟩
  have d29 : Df l.prog w K mg base 2 "_law_once_breaks" ["_law_some", "_law_a", "_law_c", "_law_d"] _ := ⟨f29, _, ok_onceL F29 T d28, PySem.W.mg_of X G a29, F29.kp, b29⟩
  have d30 : Df l.prog w K mg base 2 "_law_twice_breaks" ["_law_some", "_law_a", "_law_e", "_law_f", "_law_d"] _ := ⟨f30, _, ok_twiceL F30 T d28, PySem.W.mg_of X G a30, F30.kp, b30⟩
  have d32 : Df l.prog w K mg base 3 "_law_parts" ["_law_some", "_law_b"] _ := ⟨f32, _, ok_partsL F32 T d31, PySem.W.mg_of X G a32, F32.kp, b32⟩
  have d33 : Df l.prog w K mg base 4 "_law_seen" ["_law_some", "_law_a", "_law_b"] _ := ⟨f33, _, ok_seen F33 T d32 d29 d30, PySem.W.mg_of X G a33, F33.kp, b33⟩
  have d34 : Df l.prog w K mg base 1 "_law_order" ["_law_some"] _ := ⟨f34, _, ok_order F34 T, PySem.W.mg_of X G a34, F34.kp, b34⟩
  have d35 : Df l.prog w K mg base 1 "_law_code" ["_law_numbers_here"] _ := ⟨f35, _, ok_code F35 (PySem.W.mg_none_of X G zsum), PySem.W.mg_of X G a35, F35.kp, b35⟩
  have d36 : Df l.prog w K mg base 5 "_law_due" ["_law_some", "_law_a", "_law_b"] _ := ⟨f36, _, ok_due F36 d33 d34 d35, PySem.W.mg_of X G a36, F36.kp, b36⟩
  have d37 : Df l.prog w K mg base 2 "_law_heavies" ["_law_some", "_law_deed", "_law_a"] _ := ⟨f37, _, ok_heavies F37 T d28, PySem.W.mg_of X G a37, F37.kp, b37⟩
  have G3 := ok_breaks (P := l.prog) (w := w) (mg := mg) (base := base) F21 TG TWR RT RN (PySem.W.mg_of X G hgK) KG KW M154 d9 d18 d1 d20
  have kb3 := kb_r4 (y1 := "heavy") (y2 := "light") (y3 := "deed") (y4 := "rule") F21 (fun _ _ _ _ _ _ _ _ _ _ => rfl)
  have d38 : Df l.prog w K mg base 8 "_law_right" ["_law_rule_so", "_law_some", "_law_deed", "_law_a"] _ := ⟨f38, _, ok_right F38 T VV d37 d36 G3 (PySem.W.mg_of X G a21) F21.kp b21 kb3, PySem.W.mg_of X G a38, F38.kp, b38⟩
  have Z3 : Ev2.ThreeH K mg BR BD BN FE := ⟨PySem.W.mg_none_of X G zValueError, PySem.W.mg_none_of X G zrepr, (PySem.W.mg_of X G aFE), (PySem.W.mg_of X G aBR), (PySem.W.mg_of X G aBD), (PySem.W.mg_of X G aBN), ⟨icBR, gaBR, ggBR, exBR, hdBR, hcBR, ikn, ikt, moBR⟩, ⟨icBD, gaBD, ggBD, exBD, hdBD, hcBD, ikn, ikt, moBD⟩, ⟨icBN, gaBN, ggBN, exBN, hdBN, hcBN, ikn, ikt, moBN⟩, no0BR, no0BD, no0BN, exm_own icFE ttFE suBR suFX, exm_own icFE ttFE suBD suFX, exm_own icFE ttFE suBN suFX,
    kit_not icBD ttBD snBRBD sSBD, kit_not icBN ttBN snBRBN sSBN, kit_not icBR ttBR snBDBR sSBR, kit_not icBN ttBN snBDBN sSBN, kit_not icBR ttBR snBNBR sSBR, kit_not icBD ttBD snBNBD sSBD, kit_bty vEBR, kit_bty vEBD, kit_bty vEBN⟩
  have HH : Ev2.HeardB l.prog w K mg BR BD BN FE f27 _ := ⟨F27, PySem.W.mg_of X G a27, b27, Z3⟩
  exact Ev2.ok_law F39 T rfl TB VV RM G3 (PySem.W.mg_of X G a21) F21.kp b21 d22 d23 d24 d25 d26 d38 xA xB xC HH
end Ev
open PySem PySem.W PyProof.Rows
set_option maxRecDepth 100000 in
set_option maxHeartbeats 0 in
theorem PySem.Challenge.cw_evenrules_k55_pairs_at_which_rules_break_holds : PySem.Challenge.rw_evenrules_k55_pairs_at_which_rules_break.Holds := by
  exact Ev.hd (by
    k_fill
    refine Ev.walk_ofGTK (l := PySem.Challenge.rw_evenrules_k55_pairs_at_which_rules_break) (n := 63) (k := 12) (x := "_law_script") (xr := "law") rfl (by decide) rfl ⟨rfl, by decide, by decide⟩ (by kernel_rfl) (fun w h Y => PySem.W.kIn_of Y) ?F
    case F =>
      intro w mg fa h KX G hmg
      refine' Ev.all_mk KX G hmg ?a0 ?l0 ?c0 ?k0 ?a1 ?l1 ?c1 ?k1 ?a2 ?l2 ?c2 ?k2 ?a3 ?l3 ?c3 ?k3 ?a4 ?l4 ?c4 ?k4 ?a5 ?l5 ?c5 ?k5 ?a6 ?l6 ?c6 ?k6 ?a7 ?l7 ?c7 ?k7 ?a8 ?l8 ?c8 ?k8 ?a9 ?l9 ?c9 ?k9 ?a10 ?l10 ?c10 ?k10 ?a11 ?l11 ?c11 ?k11 ?a12 ?l12 ?c12 ?k12 ?a13 ?l13 ?c13 ?k13 ?a14 ?l14 ?c14 ?k14 ?a15 ?l15 ?c15 ?k15 ?a16 ?l16 ?c16 ?k16 ?a17 ?l17 ?c17 ?k17 ?a18 ?l18 ?c18 ?k18 ?a19 ?l19 ?c19 ?k19 ?a20 ?l20 ?c20 ?k20 ?a21 ?l21 ?c21 ?k21 ?a22 ?l22 ?c22 ?k22 ?a23 ?l23 ?c23 ?k23 ?a24 ?l24 ?c24 ?k24 ?a25 ?l25 ?c25 ?k25 ?a26 ?l26 ?c26 ?k26 ?a27 ?l27 ?c27 ?k27 ?a28 ?l28 ?c28 ?k28 ?a29 ?l29 ?c29 ?k29 ?a30 ?l30 ?c30 ?k30 ?a31 ?l31 ?c31 ?k31 ?a32 ?l32 ?c32 ?k32 ?a33 ?l33 ?c33 ?k33 ?a34 ?l34 ?c34 ?k34 ?a35 ?l35 ?c35 ?k35 ?a36 ?l36 ?c36 ?k36 ?a37 ?l37 ?c37 ?k37 ?a38 ?l38 ?c38 ?k38 ?a39 ?l39 ?c39 ?k39 ?aCt ?pgCt ?hdCt ?poCt ?saCt ?mkCt ?kcCt ?n0Ct ?n1Ct ?n2Ct ?n3Ct ?aCn ?pgCn ?hdCn ?poCn ?saCn ?mkCn ?kcCn ?n0Cn ?n1Cn ?n2Cn ?n3Cn ?aGR ?pgGR ?hdGR ?poGR ?saGR ?mkGR ?kcGR ?n0GR ?n1GR ?n2GR ?n3GR ?n4GR ?n5GR ?aWR ?pgWR ?hdWR ?poWR ?saWR ?mkWR ?kcWR ?n0WR ?n1WR ?n2WR ?n3WR ?aCW ?hcCt ?moCt ?hcCn ?moCn ?hcWR ?moWR ?suCt ?suCn ?icCW ?ttCW ?snNW ?icCn ?ttCn ?sSCn ?snTN ?icWR ?ttWR ?neWR ?ikn ?ikt ?m150 ?i150 ?l150 ?c150 ?k150 ?t150 ?m151 ?i151 ?l151 ?c151 ?k151 ?t151 ?kd1510 ?m153 ?i153 ?l153 ?c153 ?k153 ?m154 ?i154 ?l154 ?c154 ?k154 ?m155 ?i155 ?l155 ?c155 ?k155 ?m156 ?i156 ?l156 ?c156 ?k156 ?m157 ?i157 ?l157 ?c157 ?k157 ?m158 ?i158 ?l158 ?c158 ?k158 ?m159 ?i159 ?l159 ?c159 ?k159 ?m160 ?i160 ?l160 ?c160 ?k160 ?m161 ?i161 ?l161 ?c161 ?k161 ?m162 ?i162 ?l162 ?c162 ?k162 ?aBR ?icBR ?ttBR ?gaBR ?ggBR ?hdBR ?hcBR ?moBR ?saBR ?exBR ?keBR ?vEBR ?sSBR ?no0BR ?lxBR ?rxBR ?m163 ?l163 ?c163 ?k163 ?ty163 ?aBD ?icBD ?ttBD ?gaBD ?ggBD ?hdBD ?hcBD ?moBD ?saBD ?exBD ?keBD ?vEBD ?sSBD ?no0BD ?lxBD ?rxBD ?m164 ?l164 ?c164 ?k164 ?ty164 ?aBN ?icBN ?ttBN ?gaBN ?ggBN ?hdBN ?hcBN ?moBN ?saBN ?exBN ?keBN ?vEBN ?sSBN ?no0BN ?lxBN ?rxBN ?m165 ?l165 ?c165 ?k165 ?ty165 ?aFE ?icFE ?ttFE ?suFX ?suBR ?suBD ?suBN ?snBRBD ?snBRBN ?snBDBR ?snBDBN ?snBNBR ?snBNBD ?rdW ?gaW ?cvW ?hgP ?hgU ?hgK ?aDE ?lDE ?aSK ?lSK ?aON ?lON ?lO0 ?lO1 ?lO2 ?lO3 ?aTW ?lTW ?lV0 ?lV1 ?lV2 ?lV3 ?lV4 ?lV5 ?lV6 ?zint ?zlen ?zabs ?zlist ?zmin ?zmax ?zisinstance ?zbool ?ztuple ?zall ?zrange ?zrepr ?zdict ?zzip ?zsum ?zany ?zValueError ?hdL ?noT
      (case a0 => k_is)
      (case l0 => k_is)
      (case c0 => k_is)
      (case k0 => k_is)
      (case a1 => k_is)
      (case l1 => k_is)
      (case c1 => k_is)
      (case k1 => k_is)
      (case a2 => k_is)
      (case l2 => k_is)
      (case c2 => k_is)
      (case k2 => k_is)
      (case a3 => k_is)
      (case l3 => k_is)
      (case c3 => k_is)
      (case k3 => k_is)
      (case a4 => k_is)
      (case l4 => k_is)
      (case c4 => k_is)
      (case k4 => k_is)
      (case a5 => k_is)
      (case l5 => k_is)
      (case c5 => k_is)
      (case k5 => k_is)
      (case a6 => k_is)
      (case l6 => k_is)
      (case c6 => k_is)
      (case k6 => k_is)
      (case a7 => k_is)
      (case l7 => k_is)
      (case c7 => k_is)
      (case k7 => k_is)
      (case a8 => k_is)
      (case l8 => k_is)
      (case c8 => k_is)
      (case k8 => k_is)
      (case a9 => k_is)
      (case l9 => k_is)
      (case c9 => k_is)
      (case k9 => k_is)
      (case a10 => k_is)
      (case l10 => k_is)
      (case c10 => k_is)
      (case k10 => k_is)
      (case a11 => k_is)
      (case l11 => k_is)
      (case c11 => k_is)
      (case k11 => k_is)
      (case a12 => k_is)
      (case l12 => k_is)
      (case c12 => k_is)
      (case k12 => k_is)
      (case a13 => k_is)
      (case l13 => k_is)
      (case c13 => k_is)
      (case k13 => k_is)
      (case a14 => k_is)
      (case l14 => k_is)
      (case c14 => k_is)
      (case k14 => k_is)
      (case a15 => k_is)
      (case l15 => k_is)
      (case c15 => k_is)
      (case k15 => k_is)
      (case a16 => k_is)
      (case l16 => k_is)
      (case c16 => k_is)
      (case k16 => k_is)
      (case a17 => k_is)
      (case l17 => k_is)
      (case c17 => k_is)
      (case k17 => k_is)
      (case a18 => k_is)
      (case l18 => k_is)
      (case c18 => k_is)
      (case k18 => k_is)
      (case a19 => k_is)
      (case l19 => k_is)
      (case c19 => k_is)
      (case k19 => k_is)
      (case a20 => k_is)
      (case l20 => k_is)
      (case c20 => k_is)
      (case k20 => k_is)
      (case a21 => k_is)
      (case l21 => k_is)
      (case c21 => k_is)
      (case k21 => k_is)
      (case a22 => k_is)
      (case l22 => k_is)
      (case c22 => k_is)
      (case k22 => k_is)
      (case a23 => k_is)
      (case l23 => k_is)
      (case c23 => k_is)
      (case k23 => k_is)
      (case a24 => k_is)
      (case l24 => k_is)
      (case c24 => k_is)
      (case k24 => k_is)
      (case a25 => k_is)
      (case l25 => k_is)
      (case c25 => k_is)
      (case k25 => k_is)
      (case a26 => k_is)
      (case l26 => k_is)
      (case c26 => k_is)
      (case k26 => k_is)
      (case a27 => k_is)
      (case l27 => k_is)
      (case c27 => k_is)
      (case k27 => k_is)
      (case a28 => k_is)
      (case l28 => k_is)
      (case c28 => k_is)
      (case k28 => k_is)
      (case a29 => k_is)
      (case l29 => k_is)
      (case c29 => k_is)
      (case k29 => k_is)
      (case a30 => k_is)
      (case l30 => k_is)
      (case c30 => k_is)
      (case k30 => k_is)
      (case a31 => k_is)
      (case l31 => k_is)
      (case c31 => k_is)
      (case k31 => k_is)
      (case a32 => k_is)
      (case l32 => k_is)
      (case c32 => k_is)
      (case k32 => k_is)
      (case a33 => k_is)
      (case l33 => k_is)
      (case c33 => k_is)
      (case k33 => k_is)
      (case a34 => k_is)
      (case l34 => k_is)
      (case c34 => k_is)
      (case k34 => k_is)
      (case a35 => k_is)
      (case l35 => k_is)
      (case c35 => k_is)
      (case k35 => k_is)
      (case a36 => k_is)
      (case l36 => k_is)
      (case c36 => k_is)
      (case k36 => k_is)
      (case a37 => k_is)
      (case l37 => k_is)
      (case c37 => k_is)
      (case k37 => k_is)
      (case a38 => k_is)
      (case l38 => k_is)
      (case c38 => k_is)
      (case k38 => k_is)
      (case a39 => k_is)
      (case l39 => k_is)
      (case c39 => k_is)
      (case k39 => k_is)
      (case aCt => k_is)
      (case pgCt => k_is)
      (case hdCt => k_is)
      (case poCt => k_is)
      (case saCt => k_is)
      (case mkCt => k_is)
      (case kcCt => k_is)
      (case n0Ct => k_is)
      (case n1Ct => k_is)
      (case n2Ct => k_is)
      (case n3Ct => k_is)
      (case aCn => k_is)
      (case pgCn => k_is)
      (case hdCn => k_is)
      (case poCn => k_is)
      (case saCn => k_is)
      (case mkCn => k_is)
      (case kcCn => k_is)
      (case n0Cn => k_is)
      (case n1Cn => k_is)
      (case n2Cn => k_is)
      (case n3Cn => k_is)
      (case aGR => k_is)
      (case pgGR => k_is)
      (case hdGR => k_is)
      (case poGR => k_is)
      (case saGR => k_is)
      (case mkGR => k_is)
      (case kcGR => k_is)
      (case n0GR => k_is)
      (case n1GR => k_is)
      (case n2GR => k_is)
      (case n3GR => k_is)
      (case n4GR => k_is)
      (case n5GR => k_is)
      (case aWR => k_is)
      (case pgWR => k_is)
      (case hdWR => k_is)
      (case poWR => k_is)
      (case saWR => k_is)
      (case mkWR => k_is)
      (case kcWR => k_is)
      (case n0WR => k_is)
      (case n1WR => k_is)
      (case n2WR => k_is)
      (case n3WR => k_is)
      (case aCW => k_is)
      (case hcCt => k_is)
      (case moCt => k_is)
      (case hcCn => k_is)
      (case moCn => k_is)
      (case hcWR => k_is)
      (case moWR => k_is)
      (case suCt => k_is)
      (case suCn => k_is)
      (case icCW => k_is)
      (case ttCW => k_is)
      (case snNW => k_is)
      (case icCn => k_is)
      (case ttCn => k_is)
      (case sSCn => k_is)
      (case snTN => k_is)
      (case icWR => k_is)
      (case ttWR => k_is)
      (case neWR => k_is)
      (case ikn => k_is)
      (case ikt => k_is)
      (case m150 => k_is)
      (case i150 => k_is)
      (case l150 => k_is)
      (case c150 => k_is)
      (case k150 => k_is)
      (case t150 => k_is)
      (case m151 => k_is)
      (case i151 => k_is)
      (case l151 => k_is)
      (case c151 => k_is)
      (case k151 => k_is)
      (case t151 => k_is)
      (case kd1510 => k_is)
      (case m153 => k_is)
      (case i153 => k_is)
      (case l153 => k_is)
      (case c153 => k_is)
      (case k153 => k_is)
      (case m154 => k_is)
      (case i154 => k_is)
      (case l154 => k_is)
      (case c154 => k_is)
      (case k154 => k_is)
      (case m155 => k_is)
      (case i155 => k_is)
      (case l155 => k_is)
      (case c155 => k_is)
      (case k155 => k_is)
      (case m156 => k_is)
      (case i156 => k_is)
      (case l156 => k_is)
      (case c156 => k_is)
      (case k156 => k_is)
      (case m157 => k_is)
      (case i157 => k_is)
      (case l157 => k_is)
      (case c157 => k_is)
      (case k157 => k_is)
      (case m158 => k_is)
      (case i158 => k_is)
      (case l158 => k_is)
      (case c158 => k_is)
      (case k158 => k_is)
      (case m159 => k_is)
      (case i159 => k_is)
      (case l159 => k_is)
      (case c159 => k_is)
      (case k159 => k_is)
      (case m160 => k_is)
      (case i160 => k_is)
      (case l160 => k_is)
      (case c160 => k_is)
      (case k160 => k_is)
      (case m161 => k_is)
      (case i161 => k_is)
      (case l161 => k_is)
      (case c161 => k_is)
      (case k161 => k_is)
      (case m162 => k_is)
      (case i162 => k_is)
      (case l162 => k_is)
      (case c162 => k_is)
      (case k162 => k_is)
      (case aBR => k_is)
      (case icBR => k_is)
      (case ttBR => k_is)
      (case gaBR => k_is)
      (case ggBR => k_is)
      (case hdBR => k_is)
      (case hcBR => k_is)
      (case moBR => k_is)
      (case saBR => k_is)
      (case exBR => k_is)
      (case keBR => k_is)
      (case vEBR => k_is)
      (case sSBR => k_is)
      (case no0BR => k_is)
      (case lxBR => k_is)
      (case rxBR => decide +kernel)
      (case m163 => k_is)
      (case l163 => k_is)
      (case c163 => k_is)
      (case k163 => k_is)
      (case ty163 => k_is)
      (case aBD => k_is)
      (case icBD => k_is)
      (case ttBD => k_is)
      (case gaBD => k_is)
      (case ggBD => k_is)
      (case hdBD => k_is)
      (case hcBD => k_is)
      (case moBD => k_is)
      (case saBD => k_is)
      (case exBD => k_is)
      (case keBD => k_is)
      (case vEBD => k_is)
      (case sSBD => k_is)
      (case no0BD => k_is)
      (case lxBD => k_is)
      (case rxBD => decide +kernel)
      (case m164 => k_is)
      (case l164 => k_is)
      (case c164 => k_is)
      (case k164 => k_is)
      (case ty164 => k_is)
      (case aBN => k_is)
      (case icBN => k_is)
      (case ttBN => k_is)
      (case gaBN => k_is)
      (case ggBN => k_is)
      (case hdBN => k_is)
      (case hcBN => k_is)
      (case moBN => k_is)
      (case saBN => k_is)
      (case exBN => k_is)
      (case keBN => k_is)
      (case vEBN => k_is)
      (case sSBN => k_is)
      (case no0BN => k_is)
      (case lxBN => k_is)
      (case rxBN => decide +kernel)
      (case m165 => k_is)
      (case l165 => k_is)
      (case c165 => k_is)
      (case k165 => k_is)
      (case ty165 => k_is)
      (case aFE => k_is)
      (case icFE => k_is)
      (case ttFE => k_is)
      (case suFX => k_is)
      (case suBR => k_is)
      (case suBD => k_is)
      (case suBN => k_is)
      (case snBRBD => k_is)
      (case snBRBN => k_is)
      (case snBDBR => k_is)
      (case snBDBN => k_is)
      (case snBNBR => k_is)
      (case snBNBD => k_is)
      (case rdW => k_is)
      (case gaW => k_is)
      (case cvW => k_is)
      (case hgP => k_is)
      (case hgU => k_is)
      (case hgK => k_is)
      (case aDE => k_is)
      (case lDE => k_is)
      (case aSK => k_is)
      (case lSK => k_is)
      (case aON => k_is)
      (case lON => k_is)
      (case lO0 => k_is)
      (case lO1 => k_is)
      (case lO2 => k_is)
      (case lO3 => k_is)
      (case aTW => k_is)
      (case lTW => k_is)
      (case lV0 => k_is)
      (case lV1 => k_is)
      (case lV2 => k_is)
      (case lV3 => k_is)
      (case lV4 => k_is)
      (case lV5 => k_is)
      (case lV6 => k_is)
      (case zint => k_is)
      (case zlen => k_is)
      (case zabs => k_is)
      (case zlist => k_is)
      (case zmin => k_is)
      (case zmax => k_is)
      (case zisinstance => k_is)
      (case zbool => k_is)
      (case ztuple => k_is)
      (case zall => k_is)
      (case zrange => k_is)
      (case zrepr => k_is)
      (case zdict => k_is)
      (case zzip => k_is)
      (case zsum => k_is)
      (case zany => k_is)
      (case zValueError => k_is)
      (case hdL => kernel_rfl)
      (case noT => kernel_rfl))
