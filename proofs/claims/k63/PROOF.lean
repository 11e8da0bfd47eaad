import PyProof.Rows.All
import Wide.All
import OpenK.AllK
import Wide.FinOn
import HandS.ForMost
import HandS.Wide
import HandS.Codes
import HandS.IsInst
import HandS.Defaults
import HandS.MakeKw
import HandS.MakeKwOnly
import HandS.ClsMeth
import HandS.TupAny
import HandS.Style
import HandS.Zip
import HandS.Deep
import KE.KStateDown
import Wide.Once
import HandS.Head0
import HandS.Head1
import HandS.Head2
import HandS.Conv
import HandS.More
import HandS.WordsDict
import HandS.Star
import OpenK.KMeth
import HandS.OwnIter
import HandS.SlotsOwn
import HandS.IterVal
import HandS.SortInts
import HandS.DeepEq
import HandS.Property
import PySem.Challenge.RW_evenrules_k63_whole_trees_come_to_by_put
set_option Elab.async false
set_option linter.all false
set_option maxRecDepth 100000
set_option maxHeartbeats 4000000
namespace Ev
open PySem L2
def top (i : Nat) : Stmt := PySem.Challenge.pw_evenrules_k63_whole_trees_come_to_by_put.main.body.getD i (.Pass ⟨0, 0, 0, 0⟩)
abbrev sWall : Stmt := top 0
abbrev sKept : Stmt := top 2
abbrev sIsFlat : Stmt := top 3
abbrev sCopiedDeep : Stmt := top 4
abbrev sPartsOf : Stmt := top 5
abbrev sRebuilt : Stmt := top 6
abbrev sAreSame : Stmt := top 7
abbrev sAreAlike : Stmt := top 8
abbrev sPairsOfParts : Stmt := top 9
abbrev sBadRule_init : Stmt := inClass (top 12) 0
abbrev sNoHalves_init : Stmt := inClass (top 13) 0
abbrev sBadNumber_init : Stmt := inClass (top 14) 0
abbrev sBadKey_init : Stmt := inClass (top 15) 0
abbrev sNoKey_init : Stmt := inClass (top 16) 0
abbrev sTaken_init : Stmt := inClass (top 17) 0
abbrev sOverlap_init : Stmt := inClass (top 18) 0
abbrev sStuck_init : Stmt := inClass (top 19) 0
abbrev sBadOther_init : Stmt := inClass (top 20) 0
abbrev sBadText_init : Stmt := inClass (top 21) 0
abbrev sTooMany_init : Stmt := inClass (top 23) 0
abbrev sIsInt : Stmt := top 26
abbrev sWithin : Stmt := top 27
abbrev sIsKey : Stmt := top 28
abbrev sNeedKey : Stmt := top 29
abbrev sNeedPairs : Stmt := top 30
abbrev sNode_init : Stmt := inClass (top 32) 0
abbrev sWeightOf : Stmt := top 33
abbrev sFormOf : Stmt := top 34
abbrev sHalved : Stmt := top 35
abbrev sNodesOf : Stmt := top 36
abbrev sLevelsOf : Stmt := top 37
abbrev sWordsOf : Stmt := top 38
abbrev sNumberWord : Stmt := top 42
abbrev sPairWord : Stmt := top 43
abbrev sReadNumber : Stmt := top 44
abbrev sReadPair : Stmt := top 45
abbrev sWeightRule_call : Stmt := inClass (top 52) 1
abbrev sWeightRule_greatest : Stmt := inClass (top 52) 2
abbrev sWeightRule_least : Stmt := inClass (top 52) 3
abbrev sWeightRule_read : Stmt := inClass (top 52) 4
abbrev sTurnRule_init : Stmt := inClass (top 53) 0
abbrev sTurnRule_turns : Stmt := inClass (top 53) 1
abbrev sTurnRule_eq : Stmt := inClass (top 53) 2
abbrev sTurnRule_str : Stmt := inClass (top 53) 3
abbrev sTryRule_init : Stmt := inClass (top 54) 0
abbrev sTryRule_turns : Stmt := inClass (top 54) 1
abbrev sTryRule_twice_is_fair : Stmt := inClass (top 54) 2
abbrev sTryRule_eq : Stmt := inClass (top 54) 3
abbrev sTryRule_str : Stmt := inClass (top 54) 4
abbrev sAreFair : Stmt := top 55
abbrev sGreatestBeside : Stmt := top 56
abbrev sLeastBeside : Stmt := top 57
abbrev sNeedRule : Stmt := top 58
abbrev sNeedWeight : Stmt := top 59
abbrev sPair : Stmt := top 60
abbrev sIsTimes : Stmt := top 61
abbrev sIsPlus : Stmt := top 62
abbrev sIsTurn : Stmt := top 63
abbrev sNeedTimes : Stmt := top 64
abbrev sHasHalves : Stmt := top 65
abbrev sNeedHalves : Stmt := top 66
abbrev sWrongRuleWord : Stmt := top 67
abbrev sWordValue : Stmt := top 68
abbrev sCanStand : Stmt := top 69
abbrev sWithKey : Stmt := top 71
abbrev sWithoutKey : Stmt := top 72
abbrev sStepsToNeighbour : Stmt := top 73
abbrev sMended : Stmt := top 74
abbrev sBalanced : Stmt := top 75
abbrev sTurned : Stmt := top 76
abbrev sSidesOf : Stmt := top 77
abbrev sJoined : Stmt := top 78
abbrev sState_init : Stmt := inClass (top 81) 0
abbrev sHalvesState : Stmt := top 82
abbrev sFirstFrom : Stmt := top 83
abbrev sWithEntries : Stmt := top 84
abbrev sWithoutEntry : Stmt := top 85
abbrev sEntriesOf : Stmt := top 86
abbrev sUnderRule : Stmt := top 87
abbrev sRebuiltUnfair : Stmt := top 88
abbrev sUnfairKeys : Stmt := top 89
abbrev sReading_len : Stmt := inClass (top 91) 0
abbrev sReading_bool : Stmt := inClass (top 91) 1
abbrev sReading_contains : Stmt := inClass (top 91) 2
abbrev sReading_iter : Stmt := inClass (top 91) 3
abbrev sReading_falling : Stmt := inClass (top 91) 4
abbrev sReading_getitem : Stmt := inClass (top 91) 5
abbrev sReading_get : Stmt := inClass (top 91) 6
abbrev sReading_least : Stmt := inClass (top 91) 7
abbrev sReading_greatest : Stmt := inClass (top 91) 8
abbrev sReading_end_of : Stmt := inClass (top 91) 9
abbrev sReading_below : Stmt := inClass (top 91) 10
abbrev sReading_above : Stmt := inClass (top 91) 11
abbrev sReading_place : Stmt := inClass (top 91) 12
abbrev sReading_key_at : Stmt := inClass (top 91) 13
abbrev sReading_between : Stmt := inClass (top 91) 14
abbrev sReading_depth : Stmt := inClass (top 91) 15
abbrev sReading_height : Stmt := inClass (top 91) 16
abbrev sReading_layout : Stmt := inClass (top 91) 17
abbrev sReading_eq : Stmt := inClass (top 91) 18
abbrev sReading_str : Stmt := inClass (top 91) 19
abbrev sParts_floordiv : Stmt := inClass (top 93) 0
abbrev sParts_mod : Stmt := inClass (top 93) 1
abbrev sParts_cut : Stmt := inClass (top 93) 2
abbrev sParts_stretch_of : Stmt := inClass (top 93) 3
abbrev sParts_add : Stmt := inClass (top 93) 4
abbrev sParts_or : Stmt := inClass (top 93) 5
abbrev sParts_and : Stmt := inClass (top 93) 6
abbrev sParts_sub : Stmt := inClass (top 93) 7
abbrev sParts_le : Stmt := inClass (top 93) 8
abbrev sParts_lt : Stmt := inClass (top 93) 9
abbrev sNeedTree : Stmt := top 94
abbrev sUnited : Stmt := top 95
abbrev sSaved_init : Stmt := inClass (top 97) 0
abbrev sTree_init : Stmt := inClass (top 99) 1
abbrev sTree_halves : Stmt := inClass (top 99) 2
abbrev sTree_like : Stmt := inClass (top 99) 3
abbrev sTree_put : Stmt := inClass (top 99) 4
abbrev sTree_setitem : Stmt := inClass (top 99) 5
abbrev sTree_drop : Stmt := inClass (top 99) 6
abbrev sTree_ior : Stmt := inClass (top 99) 7
abbrev sTree_rule : Stmt := inClass (top 99) 8
abbrev sTree_rule2 : Stmt := inClass (top 99) 9
abbrev sTree_exchange : Stmt := inClass (top 99) 10
abbrev sTree_unfair : Stmt := inClass (top 99) 11
abbrev sTree_trial : Stmt := inClass (top 99) 12
abbrev sTree_enter : Stmt := inClass (top 99) 13
abbrev sTree_exit : Stmt := inClass (top 99) 14
abbrev sTree_tried : Stmt := inClass (top 99) 15
abbrev sTree_twin : Stmt := inClass (top 99) 16
abbrev sPen : Stmt := top 101
abbrev sDraw : Stmt := top 102
abbrev sPick : Stmt := top 103
abbrev sLNumbers : Stmt := top 104
abbrev sLRule : Stmt := top 105
abbrev sLBare : Stmt := top 106
abbrev sLWeightOf : Stmt := top 107
abbrev sLWithoutLeaf : Stmt := top 108
abbrev sLPutOrder : Stmt := top 109
abbrev sLDrawn : Stmt := top 110
abbrev sLRight : Stmt := top 111
abbrev sLaw : Stmt := top 112
end Ev
noncomputable section HpSec
namespace Ev
open PySem PySem.W PyProof.Rows
/-! The head by a few runs of the top, each between two written states. -/
section
variable (st : SharedT → Thread → Option (SharedT × Thread)) (n0 : Nat) (ann : Option Value)
/-- some of the top's statements, to their end -/
def runS : Nat → SharedT → Thread → Option (Flow × SharedT × Code × Pos)
  | 0, _, _ => none
  | m + 1, s, t => match endAt 1 t with
    | some f => some (f, s, t.code, t.pos)
    | none => match stepOk n0 ann t with
      | false => none
      | true => match st s t with
        | none => none
        | some (s2, t2) => HandSHeadRun.frS s2 fun s3 => runS m s3 t2
/-- just so many steps of the top -/
def runA : Nat → SharedT → Thread → Option (SharedT × Thread)
  | 0, s, t => some (s, t)
  | m + 1, s, t => match through t with
    | true => none
    | false => match stepOk n0 ann t with
      | false => none
      | true => match st s t with
        | none => none
        | some (s2, t2) => HandSHeadRun.frS s2 fun s3 => runA m s3 t2
end
section
variable {tb : String → Option Builtin} {p : Program} {w : World} {n0 : Nat} {ann : Option Value}
theorem runS_ok : ∀ {m : Nat} {s s' : SharedT} {t : Thread} {f : Flow} {c : Code} {q : Pos}, runS (stepT (denote tb) p w) n0 ann m s t = some (f, s', c, q) → segRun tb p w n0 ann 1 m s.abs t = some (f, s'.abs, c, q)
  | 0, _, _, _, _, _, _, h => nomatch h
  | m + 1, s, s', t, f, c, q, h => by
    unfold runS at h
    unfold segRun
    cases e1 : endAt 1 t with
    | some g =>
      simp only [e1, Option.some.injEq, Prod.mk.injEq] at h ⊢
      obtain ⟨rfl, rfl, rfl, rfl⟩ := h
      exact ⟨rfl, rfl, rfl, rfl⟩
    | none =>
      simp only [e1] at h ⊢
      cases e2 : stepOk n0 ann t with
      | false => simp only [e2] at h; exact nomatch h
      | true =>
        simp only [e2] at h ⊢
        cases e3 : stepT (denote tb) p w s t with
        | none => simp only [e3] at h; exact nomatch h
        | some r =>
          obtain ⟨s2, t2⟩ := r
          simp only [e3, HandSHeadRun.frS_eq] at h
          simp only [stepT_spec e3]
          exact runS_ok h
theorem runA_ok : ∀ {m : Nat} {s s' : SharedT} {t t' : Thread}, runA (stepT (denote tb) p w) n0 ann m s t = some (s', t') → topGo tb p w n0 ann m s.abs t = some (s'.abs, t')
  | 0, _, _, _, _, h => by
    simp only [runA, Option.some.injEq, Prod.mk.injEq] at h
    obtain ⟨rfl, rfl⟩ := h
    rfl
  | m + 1, s, s', t, t', h => by
    unfold runA at h
    unfold topGo
    cases e1 : through t with
    | true => simp only [e1] at h; exact nomatch h
    | false =>
      simp only [e1] at h ⊢
      cases e2 : stepOk n0 ann t with
      | false => simp only [e2] at h; exact nomatch h
      | true =>
        simp only [e2] at h ⊢
        cases e3 : stepT (denote tb) p w s t with
        | none => simp only [e3] at h; exact nomatch h
        | some r =>
          obtain ⟨s2, t2⟩ := r
          simp only [e3, HandSHeadRun.frS_eq] at h
          simp only [stepT_spec e3]
          exact runA_ok h
theorem cut_at {env : Env} {q : Pos} {n N i : Nat} {s s' r : Shared} {l : List Stmt} {c : Code} {pos p' : Pos} (h : segRun tb p w n0 ann 1 n s (piecesOf (l.take i) env c pos [topFrame q]) = some (.next, s', c, p'))
    (k : topRun tb p w n0 ann N s' (restOf (l.drop i) env c p' [topFrame q]) = some r) : topRun tb p w n0 ann (n + N) s (restOf l env c pos [topFrame q]) = some r := by
  have z := piece_app h k
  rw [List.take_append_drop] at z
  exact z
end
abbrev stQ (p : Program) (w : World) : SharedT → Thread → Option (SharedT × Thread) := HandSHeadRun.stepQ (HandSHeadRun.denQ HandSHeadRun.tabQ) p w
theorem stQ_eq (p : Program) (w : World) : stQ p w = stepT (denote treeTable) p w := by
  show HandSHeadRun.stepQ (HandSHeadRun.denQ HandSHeadRun.tabQ) p w = _
  rw [HandSHeadRun.stepQ_eq, HandSHeadRun.denQ_eq, HandSHeadRun.tabQ_eq]
/-- what is told of a text's top: where its body begins, with what -/
structure TopAt where
  env : Env
  q : Pos
  pa : Pos
  pb : Pos
  n0 : Nat
  k0 : Nat
  kb : Nat
abbrev TopAt.code (x : TopAt) (p : Program) : Code := .body (behindTheImports p) x.env
abbrev TopAt.some (x : TopAt) (p : Program) (l : List Stmt) (pos : Pos) : Thread := piecesOf l x.env (x.code p) pos [topFrame x.q]
/-- from some state on the last statements, and the end -/
def endP (st : SharedT → Thread → Option (SharedT × Thread)) (x : TopAt) (p : Program) (ann : Option Value) (k : Nat) (s : SharedT) (l : List Stmt) (pos : Pos) : Option (SharedT × Code) :=
  match runS st x.n0 ann k s (x.some p l pos) with
  | some (.next, s2, c2, p2) => match HandSHeadRun.goF st x.n0 ann 60 s2 ⟨doneF .next, c2, p2, [topFrame x.q]⟩ with
    | some s3 => some (s3, c2)
    | none => none
  | _ => none
section
variable {p : Program} {w : World} {x : TopAt} {ann : Option Value}
/-- some statements between two states -/
def Goes (x : TopAt) (p : Program) (k : Nat) (l : List Stmt) (S S' : World → OsState → SharedT) (pos pos' : Pos) (w : World) : Prop :=
  ∀ os, runS (stQ p w) x.n0 (HandSHeadRun.bootAnn w) k (S w os) (x.some p l pos) = some (.next, S' w os, x.code p, pos')
theorem Goes.seg {k : Nat} {l : List Stmt} {S S' : World → OsState → SharedT} {pos pos' : Pos} (h : Goes x p k l S S' pos pos' w) (os : OsState) :
    segRun treeTable p w x.n0 (HandSHeadRun.bootAnn w) 1 k (S w os).abs (x.some p l pos) = some (.next, (S' w os).abs, x.code p, pos') := by
  have z := h os
  rw [stQ_eq] at z
  exact runS_ok z
theorem endP_ok {k : Nat} {s s' : SharedT} {l : List Stmt} {pos : Pos} (h : endP (stQ p w) x p ann k s l pos = some (s', x.code p)) :
    topRun treeTable p w x.n0 ann (k + 60) s.abs (restOf l x.env (x.code p) pos [topFrame x.q]) = some s'.abs := by
  unfold endP at h
  rw [stQ_eq] at h
  cases e : runS (stepT (denote treeTable) p w) x.n0 ann k s (x.some p l pos) with
  | none => rw [e] at h; exact nomatch h
  | some r =>
    obtain ⟨f, s2, c2, p2⟩ := r
    rw [e] at h
    cases f with
    | next =>
      simp only at h
      cases e2 : HandSHeadRun.goF (stepT (denote treeTable) p w) x.n0 ann 60 s2 ⟨doneF .next, c2, p2, [topFrame x.q]⟩ with
      | none => rw [e2] at h; exact nomatch h
      | some s3 =>
        rw [e2] at h
        simp only [Option.some.injEq, Prod.mk.injEq] at h
        obtain ⟨rfl, rfl⟩ := h
        have z := piece_app (rest := []) (runS_ok e) (piece_nil (HandSHeadRun.goF_ok e2))
        rw [List.append_nil] at z
        exact z
    | _ => exact nomatch h
/-- the top's beginning -/
structure Starts (x : TopAt) (p : Program) (Sa Sb : World → OsState → SharedT) (w : World) : Prop where
  tree : HandSHeadRun.putAll (boot_heap w.params).objs.toList .nil 0 = some (((HandSHeadRun.putAll (boot_heap w.params).objs.toList .nil 0).map (·.1)).getD .nil, x.n0)
  pre : ∀ os, runA (stQ p w) x.n0 (HandSHeadRun.bootAnn w) x.k0 (HandSHeadRun.bootT w os (((HandSHeadRun.putAll (boot_heap w.params).objs.toList .nil 0).map (·.1)).getD .nil, x.n0)) (topStub p) = some (Sa w os, ⟨HandSHeadRun.denQ HandSHeadRun.tabQ (x.code p), x.code p, x.pa, [topFrame x.q]⟩)
  block : ∀ os, runS (stQ p w) x.n0 (HandSHeadRun.bootAnn w) x.kb (Sa w os) (blockOf (behindTheImports p) x.env (x.code p) x.pa [topFrame x.q]) = some (.next, Sb w os, x.code p, x.pb)
theorem Starts.top {Sa Sb : World → OsState → SharedT} (h : Starts x p Sa Sb w) (os : OsState) {N : Nat} {r : Shared}
    (k : topRun treeTable p w x.n0 (HandSHeadRun.bootAnn w) N (Sb w os).abs (restOf (behindTheImports p) x.env (x.code p) x.pb [topFrame x.q]) = some r) :
    (boot_heap w.params).objs.size = x.n0 ∧ topRun treeTable p w (boot_heap w.params).objs.size (HandSHeadRun.bootAnn w) (x.k0 + (x.kb + N)) ⟨boot_heap w.params, #[], boot_drawn, boot_toks, os⟩ (topStub p) = some r := by
  have eh := HandSHeadRun.putAll_heap h.tree
  have en : (boot_heap w.params).objs.size = x.n0 := by
    rw [← eh]
    exact absHeap_size _ _ _
  have ea : (HandSHeadRun.bootT w os (((HandSHeadRun.putAll (boot_heap w.params).objs.toList .nil 0).map (·.1)).getD .nil, x.n0)).abs = ⟨boot_heap w.params, #[], boot_drawn, boot_toks, os⟩ := by
    exact congrArg (fun h => (⟨h, #[], boot_drawn, boot_toks, os⟩ : Shared)) eh
  refine ⟨en, ?_⟩
  rw [en, ← ea]
  have z1 := h.pre os
  have z2 := h.block os
  rw [stQ_eq] at z1 z2
  have e3 : HandSHeadRun.denQ HandSHeadRun.tabQ (x.code p) = denote treeTable (x.code p) := by rw [HandSHeadRun.denQ_eq, HandSHeadRun.tabQ_eq]
  rw [e3] at z1
  exact go_top (runA_ok z1) (piece_block (runS_ok z2) k)
end
/-- the looks, from the last written state on -/
def SeesAt (r : OpenRow) (x : TopAt) (q : Program) (H : Hook) (ob : SharedT → H.α) (k : Nat) (loose : List PySem.Str) (S : World → OsState → SharedT) (l : List Stmt) (pos : Pos) (w : World) : Prop :=
  ∀ os : OsState, (endP (stQ r.prog w) x r.prog (HandSHeadRun.bootAnn w) k (S w os) l pos).map (fun z => (z.2, HandSHeadRun.looksF r.prog (boot_heap w.params) z.1.abs, HandSHeadRun.seenQ q loose (importedModules r.prog.main.body) (fun s => xlAt q [] s && recOk r.toRowW.records s) z.1.abs, ob z.1)) = some (x.code r.prog, true, openGood q loose, H.val w)
/-- the top comes to its end, where all is as it should be -/
def EndsAt (r : OpenRow) (q : Program) (H : Hook) (loose : List PySem.Str) (M : Nat) (w : World) : Prop :=
  ∀ os : OsState, ∃ s : SharedT, topRun treeTable r.prog w (boot_heap w.params).objs.size (HandSHeadRun.bootAnn w) M ⟨boot_heap w.params, #[], boot_drawn, boot_toks, os⟩ (topStub r.prog) = some s.abs ∧
    HandSHeadRun.looksF r.prog (boot_heap w.params) s.abs = true ∧ openSeen q loose (importedModules r.prog.main.body) (fun s => xlAt q [] s && recOk r.toRowW.records s) true s.abs = openGood q loose ∧ H.obs s.abs = H.val w
theorem sees_run {r : OpenRow} {x : TopAt} {q : Program} {H : Hook} {ob : SharedT → H.α} {k : Nat} {loose : List PySem.Str} {S : World → OsState → SharedT} {l : List Stmt} {pos : Pos} {w : World} (ho : ∀ s : SharedT, ob s = H.obs s.abs)
    (h : SeesAt r x q H ob k loose S l pos w) (os : OsState) : ∃ s : SharedT, topRun treeTable r.prog w x.n0 (HandSHeadRun.bootAnn w) (k + 60) (S w os).abs (restOf l x.env (x.code r.prog) pos [topFrame x.q]) = some s.abs ∧
    HandSHeadRun.looksF r.prog (boot_heap w.params) s.abs = true ∧ openSeen q loose (importedModules r.prog.main.body) (fun s => xlAt q [] s && recOk r.toRowW.records s) true s.abs = openGood q loose ∧ H.obs s.abs = H.val w := by
  obtain ⟨⟨s, c⟩, e, v⟩ := Option.map_eq_some_iff.mp (h os)
  simp only [Prod.mk.injEq] at v
  obtain ⟨v1, v2, v3, v4⟩ := v
  rw [v1] at e
  refine ⟨s, endP_ok e, v2, ?_, ?_⟩
  · rw [HandSHeadRun.seenQ_eq]; exact v3
  · rw [← ho]; exact v4
theorem left_of {r : OpenRow} {q : Program} {H : Hook} {loose : List PySem.Str} {M N : Nat} (e : opening r.prog = plainProg r.prog.main.scope.names) (hN : 600 ≤ N) (f : ∀ s, fenceModules? r.prog s = some s) (le : M ≤ N)
    (run : ∀ w, EndsAt r q H loose M w) : LeftO r.prog q loose (fun s => xlAt q [] s && recOk r.toRowW.records s) H.obs H.val N true := fun w => by
  obtain ⟨s0, h0, v0⟩ := Option.map_eq_some_iff.mp (boot_open e (Nat.ble_eq_true_of_le hN) f w)
  obtain ⟨hp, gs, dr, tk, os⟩ := s0
  simp only [Prod.mk.injEq] at v0
  obtain ⟨rfl, rfl, rfl, rfl⟩ := v0
  obtain ⟨s, h1, l1, l2, l3⟩ := run w os
  have h2 := topRun_mono (N - M) _ _ _ _ h1
  rw [Nat.add_sub_cancel' le] at h2
  have h3 : topFrom treeTable r.prog w N ⟨boot_heap w.params, Array.mk [], boot_drawn, boot_toks, os⟩ = some s.abs := by
    unfold topFrom
    simp only
    have b1 : ((boot_heap w.params).isNs mainGlobals && (Array.mk [] : Array GenState).size == 0) = true := by
      rw [HandSHeadRun.boot_ns]
      rfl
    rw [b1]
    simp only
    have h4 : topRun treeTable r.prog w (boot_heap w.params).objs.size ((boot_heap w.params).nsMap mainGlobals "__annotations__") N ⟨boot_heap w.params, Array.mk [], boot_drawn, boot_toks, os⟩ (topStub r.prog) = some s.abs := h2
    rw [h4]
    simp only [Option.bind_some]
    have l4 : (staticsOk (importedModules r.prog.main.body) (boot_heap w.params) s.abs.heap && namesBound r.prog s.abs.heap && gensDone s.abs && laidKept (boot_heap w.params) s.abs.heap) = true := l1
    rw [l4]
  unfold openEnds
  rw [h0]
  simp only [Option.bind_some]
  rw [h3]
  simp only [Option.map_some, Option.some.injEq]
  exact Prod.ext l2 l3
theorem head_by {r : OpenRow} {q : Program} {H : Hook} {M : Nat} {loose : List PySem.Str} {d : DefRec} {kwd : List (PySem.Str × PySem.Expr)}
    (e : opening r.prog = plainProg r.prog.main.scope.names) (f : ∀ s, fenceModules? r.prog s = some s) (run : ∀ w, EndsAt r q H loose M w)
    (hdef : defOf q r.name = some (d, kwd)) (hp : r.prog.theDef r.name = some (d.params, d.body, d.scope)) (hk : kwWritten? d.params.kwonlyargs d.params.kw_defaults = some kwd)
    (hwr : (!r.writes || r.records.isEmpty) = true) (k1 : r.wellSaid = true) (ok : (chainsOk q && opensWell r.prog && (frees r.toRowW && r.within.isEmpty)) = true) (hb : r.prog.bare) (hw : r.toRowW.promised)
    (call : WalkO q loose (XL q []) H.says r.toRowW d kwd fun f vs => PySem.call f vs) : r.Holds :=
  holds_open (left_of (N := M + 600) e (by omega) f (by omega) run) H.of H.keeps (fun s z => xl_of s (Bool.and_eq_true_iff.mp z).1) XL.keeps hdef hp hk (fun s z => recFacts_of (Bool.and_eq_true_iff.mp z).2) hwr k1 ok hb hw call
/-- objects laid over a tree, new ones and changed ones -/
def laid : List (Nat × Obj) → BT → BT
  | [], t => t
  | (a, o) :: r, t => laid r (t.ins a o)
abbrev bootTree (P : Params) : BT := ((HandSHeadRun.putAll (boot_heap P).objs.toList .nil 0).map (·.1)).getD .nil
end Ev
end HpSec
section
set_option maxHeartbeats 0
namespace Ev
open PySem L2 PySem.W PyProof.Rows
/-! The head by a few runs of the top. -/
abbrev oS (x : String) : Str := Str.ofString x
noncomputable abbrev kH (P : Params) (x : Str) : Int := PyData.keyHash P x
noncomputable def ob0_11 (P : Params) : Obj := .mk (.type "tuple") .none (.seq #[]) #[]
noncomputable def ob0_12 (P : Params) : Obj := .mk .none .none (.fields #[]) #[]
noncomputable def ob0_13 (P : Params) : Obj := .mk (.type "code") .none (.fields #[.str (oS "<module>") 182, .str (oS "<module>") 183, .str (oS "/claim/cut.py") 184, .int 1 0, .int 0 0, .int 0 0, .int 0 0, .int 0 0, .ref 11, .bool false, .int 181 0, .ref 12, .none, .none, .none, .none, .int 185 0, .int 1 0, .str (oS "/claim/cut.py") 186]) #[]
noncomputable def ob0_14 (P : Params) : Obj := .mk (.type "frame") .none .plain #[.some (.ref 13), .some (.ref 3), .some (.ref 3), .none, .some (.str (oS "__main__") 164), .none, .some (.ref 0)]
noncomputable def ob2_3 (P : Params) : Obj := .mk (.type "dict") .none (.dict #[.mk (kH P (oS "__name__")) (.str (oS "__name__") 165) (.str (oS "evenrules.rules") 742), .mk (kH P (oS "__doc__")) (.str (oS "__doc__") 166) .none, .mk (kH P (oS "__package__")) (.str (oS "__package__") 167) .none, .mk (kH P (oS "__loader__")) (.str (oS "__loader__") 168) (.builtin "__main__.__loader__#opaque"), .mk (kH P (oS "__spec__")) (.str (oS "__spec__") 169) .none, .mk (kH P (oS "__annotations__")) (.str (oS "__annotations__") 170) (.ref 6), .mk (kH P (oS "__builtins__")) (.str (oS "__builtins__") 171) (.ref 4), .mk (kH P (oS "__file__")) (.str (oS "__file__") 173) (.str (oS "/claim/cut.py") 172), .mk (kH P (oS "__cached__")) (.str (oS "__cached__") 174) .none, .mk (kH P (oS "_wall")) (.str (oS "_wall") 193) (.ref 21), .mk (kH P (oS "kept")) (.str (oS "kept") 202) (.ref 28), .mk (kH P (oS "is_flat")) (.str (oS "is_flat") 210) (.ref 35), .mk (kH P (oS "copied_deep")) (.str (oS "copied_deep") 216) (.ref 40), .mk (kH P (oS "parts_of")) (.str (oS "parts_of") 223) (.ref 47), .mk (kH P (oS "rebuilt")) (.str (oS "rebuilt") 229) (.ref 52), .mk (kH P (oS "are_same")) (.str (oS "are_same") 240) (.ref 59), .mk (kH P (oS "are_alike")) (.str (oS "are_alike") 246) (.ref 64), .mk (kH P (oS "pairs_of_parts")) (.str (oS "pairs_of_parts") 252) (.ref 69), .mk (kH P (oS "FairError")) (.str (oS "FairError") 272) (.ref 79), .mk (kH P (oS "BadRule")) (.str (oS "BadRule") 297) (.ref 99), .mk (kH P (oS "NoHalves")) (.str (oS "NoHalves") 322) (.ref 118), .mk (kH P (oS "BadNumber")) (.str (oS "BadNumber") 347) (.ref 137), .mk (kH P (oS "BadKey")) (.str (oS "BadKey") 372) (.ref 156), .mk (kH P (oS "NoKey")) (.str (oS "NoKey") 397) (.ref 175), .mk (kH P (oS "Taken")) (.str (oS "Taken") 422) (.ref 194), .mk (kH P (oS "Overlap")) (.str (oS "Overlap") 447) (.ref 213), .mk (kH P (oS "Stuck")) (.str (oS "Stuck") 472) (.ref 232), .mk (kH P (oS "BadOther")) (.str (oS "BadOther") 497) (.ref 251), .mk (kH P (oS "BadText")) (.str (oS "BadText") 524) (.ref 270), .mk (kH P (oS "Nothing")) (.str (oS "Nothing") 540) (.ref 282), .mk (kH P (oS "TooMany")) (.str (oS "TooMany") 567) (.ref 301), .mk (kH P (oS "KEY_BOUND")) (.str (oS "KEY_BOUND") 573) (.int 1000000000000000000000000000000 572), .mk (kH P (oS "is_integer")) (.str (oS "is_integer") 580) (.ref 310), .mk (kH P (oS "is_within")) (.str (oS "is_within") 589) (.ref 317), .mk (kH P (oS "is_key")) (.str (oS "is_key") 596) (.ref 324), .mk (kH P (oS "need_key")) (.str (oS "need_key") 603) (.ref 331), .mk (kH P (oS "need_pairs")) (.str (oS "need_pairs") 611) (.ref 338), .mk (kH P (oS "Node")) (.str (oS "Node") 648) (.ref 355), .mk (kH P (oS "weight_of")) (.str (oS "weight_of") 655) (.ref 366), .mk (kH P (oS "form_of")) (.str (oS "form_of") 662) (.ref 373), .mk (kH P (oS "halved")) (.str (oS "halved") 672) (.ref 380), .mk (kH P (oS "nodes_of")) (.str (oS "nodes_of") 682) (.ref 387), .mk (kH P (oS "levels_of")) (.str (oS "levels_of") 688) (.ref 392), .mk (kH P (oS "words_of")) (.str (oS "words_of") 698) (.ref 399), .mk (kH P (oS "PIECE")) (.str (oS "PIECE") 704) (.int 10000000000000000000000000000000000000000000000000000000000000000 703), .mk (kH P (oS "PIECE_LENGTH")) (.str (oS "PIECE_LENGTH") 706) (.int 64 705), .mk (kH P (oS "number_word")) (.str (oS "number_word") 717) (.ref 406), .mk (kH P (oS "pair_word")) (.str (oS "pair_word") 724) (.ref 413), .mk (kH P (oS "read_number")) (.str (oS "read_number") 735) (.ref 420), .mk (kH P (oS "read_pair")) (.str (oS "read_pair") 741) (.ref 425), .mk (kH P (oS "MOST_PLUS")) (.str (oS "MOST_PLUS") 745) (.int 6 744), .mk (kH P (oS "MOST_TURN")) (.str (oS "MOST_TURN") 747) (.int 8 746), .mk (kH P (oS "MOST_WEIGHT")) (.str (oS "MOST_WEIGHT") 751) (.int 1000000000000000000000000000000000000000000000000000000000000 750), .mk (kH P (oS "WORDS")) (.str (oS "WORDS") 762) (.ref 426), .mk (kH P (oS "Rule")) (.str (oS "Rule") 782) (.ref 438), .mk (kH P (oS "WeightRule")) (.str (oS "WeightRule") 843) (.ref 481)] 56) #[]
noncomputable def ob2_12 (P : Params) : Obj := .mk .none .none (.fields #[.int 1 0, .int 0 0, .ref 20, .int 5 0, .int 0 0, .ref 27, .int 11 0, .int 0 0, .ref 34, .int 16 0, .int 0 0, .ref 39, .int 33 0, .int 0 0, .ref 46, .int 37 0, .int 0 0, .ref 51, .int 41 0, .int 0 0, .ref 58, .int 52 0, .int 0 0, .ref 63, .int 57 0, .int 0 0, .ref 68, .int 63 0, .int 0 0, .ref 75, .int 65 0, .int 0 0, .ref 88, .int 69 0, .int 0 0, .ref 107, .int 73 0, .int 0 0, .ref 126, .int 77 0, .int 0 0, .ref 145, .int 81 0, .int 0 0, .ref 164, .int 85 0, .int 0 0, .ref 183, .int 89 0, .int 0 0, .ref 202, .int 93 0, .int 0 0, .ref 221, .int 97 0, .int 0 0, .ref 240, .int 101 0, .int 0 0, .ref 259, .int 106 0, .int 0 0, .ref 278, .int 108 0, .int 0 0, .ref 290, .int 115 0, .int 0 0, .ref 309, .int 117 0, .int 0 0, .ref 316, .int 119 0, .int 0 0, .ref 323, .int 121 0, .int 0 0, .ref 330, .int 124 0, .int 0 0, .ref 337, .int 131 0, .int 0 0, .ref 344, .int 139 0, .int 0 0, .ref 365, .int 141 0, .int 0 0, .ref 372, .int 143 0, .int 0 0, .ref 379, .int 148 0, .int 0 0, .ref 386, .int 158 0, .int 0 0, .ref 391, .int 167 0, .int 0 0, .ref 398, .int 186 0, .int 0 0, .ref 405, .int 197 0, .int 0 0, .ref 412, .int 199 0, .int 0 0, .ref 419, .int 210 0, .int 0 0, .ref 424, .int 220 0, .int 0 0, .ref 434, .int 222 0, .int 0 0, .ref 448]) #[]
noncomputable def ob2_15 (P : Params) : Obj := .mk (.type "tuple") .none (.seq #[]) #[]
noncomputable def ob2_16 (P : Params) : Obj := .mk .none .none (.fields #[]) #[]
noncomputable def ob2_17 (P : Params) : Obj := .mk (.type "tuple") .none (.seq #[.str (oS "k") 190]) #[]
noncomputable def ob2_18 (P : Params) : Obj := .mk (.type "tuple") .none (.seq #[]) #[]
noncomputable def ob2_19 (P : Params) : Obj := .mk .none .none (.func (.mk (oS "_wall") (oS "_wall") (defArgs (top 0)) (.stmts (defBody (top 0))) (defScope (top 0)) 0 [] .none .none .none .none .none .none .none 0)) #[]
noncomputable def ob2_20 (P : Params) : Obj := .mk (.type "code") .none (.fields #[.str (oS "_wall") 187, .str (oS "_wall") 188, .str (oS "/claim/cut.py") 189, .int 1 0, .int 1 0, .int 0 0, .int 0 0, .int 3 0, .ref 15, .bool true, .int 181 0, .ref 16, .none, .ref 17, .ref 18, .ref 19, .int 191 0, .int 1 0, .str (oS "/claim/cut.py") 192]) #[]
noncomputable def ob2_21 (P : Params) : Obj := .mk (.type "function") .none (.func (.mk (oS "_wall") (oS "_wall") (defArgs (top 0)) (.stmts (defBody (top 0))) (defScope (top 0)) 3 [] .none .none .none (.str (oS "__main__") 164) .none (.ref 20) .none 0)) #[]
noncomputable def ob2_22 (P : Params) : Obj := .mk (.type "tuple") .none (.seq #[]) #[]
noncomputable def ob2_23 (P : Params) : Obj := .mk .none .none (.fields #[]) #[]
noncomputable def ob2_24 (P : Params) : Obj := .mk (.type "tuple") .none (.seq #[.str (oS "value") 199]) #[]
noncomputable def ob2_25 (P : Params) : Obj := .mk (.type "tuple") .none (.seq #[]) #[]
noncomputable def ob2_26 (P : Params) : Obj := .mk .none .none (.func (.mk (oS "kept") (oS "kept") (defArgs (top 2)) (.stmts (defBody (top 2))) (defScope (top 2)) 0 [] .none .none .none .none .none .none .none 0)) #[]
noncomputable def ob2_27 (P : Params) : Obj := .mk (.type "code") .none (.fields #[.str (oS "kept") 196, .str (oS "kept") 197, .str (oS "/claim/cut.py") 198, .int 5 0, .int 1 0, .int 0 0, .int 0 0, .int 3 0, .ref 22, .bool true, .int 181 0, .ref 23, .none, .ref 24, .ref 25, .ref 26, .int 200 0, .int 5 0, .str (oS "/claim/cut.py") 201]) #[]
noncomputable def ob2_28 (P : Params) : Obj := .mk (.type "function") .none (.func (.mk (oS "kept") (oS "kept") (defArgs (top 2)) (.stmts (defBody (top 2))) (defScope (top 2)) 3 [] .none .none .none (.str (oS "evenrules.keeping") 194) .none (.ref 27) .none 0)) #[]
noncomputable def ob2_29 (P : Params) : Obj := .mk (.type "tuple") .none (.seq #[]) #[]
noncomputable def ob2_30 (P : Params) : Obj := .mk .none .none (.fields #[]) #[]
noncomputable def ob2_31 (P : Params) : Obj := .mk (.type "tuple") .none (.seq #[.str (oS "value") 206, .str (oS "part") 207]) #[]
noncomputable def ob2_32 (P : Params) : Obj := .mk (.type "tuple") .none (.seq #[]) #[]
noncomputable def ob2_33 (P : Params) : Obj := .mk .none .none (.func (.mk (oS "is_flat") (oS "is_flat") (defArgs (top 3)) (.stmts (defBody (top 3))) (defScope (top 3)) 0 [] .none .none .none .none .none .none .none 0)) #[]
noncomputable def ob2_34 (P : Params) : Obj := .mk (.type "code") .none (.fields #[.str (oS "is_flat") 203, .str (oS "is_flat") 204, .str (oS "/claim/cut.py") 205, .int 11 0, .int 1 0, .int 0 0, .int 0 0, .int 3 0, .ref 29, .bool true, .int 181 0, .ref 30, .none, .ref 31, .ref 32, .ref 33, .int 208 0, .int 11 0, .str (oS "/claim/cut.py") 209]) #[]
noncomputable def ob2_35 (P : Params) : Obj := .mk (.type "function") .none (.func (.mk (oS "is_flat") (oS "is_flat") (defArgs (top 3)) (.stmts (defBody (top 3))) (defScope (top 3)) 3 [] .none .none .none (.str (oS "evenrules.keeping") 194) .none (.ref 34) .none 0)) #[]
noncomputable def ob2_36 (P : Params) : Obj := .mk (.type "tuple") .none (.seq #[]) #[]
noncomputable def ob2_37 (P : Params) : Obj := .mk .none .none (.fields #[]) #[]
noncomputable def ob2_38 (P : Params) : Obj := .mk .none .none (.func (.mk (oS "copied_deep") (oS "copied_deep") (defArgs (top 4)) (.stmts (defBody (top 4))) (defScope (top 4)) 0 [] .none .none .none .none .none .none .none 0)) #[]
noncomputable def ob2_39 (P : Params) : Obj := .mk (.type "code") .none (.fields #[.str (oS "copied_deep") 211, .str (oS "copied_deep") 212, .str (oS "/claim/cut.py") 213, .int 16 0, .int 1 0, .int 0 0, .int 0 0, .int 3 0, .ref 36, .bool true, .int 181 0, .ref 37, .none, .none, .none, .ref 38, .int 214 0, .int 16 0, .str (oS "/claim/cut.py") 215]) #[]
noncomputable def ob2_40 (P : Params) : Obj := .mk (.type "function") .none (.func (.mk (oS "copied_deep") (oS "copied_deep") (defArgs (top 4)) (.stmts (defBody (top 4))) (defScope (top 4)) 3 [] .none .none .none (.str (oS "evenrules.keeping") 194) .none (.ref 39) .none 0)) #[]
noncomputable def ob2_41 (P : Params) : Obj := .mk (.type "tuple") .none (.seq #[]) #[]
noncomputable def ob2_42 (P : Params) : Obj := .mk .none .none (.fields #[]) #[]
noncomputable def ob2_43 (P : Params) : Obj := .mk (.type "tuple") .none (.seq #[.str (oS "value") 220]) #[]
noncomputable def ob2_44 (P : Params) : Obj := .mk (.type "tuple") .none (.seq #[]) #[]
noncomputable def ob2_45 (P : Params) : Obj := .mk .none .none (.func (.mk (oS "parts_of") (oS "parts_of") (defArgs (top 5)) (.stmts (defBody (top 5))) (defScope (top 5)) 0 [] .none .none .none .none .none .none .none 0)) #[]
noncomputable def ob2_46 (P : Params) : Obj := .mk (.type "code") .none (.fields #[.str (oS "parts_of") 217, .str (oS "parts_of") 218, .str (oS "/claim/cut.py") 219, .int 33 0, .int 1 0, .int 0 0, .int 0 0, .int 3 0, .ref 41, .bool true, .int 181 0, .ref 42, .none, .ref 43, .ref 44, .ref 45, .int 221 0, .int 33 0, .str (oS "/claim/cut.py") 222]) #[]
noncomputable def ob2_47 (P : Params) : Obj := .mk (.type "function") .none (.func (.mk (oS "parts_of") (oS "parts_of") (defArgs (top 5)) (.stmts (defBody (top 5))) (defScope (top 5)) 3 [] .none .none .none (.str (oS "evenrules.keeping") 194) .none (.ref 46) .none 0)) #[]
noncomputable def ob2_48 (P : Params) : Obj := .mk (.type "tuple") .none (.seq #[]) #[]
noncomputable def ob2_49 (P : Params) : Obj := .mk .none .none (.fields #[]) #[]
noncomputable def ob2_50 (P : Params) : Obj := .mk .none .none (.func (.mk (oS "rebuilt") (oS "rebuilt") (defArgs (top 6)) (.stmts (defBody (top 6))) (defScope (top 6)) 0 [] .none .none .none .none .none .none .none 0)) #[]
noncomputable def ob2_51 (P : Params) : Obj := .mk (.type "code") .none (.fields #[.str (oS "rebuilt") 224, .str (oS "rebuilt") 225, .str (oS "/claim/cut.py") 226, .int 37 0, .int 2 0, .int 0 0, .int 0 0, .int 3 0, .ref 48, .bool true, .int 181 0, .ref 49, .none, .none, .none, .ref 50, .int 227 0, .int 37 0, .str (oS "/claim/cut.py") 228]) #[]
noncomputable def ob2_52 (P : Params) : Obj := .mk (.type "function") .none (.func (.mk (oS "rebuilt") (oS "rebuilt") (defArgs (top 6)) (.stmts (defBody (top 6))) (defScope (top 6)) 3 [] .none .none .none (.str (oS "evenrules.keeping") 194) .none (.ref 51) .none 0)) #[]
noncomputable def ob2_53 (P : Params) : Obj := .mk (.type "tuple") .none (.seq #[]) #[]
noncomputable def ob2_54 (P : Params) : Obj := .mk .none .none (.fields #[]) #[]
noncomputable def ob2_55 (P : Params) : Obj := .mk (.type "tuple") .none (.seq #[.str (oS "one") 233, .str (oS "other") 234, .str (oS "pairs") 235, .str (oS "mine") 236, .str (oS "its") 237]) #[]
noncomputable def ob2_56 (P : Params) : Obj := .mk (.type "tuple") .none (.seq #[]) #[]
noncomputable def ob2_57 (P : Params) : Obj := .mk .none .none (.func (.mk (oS "are_same") (oS "are_same") (defArgs (top 7)) (.stmts (defBody (top 7))) (defScope (top 7)) 0 [] .none .none .none .none .none .none .none 0)) #[]
noncomputable def ob2_58 (P : Params) : Obj := .mk (.type "code") .none (.fields #[.str (oS "are_same") 230, .str (oS "are_same") 231, .str (oS "/claim/cut.py") 232, .int 41 0, .int 2 0, .int 0 0, .int 0 0, .int 3 0, .ref 53, .bool true, .int 181 0, .ref 54, .none, .ref 55, .ref 56, .ref 57, .int 238 0, .int 41 0, .str (oS "/claim/cut.py") 239]) #[]
noncomputable def ob2_59 (P : Params) : Obj := .mk (.type "function") .none (.func (.mk (oS "are_same") (oS "are_same") (defArgs (top 7)) (.stmts (defBody (top 7))) (defScope (top 7)) 3 [] .none .none .none (.str (oS "evenrules.keeping") 194) .none (.ref 58) .none 0)) #[]
noncomputable def ob2_60 (P : Params) : Obj := .mk (.type "tuple") .none (.seq #[]) #[]
noncomputable def ob2_61 (P : Params) : Obj := .mk .none .none (.fields #[]) #[]
noncomputable def ob2_62 (P : Params) : Obj := .mk .none .none (.func (.mk (oS "are_alike") (oS "are_alike") (defArgs (top 8)) (.stmts (defBody (top 8))) (defScope (top 8)) 0 [] .none .none .none .none .none .none .none 0)) #[]
noncomputable def ob2_63 (P : Params) : Obj := .mk (.type "code") .none (.fields #[.str (oS "are_alike") 241, .str (oS "are_alike") 242, .str (oS "/claim/cut.py") 243, .int 52 0, .int 2 0, .int 0 0, .int 0 0, .int 3 0, .ref 60, .bool true, .int 181 0, .ref 61, .none, .none, .none, .ref 62, .int 244 0, .int 52 0, .str (oS "/claim/cut.py") 245]) #[]
noncomputable def ob2_64 (P : Params) : Obj := .mk (.type "function") .none (.func (.mk (oS "are_alike") (oS "are_alike") (defArgs (top 8)) (.stmts (defBody (top 8))) (defScope (top 8)) 3 [] .none .none .none (.str (oS "evenrules.keeping") 194) .none (.ref 63) .none 0)) #[]
noncomputable def ob2_65 (P : Params) : Obj := .mk (.type "tuple") .none (.seq #[]) #[]
noncomputable def ob2_66 (P : Params) : Obj := .mk .none .none (.fields #[]) #[]
noncomputable def ob2_67 (P : Params) : Obj := .mk .none .none (.func (.mk (oS "pairs_of_parts") (oS "pairs_of_parts") (defArgs (top 9)) (.stmts (defBody (top 9))) (defScope (top 9)) 0 [] .none .none .none .none .none .none .none 0)) #[]
noncomputable def ob2_68 (P : Params) : Obj := .mk (.type "code") .none (.fields #[.str (oS "pairs_of_parts") 247, .str (oS "pairs_of_parts") 248, .str (oS "/claim/cut.py") 249, .int 57 0, .int 2 0, .int 0 0, .int 0 0, .int 3 0, .ref 65, .bool true, .int 181 0, .ref 66, .none, .none, .none, .ref 67, .int 250 0, .int 57 0, .str (oS "/claim/cut.py") 251]) #[]
noncomputable def ob2_69 (P : Params) : Obj := .mk (.type "function") .none (.func (.mk (oS "pairs_of_parts") (oS "pairs_of_parts") (defArgs (top 9)) (.stmts (defBody (top 9))) (defScope (top 9)) 3 [] .none .none .none (.str (oS "evenrules.keeping") 194) .none (.ref 68) .none 0)) #[]
noncomputable def ob2_70 (P : Params) : Obj := .mk (.type "tuple") .none (.seq #[.type "ValueError"]) #[]
noncomputable def ob2_71 (P : Params) : Obj := .mk (.type "builtin_function_or_method") .none (.fields #[.builtin "type.__prepare__", .type "type"]) #[]
noncomputable def ob2_72 (P : Params) : Obj := .mk (.type "dict") .none (.dict #[.mk (kH P (oS "__module__")) (.str (oS "__module__") 262) (.str (oS "evenrules.errors") 253), .mk (kH P (oS "__qualname__")) (.str (oS "__qualname__") 264) (.str (oS "FairError") 263), .mk (kH P (oS "__firstlineno__")) (.str (oS "__firstlineno__") 266) (.int 63 265), .mk (kH P (oS "__static_attributes__")) (.str (oS "__static_attributes__") 267) (.ref 77)] 4) #[]
noncomputable def ob2_73 (P : Params) : Obj := .mk (.type "tuple") .none (.seq #[]) #[]
noncomputable def ob2_74 (P : Params) : Obj := .mk .none .none (.fields #[]) #[]
noncomputable def ob2_75 (P : Params) : Obj := .mk (.type "code") .none (.fields #[.str (oS "FairError") 257, .str (oS "FairError") 258, .str (oS "/claim/cut.py") 259, .int 63 0, .int 0 0, .int 0 0, .int 0 0, .int 0 0, .ref 73, .bool false, .int 181 0, .ref 74, .none, .none, .none, .none, .int 260 0, .int 63 0, .str (oS "/claim/cut.py") 261]) #[]
noncomputable def ob2_76 (P : Params) : Obj := .mk (.type "frame") .none .plain #[.some (.ref 75), .some (.ref 3), .some (.ref 72), .none, .some (.str (oS "evenrules.errors") 253), .none, .some (.ref 0)]
noncomputable def ob2_77 (P : Params) : Obj := .mk (.type "tuple") .none (.seq #[]) #[]
noncomputable def ob2_78 (P : Params) : Obj := .mk (.type "dict") .none (.dict #[.mk (kH P (oS "__module__")) (.str (oS "__module__") 262) (.str (oS "evenrules.errors") 253), .mk (kH P (oS "__firstlineno__")) (.str (oS "__firstlineno__") 266) (.int 63 265), .mk (kH P (oS "__static_attributes__")) (.str (oS "__static_attributes__") 267) (.ref 77), .mk (kH P (oS "__weakref__")) (.str (oS "__weakref__") 269) (.ref 80), .mk (kH P (oS "__doc__")) (.str (oS "__doc__") 270) .none] 3) #[]
noncomputable def ob2_79 (P : Params) : Obj := .mk (.type "type") .none (.cls (.mk (oS "FairError") [.type "ValueError"] [.ref 79, .type "ValueError", .type "Exception", .type "BaseException", .type "object"] 78 (oS "FairError") true [] [.ref 99, .ref 118, .ref 137, .ref 156, .ref 175, .ref 194, .ref 213, .ref 232, .ref 251, .ref 270, .ref 282, .ref 301] false .none false)) #[.some (.ref 70), .none, .some (.str (oS "FairError") 255), .some (.str (oS "FairError") 263), .some (.builtin "ValueError.__new__"), .some (.bool true)]
noncomputable def ob2_80 (P : Params) : Obj := .mk (.type "getset_descriptor") .none (.fields #[.str (oS "__weakref__") 268, .ref 79, .builtin "ExceptionGroup.__weakref__", .none]) #[]
noncomputable def ob2_81 (P : Params) : Obj := .mk (.type "super") .none (.fields #[.ref 79, .ref 79, .ref 79]) #[]
noncomputable def ob2_82 (P : Params) : Obj := .mk (.type "builtin_function_or_method") .none (.fields #[.builtin "object.__init_subclass__", .ref 79]) #[]
noncomputable def ob2_83 (P : Params) : Obj := .mk (.type "tuple") .none (.seq #[.ref 79]) #[]
noncomputable def ob2_84 (P : Params) : Obj := .mk (.type "builtin_function_or_method") .none (.fields #[.builtin "type.__prepare__", .type "type"]) #[]
noncomputable def ob2_85 (P : Params) : Obj := .mk (.type "dict") .none (.dict #[.mk (kH P (oS "__module__")) (.str (oS "__module__") 280) (.str (oS "evenrules.errors") 253), .mk (kH P (oS "__qualname__")) (.str (oS "__qualname__") 282) (.str (oS "BadRule") 281), .mk (kH P (oS "__firstlineno__")) (.str (oS "__firstlineno__") 284) (.int 65 283), .mk (kH P (oS "__init__")) (.str (oS "__init__") 292) (.ref 96), .mk (kH P (oS "__static_attributes__")) (.str (oS "__static_attributes__") 294) (.ref 97)] 5) #[]
noncomputable def ob2_86 (P : Params) : Obj := .mk (.type "tuple") .none (.seq #[]) #[]
noncomputable def ob2_87 (P : Params) : Obj := .mk .none .none (.fields #[.int 67 0, .int 4 0, .ref 95]) #[]
noncomputable def ob2_88 (P : Params) : Obj := .mk (.type "code") .none (.fields #[.str (oS "BadRule") 275, .str (oS "BadRule") 276, .str (oS "/claim/cut.py") 277, .int 65 0, .int 0 0, .int 0 0, .int 0 0, .int 0 0, .ref 86, .bool false, .int 181 0, .ref 87, .none, .none, .none, .none, .int 278 0, .int 65 0, .str (oS "/claim/cut.py") 279]) #[]
noncomputable def ob2_89 (P : Params) : Obj := .mk (.type "frame") .none .plain #[.some (.ref 88), .some (.ref 3), .some (.ref 85), .none, .some (.str (oS "evenrules.errors") 253), .none, .some (.ref 0)]
noncomputable def ob2_90 (P : Params) : Obj := .mk (.type "tuple") .none (.seq #[]) #[]
noncomputable def ob2_91 (P : Params) : Obj := .mk .none .none (.fields #[]) #[]
noncomputable def ob2_92 (P : Params) : Obj := .mk (.type "tuple") .none (.seq #[.str (oS "self") 288, .str (oS "part") 289]) #[]
noncomputable def ob2_93 (P : Params) : Obj := .mk (.type "tuple") .none (.seq #[]) #[]
noncomputable def ob2_94 (P : Params) : Obj := .mk .none .none (.func (.mk (oS "__init__") (oS "BadRule.__init__") (defArgs (inClass (top 12) 0)) (.stmts (defBody (inClass (top 12) 0))) (defScope (inClass (top 12) 0)) 0 [] .none .none .none .none .none .none .none 0)) #[]
noncomputable def ob2_95 (P : Params) : Obj := .mk (.type "code") .none (.fields #[.str (oS "__init__") 285, .str (oS "BadRule.__init__") 286, .str (oS "/claim/cut.py") 287, .int 67 0, .int 2 0, .int 0 0, .int 0 0, .int 3 0, .ref 90, .bool true, .int 181 0, .ref 91, .none, .ref 92, .ref 93, .ref 94, .int 290 0, .int 67 0, .str (oS "/claim/cut.py") 291]) #[]
noncomputable def ob2_96 (P : Params) : Obj := .mk (.type "function") .none (.func (.mk (oS "__init__") (oS "BadRule.__init__") (defArgs (inClass (top 12) 0)) (.stmts (defBody (inClass (top 12) 0))) (defScope (inClass (top 12) 0)) 3 [] .none .none .none (.str (oS "evenrules.errors") 253) .none (.ref 95) .none 0)) #[]
noncomputable def ob2_97 (P : Params) : Obj := .mk (.type "tuple") .none (.seq #[.str (oS "part") 293]) #[]
noncomputable def ob2_98 (P : Params) : Obj := .mk (.type "dict") .none (.dict #[.mk (kH P (oS "__module__")) (.str (oS "__module__") 280) (.str (oS "evenrules.errors") 253), .mk (kH P (oS "__firstlineno__")) (.str (oS "__firstlineno__") 284) (.int 65 283), .mk (kH P (oS "__init__")) (.str (oS "__init__") 292) (.ref 96), .mk (kH P (oS "__static_attributes__")) (.str (oS "__static_attributes__") 294) (.ref 97), .mk (kH P (oS "__doc__")) (.str (oS "__doc__") 295) .none] 2) #[]
noncomputable def ob2_99 (P : Params) : Obj := .mk (.type "type") .none (.cls (.mk (oS "BadRule") [.ref 79] [.ref 99, .ref 79, .type "ValueError", .type "Exception", .type "BaseException", .type "object"] 98 (oS "BadRule") true [] [] false .none false)) #[.some (.ref 83), .none, .some (.str (oS "BadRule") 273), .some (.str (oS "BadRule") 281), .some (.builtin "ValueError.__new__"), .some (.bool true)]
noncomputable def ob2_100 (P : Params) : Obj := .mk (.type "super") .none (.fields #[.ref 99, .ref 99, .ref 99]) #[]
noncomputable def ob2_101 (P : Params) : Obj := .mk (.type "builtin_function_or_method") .none (.fields #[.builtin "object.__init_subclass__", .ref 99]) #[]
noncomputable def ob2_102 (P : Params) : Obj := .mk (.type "tuple") .none (.seq #[.ref 79]) #[]
noncomputable def ob2_103 (P : Params) : Obj := .mk (.type "builtin_function_or_method") .none (.fields #[.builtin "type.__prepare__", .type "type"]) #[]
noncomputable def ob2_104 (P : Params) : Obj := .mk (.type "dict") .none (.dict #[.mk (kH P (oS "__module__")) (.str (oS "__module__") 305) (.str (oS "evenrules.errors") 253), .mk (kH P (oS "__qualname__")) (.str (oS "__qualname__") 307) (.str (oS "NoHalves") 306), .mk (kH P (oS "__firstlineno__")) (.str (oS "__firstlineno__") 309) (.int 69 308), .mk (kH P (oS "__init__")) (.str (oS "__init__") 317) (.ref 115), .mk (kH P (oS "__static_attributes__")) (.str (oS "__static_attributes__") 319) (.ref 116)] 5) #[]
noncomputable def ob2_105 (P : Params) : Obj := .mk (.type "tuple") .none (.seq #[]) #[]
noncomputable def ob2_106 (P : Params) : Obj := .mk .none .none (.fields #[.int 71 0, .int 4 0, .ref 114]) #[]
noncomputable def ob2_107 (P : Params) : Obj := .mk (.type "code") .none (.fields #[.str (oS "NoHalves") 300, .str (oS "NoHalves") 301, .str (oS "/claim/cut.py") 302, .int 69 0, .int 0 0, .int 0 0, .int 0 0, .int 0 0, .ref 105, .bool false, .int 181 0, .ref 106, .none, .none, .none, .none, .int 303 0, .int 69 0, .str (oS "/claim/cut.py") 304]) #[]
noncomputable def ob2_108 (P : Params) : Obj := .mk (.type "frame") .none .plain #[.some (.ref 107), .some (.ref 3), .some (.ref 104), .none, .some (.str (oS "evenrules.errors") 253), .none, .some (.ref 0)]
noncomputable def ob2_109 (P : Params) : Obj := .mk (.type "tuple") .none (.seq #[]) #[]
noncomputable def ob2_110 (P : Params) : Obj := .mk .none .none (.fields #[]) #[]
noncomputable def ob2_111 (P : Params) : Obj := .mk (.type "tuple") .none (.seq #[.str (oS "self") 313, .str (oS "weight") 314]) #[]
noncomputable def ob2_112 (P : Params) : Obj := .mk (.type "tuple") .none (.seq #[]) #[]
noncomputable def ob2_113 (P : Params) : Obj := .mk .none .none (.func (.mk (oS "__init__") (oS "NoHalves.__init__") (defArgs (inClass (top 13) 0)) (.stmts (defBody (inClass (top 13) 0))) (defScope (inClass (top 13) 0)) 0 [] .none .none .none .none .none .none .none 0)) #[]
noncomputable def ob2_114 (P : Params) : Obj := .mk (.type "code") .none (.fields #[.str (oS "__init__") 310, .str (oS "NoHalves.__init__") 311, .str (oS "/claim/cut.py") 312, .int 71 0, .int 2 0, .int 0 0, .int 0 0, .int 3 0, .ref 109, .bool true, .int 181 0, .ref 110, .none, .ref 111, .ref 112, .ref 113, .int 315 0, .int 71 0, .str (oS "/claim/cut.py") 316]) #[]
noncomputable def ob2_115 (P : Params) : Obj := .mk (.type "function") .none (.func (.mk (oS "__init__") (oS "NoHalves.__init__") (defArgs (inClass (top 13) 0)) (.stmts (defBody (inClass (top 13) 0))) (defScope (inClass (top 13) 0)) 3 [] .none .none .none (.str (oS "evenrules.errors") 253) .none (.ref 114) .none 0)) #[]
noncomputable def ob2_116 (P : Params) : Obj := .mk (.type "tuple") .none (.seq #[.str (oS "weight") 318]) #[]
noncomputable def ob2_117 (P : Params) : Obj := .mk (.type "dict") .none (.dict #[.mk (kH P (oS "__module__")) (.str (oS "__module__") 305) (.str (oS "evenrules.errors") 253), .mk (kH P (oS "__firstlineno__")) (.str (oS "__firstlineno__") 309) (.int 69 308), .mk (kH P (oS "__init__")) (.str (oS "__init__") 317) (.ref 115), .mk (kH P (oS "__static_attributes__")) (.str (oS "__static_attributes__") 319) (.ref 116), .mk (kH P (oS "__doc__")) (.str (oS "__doc__") 320) .none] 2) #[]
noncomputable def ob2_118 (P : Params) : Obj := .mk (.type "type") .none (.cls (.mk (oS "NoHalves") [.ref 79] [.ref 118, .ref 79, .type "ValueError", .type "Exception", .type "BaseException", .type "object"] 117 (oS "NoHalves") true [] [] false .none false)) #[.some (.ref 102), .none, .some (.str (oS "NoHalves") 298), .some (.str (oS "NoHalves") 306), .some (.builtin "ValueError.__new__"), .some (.bool true)]
noncomputable def ob2_119 (P : Params) : Obj := .mk (.type "super") .none (.fields #[.ref 118, .ref 118, .ref 118]) #[]
noncomputable def ob2_120 (P : Params) : Obj := .mk (.type "builtin_function_or_method") .none (.fields #[.builtin "object.__init_subclass__", .ref 118]) #[]
noncomputable def ob2_121 (P : Params) : Obj := .mk (.type "tuple") .none (.seq #[.ref 79]) #[]
noncomputable def ob2_122 (P : Params) : Obj := .mk (.type "builtin_function_or_method") .none (.fields #[.builtin "type.__prepare__", .type "type"]) #[]
noncomputable def ob2_123 (P : Params) : Obj := .mk (.type "dict") .none (.dict #[.mk (kH P (oS "__module__")) (.str (oS "__module__") 330) (.str (oS "evenrules.errors") 253), .mk (kH P (oS "__qualname__")) (.str (oS "__qualname__") 332) (.str (oS "BadNumber") 331), .mk (kH P (oS "__firstlineno__")) (.str (oS "__firstlineno__") 334) (.int 73 333), .mk (kH P (oS "__init__")) (.str (oS "__init__") 342) (.ref 134), .mk (kH P (oS "__static_attributes__")) (.str (oS "__static_attributes__") 344) (.ref 135)] 5) #[]
noncomputable def ob2_124 (P : Params) : Obj := .mk (.type "tuple") .none (.seq #[]) #[]
noncomputable def ob2_125 (P : Params) : Obj := .mk .none .none (.fields #[.int 75 0, .int 4 0, .ref 133]) #[]
noncomputable def ob2_126 (P : Params) : Obj := .mk (.type "code") .none (.fields #[.str (oS "BadNumber") 325, .str (oS "BadNumber") 326, .str (oS "/claim/cut.py") 327, .int 73 0, .int 0 0, .int 0 0, .int 0 0, .int 0 0, .ref 124, .bool false, .int 181 0, .ref 125, .none, .none, .none, .none, .int 328 0, .int 73 0, .str (oS "/claim/cut.py") 329]) #[]
noncomputable def ob2_127 (P : Params) : Obj := .mk (.type "frame") .none .plain #[.some (.ref 126), .some (.ref 3), .some (.ref 123), .none, .some (.str (oS "evenrules.errors") 253), .none, .some (.ref 0)]
noncomputable def ob2_128 (P : Params) : Obj := .mk (.type "tuple") .none (.seq #[]) #[]
noncomputable def ob2_129 (P : Params) : Obj := .mk .none .none (.fields #[]) #[]
noncomputable def ob2_130 (P : Params) : Obj := .mk (.type "tuple") .none (.seq #[.str (oS "self") 338, .str (oS "value") 339]) #[]
noncomputable def ob2_131 (P : Params) : Obj := .mk (.type "tuple") .none (.seq #[]) #[]
noncomputable def ob2_132 (P : Params) : Obj := .mk .none .none (.func (.mk (oS "__init__") (oS "BadNumber.__init__") (defArgs (inClass (top 14) 0)) (.stmts (defBody (inClass (top 14) 0))) (defScope (inClass (top 14) 0)) 0 [] .none .none .none .none .none .none .none 0)) #[]
noncomputable def ob2_133 (P : Params) : Obj := .mk (.type "code") .none (.fields #[.str (oS "__init__") 335, .str (oS "BadNumber.__init__") 336, .str (oS "/claim/cut.py") 337, .int 75 0, .int 2 0, .int 0 0, .int 0 0, .int 3 0, .ref 128, .bool true, .int 181 0, .ref 129, .none, .ref 130, .ref 131, .ref 132, .int 340 0, .int 75 0, .str (oS "/claim/cut.py") 341]) #[]
noncomputable def ob2_134 (P : Params) : Obj := .mk (.type "function") .none (.func (.mk (oS "__init__") (oS "BadNumber.__init__") (defArgs (inClass (top 14) 0)) (.stmts (defBody (inClass (top 14) 0))) (defScope (inClass (top 14) 0)) 3 [] .none .none .none (.str (oS "evenrules.errors") 253) .none (.ref 133) .none 0)) #[]
noncomputable def ob2_135 (P : Params) : Obj := .mk (.type "tuple") .none (.seq #[.str (oS "value") 343]) #[]
noncomputable def ob2_136 (P : Params) : Obj := .mk (.type "dict") .none (.dict #[.mk (kH P (oS "__module__")) (.str (oS "__module__") 330) (.str (oS "evenrules.errors") 253), .mk (kH P (oS "__firstlineno__")) (.str (oS "__firstlineno__") 334) (.int 73 333), .mk (kH P (oS "__init__")) (.str (oS "__init__") 342) (.ref 134), .mk (kH P (oS "__static_attributes__")) (.str (oS "__static_attributes__") 344) (.ref 135), .mk (kH P (oS "__doc__")) (.str (oS "__doc__") 345) .none] 2) #[]
noncomputable def ob2_137 (P : Params) : Obj := .mk (.type "type") .none (.cls (.mk (oS "BadNumber") [.ref 79] [.ref 137, .ref 79, .type "ValueError", .type "Exception", .type "BaseException", .type "object"] 136 (oS "BadNumber") true [] [] false .none false)) #[.some (.ref 121), .none, .some (.str (oS "BadNumber") 323), .some (.str (oS "BadNumber") 331), .some (.builtin "ValueError.__new__"), .some (.bool true)]
noncomputable def ob2_138 (P : Params) : Obj := .mk (.type "super") .none (.fields #[.ref 137, .ref 137, .ref 137]) #[]
noncomputable def ob2_139 (P : Params) : Obj := .mk (.type "builtin_function_or_method") .none (.fields #[.builtin "object.__init_subclass__", .ref 137]) #[]
noncomputable def ob2_140 (P : Params) : Obj := .mk (.type "tuple") .none (.seq #[.ref 79]) #[]
noncomputable def ob2_141 (P : Params) : Obj := .mk (.type "builtin_function_or_method") .none (.fields #[.builtin "type.__prepare__", .type "type"]) #[]
noncomputable def ob2_142 (P : Params) : Obj := .mk (.type "dict") .none (.dict #[.mk (kH P (oS "__module__")) (.str (oS "__module__") 355) (.str (oS "evenrules.errors") 253), .mk (kH P (oS "__qualname__")) (.str (oS "__qualname__") 357) (.str (oS "BadKey") 356), .mk (kH P (oS "__firstlineno__")) (.str (oS "__firstlineno__") 359) (.int 77 358), .mk (kH P (oS "__init__")) (.str (oS "__init__") 367) (.ref 153), .mk (kH P (oS "__static_attributes__")) (.str (oS "__static_attributes__") 369) (.ref 154)] 5) #[]
noncomputable def ob2_143 (P : Params) : Obj := .mk (.type "tuple") .none (.seq #[]) #[]
noncomputable def ob2_144 (P : Params) : Obj := .mk .none .none (.fields #[.int 79 0, .int 4 0, .ref 152]) #[]
noncomputable def ob2_145 (P : Params) : Obj := .mk (.type "code") .none (.fields #[.str (oS "BadKey") 350, .str (oS "BadKey") 351, .str (oS "/claim/cut.py") 352, .int 77 0, .int 0 0, .int 0 0, .int 0 0, .int 0 0, .ref 143, .bool false, .int 181 0, .ref 144, .none, .none, .none, .none, .int 353 0, .int 77 0, .str (oS "/claim/cut.py") 354]) #[]
noncomputable def ob2_146 (P : Params) : Obj := .mk (.type "frame") .none .plain #[.some (.ref 145), .some (.ref 3), .some (.ref 142), .none, .some (.str (oS "evenrules.errors") 253), .none, .some (.ref 0)]
noncomputable def ob2_147 (P : Params) : Obj := .mk (.type "tuple") .none (.seq #[]) #[]
noncomputable def ob2_148 (P : Params) : Obj := .mk .none .none (.fields #[]) #[]
noncomputable def ob2_149 (P : Params) : Obj := .mk (.type "tuple") .none (.seq #[.str (oS "self") 363, .str (oS "value") 364]) #[]
noncomputable def ob2_150 (P : Params) : Obj := .mk (.type "tuple") .none (.seq #[]) #[]
noncomputable def ob2_151 (P : Params) : Obj := .mk .none .none (.func (.mk (oS "__init__") (oS "BadKey.__init__") (defArgs (inClass (top 15) 0)) (.stmts (defBody (inClass (top 15) 0))) (defScope (inClass (top 14) 0)) 0 [] .none .none .none .none .none .none .none 0)) #[]
noncomputable def ob2_152 (P : Params) : Obj := .mk (.type "code") .none (.fields #[.str (oS "__init__") 360, .str (oS "BadKey.__init__") 361, .str (oS "/claim/cut.py") 362, .int 79 0, .int 2 0, .int 0 0, .int 0 0, .int 3 0, .ref 147, .bool true, .int 181 0, .ref 148, .none, .ref 149, .ref 150, .ref 151, .int 365 0, .int 79 0, .str (oS "/claim/cut.py") 366]) #[]
noncomputable def ob2_153 (P : Params) : Obj := .mk (.type "function") .none (.func (.mk (oS "__init__") (oS "BadKey.__init__") (defArgs (inClass (top 15) 0)) (.stmts (defBody (inClass (top 15) 0))) (defScope (inClass (top 14) 0)) 3 [] .none .none .none (.str (oS "evenrules.errors") 253) .none (.ref 152) .none 0)) #[]
noncomputable def ob2_154 (P : Params) : Obj := .mk (.type "tuple") .none (.seq #[.str (oS "value") 368]) #[]
noncomputable def ob2_155 (P : Params) : Obj := .mk (.type "dict") .none (.dict #[.mk (kH P (oS "__module__")) (.str (oS "__module__") 355) (.str (oS "evenrules.errors") 253), .mk (kH P (oS "__firstlineno__")) (.str (oS "__firstlineno__") 359) (.int 77 358), .mk (kH P (oS "__init__")) (.str (oS "__init__") 367) (.ref 153), .mk (kH P (oS "__static_attributes__")) (.str (oS "__static_attributes__") 369) (.ref 154), .mk (kH P (oS "__doc__")) (.str (oS "__doc__") 370) .none] 2) #[]
noncomputable def ob2_156 (P : Params) : Obj := .mk (.type "type") .none (.cls (.mk (oS "BadKey") [.ref 79] [.ref 156, .ref 79, .type "ValueError", .type "Exception", .type "BaseException", .type "object"] 155 (oS "BadKey") true [] [] false .none false)) #[.some (.ref 140), .none, .some (.str (oS "BadKey") 348), .some (.str (oS "BadKey") 356), .some (.builtin "ValueError.__new__"), .some (.bool true)]
noncomputable def ob2_157 (P : Params) : Obj := .mk (.type "super") .none (.fields #[.ref 156, .ref 156, .ref 156]) #[]
noncomputable def ob2_158 (P : Params) : Obj := .mk (.type "builtin_function_or_method") .none (.fields #[.builtin "object.__init_subclass__", .ref 156]) #[]
noncomputable def ob2_159 (P : Params) : Obj := .mk (.type "tuple") .none (.seq #[.ref 79]) #[]
noncomputable def ob2_160 (P : Params) : Obj := .mk (.type "builtin_function_or_method") .none (.fields #[.builtin "type.__prepare__", .type "type"]) #[]
noncomputable def ob2_161 (P : Params) : Obj := .mk (.type "dict") .none (.dict #[.mk (kH P (oS "__module__")) (.str (oS "__module__") 380) (.str (oS "evenrules.errors") 253), .mk (kH P (oS "__qualname__")) (.str (oS "__qualname__") 382) (.str (oS "NoKey") 381), .mk (kH P (oS "__firstlineno__")) (.str (oS "__firstlineno__") 384) (.int 81 383), .mk (kH P (oS "__init__")) (.str (oS "__init__") 392) (.ref 172), .mk (kH P (oS "__static_attributes__")) (.str (oS "__static_attributes__") 394) (.ref 173)] 5) #[]
noncomputable def ob2_162 (P : Params) : Obj := .mk (.type "tuple") .none (.seq #[]) #[]
noncomputable def ob2_163 (P : Params) : Obj := .mk .none .none (.fields #[.int 83 0, .int 4 0, .ref 171]) #[]
noncomputable def ob2_164 (P : Params) : Obj := .mk (.type "code") .none (.fields #[.str (oS "NoKey") 375, .str (oS "NoKey") 376, .str (oS "/claim/cut.py") 377, .int 81 0, .int 0 0, .int 0 0, .int 0 0, .int 0 0, .ref 162, .bool false, .int 181 0, .ref 163, .none, .none, .none, .none, .int 378 0, .int 81 0, .str (oS "/claim/cut.py") 379]) #[]
noncomputable def ob2_165 (P : Params) : Obj := .mk (.type "frame") .none .plain #[.some (.ref 164), .some (.ref 3), .some (.ref 161), .none, .some (.str (oS "evenrules.errors") 253), .none, .some (.ref 0)]
noncomputable def ob2_166 (P : Params) : Obj := .mk (.type "tuple") .none (.seq #[]) #[]
noncomputable def ob2_167 (P : Params) : Obj := .mk .none .none (.fields #[]) #[]
noncomputable def ob2_168 (P : Params) : Obj := .mk (.type "tuple") .none (.seq #[.str (oS "self") 388, .str (oS "key") 389]) #[]
noncomputable def ob2_169 (P : Params) : Obj := .mk (.type "tuple") .none (.seq #[]) #[]
noncomputable def ob2_170 (P : Params) : Obj := .mk .none .none (.func (.mk (oS "__init__") (oS "NoKey.__init__") (defArgs (inClass (top 16) 0)) (.stmts (defBody (inClass (top 16) 0))) (defScope (inClass (top 16) 0)) 0 [] .none .none .none .none .none .none .none 0)) #[]
noncomputable def ob2_171 (P : Params) : Obj := .mk (.type "code") .none (.fields #[.str (oS "__init__") 385, .str (oS "NoKey.__init__") 386, .str (oS "/claim/cut.py") 387, .int 83 0, .int 2 0, .int 0 0, .int 0 0, .int 3 0, .ref 166, .bool true, .int 181 0, .ref 167, .none, .ref 168, .ref 169, .ref 170, .int 390 0, .int 83 0, .str (oS "/claim/cut.py") 391]) #[]
noncomputable def ob2_172 (P : Params) : Obj := .mk (.type "function") .none (.func (.mk (oS "__init__") (oS "NoKey.__init__") (defArgs (inClass (top 16) 0)) (.stmts (defBody (inClass (top 16) 0))) (defScope (inClass (top 16) 0)) 3 [] .none .none .none (.str (oS "evenrules.errors") 253) .none (.ref 171) .none 0)) #[]
noncomputable def ob2_173 (P : Params) : Obj := .mk (.type "tuple") .none (.seq #[.str (oS "key") 393]) #[]
noncomputable def ob2_174 (P : Params) : Obj := .mk (.type "dict") .none (.dict #[.mk (kH P (oS "__module__")) (.str (oS "__module__") 380) (.str (oS "evenrules.errors") 253), .mk (kH P (oS "__firstlineno__")) (.str (oS "__firstlineno__") 384) (.int 81 383), .mk (kH P (oS "__init__")) (.str (oS "__init__") 392) (.ref 172), .mk (kH P (oS "__static_attributes__")) (.str (oS "__static_attributes__") 394) (.ref 173), .mk (kH P (oS "__doc__")) (.str (oS "__doc__") 395) .none] 2) #[]
noncomputable def ob2_175 (P : Params) : Obj := .mk (.type "type") .none (.cls (.mk (oS "NoKey") [.ref 79] [.ref 175, .ref 79, .type "ValueError", .type "Exception", .type "BaseException", .type "object"] 174 (oS "NoKey") true [] [] false .none false)) #[.some (.ref 159), .none, .some (.str (oS "NoKey") 373), .some (.str (oS "NoKey") 381), .some (.builtin "ValueError.__new__"), .some (.bool true)]
noncomputable def ob2_176 (P : Params) : Obj := .mk (.type "super") .none (.fields #[.ref 175, .ref 175, .ref 175]) #[]
noncomputable def ob2_177 (P : Params) : Obj := .mk (.type "builtin_function_or_method") .none (.fields #[.builtin "object.__init_subclass__", .ref 175]) #[]
noncomputable def ob2_178 (P : Params) : Obj := .mk (.type "tuple") .none (.seq #[.ref 79]) #[]
noncomputable def ob2_179 (P : Params) : Obj := .mk (.type "builtin_function_or_method") .none (.fields #[.builtin "type.__prepare__", .type "type"]) #[]
noncomputable def ob2_180 (P : Params) : Obj := .mk (.type "dict") .none (.dict #[.mk (kH P (oS "__module__")) (.str (oS "__module__") 405) (.str (oS "evenrules.errors") 253), .mk (kH P (oS "__qualname__")) (.str (oS "__qualname__") 407) (.str (oS "Taken") 406), .mk (kH P (oS "__firstlineno__")) (.str (oS "__firstlineno__") 409) (.int 85 408), .mk (kH P (oS "__init__")) (.str (oS "__init__") 417) (.ref 191), .mk (kH P (oS "__static_attributes__")) (.str (oS "__static_attributes__") 419) (.ref 192)] 5) #[]
noncomputable def ob2_181 (P : Params) : Obj := .mk (.type "tuple") .none (.seq #[]) #[]
noncomputable def ob2_182 (P : Params) : Obj := .mk .none .none (.fields #[.int 87 0, .int 4 0, .ref 190]) #[]
noncomputable def ob2_183 (P : Params) : Obj := .mk (.type "code") .none (.fields #[.str (oS "Taken") 400, .str (oS "Taken") 401, .str (oS "/claim/cut.py") 402, .int 85 0, .int 0 0, .int 0 0, .int 0 0, .int 0 0, .ref 181, .bool false, .int 181 0, .ref 182, .none, .none, .none, .none, .int 403 0, .int 85 0, .str (oS "/claim/cut.py") 404]) #[]
noncomputable def ob2_184 (P : Params) : Obj := .mk (.type "frame") .none .plain #[.some (.ref 183), .some (.ref 3), .some (.ref 180), .none, .some (.str (oS "evenrules.errors") 253), .none, .some (.ref 0)]
noncomputable def ob2_185 (P : Params) : Obj := .mk (.type "tuple") .none (.seq #[]) #[]
noncomputable def ob2_186 (P : Params) : Obj := .mk .none .none (.fields #[]) #[]
noncomputable def ob2_187 (P : Params) : Obj := .mk (.type "tuple") .none (.seq #[.str (oS "self") 413, .str (oS "key") 414]) #[]
noncomputable def ob2_188 (P : Params) : Obj := .mk (.type "tuple") .none (.seq #[]) #[]
noncomputable def ob2_189 (P : Params) : Obj := .mk .none .none (.func (.mk (oS "__init__") (oS "Taken.__init__") (defArgs (inClass (top 17) 0)) (.stmts (defBody (inClass (top 17) 0))) (defScope (inClass (top 16) 0)) 0 [] .none .none .none .none .none .none .none 0)) #[]
noncomputable def ob2_190 (P : Params) : Obj := .mk (.type "code") .none (.fields #[.str (oS "__init__") 410, .str (oS "Taken.__init__") 411, .str (oS "/claim/cut.py") 412, .int 87 0, .int 2 0, .int 0 0, .int 0 0, .int 3 0, .ref 185, .bool true, .int 181 0, .ref 186, .none, .ref 187, .ref 188, .ref 189, .int 415 0, .int 87 0, .str (oS "/claim/cut.py") 416]) #[]
noncomputable def ob2_191 (P : Params) : Obj := .mk (.type "function") .none (.func (.mk (oS "__init__") (oS "Taken.__init__") (defArgs (inClass (top 17) 0)) (.stmts (defBody (inClass (top 17) 0))) (defScope (inClass (top 16) 0)) 3 [] .none .none .none (.str (oS "evenrules.errors") 253) .none (.ref 190) .none 0)) #[]
noncomputable def ob2_192 (P : Params) : Obj := .mk (.type "tuple") .none (.seq #[.str (oS "key") 418]) #[]
noncomputable def ob2_193 (P : Params) : Obj := .mk (.type "dict") .none (.dict #[.mk (kH P (oS "__module__")) (.str (oS "__module__") 405) (.str (oS "evenrules.errors") 253), .mk (kH P (oS "__firstlineno__")) (.str (oS "__firstlineno__") 409) (.int 85 408), .mk (kH P (oS "__init__")) (.str (oS "__init__") 417) (.ref 191), .mk (kH P (oS "__static_attributes__")) (.str (oS "__static_attributes__") 419) (.ref 192), .mk (kH P (oS "__doc__")) (.str (oS "__doc__") 420) .none] 2) #[]
noncomputable def ob2_194 (P : Params) : Obj := .mk (.type "type") .none (.cls (.mk (oS "Taken") [.ref 79] [.ref 194, .ref 79, .type "ValueError", .type "Exception", .type "BaseException", .type "object"] 193 (oS "Taken") true [] [] false .none false)) #[.some (.ref 178), .none, .some (.str (oS "Taken") 398), .some (.str (oS "Taken") 406), .some (.builtin "ValueError.__new__"), .some (.bool true)]
noncomputable def ob2_195 (P : Params) : Obj := .mk (.type "super") .none (.fields #[.ref 194, .ref 194, .ref 194]) #[]
noncomputable def ob2_196 (P : Params) : Obj := .mk (.type "builtin_function_or_method") .none (.fields #[.builtin "object.__init_subclass__", .ref 194]) #[]
noncomputable def ob2_197 (P : Params) : Obj := .mk (.type "tuple") .none (.seq #[.ref 79]) #[]
noncomputable def ob2_198 (P : Params) : Obj := .mk (.type "builtin_function_or_method") .none (.fields #[.builtin "type.__prepare__", .type "type"]) #[]
noncomputable def ob2_199 (P : Params) : Obj := .mk (.type "dict") .none (.dict #[.mk (kH P (oS "__module__")) (.str (oS "__module__") 430) (.str (oS "evenrules.errors") 253), .mk (kH P (oS "__qualname__")) (.str (oS "__qualname__") 432) (.str (oS "Overlap") 431), .mk (kH P (oS "__firstlineno__")) (.str (oS "__firstlineno__") 434) (.int 89 433), .mk (kH P (oS "__init__")) (.str (oS "__init__") 442) (.ref 210), .mk (kH P (oS "__static_attributes__")) (.str (oS "__static_attributes__") 444) (.ref 211)] 5) #[]
noncomputable def ob2_200 (P : Params) : Obj := .mk (.type "tuple") .none (.seq #[]) #[]
noncomputable def ob2_201 (P : Params) : Obj := .mk .none .none (.fields #[.int 91 0, .int 4 0, .ref 209]) #[]
noncomputable def ob2_202 (P : Params) : Obj := .mk (.type "code") .none (.fields #[.str (oS "Overlap") 425, .str (oS "Overlap") 426, .str (oS "/claim/cut.py") 427, .int 89 0, .int 0 0, .int 0 0, .int 0 0, .int 0 0, .ref 200, .bool false, .int 181 0, .ref 201, .none, .none, .none, .none, .int 428 0, .int 89 0, .str (oS "/claim/cut.py") 429]) #[]
noncomputable def ob2_203 (P : Params) : Obj := .mk (.type "frame") .none .plain #[.some (.ref 202), .some (.ref 3), .some (.ref 199), .none, .some (.str (oS "evenrules.errors") 253), .none, .some (.ref 0)]
noncomputable def ob2_204 (P : Params) : Obj := .mk (.type "tuple") .none (.seq #[]) #[]
noncomputable def ob2_205 (P : Params) : Obj := .mk .none .none (.fields #[]) #[]
noncomputable def ob2_206 (P : Params) : Obj := .mk (.type "tuple") .none (.seq #[.str (oS "self") 438, .str (oS "key") 439]) #[]
noncomputable def ob2_207 (P : Params) : Obj := .mk (.type "tuple") .none (.seq #[]) #[]
noncomputable def ob2_208 (P : Params) : Obj := .mk .none .none (.func (.mk (oS "__init__") (oS "Overlap.__init__") (defArgs (inClass (top 18) 0)) (.stmts (defBody (inClass (top 18) 0))) (defScope (inClass (top 16) 0)) 0 [] .none .none .none .none .none .none .none 0)) #[]
noncomputable def ob2_209 (P : Params) : Obj := .mk (.type "code") .none (.fields #[.str (oS "__init__") 435, .str (oS "Overlap.__init__") 436, .str (oS "/claim/cut.py") 437, .int 91 0, .int 2 0, .int 0 0, .int 0 0, .int 3 0, .ref 204, .bool true, .int 181 0, .ref 205, .none, .ref 206, .ref 207, .ref 208, .int 440 0, .int 91 0, .str (oS "/claim/cut.py") 441]) #[]
noncomputable def ob2_210 (P : Params) : Obj := .mk (.type "function") .none (.func (.mk (oS "__init__") (oS "Overlap.__init__") (defArgs (inClass (top 18) 0)) (.stmts (defBody (inClass (top 18) 0))) (defScope (inClass (top 16) 0)) 3 [] .none .none .none (.str (oS "evenrules.errors") 253) .none (.ref 209) .none 0)) #[]
noncomputable def ob2_211 (P : Params) : Obj := .mk (.type "tuple") .none (.seq #[.str (oS "key") 443]) #[]
noncomputable def ob2_212 (P : Params) : Obj := .mk (.type "dict") .none (.dict #[.mk (kH P (oS "__module__")) (.str (oS "__module__") 430) (.str (oS "evenrules.errors") 253), .mk (kH P (oS "__firstlineno__")) (.str (oS "__firstlineno__") 434) (.int 89 433), .mk (kH P (oS "__init__")) (.str (oS "__init__") 442) (.ref 210), .mk (kH P (oS "__static_attributes__")) (.str (oS "__static_attributes__") 444) (.ref 211), .mk (kH P (oS "__doc__")) (.str (oS "__doc__") 445) .none] 2) #[]
noncomputable def ob2_213 (P : Params) : Obj := .mk (.type "type") .none (.cls (.mk (oS "Overlap") [.ref 79] [.ref 213, .ref 79, .type "ValueError", .type "Exception", .type "BaseException", .type "object"] 212 (oS "Overlap") true [] [] false .none false)) #[.some (.ref 197), .none, .some (.str (oS "Overlap") 423), .some (.str (oS "Overlap") 431), .some (.builtin "ValueError.__new__"), .some (.bool true)]
noncomputable def ob2_214 (P : Params) : Obj := .mk (.type "super") .none (.fields #[.ref 213, .ref 213, .ref 213]) #[]
noncomputable def ob2_215 (P : Params) : Obj := .mk (.type "builtin_function_or_method") .none (.fields #[.builtin "object.__init_subclass__", .ref 213]) #[]
noncomputable def ob2_216 (P : Params) : Obj := .mk (.type "tuple") .none (.seq #[.ref 79]) #[]
noncomputable def ob2_217 (P : Params) : Obj := .mk (.type "builtin_function_or_method") .none (.fields #[.builtin "type.__prepare__", .type "type"]) #[]
noncomputable def ob2_218 (P : Params) : Obj := .mk (.type "dict") .none (.dict #[.mk (kH P (oS "__module__")) (.str (oS "__module__") 455) (.str (oS "evenrules.errors") 253), .mk (kH P (oS "__qualname__")) (.str (oS "__qualname__") 457) (.str (oS "Stuck") 456), .mk (kH P (oS "__firstlineno__")) (.str (oS "__firstlineno__") 459) (.int 93 458), .mk (kH P (oS "__init__")) (.str (oS "__init__") 467) (.ref 229), .mk (kH P (oS "__static_attributes__")) (.str (oS "__static_attributes__") 469) (.ref 230)] 5) #[]
noncomputable def ob2_219 (P : Params) : Obj := .mk (.type "tuple") .none (.seq #[]) #[]
noncomputable def ob2_220 (P : Params) : Obj := .mk .none .none (.fields #[.int 95 0, .int 4 0, .ref 228]) #[]
noncomputable def ob2_221 (P : Params) : Obj := .mk (.type "code") .none (.fields #[.str (oS "Stuck") 450, .str (oS "Stuck") 451, .str (oS "/claim/cut.py") 452, .int 93 0, .int 0 0, .int 0 0, .int 0 0, .int 0 0, .ref 219, .bool false, .int 181 0, .ref 220, .none, .none, .none, .none, .int 453 0, .int 93 0, .str (oS "/claim/cut.py") 454]) #[]
noncomputable def ob2_222 (P : Params) : Obj := .mk (.type "frame") .none .plain #[.some (.ref 221), .some (.ref 3), .some (.ref 218), .none, .some (.str (oS "evenrules.errors") 253), .none, .some (.ref 0)]
noncomputable def ob2_223 (P : Params) : Obj := .mk (.type "tuple") .none (.seq #[]) #[]
noncomputable def ob2_224 (P : Params) : Obj := .mk .none .none (.fields #[]) #[]
noncomputable def ob2_225 (P : Params) : Obj := .mk (.type "tuple") .none (.seq #[.str (oS "self") 463, .str (oS "key") 464]) #[]
noncomputable def ob2_226 (P : Params) : Obj := .mk (.type "tuple") .none (.seq #[]) #[]
noncomputable def ob2_227 (P : Params) : Obj := .mk .none .none (.func (.mk (oS "__init__") (oS "Stuck.__init__") (defArgs (inClass (top 19) 0)) (.stmts (defBody (inClass (top 19) 0))) (defScope (inClass (top 16) 0)) 0 [] .none .none .none .none .none .none .none 0)) #[]
noncomputable def ob2_228 (P : Params) : Obj := .mk (.type "code") .none (.fields #[.str (oS "__init__") 460, .str (oS "Stuck.__init__") 461, .str (oS "/claim/cut.py") 462, .int 95 0, .int 2 0, .int 0 0, .int 0 0, .int 3 0, .ref 223, .bool true, .int 181 0, .ref 224, .none, .ref 225, .ref 226, .ref 227, .int 465 0, .int 95 0, .str (oS "/claim/cut.py") 466]) #[]
noncomputable def ob2_229 (P : Params) : Obj := .mk (.type "function") .none (.func (.mk (oS "__init__") (oS "Stuck.__init__") (defArgs (inClass (top 19) 0)) (.stmts (defBody (inClass (top 19) 0))) (defScope (inClass (top 16) 0)) 3 [] .none .none .none (.str (oS "evenrules.errors") 253) .none (.ref 228) .none 0)) #[]
noncomputable def ob2_230 (P : Params) : Obj := .mk (.type "tuple") .none (.seq #[.str (oS "key") 468]) #[]
noncomputable def ob2_231 (P : Params) : Obj := .mk (.type "dict") .none (.dict #[.mk (kH P (oS "__module__")) (.str (oS "__module__") 455) (.str (oS "evenrules.errors") 253), .mk (kH P (oS "__firstlineno__")) (.str (oS "__firstlineno__") 459) (.int 93 458), .mk (kH P (oS "__init__")) (.str (oS "__init__") 467) (.ref 229), .mk (kH P (oS "__static_attributes__")) (.str (oS "__static_attributes__") 469) (.ref 230), .mk (kH P (oS "__doc__")) (.str (oS "__doc__") 470) .none] 2) #[]
noncomputable def ob2_232 (P : Params) : Obj := .mk (.type "type") .none (.cls (.mk (oS "Stuck") [.ref 79] [.ref 232, .ref 79, .type "ValueError", .type "Exception", .type "BaseException", .type "object"] 231 (oS "Stuck") true [] [] false .none false)) #[.some (.ref 216), .none, .some (.str (oS "Stuck") 448), .some (.str (oS "Stuck") 456), .some (.builtin "ValueError.__new__"), .some (.bool true)]
noncomputable def ob2_233 (P : Params) : Obj := .mk (.type "super") .none (.fields #[.ref 232, .ref 232, .ref 232]) #[]
noncomputable def ob2_234 (P : Params) : Obj := .mk (.type "builtin_function_or_method") .none (.fields #[.builtin "object.__init_subclass__", .ref 232]) #[]
noncomputable def ob2_235 (P : Params) : Obj := .mk (.type "tuple") .none (.seq #[.ref 79]) #[]
noncomputable def ob2_236 (P : Params) : Obj := .mk (.type "builtin_function_or_method") .none (.fields #[.builtin "type.__prepare__", .type "type"]) #[]
noncomputable def ob2_237 (P : Params) : Obj := .mk (.type "dict") .none (.dict #[.mk (kH P (oS "__module__")) (.str (oS "__module__") 480) (.str (oS "evenrules.errors") 253), .mk (kH P (oS "__qualname__")) (.str (oS "__qualname__") 482) (.str (oS "BadOther") 481), .mk (kH P (oS "__firstlineno__")) (.str (oS "__firstlineno__") 484) (.int 97 483), .mk (kH P (oS "__init__")) (.str (oS "__init__") 492) (.ref 248), .mk (kH P (oS "__static_attributes__")) (.str (oS "__static_attributes__") 494) (.ref 249)] 5) #[]
noncomputable def ob2_238 (P : Params) : Obj := .mk (.type "tuple") .none (.seq #[]) #[]
noncomputable def ob2_239 (P : Params) : Obj := .mk .none .none (.fields #[.int 99 0, .int 4 0, .ref 247]) #[]
noncomputable def ob2_240 (P : Params) : Obj := .mk (.type "code") .none (.fields #[.str (oS "BadOther") 475, .str (oS "BadOther") 476, .str (oS "/claim/cut.py") 477, .int 97 0, .int 0 0, .int 0 0, .int 0 0, .int 0 0, .ref 238, .bool false, .int 181 0, .ref 239, .none, .none, .none, .none, .int 478 0, .int 97 0, .str (oS "/claim/cut.py") 479]) #[]
noncomputable def ob2_241 (P : Params) : Obj := .mk (.type "frame") .none .plain #[.some (.ref 240), .some (.ref 3), .some (.ref 237), .none, .some (.str (oS "evenrules.errors") 253), .none, .some (.ref 0)]
noncomputable def ob2_242 (P : Params) : Obj := .mk (.type "tuple") .none (.seq #[]) #[]
noncomputable def ob2_243 (P : Params) : Obj := .mk .none .none (.fields #[]) #[]
noncomputable def ob2_244 (P : Params) : Obj := .mk (.type "tuple") .none (.seq #[.str (oS "self") 488, .str (oS "part") 489]) #[]
noncomputable def ob2_245 (P : Params) : Obj := .mk (.type "tuple") .none (.seq #[]) #[]
noncomputable def ob2_246 (P : Params) : Obj := .mk .none .none (.func (.mk (oS "__init__") (oS "BadOther.__init__") (defArgs (inClass (top 20) 0)) (.stmts (defBody (inClass (top 20) 0))) (defScope (inClass (top 12) 0)) 0 [] .none .none .none .none .none .none .none 0)) #[]
noncomputable def ob2_247 (P : Params) : Obj := .mk (.type "code") .none (.fields #[.str (oS "__init__") 485, .str (oS "BadOther.__init__") 486, .str (oS "/claim/cut.py") 487, .int 99 0, .int 2 0, .int 0 0, .int 0 0, .int 3 0, .ref 242, .bool true, .int 181 0, .ref 243, .none, .ref 244, .ref 245, .ref 246, .int 490 0, .int 99 0, .str (oS "/claim/cut.py") 491]) #[]
noncomputable def ob2_248 (P : Params) : Obj := .mk (.type "function") .none (.func (.mk (oS "__init__") (oS "BadOther.__init__") (defArgs (inClass (top 20) 0)) (.stmts (defBody (inClass (top 20) 0))) (defScope (inClass (top 12) 0)) 3 [] .none .none .none (.str (oS "evenrules.errors") 253) .none (.ref 247) .none 0)) #[]
noncomputable def ob2_249 (P : Params) : Obj := .mk (.type "tuple") .none (.seq #[.str (oS "part") 493]) #[]
noncomputable def ob2_250 (P : Params) : Obj := .mk (.type "dict") .none (.dict #[.mk (kH P (oS "__module__")) (.str (oS "__module__") 480) (.str (oS "evenrules.errors") 253), .mk (kH P (oS "__firstlineno__")) (.str (oS "__firstlineno__") 484) (.int 97 483), .mk (kH P (oS "__init__")) (.str (oS "__init__") 492) (.ref 248), .mk (kH P (oS "__static_attributes__")) (.str (oS "__static_attributes__") 494) (.ref 249), .mk (kH P (oS "__doc__")) (.str (oS "__doc__") 495) .none] 2) #[]
noncomputable def ob2_251 (P : Params) : Obj := .mk (.type "type") .none (.cls (.mk (oS "BadOther") [.ref 79] [.ref 251, .ref 79, .type "ValueError", .type "Exception", .type "BaseException", .type "object"] 250 (oS "BadOther") true [] [] false .none false)) #[.some (.ref 235), .none, .some (.str (oS "BadOther") 473), .some (.str (oS "BadOther") 481), .some (.builtin "ValueError.__new__"), .some (.bool true)]
noncomputable def ob2_252 (P : Params) : Obj := .mk (.type "super") .none (.fields #[.ref 251, .ref 251, .ref 251]) #[]
noncomputable def ob2_253 (P : Params) : Obj := .mk (.type "builtin_function_or_method") .none (.fields #[.builtin "object.__init_subclass__", .ref 251]) #[]
noncomputable def ob2_254 (P : Params) : Obj := .mk (.type "tuple") .none (.seq #[.ref 79]) #[]
noncomputable def ob2_255 (P : Params) : Obj := .mk (.type "builtin_function_or_method") .none (.fields #[.builtin "type.__prepare__", .type "type"]) #[]
noncomputable def ob2_256 (P : Params) : Obj := .mk (.type "dict") .none (.dict #[.mk (kH P (oS "__module__")) (.str (oS "__module__") 505) (.str (oS "evenrules.errors") 253), .mk (kH P (oS "__qualname__")) (.str (oS "__qualname__") 507) (.str (oS "BadText") 506), .mk (kH P (oS "__firstlineno__")) (.str (oS "__firstlineno__") 509) (.int 101 508), .mk (kH P (oS "__init__")) (.str (oS "__init__") 518) (.ref 267), .mk (kH P (oS "__static_attributes__")) (.str (oS "__static_attributes__") 521) (.ref 268)] 5) #[]
noncomputable def ob2_257 (P : Params) : Obj := .mk (.type "tuple") .none (.seq #[]) #[]
noncomputable def ob2_258 (P : Params) : Obj := .mk .none .none (.fields #[.int 103 0, .int 4 0, .ref 266]) #[]
noncomputable def ob2_259 (P : Params) : Obj := .mk (.type "code") .none (.fields #[.str (oS "BadText") 500, .str (oS "BadText") 501, .str (oS "/claim/cut.py") 502, .int 101 0, .int 0 0, .int 0 0, .int 0 0, .int 0 0, .ref 257, .bool false, .int 181 0, .ref 258, .none, .none, .none, .none, .int 503 0, .int 101 0, .str (oS "/claim/cut.py") 504]) #[]
noncomputable def ob2_260 (P : Params) : Obj := .mk (.type "frame") .none .plain #[.some (.ref 259), .some (.ref 3), .some (.ref 256), .none, .some (.str (oS "evenrules.errors") 253), .none, .some (.ref 0)]
noncomputable def ob2_261 (P : Params) : Obj := .mk (.type "tuple") .none (.seq #[]) #[]
noncomputable def ob2_262 (P : Params) : Obj := .mk .none .none (.fields #[]) #[]
noncomputable def ob2_263 (P : Params) : Obj := .mk (.type "tuple") .none (.seq #[.str (oS "self") 513, .str (oS "line") 514, .str (oS "word") 515]) #[]
noncomputable def ob2_264 (P : Params) : Obj := .mk (.type "tuple") .none (.seq #[]) #[]
noncomputable def ob2_265 (P : Params) : Obj := .mk .none .none (.func (.mk (oS "__init__") (oS "BadText.__init__") (defArgs (inClass (top 21) 0)) (.stmts (defBody (inClass (top 21) 0))) (defScope (inClass (top 21) 0)) 0 [] .none .none .none .none .none .none .none 0)) #[]
noncomputable def ob2_266 (P : Params) : Obj := .mk (.type "code") .none (.fields #[.str (oS "__init__") 510, .str (oS "BadText.__init__") 511, .str (oS "/claim/cut.py") 512, .int 103 0, .int 3 0, .int 0 0, .int 0 0, .int 3 0, .ref 261, .bool true, .int 181 0, .ref 262, .none, .ref 263, .ref 264, .ref 265, .int 516 0, .int 103 0, .str (oS "/claim/cut.py") 517]) #[]
noncomputable def ob2_267 (P : Params) : Obj := .mk (.type "function") .none (.func (.mk (oS "__init__") (oS "BadText.__init__") (defArgs (inClass (top 21) 0)) (.stmts (defBody (inClass (top 21) 0))) (defScope (inClass (top 21) 0)) 3 [] .none .none .none (.str (oS "evenrules.errors") 253) .none (.ref 266) .none 0)) #[]
noncomputable def ob2_268 (P : Params) : Obj := .mk (.type "tuple") .none (.seq #[.str (oS "line") 519, .str (oS "word") 520]) #[]
noncomputable def ob2_269 (P : Params) : Obj := .mk (.type "dict") .none (.dict #[.mk (kH P (oS "__module__")) (.str (oS "__module__") 505) (.str (oS "evenrules.errors") 253), .mk (kH P (oS "__firstlineno__")) (.str (oS "__firstlineno__") 509) (.int 101 508), .mk (kH P (oS "__init__")) (.str (oS "__init__") 518) (.ref 267), .mk (kH P (oS "__static_attributes__")) (.str (oS "__static_attributes__") 521) (.ref 268), .mk (kH P (oS "__doc__")) (.str (oS "__doc__") 522) .none] 2) #[]
noncomputable def ob2_270 (P : Params) : Obj := .mk (.type "type") .none (.cls (.mk (oS "BadText") [.ref 79] [.ref 270, .ref 79, .type "ValueError", .type "Exception", .type "BaseException", .type "object"] 269 (oS "BadText") true [] [] false .none false)) #[.some (.ref 254), .none, .some (.str (oS "BadText") 498), .some (.str (oS "BadText") 506), .some (.builtin "ValueError.__new__"), .some (.bool true)]
noncomputable def ob2_271 (P : Params) : Obj := .mk (.type "super") .none (.fields #[.ref 270, .ref 270, .ref 270]) #[]
noncomputable def ob2_272 (P : Params) : Obj := .mk (.type "builtin_function_or_method") .none (.fields #[.builtin "object.__init_subclass__", .ref 270]) #[]
noncomputable def ob2_273 (P : Params) : Obj := .mk (.type "tuple") .none (.seq #[.ref 79]) #[]
noncomputable def ob2_274 (P : Params) : Obj := .mk (.type "builtin_function_or_method") .none (.fields #[.builtin "type.__prepare__", .type "type"]) #[]
noncomputable def ob2_275 (P : Params) : Obj := .mk (.type "dict") .none (.dict #[.mk (kH P (oS "__module__")) (.str (oS "__module__") 532) (.str (oS "evenrules.errors") 253), .mk (kH P (oS "__qualname__")) (.str (oS "__qualname__") 534) (.str (oS "Nothing") 533), .mk (kH P (oS "__firstlineno__")) (.str (oS "__firstlineno__") 536) (.int 106 535), .mk (kH P (oS "__static_attributes__")) (.str (oS "__static_attributes__") 537) (.ref 280)] 4) #[]
noncomputable def ob2_276 (P : Params) : Obj := .mk (.type "tuple") .none (.seq #[]) #[]
noncomputable def ob2_277 (P : Params) : Obj := .mk .none .none (.fields #[]) #[]
noncomputable def ob2_278 (P : Params) : Obj := .mk (.type "code") .none (.fields #[.str (oS "Nothing") 527, .str (oS "Nothing") 528, .str (oS "/claim/cut.py") 529, .int 106 0, .int 0 0, .int 0 0, .int 0 0, .int 0 0, .ref 276, .bool false, .int 181 0, .ref 277, .none, .none, .none, .none, .int 530 0, .int 106 0, .str (oS "/claim/cut.py") 531]) #[]
noncomputable def ob2_279 (P : Params) : Obj := .mk (.type "frame") .none .plain #[.some (.ref 278), .some (.ref 3), .some (.ref 275), .none, .some (.str (oS "evenrules.errors") 253), .none, .some (.ref 0)]
noncomputable def ob2_280 (P : Params) : Obj := .mk (.type "tuple") .none (.seq #[]) #[]
noncomputable def ob2_281 (P : Params) : Obj := .mk (.type "dict") .none (.dict #[.mk (kH P (oS "__module__")) (.str (oS "__module__") 532) (.str (oS "evenrules.errors") 253), .mk (kH P (oS "__firstlineno__")) (.str (oS "__firstlineno__") 536) (.int 106 535), .mk (kH P (oS "__static_attributes__")) (.str (oS "__static_attributes__") 537) (.ref 280), .mk (kH P (oS "__doc__")) (.str (oS "__doc__") 538) .none] 2) #[]
noncomputable def ob2_282 (P : Params) : Obj := .mk (.type "type") .none (.cls (.mk (oS "Nothing") [.ref 79] [.ref 282, .ref 79, .type "ValueError", .type "Exception", .type "BaseException", .type "object"] 281 (oS "Nothing") true [] [] false .none false)) #[.some (.ref 273), .none, .some (.str (oS "Nothing") 525), .some (.str (oS "Nothing") 533), .some (.builtin "ValueError.__new__"), .some (.bool true)]
noncomputable def ob2_283 (P : Params) : Obj := .mk (.type "super") .none (.fields #[.ref 282, .ref 282, .ref 282]) #[]
noncomputable def ob2_284 (P : Params) : Obj := .mk (.type "builtin_function_or_method") .none (.fields #[.builtin "object.__init_subclass__", .ref 282]) #[]
noncomputable def ob2_285 (P : Params) : Obj := .mk (.type "tuple") .none (.seq #[.ref 79]) #[]
noncomputable def ob2_286 (P : Params) : Obj := .mk (.type "builtin_function_or_method") .none (.fields #[.builtin "type.__prepare__", .type "type"]) #[]
noncomputable def ob2_287 (P : Params) : Obj := .mk (.type "dict") .none (.dict #[.mk (kH P (oS "__module__")) (.str (oS "__module__") 548) (.str (oS "evenrules.errors") 253), .mk (kH P (oS "__qualname__")) (.str (oS "__qualname__") 550) (.str (oS "TooMany") 549), .mk (kH P (oS "__firstlineno__")) (.str (oS "__firstlineno__") 552) (.int 108 551), .mk (kH P (oS "__init__")) (.str (oS "__init__") 561) (.ref 298), .mk (kH P (oS "__static_attributes__")) (.str (oS "__static_attributes__") 564) (.ref 299)] 5) #[]
noncomputable def ob2_288 (P : Params) : Obj := .mk (.type "tuple") .none (.seq #[]) #[]
noncomputable def ob2_289 (P : Params) : Obj := .mk .none .none (.fields #[.int 110 0, .int 4 0, .ref 297]) #[]
noncomputable def ob2_290 (P : Params) : Obj := .mk (.type "code") .none (.fields #[.str (oS "TooMany") 543, .str (oS "TooMany") 544, .str (oS "/claim/cut.py") 545, .int 108 0, .int 0 0, .int 0 0, .int 0 0, .int 0 0, .ref 288, .bool false, .int 181 0, .ref 289, .none, .none, .none, .none, .int 546 0, .int 108 0, .str (oS "/claim/cut.py") 547]) #[]
noncomputable def ob2_291 (P : Params) : Obj := .mk (.type "frame") .none .plain #[.some (.ref 290), .some (.ref 3), .some (.ref 287), .none, .some (.str (oS "evenrules.errors") 253), .none, .some (.ref 0)]
noncomputable def ob2_292 (P : Params) : Obj := .mk (.type "tuple") .none (.seq #[]) #[]
noncomputable def ob2_293 (P : Params) : Obj := .mk .none .none (.fields #[]) #[]
noncomputable def ob2_294 (P : Params) : Obj := .mk (.type "tuple") .none (.seq #[.str (oS "self") 556, .str (oS "what") 557, .str (oS "most") 558]) #[]
noncomputable def ob2_295 (P : Params) : Obj := .mk (.type "tuple") .none (.seq #[]) #[]
noncomputable def ob2_296 (P : Params) : Obj := .mk .none .none (.func (.mk (oS "__init__") (oS "TooMany.__init__") (defArgs (inClass (top 23) 0)) (.stmts (defBody (inClass (top 23) 0))) (defScope (inClass (top 23) 0)) 0 [] .none .none .none .none .none .none .none 0)) #[]
noncomputable def ob2_297 (P : Params) : Obj := .mk (.type "code") .none (.fields #[.str (oS "__init__") 553, .str (oS "TooMany.__init__") 554, .str (oS "/claim/cut.py") 555, .int 110 0, .int 3 0, .int 0 0, .int 0 0, .int 3 0, .ref 292, .bool true, .int 181 0, .ref 293, .none, .ref 294, .ref 295, .ref 296, .int 559 0, .int 110 0, .str (oS "/claim/cut.py") 560]) #[]
noncomputable def ob2_298 (P : Params) : Obj := .mk (.type "function") .none (.func (.mk (oS "__init__") (oS "TooMany.__init__") (defArgs (inClass (top 23) 0)) (.stmts (defBody (inClass (top 23) 0))) (defScope (inClass (top 23) 0)) 3 [] .none .none .none (.str (oS "evenrules.errors") 253) .none (.ref 297) .none 0)) #[]
noncomputable def ob2_299 (P : Params) : Obj := .mk (.type "tuple") .none (.seq #[.str (oS "most") 562, .str (oS "what") 563]) #[]
noncomputable def ob2_300 (P : Params) : Obj := .mk (.type "dict") .none (.dict #[.mk (kH P (oS "__module__")) (.str (oS "__module__") 548) (.str (oS "evenrules.errors") 253), .mk (kH P (oS "__firstlineno__")) (.str (oS "__firstlineno__") 552) (.int 108 551), .mk (kH P (oS "__init__")) (.str (oS "__init__") 561) (.ref 298), .mk (kH P (oS "__static_attributes__")) (.str (oS "__static_attributes__") 564) (.ref 299), .mk (kH P (oS "__doc__")) (.str (oS "__doc__") 565) .none] 2) #[]
noncomputable def ob2_301 (P : Params) : Obj := .mk (.type "type") .none (.cls (.mk (oS "TooMany") [.ref 79] [.ref 301, .ref 79, .type "ValueError", .type "Exception", .type "BaseException", .type "object"] 300 (oS "TooMany") true [] [] false .none false)) #[.some (.ref 285), .none, .some (.str (oS "TooMany") 541), .some (.str (oS "TooMany") 549), .some (.builtin "ValueError.__new__"), .some (.bool true)]
noncomputable def ob2_302 (P : Params) : Obj := .mk (.type "super") .none (.fields #[.ref 301, .ref 301, .ref 301]) #[]
noncomputable def ob2_303 (P : Params) : Obj := .mk (.type "builtin_function_or_method") .none (.fields #[.builtin "object.__init_subclass__", .ref 301]) #[]
noncomputable def ob2_304 (P : Params) : Obj := .mk (.type "tuple") .none (.seq #[]) #[]
noncomputable def ob2_305 (P : Params) : Obj := .mk .none .none (.fields #[]) #[]
noncomputable def ob2_306 (P : Params) : Obj := .mk (.type "tuple") .none (.seq #[.str (oS "value") 577]) #[]
noncomputable def ob2_307 (P : Params) : Obj := .mk (.type "tuple") .none (.seq #[]) #[]
noncomputable def ob2_308 (P : Params) : Obj := .mk .none .none (.func (.mk (oS "is_integer") (oS "is_integer") (defArgs (top 26)) (.stmts (defBody (top 26))) (defScope (top 26)) 0 [] .none .none .none .none .none .none .none 0)) #[]
noncomputable def ob2_309 (P : Params) : Obj := .mk (.type "code") .none (.fields #[.str (oS "is_integer") 574, .str (oS "is_integer") 575, .str (oS "/claim/cut.py") 576, .int 115 0, .int 1 0, .int 0 0, .int 0 0, .int 3 0, .ref 304, .bool true, .int 181 0, .ref 305, .none, .ref 306, .ref 307, .ref 308, .int 578 0, .int 115 0, .str (oS "/claim/cut.py") 579]) #[]
noncomputable def ob2_310 (P : Params) : Obj := .mk (.type "function") .none (.func (.mk (oS "is_integer") (oS "is_integer") (defArgs (top 26)) (.stmts (defBody (top 26))) (defScope (top 26)) 3 [] .none .none .none (.str (oS "evenrules.checks") 568) .none (.ref 309) .none 0)) #[]
noncomputable def ob2_311 (P : Params) : Obj := .mk (.type "tuple") .none (.seq #[]) #[]
noncomputable def ob2_312 (P : Params) : Obj := .mk .none .none (.fields #[]) #[]
noncomputable def ob2_313 (P : Params) : Obj := .mk (.type "tuple") .none (.seq #[.str (oS "value") 584, .str (oS "least") 585, .str (oS "most") 586]) #[]
noncomputable def ob2_314 (P : Params) : Obj := .mk (.type "tuple") .none (.seq #[]) #[]
noncomputable def ob2_315 (P : Params) : Obj := .mk .none .none (.func (.mk (oS "is_within") (oS "is_within") (defArgs (top 27)) (.stmts (defBody (top 27))) (defScope (top 27)) 0 [] .none .none .none .none .none .none .none 0)) #[]
noncomputable def ob2_316 (P : Params) : Obj := .mk (.type "code") .none (.fields #[.str (oS "is_within") 581, .str (oS "is_within") 582, .str (oS "/claim/cut.py") 583, .int 117 0, .int 3 0, .int 0 0, .int 0 0, .int 3 0, .ref 311, .bool true, .int 181 0, .ref 312, .none, .ref 313, .ref 314, .ref 315, .int 587 0, .int 117 0, .str (oS "/claim/cut.py") 588]) #[]
noncomputable def ob2_317 (P : Params) : Obj := .mk (.type "function") .none (.func (.mk (oS "is_within") (oS "is_within") (defArgs (top 27)) (.stmts (defBody (top 27))) (defScope (top 27)) 3 [] .none .none .none (.str (oS "evenrules.checks") 568) .none (.ref 316) .none 0)) #[]
noncomputable def ob2_318 (P : Params) : Obj := .mk (.type "tuple") .none (.seq #[]) #[]
noncomputable def ob2_319 (P : Params) : Obj := .mk .none .none (.fields #[]) #[]
noncomputable def ob2_320 (P : Params) : Obj := .mk (.type "tuple") .none (.seq #[.str (oS "value") 593]) #[]
noncomputable def ob2_321 (P : Params) : Obj := .mk (.type "tuple") .none (.seq #[]) #[]
noncomputable def ob2_322 (P : Params) : Obj := .mk .none .none (.func (.mk (oS "is_key") (oS "is_key") (defArgs (top 28)) (.stmts (defBody (top 28))) (defScope (top 28)) 0 [] .none .none .none .none .none .none .none 0)) #[]
noncomputable def ob2_323 (P : Params) : Obj := .mk (.type "code") .none (.fields #[.str (oS "is_key") 590, .str (oS "is_key") 591, .str (oS "/claim/cut.py") 592, .int 119 0, .int 1 0, .int 0 0, .int 0 0, .int 3 0, .ref 318, .bool true, .int 181 0, .ref 319, .none, .ref 320, .ref 321, .ref 322, .int 594 0, .int 119 0, .str (oS "/claim/cut.py") 595]) #[]
noncomputable def ob2_324 (P : Params) : Obj := .mk (.type "function") .none (.func (.mk (oS "is_key") (oS "is_key") (defArgs (top 28)) (.stmts (defBody (top 28))) (defScope (top 28)) 3 [] .none .none .none (.str (oS "evenrules.checks") 568) .none (.ref 323) .none 0)) #[]
noncomputable def ob2_325 (P : Params) : Obj := .mk (.type "tuple") .none (.seq #[]) #[]
noncomputable def ob2_326 (P : Params) : Obj := .mk .none .none (.fields #[]) #[]
noncomputable def ob2_327 (P : Params) : Obj := .mk (.type "tuple") .none (.seq #[.str (oS "value") 600]) #[]
noncomputable def ob2_328 (P : Params) : Obj := .mk (.type "tuple") .none (.seq #[]) #[]
noncomputable def ob2_329 (P : Params) : Obj := .mk .none .none (.func (.mk (oS "need_key") (oS "need_key") (defArgs (top 29)) (.stmts (defBody (top 29))) (defScope (top 29)) 0 [] .none .none .none .none .none .none .none 0)) #[]
noncomputable def ob2_330 (P : Params) : Obj := .mk (.type "code") .none (.fields #[.str (oS "need_key") 597, .str (oS "need_key") 598, .str (oS "/claim/cut.py") 599, .int 121 0, .int 1 0, .int 0 0, .int 0 0, .int 3 0, .ref 325, .bool true, .int 181 0, .ref 326, .none, .ref 327, .ref 328, .ref 329, .int 601 0, .int 121 0, .str (oS "/claim/cut.py") 602]) #[]
noncomputable def ob2_331 (P : Params) : Obj := .mk (.type "function") .none (.func (.mk (oS "need_key") (oS "need_key") (defArgs (top 29)) (.stmts (defBody (top 29))) (defScope (top 29)) 3 [] .none .none .none (.str (oS "evenrules.checks") 568) .none (.ref 330) .none 0)) #[]
noncomputable def ob2_332 (P : Params) : Obj := .mk (.type "tuple") .none (.seq #[]) #[]
noncomputable def ob2_333 (P : Params) : Obj := .mk .none .none (.fields #[]) #[]
noncomputable def ob2_334 (P : Params) : Obj := .mk (.type "tuple") .none (.seq #[.str (oS "items") 607, .str (oS "item") 608]) #[]
noncomputable def ob2_335 (P : Params) : Obj := .mk (.type "tuple") .none (.seq #[]) #[]
noncomputable def ob2_336 (P : Params) : Obj := .mk .none .none (.func (.mk (oS "need_pairs") (oS "need_pairs") (defArgs (top 30)) (.stmts (defBody (top 30))) (defScope (top 30)) 0 [] .none .none .none .none .none .none .none 0)) #[]
noncomputable def ob2_337 (P : Params) : Obj := .mk (.type "code") .none (.fields #[.str (oS "need_pairs") 604, .str (oS "need_pairs") 605, .str (oS "/claim/cut.py") 606, .int 124 0, .int 1 0, .int 0 0, .int 0 0, .int 3 0, .ref 332, .bool true, .int 181 0, .ref 333, .none, .ref 334, .ref 335, .ref 336, .int 609 0, .int 124 0, .str (oS "/claim/cut.py") 610]) #[]
noncomputable def ob2_338 (P : Params) : Obj := .mk (.type "function") .none (.func (.mk (oS "need_pairs") (oS "need_pairs") (defArgs (top 30)) (.stmts (defBody (top 30))) (defScope (top 30)) 3 [] .none .none .none (.str (oS "evenrules.checks") 568) .none (.ref 337) .none 0)) #[]
noncomputable def ob2_339 (P : Params) : Obj := .mk (.type "tuple") .none (.seq #[]) #[]
noncomputable def ob2_340 (P : Params) : Obj := .mk (.type "builtin_function_or_method") .none (.fields #[.builtin "type.__prepare__", .type "type"]) #[]
noncomputable def ob2_341 (P : Params) : Obj := .mk (.type "dict") .none (.dict #[.mk (kH P (oS "__module__")) (.str (oS "__module__") 621) (.str (oS "evenrules.nodes") 612), .mk (kH P (oS "__qualname__")) (.str (oS "__qualname__") 623) (.str (oS "Node") 622), .mk (kH P (oS "__firstlineno__")) (.str (oS "__firstlineno__") 625) (.int 131 624), .mk (kH P (oS "__init__")) (.str (oS "__init__") 635) (.ref 352), .mk (kH P (oS "__static_attributes__")) (.str (oS "__static_attributes__") 641) (.ref 353)] 5) #[]
noncomputable def ob2_342 (P : Params) : Obj := .mk (.type "tuple") .none (.seq #[]) #[]
noncomputable def ob2_343 (P : Params) : Obj := .mk .none .none (.fields #[.int 133 0, .int 4 0, .ref 351]) #[]
noncomputable def ob2_344 (P : Params) : Obj := .mk (.type "code") .none (.fields #[.str (oS "Node") 616, .str (oS "Node") 617, .str (oS "/claim/cut.py") 618, .int 131 0, .int 0 0, .int 0 0, .int 0 0, .int 0 0, .ref 342, .bool false, .int 181 0, .ref 343, .none, .none, .none, .none, .int 619 0, .int 131 0, .str (oS "/claim/cut.py") 620]) #[]
noncomputable def ob2_345 (P : Params) : Obj := .mk (.type "frame") .none .plain #[.some (.ref 344), .some (.ref 3), .some (.ref 341), .none, .some (.str (oS "evenrules.nodes") 612), .none, .some (.ref 0)]
noncomputable def ob2_346 (P : Params) : Obj := .mk (.type "tuple") .none (.seq #[]) #[]
noncomputable def ob2_347 (P : Params) : Obj := .mk .none .none (.fields #[]) #[]
noncomputable def ob2_348 (P : Params) : Obj := .mk (.type "tuple") .none (.seq #[.str (oS "self") 629, .str (oS "left") 630, .str (oS "key") 631, .str (oS "right") 632]) #[]
noncomputable def ob2_349 (P : Params) : Obj := .mk (.type "tuple") .none (.seq #[]) #[]
noncomputable def ob2_350 (P : Params) : Obj := .mk .none .none (.func (.mk (oS "__init__") (oS "Node.__init__") (defArgs (inClass (top 32) 0)) (.stmts (defBody (inClass (top 32) 0))) (defScope (inClass (top 32) 0)) 0 [] .none .none .none .none .none .none .none 0)) #[]
noncomputable def ob2_351 (P : Params) : Obj := .mk (.type "code") .none (.fields #[.str (oS "__init__") 626, .str (oS "Node.__init__") 627, .str (oS "/claim/cut.py") 628, .int 133 0, .int 4 0, .int 0 0, .int 0 0, .int 3 0, .ref 346, .bool true, .int 181 0, .ref 347, .none, .ref 348, .ref 349, .ref 350, .int 633 0, .int 133 0, .str (oS "/claim/cut.py") 634]) #[]
noncomputable def ob2_352 (P : Params) : Obj := .mk (.type "function") .none (.func (.mk (oS "__init__") (oS "Node.__init__") (defArgs (inClass (top 32) 0)) (.stmts (defBody (inClass (top 32) 0))) (defScope (inClass (top 32) 0)) 3 [] .none .none .none (.str (oS "evenrules.nodes") 612) .none (.ref 351) .none 0)) #[]
noncomputable def ob2_353 (P : Params) : Obj := .mk (.type "tuple") .none (.seq #[.str (oS "form") 636, .str (oS "key") 637, .str (oS "left") 638, .str (oS "right") 639, .str (oS "weight") 640]) #[]
noncomputable def ob2_354 (P : Params) : Obj := .mk (.type "dict") .none (.dict #[.mk (kH P (oS "__module__")) (.str (oS "__module__") 621) (.str (oS "evenrules.nodes") 612), .mk (kH P (oS "__firstlineno__")) (.str (oS "__firstlineno__") 625) (.int 131 624), .mk (kH P (oS "__init__")) (.str (oS "__init__") 635) (.ref 352), .mk (kH P (oS "__static_attributes__")) (.str (oS "__static_attributes__") 641) (.ref 353), .mk (kH P (oS "__dict__")) (.str (oS "__dict__") 643) (.ref 356), .mk (kH P (oS "__weakref__")) (.str (oS "__weakref__") 645) (.ref 357), .mk (kH P (oS "__doc__")) (.str (oS "__doc__") 646) .none] 4) #[]
noncomputable def ob2_355 (P : Params) : Obj := .mk (.type "type") .none (.cls (.mk (oS "Node") [.type "object"] [.ref 355, .type "object"] 354 (oS "Node") true [] [] false .none false)) #[.none, .none, .some (.str (oS "Node") 614), .some (.str (oS "Node") 622), .some (.builtin "object.__new__"), .some (.bool true)]
noncomputable def ob2_356 (P : Params) : Obj := .mk (.type "getset_descriptor") .none (.fields #[.str (oS "__dict__") 642, .ref 355, .builtin "function.__dict__", .builtin "function.__dict__#set"]) #[]
noncomputable def ob2_357 (P : Params) : Obj := .mk (.type "getset_descriptor") .none (.fields #[.str (oS "__weakref__") 644, .ref 355, .builtin "ExceptionGroup.__weakref__", .none]) #[]
noncomputable def ob2_358 (P : Params) : Obj := .mk (.type "super") .none (.fields #[.ref 355, .ref 355, .ref 355]) #[]
noncomputable def ob2_359 (P : Params) : Obj := .mk (.type "builtin_function_or_method") .none (.fields #[.builtin "object.__init_subclass__", .ref 355]) #[]
noncomputable def ob2_360 (P : Params) : Obj := .mk (.type "tuple") .none (.seq #[]) #[]
noncomputable def ob2_361 (P : Params) : Obj := .mk .none .none (.fields #[]) #[]
noncomputable def ob2_362 (P : Params) : Obj := .mk (.type "tuple") .none (.seq #[.str (oS "node") 652]) #[]
noncomputable def ob2_363 (P : Params) : Obj := .mk (.type "tuple") .none (.seq #[]) #[]
noncomputable def ob2_364 (P : Params) : Obj := .mk .none .none (.func (.mk (oS "weight_of") (oS "weight_of") (defArgs (top 33)) (.stmts (defBody (top 33))) (defScope (top 33)) 0 [] .none .none .none .none .none .none .none 0)) #[]
noncomputable def ob2_365 (P : Params) : Obj := .mk (.type "code") .none (.fields #[.str (oS "weight_of") 649, .str (oS "weight_of") 650, .str (oS "/claim/cut.py") 651, .int 139 0, .int 1 0, .int 0 0, .int 0 0, .int 3 0, .ref 360, .bool true, .int 181 0, .ref 361, .none, .ref 362, .ref 363, .ref 364, .int 653 0, .int 139 0, .str (oS "/claim/cut.py") 654]) #[]
noncomputable def ob2_366 (P : Params) : Obj := .mk (.type "function") .none (.func (.mk (oS "weight_of") (oS "weight_of") (defArgs (top 33)) (.stmts (defBody (top 33))) (defScope (top 33)) 3 [] .none .none .none (.str (oS "evenrules.nodes") 612) .none (.ref 365) .none 0)) #[]
noncomputable def ob2_367 (P : Params) : Obj := .mk (.type "tuple") .none (.seq #[]) #[]
noncomputable def ob2_368 (P : Params) : Obj := .mk .none .none (.fields #[]) #[]
noncomputable def ob2_369 (P : Params) : Obj := .mk (.type "tuple") .none (.seq #[.str (oS "node") 659]) #[]
noncomputable def ob2_370 (P : Params) : Obj := .mk (.type "tuple") .none (.seq #[]) #[]
noncomputable def ob2_371 (P : Params) : Obj := .mk .none .none (.func (.mk (oS "form_of") (oS "form_of") (defArgs (top 34)) (.stmts (defBody (top 34))) (defScope (top 33)) 0 [] .none .none .none .none .none .none .none 0)) #[]
noncomputable def ob2_372 (P : Params) : Obj := .mk (.type "code") .none (.fields #[.str (oS "form_of") 656, .str (oS "form_of") 657, .str (oS "/claim/cut.py") 658, .int 141 0, .int 1 0, .int 0 0, .int 0 0, .int 3 0, .ref 367, .bool true, .int 181 0, .ref 368, .none, .ref 369, .ref 370, .ref 371, .int 660 0, .int 141 0, .str (oS "/claim/cut.py") 661]) #[]
noncomputable def ob2_373 (P : Params) : Obj := .mk (.type "function") .none (.func (.mk (oS "form_of") (oS "form_of") (defArgs (top 34)) (.stmts (defBody (top 34))) (defScope (top 33)) 3 [] .none .none .none (.str (oS "evenrules.nodes") 612) .none (.ref 372) .none 0)) #[]
noncomputable def ob2_374 (P : Params) : Obj := .mk (.type "tuple") .none (.seq #[]) #[]
noncomputable def ob2_375 (P : Params) : Obj := .mk .none .none (.fields #[]) #[]
noncomputable def ob2_376 (P : Params) : Obj := .mk (.type "tuple") .none (.seq #[.str (oS "order") 666, .str (oS "low") 667, .str (oS "high") 668, .str (oS "middle") 669]) #[]
noncomputable def ob2_377 (P : Params) : Obj := .mk (.type "tuple") .none (.seq #[]) #[]
noncomputable def ob2_378 (P : Params) : Obj := .mk .none .none (.func (.mk (oS "halved") (oS "halved") (defArgs (top 35)) (.stmts (defBody (top 35))) (defScope (top 35)) 0 [] .none .none .none .none .none .none .none 0)) #[]
noncomputable def ob2_379 (P : Params) : Obj := .mk (.type "code") .none (.fields #[.str (oS "halved") 663, .str (oS "halved") 664, .str (oS "/claim/cut.py") 665, .int 143 0, .int 3 0, .int 0 0, .int 0 0, .int 3 0, .ref 374, .bool true, .int 181 0, .ref 375, .none, .ref 376, .ref 377, .ref 378, .int 670 0, .int 143 0, .str (oS "/claim/cut.py") 671]) #[]
noncomputable def ob2_380 (P : Params) : Obj := .mk (.type "function") .none (.func (.mk (oS "halved") (oS "halved") (defArgs (top 35)) (.stmts (defBody (top 35))) (defScope (top 35)) 3 [] .none .none .none (.str (oS "evenrules.nodes") 612) .none (.ref 379) .none 0)) #[]
noncomputable def ob2_381 (P : Params) : Obj := .mk (.type "tuple") .none (.seq #[]) #[]
noncomputable def ob2_382 (P : Params) : Obj := .mk .none .none (.fields #[]) #[]
noncomputable def ob2_383 (P : Params) : Obj := .mk (.type "tuple") .none (.seq #[.str (oS "root") 676, .str (oS "found") 677, .str (oS "waiting") 678, .str (oS "node") 679]) #[]
noncomputable def ob2_384 (P : Params) : Obj := .mk (.type "tuple") .none (.seq #[]) #[]
noncomputable def ob2_385 (P : Params) : Obj := .mk .none .none (.func (.mk (oS "nodes_of") (oS "nodes_of") (defArgs (top 36)) (.stmts (defBody (top 36))) (defScope (top 36)) 0 [] .none .none .none .none .none .none .none 0)) #[]
noncomputable def ob2_386 (P : Params) : Obj := .mk (.type "code") .none (.fields #[.str (oS "nodes_of") 673, .str (oS "nodes_of") 674, .str (oS "/claim/cut.py") 675, .int 148 0, .int 1 0, .int 0 0, .int 0 0, .int 3 0, .ref 381, .bool true, .int 181 0, .ref 382, .none, .ref 383, .ref 384, .ref 385, .int 680 0, .int 148 0, .str (oS "/claim/cut.py") 681]) #[]
noncomputable def ob2_387 (P : Params) : Obj := .mk (.type "function") .none (.func (.mk (oS "nodes_of") (oS "nodes_of") (defArgs (top 36)) (.stmts (defBody (top 36))) (defScope (top 36)) 3 [] .none .none .none (.str (oS "evenrules.nodes") 612) .none (.ref 386) .none 0)) #[]
noncomputable def ob2_388 (P : Params) : Obj := .mk (.type "tuple") .none (.seq #[]) #[]
noncomputable def ob2_389 (P : Params) : Obj := .mk .none .none (.fields #[]) #[]
noncomputable def ob2_390 (P : Params) : Obj := .mk .none .none (.func (.mk (oS "levels_of") (oS "levels_of") (defArgs (top 37)) (.stmts (defBody (top 37))) (defScope (top 37)) 0 [] .none .none .none .none .none .none .none 0)) #[]
noncomputable def ob2_391 (P : Params) : Obj := .mk (.type "code") .none (.fields #[.str (oS "levels_of") 683, .str (oS "levels_of") 684, .str (oS "/claim/cut.py") 685, .int 158 0, .int 1 0, .int 0 0, .int 0 0, .int 3 0, .ref 388, .bool true, .int 181 0, .ref 389, .none, .none, .none, .ref 390, .int 686 0, .int 158 0, .str (oS "/claim/cut.py") 687]) #[]
noncomputable def ob2_392 (P : Params) : Obj := .mk (.type "function") .none (.func (.mk (oS "levels_of") (oS "levels_of") (defArgs (top 37)) (.stmts (defBody (top 37))) (defScope (top 37)) 3 [] .none .none .none (.str (oS "evenrules.nodes") 612) .none (.ref 391) .none 0)) #[]
noncomputable def ob2_393 (P : Params) : Obj := .mk (.type "tuple") .none (.seq #[]) #[]
noncomputable def ob2_394 (P : Params) : Obj := .mk .none .none (.fields #[]) #[]
noncomputable def ob2_395 (P : Params) : Obj := .mk (.type "tuple") .none (.seq #[.str (oS "root") 692, .str (oS "pieces") 693, .str (oS "waiting") 694, .str (oS "node") 695]) #[]
noncomputable def ob2_396 (P : Params) : Obj := .mk (.type "tuple") .none (.seq #[]) #[]
noncomputable def ob2_397 (P : Params) : Obj := .mk .none .none (.func (.mk (oS "words_of") (oS "words_of") (defArgs (top 38)) (.stmts (defBody (top 38))) (defScope (top 38)) 0 [] .none .none .none .none .none .none .none 0)) #[]
noncomputable def ob2_398 (P : Params) : Obj := .mk (.type "code") .none (.fields #[.str (oS "words_of") 689, .str (oS "words_of") 690, .str (oS "/claim/cut.py") 691, .int 167 0, .int 1 0, .int 0 0, .int 0 0, .int 3 0, .ref 393, .bool true, .int 181 0, .ref 394, .none, .ref 395, .ref 396, .ref 397, .int 696 0, .int 167 0, .str (oS "/claim/cut.py") 697]) #[]
noncomputable def ob2_399 (P : Params) : Obj := .mk (.type "function") .none (.func (.mk (oS "words_of") (oS "words_of") (defArgs (top 38)) (.stmts (defBody (top 38))) (defScope (top 38)) 3 [] .none .none .none (.str (oS "evenrules.nodes") 612) .none (.ref 398) .none 0)) #[]
noncomputable def ob2_400 (P : Params) : Obj := .mk (.type "tuple") .none (.seq #[]) #[]
noncomputable def ob2_401 (P : Params) : Obj := .mk .none .none (.fields #[]) #[]
noncomputable def ob2_402 (P : Params) : Obj := .mk (.type "tuple") .none (.seq #[.str (oS "number") 710, .str (oS "rest") 711, .str (oS "pieces") 712, .str (oS "low") 713, .str (oS "digits") 714]) #[]
noncomputable def ob2_403 (P : Params) : Obj := .mk (.type "tuple") .none (.seq #[]) #[]
noncomputable def ob2_404 (P : Params) : Obj := .mk .none .none (.func (.mk (oS "number_word") (oS "number_word") (defArgs (top 42)) (.stmts (defBody (top 42))) (defScope (top 42)) 0 [] .none .none .none .none .none .none .none 0)) #[]
noncomputable def ob2_405 (P : Params) : Obj := .mk (.type "code") .none (.fields #[.str (oS "number_word") 707, .str (oS "number_word") 708, .str (oS "/claim/cut.py") 709, .int 186 0, .int 1 0, .int 0 0, .int 0 0, .int 3 0, .ref 400, .bool true, .int 181 0, .ref 401, .none, .ref 402, .ref 403, .ref 404, .int 715 0, .int 186 0, .str (oS "/claim/cut.py") 716]) #[]
noncomputable def ob2_406 (P : Params) : Obj := .mk (.type "function") .none (.func (.mk (oS "number_word") (oS "number_word") (defArgs (top 42)) (.stmts (defBody (top 42))) (defScope (top 42)) 3 [] .none .none .none (.str (oS "evenrules.words") 699) .none (.ref 405) .none 0)) #[]
noncomputable def ob2_407 (P : Params) : Obj := .mk (.type "tuple") .none (.seq #[]) #[]
noncomputable def ob2_408 (P : Params) : Obj := .mk .none .none (.fields #[]) #[]
noncomputable def ob2_409 (P : Params) : Obj := .mk (.type "tuple") .none (.seq #[.str (oS "pair") 721]) #[]
noncomputable def ob2_410 (P : Params) : Obj := .mk (.type "tuple") .none (.seq #[]) #[]
noncomputable def ob2_411 (P : Params) : Obj := .mk .none .none (.func (.mk (oS "pair_word") (oS "pair_word") (defArgs (top 43)) (.stmts (defBody (top 43))) (defScope (top 43)) 0 [] .none .none .none .none .none .none .none 0)) #[]
noncomputable def ob2_412 (P : Params) : Obj := .mk (.type "code") .none (.fields #[.str (oS "pair_word") 718, .str (oS "pair_word") 719, .str (oS "/claim/cut.py") 720, .int 197 0, .int 1 0, .int 0 0, .int 0 0, .int 3 0, .ref 407, .bool true, .int 181 0, .ref 408, .none, .ref 409, .ref 410, .ref 411, .int 722 0, .int 197 0, .str (oS "/claim/cut.py") 723]) #[]
noncomputable def ob2_413 (P : Params) : Obj := .mk (.type "function") .none (.func (.mk (oS "pair_word") (oS "pair_word") (defArgs (top 43)) (.stmts (defBody (top 43))) (defScope (top 43)) 3 [] .none .none .none (.str (oS "evenrules.words") 699) .none (.ref 412) .none 0)) #[]
noncomputable def ob2_414 (P : Params) : Obj := .mk (.type "tuple") .none (.seq #[]) #[]
noncomputable def ob2_415 (P : Params) : Obj := .mk .none .none (.fields #[]) #[]
noncomputable def ob2_416 (P : Params) : Obj := .mk (.type "tuple") .none (.seq #[.str (oS "word") 728, .str (oS "digits") 729, .str (oS "first") 730, .str (oS "number") 731, .str (oS "start") 732]) #[]
noncomputable def ob2_417 (P : Params) : Obj := .mk (.type "tuple") .none (.seq #[]) #[]
noncomputable def ob2_418 (P : Params) : Obj := .mk .none .none (.func (.mk (oS "read_number") (oS "read_number") (defArgs (top 44)) (.stmts (defBody (top 44))) (defScope (top 44)) 0 [] .none .none .none .none .none .none .none 0)) #[]
noncomputable def ob2_419 (P : Params) : Obj := .mk (.type "code") .none (.fields #[.str (oS "read_number") 725, .str (oS "read_number") 726, .str (oS "/claim/cut.py") 727, .int 199 0, .int 1 0, .int 0 0, .int 0 0, .int 3 0, .ref 414, .bool true, .int 181 0, .ref 415, .none, .ref 416, .ref 417, .ref 418, .int 733 0, .int 199 0, .str (oS "/claim/cut.py") 734]) #[]
noncomputable def ob2_420 (P : Params) : Obj := .mk (.type "function") .none (.func (.mk (oS "read_number") (oS "read_number") (defArgs (top 44)) (.stmts (defBody (top 44))) (defScope (top 44)) 3 [] .none .none .none (.str (oS "evenrules.words") 699) .none (.ref 419) .none 0)) #[]
noncomputable def ob2_421 (P : Params) : Obj := .mk (.type "tuple") .none (.seq #[]) #[]
noncomputable def ob2_422 (P : Params) : Obj := .mk .none .none (.fields #[]) #[]
noncomputable def ob2_423 (P : Params) : Obj := .mk .none .none (.func (.mk (oS "read_pair") (oS "read_pair") (defArgs (top 45)) (.stmts (defBody (top 45))) (defScope (top 45)) 0 [] .none .none .none .none .none .none .none 0)) #[]
noncomputable def ob2_424 (P : Params) : Obj := .mk (.type "code") .none (.fields #[.str (oS "read_pair") 736, .str (oS "read_pair") 737, .str (oS "/claim/cut.py") 738, .int 210 0, .int 1 0, .int 0 0, .int 0 0, .int 3 0, .ref 421, .bool true, .int 181 0, .ref 422, .none, .none, .none, .ref 423, .int 739 0, .int 210 0, .str (oS "/claim/cut.py") 740]) #[]
noncomputable def ob2_425 (P : Params) : Obj := .mk (.type "function") .none (.func (.mk (oS "read_pair") (oS "read_pair") (defArgs (top 45)) (.stmts (defBody (top 45))) (defScope (top 45)) 3 [] .none .none .none (.str (oS "evenrules.words") 699) .none (.ref 424) .none 0)) #[]
noncomputable def ob2_426 (P : Params) : Obj := .mk (.type "dict") .none (.dict #[.mk (kH P (oS "turn")) (.str (oS "turn") 752) (.ref 427), .mk (kH P (oS "try")) (.str (oS "try") 757) (.ref 428)] 2) #[]
noncomputable def ob2_427 (P : Params) : Obj := .mk (.type "tuple") .none (.seq #[.str (oS "times") 753, .str (oS "plus") 754, .str (oS "turn") 755, .str (oS "plus") 756]) #[]
noncomputable def ob2_428 (P : Params) : Obj := .mk (.type "tuple") .none (.seq #[.str (oS "times") 758, .str (oS "plus") 759]) #[]
noncomputable def ob2_429 (P : Params) : Obj := .mk (.type "tuple") .none (.seq #[]) #[]
noncomputable def ob2_430 (P : Params) : Obj := .mk (.type "builtin_function_or_method") .none (.fields #[.builtin "type.__prepare__", .type "type"]) #[]
noncomputable def ob2_431 (P : Params) : Obj := .mk (.type "dict") .none (.dict #[.mk (kH P (oS "__module__")) (.str (oS "__module__") 770) (.str (oS "evenrules.rules") 742), .mk (kH P (oS "__qualname__")) (.str (oS "__qualname__") 772) (.str (oS "Rule") 771), .mk (kH P (oS "__firstlineno__")) (.str (oS "__firstlineno__") 774) (.int 220 773), .mk (kH P (oS "__static_attributes__")) (.str (oS "__static_attributes__") 775) (.ref 436)] 4) #[]
noncomputable def ob2_432 (P : Params) : Obj := .mk (.type "tuple") .none (.seq #[]) #[]
noncomputable def ob2_433 (P : Params) : Obj := .mk .none .none (.fields #[]) #[]
noncomputable def ob2_434 (P : Params) : Obj := .mk (.type "code") .none (.fields #[.str (oS "Rule") 765, .str (oS "Rule") 766, .str (oS "/claim/cut.py") 767, .int 220 0, .int 0 0, .int 0 0, .int 0 0, .int 0 0, .ref 432, .bool false, .int 181 0, .ref 433, .none, .none, .none, .none, .int 768 0, .int 220 0, .str (oS "/claim/cut.py") 769]) #[]
noncomputable def ob2_435 (P : Params) : Obj := .mk (.type "frame") .none .plain #[.some (.ref 434), .some (.ref 3), .some (.ref 431), .none, .some (.str (oS "evenrules.rules") 742), .none, .some (.ref 0)]
noncomputable def ob2_436 (P : Params) : Obj := .mk (.type "tuple") .none (.seq #[]) #[]
noncomputable def ob2_437 (P : Params) : Obj := .mk (.type "dict") .none (.dict #[.mk (kH P (oS "__module__")) (.str (oS "__module__") 770) (.str (oS "evenrules.rules") 742), .mk (kH P (oS "__firstlineno__")) (.str (oS "__firstlineno__") 774) (.int 220 773), .mk (kH P (oS "__static_attributes__")) (.str (oS "__static_attributes__") 775) (.ref 436), .mk (kH P (oS "__dict__")) (.str (oS "__dict__") 777) (.ref 439), .mk (kH P (oS "__weakref__")) (.str (oS "__weakref__") 779) (.ref 440), .mk (kH P (oS "__doc__")) (.str (oS "__doc__") 780) .none] 4) #[]
noncomputable def ob2_438 (P : Params) : Obj := .mk (.type "type") .none (.cls (.mk (oS "Rule") [.type "object"] [.ref 438, .type "object"] 437 (oS "Rule") true [] [.ref 481] false .none false)) #[.none, .none, .some (.str (oS "Rule") 763), .some (.str (oS "Rule") 771), .some (.builtin "object.__new__"), .some (.bool true)]
noncomputable def ob2_439 (P : Params) : Obj := .mk (.type "getset_descriptor") .none (.fields #[.str (oS "__dict__") 776, .ref 438, .builtin "function.__dict__", .builtin "function.__dict__#set"]) #[]
noncomputable def ob2_440 (P : Params) : Obj := .mk (.type "getset_descriptor") .none (.fields #[.str (oS "__weakref__") 778, .ref 438, .builtin "ExceptionGroup.__weakref__", .none]) #[]
noncomputable def ob2_441 (P : Params) : Obj := .mk (.type "super") .none (.fields #[.ref 438, .ref 438, .ref 438]) #[]
noncomputable def ob2_442 (P : Params) : Obj := .mk (.type "builtin_function_or_method") .none (.fields #[.builtin "object.__init_subclass__", .ref 438]) #[]
noncomputable def ob2_443 (P : Params) : Obj := .mk (.type "tuple") .none (.seq #[.ref 438]) #[]
noncomputable def ob2_444 (P : Params) : Obj := .mk (.type "builtin_function_or_method") .none (.fields #[.builtin "type.__prepare__", .type "type"]) #[]
noncomputable def ob2_445 (P : Params) : Obj := .mk (.type "dict") .none (.dict #[.mk (kH P (oS "__module__")) (.str (oS "__module__") 790) (.str (oS "evenrules.rules") 742), .mk (kH P (oS "__qualname__")) (.str (oS "__qualname__") 792) (.str (oS "WeightRule") 791), .mk (kH P (oS "__firstlineno__")) (.str (oS "__firstlineno__") 794) (.int 222 793), .mk (kH P (oS "MOST")) (.str (oS "MOST") 796) (.int 6 795), .mk (kH P (oS "__call__")) (.str (oS "__call__") 805) (.ref 456), .mk (kH P (oS "greatest")) (.str (oS "greatest") 813) (.ref 463), .mk (kH P (oS "least")) (.str (oS "least") 821) (.ref 470), .mk (kH P (oS "read")) (.str (oS "read") 839) (.ref 477), .mk (kH P (oS "__static_attributes__")) (.str (oS "__static_attributes__") 840) (.ref 479)] 9) #[]
noncomputable def ob2_446 (P : Params) : Obj := .mk (.type "tuple") .none (.seq #[]) #[]
noncomputable def ob2_447 (P : Params) : Obj := .mk .none .none (.fields #[.int 225 0, .int 4 0, .ref 455, .int 230 0, .int 4 0, .ref 462, .int 234 0, .int 4 0, .ref 469, .int 239 0, .int 4 0, .ref 474]) #[]
noncomputable def ob2_448 (P : Params) : Obj := .mk (.type "code") .none (.fields #[.str (oS "WeightRule") 785, .str (oS "WeightRule") 786, .str (oS "/claim/cut.py") 787, .int 222 0, .int 0 0, .int 0 0, .int 0 0, .int 0 0, .ref 446, .bool false, .int 181 0, .ref 447, .none, .none, .none, .none, .int 788 0, .int 222 0, .str (oS "/claim/cut.py") 789]) #[]
noncomputable def ob2_449 (P : Params) : Obj := .mk (.type "frame") .none .plain #[.some (.ref 448), .some (.ref 3), .some (.ref 445), .none, .some (.str (oS "evenrules.rules") 742), .none, .some (.ref 0)]
noncomputable def ob2_450 (P : Params) : Obj := .mk (.type "tuple") .none (.seq #[]) #[]
noncomputable def ob2_451 (P : Params) : Obj := .mk .none .none (.fields #[]) #[]
noncomputable def ob2_452 (P : Params) : Obj := .mk (.type "tuple") .none (.seq #[.str (oS "self") 800, .str (oS "x") 801, .str (oS "y") 802]) #[]
noncomputable def ob2_453 (P : Params) : Obj := .mk (.type "tuple") .none (.seq #[]) #[]
noncomputable def ob2_454 (P : Params) : Obj := .mk .none .none (.func (.mk (oS "__call__") (oS "WeightRule.__call__") (defArgs (inClass (top 52) 1)) (.stmts (defBody (inClass (top 52) 1))) (defScope (inClass (top 52) 1)) 0 [] .none .none .none .none .none .none .none 0)) #[]
noncomputable def ob2_455 (P : Params) : Obj := .mk (.type "code") .none (.fields #[.str (oS "__call__") 797, .str (oS "WeightRule.__call__") 798, .str (oS "/claim/cut.py") 799, .int 225 0, .int 3 0, .int 0 0, .int 0 0, .int 3 0, .ref 450, .bool true, .int 181 0, .ref 451, .none, .ref 452, .ref 453, .ref 454, .int 803 0, .int 225 0, .str (oS "/claim/cut.py") 804]) #[]
noncomputable def ob2_456 (P : Params) : Obj := .mk (.type "function") .none (.func (.mk (oS "__call__") (oS "WeightRule.__call__") (defArgs (inClass (top 52) 1)) (.stmts (defBody (inClass (top 52) 1))) (defScope (inClass (top 52) 1)) 3 [] .none .none .none (.str (oS "evenrules.rules") 742) .none (.ref 455) .none 0)) #[]
noncomputable def ob2_457 (P : Params) : Obj := .mk (.type "tuple") .none (.seq #[]) #[]
noncomputable def ob2_458 (P : Params) : Obj := .mk .none .none (.fields #[]) #[]
noncomputable def ob2_459 (P : Params) : Obj := .mk (.type "tuple") .none (.seq #[.str (oS "self") 809, .str (oS "x") 810]) #[]
noncomputable def ob2_460 (P : Params) : Obj := .mk (.type "tuple") .none (.seq #[]) #[]
noncomputable def ob2_461 (P : Params) : Obj := .mk .none .none (.func (.mk (oS "greatest") (oS "WeightRule.greatest") (defArgs (inClass (top 52) 2)) (.stmts (defBody (inClass (top 52) 2))) (defScope (inClass (top 52) 2)) 0 [] .none .none .none .none .none .none .none 0)) #[]
noncomputable def ob2_462 (P : Params) : Obj := .mk (.type "code") .none (.fields #[.str (oS "greatest") 806, .str (oS "WeightRule.greatest") 807, .str (oS "/claim/cut.py") 808, .int 230 0, .int 2 0, .int 0 0, .int 0 0, .int 3 0, .ref 457, .bool true, .int 181 0, .ref 458, .none, .ref 459, .ref 460, .ref 461, .int 811 0, .int 230 0, .str (oS "/claim/cut.py") 812]) #[]
noncomputable def ob2_463 (P : Params) : Obj := .mk (.type "function") .none (.func (.mk (oS "greatest") (oS "WeightRule.greatest") (defArgs (inClass (top 52) 2)) (.stmts (defBody (inClass (top 52) 2))) (defScope (inClass (top 52) 2)) 3 [] .none .none .none (.str (oS "evenrules.rules") 742) .none (.ref 462) .none 0)) #[]
noncomputable def ob2_464 (P : Params) : Obj := .mk (.type "tuple") .none (.seq #[]) #[]
noncomputable def ob2_465 (P : Params) : Obj := .mk .none .none (.fields #[]) #[]
noncomputable def ob2_466 (P : Params) : Obj := .mk (.type "tuple") .none (.seq #[.str (oS "self") 817, .str (oS "y") 818]) #[]
noncomputable def ob2_467 (P : Params) : Obj := .mk (.type "tuple") .none (.seq #[]) #[]
noncomputable def ob2_468 (P : Params) : Obj := .mk .none .none (.func (.mk (oS "least") (oS "WeightRule.least") (defArgs (inClass (top 52) 3)) (.stmts (defBody (inClass (top 52) 3))) (defScope (inClass (top 52) 3)) 0 [] .none .none .none .none .none .none .none 0)) #[]
noncomputable def ob2_469 (P : Params) : Obj := .mk (.type "code") .none (.fields #[.str (oS "least") 814, .str (oS "WeightRule.least") 815, .str (oS "/claim/cut.py") 816, .int 234 0, .int 2 0, .int 0 0, .int 0 0, .int 3 0, .ref 464, .bool true, .int 181 0, .ref 465, .none, .ref 466, .ref 467, .ref 468, .int 819 0, .int 234 0, .str (oS "/claim/cut.py") 820]) #[]
noncomputable def ob2_470 (P : Params) : Obj := .mk (.type "function") .none (.func (.mk (oS "least") (oS "WeightRule.least") (defArgs (inClass (top 52) 3)) (.stmts (defBody (inClass (top 52) 3))) (defScope (inClass (top 52) 3)) 3 [] .none .none .none (.str (oS "evenrules.rules") 742) .none (.ref 469) .none 0)) #[]
noncomputable def ob2_471 (P : Params) : Obj := .mk (.type "tuple") .none (.seq #[]) #[]
noncomputable def ob2_472 (P : Params) : Obj := .mk .none .none (.fields #[]) #[]
noncomputable def ob2_473 (P : Params) : Obj := .mk .none .none (.func (.mk (oS "read") (oS "WeightRule.read") (defArgs (inClass (top 52) 4)) (.stmts (defBody (inClass (top 52) 4))) (defScope (inClass (top 52) 4)) 0 [] .none .none .none .none .none .none .none 0)) #[]
noncomputable def ob2_474 (P : Params) : Obj := .mk (.type "code") .none (.fields #[.str (oS "read") 822, .str (oS "WeightRule.read") 823, .str (oS "/claim/cut.py") 824, .int 238 0, .int 1 0, .int 0 0, .int 0 0, .int 3 0, .ref 471, .bool true, .int 181 0, .ref 472, .none, .none, .none, .ref 473, .int 825 0, .int 238 0, .str (oS "/claim/cut.py") 826]) #[]
noncomputable def ob2_475 (P : Params) : Obj := .mk (.type "function") .none (.func (.mk (oS "read") (oS "WeightRule.read") (defArgs (inClass (top 52) 4)) (.stmts (defBody (inClass (top 52) 4))) (defScope (inClass (top 52) 4)) 3 [] .none .none .none (.str (oS "evenrules.rules") 742) (.some 478) (.ref 474) .none 0)) #[]
noncomputable def ob2_476 (P : Params) : Obj := .mk (.type "dict") .none (.dict #[.mk (kH P (oS "__module__")) (.str (oS "__module__") 828) (.str (oS "evenrules.rules") 742), .mk (kH P (oS "__name__")) (.str (oS "__name__") 831) (.str (oS "read") 830), .mk (kH P (oS "__qualname__")) (.str (oS "__qualname__") 834) (.str (oS "WeightRule.read") 833), .mk (kH P (oS "__doc__")) (.str (oS "__doc__") 836) .none, .mk (kH P (oS "__annotations__")) (.str (oS "__annotations__") 838) (.ref 478)] 5) #[]
noncomputable def ob2_477 (P : Params) : Obj := .mk (.type "staticmethod") (.some 476) (.fields #[.ref 475, .bool false]) #[]
noncomputable def ob2_478 (P : Params) : Obj := .mk (.type "dict") .none (.dict #[]) #[]
noncomputable def ob2_479 (P : Params) : Obj := .mk (.type "tuple") .none (.seq #[]) #[]
noncomputable def ob2_480 (P : Params) : Obj := .mk (.type "dict") .none (.dict #[.mk (kH P (oS "__module__")) (.str (oS "__module__") 790) (.str (oS "evenrules.rules") 742), .mk (kH P (oS "__firstlineno__")) (.str (oS "__firstlineno__") 794) (.int 222 793), .mk (kH P (oS "MOST")) (.str (oS "MOST") 796) (.int 6 795), .mk (kH P (oS "__call__")) (.str (oS "__call__") 805) (.ref 456), .mk (kH P (oS "greatest")) (.str (oS "greatest") 813) (.ref 463), .mk (kH P (oS "least")) (.str (oS "least") 821) (.ref 470), .mk (kH P (oS "read")) (.str (oS "read") 839) (.ref 477), .mk (kH P (oS "__static_attributes__")) (.str (oS "__static_attributes__") 840) (.ref 479), .mk (kH P (oS "__doc__")) (.str (oS "__doc__") 841) .none] 2) #[]
noncomputable def ob2_481 (P : Params) : Obj := .mk (.type "type") .none (.cls (.mk (oS "WeightRule") [.ref 438] [.ref 481, .ref 438, .type "object"] 480 (oS "WeightRule") true [] [] false .none false)) #[.some (.ref 443), .none, .some (.str (oS "WeightRule") 783), .some (.str (oS "WeightRule") 791), .some (.builtin "object.__new__"), .some (.bool true)]
noncomputable def ob2_482 (P : Params) : Obj := .mk (.type "super") .none (.fields #[.ref 481, .ref 481, .ref 481]) #[]
noncomputable def ob2_483 (P : Params) : Obj := .mk (.type "builtin_function_or_method") .none (.fields #[.builtin "object.__init_subclass__", .ref 481]) #[]
noncomputable def ob3_3 (P : Params) : Obj := .mk (.type "dict") .none (.dict #[.mk (kH P (oS "__name__")) (.str (oS "__name__") 165) (.str (oS "evenrules.trees") 1638), .mk (kH P (oS "__doc__")) (.str (oS "__doc__") 166) .none, .mk (kH P (oS "__package__")) (.str (oS "__package__") 167) .none, .mk (kH P (oS "__loader__")) (.str (oS "__loader__") 168) (.builtin "__main__.__loader__#opaque"), .mk (kH P (oS "__spec__")) (.str (oS "__spec__") 169) .none, .mk (kH P (oS "__annotations__")) (.str (oS "__annotations__") 170) (.ref 6), .mk (kH P (oS "__builtins__")) (.str (oS "__builtins__") 171) (.ref 4), .mk (kH P (oS "__file__")) (.str (oS "__file__") 173) (.str (oS "/claim/cut.py") 172), .mk (kH P (oS "__cached__")) (.str (oS "__cached__") 174) .none, .mk (kH P (oS "_wall")) (.str (oS "_wall") 193) (.ref 21), .mk (kH P (oS "kept")) (.str (oS "kept") 202) (.ref 28), .mk (kH P (oS "is_flat")) (.str (oS "is_flat") 210) (.ref 35), .mk (kH P (oS "copied_deep")) (.str (oS "copied_deep") 216) (.ref 40), .mk (kH P (oS "parts_of")) (.str (oS "parts_of") 223) (.ref 47), .mk (kH P (oS "rebuilt")) (.str (oS "rebuilt") 229) (.ref 52), .mk (kH P (oS "are_same")) (.str (oS "are_same") 240) (.ref 59), .mk (kH P (oS "are_alike")) (.str (oS "are_alike") 246) (.ref 64), .mk (kH P (oS "pairs_of_parts")) (.str (oS "pairs_of_parts") 252) (.ref 69), .mk (kH P (oS "FairError")) (.str (oS "FairError") 272) (.ref 79), .mk (kH P (oS "BadRule")) (.str (oS "BadRule") 297) (.ref 99), .mk (kH P (oS "NoHalves")) (.str (oS "NoHalves") 322) (.ref 118), .mk (kH P (oS "BadNumber")) (.str (oS "BadNumber") 347) (.ref 137), .mk (kH P (oS "BadKey")) (.str (oS "BadKey") 372) (.ref 156), .mk (kH P (oS "NoKey")) (.str (oS "NoKey") 397) (.ref 175), .mk (kH P (oS "Taken")) (.str (oS "Taken") 422) (.ref 194), .mk (kH P (oS "Overlap")) (.str (oS "Overlap") 447) (.ref 213), .mk (kH P (oS "Stuck")) (.str (oS "Stuck") 472) (.ref 232), .mk (kH P (oS "BadOther")) (.str (oS "BadOther") 497) (.ref 251), .mk (kH P (oS "BadText")) (.str (oS "BadText") 524) (.ref 270), .mk (kH P (oS "Nothing")) (.str (oS "Nothing") 540) (.ref 282), .mk (kH P (oS "TooMany")) (.str (oS "TooMany") 567) (.ref 301), .mk (kH P (oS "KEY_BOUND")) (.str (oS "KEY_BOUND") 573) (.int 1000000000000000000000000000000 572), .mk (kH P (oS "is_integer")) (.str (oS "is_integer") 580) (.ref 310), .mk (kH P (oS "is_within")) (.str (oS "is_within") 589) (.ref 317), .mk (kH P (oS "is_key")) (.str (oS "is_key") 596) (.ref 324), .mk (kH P (oS "need_key")) (.str (oS "need_key") 603) (.ref 331), .mk (kH P (oS "need_pairs")) (.str (oS "need_pairs") 611) (.ref 338), .mk (kH P (oS "Node")) (.str (oS "Node") 648) (.ref 355), .mk (kH P (oS "weight_of")) (.str (oS "weight_of") 655) (.ref 366), .mk (kH P (oS "form_of")) (.str (oS "form_of") 662) (.ref 373), .mk (kH P (oS "halved")) (.str (oS "halved") 672) (.ref 380), .mk (kH P (oS "nodes_of")) (.str (oS "nodes_of") 682) (.ref 387), .mk (kH P (oS "levels_of")) (.str (oS "levels_of") 688) (.ref 392), .mk (kH P (oS "words_of")) (.str (oS "words_of") 698) (.ref 399), .mk (kH P (oS "PIECE")) (.str (oS "PIECE") 704) (.int 10000000000000000000000000000000000000000000000000000000000000000 703), .mk (kH P (oS "PIECE_LENGTH")) (.str (oS "PIECE_LENGTH") 706) (.int 64 705), .mk (kH P (oS "number_word")) (.str (oS "number_word") 717) (.ref 406), .mk (kH P (oS "pair_word")) (.str (oS "pair_word") 724) (.ref 413), .mk (kH P (oS "read_number")) (.str (oS "read_number") 735) (.ref 420), .mk (kH P (oS "read_pair")) (.str (oS "read_pair") 741) (.ref 425), .mk (kH P (oS "MOST_PLUS")) (.str (oS "MOST_PLUS") 745) (.int 6 744), .mk (kH P (oS "MOST_TURN")) (.str (oS "MOST_TURN") 747) (.int 8 746), .mk (kH P (oS "MOST_WEIGHT")) (.str (oS "MOST_WEIGHT") 751) (.int 1000000000000000000000000000000000000000000000000000000000000 750), .mk (kH P (oS "WORDS")) (.str (oS "WORDS") 762) (.ref 426), .mk (kH P (oS "Rule")) (.str (oS "Rule") 782) (.ref 438), .mk (kH P (oS "WeightRule")) (.str (oS "WeightRule") 843) (.ref 481), .mk (kH P (oS "TurnRule")) (.str (oS "TurnRule") 906) (.ref 523), .mk (kH P (oS "TryRule")) (.str (oS "TryRule") 973) (.ref 571), .mk (kH P (oS "are_fair")) (.str (oS "are_fair") 984) (.ref 580), .mk (kH P (oS "greatest_beside")) (.str (oS "greatest_beside") 994) (.ref 587), .mk (kH P (oS "least_beside")) (.str (oS "least_beside") 1004) (.ref 594), .mk (kH P (oS "need_rule")) (.str (oS "need_rule") 1011) (.ref 601), .mk (kH P (oS "need_weight")) (.str (oS "need_weight") 1018) (.ref 608), .mk (kH P (oS "is_pair")) (.str (oS "is_pair") 1024) (.ref 613), .mk (kH P (oS "is_times")) (.str (oS "is_times") 1031) (.ref 620), .mk (kH P (oS "is_plus")) (.str (oS "is_plus") 1038) (.ref 627), .mk (kH P (oS "is_turn")) (.str (oS "is_turn") 1045) (.ref 634), .mk (kH P (oS "need_times")) (.str (oS "need_times") 1053) (.ref 641), .mk (kH P (oS "has_halves")) (.str (oS "has_halves") 1063) (.ref 648), .mk (kH P (oS "need_halves")) (.str (oS "need_halves") 1073) (.ref 655), .mk (kH P (oS "wrong_rule_word")) (.str (oS "wrong_rule_word") 1083) (.ref 662), .mk (kH P (oS "word_value")) (.str (oS "word_value") 1090) (.ref 669), .mk (kH P (oS "can_stand")) (.str (oS "can_stand") 1098) (.ref 676), .mk (kH P (oS "with_key")) (.str (oS "with_key") 1112) (.ref 683), .mk (kH P (oS "without_key")) (.str (oS "without_key") 1126) (.ref 690), .mk (kH P (oS "steps_to_neighbour")) (.str (oS "steps_to_neighbour") 1137) (.ref 697), .mk (kH P (oS "mended")) (.str (oS "mended") 1150) (.ref 704), .mk (kH P (oS "balanced")) (.str (oS "balanced") 1163) (.ref 711), .mk (kH P (oS "turned")) (.str (oS "turned") 1183) (.ref 718), .mk (kH P (oS "sides_of")) (.str (oS "sides_of") 1191) (.ref 725), .mk (kH P (oS "joined")) (.str (oS "joined") 1201) (.ref 732), .mk (kH P (oS "MOST_KEYS")) (.str (oS "MOST_KEYS") 1205) (.int 2000 1204), .mk (kH P (oS "State")) (.str (oS "State") 1240) (.ref 749), .mk (kH P (oS "halves_state")) (.str (oS "halves_state") 1246) (.ref 758), .mk (kH P (oS "first_from")) (.str (oS "first_from") 1257) (.ref 765), .mk (kH P (oS "with_entries")) (.str (oS "with_entries") 1270) (.ref 772), .mk (kH P (oS "without_entry")) (.str (oS "without_entry") 1281) (.ref 779), .mk (kH P (oS "entries_of")) (.str (oS "entries_of") 1287) (.ref 784), .mk (kH P (oS "under_rule")) (.str (oS "under_rule") 1295) (.ref 791), .mk (kH P (oS "rebuilt_unfair")) (.str (oS "rebuilt_unfair") 1307) (.ref 798), .mk (kH P (oS "unfair_keys")) (.str (oS "unfair_keys") 1313) (.ref 803), .mk (kH P (oS "Reading")) (.str (oS "Reading") 1495) (.ref 956), .mk (kH P (oS "Parts")) (.str (oS "Parts") 1588) (.ref 1033), .mk (kH P (oS "need_tree")) (.str (oS "need_tree") 1595) (.ref 1042), .mk (kH P (oS "united")) (.str (oS "united") 1604) (.ref 1049), .mk (kH P (oS "Saved")) (.str (oS "Saved") 1637) (.ref 1066), .mk (kH P (oS "Tree")) (.str (oS "Tree") 1805) (.ref 1201)] 97) #[]
noncomputable def ob3_12 (P : Params) : Obj := .mk .none .none (.fields #[.int 1 0, .int 0 0, .ref 20, .int 5 0, .int 0 0, .ref 27, .int 11 0, .int 0 0, .ref 34, .int 16 0, .int 0 0, .ref 39, .int 33 0, .int 0 0, .ref 46, .int 37 0, .int 0 0, .ref 51, .int 41 0, .int 0 0, .ref 58, .int 52 0, .int 0 0, .ref 63, .int 57 0, .int 0 0, .ref 68, .int 63 0, .int 0 0, .ref 75, .int 65 0, .int 0 0, .ref 88, .int 69 0, .int 0 0, .ref 107, .int 73 0, .int 0 0, .ref 126, .int 77 0, .int 0 0, .ref 145, .int 81 0, .int 0 0, .ref 164, .int 85 0, .int 0 0, .ref 183, .int 89 0, .int 0 0, .ref 202, .int 93 0, .int 0 0, .ref 221, .int 97 0, .int 0 0, .ref 240, .int 101 0, .int 0 0, .ref 259, .int 106 0, .int 0 0, .ref 278, .int 108 0, .int 0 0, .ref 290, .int 115 0, .int 0 0, .ref 309, .int 117 0, .int 0 0, .ref 316, .int 119 0, .int 0 0, .ref 323, .int 121 0, .int 0 0, .ref 330, .int 124 0, .int 0 0, .ref 337, .int 131 0, .int 0 0, .ref 344, .int 139 0, .int 0 0, .ref 365, .int 141 0, .int 0 0, .ref 372, .int 143 0, .int 0 0, .ref 379, .int 148 0, .int 0 0, .ref 386, .int 158 0, .int 0 0, .ref 391, .int 167 0, .int 0 0, .ref 398, .int 186 0, .int 0 0, .ref 405, .int 197 0, .int 0 0, .ref 412, .int 199 0, .int 0 0, .ref 419, .int 210 0, .int 0 0, .ref 424, .int 220 0, .int 0 0, .ref 434, .int 222 0, .int 0 0, .ref 448, .int 250 0, .int 0 0, .ref 489, .int 275 0, .int 0 0, .ref 531, .int 297 0, .int 0 0, .ref 579, .int 300 0, .int 0 0, .ref 586, .int 303 0, .int 0 0, .ref 593, .int 306 0, .int 0 0, .ref 600, .int 309 0, .int 0 0, .ref 607, .int 312 0, .int 0 0, .ref 612, .int 314 0, .int 0 0, .ref 619, .int 316 0, .int 0 0, .ref 626, .int 318 0, .int 0 0, .ref 633, .int 320 0, .int 0 0, .ref 640, .int 325 0, .int 0 0, .ref 647, .int 328 0, .int 0 0, .ref 654, .int 334 0, .int 0 0, .ref 661, .int 344 0, .int 0 0, .ref 668, .int 346 0, .int 0 0, .ref 675, .int 351 0, .int 0 0, .ref 682, .int 359 0, .int 0 0, .ref 689, .int 373 0, .int 0 0, .ref 696, .int 382 0, .int 0 0, .ref 703, .int 389 0, .int 0 0, .ref 710, .int 396 0, .int 0 0, .ref 717, .int 408 0, .int 0 0, .ref 724, .int 410 0, .int 0 0, .ref 731, .int 414 0, .int 0 0, .ref 738, .int 421 0, .int 0 0, .ref 757, .int 424 0, .int 0 0, .ref 764, .int 433 0, .int 0 0, .ref 771, .int 446 0, .int 0 0, .ref 778, .int 452 0, .int 0 0, .ref 783, .int 454 0, .int 0 0, .ref 790, .int 456 0, .int 0 0, .ref 797, .int 463 0, .int 0 0, .ref 802, .int 470 0, .int 0 0, .ref 809, .int 545 0, .int 0 0, .ref 966, .int 590 0, .int 0 0, .ref 1041, .int 593 0, .int 0 0, .ref 1048, .int 599 0, .int 0 0, .ref 1055, .int 605 0, .int 0 0, .ref 1076]) #[]
noncomputable def ob3_481 (P : Params) : Obj := .mk (.type "type") .none (.cls (.mk (oS "WeightRule") [.ref 438] [.ref 481, .ref 438, .type "object"] 480 (oS "WeightRule") true [] [.ref 523, .ref 571] false .none false)) #[.some (.ref 443), .none, .some (.str (oS "WeightRule") 783), .some (.str (oS "WeightRule") 791), .some (.builtin "object.__new__"), .some (.bool true)]
noncomputable def ob3_484 (P : Params) : Obj := .mk (.type "tuple") .none (.seq #[.ref 481]) #[]
noncomputable def ob3_485 (P : Params) : Obj := .mk (.type "builtin_function_or_method") .none (.fields #[.builtin "type.__prepare__", .type "type"]) #[]
noncomputable def ob3_486 (P : Params) : Obj := .mk (.type "dict") .none (.dict #[.mk (kH P (oS "__module__")) (.str (oS "__module__") 851) (.str (oS "evenrules.rules") 742), .mk (kH P (oS "__qualname__")) (.str (oS "__qualname__") 853) (.str (oS "TurnRule") 852), .mk (kH P (oS "__firstlineno__")) (.str (oS "__firstlineno__") 855) (.int 250 854), .mk (kH P (oS "__init__")) (.str (oS "__init__") 869) (.ref 499), .mk (kH P (oS "turns")) (.str (oS "turns") 882) (.ref 506), .mk (kH P (oS "__eq__")) (.str (oS "__eq__") 890) (.ref 513), .mk (kH P (oS "__str__")) (.str (oS "__str__") 897) (.ref 520), .mk (kH P (oS "__static_attributes__")) (.str (oS "__static_attributes__") 902) (.ref 521)] 8) #[]
noncomputable def ob3_487 (P : Params) : Obj := .mk (.type "tuple") .none (.seq #[]) #[]
noncomputable def ob3_488 (P : Params) : Obj := .mk .none .none (.fields #[.int 252 0, .int 4 0, .ref 498, .int 264 0, .int 4 0, .ref 505, .int 270 0, .int 4 0, .ref 512, .int 273 0, .int 4 0, .ref 519]) #[]
noncomputable def ob3_489 (P : Params) : Obj := .mk (.type "code") .none (.fields #[.str (oS "TurnRule") 846, .str (oS "TurnRule") 847, .str (oS "/claim/cut.py") 848, .int 250 0, .int 0 0, .int 0 0, .int 0 0, .int 0 0, .ref 487, .bool false, .int 181 0, .ref 488, .none, .none, .none, .none, .int 849 0, .int 250 0, .str (oS "/claim/cut.py") 850]) #[]
noncomputable def ob3_490 (P : Params) : Obj := .mk (.type "frame") .none .plain #[.some (.ref 489), .some (.ref 3), .some (.ref 486), .none, .some (.str (oS "evenrules.rules") 742), .none, .some (.ref 0)]
noncomputable def ob3_491 (P : Params) : Obj := .mk (.type "tuple") .none (.seq #[.int 0 856]) #[]
noncomputable def ob3_492 (P : Params) : Obj := .mk (.type "dict") .none (.dict #[.mk (kH P (oS "turn_plus")) (.str (oS "turn_plus") 858) (.int 0 857)] 1) #[]
noncomputable def ob3_493 (P : Params) : Obj := .mk (.type "tuple") .none (.seq #[]) #[]
noncomputable def ob3_494 (P : Params) : Obj := .mk .none .none (.fields #[]) #[]
noncomputable def ob3_495 (P : Params) : Obj := .mk (.type "tuple") .none (.seq #[.str (oS "self") 862, .str (oS "times") 863, .str (oS "plus") 864, .str (oS "turn") 865, .str (oS "turn_plus") 866]) #[]
noncomputable def ob3_496 (P : Params) : Obj := .mk (.type "tuple") .none (.seq #[]) #[]
noncomputable def ob3_497 (P : Params) : Obj := .mk .none .none (.func (.mk (oS "__init__") (oS "TurnRule.__init__") (defArgs (inClass (top 53) 0)) (.stmts (defBody (inClass (top 53) 0))) (defScope (inClass (top 53) 0)) 0 [] .none .none .none .none .none .none .none 0)) #[]
noncomputable def ob3_498 (P : Params) : Obj := .mk (.type "code") .none (.fields #[.str (oS "__init__") 859, .str (oS "TurnRule.__init__") 860, .str (oS "/claim/cut.py") 861, .int 252 0, .int 3 0, .int 0 0, .int 2 0, .int 3 0, .ref 493, .bool true, .int 181 0, .ref 494, .none, .ref 495, .ref 496, .ref 497, .int 867 0, .int 252 0, .str (oS "/claim/cut.py") 868]) #[]
noncomputable def ob3_499 (P : Params) : Obj := .mk (.type "function") .none (.func (.mk (oS "__init__") (oS "TurnRule.__init__") (defArgs (inClass (top 53) 0)) (.stmts (defBody (inClass (top 53) 0))) (defScope (inClass (top 53) 0)) 3 [] (.ref 491) (.ref 492) .none (.str (oS "evenrules.rules") 742) .none (.ref 498) .none 0)) #[]
noncomputable def ob3_500 (P : Params) : Obj := .mk (.type "tuple") .none (.seq #[]) #[]
noncomputable def ob3_501 (P : Params) : Obj := .mk .none .none (.fields #[]) #[]
noncomputable def ob3_502 (P : Params) : Obj := .mk (.type "tuple") .none (.seq #[.str (oS "self") 873, .str (oS "light") 874, .str (oS "inner") 875, .str (oS "outer") 876, .str (oS "near") 877, .str (oS "over") 878, .str (oS "under") 879]) #[]
noncomputable def ob3_503 (P : Params) : Obj := .mk (.type "tuple") .none (.seq #[]) #[]
noncomputable def ob3_504 (P : Params) : Obj := .mk .none .none (.func (.mk (oS "turns") (oS "TurnRule.turns") (defArgs (inClass (top 53) 1)) (.stmts (defBody (inClass (top 53) 1))) (defScope (inClass (top 53) 1)) 0 [] .none .none .none .none .none .none .none 0)) #[]
noncomputable def ob3_505 (P : Params) : Obj := .mk (.type "code") .none (.fields #[.str (oS "turns") 870, .str (oS "TurnRule.turns") 871, .str (oS "/claim/cut.py") 872, .int 264 0, .int 5 0, .int 0 0, .int 0 0, .int 3 0, .ref 500, .bool true, .int 181 0, .ref 501, .none, .ref 502, .ref 503, .ref 504, .int 880 0, .int 264 0, .str (oS "/claim/cut.py") 881]) #[]
noncomputable def ob3_506 (P : Params) : Obj := .mk (.type "function") .none (.func (.mk (oS "turns") (oS "TurnRule.turns") (defArgs (inClass (top 53) 1)) (.stmts (defBody (inClass (top 53) 1))) (defScope (inClass (top 53) 1)) 3 [] .none .none .none (.str (oS "evenrules.rules") 742) .none (.ref 505) .none 0)) #[]
noncomputable def ob3_507 (P : Params) : Obj := .mk (.type "tuple") .none (.seq #[]) #[]
noncomputable def ob3_508 (P : Params) : Obj := .mk .none .none (.fields #[]) #[]
noncomputable def ob3_509 (P : Params) : Obj := .mk (.type "tuple") .none (.seq #[.str (oS "self") 886, .str (oS "other") 887]) #[]
noncomputable def ob3_510 (P : Params) : Obj := .mk (.type "tuple") .none (.seq #[]) #[]
noncomputable def ob3_511 (P : Params) : Obj := .mk .none .none (.func (.mk (oS "__eq__") (oS "TurnRule.__eq__") (defArgs (inClass (top 53) 2)) (.stmts (defBody (inClass (top 53) 2))) (defScope (inClass (top 53) 2)) 0 [] .none .none .none .none .none .none .none 0)) #[]
noncomputable def ob3_512 (P : Params) : Obj := .mk (.type "code") .none (.fields #[.str (oS "__eq__") 883, .str (oS "TurnRule.__eq__") 884, .str (oS "/claim/cut.py") 885, .int 270 0, .int 2 0, .int 0 0, .int 0 0, .int 3 0, .ref 507, .bool true, .int 181 0, .ref 508, .none, .ref 509, .ref 510, .ref 511, .int 888 0, .int 270 0, .str (oS "/claim/cut.py") 889]) #[]
noncomputable def ob3_513 (P : Params) : Obj := .mk (.type "function") .none (.func (.mk (oS "__eq__") (oS "TurnRule.__eq__") (defArgs (inClass (top 53) 2)) (.stmts (defBody (inClass (top 53) 2))) (defScope (inClass (top 53) 2)) 3 [] .none .none .none (.str (oS "evenrules.rules") 742) .none (.ref 512) .none 0)) #[]
noncomputable def ob3_514 (P : Params) : Obj := .mk (.type "tuple") .none (.seq #[]) #[]
noncomputable def ob3_515 (P : Params) : Obj := .mk .none .none (.fields #[]) #[]
noncomputable def ob3_516 (P : Params) : Obj := .mk (.type "tuple") .none (.seq #[.str (oS "self") 894]) #[]
noncomputable def ob3_517 (P : Params) : Obj := .mk (.type "tuple") .none (.seq #[]) #[]
noncomputable def ob3_518 (P : Params) : Obj := .mk .none .none (.func (.mk (oS "__str__") (oS "TurnRule.__str__") (defArgs (inClass (top 53) 3)) (.stmts (defBody (inClass (top 53) 3))) (defScope (inClass (top 53) 3)) 0 [] .none .none .none .none .none .none .none 0)) #[]
noncomputable def ob3_519 (P : Params) : Obj := .mk (.type "code") .none (.fields #[.str (oS "__str__") 891, .str (oS "TurnRule.__str__") 892, .str (oS "/claim/cut.py") 893, .int 273 0, .int 1 0, .int 0 0, .int 0 0, .int 3 0, .ref 514, .bool true, .int 181 0, .ref 515, .none, .ref 516, .ref 517, .ref 518, .int 895 0, .int 273 0, .str (oS "/claim/cut.py") 896]) #[]
noncomputable def ob3_520 (P : Params) : Obj := .mk (.type "function") .none (.func (.mk (oS "__str__") (oS "TurnRule.__str__") (defArgs (inClass (top 53) 3)) (.stmts (defBody (inClass (top 53) 3))) (defScope (inClass (top 53) 3)) 3 [] .none .none .none (.str (oS "evenrules.rules") 742) .none (.ref 519) .none 0)) #[]
noncomputable def ob3_521 (P : Params) : Obj := .mk (.type "tuple") .none (.seq #[.str (oS "plus") 898, .str (oS "times") 899, .str (oS "turn") 900, .str (oS "turn_plus") 901]) #[]
noncomputable def ob3_522 (P : Params) : Obj := .mk (.type "dict") .none (.dict #[.mk (kH P (oS "__module__")) (.str (oS "__module__") 851) (.str (oS "evenrules.rules") 742), .mk (kH P (oS "__firstlineno__")) (.str (oS "__firstlineno__") 855) (.int 250 854), .mk (kH P (oS "__init__")) (.str (oS "__init__") 869) (.ref 499), .mk (kH P (oS "turns")) (.str (oS "turns") 882) (.ref 506), .mk (kH P (oS "__eq__")) (.str (oS "__eq__") 890) (.ref 513), .mk (kH P (oS "__str__")) (.str (oS "__str__") 897) (.ref 520), .mk (kH P (oS "__static_attributes__")) (.str (oS "__static_attributes__") 902) (.ref 521), .mk (kH P (oS "__doc__")) (.str (oS "__doc__") 903) .none, .mk (kH P (oS "__hash__")) (.str (oS "__hash__") 904) .none] 3) #[]
noncomputable def ob3_523 (P : Params) : Obj := .mk (.type "type") .none (.cls (.mk (oS "TurnRule") [.ref 481] [.ref 523, .ref 481, .ref 438, .type "object"] 522 (oS "TurnRule") true [] [] false .none false)) #[.some (.ref 484), .none, .some (.str (oS "TurnRule") 844), .some (.str (oS "TurnRule") 852), .some (.builtin "object.__new__"), .some (.bool true)]
noncomputable def ob3_524 (P : Params) : Obj := .mk (.type "super") .none (.fields #[.ref 523, .ref 523, .ref 523]) #[]
noncomputable def ob3_525 (P : Params) : Obj := .mk (.type "builtin_function_or_method") .none (.fields #[.builtin "object.__init_subclass__", .ref 523]) #[]
noncomputable def ob3_526 (P : Params) : Obj := .mk (.type "tuple") .none (.seq #[.ref 481]) #[]
noncomputable def ob3_527 (P : Params) : Obj := .mk (.type "builtin_function_or_method") .none (.fields #[.builtin "type.__prepare__", .type "type"]) #[]
noncomputable def ob3_528 (P : Params) : Obj := .mk (.type "dict") .none (.dict #[.mk (kH P (oS "__module__")) (.str (oS "__module__") 914) (.str (oS "evenrules.rules") 742), .mk (kH P (oS "__qualname__")) (.str (oS "__qualname__") 916) (.str (oS "TryRule") 915), .mk (kH P (oS "__firstlineno__")) (.str (oS "__firstlineno__") 918) (.int 275 917), .mk (kH P (oS "__init__")) (.str (oS "__init__") 928) (.ref 540), .mk (kH P (oS "turns")) (.str (oS "turns") 939) (.ref 547), .mk (kH P (oS "twice_is_fair")) (.str (oS "twice_is_fair") 951) (.ref 554), .mk (kH P (oS "__eq__")) (.str (oS "__eq__") 959) (.ref 561), .mk (kH P (oS "__str__")) (.str (oS "__str__") 966) (.ref 568), .mk (kH P (oS "__static_attributes__")) (.str (oS "__static_attributes__") 969) (.ref 569)] 9) #[]
noncomputable def ob3_529 (P : Params) : Obj := .mk (.type "tuple") .none (.seq #[]) #[]
noncomputable def ob3_530 (P : Params) : Obj := .mk .none .none (.fields #[.int 277 0, .int 4 0, .ref 539, .int 283 0, .int 4 0, .ref 546, .int 288 0, .int 4 0, .ref 553, .int 292 0, .int 4 0, .ref 560, .int 295 0, .int 4 0, .ref 567]) #[]
noncomputable def ob3_531 (P : Params) : Obj := .mk (.type "code") .none (.fields #[.str (oS "TryRule") 909, .str (oS "TryRule") 910, .str (oS "/claim/cut.py") 911, .int 275 0, .int 0 0, .int 0 0, .int 0 0, .int 0 0, .ref 529, .bool false, .int 181 0, .ref 530, .none, .none, .none, .none, .int 912 0, .int 275 0, .str (oS "/claim/cut.py") 913]) #[]
noncomputable def ob3_532 (P : Params) : Obj := .mk (.type "frame") .none .plain #[.some (.ref 531), .some (.ref 3), .some (.ref 528), .none, .some (.str (oS "evenrules.rules") 742), .none, .some (.ref 0)]
noncomputable def ob3_533 (P : Params) : Obj := .mk (.type "tuple") .none (.seq #[.int 0 919]) #[]
noncomputable def ob3_534 (P : Params) : Obj := .mk (.type "tuple") .none (.seq #[]) #[]
noncomputable def ob3_535 (P : Params) : Obj := .mk .none .none (.fields #[]) #[]
noncomputable def ob3_536 (P : Params) : Obj := .mk (.type "tuple") .none (.seq #[.str (oS "self") 923, .str (oS "times") 924, .str (oS "plus") 925]) #[]
noncomputable def ob3_537 (P : Params) : Obj := .mk (.type "tuple") .none (.seq #[]) #[]
noncomputable def ob3_538 (P : Params) : Obj := .mk .none .none (.func (.mk (oS "__init__") (oS "TryRule.__init__") (defArgs (inClass (top 54) 0)) (.stmts (defBody (inClass (top 54) 0))) (defScope (inClass (top 54) 0)) 0 [] .none .none .none .none .none .none .none 0)) #[]
noncomputable def ob3_539 (P : Params) : Obj := .mk (.type "code") .none (.fields #[.str (oS "__init__") 920, .str (oS "TryRule.__init__") 921, .str (oS "/claim/cut.py") 922, .int 277 0, .int 3 0, .int 0 0, .int 0 0, .int 3 0, .ref 534, .bool true, .int 181 0, .ref 535, .none, .ref 536, .ref 537, .ref 538, .int 926 0, .int 277 0, .str (oS "/claim/cut.py") 927]) #[]
noncomputable def ob3_540 (P : Params) : Obj := .mk (.type "function") .none (.func (.mk (oS "__init__") (oS "TryRule.__init__") (defArgs (inClass (top 54) 0)) (.stmts (defBody (inClass (top 54) 0))) (defScope (inClass (top 54) 0)) 3 [] (.ref 533) .none .none (.str (oS "evenrules.rules") 742) .none (.ref 539) .none 0)) #[]
noncomputable def ob3_541 (P : Params) : Obj := .mk (.type "tuple") .none (.seq #[]) #[]
noncomputable def ob3_542 (P : Params) : Obj := .mk .none .none (.fields #[]) #[]
noncomputable def ob3_543 (P : Params) : Obj := .mk (.type "tuple") .none (.seq #[.str (oS "self") 932, .str (oS "light") 933, .str (oS "inner") 934, .str (oS "outer") 935, .str (oS "near") 936]) #[]
noncomputable def ob3_544 (P : Params) : Obj := .mk (.type "tuple") .none (.seq #[]) #[]
noncomputable def ob3_545 (P : Params) : Obj := .mk .none .none (.func (.mk (oS "turns") (oS "TryRule.turns") (defArgs (inClass (top 54) 1)) (.stmts (defBody (inClass (top 54) 1))) (defScope (inClass (top 54) 1)) 0 [] .none .none .none .none .none .none .none 0)) #[]
noncomputable def ob3_546 (P : Params) : Obj := .mk (.type "code") .none (.fields #[.str (oS "turns") 929, .str (oS "TryRule.turns") 930, .str (oS "/claim/cut.py") 931, .int 283 0, .int 5 0, .int 0 0, .int 0 0, .int 3 0, .ref 541, .bool true, .int 181 0, .ref 542, .none, .ref 543, .ref 544, .ref 545, .int 937 0, .int 283 0, .str (oS "/claim/cut.py") 938]) #[]
noncomputable def ob3_547 (P : Params) : Obj := .mk (.type "function") .none (.func (.mk (oS "turns") (oS "TryRule.turns") (defArgs (inClass (top 54) 1)) (.stmts (defBody (inClass (top 54) 1))) (defScope (inClass (top 54) 1)) 3 [] .none .none .none (.str (oS "evenrules.rules") 742) .none (.ref 546) .none 0)) #[]
noncomputable def ob3_548 (P : Params) : Obj := .mk (.type "tuple") .none (.seq #[]) #[]
noncomputable def ob3_549 (P : Params) : Obj := .mk .none .none (.fields #[]) #[]
noncomputable def ob3_550 (P : Params) : Obj := .mk (.type "tuple") .none (.seq #[.str (oS "self") 943, .str (oS "light") 944, .str (oS "inner") 945, .str (oS "outer") 946, .str (oS "near") 947, .str (oS "far") 948]) #[]
noncomputable def ob3_551 (P : Params) : Obj := .mk (.type "tuple") .none (.seq #[]) #[]
noncomputable def ob3_552 (P : Params) : Obj := .mk .none .none (.func (.mk (oS "twice_is_fair") (oS "TryRule.twice_is_fair") (defArgs (inClass (top 54) 2)) (.stmts (defBody (inClass (top 54) 2))) (defScope (inClass (top 54) 2)) 0 [] .none .none .none .none .none .none .none 0)) #[]
noncomputable def ob3_553 (P : Params) : Obj := .mk (.type "code") .none (.fields #[.str (oS "twice_is_fair") 940, .str (oS "TryRule.twice_is_fair") 941, .str (oS "/claim/cut.py") 942, .int 288 0, .int 5 0, .int 0 0, .int 0 0, .int 3 0, .ref 548, .bool true, .int 181 0, .ref 549, .none, .ref 550, .ref 551, .ref 552, .int 949 0, .int 288 0, .str (oS "/claim/cut.py") 950]) #[]
noncomputable def ob3_554 (P : Params) : Obj := .mk (.type "function") .none (.func (.mk (oS "twice_is_fair") (oS "TryRule.twice_is_fair") (defArgs (inClass (top 54) 2)) (.stmts (defBody (inClass (top 54) 2))) (defScope (inClass (top 54) 2)) 3 [] .none .none .none (.str (oS "evenrules.rules") 742) .none (.ref 553) .none 0)) #[]
noncomputable def ob3_555 (P : Params) : Obj := .mk (.type "tuple") .none (.seq #[]) #[]
noncomputable def ob3_556 (P : Params) : Obj := .mk .none .none (.fields #[]) #[]
noncomputable def ob3_557 (P : Params) : Obj := .mk (.type "tuple") .none (.seq #[.str (oS "self") 955, .str (oS "other") 956]) #[]
noncomputable def ob3_558 (P : Params) : Obj := .mk (.type "tuple") .none (.seq #[]) #[]
noncomputable def ob3_559 (P : Params) : Obj := .mk .none .none (.func (.mk (oS "__eq__") (oS "TryRule.__eq__") (defArgs (inClass (top 54) 3)) (.stmts (defBody (inClass (top 54) 3))) (defScope (inClass (top 54) 3)) 0 [] .none .none .none .none .none .none .none 0)) #[]
noncomputable def ob3_560 (P : Params) : Obj := .mk (.type "code") .none (.fields #[.str (oS "__eq__") 952, .str (oS "TryRule.__eq__") 953, .str (oS "/claim/cut.py") 954, .int 292 0, .int 2 0, .int 0 0, .int 0 0, .int 3 0, .ref 555, .bool true, .int 181 0, .ref 556, .none, .ref 557, .ref 558, .ref 559, .int 957 0, .int 292 0, .str (oS "/claim/cut.py") 958]) #[]
noncomputable def ob3_561 (P : Params) : Obj := .mk (.type "function") .none (.func (.mk (oS "__eq__") (oS "TryRule.__eq__") (defArgs (inClass (top 54) 3)) (.stmts (defBody (inClass (top 54) 3))) (defScope (inClass (top 54) 3)) 3 [] .none .none .none (.str (oS "evenrules.rules") 742) .none (.ref 560) .none 0)) #[]
noncomputable def ob3_562 (P : Params) : Obj := .mk (.type "tuple") .none (.seq #[]) #[]
noncomputable def ob3_563 (P : Params) : Obj := .mk .none .none (.fields #[]) #[]
noncomputable def ob3_564 (P : Params) : Obj := .mk (.type "tuple") .none (.seq #[.str (oS "self") 963]) #[]
noncomputable def ob3_565 (P : Params) : Obj := .mk (.type "tuple") .none (.seq #[]) #[]
noncomputable def ob3_566 (P : Params) : Obj := .mk .none .none (.func (.mk (oS "__str__") (oS "TryRule.__str__") (defArgs (inClass (top 54) 4)) (.stmts (defBody (inClass (top 54) 4))) (defScope (inClass (top 53) 3)) 0 [] .none .none .none .none .none .none .none 0)) #[]
noncomputable def ob3_567 (P : Params) : Obj := .mk (.type "code") .none (.fields #[.str (oS "__str__") 960, .str (oS "TryRule.__str__") 961, .str (oS "/claim/cut.py") 962, .int 295 0, .int 1 0, .int 0 0, .int 0 0, .int 3 0, .ref 562, .bool true, .int 181 0, .ref 563, .none, .ref 564, .ref 565, .ref 566, .int 964 0, .int 295 0, .str (oS "/claim/cut.py") 965]) #[]
noncomputable def ob3_568 (P : Params) : Obj := .mk (.type "function") .none (.func (.mk (oS "__str__") (oS "TryRule.__str__") (defArgs (inClass (top 54) 4)) (.stmts (defBody (inClass (top 54) 4))) (defScope (inClass (top 53) 3)) 3 [] .none .none .none (.str (oS "evenrules.rules") 742) .none (.ref 567) .none 0)) #[]
noncomputable def ob3_569 (P : Params) : Obj := .mk (.type "tuple") .none (.seq #[.str (oS "plus") 967, .str (oS "times") 968]) #[]
noncomputable def ob3_570 (P : Params) : Obj := .mk (.type "dict") .none (.dict #[.mk (kH P (oS "__module__")) (.str (oS "__module__") 914) (.str (oS "evenrules.rules") 742), .mk (kH P (oS "__firstlineno__")) (.str (oS "__firstlineno__") 918) (.int 275 917), .mk (kH P (oS "__init__")) (.str (oS "__init__") 928) (.ref 540), .mk (kH P (oS "turns")) (.str (oS "turns") 939) (.ref 547), .mk (kH P (oS "twice_is_fair")) (.str (oS "twice_is_fair") 951) (.ref 554), .mk (kH P (oS "__eq__")) (.str (oS "__eq__") 959) (.ref 561), .mk (kH P (oS "__str__")) (.str (oS "__str__") 966) (.ref 568), .mk (kH P (oS "__static_attributes__")) (.str (oS "__static_attributes__") 969) (.ref 569), .mk (kH P (oS "__doc__")) (.str (oS "__doc__") 970) .none, .mk (kH P (oS "__hash__")) (.str (oS "__hash__") 971) .none] 3) #[]
noncomputable def ob3_571 (P : Params) : Obj := .mk (.type "type") .none (.cls (.mk (oS "TryRule") [.ref 481] [.ref 571, .ref 481, .ref 438, .type "object"] 570 (oS "TryRule") true [] [] false .none false)) #[.some (.ref 526), .none, .some (.str (oS "TryRule") 907), .some (.str (oS "TryRule") 915), .some (.builtin "object.__new__"), .some (.bool true)]
noncomputable def ob3_572 (P : Params) : Obj := .mk (.type "super") .none (.fields #[.ref 571, .ref 571, .ref 571]) #[]
noncomputable def ob3_573 (P : Params) : Obj := .mk (.type "builtin_function_or_method") .none (.fields #[.builtin "object.__init_subclass__", .ref 571]) #[]
noncomputable def ob3_574 (P : Params) : Obj := .mk (.type "tuple") .none (.seq #[]) #[]
noncomputable def ob3_575 (P : Params) : Obj := .mk .none .none (.fields #[]) #[]
noncomputable def ob3_576 (P : Params) : Obj := .mk (.type "tuple") .none (.seq #[.str (oS "rule") 977, .str (oS "x") 978, .str (oS "y") 979, .str (oS "over") 980, .str (oS "under") 981]) #[]
noncomputable def ob3_577 (P : Params) : Obj := .mk (.type "tuple") .none (.seq #[]) #[]
noncomputable def ob3_578 (P : Params) : Obj := .mk .none .none (.func (.mk (oS "are_fair") (oS "are_fair") (defArgs (top 55)) (.stmts (defBody (top 55))) (defScope (top 55)) 0 [] .none .none .none .none .none .none .none 0)) #[]
noncomputable def ob3_579 (P : Params) : Obj := .mk (.type "code") .none (.fields #[.str (oS "are_fair") 974, .str (oS "are_fair") 975, .str (oS "/claim/cut.py") 976, .int 297 0, .int 3 0, .int 0 0, .int 0 0, .int 3 0, .ref 574, .bool true, .int 181 0, .ref 575, .none, .ref 576, .ref 577, .ref 578, .int 982 0, .int 297 0, .str (oS "/claim/cut.py") 983]) #[]
noncomputable def ob3_580 (P : Params) : Obj := .mk (.type "function") .none (.func (.mk (oS "are_fair") (oS "are_fair") (defArgs (top 55)) (.stmts (defBody (top 55))) (defScope (top 55)) 3 [] .none .none .none (.str (oS "evenrules.rules") 742) .none (.ref 579) .none 0)) #[]
noncomputable def ob3_581 (P : Params) : Obj := .mk (.type "tuple") .none (.seq #[]) #[]
noncomputable def ob3_582 (P : Params) : Obj := .mk .none .none (.fields #[]) #[]
noncomputable def ob3_583 (P : Params) : Obj := .mk (.type "tuple") .none (.seq #[.str (oS "rule") 988, .str (oS "x") 989, .str (oS "over") 990, .str (oS "under") 991]) #[]
noncomputable def ob3_584 (P : Params) : Obj := .mk (.type "tuple") .none (.seq #[]) #[]
noncomputable def ob3_585 (P : Params) : Obj := .mk .none .none (.func (.mk (oS "greatest_beside") (oS "greatest_beside") (defArgs (top 56)) (.stmts (defBody (top 56))) (defScope (top 56)) 0 [] .none .none .none .none .none .none .none 0)) #[]
noncomputable def ob3_586 (P : Params) : Obj := .mk (.type "code") .none (.fields #[.str (oS "greatest_beside") 985, .str (oS "greatest_beside") 986, .str (oS "/claim/cut.py") 987, .int 300 0, .int 2 0, .int 0 0, .int 0 0, .int 3 0, .ref 581, .bool true, .int 181 0, .ref 582, .none, .ref 583, .ref 584, .ref 585, .int 992 0, .int 300 0, .str (oS "/claim/cut.py") 993]) #[]
noncomputable def ob3_587 (P : Params) : Obj := .mk (.type "function") .none (.func (.mk (oS "greatest_beside") (oS "greatest_beside") (defArgs (top 56)) (.stmts (defBody (top 56))) (defScope (top 56)) 3 [] .none .none .none (.str (oS "evenrules.rules") 742) .none (.ref 586) .none 0)) #[]
noncomputable def ob3_588 (P : Params) : Obj := .mk (.type "tuple") .none (.seq #[]) #[]
noncomputable def ob3_589 (P : Params) : Obj := .mk .none .none (.fields #[]) #[]
noncomputable def ob3_590 (P : Params) : Obj := .mk (.type "tuple") .none (.seq #[.str (oS "rule") 998, .str (oS "y") 999, .str (oS "over") 1000, .str (oS "under") 1001]) #[]
noncomputable def ob3_591 (P : Params) : Obj := .mk (.type "tuple") .none (.seq #[]) #[]
noncomputable def ob3_592 (P : Params) : Obj := .mk .none .none (.func (.mk (oS "least_beside") (oS "least_beside") (defArgs (top 57)) (.stmts (defBody (top 57))) (defScope (top 57)) 0 [] .none .none .none .none .none .none .none 0)) #[]
noncomputable def ob3_593 (P : Params) : Obj := .mk (.type "code") .none (.fields #[.str (oS "least_beside") 995, .str (oS "least_beside") 996, .str (oS "/claim/cut.py") 997, .int 303 0, .int 2 0, .int 0 0, .int 0 0, .int 3 0, .ref 588, .bool true, .int 181 0, .ref 589, .none, .ref 590, .ref 591, .ref 592, .int 1002 0, .int 303 0, .str (oS "/claim/cut.py") 1003]) #[]
noncomputable def ob3_594 (P : Params) : Obj := .mk (.type "function") .none (.func (.mk (oS "least_beside") (oS "least_beside") (defArgs (top 57)) (.stmts (defBody (top 57))) (defScope (top 57)) 3 [] .none .none .none (.str (oS "evenrules.rules") 742) .none (.ref 593) .none 0)) #[]
noncomputable def ob3_595 (P : Params) : Obj := .mk (.type "tuple") .none (.seq #[]) #[]
noncomputable def ob3_596 (P : Params) : Obj := .mk .none .none (.fields #[]) #[]
noncomputable def ob3_597 (P : Params) : Obj := .mk (.type "tuple") .none (.seq #[.str (oS "value") 1008]) #[]
noncomputable def ob3_598 (P : Params) : Obj := .mk (.type "tuple") .none (.seq #[]) #[]
noncomputable def ob3_599 (P : Params) : Obj := .mk .none .none (.func (.mk (oS "need_rule") (oS "need_rule") (defArgs (top 58)) (.stmts (defBody (top 58))) (defScope (top 58)) 0 [] .none .none .none .none .none .none .none 0)) #[]
noncomputable def ob3_600 (P : Params) : Obj := .mk (.type "code") .none (.fields #[.str (oS "need_rule") 1005, .str (oS "need_rule") 1006, .str (oS "/claim/cut.py") 1007, .int 306 0, .int 1 0, .int 0 0, .int 0 0, .int 3 0, .ref 595, .bool true, .int 181 0, .ref 596, .none, .ref 597, .ref 598, .ref 599, .int 1009 0, .int 306 0, .str (oS "/claim/cut.py") 1010]) #[]
noncomputable def ob3_601 (P : Params) : Obj := .mk (.type "function") .none (.func (.mk (oS "need_rule") (oS "need_rule") (defArgs (top 58)) (.stmts (defBody (top 58))) (defScope (top 58)) 3 [] .none .none .none (.str (oS "evenrules.rules") 742) .none (.ref 600) .none 0)) #[]
noncomputable def ob3_602 (P : Params) : Obj := .mk (.type "tuple") .none (.seq #[]) #[]
noncomputable def ob3_603 (P : Params) : Obj := .mk .none .none (.fields #[]) #[]
noncomputable def ob3_604 (P : Params) : Obj := .mk (.type "tuple") .none (.seq #[.str (oS "value") 1015]) #[]
noncomputable def ob3_605 (P : Params) : Obj := .mk (.type "tuple") .none (.seq #[]) #[]
noncomputable def ob3_606 (P : Params) : Obj := .mk .none .none (.func (.mk (oS "need_weight") (oS "need_weight") (defArgs (top 59)) (.stmts (defBody (top 59))) (defScope (top 59)) 0 [] .none .none .none .none .none .none .none 0)) #[]
noncomputable def ob3_607 (P : Params) : Obj := .mk (.type "code") .none (.fields #[.str (oS "need_weight") 1012, .str (oS "need_weight") 1013, .str (oS "/claim/cut.py") 1014, .int 309 0, .int 1 0, .int 0 0, .int 0 0, .int 3 0, .ref 602, .bool true, .int 181 0, .ref 603, .none, .ref 604, .ref 605, .ref 606, .int 1016 0, .int 309 0, .str (oS "/claim/cut.py") 1017]) #[]
noncomputable def ob3_608 (P : Params) : Obj := .mk (.type "function") .none (.func (.mk (oS "need_weight") (oS "need_weight") (defArgs (top 59)) (.stmts (defBody (top 59))) (defScope (top 59)) 3 [] .none .none .none (.str (oS "evenrules.rules") 742) .none (.ref 607) .none 0)) #[]
noncomputable def ob3_609 (P : Params) : Obj := .mk (.type "tuple") .none (.seq #[]) #[]
noncomputable def ob3_610 (P : Params) : Obj := .mk .none .none (.fields #[]) #[]
noncomputable def ob3_611 (P : Params) : Obj := .mk .none .none (.func (.mk (oS "is_pair") (oS "is_pair") (defArgs (top 60)) (.stmts (defBody (top 60))) (defScope (top 60)) 0 [] .none .none .none .none .none .none .none 0)) #[]
noncomputable def ob3_612 (P : Params) : Obj := .mk (.type "code") .none (.fields #[.str (oS "is_pair") 1019, .str (oS "is_pair") 1020, .str (oS "/claim/cut.py") 1021, .int 312 0, .int 2 0, .int 0 0, .int 0 0, .int 3 0, .ref 609, .bool true, .int 181 0, .ref 610, .none, .none, .none, .ref 611, .int 1022 0, .int 312 0, .str (oS "/claim/cut.py") 1023]) #[]
noncomputable def ob3_613 (P : Params) : Obj := .mk (.type "function") .none (.func (.mk (oS "is_pair") (oS "is_pair") (defArgs (top 60)) (.stmts (defBody (top 60))) (defScope (top 60)) 3 [] .none .none .none (.str (oS "evenrules.rules") 742) .none (.ref 612) .none 0)) #[]
noncomputable def ob3_614 (P : Params) : Obj := .mk (.type "tuple") .none (.seq #[]) #[]
noncomputable def ob3_615 (P : Params) : Obj := .mk .none .none (.fields #[]) #[]
noncomputable def ob3_616 (P : Params) : Obj := .mk (.type "tuple") .none (.seq #[.str (oS "value") 1028]) #[]
noncomputable def ob3_617 (P : Params) : Obj := .mk (.type "tuple") .none (.seq #[]) #[]
noncomputable def ob3_618 (P : Params) : Obj := .mk .none .none (.func (.mk (oS "is_times") (oS "is_times") (defArgs (top 61)) (.stmts (defBody (top 61))) (defScope (top 61)) 0 [] .none .none .none .none .none .none .none 0)) #[]
noncomputable def ob3_619 (P : Params) : Obj := .mk (.type "code") .none (.fields #[.str (oS "is_times") 1025, .str (oS "is_times") 1026, .str (oS "/claim/cut.py") 1027, .int 314 0, .int 1 0, .int 0 0, .int 0 0, .int 3 0, .ref 614, .bool true, .int 181 0, .ref 615, .none, .ref 616, .ref 617, .ref 618, .int 1029 0, .int 314 0, .str (oS "/claim/cut.py") 1030]) #[]
noncomputable def ob3_620 (P : Params) : Obj := .mk (.type "function") .none (.func (.mk (oS "is_times") (oS "is_times") (defArgs (top 61)) (.stmts (defBody (top 61))) (defScope (top 61)) 3 [] .none .none .none (.str (oS "evenrules.rules") 742) .none (.ref 619) .none 0)) #[]
noncomputable def ob3_621 (P : Params) : Obj := .mk (.type "tuple") .none (.seq #[]) #[]
noncomputable def ob3_622 (P : Params) : Obj := .mk .none .none (.fields #[]) #[]
noncomputable def ob3_623 (P : Params) : Obj := .mk (.type "tuple") .none (.seq #[.str (oS "value") 1035]) #[]
noncomputable def ob3_624 (P : Params) : Obj := .mk (.type "tuple") .none (.seq #[]) #[]
noncomputable def ob3_625 (P : Params) : Obj := .mk .none .none (.func (.mk (oS "is_plus") (oS "is_plus") (defArgs (top 62)) (.stmts (defBody (top 62))) (defScope (top 62)) 0 [] .none .none .none .none .none .none .none 0)) #[]
noncomputable def ob3_626 (P : Params) : Obj := .mk (.type "code") .none (.fields #[.str (oS "is_plus") 1032, .str (oS "is_plus") 1033, .str (oS "/claim/cut.py") 1034, .int 316 0, .int 1 0, .int 0 0, .int 0 0, .int 3 0, .ref 621, .bool true, .int 181 0, .ref 622, .none, .ref 623, .ref 624, .ref 625, .int 1036 0, .int 316 0, .str (oS "/claim/cut.py") 1037]) #[]
noncomputable def ob3_627 (P : Params) : Obj := .mk (.type "function") .none (.func (.mk (oS "is_plus") (oS "is_plus") (defArgs (top 62)) (.stmts (defBody (top 62))) (defScope (top 62)) 3 [] .none .none .none (.str (oS "evenrules.rules") 742) .none (.ref 626) .none 0)) #[]
noncomputable def ob3_628 (P : Params) : Obj := .mk (.type "tuple") .none (.seq #[]) #[]
noncomputable def ob3_629 (P : Params) : Obj := .mk .none .none (.fields #[]) #[]
noncomputable def ob3_630 (P : Params) : Obj := .mk (.type "tuple") .none (.seq #[.str (oS "value") 1042]) #[]
noncomputable def ob3_631 (P : Params) : Obj := .mk (.type "tuple") .none (.seq #[]) #[]
noncomputable def ob3_632 (P : Params) : Obj := .mk .none .none (.func (.mk (oS "is_turn") (oS "is_turn") (defArgs (top 63)) (.stmts (defBody (top 63))) (defScope (top 63)) 0 [] .none .none .none .none .none .none .none 0)) #[]
noncomputable def ob3_633 (P : Params) : Obj := .mk (.type "code") .none (.fields #[.str (oS "is_turn") 1039, .str (oS "is_turn") 1040, .str (oS "/claim/cut.py") 1041, .int 318 0, .int 1 0, .int 0 0, .int 0 0, .int 3 0, .ref 628, .bool true, .int 181 0, .ref 629, .none, .ref 630, .ref 631, .ref 632, .int 1043 0, .int 318 0, .str (oS "/claim/cut.py") 1044]) #[]
noncomputable def ob3_634 (P : Params) : Obj := .mk (.type "function") .none (.func (.mk (oS "is_turn") (oS "is_turn") (defArgs (top 63)) (.stmts (defBody (top 63))) (defScope (top 63)) 3 [] .none .none .none (.str (oS "evenrules.rules") 742) .none (.ref 633) .none 0)) #[]
noncomputable def ob3_635 (P : Params) : Obj := .mk (.type "tuple") .none (.seq #[]) #[]
noncomputable def ob3_636 (P : Params) : Obj := .mk .none .none (.fields #[]) #[]
noncomputable def ob3_637 (P : Params) : Obj := .mk (.type "tuple") .none (.seq #[.str (oS "times") 1049, .str (oS "plus") 1050]) #[]
noncomputable def ob3_638 (P : Params) : Obj := .mk (.type "tuple") .none (.seq #[]) #[]
noncomputable def ob3_639 (P : Params) : Obj := .mk .none .none (.func (.mk (oS "need_times") (oS "need_times") (defArgs (top 64)) (.stmts (defBody (top 64))) (defScope (top 64)) 0 [] .none .none .none .none .none .none .none 0)) #[]
noncomputable def ob3_640 (P : Params) : Obj := .mk (.type "code") .none (.fields #[.str (oS "need_times") 1046, .str (oS "need_times") 1047, .str (oS "/claim/cut.py") 1048, .int 320 0, .int 2 0, .int 0 0, .int 0 0, .int 3 0, .ref 635, .bool true, .int 181 0, .ref 636, .none, .ref 637, .ref 638, .ref 639, .int 1051 0, .int 320 0, .str (oS "/claim/cut.py") 1052]) #[]
noncomputable def ob3_641 (P : Params) : Obj := .mk (.type "function") .none (.func (.mk (oS "need_times") (oS "need_times") (defArgs (top 64)) (.stmts (defBody (top 64))) (defScope (top 64)) 3 [] .none .none .none (.str (oS "evenrules.rules") 742) .none (.ref 640) .none 0)) #[]
noncomputable def ob3_642 (P : Params) : Obj := .mk (.type "tuple") .none (.seq #[]) #[]
noncomputable def ob3_643 (P : Params) : Obj := .mk .none .none (.fields #[]) #[]
noncomputable def ob3_644 (P : Params) : Obj := .mk (.type "tuple") .none (.seq #[.str (oS "times") 1057, .str (oS "plus") 1058, .str (oS "over") 1059, .str (oS "under") 1060]) #[]
noncomputable def ob3_645 (P : Params) : Obj := .mk (.type "tuple") .none (.seq #[]) #[]
noncomputable def ob3_646 (P : Params) : Obj := .mk .none .none (.func (.mk (oS "has_halves") (oS "has_halves") (defArgs (top 65)) (.stmts (defBody (top 65))) (defScope (top 65)) 0 [] .none .none .none .none .none .none .none 0)) #[]
noncomputable def ob3_647 (P : Params) : Obj := .mk (.type "code") .none (.fields #[.str (oS "has_halves") 1054, .str (oS "has_halves") 1055, .str (oS "/claim/cut.py") 1056, .int 325 0, .int 2 0, .int 0 0, .int 0 0, .int 3 0, .ref 642, .bool true, .int 181 0, .ref 643, .none, .ref 644, .ref 645, .ref 646, .int 1061 0, .int 325 0, .str (oS "/claim/cut.py") 1062]) #[]
noncomputable def ob3_648 (P : Params) : Obj := .mk (.type "function") .none (.func (.mk (oS "has_halves") (oS "has_halves") (defArgs (top 65)) (.stmts (defBody (top 65))) (defScope (top 65)) 3 [] .none .none .none (.str (oS "evenrules.rules") 742) .none (.ref 647) .none 0)) #[]
noncomputable def ob3_649 (P : Params) : Obj := .mk (.type "tuple") .none (.seq #[]) #[]
noncomputable def ob3_650 (P : Params) : Obj := .mk .none .none (.fields #[]) #[]
noncomputable def ob3_651 (P : Params) : Obj := .mk (.type "tuple") .none (.seq #[.str (oS "times") 1067, .str (oS "plus") 1068, .str (oS "over") 1069, .str (oS "under") 1070]) #[]
noncomputable def ob3_652 (P : Params) : Obj := .mk (.type "tuple") .none (.seq #[]) #[]
noncomputable def ob3_653 (P : Params) : Obj := .mk .none .none (.func (.mk (oS "need_halves") (oS "need_halves") (defArgs (top 66)) (.stmts (defBody (top 66))) (defScope (top 66)) 0 [] .none .none .none .none .none .none .none 0)) #[]
noncomputable def ob3_654 (P : Params) : Obj := .mk (.type "code") .none (.fields #[.str (oS "need_halves") 1064, .str (oS "need_halves") 1065, .str (oS "/claim/cut.py") 1066, .int 328 0, .int 2 0, .int 0 0, .int 0 0, .int 3 0, .ref 649, .bool true, .int 181 0, .ref 650, .none, .ref 651, .ref 652, .ref 653, .int 1071 0, .int 328 0, .str (oS "/claim/cut.py") 1072]) #[]
noncomputable def ob3_655 (P : Params) : Obj := .mk (.type "function") .none (.func (.mk (oS "need_halves") (oS "need_halves") (defArgs (top 66)) (.stmts (defBody (top 66))) (defScope (top 66)) 3 [] .none .none .none (.str (oS "evenrules.rules") 742) .none (.ref 654) .none 0)) #[]
noncomputable def ob3_656 (P : Params) : Obj := .mk (.type "tuple") .none (.seq #[]) #[]
noncomputable def ob3_657 (P : Params) : Obj := .mk .none .none (.fields #[]) #[]
noncomputable def ob3_658 (P : Params) : Obj := .mk (.type "tuple") .none (.seq #[.str (oS "words") 1077, .str (oS "kinds") 1078, .str (oS "at") 1079, .str (oS "kind") 1080]) #[]
noncomputable def ob3_659 (P : Params) : Obj := .mk (.type "tuple") .none (.seq #[]) #[]
noncomputable def ob3_660 (P : Params) : Obj := .mk .none .none (.func (.mk (oS "wrong_rule_word") (oS "wrong_rule_word") (defArgs (top 67)) (.stmts (defBody (top 67))) (defScope (top 67)) 0 [] .none .none .none .none .none .none .none 0)) #[]
noncomputable def ob3_661 (P : Params) : Obj := .mk (.type "code") .none (.fields #[.str (oS "wrong_rule_word") 1074, .str (oS "wrong_rule_word") 1075, .str (oS "/claim/cut.py") 1076, .int 334 0, .int 1 0, .int 0 0, .int 0 0, .int 3 0, .ref 656, .bool true, .int 181 0, .ref 657, .none, .ref 658, .ref 659, .ref 660, .int 1081 0, .int 334 0, .str (oS "/claim/cut.py") 1082]) #[]
noncomputable def ob3_662 (P : Params) : Obj := .mk (.type "function") .none (.func (.mk (oS "wrong_rule_word") (oS "wrong_rule_word") (defArgs (top 67)) (.stmts (defBody (top 67))) (defScope (top 67)) 3 [] .none .none .none (.str (oS "evenrules.rules") 742) .none (.ref 661) .none 0)) #[]
noncomputable def ob3_663 (P : Params) : Obj := .mk (.type "tuple") .none (.seq #[]) #[]
noncomputable def ob3_664 (P : Params) : Obj := .mk .none .none (.fields #[]) #[]
noncomputable def ob3_665 (P : Params) : Obj := .mk (.type "tuple") .none (.seq #[.str (oS "word") 1087]) #[]
noncomputable def ob3_666 (P : Params) : Obj := .mk (.type "tuple") .none (.seq #[]) #[]
noncomputable def ob3_667 (P : Params) : Obj := .mk .none .none (.func (.mk (oS "word_value") (oS "word_value") (defArgs (top 68)) (.stmts (defBody (top 68))) (defScope (top 68)) 0 [] .none .none .none .none .none .none .none 0)) #[]
noncomputable def ob3_668 (P : Params) : Obj := .mk (.type "code") .none (.fields #[.str (oS "word_value") 1084, .str (oS "word_value") 1085, .str (oS "/claim/cut.py") 1086, .int 344 0, .int 1 0, .int 0 0, .int 0 0, .int 3 0, .ref 663, .bool true, .int 181 0, .ref 664, .none, .ref 665, .ref 666, .ref 667, .int 1088 0, .int 344 0, .str (oS "/claim/cut.py") 1089]) #[]
noncomputable def ob3_669 (P : Params) : Obj := .mk (.type "function") .none (.func (.mk (oS "word_value") (oS "word_value") (defArgs (top 68)) (.stmts (defBody (top 68))) (defScope (top 68)) 3 [] .none .none .none (.str (oS "evenrules.rules") 742) .none (.ref 668) .none 0)) #[]
noncomputable def ob3_670 (P : Params) : Obj := .mk (.type "tuple") .none (.seq #[]) #[]
noncomputable def ob3_671 (P : Params) : Obj := .mk .none .none (.fields #[]) #[]
noncomputable def ob3_672 (P : Params) : Obj := .mk (.type "tuple") .none (.seq #[.str (oS "kind") 1094, .str (oS "value") 1095]) #[]
noncomputable def ob3_673 (P : Params) : Obj := .mk (.type "tuple") .none (.seq #[]) #[]
noncomputable def ob3_674 (P : Params) : Obj := .mk .none .none (.func (.mk (oS "can_stand") (oS "can_stand") (defArgs (top 69)) (.stmts (defBody (top 69))) (defScope (top 69)) 0 [] .none .none .none .none .none .none .none 0)) #[]
noncomputable def ob3_675 (P : Params) : Obj := .mk (.type "code") .none (.fields #[.str (oS "can_stand") 1091, .str (oS "can_stand") 1092, .str (oS "/claim/cut.py") 1093, .int 346 0, .int 2 0, .int 0 0, .int 0 0, .int 3 0, .ref 670, .bool true, .int 181 0, .ref 671, .none, .ref 672, .ref 673, .ref 674, .int 1096 0, .int 346 0, .str (oS "/claim/cut.py") 1097]) #[]
noncomputable def ob3_676 (P : Params) : Obj := .mk (.type "function") .none (.func (.mk (oS "can_stand") (oS "can_stand") (defArgs (top 69)) (.stmts (defBody (top 69))) (defScope (top 69)) 3 [] .none .none .none (.str (oS "evenrules.rules") 742) .none (.ref 675) .none 0)) #[]
noncomputable def ob3_677 (P : Params) : Obj := .mk (.type "tuple") .none (.seq #[]) #[]
noncomputable def ob3_678 (P : Params) : Obj := .mk .none .none (.fields #[]) #[]
noncomputable def ob3_679 (P : Params) : Obj := .mk (.type "tuple") .none (.seq #[.str (oS "rule") 1104, .str (oS "root") 1105, .str (oS "key") 1106, .str (oS "steps") 1107, .str (oS "node") 1108, .str (oS "is_left") 1109]) #[]
noncomputable def ob3_680 (P : Params) : Obj := .mk (.type "tuple") .none (.seq #[]) #[]
noncomputable def ob3_681 (P : Params) : Obj := .mk .none .none (.func (.mk (oS "with_key") (oS "with_key") (defArgs (top 71)) (.stmts (defBody (top 71))) (defScope (top 71)) 0 [] .none .none .none .none .none .none .none 0)) #[]
noncomputable def ob3_682 (P : Params) : Obj := .mk (.type "code") .none (.fields #[.str (oS "with_key") 1101, .str (oS "with_key") 1102, .str (oS "/claim/cut.py") 1103, .int 351 0, .int 3 0, .int 0 0, .int 0 0, .int 3 0, .ref 677, .bool true, .int 181 0, .ref 678, .none, .ref 679, .ref 680, .ref 681, .int 1110 0, .int 351 0, .str (oS "/claim/cut.py") 1111]) #[]
noncomputable def ob3_683 (P : Params) : Obj := .mk (.type "function") .none (.func (.mk (oS "with_key") (oS "with_key") (defArgs (top 71)) (.stmts (defBody (top 71))) (defScope (top 71)) 3 [] .none .none .none (.str (oS "evenrules.deeds") 1099) .none (.ref 682) .none 0)) #[]
noncomputable def ob3_684 (P : Params) : Obj := .mk (.type "tuple") .none (.seq #[]) #[]
noncomputable def ob3_685 (P : Params) : Obj := .mk .none .none (.fields #[]) #[]
noncomputable def ob3_686 (P : Params) : Obj := .mk (.type "tuple") .none (.seq #[.str (oS "rule") 1116, .str (oS "root") 1117, .str (oS "key") 1118, .str (oS "steps") 1119, .str (oS "node") 1120, .str (oS "is_left") 1121, .str (oS "below") 1122, .str (oS "neighbour") 1123]) #[]
noncomputable def ob3_687 (P : Params) : Obj := .mk (.type "tuple") .none (.seq #[]) #[]
noncomputable def ob3_688 (P : Params) : Obj := .mk .none .none (.func (.mk (oS "without_key") (oS "without_key") (defArgs (top 72)) (.stmts (defBody (top 72))) (defScope (top 72)) 0 [] .none .none .none .none .none .none .none 0)) #[]
noncomputable def ob3_689 (P : Params) : Obj := .mk (.type "code") .none (.fields #[.str (oS "without_key") 1113, .str (oS "without_key") 1114, .str (oS "/claim/cut.py") 1115, .int 359 0, .int 3 0, .int 0 0, .int 0 0, .int 3 0, .ref 684, .bool true, .int 181 0, .ref 685, .none, .ref 686, .ref 687, .ref 688, .int 1124 0, .int 359 0, .str (oS "/claim/cut.py") 1125]) #[]
noncomputable def ob3_690 (P : Params) : Obj := .mk (.type "function") .none (.func (.mk (oS "without_key") (oS "without_key") (defArgs (top 72)) (.stmts (defBody (top 72))) (defScope (top 72)) 3 [] .none .none .none (.str (oS "evenrules.deeds") 1099) .none (.ref 689) .none 0)) #[]
noncomputable def ob3_691 (P : Params) : Obj := .mk (.type "tuple") .none (.seq #[]) #[]
noncomputable def ob3_692 (P : Params) : Obj := .mk .none .none (.fields #[]) #[]
noncomputable def ob3_693 (P : Params) : Obj := .mk (.type "tuple") .none (.seq #[.str (oS "node") 1130, .str (oS "is_left") 1131, .str (oS "steps") 1132, .str (oS "neighbour") 1133, .str (oS "further") 1134]) #[]
noncomputable def ob3_694 (P : Params) : Obj := .mk (.type "tuple") .none (.seq #[]) #[]
noncomputable def ob3_695 (P : Params) : Obj := .mk .none .none (.func (.mk (oS "steps_to_neighbour") (oS "steps_to_neighbour") (defArgs (top 73)) (.stmts (defBody (top 73))) (defScope (top 73)) 0 [] .none .none .none .none .none .none .none 0)) #[]
noncomputable def ob3_696 (P : Params) : Obj := .mk (.type "code") .none (.fields #[.str (oS "steps_to_neighbour") 1127, .str (oS "steps_to_neighbour") 1128, .str (oS "/claim/cut.py") 1129, .int 373 0, .int 2 0, .int 0 0, .int 0 0, .int 3 0, .ref 691, .bool true, .int 181 0, .ref 692, .none, .ref 693, .ref 694, .ref 695, .int 1135 0, .int 373 0, .str (oS "/claim/cut.py") 1136]) #[]
noncomputable def ob3_697 (P : Params) : Obj := .mk (.type "function") .none (.func (.mk (oS "steps_to_neighbour") (oS "steps_to_neighbour") (defArgs (top 73)) (.stmts (defBody (top 73))) (defScope (top 73)) 3 [] .none .none .none (.str (oS "evenrules.deeds") 1099) .none (.ref 696) .none 0)) #[]
noncomputable def ob3_698 (P : Params) : Obj := .mk (.type "tuple") .none (.seq #[]) #[]
noncomputable def ob3_699 (P : Params) : Obj := .mk .none .none (.fields #[]) #[]
noncomputable def ob3_700 (P : Params) : Obj := .mk (.type "tuple") .none (.seq #[.str (oS "rule") 1141, .str (oS "steps") 1142, .str (oS "side") 1143, .str (oS "deed_key") 1144, .str (oS "node") 1145, .str (oS "key") 1146, .str (oS "is_left") 1147]) #[]
noncomputable def ob3_701 (P : Params) : Obj := .mk (.type "tuple") .none (.seq #[]) #[]
noncomputable def ob3_702 (P : Params) : Obj := .mk .none .none (.func (.mk (oS "mended") (oS "mended") (defArgs (top 74)) (.stmts (defBody (top 74))) (defScope (top 74)) 0 [] .none .none .none .none .none .none .none 0)) #[]
noncomputable def ob3_703 (P : Params) : Obj := .mk (.type "code") .none (.fields #[.str (oS "mended") 1138, .str (oS "mended") 1139, .str (oS "/claim/cut.py") 1140, .int 382 0, .int 4 0, .int 0 0, .int 0 0, .int 3 0, .ref 698, .bool true, .int 181 0, .ref 699, .none, .ref 700, .ref 701, .ref 702, .int 1148 0, .int 382 0, .str (oS "/claim/cut.py") 1149]) #[]
noncomputable def ob3_704 (P : Params) : Obj := .mk (.type "function") .none (.func (.mk (oS "mended") (oS "mended") (defArgs (top 74)) (.stmts (defBody (top 74))) (defScope (top 74)) 3 [] .none .none .none (.str (oS "evenrules.deeds") 1099) .none (.ref 703) .none 0)) #[]
noncomputable def ob3_705 (P : Params) : Obj := .mk (.type "tuple") .none (.seq #[]) #[]
noncomputable def ob3_706 (P : Params) : Obj := .mk .none .none (.fields #[]) #[]
noncomputable def ob3_707 (P : Params) : Obj := .mk (.type "tuple") .none (.seq #[.str (oS "rule") 1154, .str (oS "left") 1155, .str (oS "key") 1156, .str (oS "right") 1157, .str (oS "deed_key") 1158, .str (oS "one") 1159, .str (oS "other") 1160]) #[]
noncomputable def ob3_708 (P : Params) : Obj := .mk (.type "tuple") .none (.seq #[]) #[]
noncomputable def ob3_709 (P : Params) : Obj := .mk .none .none (.func (.mk (oS "balanced") (oS "balanced") (defArgs (top 75)) (.stmts (defBody (top 75))) (defScope (top 75)) 0 [] .none .none .none .none .none .none .none 0)) #[]
noncomputable def ob3_710 (P : Params) : Obj := .mk (.type "code") .none (.fields #[.str (oS "balanced") 1151, .str (oS "balanced") 1152, .str (oS "/claim/cut.py") 1153, .int 389 0, .int 5 0, .int 0 0, .int 0 0, .int 3 0, .ref 705, .bool true, .int 181 0, .ref 706, .none, .ref 707, .ref 708, .ref 709, .int 1161 0, .int 389 0, .str (oS "/claim/cut.py") 1162]) #[]
noncomputable def ob3_711 (P : Params) : Obj := .mk (.type "function") .none (.func (.mk (oS "balanced") (oS "balanced") (defArgs (top 75)) (.stmts (defBody (top 75))) (defScope (top 75)) 3 [] .none .none .none (.str (oS "evenrules.deeds") 1099) .none (.ref 710) .none 0)) #[]
noncomputable def ob3_712 (P : Params) : Obj := .mk (.type "tuple") .none (.seq #[]) #[]
noncomputable def ob3_713 (P : Params) : Obj := .mk .none .none (.fields #[]) #[]
noncomputable def ob3_714 (P : Params) : Obj := .mk (.type "tuple") .none (.seq #[.str (oS "rule") 1167, .str (oS "parts") 1168, .str (oS "is_mirrored") 1169, .str (oS "deed_key") 1170, .str (oS "light") 1171, .str (oS "key") 1172, .str (oS "heavy") 1173, .str (oS "inner") 1174, .str (oS "outer") 1175, .str (oS "near") 1176, .str (oS "far") 1177, .str (oS "near_weight") 1178, .str (oS "times") 1179, .str (oS "first") 1180]) #[]
noncomputable def ob3_715 (P : Params) : Obj := .mk (.type "tuple") .none (.seq #[]) #[]
noncomputable def ob3_716 (P : Params) : Obj := .mk .none .none (.func (.mk (oS "turned") (oS "turned") (defArgs (top 76)) (.stmts (defBody (top 76))) (defScope (top 76)) 0 [] .none .none .none .none .none .none .none 0)) #[]
noncomputable def ob3_717 (P : Params) : Obj := .mk (.type "code") .none (.fields #[.str (oS "turned") 1164, .str (oS "turned") 1165, .str (oS "/claim/cut.py") 1166, .int 396 0, .int 4 0, .int 0 0, .int 0 0, .int 3 0, .ref 712, .bool true, .int 181 0, .ref 713, .none, .ref 714, .ref 715, .ref 716, .int 1181 0, .int 396 0, .str (oS "/claim/cut.py") 1182]) #[]
noncomputable def ob3_718 (P : Params) : Obj := .mk (.type "function") .none (.func (.mk (oS "turned") (oS "turned") (defArgs (top 76)) (.stmts (defBody (top 76))) (defScope (top 76)) 3 [] .none .none .none (.str (oS "evenrules.deeds") 1099) .none (.ref 717) .none 0)) #[]
noncomputable def ob3_719 (P : Params) : Obj := .mk (.type "tuple") .none (.seq #[]) #[]
noncomputable def ob3_720 (P : Params) : Obj := .mk .none .none (.fields #[]) #[]
noncomputable def ob3_721 (P : Params) : Obj := .mk (.type "tuple") .none (.seq #[.str (oS "node") 1187, .str (oS "is_mirrored") 1188]) #[]
noncomputable def ob3_722 (P : Params) : Obj := .mk (.type "tuple") .none (.seq #[]) #[]
noncomputable def ob3_723 (P : Params) : Obj := .mk .none .none (.func (.mk (oS "sides_of") (oS "sides_of") (defArgs (top 77)) (.stmts (defBody (top 77))) (defScope (top 77)) 0 [] .none .none .none .none .none .none .none 0)) #[]
noncomputable def ob3_724 (P : Params) : Obj := .mk (.type "code") .none (.fields #[.str (oS "sides_of") 1184, .str (oS "sides_of") 1185, .str (oS "/claim/cut.py") 1186, .int 408 0, .int 2 0, .int 0 0, .int 0 0, .int 3 0, .ref 719, .bool true, .int 181 0, .ref 720, .none, .ref 721, .ref 722, .ref 723, .int 1189 0, .int 408 0, .str (oS "/claim/cut.py") 1190]) #[]
noncomputable def ob3_725 (P : Params) : Obj := .mk (.type "function") .none (.func (.mk (oS "sides_of") (oS "sides_of") (defArgs (top 77)) (.stmts (defBody (top 77))) (defScope (top 77)) 3 [] .none .none .none (.str (oS "evenrules.deeds") 1099) .none (.ref 724) .none 0)) #[]
noncomputable def ob3_726 (P : Params) : Obj := .mk (.type "tuple") .none (.seq #[]) #[]
noncomputable def ob3_727 (P : Params) : Obj := .mk .none .none (.fields #[]) #[]
noncomputable def ob3_728 (P : Params) : Obj := .mk (.type "tuple") .none (.seq #[.str (oS "near") 1195, .str (oS "key") 1196, .str (oS "far") 1197, .str (oS "is_mirrored") 1198]) #[]
noncomputable def ob3_729 (P : Params) : Obj := .mk (.type "tuple") .none (.seq #[]) #[]
noncomputable def ob3_730 (P : Params) : Obj := .mk .none .none (.func (.mk (oS "joined") (oS "joined") (defArgs (top 78)) (.stmts (defBody (top 78))) (defScope (top 78)) 0 [] .none .none .none .none .none .none .none 0)) #[]
noncomputable def ob3_731 (P : Params) : Obj := .mk (.type "code") .none (.fields #[.str (oS "joined") 1192, .str (oS "joined") 1193, .str (oS "/claim/cut.py") 1194, .int 410 0, .int 4 0, .int 0 0, .int 0 0, .int 3 0, .ref 726, .bool true, .int 181 0, .ref 727, .none, .ref 728, .ref 729, .ref 730, .int 1199 0, .int 410 0, .str (oS "/claim/cut.py") 1200]) #[]
noncomputable def ob3_732 (P : Params) : Obj := .mk (.type "function") .none (.func (.mk (oS "joined") (oS "joined") (defArgs (top 78)) (.stmts (defBody (top 78))) (defScope (top 78)) 3 [] .none .none .none (.str (oS "evenrules.deeds") 1099) .none (.ref 731) .none 0)) #[]
noncomputable def ob3_733 (P : Params) : Obj := .mk (.type "tuple") .none (.seq #[]) #[]
noncomputable def ob3_734 (P : Params) : Obj := .mk (.type "builtin_function_or_method") .none (.fields #[.builtin "type.__prepare__", .type "type"]) #[]
noncomputable def ob3_735 (P : Params) : Obj := .mk (.type "dict") .none (.dict #[.mk (kH P (oS "__module__")) (.str (oS "__module__") 1213) (.str (oS "evenrules.states") 1202), .mk (kH P (oS "__qualname__")) (.str (oS "__qualname__") 1215) (.str (oS "State") 1214), .mk (kH P (oS "__firstlineno__")) (.str (oS "__firstlineno__") 1217) (.int 414 1216), .mk (kH P (oS "__init__")) (.str (oS "__init__") 1228) (.ref 746), .mk (kH P (oS "__static_attributes__")) (.str (oS "__static_attributes__") 1233) (.ref 747)] 5) #[]
noncomputable def ob3_736 (P : Params) : Obj := .mk (.type "tuple") .none (.seq #[]) #[]
noncomputable def ob3_737 (P : Params) : Obj := .mk .none .none (.fields #[.int 416 0, .int 4 0, .ref 745]) #[]
noncomputable def ob3_738 (P : Params) : Obj := .mk (.type "code") .none (.fields #[.str (oS "State") 1208, .str (oS "State") 1209, .str (oS "/claim/cut.py") 1210, .int 414 0, .int 0 0, .int 0 0, .int 0 0, .int 0 0, .ref 736, .bool false, .int 181 0, .ref 737, .none, .none, .none, .none, .int 1211 0, .int 414 0, .str (oS "/claim/cut.py") 1212]) #[]
noncomputable def ob3_739 (P : Params) : Obj := .mk (.type "frame") .none .plain #[.some (.ref 738), .some (.ref 3), .some (.ref 735), .none, .some (.str (oS "evenrules.states") 1202), .none, .some (.ref 0)]
noncomputable def ob3_740 (P : Params) : Obj := .mk (.type "tuple") .none (.seq #[]) #[]
noncomputable def ob3_741 (P : Params) : Obj := .mk .none .none (.fields #[]) #[]
noncomputable def ob3_742 (P : Params) : Obj := .mk (.type "tuple") .none (.seq #[.str (oS "self") 1221, .str (oS "own_rule") 1222, .str (oS "root") 1223, .str (oS "order") 1224, .str (oS "worths") 1225]) #[]
noncomputable def ob3_743 (P : Params) : Obj := .mk (.type "tuple") .none (.seq #[]) #[]
noncomputable def ob3_744 (P : Params) : Obj := .mk .none .none (.func (.mk (oS "__init__") (oS "State.__init__") (defArgs (inClass (top 81) 0)) (.stmts (defBody (inClass (top 81) 0))) (defScope (inClass (top 81) 0)) 0 [] .none .none .none .none .none .none .none 0)) #[]
noncomputable def ob3_745 (P : Params) : Obj := .mk (.type "code") .none (.fields #[.str (oS "__init__") 1218, .str (oS "State.__init__") 1219, .str (oS "/claim/cut.py") 1220, .int 416 0, .int 5 0, .int 0 0, .int 0 0, .int 3 0, .ref 740, .bool true, .int 181 0, .ref 741, .none, .ref 742, .ref 743, .ref 744, .int 1226 0, .int 416 0, .str (oS "/claim/cut.py") 1227]) #[]
noncomputable def ob3_746 (P : Params) : Obj := .mk (.type "function") .none (.func (.mk (oS "__init__") (oS "State.__init__") (defArgs (inClass (top 81) 0)) (.stmts (defBody (inClass (top 81) 0))) (defScope (inClass (top 81) 0)) 3 [] .none .none .none (.str (oS "evenrules.states") 1202) .none (.ref 745) .none 0)) #[]
noncomputable def ob3_747 (P : Params) : Obj := .mk (.type "tuple") .none (.seq #[.str (oS "order") 1229, .str (oS "own_rule") 1230, .str (oS "root") 1231, .str (oS "worths") 1232]) #[]
noncomputable def ob3_748 (P : Params) : Obj := .mk (.type "dict") .none (.dict #[.mk (kH P (oS "__module__")) (.str (oS "__module__") 1213) (.str (oS "evenrules.states") 1202), .mk (kH P (oS "__firstlineno__")) (.str (oS "__firstlineno__") 1217) (.int 414 1216), .mk (kH P (oS "__init__")) (.str (oS "__init__") 1228) (.ref 746), .mk (kH P (oS "__static_attributes__")) (.str (oS "__static_attributes__") 1233) (.ref 747), .mk (kH P (oS "__dict__")) (.str (oS "__dict__") 1235) (.ref 750), .mk (kH P (oS "__weakref__")) (.str (oS "__weakref__") 1237) (.ref 751), .mk (kH P (oS "__doc__")) (.str (oS "__doc__") 1238) .none] 4) #[]
noncomputable def ob3_749 (P : Params) : Obj := .mk (.type "type") .none (.cls (.mk (oS "State") [.type "object"] [.ref 749, .type "object"] 748 (oS "State") true [] [] false .none false)) #[.none, .none, .some (.str (oS "State") 1206), .some (.str (oS "State") 1214), .some (.builtin "object.__new__"), .some (.bool true)]
noncomputable def ob3_750 (P : Params) : Obj := .mk (.type "getset_descriptor") .none (.fields #[.str (oS "__dict__") 1234, .ref 749, .builtin "function.__dict__", .builtin "function.__dict__#set"]) #[]
noncomputable def ob3_751 (P : Params) : Obj := .mk (.type "getset_descriptor") .none (.fields #[.str (oS "__weakref__") 1236, .ref 749, .builtin "ExceptionGroup.__weakref__", .none]) #[]
noncomputable def ob3_752 (P : Params) : Obj := .mk (.type "super") .none (.fields #[.ref 749, .ref 749, .ref 749]) #[]
noncomputable def ob3_753 (P : Params) : Obj := .mk (.type "builtin_function_or_method") .none (.fields #[.builtin "object.__init_subclass__", .ref 749]) #[]
noncomputable def ob3_754 (P : Params) : Obj := .mk (.type "tuple") .none (.seq #[]) #[]
noncomputable def ob3_755 (P : Params) : Obj := .mk .none .none (.fields #[]) #[]
noncomputable def ob3_756 (P : Params) : Obj := .mk .none .none (.func (.mk (oS "halves_state") (oS "halves_state") (defArgs (top 82)) (.stmts (defBody (top 82))) (defScope (top 82)) 0 [] .none .none .none .none .none .none .none 0)) #[]
noncomputable def ob3_757 (P : Params) : Obj := .mk (.type "code") .none (.fields #[.str (oS "halves_state") 1241, .str (oS "halves_state") 1242, .str (oS "/claim/cut.py") 1243, .int 421 0, .int 2 0, .int 0 0, .int 0 0, .int 3 0, .ref 754, .bool true, .int 181 0, .ref 755, .none, .none, .none, .ref 756, .int 1244 0, .int 421 0, .str (oS "/claim/cut.py") 1245]) #[]
noncomputable def ob3_758 (P : Params) : Obj := .mk (.type "function") .none (.func (.mk (oS "halves_state") (oS "halves_state") (defArgs (top 82)) (.stmts (defBody (top 82))) (defScope (top 82)) 3 [] .none .none .none (.str (oS "evenrules.states") 1202) .none (.ref 757) .none 0)) #[]
noncomputable def ob3_759 (P : Params) : Obj := .mk (.type "tuple") .none (.seq #[]) #[]
noncomputable def ob3_760 (P : Params) : Obj := .mk .none .none (.fields #[]) #[]
noncomputable def ob3_761 (P : Params) : Obj := .mk (.type "tuple") .none (.seq #[.str (oS "order") 1250, .str (oS "key") 1251, .str (oS "low") 1252, .str (oS "high") 1253, .str (oS "middle") 1254]) #[]
noncomputable def ob3_762 (P : Params) : Obj := .mk (.type "tuple") .none (.seq #[]) #[]
noncomputable def ob3_763 (P : Params) : Obj := .mk .none .none (.func (.mk (oS "first_from") (oS "first_from") (defArgs (top 83)) (.stmts (defBody (top 83))) (defScope (top 83)) 0 [] .none .none .none .none .none .none .none 0)) #[]
noncomputable def ob3_764 (P : Params) : Obj := .mk (.type "code") .none (.fields #[.str (oS "first_from") 1247, .str (oS "first_from") 1248, .str (oS "/claim/cut.py") 1249, .int 424 0, .int 2 0, .int 0 0, .int 0 0, .int 3 0, .ref 759, .bool true, .int 181 0, .ref 760, .none, .ref 761, .ref 762, .ref 763, .int 1255 0, .int 424 0, .str (oS "/claim/cut.py") 1256]) #[]
noncomputable def ob3_765 (P : Params) : Obj := .mk (.type "function") .none (.func (.mk (oS "first_from") (oS "first_from") (defArgs (top 83)) (.stmts (defBody (top 83))) (defScope (top 83)) 3 [] .none .none .none (.str (oS "evenrules.states") 1202) .none (.ref 764) .none 0)) #[]
noncomputable def ob3_766 (P : Params) : Obj := .mk (.type "tuple") .none (.seq #[]) #[]
noncomputable def ob3_767 (P : Params) : Obj := .mk .none .none (.fields #[]) #[]
noncomputable def ob3_768 (P : Params) : Obj := .mk (.type "tuple") .none (.seq #[.str (oS "state") 1261, .str (oS "entries") 1262, .str (oS "root") 1263, .str (oS "order") 1264, .str (oS "worths") 1265, .str (oS "key") 1266, .str (oS "worth") 1267]) #[]
noncomputable def ob3_769 (P : Params) : Obj := .mk (.type "tuple") .none (.seq #[]) #[]
noncomputable def ob3_770 (P : Params) : Obj := .mk .none .none (.func (.mk (oS "with_entries") (oS "with_entries") (defArgs (top 84)) (.stmts (defBody (top 84))) (defScope (top 84)) 0 [] .none .none .none .none .none .none .none 0)) #[]
noncomputable def ob3_771 (P : Params) : Obj := .mk (.type "code") .none (.fields #[.str (oS "with_entries") 1258, .str (oS "with_entries") 1259, .str (oS "/claim/cut.py") 1260, .int 433 0, .int 2 0, .int 0 0, .int 0 0, .int 3 0, .ref 766, .bool true, .int 181 0, .ref 767, .none, .ref 768, .ref 769, .ref 770, .int 1268 0, .int 433 0, .str (oS "/claim/cut.py") 1269]) #[]
noncomputable def ob3_772 (P : Params) : Obj := .mk (.type "function") .none (.func (.mk (oS "with_entries") (oS "with_entries") (defArgs (top 84)) (.stmts (defBody (top 84))) (defScope (top 84)) 3 [] .none .none .none (.str (oS "evenrules.states") 1202) .none (.ref 771) .none 0)) #[]
noncomputable def ob3_773 (P : Params) : Obj := .mk (.type "tuple") .none (.seq #[]) #[]
noncomputable def ob3_774 (P : Params) : Obj := .mk .none .none (.fields #[]) #[]
noncomputable def ob3_775 (P : Params) : Obj := .mk (.type "tuple") .none (.seq #[.str (oS "state") 1274, .str (oS "key") 1275, .str (oS "worths") 1276, .str (oS "root") 1277, .str (oS "at") 1278]) #[]
noncomputable def ob3_776 (P : Params) : Obj := .mk (.type "tuple") .none (.seq #[]) #[]
noncomputable def ob3_777 (P : Params) : Obj := .mk .none .none (.func (.mk (oS "without_entry") (oS "without_entry") (defArgs (top 85)) (.stmts (defBody (top 85))) (defScope (top 85)) 0 [] .none .none .none .none .none .none .none 0)) #[]
noncomputable def ob3_778 (P : Params) : Obj := .mk (.type "code") .none (.fields #[.str (oS "without_entry") 1271, .str (oS "without_entry") 1272, .str (oS "/claim/cut.py") 1273, .int 446 0, .int 2 0, .int 0 0, .int 0 0, .int 3 0, .ref 773, .bool true, .int 181 0, .ref 774, .none, .ref 775, .ref 776, .ref 777, .int 1279 0, .int 446 0, .str (oS "/claim/cut.py") 1280]) #[]
noncomputable def ob3_779 (P : Params) : Obj := .mk (.type "function") .none (.func (.mk (oS "without_entry") (oS "without_entry") (defArgs (top 85)) (.stmts (defBody (top 85))) (defScope (top 85)) 3 [] .none .none .none (.str (oS "evenrules.states") 1202) .none (.ref 778) .none 0)) #[]
noncomputable def ob3_780 (P : Params) : Obj := .mk (.type "tuple") .none (.seq #[]) #[]
noncomputable def ob3_781 (P : Params) : Obj := .mk .none .none (.fields #[]) #[]
noncomputable def ob3_782 (P : Params) : Obj := .mk .none .none (.func (.mk (oS "entries_of") (oS "entries_of") (defArgs (top 86)) (.stmts (defBody (top 86))) (defScope (top 86)) 0 [] .none .none .none .none .none .none .none 0)) #[]
noncomputable def ob3_783 (P : Params) : Obj := .mk (.type "code") .none (.fields #[.str (oS "entries_of") 1282, .str (oS "entries_of") 1283, .str (oS "/claim/cut.py") 1284, .int 452 0, .int 1 0, .int 0 0, .int 0 0, .int 3 0, .ref 780, .bool true, .int 181 0, .ref 781, .none, .none, .none, .ref 782, .int 1285 0, .int 452 0, .str (oS "/claim/cut.py") 1286]) #[]
noncomputable def ob3_784 (P : Params) : Obj := .mk (.type "function") .none (.func (.mk (oS "entries_of") (oS "entries_of") (defArgs (top 86)) (.stmts (defBody (top 86))) (defScope (top 86)) 3 [] .none .none .none (.str (oS "evenrules.states") 1202) .none (.ref 783) .none 0)) #[]
noncomputable def ob3_785 (P : Params) : Obj := .mk (.type "tuple") .none (.seq #[]) #[]
noncomputable def ob3_786 (P : Params) : Obj := .mk .none .none (.fields #[]) #[]
noncomputable def ob3_787 (P : Params) : Obj := .mk (.type "tuple") .none (.seq #[.str (oS "state") 1291, .str (oS "rule") 1292]) #[]
noncomputable def ob3_788 (P : Params) : Obj := .mk (.type "tuple") .none (.seq #[]) #[]
noncomputable def ob3_789 (P : Params) : Obj := .mk .none .none (.func (.mk (oS "under_rule") (oS "under_rule") (defArgs (top 87)) (.stmts (defBody (top 87))) (defScope (top 87)) 0 [] .none .none .none .none .none .none .none 0)) #[]
noncomputable def ob3_790 (P : Params) : Obj := .mk (.type "code") .none (.fields #[.str (oS "under_rule") 1288, .str (oS "under_rule") 1289, .str (oS "/claim/cut.py") 1290, .int 454 0, .int 2 0, .int 0 0, .int 0 0, .int 3 0, .ref 785, .bool true, .int 181 0, .ref 786, .none, .ref 787, .ref 788, .ref 789, .int 1293 0, .int 454 0, .str (oS "/claim/cut.py") 1294]) #[]
noncomputable def ob3_791 (P : Params) : Obj := .mk (.type "function") .none (.func (.mk (oS "under_rule") (oS "under_rule") (defArgs (top 87)) (.stmts (defBody (top 87))) (defScope (top 87)) 3 [] .none .none .none (.str (oS "evenrules.states") 1202) .none (.ref 790) .none 0)) #[]
noncomputable def ob3_792 (P : Params) : Obj := .mk (.type "tuple") .none (.seq #[]) #[]
noncomputable def ob3_793 (P : Params) : Obj := .mk .none .none (.fields #[]) #[]
noncomputable def ob3_794 (P : Params) : Obj := .mk (.type "tuple") .none (.seq #[.str (oS "rule") 1299, .str (oS "node") 1300, .str (oS "order") 1301, .str (oS "start") 1302, .str (oS "left") 1303, .str (oS "right") 1304]) #[]
noncomputable def ob3_795 (P : Params) : Obj := .mk (.type "tuple") .none (.seq #[]) #[]
noncomputable def ob3_796 (P : Params) : Obj := .mk .none .none (.func (.mk (oS "rebuilt_unfair") (oS "rebuilt_unfair") (defArgs (top 88)) (.stmts (defBody (top 88))) (defScope (top 88)) 0 [] .none .none .none .none .none .none .none 0)) #[]
noncomputable def ob3_797 (P : Params) : Obj := .mk (.type "code") .none (.fields #[.str (oS "rebuilt_unfair") 1296, .str (oS "rebuilt_unfair") 1297, .str (oS "/claim/cut.py") 1298, .int 456 0, .int 4 0, .int 0 0, .int 0 0, .int 3 0, .ref 792, .bool true, .int 181 0, .ref 793, .none, .ref 794, .ref 795, .ref 796, .int 1305 0, .int 456 0, .str (oS "/claim/cut.py") 1306]) #[]
noncomputable def ob3_798 (P : Params) : Obj := .mk (.type "function") .none (.func (.mk (oS "rebuilt_unfair") (oS "rebuilt_unfair") (defArgs (top 88)) (.stmts (defBody (top 88))) (defScope (top 88)) 3 [] .none .none .none (.str (oS "evenrules.states") 1202) .none (.ref 797) .none 0)) #[]
noncomputable def ob3_799 (P : Params) : Obj := .mk (.type "tuple") .none (.seq #[]) #[]
noncomputable def ob3_800 (P : Params) : Obj := .mk .none .none (.fields #[]) #[]
noncomputable def ob3_801 (P : Params) : Obj := .mk .none .none (.func (.mk (oS "unfair_keys") (oS "unfair_keys") (defArgs (top 89)) (.stmts (defBody (top 89))) (defScope (top 89)) 0 [] .none .none .none .none .none .none .none 0)) #[]
noncomputable def ob3_802 (P : Params) : Obj := .mk (.type "code") .none (.fields #[.str (oS "unfair_keys") 1308, .str (oS "unfair_keys") 1309, .str (oS "/claim/cut.py") 1310, .int 463 0, .int 1 0, .int 0 0, .int 0 0, .int 3 0, .ref 799, .bool true, .int 181 0, .ref 800, .none, .none, .none, .ref 801, .int 1311 0, .int 463 0, .str (oS "/claim/cut.py") 1312]) #[]
noncomputable def ob3_803 (P : Params) : Obj := .mk (.type "function") .none (.func (.mk (oS "unfair_keys") (oS "unfair_keys") (defArgs (top 89)) (.stmts (defBody (top 89))) (defScope (top 89)) 3 [] .none .none .none (.str (oS "evenrules.states") 1202) .none (.ref 802) .none 0)) #[]
noncomputable def ob3_804 (P : Params) : Obj := .mk (.type "tuple") .none (.seq #[]) #[]
noncomputable def ob3_805 (P : Params) : Obj := .mk (.type "builtin_function_or_method") .none (.fields #[.builtin "type.__prepare__", .type "type"]) #[]
noncomputable def ob3_806 (P : Params) : Obj := .mk (.type "dict") .none (.dict #[.mk (kH P (oS "__module__")) (.str (oS "__module__") 1323) (.str (oS "evenrules.reading") 1314), .mk (kH P (oS "__qualname__")) (.str (oS "__qualname__") 1325) (.str (oS "Reading") 1324), .mk (kH P (oS "__firstlineno__")) (.str (oS "__firstlineno__") 1327) (.int 470 1326), .mk (kH P (oS "__len__")) (.str (oS "__len__") 1334) (.ref 817), .mk (kH P (oS "__bool__")) (.str (oS "__bool__") 1341) (.ref 824), .mk (kH P (oS "__contains__")) (.str (oS "__contains__") 1349) (.ref 831), .mk (kH P (oS "__iter__")) (.str (oS "__iter__") 1356) (.ref 838), .mk (kH P (oS "falling")) (.str (oS "falling") 1363) (.ref 845), .mk (kH P (oS "__getitem__")) (.str (oS "__getitem__") 1371) (.ref 852), .mk (kH P (oS "get")) (.str (oS "get") 1380) (.ref 860), .mk (kH P (oS "least")) (.str (oS "least") 1387) (.ref 867), .mk (kH P (oS "greatest")) (.str (oS "greatest") 1394) (.ref 874), .mk (kH P (oS "end_of")) (.str (oS "end_of") 1402) (.ref 881), .mk (kH P (oS "below")) (.str (oS "below") 1411) (.ref 888), .mk (kH P (oS "above")) (.str (oS "above") 1420) (.ref 895), .mk (kH P (oS "place")) (.str (oS "place") 1428) (.ref 902), .mk (kH P (oS "key_at")) (.str (oS "key_at") 1436) (.ref 909), .mk (kH P (oS "between")) (.str (oS "between") 1447) (.ref 916), .mk (kH P (oS "depth")) (.str (oS "depth") 1455) (.ref 923), .mk (kH P (oS "height")) (.str (oS "height") 1463) (.ref 931), .mk (kH P (oS "layout")) (.str (oS "layout") 1471) (.ref 939), .mk (kH P (oS "__eq__")) (.str (oS "__eq__") 1479) (.ref 946), .mk (kH P (oS "__str__")) (.str (oS "__str__") 1486) (.ref 953), .mk (kH P (oS "__static_attributes__")) (.str (oS "__static_attributes__") 1487) (.ref 954)] 24) #[]
noncomputable def ob3_807 (P : Params) : Obj := .mk (.type "tuple") .none (.seq #[]) #[]
noncomputable def ob3_808 (P : Params) : Obj := .mk .none .none (.fields #[.int 472 0, .int 4 0, .ref 816, .int 475 0, .int 4 0, .ref 823, .int 478 0, .int 4 0, .ref 830, .int 481 0, .int 4 0, .ref 837, .int 484 0, .int 4 0, .ref 844, .int 487 0, .int 4 0, .ref 851, .int 492 0, .int 4 0, .ref 859, .int 495 0, .int 4 0, .ref 866, .int 498 0, .int 4 0, .ref 873, .int 501 0, .int 4 0, .ref 880, .int 506 0, .int 4 0, .ref 887, .int 510 0, .int 4 0, .ref 894, .int 514 0, .int 4 0, .ref 901, .int 518 0, .int 4 0, .ref 908, .int 521 0, .int 4 0, .ref 915, .int 528 0, .int 4 0, .ref 922, .int 532 0, .int 4 0, .ref 929, .int 536 0, .int 4 0, .ref 937, .int 539 0, .int 4 0, .ref 945, .int 542 0, .int 4 0, .ref 952]) #[]
noncomputable def ob3_809 (P : Params) : Obj := .mk (.type "code") .none (.fields #[.str (oS "Reading") 1318, .str (oS "Reading") 1319, .str (oS "/claim/cut.py") 1320, .int 470 0, .int 0 0, .int 0 0, .int 0 0, .int 0 0, .ref 807, .bool false, .int 181 0, .ref 808, .none, .none, .none, .none, .int 1321 0, .int 470 0, .str (oS "/claim/cut.py") 1322]) #[]
noncomputable def ob3_810 (P : Params) : Obj := .mk (.type "frame") .none .plain #[.some (.ref 809), .some (.ref 3), .some (.ref 806), .none, .some (.str (oS "evenrules.reading") 1314), .none, .some (.ref 0)]
noncomputable def ob3_811 (P : Params) : Obj := .mk (.type "tuple") .none (.seq #[]) #[]
noncomputable def ob3_812 (P : Params) : Obj := .mk .none .none (.fields #[]) #[]
noncomputable def ob3_813 (P : Params) : Obj := .mk (.type "tuple") .none (.seq #[.str (oS "self") 1331]) #[]
noncomputable def ob3_814 (P : Params) : Obj := .mk (.type "tuple") .none (.seq #[]) #[]
noncomputable def ob3_815 (P : Params) : Obj := .mk .none .none (.func (.mk (oS "__len__") (oS "Reading.__len__") (defArgs (inClass (top 91) 0)) (.stmts (defBody (inClass (top 91) 0))) (defScope (inClass (top 91) 0)) 0 [] .none .none .none .none .none .none .none 0)) #[]
noncomputable def ob3_816 (P : Params) : Obj := .mk (.type "code") .none (.fields #[.str (oS "__len__") 1328, .str (oS "Reading.__len__") 1329, .str (oS "/claim/cut.py") 1330, .int 472 0, .int 1 0, .int 0 0, .int 0 0, .int 3 0, .ref 811, .bool true, .int 181 0, .ref 812, .none, .ref 813, .ref 814, .ref 815, .int 1332 0, .int 472 0, .str (oS "/claim/cut.py") 1333]) #[]
noncomputable def ob3_817 (P : Params) : Obj := .mk (.type "function") .none (.func (.mk (oS "__len__") (oS "Reading.__len__") (defArgs (inClass (top 91) 0)) (.stmts (defBody (inClass (top 91) 0))) (defScope (inClass (top 91) 0)) 3 [] .none .none .none (.str (oS "evenrules.reading") 1314) .none (.ref 816) .none 0)) #[]
noncomputable def ob3_818 (P : Params) : Obj := .mk (.type "tuple") .none (.seq #[]) #[]
noncomputable def ob3_819 (P : Params) : Obj := .mk .none .none (.fields #[]) #[]
noncomputable def ob3_820 (P : Params) : Obj := .mk (.type "tuple") .none (.seq #[.str (oS "self") 1338]) #[]
noncomputable def ob3_821 (P : Params) : Obj := .mk (.type "tuple") .none (.seq #[]) #[]
noncomputable def ob3_822 (P : Params) : Obj := .mk .none .none (.func (.mk (oS "__bool__") (oS "Reading.__bool__") (defArgs (inClass (top 91) 1)) (.stmts (defBody (inClass (top 91) 1))) (defScope (inClass (top 91) 1)) 0 [] .none .none .none .none .none .none .none 0)) #[]
noncomputable def ob3_823 (P : Params) : Obj := .mk (.type "code") .none (.fields #[.str (oS "__bool__") 1335, .str (oS "Reading.__bool__") 1336, .str (oS "/claim/cut.py") 1337, .int 475 0, .int 1 0, .int 0 0, .int 0 0, .int 3 0, .ref 818, .bool true, .int 181 0, .ref 819, .none, .ref 820, .ref 821, .ref 822, .int 1339 0, .int 475 0, .str (oS "/claim/cut.py") 1340]) #[]
noncomputable def ob3_824 (P : Params) : Obj := .mk (.type "function") .none (.func (.mk (oS "__bool__") (oS "Reading.__bool__") (defArgs (inClass (top 91) 1)) (.stmts (defBody (inClass (top 91) 1))) (defScope (inClass (top 91) 1)) 3 [] .none .none .none (.str (oS "evenrules.reading") 1314) .none (.ref 823) .none 0)) #[]
noncomputable def ob3_825 (P : Params) : Obj := .mk (.type "tuple") .none (.seq #[]) #[]
noncomputable def ob3_826 (P : Params) : Obj := .mk .none .none (.fields #[]) #[]
noncomputable def ob3_827 (P : Params) : Obj := .mk (.type "tuple") .none (.seq #[.str (oS "self") 1345, .str (oS "key") 1346]) #[]
noncomputable def ob3_828 (P : Params) : Obj := .mk (.type "tuple") .none (.seq #[]) #[]
noncomputable def ob3_829 (P : Params) : Obj := .mk .none .none (.func (.mk (oS "__contains__") (oS "Reading.__contains__") (defArgs (inClass (top 91) 2)) (.stmts (defBody (inClass (top 91) 2))) (defScope (inClass (top 91) 2)) 0 [] .none .none .none .none .none .none .none 0)) #[]
noncomputable def ob3_830 (P : Params) : Obj := .mk (.type "code") .none (.fields #[.str (oS "__contains__") 1342, .str (oS "Reading.__contains__") 1343, .str (oS "/claim/cut.py") 1344, .int 478 0, .int 2 0, .int 0 0, .int 0 0, .int 3 0, .ref 825, .bool true, .int 181 0, .ref 826, .none, .ref 827, .ref 828, .ref 829, .int 1347 0, .int 478 0, .str (oS "/claim/cut.py") 1348]) #[]
noncomputable def ob3_831 (P : Params) : Obj := .mk (.type "function") .none (.func (.mk (oS "__contains__") (oS "Reading.__contains__") (defArgs (inClass (top 91) 2)) (.stmts (defBody (inClass (top 91) 2))) (defScope (inClass (top 91) 2)) 3 [] .none .none .none (.str (oS "evenrules.reading") 1314) .none (.ref 830) .none 0)) #[]
noncomputable def ob3_832 (P : Params) : Obj := .mk (.type "tuple") .none (.seq #[]) #[]
noncomputable def ob3_833 (P : Params) : Obj := .mk .none .none (.fields #[]) #[]
noncomputable def ob3_834 (P : Params) : Obj := .mk (.type "tuple") .none (.seq #[.str (oS "self") 1353]) #[]
noncomputable def ob3_835 (P : Params) : Obj := .mk (.type "tuple") .none (.seq #[]) #[]
noncomputable def ob3_836 (P : Params) : Obj := .mk .none .none (.func (.mk (oS "__iter__") (oS "Reading.__iter__") (defArgs (inClass (top 91) 3)) (.stmts (defBody (inClass (top 91) 3))) (defScope (inClass (top 91) 3)) 0 [] .none .none .none .none .none .none .none 0)) #[]
noncomputable def ob3_837 (P : Params) : Obj := .mk (.type "code") .none (.fields #[.str (oS "__iter__") 1350, .str (oS "Reading.__iter__") 1351, .str (oS "/claim/cut.py") 1352, .int 481 0, .int 1 0, .int 0 0, .int 0 0, .int 3 0, .ref 832, .bool true, .int 181 0, .ref 833, .none, .ref 834, .ref 835, .ref 836, .int 1354 0, .int 481 0, .str (oS "/claim/cut.py") 1355]) #[]
noncomputable def ob3_838 (P : Params) : Obj := .mk (.type "function") .none (.func (.mk (oS "__iter__") (oS "Reading.__iter__") (defArgs (inClass (top 91) 3)) (.stmts (defBody (inClass (top 91) 3))) (defScope (inClass (top 91) 3)) 3 [] .none .none .none (.str (oS "evenrules.reading") 1314) .none (.ref 837) .none 0)) #[]
noncomputable def ob3_839 (P : Params) : Obj := .mk (.type "tuple") .none (.seq #[]) #[]
noncomputable def ob3_840 (P : Params) : Obj := .mk .none .none (.fields #[]) #[]
noncomputable def ob3_841 (P : Params) : Obj := .mk (.type "tuple") .none (.seq #[.str (oS "self") 1360]) #[]
noncomputable def ob3_842 (P : Params) : Obj := .mk (.type "tuple") .none (.seq #[]) #[]
noncomputable def ob3_843 (P : Params) : Obj := .mk .none .none (.func (.mk (oS "falling") (oS "Reading.falling") (defArgs (inClass (top 91) 4)) (.stmts (defBody (inClass (top 91) 4))) (defScope (inClass (top 91) 4)) 0 [] .none .none .none .none .none .none .none 0)) #[]
noncomputable def ob3_844 (P : Params) : Obj := .mk (.type "code") .none (.fields #[.str (oS "falling") 1357, .str (oS "Reading.falling") 1358, .str (oS "/claim/cut.py") 1359, .int 484 0, .int 1 0, .int 0 0, .int 0 0, .int 3 0, .ref 839, .bool true, .int 181 0, .ref 840, .none, .ref 841, .ref 842, .ref 843, .int 1361 0, .int 484 0, .str (oS "/claim/cut.py") 1362]) #[]
noncomputable def ob3_845 (P : Params) : Obj := .mk (.type "function") .none (.func (.mk (oS "falling") (oS "Reading.falling") (defArgs (inClass (top 91) 4)) (.stmts (defBody (inClass (top 91) 4))) (defScope (inClass (top 91) 4)) 3 [] .none .none .none (.str (oS "evenrules.reading") 1314) .none (.ref 844) .none 0)) #[]
noncomputable def ob3_846 (P : Params) : Obj := .mk (.type "tuple") .none (.seq #[]) #[]
noncomputable def ob3_847 (P : Params) : Obj := .mk .none .none (.fields #[]) #[]
noncomputable def ob3_848 (P : Params) : Obj := .mk (.type "tuple") .none (.seq #[.str (oS "self") 1367, .str (oS "key") 1368]) #[]
noncomputable def ob3_849 (P : Params) : Obj := .mk (.type "tuple") .none (.seq #[]) #[]
noncomputable def ob3_850 (P : Params) : Obj := .mk .none .none (.func (.mk (oS "__getitem__") (oS "Reading.__getitem__") (defArgs (inClass (top 91) 5)) (.stmts (defBody (inClass (top 91) 5))) (defScope (inClass (top 91) 5)) 0 [] .none .none .none .none .none .none .none 0)) #[]
noncomputable def ob3_851 (P : Params) : Obj := .mk (.type "code") .none (.fields #[.str (oS "__getitem__") 1364, .str (oS "Reading.__getitem__") 1365, .str (oS "/claim/cut.py") 1366, .int 487 0, .int 2 0, .int 0 0, .int 0 0, .int 3 0, .ref 846, .bool true, .int 181 0, .ref 847, .none, .ref 848, .ref 849, .ref 850, .int 1369 0, .int 487 0, .str (oS "/claim/cut.py") 1370]) #[]
noncomputable def ob3_852 (P : Params) : Obj := .mk (.type "function") .none (.func (.mk (oS "__getitem__") (oS "Reading.__getitem__") (defArgs (inClass (top 91) 5)) (.stmts (defBody (inClass (top 91) 5))) (defScope (inClass (top 91) 5)) 3 [] .none .none .none (.str (oS "evenrules.reading") 1314) .none (.ref 851) .none 0)) #[]
noncomputable def ob3_853 (P : Params) : Obj := .mk (.type "tuple") .none (.seq #[.none]) #[]
noncomputable def ob3_854 (P : Params) : Obj := .mk (.type "tuple") .none (.seq #[]) #[]
noncomputable def ob3_855 (P : Params) : Obj := .mk .none .none (.fields #[]) #[]
noncomputable def ob3_856 (P : Params) : Obj := .mk (.type "tuple") .none (.seq #[.str (oS "self") 1375, .str (oS "key") 1376, .str (oS "other") 1377]) #[]
noncomputable def ob3_857 (P : Params) : Obj := .mk (.type "tuple") .none (.seq #[]) #[]
noncomputable def ob3_858 (P : Params) : Obj := .mk .none .none (.func (.mk (oS "get") (oS "Reading.get") (defArgs (inClass (top 91) 6)) (.stmts (defBody (inClass (top 91) 6))) (defScope (inClass (top 91) 6)) 0 [] .none .none .none .none .none .none .none 0)) #[]
noncomputable def ob3_859 (P : Params) : Obj := .mk (.type "code") .none (.fields #[.str (oS "get") 1372, .str (oS "Reading.get") 1373, .str (oS "/claim/cut.py") 1374, .int 492 0, .int 3 0, .int 0 0, .int 0 0, .int 3 0, .ref 854, .bool true, .int 181 0, .ref 855, .none, .ref 856, .ref 857, .ref 858, .int 1378 0, .int 492 0, .str (oS "/claim/cut.py") 1379]) #[]
noncomputable def ob3_860 (P : Params) : Obj := .mk (.type "function") .none (.func (.mk (oS "get") (oS "Reading.get") (defArgs (inClass (top 91) 6)) (.stmts (defBody (inClass (top 91) 6))) (defScope (inClass (top 91) 6)) 3 [] (.ref 853) .none .none (.str (oS "evenrules.reading") 1314) .none (.ref 859) .none 0)) #[]
noncomputable def ob3_861 (P : Params) : Obj := .mk (.type "tuple") .none (.seq #[]) #[]
noncomputable def ob3_862 (P : Params) : Obj := .mk .none .none (.fields #[]) #[]
noncomputable def ob3_863 (P : Params) : Obj := .mk (.type "tuple") .none (.seq #[.str (oS "self") 1384]) #[]
noncomputable def ob3_864 (P : Params) : Obj := .mk (.type "tuple") .none (.seq #[]) #[]
noncomputable def ob3_865 (P : Params) : Obj := .mk .none .none (.func (.mk (oS "least") (oS "Reading.least") (defArgs (inClass (top 91) 7)) (.stmts (defBody (inClass (top 91) 7))) (defScope (inClass (top 91) 7)) 0 [] .none .none .none .none .none .none .none 0)) #[]
noncomputable def ob3_866 (P : Params) : Obj := .mk (.type "code") .none (.fields #[.str (oS "least") 1381, .str (oS "Reading.least") 1382, .str (oS "/claim/cut.py") 1383, .int 495 0, .int 1 0, .int 0 0, .int 0 0, .int 3 0, .ref 861, .bool true, .int 181 0, .ref 862, .none, .ref 863, .ref 864, .ref 865, .int 1385 0, .int 495 0, .str (oS "/claim/cut.py") 1386]) #[]
noncomputable def ob3_867 (P : Params) : Obj := .mk (.type "function") .none (.func (.mk (oS "least") (oS "Reading.least") (defArgs (inClass (top 91) 7)) (.stmts (defBody (inClass (top 91) 7))) (defScope (inClass (top 91) 7)) 3 [] .none .none .none (.str (oS "evenrules.reading") 1314) .none (.ref 866) .none 0)) #[]
noncomputable def ob3_868 (P : Params) : Obj := .mk (.type "tuple") .none (.seq #[]) #[]
noncomputable def ob3_869 (P : Params) : Obj := .mk .none .none (.fields #[]) #[]
noncomputable def ob3_870 (P : Params) : Obj := .mk (.type "tuple") .none (.seq #[.str (oS "self") 1391]) #[]
noncomputable def ob3_871 (P : Params) : Obj := .mk (.type "tuple") .none (.seq #[]) #[]
noncomputable def ob3_872 (P : Params) : Obj := .mk .none .none (.func (.mk (oS "greatest") (oS "Reading.greatest") (defArgs (inClass (top 91) 8)) (.stmts (defBody (inClass (top 91) 8))) (defScope (inClass (top 91) 7)) 0 [] .none .none .none .none .none .none .none 0)) #[]
noncomputable def ob3_873 (P : Params) : Obj := .mk (.type "code") .none (.fields #[.str (oS "greatest") 1388, .str (oS "Reading.greatest") 1389, .str (oS "/claim/cut.py") 1390, .int 498 0, .int 1 0, .int 0 0, .int 0 0, .int 3 0, .ref 868, .bool true, .int 181 0, .ref 869, .none, .ref 870, .ref 871, .ref 872, .int 1392 0, .int 498 0, .str (oS "/claim/cut.py") 1393]) #[]
noncomputable def ob3_874 (P : Params) : Obj := .mk (.type "function") .none (.func (.mk (oS "greatest") (oS "Reading.greatest") (defArgs (inClass (top 91) 8)) (.stmts (defBody (inClass (top 91) 8))) (defScope (inClass (top 91) 7)) 3 [] .none .none .none (.str (oS "evenrules.reading") 1314) .none (.ref 873) .none 0)) #[]
noncomputable def ob3_875 (P : Params) : Obj := .mk (.type "tuple") .none (.seq #[]) #[]
noncomputable def ob3_876 (P : Params) : Obj := .mk .none .none (.fields #[]) #[]
noncomputable def ob3_877 (P : Params) : Obj := .mk (.type "tuple") .none (.seq #[.str (oS "self") 1398, .str (oS "at") 1399]) #[]
noncomputable def ob3_878 (P : Params) : Obj := .mk (.type "tuple") .none (.seq #[]) #[]
noncomputable def ob3_879 (P : Params) : Obj := .mk .none .none (.func (.mk (oS "end_of") (oS "Reading.end_of") (defArgs (inClass (top 91) 9)) (.stmts (defBody (inClass (top 91) 9))) (defScope (inClass (top 91) 9)) 0 [] .none .none .none .none .none .none .none 0)) #[]
noncomputable def ob3_880 (P : Params) : Obj := .mk (.type "code") .none (.fields #[.str (oS "end_of") 1395, .str (oS "Reading.end_of") 1396, .str (oS "/claim/cut.py") 1397, .int 501 0, .int 2 0, .int 0 0, .int 0 0, .int 3 0, .ref 875, .bool true, .int 181 0, .ref 876, .none, .ref 877, .ref 878, .ref 879, .int 1400 0, .int 501 0, .str (oS "/claim/cut.py") 1401]) #[]
noncomputable def ob3_881 (P : Params) : Obj := .mk (.type "function") .none (.func (.mk (oS "end_of") (oS "Reading.end_of") (defArgs (inClass (top 91) 9)) (.stmts (defBody (inClass (top 91) 9))) (defScope (inClass (top 91) 9)) 3 [] .none .none .none (.str (oS "evenrules.reading") 1314) .none (.ref 880) .none 0)) #[]
noncomputable def ob3_882 (P : Params) : Obj := .mk (.type "tuple") .none (.seq #[]) #[]
noncomputable def ob3_883 (P : Params) : Obj := .mk .none .none (.fields #[]) #[]
noncomputable def ob3_884 (P : Params) : Obj := .mk (.type "tuple") .none (.seq #[.str (oS "self") 1406, .str (oS "key") 1407, .str (oS "at") 1408]) #[]
noncomputable def ob3_885 (P : Params) : Obj := .mk (.type "tuple") .none (.seq #[]) #[]
noncomputable def ob3_886 (P : Params) : Obj := .mk .none .none (.func (.mk (oS "below") (oS "Reading.below") (defArgs (inClass (top 91) 10)) (.stmts (defBody (inClass (top 91) 10))) (defScope (inClass (top 91) 10)) 0 [] .none .none .none .none .none .none .none 0)) #[]
noncomputable def ob3_887 (P : Params) : Obj := .mk (.type "code") .none (.fields #[.str (oS "below") 1403, .str (oS "Reading.below") 1404, .str (oS "/claim/cut.py") 1405, .int 506 0, .int 2 0, .int 0 0, .int 0 0, .int 3 0, .ref 882, .bool true, .int 181 0, .ref 883, .none, .ref 884, .ref 885, .ref 886, .int 1409 0, .int 506 0, .str (oS "/claim/cut.py") 1410]) #[]
noncomputable def ob3_888 (P : Params) : Obj := .mk (.type "function") .none (.func (.mk (oS "below") (oS "Reading.below") (defArgs (inClass (top 91) 10)) (.stmts (defBody (inClass (top 91) 10))) (defScope (inClass (top 91) 10)) 3 [] .none .none .none (.str (oS "evenrules.reading") 1314) .none (.ref 887) .none 0)) #[]
noncomputable def ob3_889 (P : Params) : Obj := .mk (.type "tuple") .none (.seq #[]) #[]
noncomputable def ob3_890 (P : Params) : Obj := .mk .none .none (.fields #[]) #[]
noncomputable def ob3_891 (P : Params) : Obj := .mk (.type "tuple") .none (.seq #[.str (oS "self") 1415, .str (oS "key") 1416, .str (oS "at") 1417]) #[]
noncomputable def ob3_892 (P : Params) : Obj := .mk (.type "tuple") .none (.seq #[]) #[]
noncomputable def ob3_893 (P : Params) : Obj := .mk .none .none (.func (.mk (oS "above") (oS "Reading.above") (defArgs (inClass (top 91) 11)) (.stmts (defBody (inClass (top 91) 11))) (defScope (inClass (top 91) 11)) 0 [] .none .none .none .none .none .none .none 0)) #[]
noncomputable def ob3_894 (P : Params) : Obj := .mk (.type "code") .none (.fields #[.str (oS "above") 1412, .str (oS "Reading.above") 1413, .str (oS "/claim/cut.py") 1414, .int 510 0, .int 2 0, .int 0 0, .int 0 0, .int 3 0, .ref 889, .bool true, .int 181 0, .ref 890, .none, .ref 891, .ref 892, .ref 893, .int 1418 0, .int 510 0, .str (oS "/claim/cut.py") 1419]) #[]
noncomputable def ob3_895 (P : Params) : Obj := .mk (.type "function") .none (.func (.mk (oS "above") (oS "Reading.above") (defArgs (inClass (top 91) 11)) (.stmts (defBody (inClass (top 91) 11))) (defScope (inClass (top 91) 11)) 3 [] .none .none .none (.str (oS "evenrules.reading") 1314) .none (.ref 894) .none 0)) #[]
noncomputable def ob3_896 (P : Params) : Obj := .mk (.type "tuple") .none (.seq #[]) #[]
noncomputable def ob3_897 (P : Params) : Obj := .mk .none .none (.fields #[]) #[]
noncomputable def ob3_898 (P : Params) : Obj := .mk (.type "tuple") .none (.seq #[.str (oS "self") 1424, .str (oS "key") 1425]) #[]
noncomputable def ob3_899 (P : Params) : Obj := .mk (.type "tuple") .none (.seq #[]) #[]
noncomputable def ob3_900 (P : Params) : Obj := .mk .none .none (.func (.mk (oS "place") (oS "Reading.place") (defArgs (inClass (top 91) 12)) (.stmts (defBody (inClass (top 91) 12))) (defScope (inClass (top 91) 12)) 0 [] .none .none .none .none .none .none .none 0)) #[]
noncomputable def ob3_901 (P : Params) : Obj := .mk (.type "code") .none (.fields #[.str (oS "place") 1421, .str (oS "Reading.place") 1422, .str (oS "/claim/cut.py") 1423, .int 514 0, .int 2 0, .int 0 0, .int 0 0, .int 3 0, .ref 896, .bool true, .int 181 0, .ref 897, .none, .ref 898, .ref 899, .ref 900, .int 1426 0, .int 514 0, .str (oS "/claim/cut.py") 1427]) #[]
noncomputable def ob3_902 (P : Params) : Obj := .mk (.type "function") .none (.func (.mk (oS "place") (oS "Reading.place") (defArgs (inClass (top 91) 12)) (.stmts (defBody (inClass (top 91) 12))) (defScope (inClass (top 91) 12)) 3 [] .none .none .none (.str (oS "evenrules.reading") 1314) .none (.ref 901) .none 0)) #[]
noncomputable def ob3_903 (P : Params) : Obj := .mk (.type "tuple") .none (.seq #[]) #[]
noncomputable def ob3_904 (P : Params) : Obj := .mk .none .none (.fields #[]) #[]
noncomputable def ob3_905 (P : Params) : Obj := .mk (.type "tuple") .none (.seq #[.str (oS "self") 1432, .str (oS "index") 1433]) #[]
noncomputable def ob3_906 (P : Params) : Obj := .mk (.type "tuple") .none (.seq #[]) #[]
noncomputable def ob3_907 (P : Params) : Obj := .mk .none .none (.func (.mk (oS "key_at") (oS "Reading.key_at") (defArgs (inClass (top 91) 13)) (.stmts (defBody (inClass (top 91) 13))) (defScope (inClass (top 91) 13)) 0 [] .none .none .none .none .none .none .none 0)) #[]
noncomputable def ob3_908 (P : Params) : Obj := .mk (.type "code") .none (.fields #[.str (oS "key_at") 1429, .str (oS "Reading.key_at") 1430, .str (oS "/claim/cut.py") 1431, .int 518 0, .int 2 0, .int 0 0, .int 0 0, .int 3 0, .ref 903, .bool true, .int 181 0, .ref 904, .none, .ref 905, .ref 906, .ref 907, .int 1434 0, .int 518 0, .str (oS "/claim/cut.py") 1435]) #[]
noncomputable def ob3_909 (P : Params) : Obj := .mk (.type "function") .none (.func (.mk (oS "key_at") (oS "Reading.key_at") (defArgs (inClass (top 91) 13)) (.stmts (defBody (inClass (top 91) 13))) (defScope (inClass (top 91) 13)) 3 [] .none .none .none (.str (oS "evenrules.reading") 1314) .none (.ref 908) .none 0)) #[]
noncomputable def ob3_910 (P : Params) : Obj := .mk (.type "tuple") .none (.seq #[]) #[]
noncomputable def ob3_911 (P : Params) : Obj := .mk .none .none (.fields #[]) #[]
noncomputable def ob3_912 (P : Params) : Obj := .mk (.type "tuple") .none (.seq #[.str (oS "self") 1440, .str (oS "low") 1441, .str (oS "high") 1442, .str (oS "state") 1443, .str (oS "key") 1444]) #[]
noncomputable def ob3_913 (P : Params) : Obj := .mk (.type "tuple") .none (.seq #[]) #[]
noncomputable def ob3_914 (P : Params) : Obj := .mk .none .none (.func (.mk (oS "between") (oS "Reading.between") (defArgs (inClass (top 91) 14)) (.stmts (defBody (inClass (top 91) 14))) (defScope (inClass (top 91) 14)) 0 [] .none .none .none .none .none .none .none 0)) #[]
noncomputable def ob3_915 (P : Params) : Obj := .mk (.type "code") .none (.fields #[.str (oS "between") 1437, .str (oS "Reading.between") 1438, .str (oS "/claim/cut.py") 1439, .int 521 0, .int 3 0, .int 0 0, .int 0 0, .int 35 0, .ref 910, .bool true, .int 181 0, .ref 911, .none, .ref 912, .ref 913, .ref 914, .int 1445 0, .int 521 0, .str (oS "/claim/cut.py") 1446]) #[]
noncomputable def ob3_916 (P : Params) : Obj := .mk (.type "function") .none (.func (.mk (oS "between") (oS "Reading.between") (defArgs (inClass (top 91) 14)) (.stmts (defBody (inClass (top 91) 14))) (defScope (inClass (top 91) 14)) 3 [] .none .none .none (.str (oS "evenrules.reading") 1314) .none (.ref 915) .none 0)) #[]
noncomputable def ob3_917 (P : Params) : Obj := .mk (.type "tuple") .none (.seq #[]) #[]
noncomputable def ob3_918 (P : Params) : Obj := .mk .none .none (.fields #[]) #[]
noncomputable def ob3_919 (P : Params) : Obj := .mk (.type "tuple") .none (.seq #[.str (oS "self") 1451, .str (oS "key") 1452]) #[]
noncomputable def ob3_920 (P : Params) : Obj := .mk (.type "tuple") .none (.seq #[]) #[]
noncomputable def ob3_921 (P : Params) : Obj := .mk .none .none (.func (.mk (oS "depth") (oS "Reading.depth") (defArgs (inClass (top 91) 15)) (.stmts (defBody (inClass (top 91) 15))) (defScope (inClass (top 91) 15)) 0 [] .none .none .none .none .none .none .none 0)) #[]
noncomputable def ob3_922 (P : Params) : Obj := .mk (.type "code") .none (.fields #[.str (oS "depth") 1448, .str (oS "Reading.depth") 1449, .str (oS "/claim/cut.py") 1450, .int 528 0, .int 2 0, .int 0 0, .int 0 0, .int 3 0, .ref 917, .bool true, .int 181 0, .ref 918, .none, .ref 919, .ref 920, .ref 921, .int 1453 0, .int 528 0, .str (oS "/claim/cut.py") 1454]) #[]
noncomputable def ob3_923 (P : Params) : Obj := .mk (.type "function") .none (.func (.mk (oS "depth") (oS "Reading.depth") (defArgs (inClass (top 91) 15)) (.stmts (defBody (inClass (top 91) 15))) (defScope (inClass (top 91) 15)) 3 [] .none .none .none (.str (oS "evenrules.reading") 1314) .none (.ref 922) .none 0)) #[]
noncomputable def ob3_924 (P : Params) : Obj := .mk (.type "tuple") .none (.seq #[]) #[]
noncomputable def ob3_925 (P : Params) : Obj := .mk .none .none (.fields #[]) #[]
noncomputable def ob3_926 (P : Params) : Obj := .mk (.type "tuple") .none (.seq #[.str (oS "self") 1459]) #[]
noncomputable def ob3_927 (P : Params) : Obj := .mk (.type "tuple") .none (.seq #[]) #[]
noncomputable def ob3_928 (P : Params) : Obj := .mk .none .none (.func (.mk (oS "height") (oS "Reading.height") (defArgs (inClass (top 91) 16)) (.stmts (defBody (inClass (top 91) 16))) (defScope (inClass (top 91) 16)) 0 [] .none .none .none .none .none .none .none 0)) #[]
noncomputable def ob3_929 (P : Params) : Obj := .mk (.type "code") .none (.fields #[.str (oS "height") 1456, .str (oS "Reading.height") 1457, .str (oS "/claim/cut.py") 1458, .int 531 0, .int 1 0, .int 0 0, .int 0 0, .int 3 0, .ref 924, .bool true, .int 181 0, .ref 925, .none, .ref 926, .ref 927, .ref 928, .int 1460 0, .int 531 0, .str (oS "/claim/cut.py") 1461]) #[]
noncomputable def ob3_930 (P : Params) : Obj := .mk (.type "function") .none (.func (.mk (oS "height") (oS "Reading.height") (defArgs (inClass (top 91) 16)) (.stmts (defBody (inClass (top 91) 16))) (defScope (inClass (top 91) 16)) 3 [] .none .none .none (.str (oS "evenrules.reading") 1314) .none (.ref 929) .none 0)) #[]
noncomputable def ob3_931 (P : Params) : Obj := .mk (.type "property") .none (.fields #[.ref 930, .none, .none, .none, .str (oS "height") 1463, .bool false]) #[]
noncomputable def ob3_932 (P : Params) : Obj := .mk (.type "tuple") .none (.seq #[]) #[]
noncomputable def ob3_933 (P : Params) : Obj := .mk .none .none (.fields #[]) #[]
noncomputable def ob3_934 (P : Params) : Obj := .mk (.type "tuple") .none (.seq #[.str (oS "self") 1467]) #[]
noncomputable def ob3_935 (P : Params) : Obj := .mk (.type "tuple") .none (.seq #[]) #[]
noncomputable def ob3_936 (P : Params) : Obj := .mk .none .none (.func (.mk (oS "layout") (oS "Reading.layout") (defArgs (inClass (top 91) 17)) (.stmts (defBody (inClass (top 91) 17))) (defScope (inClass (top 91) 17)) 0 [] .none .none .none .none .none .none .none 0)) #[]
noncomputable def ob3_937 (P : Params) : Obj := .mk (.type "code") .none (.fields #[.str (oS "layout") 1464, .str (oS "Reading.layout") 1465, .str (oS "/claim/cut.py") 1466, .int 535 0, .int 1 0, .int 0 0, .int 0 0, .int 3 0, .ref 932, .bool true, .int 181 0, .ref 933, .none, .ref 934, .ref 935, .ref 936, .int 1468 0, .int 535 0, .str (oS "/claim/cut.py") 1469]) #[]
noncomputable def ob3_938 (P : Params) : Obj := .mk (.type "function") .none (.func (.mk (oS "layout") (oS "Reading.layout") (defArgs (inClass (top 91) 17)) (.stmts (defBody (inClass (top 91) 17))) (defScope (inClass (top 91) 17)) 3 [] .none .none .none (.str (oS "evenrules.reading") 1314) .none (.ref 937) .none 0)) #[]
noncomputable def ob3_939 (P : Params) : Obj := .mk (.type "property") .none (.fields #[.ref 938, .none, .none, .none, .str (oS "layout") 1471, .bool false]) #[]
noncomputable def ob3_940 (P : Params) : Obj := .mk (.type "tuple") .none (.seq #[]) #[]
noncomputable def ob3_941 (P : Params) : Obj := .mk .none .none (.fields #[]) #[]
noncomputable def ob3_942 (P : Params) : Obj := .mk (.type "tuple") .none (.seq #[.str (oS "self") 1475, .str (oS "other") 1476]) #[]
noncomputable def ob3_943 (P : Params) : Obj := .mk (.type "tuple") .none (.seq #[]) #[]
noncomputable def ob3_944 (P : Params) : Obj := .mk .none .none (.func (.mk (oS "__eq__") (oS "Reading.__eq__") (defArgs (inClass (top 91) 18)) (.stmts (defBody (inClass (top 91) 18))) (defScope (inClass (top 91) 18)) 0 [] .none .none .none .none .none .none .none 0)) #[]
noncomputable def ob3_945 (P : Params) : Obj := .mk (.type "code") .none (.fields #[.str (oS "__eq__") 1472, .str (oS "Reading.__eq__") 1473, .str (oS "/claim/cut.py") 1474, .int 539 0, .int 2 0, .int 0 0, .int 0 0, .int 3 0, .ref 940, .bool true, .int 181 0, .ref 941, .none, .ref 942, .ref 943, .ref 944, .int 1477 0, .int 539 0, .str (oS "/claim/cut.py") 1478]) #[]
noncomputable def ob3_946 (P : Params) : Obj := .mk (.type "function") .none (.func (.mk (oS "__eq__") (oS "Reading.__eq__") (defArgs (inClass (top 91) 18)) (.stmts (defBody (inClass (top 91) 18))) (defScope (inClass (top 91) 18)) 3 [] .none .none .none (.str (oS "evenrules.reading") 1314) .none (.ref 945) .none 0)) #[]
noncomputable def ob3_947 (P : Params) : Obj := .mk (.type "tuple") .none (.seq #[]) #[]
noncomputable def ob3_948 (P : Params) : Obj := .mk .none .none (.fields #[]) #[]
noncomputable def ob3_949 (P : Params) : Obj := .mk (.type "tuple") .none (.seq #[.str (oS "self") 1483]) #[]
noncomputable def ob3_950 (P : Params) : Obj := .mk (.type "tuple") .none (.seq #[]) #[]
noncomputable def ob3_951 (P : Params) : Obj := .mk .none .none (.func (.mk (oS "__str__") (oS "Reading.__str__") (defArgs (inClass (top 91) 19)) (.stmts (defBody (inClass (top 91) 19))) (defScope (inClass (top 91) 19)) 0 [] .none .none .none .none .none .none .none 0)) #[]
noncomputable def ob3_952 (P : Params) : Obj := .mk (.type "code") .none (.fields #[.str (oS "__str__") 1480, .str (oS "Reading.__str__") 1481, .str (oS "/claim/cut.py") 1482, .int 542 0, .int 1 0, .int 0 0, .int 0 0, .int 3 0, .ref 947, .bool true, .int 181 0, .ref 948, .none, .ref 949, .ref 950, .ref 951, .int 1484 0, .int 542 0, .str (oS "/claim/cut.py") 1485]) #[]
noncomputable def ob3_953 (P : Params) : Obj := .mk (.type "function") .none (.func (.mk (oS "__str__") (oS "Reading.__str__") (defArgs (inClass (top 91) 19)) (.stmts (defBody (inClass (top 91) 19))) (defScope (inClass (top 91) 19)) 3 [] .none .none .none (.str (oS "evenrules.reading") 1314) .none (.ref 952) .none 0)) #[]
noncomputable def ob3_954 (P : Params) : Obj := .mk (.type "tuple") .none (.seq #[]) #[]
noncomputable def ob3_955 (P : Params) : Obj := .mk (.type "dict") .none (.dict #[.mk (kH P (oS "__module__")) (.str (oS "__module__") 1323) (.str (oS "evenrules.reading") 1314), .mk (kH P (oS "__firstlineno__")) (.str (oS "__firstlineno__") 1327) (.int 470 1326), .mk (kH P (oS "__len__")) (.str (oS "__len__") 1334) (.ref 817), .mk (kH P (oS "__bool__")) (.str (oS "__bool__") 1341) (.ref 824), .mk (kH P (oS "__contains__")) (.str (oS "__contains__") 1349) (.ref 831), .mk (kH P (oS "__iter__")) (.str (oS "__iter__") 1356) (.ref 838), .mk (kH P (oS "falling")) (.str (oS "falling") 1363) (.ref 845), .mk (kH P (oS "__getitem__")) (.str (oS "__getitem__") 1371) (.ref 852), .mk (kH P (oS "get")) (.str (oS "get") 1380) (.ref 860), .mk (kH P (oS "least")) (.str (oS "least") 1387) (.ref 867), .mk (kH P (oS "greatest")) (.str (oS "greatest") 1394) (.ref 874), .mk (kH P (oS "end_of")) (.str (oS "end_of") 1402) (.ref 881), .mk (kH P (oS "below")) (.str (oS "below") 1411) (.ref 888), .mk (kH P (oS "above")) (.str (oS "above") 1420) (.ref 895), .mk (kH P (oS "place")) (.str (oS "place") 1428) (.ref 902), .mk (kH P (oS "key_at")) (.str (oS "key_at") 1436) (.ref 909), .mk (kH P (oS "between")) (.str (oS "between") 1447) (.ref 916), .mk (kH P (oS "depth")) (.str (oS "depth") 1455) (.ref 923), .mk (kH P (oS "height")) (.str (oS "height") 1463) (.ref 931), .mk (kH P (oS "layout")) (.str (oS "layout") 1471) (.ref 939), .mk (kH P (oS "__eq__")) (.str (oS "__eq__") 1479) (.ref 946), .mk (kH P (oS "__str__")) (.str (oS "__str__") 1486) (.ref 953), .mk (kH P (oS "__static_attributes__")) (.str (oS "__static_attributes__") 1487) (.ref 954), .mk (kH P (oS "__dict__")) (.str (oS "__dict__") 1489) (.ref 957), .mk (kH P (oS "__weakref__")) (.str (oS "__weakref__") 1491) (.ref 958), .mk (kH P (oS "__doc__")) (.str (oS "__doc__") 1492) .none, .mk (kH P (oS "__hash__")) (.str (oS "__hash__") 1493) .none] 5) #[]
noncomputable def ob3_956 (P : Params) : Obj := .mk (.type "type") .none (.cls (.mk (oS "Reading") [.type "object"] [.ref 956, .type "object"] 955 (oS "Reading") true [] [.ref 1033] false .none false)) #[.none, .none, .some (.str (oS "Reading") 1316), .some (.str (oS "Reading") 1324), .some (.builtin "object.__new__"), .some (.bool true)]
noncomputable def ob3_957 (P : Params) : Obj := .mk (.type "getset_descriptor") .none (.fields #[.str (oS "__dict__") 1488, .ref 956, .builtin "function.__dict__", .builtin "function.__dict__#set"]) #[]
noncomputable def ob3_958 (P : Params) : Obj := .mk (.type "getset_descriptor") .none (.fields #[.str (oS "__weakref__") 1490, .ref 956, .builtin "ExceptionGroup.__weakref__", .none]) #[]
noncomputable def ob3_959 (P : Params) : Obj := .mk (.type "super") .none (.fields #[.ref 956, .ref 956, .ref 956]) #[]
noncomputable def ob3_960 (P : Params) : Obj := .mk (.type "builtin_function_or_method") .none (.fields #[.builtin "object.__init_subclass__", .ref 956]) #[]
noncomputable def ob3_961 (P : Params) : Obj := .mk (.type "tuple") .none (.seq #[.ref 956]) #[]
noncomputable def ob3_962 (P : Params) : Obj := .mk (.type "builtin_function_or_method") .none (.fields #[.builtin "type.__prepare__", .type "type"]) #[]
noncomputable def ob3_963 (P : Params) : Obj := .mk (.type "dict") .none (.dict #[.mk (kH P (oS "__module__")) (.str (oS "__module__") 1505) (.str (oS "evenrules.parts") 1496), .mk (kH P (oS "__qualname__")) (.str (oS "__qualname__") 1507) (.str (oS "Parts") 1506), .mk (kH P (oS "__firstlineno__")) (.str (oS "__firstlineno__") 1509) (.int 545 1508), .mk (kH P (oS "__floordiv__")) (.str (oS "__floordiv__") 1517) (.ref 974), .mk (kH P (oS "__mod__")) (.str (oS "__mod__") 1525) (.ref 981), .mk (kH P (oS "cut")) (.str (oS "cut") 1534) (.ref 989), .mk (kH P (oS "stretch_of")) (.str (oS "stretch_of") 1540) (.ref 994), .mk (kH P (oS "__add__")) (.str (oS "__add__") 1550) (.ref 1001), .mk (kH P (oS "__or__")) (.str (oS "__or__") 1558) (.ref 1008), .mk (kH P (oS "__and__")) (.str (oS "__and__") 1564) (.ref 1013), .mk (kH P (oS "__sub__")) (.str (oS "__sub__") 1570) (.ref 1018), .mk (kH P (oS "__le__")) (.str (oS "__le__") 1576) (.ref 1023), .mk (kH P (oS "__lt__")) (.str (oS "__lt__") 1584) (.ref 1030), .mk (kH P (oS "__static_attributes__")) (.str (oS "__static_attributes__") 1585) (.ref 1031)] 14) #[]
noncomputable def ob3_964 (P : Params) : Obj := .mk (.type "tuple") .none (.seq #[]) #[]
noncomputable def ob3_965 (P : Params) : Obj := .mk .none .none (.fields #[.int 547 0, .int 4 0, .ref 973, .int 551 0, .int 4 0, .ref 980, .int 555 0, .int 4 0, .ref 988, .int 558 0, .int 4 0, .ref 993, .int 562 0, .int 4 0, .ref 1000, .int 569 0, .int 4 0, .ref 1007, .int 573 0, .int 4 0, .ref 1012, .int 578 0, .int 4 0, .ref 1017, .int 583 0, .int 4 0, .ref 1022, .int 588 0, .int 4 0, .ref 1029]) #[]
noncomputable def ob3_966 (P : Params) : Obj := .mk (.type "code") .none (.fields #[.str (oS "Parts") 1500, .str (oS "Parts") 1501, .str (oS "/claim/cut.py") 1502, .int 545 0, .int 0 0, .int 0 0, .int 0 0, .int 0 0, .ref 964, .bool false, .int 181 0, .ref 965, .none, .none, .none, .none, .int 1503 0, .int 545 0, .str (oS "/claim/cut.py") 1504]) #[]
noncomputable def ob3_967 (P : Params) : Obj := .mk (.type "frame") .none .plain #[.some (.ref 966), .some (.ref 3), .some (.ref 963), .none, .some (.str (oS "evenrules.parts") 1496), .none, .some (.ref 0)]
noncomputable def ob3_968 (P : Params) : Obj := .mk (.type "tuple") .none (.seq #[]) #[]
noncomputable def ob3_969 (P : Params) : Obj := .mk .none .none (.fields #[]) #[]
noncomputable def ob3_970 (P : Params) : Obj := .mk (.type "tuple") .none (.seq #[.str (oS "self") 1513, .str (oS "key") 1514]) #[]
noncomputable def ob3_971 (P : Params) : Obj := .mk (.type "tuple") .none (.seq #[]) #[]
noncomputable def ob3_972 (P : Params) : Obj := .mk .none .none (.func (.mk (oS "__floordiv__") (oS "Parts.__floordiv__") (defArgs (inClass (top 93) 0)) (.stmts (defBody (inClass (top 93) 0))) (defScope (inClass (top 91) 12)) 0 [] .none .none .none .none .none .none .none 0)) #[]
noncomputable def ob3_973 (P : Params) : Obj := .mk (.type "code") .none (.fields #[.str (oS "__floordiv__") 1510, .str (oS "Parts.__floordiv__") 1511, .str (oS "/claim/cut.py") 1512, .int 547 0, .int 2 0, .int 0 0, .int 0 0, .int 3 0, .ref 968, .bool true, .int 181 0, .ref 969, .none, .ref 970, .ref 971, .ref 972, .int 1515 0, .int 547 0, .str (oS "/claim/cut.py") 1516]) #[]
noncomputable def ob3_974 (P : Params) : Obj := .mk (.type "function") .none (.func (.mk (oS "__floordiv__") (oS "Parts.__floordiv__") (defArgs (inClass (top 93) 0)) (.stmts (defBody (inClass (top 93) 0))) (defScope (inClass (top 91) 12)) 3 [] .none .none .none (.str (oS "evenrules.parts") 1496) .none (.ref 973) .none 0)) #[]
noncomputable def ob3_975 (P : Params) : Obj := .mk (.type "tuple") .none (.seq #[]) #[]
noncomputable def ob3_976 (P : Params) : Obj := .mk .none .none (.fields #[]) #[]
noncomputable def ob3_977 (P : Params) : Obj := .mk (.type "tuple") .none (.seq #[.str (oS "self") 1521, .str (oS "key") 1522]) #[]
noncomputable def ob3_978 (P : Params) : Obj := .mk (.type "tuple") .none (.seq #[]) #[]
noncomputable def ob3_979 (P : Params) : Obj := .mk .none .none (.func (.mk (oS "__mod__") (oS "Parts.__mod__") (defArgs (inClass (top 93) 1)) (.stmts (defBody (inClass (top 93) 1))) (defScope (inClass (top 93) 1)) 0 [] .none .none .none .none .none .none .none 0)) #[]
noncomputable def ob3_980 (P : Params) : Obj := .mk (.type "code") .none (.fields #[.str (oS "__mod__") 1518, .str (oS "Parts.__mod__") 1519, .str (oS "/claim/cut.py") 1520, .int 551 0, .int 2 0, .int 0 0, .int 0 0, .int 3 0, .ref 975, .bool true, .int 181 0, .ref 976, .none, .ref 977, .ref 978, .ref 979, .int 1523 0, .int 551 0, .str (oS "/claim/cut.py") 1524]) #[]
noncomputable def ob3_981 (P : Params) : Obj := .mk (.type "function") .none (.func (.mk (oS "__mod__") (oS "Parts.__mod__") (defArgs (inClass (top 93) 1)) (.stmts (defBody (inClass (top 93) 1))) (defScope (inClass (top 93) 1)) 3 [] .none .none .none (.str (oS "evenrules.parts") 1496) .none (.ref 980) .none 0)) #[]
noncomputable def ob3_982 (P : Params) : Obj := .mk (.type "tuple") .none (.seq #[.none, .none]) #[]
noncomputable def ob3_983 (P : Params) : Obj := .mk (.type "tuple") .none (.seq #[]) #[]
noncomputable def ob3_984 (P : Params) : Obj := .mk .none .none (.fields #[]) #[]
noncomputable def ob3_985 (P : Params) : Obj := .mk (.type "tuple") .none (.seq #[.str (oS "self") 1529, .str (oS "low") 1530, .str (oS "high") 1531]) #[]
noncomputable def ob3_986 (P : Params) : Obj := .mk (.type "tuple") .none (.seq #[]) #[]
noncomputable def ob3_987 (P : Params) : Obj := .mk .none .none (.func (.mk (oS "cut") (oS "Parts.cut") (defArgs (inClass (top 93) 2)) (.stmts (defBody (inClass (top 93) 2))) (defScope (inClass (top 93) 2)) 0 [] .none .none .none .none .none .none .none 0)) #[]
noncomputable def ob3_988 (P : Params) : Obj := .mk (.type "code") .none (.fields #[.str (oS "cut") 1526, .str (oS "Parts.cut") 1527, .str (oS "/claim/cut.py") 1528, .int 555 0, .int 3 0, .int 0 0, .int 0 0, .int 3 0, .ref 983, .bool true, .int 181 0, .ref 984, .none, .ref 985, .ref 986, .ref 987, .int 1532 0, .int 555 0, .str (oS "/claim/cut.py") 1533]) #[]
noncomputable def ob3_989 (P : Params) : Obj := .mk (.type "function") .none (.func (.mk (oS "cut") (oS "Parts.cut") (defArgs (inClass (top 93) 2)) (.stmts (defBody (inClass (top 93) 2))) (defScope (inClass (top 93) 2)) 3 [] (.ref 982) .none .none (.str (oS "evenrules.parts") 1496) .none (.ref 988) .none 0)) #[]
noncomputable def ob3_990 (P : Params) : Obj := .mk (.type "tuple") .none (.seq #[]) #[]
noncomputable def ob3_991 (P : Params) : Obj := .mk .none .none (.fields #[]) #[]
noncomputable def ob3_992 (P : Params) : Obj := .mk .none .none (.func (.mk (oS "stretch_of") (oS "Parts.stretch_of") (defArgs (inClass (top 93) 3)) (.stmts (defBody (inClass (top 93) 3))) (defScope (inClass (top 93) 3)) 0 [] .none .none .none .none .none .none .none 0)) #[]
noncomputable def ob3_993 (P : Params) : Obj := .mk (.type "code") .none (.fields #[.str (oS "stretch_of") 1535, .str (oS "Parts.stretch_of") 1536, .str (oS "/claim/cut.py") 1537, .int 558 0, .int 3 0, .int 0 0, .int 0 0, .int 3 0, .ref 990, .bool true, .int 181 0, .ref 991, .none, .none, .none, .ref 992, .int 1538 0, .int 558 0, .str (oS "/claim/cut.py") 1539]) #[]
noncomputable def ob3_994 (P : Params) : Obj := .mk (.type "function") .none (.func (.mk (oS "stretch_of") (oS "Parts.stretch_of") (defArgs (inClass (top 93) 3)) (.stmts (defBody (inClass (top 93) 3))) (defScope (inClass (top 93) 3)) 3 [] .none .none .none (.str (oS "evenrules.parts") 1496) .none (.ref 993) .none 0)) #[]
noncomputable def ob3_995 (P : Params) : Obj := .mk (.type "tuple") .none (.seq #[]) #[]
noncomputable def ob3_996 (P : Params) : Obj := .mk .none .none (.fields #[]) #[]
noncomputable def ob3_997 (P : Params) : Obj := .mk (.type "tuple") .none (.seq #[.str (oS "self") 1544, .str (oS "other") 1545, .str (oS "mine") 1546, .str (oS "its") 1547]) #[]
noncomputable def ob3_998 (P : Params) : Obj := .mk (.type "tuple") .none (.seq #[]) #[]
noncomputable def ob3_999 (P : Params) : Obj := .mk .none .none (.func (.mk (oS "__add__") (oS "Parts.__add__") (defArgs (inClass (top 93) 4)) (.stmts (defBody (inClass (top 93) 4))) (defScope (inClass (top 93) 4)) 0 [] .none .none .none .none .none .none .none 0)) #[]
noncomputable def ob3_1000 (P : Params) : Obj := .mk (.type "code") .none (.fields #[.str (oS "__add__") 1541, .str (oS "Parts.__add__") 1542, .str (oS "/claim/cut.py") 1543, .int 562 0, .int 2 0, .int 0 0, .int 0 0, .int 3 0, .ref 995, .bool true, .int 181 0, .ref 996, .none, .ref 997, .ref 998, .ref 999, .int 1548 0, .int 562 0, .str (oS "/claim/cut.py") 1549]) #[]
noncomputable def ob3_1001 (P : Params) : Obj := .mk (.type "function") .none (.func (.mk (oS "__add__") (oS "Parts.__add__") (defArgs (inClass (top 93) 4)) (.stmts (defBody (inClass (top 93) 4))) (defScope (inClass (top 93) 4)) 3 [] .none .none .none (.str (oS "evenrules.parts") 1496) .none (.ref 1000) .none 0)) #[]
noncomputable def ob3_1002 (P : Params) : Obj := .mk (.type "tuple") .none (.seq #[]) #[]
noncomputable def ob3_1003 (P : Params) : Obj := .mk .none .none (.fields #[]) #[]
noncomputable def ob3_1004 (P : Params) : Obj := .mk (.type "tuple") .none (.seq #[.str (oS "self") 1554, .str (oS "other") 1555]) #[]
noncomputable def ob3_1005 (P : Params) : Obj := .mk (.type "tuple") .none (.seq #[]) #[]
noncomputable def ob3_1006 (P : Params) : Obj := .mk .none .none (.func (.mk (oS "__or__") (oS "Parts.__or__") (defArgs (inClass (top 93) 5)) (.stmts (defBody (inClass (top 93) 5))) (defScope (inClass (top 93) 5)) 0 [] .none .none .none .none .none .none .none 0)) #[]
noncomputable def ob3_1007 (P : Params) : Obj := .mk (.type "code") .none (.fields #[.str (oS "__or__") 1551, .str (oS "Parts.__or__") 1552, .str (oS "/claim/cut.py") 1553, .int 569 0, .int 2 0, .int 0 0, .int 0 0, .int 3 0, .ref 1002, .bool true, .int 181 0, .ref 1003, .none, .ref 1004, .ref 1005, .ref 1006, .int 1556 0, .int 569 0, .str (oS "/claim/cut.py") 1557]) #[]
noncomputable def ob3_1008 (P : Params) : Obj := .mk (.type "function") .none (.func (.mk (oS "__or__") (oS "Parts.__or__") (defArgs (inClass (top 93) 5)) (.stmts (defBody (inClass (top 93) 5))) (defScope (inClass (top 93) 5)) 3 [] .none .none .none (.str (oS "evenrules.parts") 1496) .none (.ref 1007) .none 0)) #[]
noncomputable def ob3_1009 (P : Params) : Obj := .mk (.type "tuple") .none (.seq #[]) #[]
noncomputable def ob3_1010 (P : Params) : Obj := .mk .none .none (.fields #[]) #[]
noncomputable def ob3_1011 (P : Params) : Obj := .mk .none .none (.func (.mk (oS "__and__") (oS "Parts.__and__") (defArgs (inClass (top 93) 6)) (.stmts (defBody (inClass (top 93) 6))) (defScope (inClass (top 93) 6)) 0 [] .none .none .none .none .none .none .none 0)) #[]
noncomputable def ob3_1012 (P : Params) : Obj := .mk (.type "code") .none (.fields #[.str (oS "__and__") 1559, .str (oS "Parts.__and__") 1560, .str (oS "/claim/cut.py") 1561, .int 573 0, .int 2 0, .int 0 0, .int 0 0, .int 3 0, .ref 1009, .bool true, .int 181 0, .ref 1010, .none, .none, .none, .ref 1011, .int 1562 0, .int 573 0, .str (oS "/claim/cut.py") 1563]) #[]
noncomputable def ob3_1013 (P : Params) : Obj := .mk (.type "function") .none (.func (.mk (oS "__and__") (oS "Parts.__and__") (defArgs (inClass (top 93) 6)) (.stmts (defBody (inClass (top 93) 6))) (defScope (inClass (top 93) 6)) 3 [] .none .none .none (.str (oS "evenrules.parts") 1496) .none (.ref 1012) .none 0)) #[]
noncomputable def ob3_1014 (P : Params) : Obj := .mk (.type "tuple") .none (.seq #[]) #[]
noncomputable def ob3_1015 (P : Params) : Obj := .mk .none .none (.fields #[]) #[]
noncomputable def ob3_1016 (P : Params) : Obj := .mk .none .none (.func (.mk (oS "__sub__") (oS "Parts.__sub__") (defArgs (inClass (top 93) 7)) (.stmts (defBody (inClass (top 93) 7))) (defScope (inClass (top 93) 6)) 0 [] .none .none .none .none .none .none .none 0)) #[]
noncomputable def ob3_1017 (P : Params) : Obj := .mk (.type "code") .none (.fields #[.str (oS "__sub__") 1565, .str (oS "Parts.__sub__") 1566, .str (oS "/claim/cut.py") 1567, .int 578 0, .int 2 0, .int 0 0, .int 0 0, .int 3 0, .ref 1014, .bool true, .int 181 0, .ref 1015, .none, .none, .none, .ref 1016, .int 1568 0, .int 578 0, .str (oS "/claim/cut.py") 1569]) #[]
noncomputable def ob3_1018 (P : Params) : Obj := .mk (.type "function") .none (.func (.mk (oS "__sub__") (oS "Parts.__sub__") (defArgs (inClass (top 93) 7)) (.stmts (defBody (inClass (top 93) 7))) (defScope (inClass (top 93) 6)) 3 [] .none .none .none (.str (oS "evenrules.parts") 1496) .none (.ref 1017) .none 0)) #[]
noncomputable def ob3_1019 (P : Params) : Obj := .mk (.type "tuple") .none (.seq #[]) #[]
noncomputable def ob3_1020 (P : Params) : Obj := .mk .none .none (.fields #[]) #[]
noncomputable def ob3_1021 (P : Params) : Obj := .mk .none .none (.func (.mk (oS "__le__") (oS "Parts.__le__") (defArgs (inClass (top 93) 8)) (.stmts (defBody (inClass (top 93) 8))) (defScope (inClass (top 93) 8)) 0 [] .none .none .none .none .none .none .none 0)) #[]
noncomputable def ob3_1022 (P : Params) : Obj := .mk (.type "code") .none (.fields #[.str (oS "__le__") 1571, .str (oS "Parts.__le__") 1572, .str (oS "/claim/cut.py") 1573, .int 583 0, .int 2 0, .int 0 0, .int 0 0, .int 3 0, .ref 1019, .bool true, .int 181 0, .ref 1020, .none, .none, .none, .ref 1021, .int 1574 0, .int 583 0, .str (oS "/claim/cut.py") 1575]) #[]
noncomputable def ob3_1023 (P : Params) : Obj := .mk (.type "function") .none (.func (.mk (oS "__le__") (oS "Parts.__le__") (defArgs (inClass (top 93) 8)) (.stmts (defBody (inClass (top 93) 8))) (defScope (inClass (top 93) 8)) 3 [] .none .none .none (.str (oS "evenrules.parts") 1496) .none (.ref 1022) .none 0)) #[]
noncomputable def ob3_1024 (P : Params) : Obj := .mk (.type "tuple") .none (.seq #[]) #[]
noncomputable def ob3_1025 (P : Params) : Obj := .mk .none .none (.fields #[]) #[]
noncomputable def ob3_1026 (P : Params) : Obj := .mk (.type "tuple") .none (.seq #[.str (oS "self") 1580, .str (oS "other") 1581]) #[]
noncomputable def ob3_1027 (P : Params) : Obj := .mk (.type "tuple") .none (.seq #[]) #[]
noncomputable def ob3_1028 (P : Params) : Obj := .mk .none .none (.func (.mk (oS "__lt__") (oS "Parts.__lt__") (defArgs (inClass (top 93) 9)) (.stmts (defBody (inClass (top 93) 9))) (defScope (inClass (top 93) 9)) 0 [] .none .none .none .none .none .none .none 0)) #[]
noncomputable def ob3_1029 (P : Params) : Obj := .mk (.type "code") .none (.fields #[.str (oS "__lt__") 1577, .str (oS "Parts.__lt__") 1578, .str (oS "/claim/cut.py") 1579, .int 588 0, .int 2 0, .int 0 0, .int 0 0, .int 3 0, .ref 1024, .bool true, .int 181 0, .ref 1025, .none, .ref 1026, .ref 1027, .ref 1028, .int 1582 0, .int 588 0, .str (oS "/claim/cut.py") 1583]) #[]
noncomputable def ob3_1030 (P : Params) : Obj := .mk (.type "function") .none (.func (.mk (oS "__lt__") (oS "Parts.__lt__") (defArgs (inClass (top 93) 9)) (.stmts (defBody (inClass (top 93) 9))) (defScope (inClass (top 93) 9)) 3 [] .none .none .none (.str (oS "evenrules.parts") 1496) .none (.ref 1029) .none 0)) #[]
noncomputable def ob3_1031 (P : Params) : Obj := .mk (.type "tuple") .none (.seq #[]) #[]
noncomputable def ob3_1032 (P : Params) : Obj := .mk (.type "dict") .none (.dict #[.mk (kH P (oS "__module__")) (.str (oS "__module__") 1505) (.str (oS "evenrules.parts") 1496), .mk (kH P (oS "__firstlineno__")) (.str (oS "__firstlineno__") 1509) (.int 545 1508), .mk (kH P (oS "__floordiv__")) (.str (oS "__floordiv__") 1517) (.ref 974), .mk (kH P (oS "__mod__")) (.str (oS "__mod__") 1525) (.ref 981), .mk (kH P (oS "cut")) (.str (oS "cut") 1534) (.ref 989), .mk (kH P (oS "stretch_of")) (.str (oS "stretch_of") 1540) (.ref 994), .mk (kH P (oS "__add__")) (.str (oS "__add__") 1550) (.ref 1001), .mk (kH P (oS "__or__")) (.str (oS "__or__") 1558) (.ref 1008), .mk (kH P (oS "__and__")) (.str (oS "__and__") 1564) (.ref 1013), .mk (kH P (oS "__sub__")) (.str (oS "__sub__") 1570) (.ref 1018), .mk (kH P (oS "__le__")) (.str (oS "__le__") 1576) (.ref 1023), .mk (kH P (oS "__lt__")) (.str (oS "__lt__") 1584) (.ref 1030), .mk (kH P (oS "__static_attributes__")) (.str (oS "__static_attributes__") 1585) (.ref 1031), .mk (kH P (oS "__doc__")) (.str (oS "__doc__") 1586) .none] 2) #[]
noncomputable def ob3_1033 (P : Params) : Obj := .mk (.type "type") .none (.cls (.mk (oS "Parts") [.ref 956] [.ref 1033, .ref 956, .type "object"] 1032 (oS "Parts") true [] [.ref 1201] false .none false)) #[.some (.ref 961), .none, .some (.str (oS "Parts") 1498), .some (.str (oS "Parts") 1506), .some (.builtin "object.__new__"), .some (.bool true)]
noncomputable def ob3_1034 (P : Params) : Obj := .mk (.type "super") .none (.fields #[.ref 1033, .ref 1033, .ref 1033]) #[]
noncomputable def ob3_1035 (P : Params) : Obj := .mk (.type "builtin_function_or_method") .none (.fields #[.builtin "object.__init_subclass__", .ref 1033]) #[]
noncomputable def ob3_1036 (P : Params) : Obj := .mk (.type "tuple") .none (.seq #[]) #[]
noncomputable def ob3_1037 (P : Params) : Obj := .mk .none .none (.fields #[]) #[]
noncomputable def ob3_1038 (P : Params) : Obj := .mk (.type "tuple") .none (.seq #[.str (oS "value") 1592]) #[]
noncomputable def ob3_1039 (P : Params) : Obj := .mk (.type "tuple") .none (.seq #[]) #[]
noncomputable def ob3_1040 (P : Params) : Obj := .mk .none .none (.func (.mk (oS "need_tree") (oS "need_tree") (defArgs (top 94)) (.stmts (defBody (top 94))) (defScope (top 94)) 0 [] .none .none .none .none .none .none .none 0)) #[]
noncomputable def ob3_1041 (P : Params) : Obj := .mk (.type "code") .none (.fields #[.str (oS "need_tree") 1589, .str (oS "need_tree") 1590, .str (oS "/claim/cut.py") 1591, .int 590 0, .int 1 0, .int 0 0, .int 0 0, .int 3 0, .ref 1036, .bool true, .int 181 0, .ref 1037, .none, .ref 1038, .ref 1039, .ref 1040, .int 1593 0, .int 590 0, .str (oS "/claim/cut.py") 1594]) #[]
noncomputable def ob3_1042 (P : Params) : Obj := .mk (.type "function") .none (.func (.mk (oS "need_tree") (oS "need_tree") (defArgs (top 94)) (.stmts (defBody (top 94))) (defScope (top 94)) 3 [] .none .none .none (.str (oS "evenrules.parts") 1496) .none (.ref 1041) .none 0)) #[]
noncomputable def ob3_1043 (P : Params) : Obj := .mk (.type "tuple") .none (.seq #[]) #[]
noncomputable def ob3_1044 (P : Params) : Obj := .mk .none .none (.fields #[]) #[]
noncomputable def ob3_1045 (P : Params) : Obj := .mk (.type "tuple") .none (.seq #[.str (oS "mine") 1599, .str (oS "its") 1600, .str (oS "both") 1601]) #[]
noncomputable def ob3_1046 (P : Params) : Obj := .mk (.type "tuple") .none (.seq #[]) #[]
noncomputable def ob3_1047 (P : Params) : Obj := .mk .none .none (.func (.mk (oS "united") (oS "united") (defArgs (top 95)) (.stmts (defBody (top 95))) (defScope (top 95)) 0 [] .none .none .none .none .none .none .none 0)) #[]
noncomputable def ob3_1048 (P : Params) : Obj := .mk (.type "code") .none (.fields #[.str (oS "united") 1596, .str (oS "united") 1597, .str (oS "/claim/cut.py") 1598, .int 593 0, .int 2 0, .int 0 0, .int 0 0, .int 3 0, .ref 1043, .bool true, .int 181 0, .ref 1044, .none, .ref 1045, .ref 1046, .ref 1047, .int 1602 0, .int 593 0, .str (oS "/claim/cut.py") 1603]) #[]
noncomputable def ob3_1049 (P : Params) : Obj := .mk (.type "function") .none (.func (.mk (oS "united") (oS "united") (defArgs (top 95)) (.stmts (defBody (top 95))) (defScope (top 95)) 3 [] .none .none .none (.str (oS "evenrules.parts") 1496) .none (.ref 1048) .none 0)) #[]
noncomputable def ob3_1050 (P : Params) : Obj := .mk (.type "tuple") .none (.seq #[]) #[]
noncomputable def ob3_1051 (P : Params) : Obj := .mk (.type "builtin_function_or_method") .none (.fields #[.builtin "type.__prepare__", .type "type"]) #[]
noncomputable def ob3_1052 (P : Params) : Obj := .mk (.type "dict") .none (.dict #[.mk (kH P (oS "__module__")) (.str (oS "__module__") 1614) (.str (oS "evenrules.saving") 1605), .mk (kH P (oS "__qualname__")) (.str (oS "__qualname__") 1616) (.str (oS "Saved") 1615), .mk (kH P (oS "__firstlineno__")) (.str (oS "__firstlineno__") 1618) (.int 599 1617), .mk (kH P (oS "__init__")) (.str (oS "__init__") 1627) (.ref 1063), .mk (kH P (oS "__static_attributes__")) (.str (oS "__static_attributes__") 1630) (.ref 1064)] 5) #[]
noncomputable def ob3_1053 (P : Params) : Obj := .mk (.type "tuple") .none (.seq #[]) #[]
noncomputable def ob3_1054 (P : Params) : Obj := .mk .none .none (.fields #[.int 601 0, .int 4 0, .ref 1062]) #[]
noncomputable def ob3_1055 (P : Params) : Obj := .mk (.type "code") .none (.fields #[.str (oS "Saved") 1609, .str (oS "Saved") 1610, .str (oS "/claim/cut.py") 1611, .int 599 0, .int 0 0, .int 0 0, .int 0 0, .int 0 0, .ref 1053, .bool false, .int 181 0, .ref 1054, .none, .none, .none, .none, .int 1612 0, .int 599 0, .str (oS "/claim/cut.py") 1613]) #[]
noncomputable def ob3_1056 (P : Params) : Obj := .mk (.type "frame") .none .plain #[.some (.ref 1055), .some (.ref 3), .some (.ref 1052), .none, .some (.str (oS "evenrules.saving") 1605), .none, .some (.ref 0)]
noncomputable def ob3_1057 (P : Params) : Obj := .mk (.type "tuple") .none (.seq #[]) #[]
noncomputable def ob3_1058 (P : Params) : Obj := .mk .none .none (.fields #[]) #[]
noncomputable def ob3_1059 (P : Params) : Obj := .mk (.type "tuple") .none (.seq #[.str (oS "self") 1622, .str (oS "state") 1623, .str (oS "before") 1624]) #[]
noncomputable def ob3_1060 (P : Params) : Obj := .mk (.type "tuple") .none (.seq #[]) #[]
noncomputable def ob3_1061 (P : Params) : Obj := .mk .none .none (.func (.mk (oS "__init__") (oS "Saved.__init__") (defArgs (inClass (top 97) 0)) (.stmts (defBody (inClass (top 97) 0))) (defScope (inClass (top 97) 0)) 0 [] .none .none .none .none .none .none .none 0)) #[]
noncomputable def ob3_1062 (P : Params) : Obj := .mk (.type "code") .none (.fields #[.str (oS "__init__") 1619, .str (oS "Saved.__init__") 1620, .str (oS "/claim/cut.py") 1621, .int 601 0, .int 3 0, .int 0 0, .int 0 0, .int 3 0, .ref 1057, .bool true, .int 181 0, .ref 1058, .none, .ref 1059, .ref 1060, .ref 1061, .int 1625 0, .int 601 0, .str (oS "/claim/cut.py") 1626]) #[]
noncomputable def ob3_1063 (P : Params) : Obj := .mk (.type "function") .none (.func (.mk (oS "__init__") (oS "Saved.__init__") (defArgs (inClass (top 97) 0)) (.stmts (defBody (inClass (top 97) 0))) (defScope (inClass (top 97) 0)) 3 [] .none .none .none (.str (oS "evenrules.saving") 1605) .none (.ref 1062) .none 0)) #[]
noncomputable def ob3_1064 (P : Params) : Obj := .mk (.type "tuple") .none (.seq #[.str (oS "before") 1628, .str (oS "state") 1629]) #[]
noncomputable def ob3_1065 (P : Params) : Obj := .mk (.type "dict") .none (.dict #[.mk (kH P (oS "__module__")) (.str (oS "__module__") 1614) (.str (oS "evenrules.saving") 1605), .mk (kH P (oS "__firstlineno__")) (.str (oS "__firstlineno__") 1618) (.int 599 1617), .mk (kH P (oS "__init__")) (.str (oS "__init__") 1627) (.ref 1063), .mk (kH P (oS "__static_attributes__")) (.str (oS "__static_attributes__") 1630) (.ref 1064), .mk (kH P (oS "__dict__")) (.str (oS "__dict__") 1632) (.ref 1067), .mk (kH P (oS "__weakref__")) (.str (oS "__weakref__") 1634) (.ref 1068), .mk (kH P (oS "__doc__")) (.str (oS "__doc__") 1635) .none] 4) #[]
noncomputable def ob3_1066 (P : Params) : Obj := .mk (.type "type") .none (.cls (.mk (oS "Saved") [.type "object"] [.ref 1066, .type "object"] 1065 (oS "Saved") true [] [] false .none false)) #[.none, .none, .some (.str (oS "Saved") 1607), .some (.str (oS "Saved") 1615), .some (.builtin "object.__new__"), .some (.bool true)]
noncomputable def ob3_1067 (P : Params) : Obj := .mk (.type "getset_descriptor") .none (.fields #[.str (oS "__dict__") 1631, .ref 1066, .builtin "function.__dict__", .builtin "function.__dict__#set"]) #[]
noncomputable def ob3_1068 (P : Params) : Obj := .mk (.type "getset_descriptor") .none (.fields #[.str (oS "__weakref__") 1633, .ref 1066, .builtin "ExceptionGroup.__weakref__", .none]) #[]
noncomputable def ob3_1069 (P : Params) : Obj := .mk (.type "super") .none (.fields #[.ref 1066, .ref 1066, .ref 1066]) #[]
noncomputable def ob3_1070 (P : Params) : Obj := .mk (.type "builtin_function_or_method") .none (.fields #[.builtin "object.__init_subclass__", .ref 1066]) #[]
noncomputable def ob3_1071 (P : Params) : Obj := .mk (.type "tuple") .none (.seq #[.ref 1033]) #[]
noncomputable def ob3_1072 (P : Params) : Obj := .mk (.type "builtin_function_or_method") .none (.fields #[.builtin "type.__prepare__", .type "type"]) #[]
noncomputable def ob3_1073 (P : Params) : Obj := .mk (.type "dict") .none (.dict #[.mk (kH P (oS "__module__")) (.str (oS "__module__") 1647) (.str (oS "evenrules.trees") 1638), .mk (kH P (oS "__qualname__")) (.str (oS "__qualname__") 1649) (.str (oS "Tree") 1648), .mk (kH P (oS "__firstlineno__")) (.str (oS "__firstlineno__") 1651) (.int 605 1650), .mk (kH P (oS "MOST")) (.str (oS "MOST") 1653) (.int 2000 1652), .mk (kH P (oS "__init__")) (.str (oS "__init__") 1662) (.ref 1086), .mk (kH P (oS "halves")) (.str (oS "halves") 1686) (.ref 1095), .mk (kH P (oS "like")) (.str (oS "like") 1694) (.ref 1103), .mk (kH P (oS "put")) (.str (oS "put") 1703) (.ref 1111), .mk (kH P (oS "__setitem__")) (.str (oS "__setitem__") 1712) (.ref 1118), .mk (kH P (oS "drop")) (.str (oS "drop") 1721) (.ref 1125), .mk (kH P (oS "__ior__")) (.str (oS "__ior__") 1729) (.ref 1132), .mk (kH P (oS "rule")) (.str (oS "rule") 1737) (.ref 1149), .mk (kH P (oS "exchange")) (.str (oS "exchange") 1755) (.ref 1156), .mk (kH P (oS "unfair")) (.str (oS "unfair") 1762) (.ref 1163), .mk (kH P (oS "trial")) (.str (oS "trial") 1769) (.ref 1170), .mk (kH P (oS "__enter__")) (.str (oS "__enter__") 1776) (.ref 1177), .mk (kH P (oS "__exit__")) (.str (oS "__exit__") 1784) (.ref 1184), .mk (kH P (oS "tried")) (.str (oS "tried") 1792) (.ref 1191), .mk (kH P (oS "twin")) (.str (oS "twin") 1799) (.ref 1198), .mk (kH P (oS "__static_attributes__")) (.str (oS "__static_attributes__") 1802) (.ref 1199)] 20) #[]
noncomputable def ob3_1074 (P : Params) : Obj := .mk (.type "tuple") .none (.seq #[]) #[]
noncomputable def ob3_1075 (P : Params) : Obj := .mk .none .none (.fields #[.int 608 0, .int 4 0, .ref 1085, .int 618 0, .int 4 0, .ref 1092, .int 632 0, .int 4 0, .ref 1102, .int 635 0, .int 4 0, .ref 1110, .int 638 0, .int 4 0, .ref 1117, .int 641 0, .int 4 0, .ref 1124, .int 648 0, .int 4 0, .ref 1131, .int 655 0, .int 4 0, .ref 1138, .int 659 0, .int 4 0, .ref 1147, .int 662 0, .int 4 0, .ref 1155, .int 666 0, .int 4 0, .ref 1162, .int 669 0, .int 4 0, .ref 1169, .int 672 0, .int 4 0, .ref 1176, .int 676 0, .int 4 0, .ref 1183, .int 680 0, .int 4 0, .ref 1190, .int 683 0, .int 4 0, .ref 1197]) #[]
noncomputable def ob3_1076 (P : Params) : Obj := .mk (.type "code") .none (.fields #[.str (oS "Tree") 1642, .str (oS "Tree") 1643, .str (oS "/claim/cut.py") 1644, .int 605 0, .int 0 0, .int 0 0, .int 0 0, .int 0 0, .ref 1074, .bool false, .int 181 0, .ref 1075, .none, .none, .none, .none, .int 1645 0, .int 605 0, .str (oS "/claim/cut.py") 1646]) #[]
noncomputable def ob3_1077 (P : Params) : Obj := .mk (.type "frame") .none .plain #[.some (.ref 1076), .some (.ref 3), .some (.ref 1073), .none, .some (.str (oS "evenrules.trees") 1638), .none, .some (.ref 0)]
noncomputable def ob3_1078 (P : Params) : Obj := .mk (.type "tuple") .none (.seq #[]) #[]
noncomputable def ob3_1079 (P : Params) : Obj := .mk (.type "tuple") .none (.seq #[.ref 1078]) #[]
noncomputable def ob3_1080 (P : Params) : Obj := .mk (.type "tuple") .none (.seq #[]) #[]
noncomputable def ob3_1081 (P : Params) : Obj := .mk .none .none (.fields #[]) #[]
noncomputable def ob3_1082 (P : Params) : Obj := .mk (.type "tuple") .none (.seq #[.str (oS "self") 1657, .str (oS "rule") 1658, .str (oS "items") 1659]) #[]
noncomputable def ob3_1083 (P : Params) : Obj := .mk (.type "tuple") .none (.seq #[]) #[]
noncomputable def ob3_1084 (P : Params) : Obj := .mk .none .none (.func (.mk (oS "__init__") (oS "Tree.__init__") (defArgs (inClass (top 99) 1)) (.stmts (defBody (inClass (top 99) 1))) (defScope (inClass (top 99) 1)) 0 [] .none .none .none .none .none .none .none 0)) #[]
noncomputable def ob3_1085 (P : Params) : Obj := .mk (.type "code") .none (.fields #[.str (oS "__init__") 1654, .str (oS "Tree.__init__") 1655, .str (oS "/claim/cut.py") 1656, .int 608 0, .int 3 0, .int 0 0, .int 0 0, .int 3 0, .ref 1080, .bool true, .int 181 0, .ref 1081, .none, .ref 1082, .ref 1083, .ref 1084, .int 1660 0, .int 608 0, .str (oS "/claim/cut.py") 1661]) #[]
noncomputable def ob3_1086 (P : Params) : Obj := .mk (.type "function") .none (.func (.mk (oS "__init__") (oS "Tree.__init__") (defArgs (inClass (top 99) 1)) (.stmts (defBody (inClass (top 99) 1))) (defScope (inClass (top 99) 1)) 3 [] (.ref 1079) .none .none (.str (oS "evenrules.trees") 1638) .none (.ref 1085) .none 0)) #[]
noncomputable def ob3_1087 (P : Params) : Obj := .mk (.type "tuple") .none (.seq #[]) #[]
noncomputable def ob3_1088 (P : Params) : Obj := .mk .none .none (.fields #[]) #[]
noncomputable def ob3_1089 (P : Params) : Obj := .mk (.type "tuple") .none (.seq #[.str (oS "rule") 1666, .str (oS "items") 1667, .str (oS "key") 1668, .str (oS "_") 1669, .str (oS "worths") 1670, .str (oS "worth") 1671]) #[]
noncomputable def ob3_1090 (P : Params) : Obj := .mk (.type "tuple") .none (.seq #[]) #[]
noncomputable def ob3_1091 (P : Params) : Obj := .mk .none .none (.func (.mk (oS "halves") (oS "Tree.halves") (defArgs (inClass (top 99) 2)) (.stmts (defBody (inClass (top 99) 2))) (defScope (inClass (top 99) 2)) 0 [] .none .none .none .none .none .none .none 0)) #[]
noncomputable def ob3_1092 (P : Params) : Obj := .mk (.type "code") .none (.fields #[.str (oS "halves") 1663, .str (oS "Tree.halves") 1664, .str (oS "/claim/cut.py") 1665, .int 617 0, .int 2 0, .int 0 0, .int 0 0, .int 3 0, .ref 1087, .bool true, .int 181 0, .ref 1088, .none, .ref 1089, .ref 1090, .ref 1091, .int 1672 0, .int 617 0, .str (oS "/claim/cut.py") 1673]) #[]
noncomputable def ob3_1093 (P : Params) : Obj := .mk (.type "function") .none (.func (.mk (oS "halves") (oS "Tree.halves") (defArgs (inClass (top 99) 2)) (.stmts (defBody (inClass (top 99) 2))) (defScope (inClass (top 99) 2)) 3 [] .none .none .none (.str (oS "evenrules.trees") 1638) (.some 1096) (.ref 1092) .none 0)) #[]
noncomputable def ob3_1094 (P : Params) : Obj := .mk (.type "dict") .none (.dict #[.mk (kH P (oS "__module__")) (.str (oS "__module__") 1675) (.str (oS "evenrules.trees") 1638), .mk (kH P (oS "__name__")) (.str (oS "__name__") 1678) (.str (oS "halves") 1677), .mk (kH P (oS "__qualname__")) (.str (oS "__qualname__") 1681) (.str (oS "Tree.halves") 1680), .mk (kH P (oS "__doc__")) (.str (oS "__doc__") 1683) .none, .mk (kH P (oS "__annotations__")) (.str (oS "__annotations__") 1685) (.ref 1096)] 5) #[]
noncomputable def ob3_1095 (P : Params) : Obj := .mk (.type "staticmethod") (.some 1094) (.fields #[.ref 1093, .bool false]) #[]
noncomputable def ob3_1096 (P : Params) : Obj := .mk (.type "dict") .none (.dict #[]) #[]
noncomputable def ob3_1097 (P : Params) : Obj := .mk (.type "tuple") .none (.seq #[]) #[]
noncomputable def ob3_1098 (P : Params) : Obj := .mk .none .none (.fields #[]) #[]
noncomputable def ob3_1099 (P : Params) : Obj := .mk (.type "tuple") .none (.seq #[.str (oS "self") 1690, .str (oS "worths") 1691]) #[]
noncomputable def ob3_1100 (P : Params) : Obj := .mk (.type "tuple") .none (.seq #[]) #[]
noncomputable def ob3_1101 (P : Params) : Obj := .mk .none .none (.func (.mk (oS "like") (oS "Tree.like") (defArgs (inClass (top 99) 3)) (.stmts (defBody (inClass (top 99) 3))) (defScope (inClass (top 99) 3)) 0 [] .none .none .none .none .none .none .none 0)) #[]
noncomputable def ob3_1102 (P : Params) : Obj := .mk (.type "code") .none (.fields #[.str (oS "like") 1687, .str (oS "Tree.like") 1688, .str (oS "/claim/cut.py") 1689, .int 632 0, .int 2 0, .int 0 0, .int 0 0, .int 3 0, .ref 1097, .bool true, .int 181 0, .ref 1098, .none, .ref 1099, .ref 1100, .ref 1101, .int 1692 0, .int 632 0, .str (oS "/claim/cut.py") 1693]) #[]
noncomputable def ob3_1103 (P : Params) : Obj := .mk (.type "function") .none (.func (.mk (oS "like") (oS "Tree.like") (defArgs (inClass (top 99) 3)) (.stmts (defBody (inClass (top 99) 3))) (defScope (inClass (top 99) 3)) 3 [] .none .none .none (.str (oS "evenrules.trees") 1638) .none (.ref 1102) .none 0)) #[]
noncomputable def ob3_1104 (P : Params) : Obj := .mk (.type "tuple") .none (.seq #[.none]) #[]
noncomputable def ob3_1105 (P : Params) : Obj := .mk (.type "tuple") .none (.seq #[]) #[]
noncomputable def ob3_1106 (P : Params) : Obj := .mk .none .none (.fields #[]) #[]
noncomputable def ob3_1107 (P : Params) : Obj := .mk (.type "tuple") .none (.seq #[.str (oS "self") 1698, .str (oS "key") 1699, .str (oS "value") 1700]) #[]
noncomputable def ob3_1108 (P : Params) : Obj := .mk (.type "tuple") .none (.seq #[]) #[]
noncomputable def ob3_1109 (P : Params) : Obj := .mk .none .none (.func (.mk (oS "put") (oS "Tree.put") (defArgs (inClass (top 99) 4)) (.stmts (defBody (inClass (top 99) 4))) (defScope (inClass (top 99) 4)) 0 [] .none .none .none .none .none .none .none 0)) #[]
noncomputable def ob3_1110 (P : Params) : Obj := .mk (.type "code") .none (.fields #[.str (oS "put") 1695, .str (oS "Tree.put") 1696, .str (oS "/claim/cut.py") 1697, .int 635 0, .int 3 0, .int 0 0, .int 0 0, .int 3 0, .ref 1105, .bool true, .int 181 0, .ref 1106, .none, .ref 1107, .ref 1108, .ref 1109, .int 1701 0, .int 635 0, .str (oS "/claim/cut.py") 1702]) #[]
noncomputable def ob3_1111 (P : Params) : Obj := .mk (.type "function") .none (.func (.mk (oS "put") (oS "Tree.put") (defArgs (inClass (top 99) 4)) (.stmts (defBody (inClass (top 99) 4))) (defScope (inClass (top 99) 4)) 3 [] (.ref 1104) .none .none (.str (oS "evenrules.trees") 1638) .none (.ref 1110) .none 0)) #[]
noncomputable def ob3_1112 (P : Params) : Obj := .mk (.type "tuple") .none (.seq #[]) #[]
noncomputable def ob3_1113 (P : Params) : Obj := .mk .none .none (.fields #[]) #[]
noncomputable def ob3_1114 (P : Params) : Obj := .mk (.type "tuple") .none (.seq #[.str (oS "self") 1707, .str (oS "key") 1708, .str (oS "value") 1709]) #[]
noncomputable def ob3_1115 (P : Params) : Obj := .mk (.type "tuple") .none (.seq #[]) #[]
noncomputable def ob3_1116 (P : Params) : Obj := .mk .none .none (.func (.mk (oS "__setitem__") (oS "Tree.__setitem__") (defArgs (inClass (top 99) 5)) (.stmts (defBody (inClass (top 99) 5))) (defScope (inClass (top 99) 5)) 0 [] .none .none .none .none .none .none .none 0)) #[]
noncomputable def ob3_1117 (P : Params) : Obj := .mk (.type "code") .none (.fields #[.str (oS "__setitem__") 1704, .str (oS "Tree.__setitem__") 1705, .str (oS "/claim/cut.py") 1706, .int 638 0, .int 3 0, .int 0 0, .int 0 0, .int 3 0, .ref 1112, .bool true, .int 181 0, .ref 1113, .none, .ref 1114, .ref 1115, .ref 1116, .int 1710 0, .int 638 0, .str (oS "/claim/cut.py") 1711]) #[]
noncomputable def ob3_1118 (P : Params) : Obj := .mk (.type "function") .none (.func (.mk (oS "__setitem__") (oS "Tree.__setitem__") (defArgs (inClass (top 99) 5)) (.stmts (defBody (inClass (top 99) 5))) (defScope (inClass (top 99) 5)) 3 [] .none .none .none (.str (oS "evenrules.trees") 1638) .none (.ref 1117) .none 0)) #[]
noncomputable def ob3_1119 (P : Params) : Obj := .mk (.type "tuple") .none (.seq #[]) #[]
noncomputable def ob3_1120 (P : Params) : Obj := .mk .none .none (.fields #[]) #[]
noncomputable def ob3_1121 (P : Params) : Obj := .mk (.type "tuple") .none (.seq #[.str (oS "self") 1716, .str (oS "key") 1717, .str (oS "value") 1718]) #[]
noncomputable def ob3_1122 (P : Params) : Obj := .mk (.type "tuple") .none (.seq #[]) #[]
noncomputable def ob3_1123 (P : Params) : Obj := .mk .none .none (.func (.mk (oS "drop") (oS "Tree.drop") (defArgs (inClass (top 99) 6)) (.stmts (defBody (inClass (top 99) 6))) (defScope (inClass (top 99) 6)) 0 [] .none .none .none .none .none .none .none 0)) #[]
noncomputable def ob3_1124 (P : Params) : Obj := .mk (.type "code") .none (.fields #[.str (oS "drop") 1713, .str (oS "Tree.drop") 1714, .str (oS "/claim/cut.py") 1715, .int 641 0, .int 2 0, .int 0 0, .int 0 0, .int 3 0, .ref 1119, .bool true, .int 181 0, .ref 1120, .none, .ref 1121, .ref 1122, .ref 1123, .int 1719 0, .int 641 0, .str (oS "/claim/cut.py") 1720]) #[]
noncomputable def ob3_1125 (P : Params) : Obj := .mk (.type "function") .none (.func (.mk (oS "drop") (oS "Tree.drop") (defArgs (inClass (top 99) 6)) (.stmts (defBody (inClass (top 99) 6))) (defScope (inClass (top 99) 6)) 3 [] .none .none .none (.str (oS "evenrules.trees") 1638) .none (.ref 1124) .none 0)) #[]
noncomputable def ob3_1126 (P : Params) : Obj := .mk (.type "tuple") .none (.seq #[]) #[]
noncomputable def ob3_1127 (P : Params) : Obj := .mk .none .none (.fields #[]) #[]
noncomputable def ob3_1128 (P : Params) : Obj := .mk (.type "tuple") .none (.seq #[.str (oS "self") 1725, .str (oS "other") 1726]) #[]
noncomputable def ob3_1129 (P : Params) : Obj := .mk (.type "tuple") .none (.seq #[]) #[]
noncomputable def ob3_1130 (P : Params) : Obj := .mk .none .none (.func (.mk (oS "__ior__") (oS "Tree.__ior__") (defArgs (inClass (top 99) 7)) (.stmts (defBody (inClass (top 99) 7))) (defScope (inClass (top 99) 7)) 0 [] .none .none .none .none .none .none .none 0)) #[]
noncomputable def ob3_1131 (P : Params) : Obj := .mk (.type "code") .none (.fields #[.str (oS "__ior__") 1722, .str (oS "Tree.__ior__") 1723, .str (oS "/claim/cut.py") 1724, .int 648 0, .int 2 0, .int 0 0, .int 0 0, .int 3 0, .ref 1126, .bool true, .int 181 0, .ref 1127, .none, .ref 1128, .ref 1129, .ref 1130, .int 1727 0, .int 648 0, .str (oS "/claim/cut.py") 1728]) #[]
noncomputable def ob3_1132 (P : Params) : Obj := .mk (.type "function") .none (.func (.mk (oS "__ior__") (oS "Tree.__ior__") (defArgs (inClass (top 99) 7)) (.stmts (defBody (inClass (top 99) 7))) (defScope (inClass (top 99) 7)) 3 [] .none .none .none (.str (oS "evenrules.trees") 1638) .none (.ref 1131) .none 0)) #[]
noncomputable def ob3_1133 (P : Params) : Obj := .mk (.type "tuple") .none (.seq #[]) #[]
noncomputable def ob3_1134 (P : Params) : Obj := .mk .none .none (.fields #[]) #[]
noncomputable def ob3_1135 (P : Params) : Obj := .mk (.type "tuple") .none (.seq #[.str (oS "self") 1733]) #[]
noncomputable def ob3_1136 (P : Params) : Obj := .mk (.type "tuple") .none (.seq #[]) #[]
noncomputable def ob3_1137 (P : Params) : Obj := .mk .none .none (.func (.mk (oS "rule") (oS "Tree.rule") (defArgs (inClass (top 99) 8)) (.stmts (defBody (inClass (top 99) 8))) (defScope (inClass (top 91) 7)) 0 [] .none .none .none .none .none .none .none 0)) #[]
noncomputable def ob3_1138 (P : Params) : Obj := .mk (.type "code") .none (.fields #[.str (oS "rule") 1730, .str (oS "Tree.rule") 1731, .str (oS "/claim/cut.py") 1732, .int 654 0, .int 1 0, .int 0 0, .int 0 0, .int 3 0, .ref 1133, .bool true, .int 181 0, .ref 1134, .none, .ref 1135, .ref 1136, .ref 1137, .int 1734 0, .int 654 0, .str (oS "/claim/cut.py") 1735]) #[]
noncomputable def ob3_1139 (P : Params) : Obj := .mk (.type "function") .none (.func (.mk (oS "rule") (oS "Tree.rule") (defArgs (inClass (top 99) 8)) (.stmts (defBody (inClass (top 99) 8))) (defScope (inClass (top 91) 7)) 3 [] .none .none .none (.str (oS "evenrules.trees") 1638) .none (.ref 1138) .none 0)) #[]
noncomputable def ob3_1140 (P : Params) : Obj := .mk (.type "property") .none (.fields #[.ref 1139, .none, .none, .none, .int 0 0, .bool false]) #[]
noncomputable def ob3_1141 (P : Params) : Obj := .mk (.type "builtin_function_or_method") .none (.fields #[.builtin "property.setter", .ref 1140]) #[]
noncomputable def ob3_1142 (P : Params) : Obj := .mk (.type "tuple") .none (.seq #[]) #[]
noncomputable def ob3_1143 (P : Params) : Obj := .mk .none .none (.fields #[]) #[]
noncomputable def ob3_1144 (P : Params) : Obj := .mk (.type "tuple") .none (.seq #[.str (oS "self") 1742, .str (oS "value") 1743]) #[]
noncomputable def ob3_1145 (P : Params) : Obj := .mk (.type "tuple") .none (.seq #[]) #[]
noncomputable def ob3_1146 (P : Params) : Obj := .mk .none .none (.func (.mk (oS "rule") (oS "Tree.rule") (defArgs (inClass (top 99) 9)) (.stmts (defBody (inClass (top 99) 9))) (defScope (inClass (top 99) 9)) 0 [] .none .none .none .none .none .none .none 0)) #[]
noncomputable def ob3_1147 (P : Params) : Obj := .mk (.type "code") .none (.fields #[.str (oS "rule") 1739, .str (oS "Tree.rule") 1740, .str (oS "/claim/cut.py") 1741, .int 658 0, .int 2 0, .int 0 0, .int 0 0, .int 3 0, .ref 1142, .bool true, .int 181 0, .ref 1143, .none, .ref 1144, .ref 1145, .ref 1146, .int 1744 0, .int 658 0, .str (oS "/claim/cut.py") 1745]) #[]
noncomputable def ob3_1148 (P : Params) : Obj := .mk (.type "function") .none (.func (.mk (oS "rule") (oS "Tree.rule") (defArgs (inClass (top 99) 9)) (.stmts (defBody (inClass (top 99) 9))) (defScope (inClass (top 99) 9)) 3 [] .none .none .none (.str (oS "evenrules.trees") 1638) .none (.ref 1147) .none 0)) #[]
noncomputable def ob3_1149 (P : Params) : Obj := .mk (.type "property") .none (.fields #[.ref 1139, .ref 1148, .none, .none, .str (oS "rule") 1737, .bool false]) #[]
noncomputable def ob3_1150 (P : Params) : Obj := .mk (.type "tuple") .none (.seq #[]) #[]
noncomputable def ob3_1151 (P : Params) : Obj := .mk .none .none (.fields #[]) #[]
noncomputable def ob3_1152 (P : Params) : Obj := .mk (.type "tuple") .none (.seq #[.str (oS "self") 1751, .str (oS "rule") 1752]) #[]
noncomputable def ob3_1153 (P : Params) : Obj := .mk (.type "tuple") .none (.seq #[]) #[]
noncomputable def ob3_1154 (P : Params) : Obj := .mk .none .none (.func (.mk (oS "exchange") (oS "Tree.exchange") (defArgs (inClass (top 99) 10)) (.stmts (defBody (inClass (top 99) 10))) (defScope (inClass (top 99) 10)) 0 [] .none .none .none .none .none .none .none 0)) #[]
noncomputable def ob3_1155 (P : Params) : Obj := .mk (.type "code") .none (.fields #[.str (oS "exchange") 1748, .str (oS "Tree.exchange") 1749, .str (oS "/claim/cut.py") 1750, .int 662 0, .int 2 0, .int 0 0, .int 0 0, .int 3 0, .ref 1150, .bool true, .int 181 0, .ref 1151, .none, .ref 1152, .ref 1153, .ref 1154, .int 1753 0, .int 662 0, .str (oS "/claim/cut.py") 1754]) #[]
noncomputable def ob3_1156 (P : Params) : Obj := .mk (.type "function") .none (.func (.mk (oS "exchange") (oS "Tree.exchange") (defArgs (inClass (top 99) 10)) (.stmts (defBody (inClass (top 99) 10))) (defScope (inClass (top 99) 10)) 3 [] .none .none .none (.str (oS "evenrules.trees") 1638) .none (.ref 1155) .none 0)) #[]
noncomputable def ob3_1157 (P : Params) : Obj := .mk (.type "tuple") .none (.seq #[]) #[]
noncomputable def ob3_1158 (P : Params) : Obj := .mk .none .none (.fields #[]) #[]
noncomputable def ob3_1159 (P : Params) : Obj := .mk (.type "tuple") .none (.seq #[.str (oS "self") 1759]) #[]
noncomputable def ob3_1160 (P : Params) : Obj := .mk (.type "tuple") .none (.seq #[]) #[]
noncomputable def ob3_1161 (P : Params) : Obj := .mk .none .none (.func (.mk (oS "unfair") (oS "Tree.unfair") (defArgs (inClass (top 99) 11)) (.stmts (defBody (inClass (top 99) 11))) (defScope (inClass (top 99) 11)) 0 [] .none .none .none .none .none .none .none 0)) #[]
noncomputable def ob3_1162 (P : Params) : Obj := .mk (.type "code") .none (.fields #[.str (oS "unfair") 1756, .str (oS "Tree.unfair") 1757, .str (oS "/claim/cut.py") 1758, .int 666 0, .int 1 0, .int 0 0, .int 0 0, .int 3 0, .ref 1157, .bool true, .int 181 0, .ref 1158, .none, .ref 1159, .ref 1160, .ref 1161, .int 1760 0, .int 666 0, .str (oS "/claim/cut.py") 1761]) #[]
noncomputable def ob3_1163 (P : Params) : Obj := .mk (.type "function") .none (.func (.mk (oS "unfair") (oS "Tree.unfair") (defArgs (inClass (top 99) 11)) (.stmts (defBody (inClass (top 99) 11))) (defScope (inClass (top 99) 11)) 3 [] .none .none .none (.str (oS "evenrules.trees") 1638) .none (.ref 1162) .none 0)) #[]
noncomputable def ob3_1164 (P : Params) : Obj := .mk (.type "tuple") .none (.seq #[]) #[]
noncomputable def ob3_1165 (P : Params) : Obj := .mk .none .none (.fields #[]) #[]
noncomputable def ob3_1166 (P : Params) : Obj := .mk (.type "tuple") .none (.seq #[.str (oS "self") 1766]) #[]
noncomputable def ob3_1167 (P : Params) : Obj := .mk (.type "tuple") .none (.seq #[]) #[]
noncomputable def ob3_1168 (P : Params) : Obj := .mk .none .none (.func (.mk (oS "trial") (oS "Tree.trial") (defArgs (inClass (top 99) 12)) (.stmts (defBody (inClass (top 99) 12))) (defScope (inClass (top 91) 4)) 0 [] .none .none .none .none .none .none .none 0)) #[]
noncomputable def ob3_1169 (P : Params) : Obj := .mk (.type "code") .none (.fields #[.str (oS "trial") 1763, .str (oS "Tree.trial") 1764, .str (oS "/claim/cut.py") 1765, .int 669 0, .int 1 0, .int 0 0, .int 0 0, .int 3 0, .ref 1164, .bool true, .int 181 0, .ref 1165, .none, .ref 1166, .ref 1167, .ref 1168, .int 1767 0, .int 669 0, .str (oS "/claim/cut.py") 1768]) #[]
noncomputable def ob3_1170 (P : Params) : Obj := .mk (.type "function") .none (.func (.mk (oS "trial") (oS "Tree.trial") (defArgs (inClass (top 99) 12)) (.stmts (defBody (inClass (top 99) 12))) (defScope (inClass (top 91) 4)) 3 [] .none .none .none (.str (oS "evenrules.trees") 1638) .none (.ref 1169) .none 0)) #[]
noncomputable def ob3_1171 (P : Params) : Obj := .mk (.type "tuple") .none (.seq #[]) #[]
noncomputable def ob3_1172 (P : Params) : Obj := .mk .none .none (.fields #[]) #[]
noncomputable def ob3_1173 (P : Params) : Obj := .mk (.type "tuple") .none (.seq #[.str (oS "self") 1773]) #[]
noncomputable def ob3_1174 (P : Params) : Obj := .mk (.type "tuple") .none (.seq #[]) #[]
noncomputable def ob3_1175 (P : Params) : Obj := .mk .none .none (.func (.mk (oS "__enter__") (oS "Tree.__enter__") (defArgs (inClass (top 99) 13)) (.stmts (defBody (inClass (top 99) 13))) (defScope (inClass (top 99) 13)) 0 [] .none .none .none .none .none .none .none 0)) #[]
noncomputable def ob3_1176 (P : Params) : Obj := .mk (.type "code") .none (.fields #[.str (oS "__enter__") 1770, .str (oS "Tree.__enter__") 1771, .str (oS "/claim/cut.py") 1772, .int 672 0, .int 1 0, .int 0 0, .int 0 0, .int 3 0, .ref 1171, .bool true, .int 181 0, .ref 1172, .none, .ref 1173, .ref 1174, .ref 1175, .int 1774 0, .int 672 0, .str (oS "/claim/cut.py") 1775]) #[]
noncomputable def ob3_1177 (P : Params) : Obj := .mk (.type "function") .none (.func (.mk (oS "__enter__") (oS "Tree.__enter__") (defArgs (inClass (top 99) 13)) (.stmts (defBody (inClass (top 99) 13))) (defScope (inClass (top 99) 13)) 3 [] .none .none .none (.str (oS "evenrules.trees") 1638) .none (.ref 1176) .none 0)) #[]
noncomputable def ob3_1178 (P : Params) : Obj := .mk (.type "tuple") .none (.seq #[]) #[]
noncomputable def ob3_1179 (P : Params) : Obj := .mk .none .none (.fields #[]) #[]
noncomputable def ob3_1180 (P : Params) : Obj := .mk (.type "tuple") .none (.seq #[.str (oS "self") 1780, .str (oS "told") 1781]) #[]
noncomputable def ob3_1181 (P : Params) : Obj := .mk (.type "tuple") .none (.seq #[]) #[]
noncomputable def ob3_1182 (P : Params) : Obj := .mk .none .none (.func (.mk (oS "__exit__") (oS "Tree.__exit__") (defArgs (inClass (top 99) 14)) (.stmts (defBody (inClass (top 99) 14))) (defScope (inClass (top 99) 14)) 0 [] .none .none .none .none .none .none .none 0)) #[]
noncomputable def ob3_1183 (P : Params) : Obj := .mk (.type "code") .none (.fields #[.str (oS "__exit__") 1777, .str (oS "Tree.__exit__") 1778, .str (oS "/claim/cut.py") 1779, .int 676 0, .int 1 0, .int 0 0, .int 0 0, .int 7 0, .ref 1178, .bool true, .int 181 0, .ref 1179, .none, .ref 1180, .ref 1181, .ref 1182, .int 1782 0, .int 676 0, .str (oS "/claim/cut.py") 1783]) #[]
noncomputable def ob3_1184 (P : Params) : Obj := .mk (.type "function") .none (.func (.mk (oS "__exit__") (oS "Tree.__exit__") (defArgs (inClass (top 99) 14)) (.stmts (defBody (inClass (top 99) 14))) (defScope (inClass (top 99) 14)) 3 [] .none .none .none (.str (oS "evenrules.trees") 1638) .none (.ref 1183) .none 0)) #[]
noncomputable def ob3_1185 (P : Params) : Obj := .mk (.type "tuple") .none (.seq #[]) #[]
noncomputable def ob3_1186 (P : Params) : Obj := .mk .none .none (.fields #[]) #[]
noncomputable def ob3_1187 (P : Params) : Obj := .mk (.type "tuple") .none (.seq #[.str (oS "self") 1788, .str (oS "work") 1789]) #[]
noncomputable def ob3_1188 (P : Params) : Obj := .mk (.type "tuple") .none (.seq #[]) #[]
noncomputable def ob3_1189 (P : Params) : Obj := .mk .none .none (.func (.mk (oS "tried") (oS "Tree.tried") (defArgs (inClass (top 99) 15)) (.stmts (defBody (inClass (top 99) 15))) (defScope (inClass (top 99) 15)) 0 [] .none .none .none .none .none .none .none 0)) #[]
noncomputable def ob3_1190 (P : Params) : Obj := .mk (.type "code") .none (.fields #[.str (oS "tried") 1785, .str (oS "Tree.tried") 1786, .str (oS "/claim/cut.py") 1787, .int 680 0, .int 2 0, .int 0 0, .int 0 0, .int 3 0, .ref 1185, .bool true, .int 181 0, .ref 1186, .none, .ref 1187, .ref 1188, .ref 1189, .int 1790 0, .int 680 0, .str (oS "/claim/cut.py") 1791]) #[]
noncomputable def ob3_1191 (P : Params) : Obj := .mk (.type "function") .none (.func (.mk (oS "tried") (oS "Tree.tried") (defArgs (inClass (top 99) 15)) (.stmts (defBody (inClass (top 99) 15))) (defScope (inClass (top 99) 15)) 3 [] .none .none .none (.str (oS "evenrules.trees") 1638) .none (.ref 1190) .none 0)) #[]
noncomputable def ob3_1192 (P : Params) : Obj := .mk (.type "tuple") .none (.seq #[]) #[]
noncomputable def ob3_1193 (P : Params) : Obj := .mk .none .none (.fields #[]) #[]
noncomputable def ob3_1194 (P : Params) : Obj := .mk (.type "tuple") .none (.seq #[.str (oS "self") 1796]) #[]
noncomputable def ob3_1195 (P : Params) : Obj := .mk (.type "tuple") .none (.seq #[]) #[]
noncomputable def ob3_1196 (P : Params) : Obj := .mk .none .none (.func (.mk (oS "twin") (oS "Tree.twin") (defArgs (inClass (top 99) 16)) (.stmts (defBody (inClass (top 99) 16))) (defScope (inClass (top 91) 4)) 0 [] .none .none .none .none .none .none .none 0)) #[]
noncomputable def ob3_1197 (P : Params) : Obj := .mk (.type "code") .none (.fields #[.str (oS "twin") 1793, .str (oS "Tree.twin") 1794, .str (oS "/claim/cut.py") 1795, .int 683 0, .int 1 0, .int 0 0, .int 0 0, .int 3 0, .ref 1192, .bool true, .int 181 0, .ref 1193, .none, .ref 1194, .ref 1195, .ref 1196, .int 1797 0, .int 683 0, .str (oS "/claim/cut.py") 1798]) #[]
noncomputable def ob3_1198 (P : Params) : Obj := .mk (.type "function") .none (.func (.mk (oS "twin") (oS "Tree.twin") (defArgs (inClass (top 99) 16)) (.stmts (defBody (inClass (top 99) 16))) (defScope (inClass (top 91) 4)) 3 [] .none .none .none (.str (oS "evenrules.trees") 1638) .none (.ref 1197) .none 0)) #[]
noncomputable def ob3_1199 (P : Params) : Obj := .mk (.type "tuple") .none (.seq #[.str (oS "_saved") 1800, .str (oS "_state") 1801]) #[]
noncomputable def ob3_1200 (P : Params) : Obj := .mk (.type "dict") .none (.dict #[.mk (kH P (oS "__module__")) (.str (oS "__module__") 1647) (.str (oS "evenrules.trees") 1638), .mk (kH P (oS "__firstlineno__")) (.str (oS "__firstlineno__") 1651) (.int 605 1650), .mk (kH P (oS "MOST")) (.str (oS "MOST") 1653) (.int 2000 1652), .mk (kH P (oS "__init__")) (.str (oS "__init__") 1662) (.ref 1086), .mk (kH P (oS "halves")) (.str (oS "halves") 1686) (.ref 1095), .mk (kH P (oS "like")) (.str (oS "like") 1694) (.ref 1103), .mk (kH P (oS "put")) (.str (oS "put") 1703) (.ref 1111), .mk (kH P (oS "__setitem__")) (.str (oS "__setitem__") 1712) (.ref 1118), .mk (kH P (oS "drop")) (.str (oS "drop") 1721) (.ref 1125), .mk (kH P (oS "__ior__")) (.str (oS "__ior__") 1729) (.ref 1132), .mk (kH P (oS "rule")) (.str (oS "rule") 1737) (.ref 1149), .mk (kH P (oS "exchange")) (.str (oS "exchange") 1755) (.ref 1156), .mk (kH P (oS "unfair")) (.str (oS "unfair") 1762) (.ref 1163), .mk (kH P (oS "trial")) (.str (oS "trial") 1769) (.ref 1170), .mk (kH P (oS "__enter__")) (.str (oS "__enter__") 1776) (.ref 1177), .mk (kH P (oS "__exit__")) (.str (oS "__exit__") 1784) (.ref 1184), .mk (kH P (oS "tried")) (.str (oS "tried") 1792) (.ref 1191), .mk (kH P (oS "twin")) (.str (oS "twin") 1799) (.ref 1198), .mk (kH P (oS "__static_attributes__")) (.str (oS "__static_attributes__") 1802) (.ref 1199), .mk (kH P (oS "__doc__")) (.str (oS "__doc__") 1803) .none] 2) #[]
noncomputable def ob3_1201 (P : Params) : Obj := .mk (.type "type") .none (.cls (.mk (oS "Tree") [.ref 1033] [.ref 1201, .ref 1033, .ref 956, .type "object"] 1200 (oS "Tree") true [] [] false .none false)) #[.some (.ref 1071), .none, .some (.str (oS "Tree") 1640), .some (.str (oS "Tree") 1648), .some (.builtin "object.__new__"), .some (.bool true)]
noncomputable def ob3_1202 (P : Params) : Obj := .mk (.type "super") .none (.fields #[.ref 1201, .ref 1201, .ref 1201]) #[]
noncomputable def ob3_1203 (P : Params) : Obj := .mk (.type "builtin_function_or_method") .none (.fields #[.builtin "object.__init_subclass__", .ref 1201]) #[]
noncomputable def kb2 (P : Params) : Obj := .mk .none .none (.dict #[]) #[]
noncomputable def kb3 (P : Params) : Obj := .mk (.type "dict") .none (.dict #[.mk (kH P (oS "__name__")) (.str (oS "__name__") 165) (.str (oS "law_evenrules_k63_whole_trees_come_to_by_put") 1806), .mk (kH P (oS "__doc__")) (.str (oS "__doc__") 166) .none, .mk (kH P (oS "__package__")) (.str (oS "__package__") 167) .none, .mk (kH P (oS "__loader__")) (.str (oS "__loader__") 168) (.builtin "__main__.__loader__#opaque"), .mk (kH P (oS "__spec__")) (.str (oS "__spec__") 169) .none, .mk (kH P (oS "__annotations__")) (.str (oS "__annotations__") 170) (.ref 6), .mk (kH P (oS "__builtins__")) (.str (oS "__builtins__") 171) (.ref 4), .mk (kH P (oS "__file__")) (.str (oS "__file__") 173) (.str (oS "/claim/cut.py") 172), .mk (kH P (oS "__cached__")) (.str (oS "__cached__") 174) .none, .mk (kH P (oS "_wall")) (.str (oS "_wall") 193) (.ref 21), .mk (kH P (oS "kept")) (.str (oS "kept") 202) (.ref 28), .mk (kH P (oS "is_flat")) (.str (oS "is_flat") 210) (.ref 35), .mk (kH P (oS "copied_deep")) (.str (oS "copied_deep") 216) (.ref 40), .mk (kH P (oS "parts_of")) (.str (oS "parts_of") 223) (.ref 47), .mk (kH P (oS "rebuilt")) (.str (oS "rebuilt") 229) (.ref 52), .mk (kH P (oS "are_same")) (.str (oS "are_same") 240) (.ref 59), .mk (kH P (oS "are_alike")) (.str (oS "are_alike") 246) (.ref 64), .mk (kH P (oS "pairs_of_parts")) (.str (oS "pairs_of_parts") 252) (.ref 69), .mk (kH P (oS "FairError")) (.str (oS "FairError") 272) (.ref 79), .mk (kH P (oS "BadRule")) (.str (oS "BadRule") 297) (.ref 99), .mk (kH P (oS "NoHalves")) (.str (oS "NoHalves") 322) (.ref 118), .mk (kH P (oS "BadNumber")) (.str (oS "BadNumber") 347) (.ref 137), .mk (kH P (oS "BadKey")) (.str (oS "BadKey") 372) (.ref 156), .mk (kH P (oS "NoKey")) (.str (oS "NoKey") 397) (.ref 175), .mk (kH P (oS "Taken")) (.str (oS "Taken") 422) (.ref 194), .mk (kH P (oS "Overlap")) (.str (oS "Overlap") 447) (.ref 213), .mk (kH P (oS "Stuck")) (.str (oS "Stuck") 472) (.ref 232), .mk (kH P (oS "BadOther")) (.str (oS "BadOther") 497) (.ref 251), .mk (kH P (oS "BadText")) (.str (oS "BadText") 524) (.ref 270), .mk (kH P (oS "Nothing")) (.str (oS "Nothing") 540) (.ref 282), .mk (kH P (oS "TooMany")) (.str (oS "TooMany") 567) (.ref 301), .mk (kH P (oS "KEY_BOUND")) (.str (oS "KEY_BOUND") 573) (.int 1000000000000000000000000000000 572), .mk (kH P (oS "is_integer")) (.str (oS "is_integer") 580) (.ref 310), .mk (kH P (oS "is_within")) (.str (oS "is_within") 589) (.ref 317), .mk (kH P (oS "is_key")) (.str (oS "is_key") 596) (.ref 324), .mk (kH P (oS "need_key")) (.str (oS "need_key") 603) (.ref 331), .mk (kH P (oS "need_pairs")) (.str (oS "need_pairs") 611) (.ref 338), .mk (kH P (oS "Node")) (.str (oS "Node") 648) (.ref 355), .mk (kH P (oS "weight_of")) (.str (oS "weight_of") 655) (.ref 366), .mk (kH P (oS "form_of")) (.str (oS "form_of") 662) (.ref 373), .mk (kH P (oS "halved")) (.str (oS "halved") 672) (.ref 380), .mk (kH P (oS "nodes_of")) (.str (oS "nodes_of") 682) (.ref 387), .mk (kH P (oS "levels_of")) (.str (oS "levels_of") 688) (.ref 392), .mk (kH P (oS "words_of")) (.str (oS "words_of") 698) (.ref 399), .mk (kH P (oS "PIECE")) (.str (oS "PIECE") 704) (.int 10000000000000000000000000000000000000000000000000000000000000000 703), .mk (kH P (oS "PIECE_LENGTH")) (.str (oS "PIECE_LENGTH") 706) (.int 64 705), .mk (kH P (oS "number_word")) (.str (oS "number_word") 717) (.ref 406), .mk (kH P (oS "pair_word")) (.str (oS "pair_word") 724) (.ref 413), .mk (kH P (oS "read_number")) (.str (oS "read_number") 735) (.ref 420), .mk (kH P (oS "read_pair")) (.str (oS "read_pair") 741) (.ref 425), .mk (kH P (oS "MOST_PLUS")) (.str (oS "MOST_PLUS") 745) (.int 6 744), .mk (kH P (oS "MOST_TURN")) (.str (oS "MOST_TURN") 747) (.int 8 746), .mk (kH P (oS "MOST_WEIGHT")) (.str (oS "MOST_WEIGHT") 751) (.int 1000000000000000000000000000000000000000000000000000000000000 750), .mk (kH P (oS "WORDS")) (.str (oS "WORDS") 762) (.ref 426), .mk (kH P (oS "Rule")) (.str (oS "Rule") 782) (.ref 438), .mk (kH P (oS "WeightRule")) (.str (oS "WeightRule") 843) (.ref 481), .mk (kH P (oS "TurnRule")) (.str (oS "TurnRule") 906) (.ref 523), .mk (kH P (oS "TryRule")) (.str (oS "TryRule") 973) (.ref 571), .mk (kH P (oS "are_fair")) (.str (oS "are_fair") 984) (.ref 580), .mk (kH P (oS "greatest_beside")) (.str (oS "greatest_beside") 994) (.ref 587), .mk (kH P (oS "least_beside")) (.str (oS "least_beside") 1004) (.ref 594), .mk (kH P (oS "need_rule")) (.str (oS "need_rule") 1011) (.ref 601), .mk (kH P (oS "need_weight")) (.str (oS "need_weight") 1018) (.ref 608), .mk (kH P (oS "is_pair")) (.str (oS "is_pair") 1024) (.ref 613), .mk (kH P (oS "is_times")) (.str (oS "is_times") 1031) (.ref 620), .mk (kH P (oS "is_plus")) (.str (oS "is_plus") 1038) (.ref 627), .mk (kH P (oS "is_turn")) (.str (oS "is_turn") 1045) (.ref 634), .mk (kH P (oS "need_times")) (.str (oS "need_times") 1053) (.ref 641), .mk (kH P (oS "has_halves")) (.str (oS "has_halves") 1063) (.ref 648), .mk (kH P (oS "need_halves")) (.str (oS "need_halves") 1073) (.ref 655), .mk (kH P (oS "wrong_rule_word")) (.str (oS "wrong_rule_word") 1083) (.ref 662), .mk (kH P (oS "word_value")) (.str (oS "word_value") 1090) (.ref 669), .mk (kH P (oS "can_stand")) (.str (oS "can_stand") 1098) (.ref 676), .mk (kH P (oS "with_key")) (.str (oS "with_key") 1112) (.ref 683), .mk (kH P (oS "without_key")) (.str (oS "without_key") 1126) (.ref 690), .mk (kH P (oS "steps_to_neighbour")) (.str (oS "steps_to_neighbour") 1137) (.ref 697), .mk (kH P (oS "mended")) (.str (oS "mended") 1150) (.ref 704), .mk (kH P (oS "balanced")) (.str (oS "balanced") 1163) (.ref 711), .mk (kH P (oS "turned")) (.str (oS "turned") 1183) (.ref 718), .mk (kH P (oS "sides_of")) (.str (oS "sides_of") 1191) (.ref 725), .mk (kH P (oS "joined")) (.str (oS "joined") 1201) (.ref 732), .mk (kH P (oS "MOST_KEYS")) (.str (oS "MOST_KEYS") 1205) (.int 2000 1204), .mk (kH P (oS "State")) (.str (oS "State") 1240) (.ref 749), .mk (kH P (oS "halves_state")) (.str (oS "halves_state") 1246) (.ref 758), .mk (kH P (oS "first_from")) (.str (oS "first_from") 1257) (.ref 765), .mk (kH P (oS "with_entries")) (.str (oS "with_entries") 1270) (.ref 772), .mk (kH P (oS "without_entry")) (.str (oS "without_entry") 1281) (.ref 779), .mk (kH P (oS "entries_of")) (.str (oS "entries_of") 1287) (.ref 784), .mk (kH P (oS "under_rule")) (.str (oS "under_rule") 1295) (.ref 791), .mk (kH P (oS "rebuilt_unfair")) (.str (oS "rebuilt_unfair") 1307) (.ref 798), .mk (kH P (oS "unfair_keys")) (.str (oS "unfair_keys") 1313) (.ref 803), .mk (kH P (oS "Reading")) (.str (oS "Reading") 1495) (.ref 956), .mk (kH P (oS "Parts")) (.str (oS "Parts") 1588) (.ref 1033), .mk (kH P (oS "need_tree")) (.str (oS "need_tree") 1595) (.ref 1042), .mk (kH P (oS "united")) (.str (oS "united") 1604) (.ref 1049), .mk (kH P (oS "Saved")) (.str (oS "Saved") 1637) (.ref 1066), .mk (kH P (oS "Tree")) (.str (oS "Tree") 1805) (.ref 1201), .mk (kH P (oS "_law_pen")) (.str (oS "_law_pen") 1814) (.ref 1210), .mk (kH P (oS "_law_draw")) (.str (oS "_law_draw") 1827) (.ref 1217), .mk (kH P (oS "_law_pick")) (.str (oS "_law_pick") 1835) (.ref 1224), .mk (kH P (oS "_law_numbers")) (.str (oS "_law_numbers") 1847) (.ref 1231), .mk (kH P (oS "_law_rule")) (.str (oS "_law_rule") 1857) (.ref 1238), .mk (kH P (oS "_law_bare")) (.str (oS "_law_bare") 1864) (.ref 1245), .mk (kH P (oS "_law_weight_of")) (.str (oS "_law_weight_of") 1871) (.ref 1252), .mk (kH P (oS "_law_without_leaf")) (.str (oS "_law_without_leaf") 1882) (.ref 1259), .mk (kH P (oS "_law_put_order")) (.str (oS "_law_put_order") 1892) (.ref 1266), .mk (kH P (oS "_law_drawn")) (.str (oS "_law_drawn") 1898) (.ref 1271), .mk (kH P (oS "_law_right")) (.str (oS "_law_right") 1904) (.ref 1276), .mk (kH P (oS "law")) (.str (oS "law") 1914) (.ref 1283)] 109) #[]
noncomputable def kb1204 (P : Params) : Obj := .mk (.type "tuple") .none (.seq #[]) #[]
noncomputable def kb1206 (P : Params) : Obj := .mk (.type "tuple") .none (.seq #[.str (oS "_law_script") 1811]) #[]
noncomputable def kb1207 (P : Params) : Obj := .mk (.type "tuple") .none (.seq #[]) #[]
noncomputable def kb1209 (P : Params) : Obj := .mk (.type "code") .none (.fields #[.str (oS "_law_pen") 1808, .str (oS "_law_pen") 1809, .str (oS "/claim/cut.py") 1810, .int 686 0, .int 1 0, .int 0 0, .int 0 0, .int 3 0, .ref 1204, .bool true, .int 181 0, .ref 1205, .none, .ref 1206, .ref 1207, .ref 1208, .int 1812 0, .int 686 0, .str (oS "/claim/cut.py") 1813]) #[]
noncomputable def kb1210 (P : Params) : Obj := .mk (.type "function") .none (.func (.mk (oS "_law_pen") (oS "_law_pen") (defArgs (top 101)) (.stmts (defBody (top 101))) (defScope (top 101)) 3 [] .none .none .none (.str (oS "law_evenrules_k63_whole_trees_come_to_by_put") 1806) .none (.ref 1209) .none 0)) #[]
noncomputable def kb1211 (P : Params) : Obj := .mk (.type "tuple") .none (.seq #[]) #[]
noncomputable def kb1213 (P : Params) : Obj := .mk (.type "tuple") .none (.seq #[.str (oS "_law_pen_here") 1818, .str (oS "_law_many") 1819, .str (oS "_law_digit") 1820, .str (oS "_law_at") 1821, .str (oS "_law_cell") 1822, .str (oS "_law_great") 1823, .str (oS "_law_mixed") 1824]) #[]
noncomputable def kb1214 (P : Params) : Obj := .mk (.type "tuple") .none (.seq #[]) #[]
noncomputable def kb1216 (P : Params) : Obj := .mk (.type "code") .none (.fields #[.str (oS "_law_draw") 1815, .str (oS "_law_draw") 1816, .str (oS "/claim/cut.py") 1817, .int 688 0, .int 2 0, .int 0 0, .int 0 0, .int 3 0, .ref 1211, .bool true, .int 181 0, .ref 1212, .none, .ref 1213, .ref 1214, .ref 1215, .int 1825 0, .int 688 0, .str (oS "/claim/cut.py") 1826]) #[]
noncomputable def kb1217 (P : Params) : Obj := .mk (.type "function") .none (.func (.mk (oS "_law_draw") (oS "_law_draw") (defArgs (top 102)) (.stmts (defBody (top 102))) (defScope (top 102)) 3 [] .none .none .none (.str (oS "law_evenrules_k63_whole_trees_come_to_by_put") 1806) .none (.ref 1216) .none 0)) #[]
noncomputable def kb1218 (P : Params) : Obj := .mk (.type "tuple") .none (.seq #[]) #[]
noncomputable def kb1220 (P : Params) : Obj := .mk (.type "tuple") .none (.seq #[.str (oS "_law_pen_here") 1831, .str (oS "_law_some") 1832]) #[]
noncomputable def kb1221 (P : Params) : Obj := .mk (.type "tuple") .none (.seq #[]) #[]
noncomputable def kb1223 (P : Params) : Obj := .mk (.type "code") .none (.fields #[.str (oS "_law_pick") 1828, .str (oS "_law_pick") 1829, .str (oS "/claim/cut.py") 1830, .int 705 0, .int 2 0, .int 0 0, .int 0 0, .int 3 0, .ref 1218, .bool true, .int 181 0, .ref 1219, .none, .ref 1220, .ref 1221, .ref 1222, .int 1833 0, .int 705 0, .str (oS "/claim/cut.py") 1834]) #[]
noncomputable def kb1224 (P : Params) : Obj := .mk (.type "function") .none (.func (.mk (oS "_law_pick") (oS "_law_pick") (defArgs (top 103)) (.stmts (defBody (top 103))) (defScope (top 103)) 3 [] .none .none .none (.str (oS "law_evenrules_k63_whole_trees_come_to_by_put") 1806) .none (.ref 1223) .none 0)) #[]
noncomputable def kb1225 (P : Params) : Obj := .mk (.type "tuple") .none (.seq #[]) #[]
noncomputable def kb1227 (P : Params) : Obj := .mk (.type "tuple") .none (.seq #[.str (oS "_law_pen_here") 1839, .str (oS "_law_q") 1840, .str (oS "_law_p") 1841, .str (oS "_law_k") 1842, .str (oS "_law_s") 1843, .str (oS "_law_t") 1844]) #[]
noncomputable def kb1228 (P : Params) : Obj := .mk (.type "tuple") .none (.seq #[]) #[]
noncomputable def kb1230 (P : Params) : Obj := .mk (.type "code") .none (.fields #[.str (oS "_law_numbers") 1836, .str (oS "_law_numbers") 1837, .str (oS "/claim/cut.py") 1838, .int 707 0, .int 1 0, .int 0 0, .int 0 0, .int 3 0, .ref 1225, .bool true, .int 181 0, .ref 1226, .none, .ref 1227, .ref 1228, .ref 1229, .int 1845 0, .int 707 0, .str (oS "/claim/cut.py") 1846]) #[]
noncomputable def kb1231 (P : Params) : Obj := .mk (.type "function") .none (.func (.mk (oS "_law_numbers") (oS "_law_numbers") (defArgs (top 104)) (.stmts (defBody (top 104))) (defScope (top 104)) 3 [] .none .none .none (.str (oS "law_evenrules_k63_whole_trees_come_to_by_put") 1806) .none (.ref 1230) .none 0)) #[]
noncomputable def kb1232 (P : Params) : Obj := .mk (.type "tuple") .none (.seq #[]) #[]
noncomputable def kb1234 (P : Params) : Obj := .mk (.type "tuple") .none (.seq #[.str (oS "_law_some") 1851, .str (oS "_law_p") 1852, .str (oS "_law_q") 1853, .str (oS "_law_k") 1854]) #[]
noncomputable def kb1235 (P : Params) : Obj := .mk (.type "tuple") .none (.seq #[]) #[]
noncomputable def kb1237 (P : Params) : Obj := .mk (.type "code") .none (.fields #[.str (oS "_law_rule") 1848, .str (oS "_law_rule") 1849, .str (oS "/claim/cut.py") 1850, .int 716 0, .int 1 0, .int 0 0, .int 0 0, .int 3 0, .ref 1232, .bool true, .int 181 0, .ref 1233, .none, .ref 1234, .ref 1235, .ref 1236, .int 1855 0, .int 716 0, .str (oS "/claim/cut.py") 1856]) #[]
noncomputable def kb1238 (P : Params) : Obj := .mk (.type "function") .none (.func (.mk (oS "_law_rule") (oS "_law_rule") (defArgs (top 105)) (.stmts (defBody (top 105))) (defScope (top 105)) 3 [] .none .none .none (.str (oS "law_evenrules_k63_whole_trees_come_to_by_put") 1806) .none (.ref 1237) .none 0)) #[]
noncomputable def kb1239 (P : Params) : Obj := .mk (.type "tuple") .none (.seq #[]) #[]
noncomputable def kb1241 (P : Params) : Obj := .mk (.type "tuple") .none (.seq #[.str (oS "_law_layout_so") 1861]) #[]
noncomputable def kb1242 (P : Params) : Obj := .mk (.type "tuple") .none (.seq #[]) #[]
noncomputable def kb1244 (P : Params) : Obj := .mk (.type "code") .none (.fields #[.str (oS "_law_bare") 1858, .str (oS "_law_bare") 1859, .str (oS "/claim/cut.py") 1860, .int 721 0, .int 1 0, .int 0 0, .int 0 0, .int 3 0, .ref 1239, .bool true, .int 181 0, .ref 1240, .none, .ref 1241, .ref 1242, .ref 1243, .int 1862 0, .int 721 0, .str (oS "/claim/cut.py") 1863]) #[]
noncomputable def kb1245 (P : Params) : Obj := .mk (.type "function") .none (.func (.mk (oS "_law_bare") (oS "_law_bare") (defArgs (top 106)) (.stmts (defBody (top 106))) (defScope (top 106)) 3 [] .none .none .none (.str (oS "law_evenrules_k63_whole_trees_come_to_by_put") 1806) .none (.ref 1244) .none 0)) #[]
noncomputable def kb1246 (P : Params) : Obj := .mk (.type "tuple") .none (.seq #[]) #[]
noncomputable def kb1248 (P : Params) : Obj := .mk (.type "tuple") .none (.seq #[.str (oS "_law_tree_so") 1868]) #[]
noncomputable def kb1249 (P : Params) : Obj := .mk (.type "tuple") .none (.seq #[]) #[]
noncomputable def kb1251 (P : Params) : Obj := .mk (.type "code") .none (.fields #[.str (oS "_law_weight_of") 1865, .str (oS "_law_weight_of") 1866, .str (oS "/claim/cut.py") 1867, .int 723 0, .int 1 0, .int 0 0, .int 0 0, .int 3 0, .ref 1246, .bool true, .int 181 0, .ref 1247, .none, .ref 1248, .ref 1249, .ref 1250, .int 1869 0, .int 723 0, .str (oS "/claim/cut.py") 1870]) #[]
noncomputable def kb1252 (P : Params) : Obj := .mk (.type "function") .none (.func (.mk (oS "_law_weight_of") (oS "_law_weight_of") (defArgs (top 107)) (.stmts (defBody (top 107))) (defScope (top 107)) 3 [] .none .none .none (.str (oS "law_evenrules_k63_whole_trees_come_to_by_put") 1806) .none (.ref 1251) .none 0)) #[]
noncomputable def kb1253 (P : Params) : Obj := .mk (.type "tuple") .none (.seq #[]) #[]
noncomputable def kb1255 (P : Params) : Obj := .mk (.type "tuple") .none (.seq #[.str (oS "_law_tree_so") 1875, .str (oS "_law_left") 1876, .str (oS "_law_right_here") 1877, .str (oS "_law_side") 1878, .str (oS "_law_at") 1879]) #[]
noncomputable def kb1256 (P : Params) : Obj := .mk (.type "tuple") .none (.seq #[]) #[]
noncomputable def kb1258 (P : Params) : Obj := .mk (.type "code") .none (.fields #[.str (oS "_law_without_leaf") 1872, .str (oS "_law_without_leaf") 1873, .str (oS "/claim/cut.py") 1874, .int 725 0, .int 1 0, .int 0 0, .int 0 0, .int 3 0, .ref 1253, .bool true, .int 181 0, .ref 1254, .none, .ref 1255, .ref 1256, .ref 1257, .int 1880 0, .int 725 0, .str (oS "/claim/cut.py") 1881]) #[]
noncomputable def kb1259 (P : Params) : Obj := .mk (.type "function") .none (.func (.mk (oS "_law_without_leaf") (oS "_law_without_leaf") (defArgs (top 108)) (.stmts (defBody (top 108))) (defScope (top 108)) 3 [] .none .none .none (.str (oS "law_evenrules_k63_whole_trees_come_to_by_put") 1806) .none (.ref 1258) .none 0)) #[]
noncomputable def kb1260 (P : Params) : Obj := .mk (.type "tuple") .none (.seq #[]) #[]
noncomputable def kb1262 (P : Params) : Obj := .mk (.type "tuple") .none (.seq #[.str (oS "_law_tree_so") 1886, .str (oS "_law_left") 1887, .str (oS "_law_found") 1888, .str (oS "_law_at") 1889]) #[]
noncomputable def kb1263 (P : Params) : Obj := .mk (.type "tuple") .none (.seq #[]) #[]
noncomputable def kb1265 (P : Params) : Obj := .mk (.type "code") .none (.fields #[.str (oS "_law_put_order") 1883, .str (oS "_law_put_order") 1884, .str (oS "/claim/cut.py") 1885, .int 734 0, .int 1 0, .int 0 0, .int 0 0, .int 3 0, .ref 1260, .bool true, .int 181 0, .ref 1261, .none, .ref 1262, .ref 1263, .ref 1264, .int 1890 0, .int 734 0, .str (oS "/claim/cut.py") 1891]) #[]
noncomputable def kb1266 (P : Params) : Obj := .mk (.type "function") .none (.func (.mk (oS "_law_put_order") (oS "_law_put_order") (defArgs (top 109)) (.stmts (defBody (top 109))) (defScope (top 109)) 3 [] .none .none .none (.str (oS "law_evenrules_k63_whole_trees_come_to_by_put") 1806) .none (.ref 1265) .none 0)) #[]
noncomputable def kb1267 (P : Params) : Obj := .mk (.type "tuple") .none (.seq #[]) #[]
noncomputable def kb1270 (P : Params) : Obj := .mk (.type "code") .none (.fields #[.str (oS "_law_drawn") 1893, .str (oS "_law_drawn") 1894, .str (oS "/claim/cut.py") 1895, .int 741 0, .int 3 0, .int 0 0, .int 0 0, .int 3 0, .ref 1267, .bool true, .int 181 0, .ref 1268, .none, .none, .none, .ref 1269, .int 1896 0, .int 741 0, .str (oS "/claim/cut.py") 1897]) #[]
noncomputable def kb1271 (P : Params) : Obj := .mk (.type "function") .none (.func (.mk (oS "_law_drawn") (oS "_law_drawn") (defArgs (top 110)) (.stmts (defBody (top 110))) (defScope (top 110)) 3 [] .none .none .none (.str (oS "law_evenrules_k63_whole_trees_come_to_by_put") 1806) .none (.ref 1270) .none 0)) #[]
noncomputable def kb1272 (P : Params) : Obj := .mk (.type "tuple") .none (.seq #[]) #[]
noncomputable def kb1275 (P : Params) : Obj := .mk (.type "code") .none (.fields #[.str (oS "_law_right") 1899, .str (oS "_law_right") 1900, .str (oS "/claim/cut.py") 1901, .int 747 0, .int 3 0, .int 0 0, .int 0 0, .int 3 0, .ref 1272, .bool true, .int 181 0, .ref 1273, .none, .none, .none, .ref 1274, .int 1902 0, .int 747 0, .str (oS "/claim/cut.py") 1903]) #[]
noncomputable def kb1276 (P : Params) : Obj := .mk (.type "function") .none (.func (.mk (oS "_law_right") (oS "_law_right") (defArgs (top 111)) (.stmts (defBody (top 111))) (defScope (top 111)) 3 [] .none .none .none (.str (oS "law_evenrules_k63_whole_trees_come_to_by_put") 1806) .none (.ref 1275) .none 0)) #[]
noncomputable def kb1277 (P : Params) : Obj := .mk (.type "tuple") .none (.seq #[]) #[]
noncomputable def kb1279 (P : Params) : Obj := .mk (.type "tuple") .none (.seq #[.str (oS "_law_script") 1908, .str (oS "_law_pen_here") 1909, .str (oS "_law_lap") 1910, .str (oS "_law_some") 1911]) #[]
noncomputable def kb1280 (P : Params) : Obj := .mk (.type "tuple") .none (.seq #[]) #[]
noncomputable def kb1282 (P : Params) : Obj := .mk (.type "code") .none (.fields #[.str (oS "law") 1905, .str (oS "law") 1906, .str (oS "/claim/cut.py") 1907, .int 762 0, .int 1 0, .int 0 0, .int 0 0, .int 3 0, .ref 1277, .bool true, .int 181 0, .ref 1278, .none, .ref 1279, .ref 1280, .ref 1281, .int 1912 0, .int 762 0, .str (oS "/claim/cut.py") 1913]) #[]
noncomputable def kb1283 (P : Params) : Obj := .mk (.type "function") .none (.func (.mk (oS "law") (oS "law") (defArgs (top 112)) (.stmts (defBody (top 112))) (defScope (top 112)) 3 [] .none .none .none (.str (oS "law_evenrules_k63_whole_trees_come_to_by_put") 1806) .none (.ref 1282) .none 0)) #[]
noncomputable def Kh : Params → Frag := fun P => (nat_lit 2, kb2 P) :: (nat_lit 3, kb3 P) :: (nat_lit 15, ob2_15 P) :: (nat_lit 17, ob2_17 P) :: (nat_lit 18, ob2_18 P) :: (nat_lit 20, ob2_20 P) :: (nat_lit 21, ob2_21 P) :: (nat_lit 22, ob2_22 P) :: (nat_lit 24, ob2_24 P) :: (nat_lit 25, ob2_25 P) :: (nat_lit 27, ob2_27 P) :: (nat_lit 28, ob2_28 P) :: (nat_lit 29, ob2_29 P) :: (nat_lit 31, ob2_31 P) :: (nat_lit 32, ob2_32 P) :: (nat_lit 34, ob2_34 P) :: (nat_lit 35, ob2_35 P) :: (nat_lit 36, ob2_36 P) :: (nat_lit 39, ob2_39 P) :: (nat_lit 40, ob2_40 P) :: (nat_lit 41, ob2_41 P) :: (nat_lit 43, ob2_43 P) :: (nat_lit 44, ob2_44 P) :: (nat_lit 46, ob2_46 P) :: (nat_lit 47, ob2_47 P) :: (nat_lit 48, ob2_48 P) :: (nat_lit 51, ob2_51 P) :: (nat_lit 52, ob2_52 P) :: (nat_lit 53, ob2_53 P) :: (nat_lit 55, ob2_55 P) :: (nat_lit 56, ob2_56 P) :: (nat_lit 58, ob2_58 P) :: (nat_lit 59, ob2_59 P) :: (nat_lit 60, ob2_60 P) :: (nat_lit 63, ob2_63 P) :: (nat_lit 64, ob2_64 P) :: (nat_lit 65, ob2_65 P) :: (nat_lit 68, ob2_68 P) :: (nat_lit 69, ob2_69 P) :: (nat_lit 70, ob2_70 P) :: (nat_lit 77, ob2_77 P) :: (nat_lit 78, ob2_78 P) :: (nat_lit 79, ob2_79 P) :: (nat_lit 80, ob2_80 P) :: (nat_lit 83, ob2_83 P) :: (nat_lit 90, ob2_90 P) :: (nat_lit 92, ob2_92 P) :: (nat_lit 93, ob2_93 P) :: (nat_lit 95, ob2_95 P) :: (nat_lit 96, ob2_96 P) :: (nat_lit 97, ob2_97 P) :: (nat_lit 98, ob2_98 P) :: (nat_lit 99, ob2_99 P) :: (nat_lit 102, ob2_102 P) :: (nat_lit 109, ob2_109 P) :: (nat_lit 111, ob2_111 P) :: (nat_lit 112, ob2_112 P) :: (nat_lit 114, ob2_114 P) :: (nat_lit 115, ob2_115 P) :: (nat_lit 116, ob2_116 P) :: (nat_lit 117, ob2_117 P) :: (nat_lit 118, ob2_118 P) :: (nat_lit 121, ob2_121 P) :: (nat_lit 128, ob2_128 P) :: (nat_lit 130, ob2_130 P) :: (nat_lit 131, ob2_131 P) :: (nat_lit 133, ob2_133 P) :: (nat_lit 134, ob2_134 P) :: (nat_lit 135, ob2_135 P) :: (nat_lit 136, ob2_136 P) :: (nat_lit 137, ob2_137 P) :: (nat_lit 140, ob2_140 P) :: (nat_lit 147, ob2_147 P) :: (nat_lit 149, ob2_149 P) :: (nat_lit 150, ob2_150 P) :: (nat_lit 152, ob2_152 P) :: (nat_lit 153, ob2_153 P) :: (nat_lit 154, ob2_154 P) :: (nat_lit 155, ob2_155 P) :: (nat_lit 156, ob2_156 P) :: (nat_lit 159, ob2_159 P) :: (nat_lit 166, ob2_166 P) :: (nat_lit 168, ob2_168 P) :: (nat_lit 169, ob2_169 P) :: (nat_lit 171, ob2_171 P) :: (nat_lit 172, ob2_172 P) :: (nat_lit 173, ob2_173 P) :: (nat_lit 174, ob2_174 P) :: (nat_lit 175, ob2_175 P) :: (nat_lit 178, ob2_178 P) :: (nat_lit 185, ob2_185 P) :: (nat_lit 187, ob2_187 P) :: (nat_lit 188, ob2_188 P) :: (nat_lit 190, ob2_190 P) :: (nat_lit 191, ob2_191 P) :: (nat_lit 192, ob2_192 P) :: (nat_lit 193, ob2_193 P) :: (nat_lit 194, ob2_194 P) :: (nat_lit 197, ob2_197 P) :: (nat_lit 204, ob2_204 P) :: (nat_lit 206, ob2_206 P) :: (nat_lit 207, ob2_207 P) :: (nat_lit 209, ob2_209 P) :: (nat_lit 210, ob2_210 P) :: (nat_lit 211, ob2_211 P) :: (nat_lit 212, ob2_212 P) :: (nat_lit 213, ob2_213 P) :: (nat_lit 216, ob2_216 P) :: (nat_lit 223, ob2_223 P) :: (nat_lit 225, ob2_225 P) :: (nat_lit 226, ob2_226 P) :: (nat_lit 228, ob2_228 P) :: (nat_lit 229, ob2_229 P) :: (nat_lit 230, ob2_230 P) :: (nat_lit 231, ob2_231 P) :: (nat_lit 232, ob2_232 P) :: (nat_lit 235, ob2_235 P) :: (nat_lit 242, ob2_242 P) :: (nat_lit 244, ob2_244 P) :: (nat_lit 245, ob2_245 P) :: (nat_lit 247, ob2_247 P) :: (nat_lit 248, ob2_248 P) :: (nat_lit 249, ob2_249 P) :: (nat_lit 250, ob2_250 P) :: (nat_lit 251, ob2_251 P) :: (nat_lit 254, ob2_254 P) :: (nat_lit 261, ob2_261 P) :: (nat_lit 263, ob2_263 P) :: (nat_lit 264, ob2_264 P) :: (nat_lit 266, ob2_266 P) :: (nat_lit 267, ob2_267 P) :: (nat_lit 268, ob2_268 P) :: (nat_lit 269, ob2_269 P) :: (nat_lit 270, ob2_270 P) :: (nat_lit 273, ob2_273 P) :: (nat_lit 280, ob2_280 P) :: (nat_lit 281, ob2_281 P) :: (nat_lit 282, ob2_282 P) :: (nat_lit 285, ob2_285 P) :: (nat_lit 292, ob2_292 P) :: (nat_lit 294, ob2_294 P) :: (nat_lit 295, ob2_295 P) :: (nat_lit 297, ob2_297 P) :: (nat_lit 298, ob2_298 P) :: (nat_lit 299, ob2_299 P) :: (nat_lit 300, ob2_300 P) :: (nat_lit 301, ob2_301 P) :: (nat_lit 304, ob2_304 P) :: (nat_lit 306, ob2_306 P) :: (nat_lit 307, ob2_307 P) :: (nat_lit 309, ob2_309 P) :: (nat_lit 310, ob2_310 P) :: (nat_lit 311, ob2_311 P) :: (nat_lit 313, ob2_313 P) :: (nat_lit 314, ob2_314 P) :: (nat_lit 316, ob2_316 P) :: (nat_lit 317, ob2_317 P) :: (nat_lit 318, ob2_318 P) :: (nat_lit 320, ob2_320 P) :: (nat_lit 321, ob2_321 P) :: (nat_lit 323, ob2_323 P) :: (nat_lit 324, ob2_324 P) :: (nat_lit 325, ob2_325 P) :: (nat_lit 327, ob2_327 P) :: (nat_lit 328, ob2_328 P) :: (nat_lit 330, ob2_330 P) :: (nat_lit 331, ob2_331 P) :: (nat_lit 332, ob2_332 P) :: (nat_lit 334, ob2_334 P) :: (nat_lit 335, ob2_335 P) :: (nat_lit 337, ob2_337 P) :: (nat_lit 338, ob2_338 P) :: (nat_lit 346, ob2_346 P) :: (nat_lit 348, ob2_348 P) :: (nat_lit 349, ob2_349 P) :: (nat_lit 351, ob2_351 P) :: (nat_lit 352, ob2_352 P) :: (nat_lit 353, ob2_353 P) :: (nat_lit 354, ob2_354 P) :: (nat_lit 355, ob2_355 P) :: (nat_lit 356, ob2_356 P) :: (nat_lit 357, ob2_357 P) :: (nat_lit 360, ob2_360 P) :: (nat_lit 362, ob2_362 P) :: (nat_lit 363, ob2_363 P) :: (nat_lit 365, ob2_365 P) :: (nat_lit 366, ob2_366 P) :: (nat_lit 367, ob2_367 P) :: (nat_lit 369, ob2_369 P) :: (nat_lit 370, ob2_370 P) :: (nat_lit 372, ob2_372 P) :: (nat_lit 373, ob2_373 P) :: (nat_lit 374, ob2_374 P) :: (nat_lit 376, ob2_376 P) :: (nat_lit 377, ob2_377 P) :: (nat_lit 379, ob2_379 P) :: (nat_lit 380, ob2_380 P) :: (nat_lit 381, ob2_381 P) :: (nat_lit 383, ob2_383 P) :: (nat_lit 384, ob2_384 P) :: (nat_lit 386, ob2_386 P) :: (nat_lit 387, ob2_387 P) :: (nat_lit 388, ob2_388 P) :: (nat_lit 391, ob2_391 P) :: (nat_lit 392, ob2_392 P) :: (nat_lit 393, ob2_393 P) :: (nat_lit 395, ob2_395 P) :: (nat_lit 396, ob2_396 P) :: (nat_lit 398, ob2_398 P) :: (nat_lit 399, ob2_399 P) :: (nat_lit 400, ob2_400 P) :: (nat_lit 402, ob2_402 P) :: (nat_lit 403, ob2_403 P) :: (nat_lit 405, ob2_405 P) :: (nat_lit 406, ob2_406 P) :: (nat_lit 407, ob2_407 P) :: (nat_lit 409, ob2_409 P) :: (nat_lit 410, ob2_410 P) :: (nat_lit 412, ob2_412 P) :: (nat_lit 413, ob2_413 P) :: (nat_lit 414, ob2_414 P) :: (nat_lit 416, ob2_416 P) :: (nat_lit 417, ob2_417 P) :: (nat_lit 419, ob2_419 P) :: (nat_lit 420, ob2_420 P) :: (nat_lit 421, ob2_421 P) :: (nat_lit 424, ob2_424 P) :: (nat_lit 425, ob2_425 P) :: (nat_lit 426, ob2_426 P) :: (nat_lit 427, ob2_427 P) :: (nat_lit 428, ob2_428 P) :: (nat_lit 436, ob2_436 P) :: (nat_lit 437, ob2_437 P) :: (nat_lit 438, ob2_438 P) :: (nat_lit 439, ob2_439 P) :: (nat_lit 440, ob2_440 P) :: (nat_lit 443, ob2_443 P) :: (nat_lit 450, ob2_450 P) :: (nat_lit 452, ob2_452 P) :: (nat_lit 453, ob2_453 P) :: (nat_lit 455, ob2_455 P) :: (nat_lit 456, ob2_456 P) :: (nat_lit 457, ob2_457 P) :: (nat_lit 459, ob2_459 P) :: (nat_lit 460, ob2_460 P) :: (nat_lit 462, ob2_462 P) :: (nat_lit 463, ob2_463 P) :: (nat_lit 464, ob2_464 P) :: (nat_lit 466, ob2_466 P) :: (nat_lit 467, ob2_467 P) :: (nat_lit 469, ob2_469 P) :: (nat_lit 470, ob2_470 P) :: (nat_lit 471, ob2_471 P) :: (nat_lit 474, ob2_474 P) :: (nat_lit 475, ob2_475 P) :: (nat_lit 476, ob2_476 P) :: (nat_lit 477, ob2_477 P) :: (nat_lit 478, ob2_478 P) :: (nat_lit 479, ob2_479 P) :: (nat_lit 480, ob2_480 P) :: (nat_lit 481, ob3_481 P) :: (nat_lit 484, ob3_484 P) :: (nat_lit 491, ob3_491 P) :: (nat_lit 492, ob3_492 P) :: (nat_lit 493, ob3_493 P) :: (nat_lit 495, ob3_495 P) :: (nat_lit 496, ob3_496 P) :: (nat_lit 498, ob3_498 P) :: (nat_lit 499, ob3_499 P) :: (nat_lit 500, ob3_500 P) :: (nat_lit 502, ob3_502 P) :: (nat_lit 503, ob3_503 P) :: (nat_lit 505, ob3_505 P) :: (nat_lit 506, ob3_506 P) :: (nat_lit 507, ob3_507 P) :: (nat_lit 509, ob3_509 P) :: (nat_lit 510, ob3_510 P) :: (nat_lit 512, ob3_512 P) :: (nat_lit 513, ob3_513 P) :: (nat_lit 514, ob3_514 P) :: (nat_lit 516, ob3_516 P) :: (nat_lit 517, ob3_517 P) :: (nat_lit 519, ob3_519 P) :: (nat_lit 520, ob3_520 P) :: (nat_lit 521, ob3_521 P) :: (nat_lit 522, ob3_522 P) :: (nat_lit 523, ob3_523 P) :: (nat_lit 526, ob3_526 P) :: (nat_lit 533, ob3_533 P) :: (nat_lit 534, ob3_534 P) :: (nat_lit 536, ob3_536 P) :: (nat_lit 537, ob3_537 P) :: (nat_lit 539, ob3_539 P) :: (nat_lit 540, ob3_540 P) :: (nat_lit 541, ob3_541 P) :: (nat_lit 543, ob3_543 P) :: (nat_lit 544, ob3_544 P) :: (nat_lit 546, ob3_546 P) :: (nat_lit 547, ob3_547 P) :: (nat_lit 548, ob3_548 P) :: (nat_lit 550, ob3_550 P) :: (nat_lit 551, ob3_551 P) :: (nat_lit 553, ob3_553 P) :: (nat_lit 554, ob3_554 P) :: (nat_lit 555, ob3_555 P) :: (nat_lit 557, ob3_557 P) :: (nat_lit 558, ob3_558 P) :: (nat_lit 560, ob3_560 P) :: (nat_lit 561, ob3_561 P) :: (nat_lit 562, ob3_562 P) :: (nat_lit 564, ob3_564 P) :: (nat_lit 565, ob3_565 P) :: (nat_lit 567, ob3_567 P) :: (nat_lit 568, ob3_568 P) :: (nat_lit 569, ob3_569 P) :: (nat_lit 570, ob3_570 P) :: (nat_lit 571, ob3_571 P) :: (nat_lit 574, ob3_574 P) :: (nat_lit 576, ob3_576 P) :: (nat_lit 577, ob3_577 P) :: (nat_lit 579, ob3_579 P) :: (nat_lit 580, ob3_580 P) :: (nat_lit 581, ob3_581 P) :: (nat_lit 583, ob3_583 P) :: (nat_lit 584, ob3_584 P) :: (nat_lit 586, ob3_586 P) :: (nat_lit 587, ob3_587 P) :: (nat_lit 588, ob3_588 P) :: (nat_lit 590, ob3_590 P) :: (nat_lit 591, ob3_591 P) :: (nat_lit 593, ob3_593 P) :: (nat_lit 594, ob3_594 P) :: (nat_lit 595, ob3_595 P) :: (nat_lit 597, ob3_597 P) :: (nat_lit 598, ob3_598 P) :: (nat_lit 600, ob3_600 P) :: (nat_lit 601, ob3_601 P) :: (nat_lit 602, ob3_602 P) :: (nat_lit 604, ob3_604 P) :: (nat_lit 605, ob3_605 P) :: (nat_lit 607, ob3_607 P) :: (nat_lit 608, ob3_608 P) :: (nat_lit 609, ob3_609 P) :: (nat_lit 612, ob3_612 P) :: (nat_lit 613, ob3_613 P) :: (nat_lit 614, ob3_614 P) :: (nat_lit 616, ob3_616 P) :: (nat_lit 617, ob3_617 P) :: (nat_lit 619, ob3_619 P) :: (nat_lit 620, ob3_620 P) :: (nat_lit 621, ob3_621 P) :: (nat_lit 623, ob3_623 P) :: (nat_lit 624, ob3_624 P) :: (nat_lit 626, ob3_626 P) :: (nat_lit 627, ob3_627 P) :: (nat_lit 628, ob3_628 P) :: (nat_lit 630, ob3_630 P) :: (nat_lit 631, ob3_631 P) :: (nat_lit 633, ob3_633 P) :: (nat_lit 634, ob3_634 P) :: (nat_lit 635, ob3_635 P) :: (nat_lit 637, ob3_637 P) :: (nat_lit 638, ob3_638 P) :: (nat_lit 640, ob3_640 P) :: (nat_lit 641, ob3_641 P) :: (nat_lit 642, ob3_642 P) :: (nat_lit 644, ob3_644 P) :: (nat_lit 645, ob3_645 P) :: (nat_lit 647, ob3_647 P) :: (nat_lit 648, ob3_648 P) :: (nat_lit 649, ob3_649 P) :: (nat_lit 651, ob3_651 P) :: (nat_lit 652, ob3_652 P) :: (nat_lit 654, ob3_654 P) :: (nat_lit 655, ob3_655 P) :: (nat_lit 656, ob3_656 P) :: (nat_lit 658, ob3_658 P) :: (nat_lit 659, ob3_659 P) :: (nat_lit 661, ob3_661 P) :: (nat_lit 662, ob3_662 P) :: (nat_lit 663, ob3_663 P) :: (nat_lit 665, ob3_665 P) :: (nat_lit 666, ob3_666 P) :: (nat_lit 668, ob3_668 P) :: (nat_lit 669, ob3_669 P) :: (nat_lit 670, ob3_670 P) :: (nat_lit 672, ob3_672 P) :: (nat_lit 673, ob3_673 P) :: (nat_lit 675, ob3_675 P) :: (nat_lit 676, ob3_676 P) :: (nat_lit 677, ob3_677 P) :: (nat_lit 679, ob3_679 P) :: (nat_lit 680, ob3_680 P) :: (nat_lit 682, ob3_682 P) :: (nat_lit 683, ob3_683 P) :: (nat_lit 684, ob3_684 P) :: (nat_lit 686, ob3_686 P) :: (nat_lit 687, ob3_687 P) :: (nat_lit 689, ob3_689 P) :: (nat_lit 690, ob3_690 P) :: (nat_lit 691, ob3_691 P) :: (nat_lit 693, ob3_693 P) :: (nat_lit 694, ob3_694 P) :: (nat_lit 696, ob3_696 P) :: (nat_lit 697, ob3_697 P) :: (nat_lit 698, ob3_698 P) :: (nat_lit 700, ob3_700 P) :: (nat_lit 701, ob3_701 P) :: (nat_lit 703, ob3_703 P) :: (nat_lit 704, ob3_704 P) :: (nat_lit 705, ob3_705 P) :: (nat_lit 707, ob3_707 P) :: (nat_lit 708, ob3_708 P) :: (nat_lit 710, ob3_710 P) :: (nat_lit 711, ob3_711 P) :: (nat_lit 712, ob3_712 P) :: (nat_lit 714, ob3_714 P) :: (nat_lit 715, ob3_715 P) :: (nat_lit 717, ob3_717 P) :: (nat_lit 718, ob3_718 P) :: (nat_lit 719, ob3_719 P) :: (nat_lit 721, ob3_721 P) :: (nat_lit 722, ob3_722 P) :: (nat_lit 724, ob3_724 P) :: (nat_lit 725, ob3_725 P) :: (nat_lit 726, ob3_726 P) :: (nat_lit 728, ob3_728 P) :: (nat_lit 729, ob3_729 P) :: (nat_lit 731, ob3_731 P) :: (nat_lit 732, ob3_732 P) :: (nat_lit 740, ob3_740 P) :: (nat_lit 742, ob3_742 P) :: (nat_lit 743, ob3_743 P) :: (nat_lit 745, ob3_745 P) :: (nat_lit 746, ob3_746 P) :: (nat_lit 747, ob3_747 P) :: (nat_lit 748, ob3_748 P) :: (nat_lit 749, ob3_749 P) :: (nat_lit 750, ob3_750 P) :: (nat_lit 751, ob3_751 P) :: (nat_lit 754, ob3_754 P) :: (nat_lit 757, ob3_757 P) :: (nat_lit 758, ob3_758 P) :: (nat_lit 759, ob3_759 P) :: (nat_lit 761, ob3_761 P) :: (nat_lit 762, ob3_762 P) :: (nat_lit 764, ob3_764 P) :: (nat_lit 765, ob3_765 P) :: (nat_lit 766, ob3_766 P) :: (nat_lit 768, ob3_768 P) :: (nat_lit 769, ob3_769 P) :: (nat_lit 771, ob3_771 P) :: (nat_lit 772, ob3_772 P) :: (nat_lit 773, ob3_773 P) :: (nat_lit 775, ob3_775 P) :: (nat_lit 776, ob3_776 P) :: (nat_lit 778, ob3_778 P) :: (nat_lit 779, ob3_779 P) :: (nat_lit 780, ob3_780 P) :: (nat_lit 783, ob3_783 P) :: (nat_lit 784, ob3_784 P) :: (nat_lit 785, ob3_785 P) :: (nat_lit 787, ob3_787 P) :: (nat_lit 788, ob3_788 P) :: (nat_lit 790, ob3_790 P) :: (nat_lit 791, ob3_791 P) :: (nat_lit 792, ob3_792 P) :: (nat_lit 794, ob3_794 P) :: (nat_lit 795, ob3_795 P) :: (nat_lit 797, ob3_797 P) :: (nat_lit 798, ob3_798 P) :: (nat_lit 799, ob3_799 P) :: (nat_lit 802, ob3_802 P) :: (nat_lit 803, ob3_803 P) :: (nat_lit 811, ob3_811 P) :: (nat_lit 813, ob3_813 P) :: (nat_lit 814, ob3_814 P) :: (nat_lit 816, ob3_816 P) :: (nat_lit 817, ob3_817 P) :: (nat_lit 818, ob3_818 P) :: (nat_lit 820, ob3_820 P) :: (nat_lit 821, ob3_821 P) :: (nat_lit 823, ob3_823 P) :: (nat_lit 824, ob3_824 P) :: (nat_lit 825, ob3_825 P) :: (nat_lit 827, ob3_827 P) :: (nat_lit 828, ob3_828 P) :: (nat_lit 830, ob3_830 P) :: (nat_lit 831, ob3_831 P) :: (nat_lit 832, ob3_832 P) :: (nat_lit 834, ob3_834 P) :: (nat_lit 835, ob3_835 P) :: (nat_lit 837, ob3_837 P) :: (nat_lit 838, ob3_838 P) :: (nat_lit 839, ob3_839 P) :: (nat_lit 841, ob3_841 P) :: (nat_lit 842, ob3_842 P) :: (nat_lit 844, ob3_844 P) :: (nat_lit 845, ob3_845 P) :: (nat_lit 846, ob3_846 P) :: (nat_lit 848, ob3_848 P) :: (nat_lit 849, ob3_849 P) :: (nat_lit 851, ob3_851 P) :: (nat_lit 852, ob3_852 P) :: (nat_lit 853, ob3_853 P) :: (nat_lit 854, ob3_854 P) :: (nat_lit 856, ob3_856 P) :: (nat_lit 857, ob3_857 P) :: (nat_lit 859, ob3_859 P) :: (nat_lit 860, ob3_860 P) :: (nat_lit 861, ob3_861 P) :: (nat_lit 863, ob3_863 P) :: (nat_lit 864, ob3_864 P) :: (nat_lit 866, ob3_866 P) :: (nat_lit 867, ob3_867 P) :: (nat_lit 868, ob3_868 P) :: (nat_lit 870, ob3_870 P) :: (nat_lit 871, ob3_871 P) :: (nat_lit 873, ob3_873 P) :: (nat_lit 874, ob3_874 P) :: (nat_lit 875, ob3_875 P) :: (nat_lit 877, ob3_877 P) :: (nat_lit 878, ob3_878 P) :: (nat_lit 880, ob3_880 P) :: (nat_lit 881, ob3_881 P) :: (nat_lit 882, ob3_882 P) :: (nat_lit 884, ob3_884 P) :: (nat_lit 885, ob3_885 P) :: (nat_lit 887, ob3_887 P) :: (nat_lit 888, ob3_888 P) :: (nat_lit 889, ob3_889 P) :: (nat_lit 891, ob3_891 P) :: (nat_lit 892, ob3_892 P) :: (nat_lit 894, ob3_894 P) :: (nat_lit 895, ob3_895 P) :: (nat_lit 896, ob3_896 P) :: (nat_lit 898, ob3_898 P) :: (nat_lit 899, ob3_899 P) :: (nat_lit 901, ob3_901 P) :: (nat_lit 902, ob3_902 P) :: (nat_lit 903, ob3_903 P) :: (nat_lit 905, ob3_905 P) :: (nat_lit 906, ob3_906 P) :: (nat_lit 908, ob3_908 P) :: (nat_lit 909, ob3_909 P) :: (nat_lit 910, ob3_910 P) :: (nat_lit 912, ob3_912 P) :: (nat_lit 913, ob3_913 P) :: (nat_lit 915, ob3_915 P) :: (nat_lit 916, ob3_916 P) :: (nat_lit 917, ob3_917 P) :: (nat_lit 919, ob3_919 P) :: (nat_lit 920, ob3_920 P) :: (nat_lit 922, ob3_922 P) :: (nat_lit 923, ob3_923 P) :: (nat_lit 924, ob3_924 P) :: (nat_lit 926, ob3_926 P) :: (nat_lit 927, ob3_927 P) :: (nat_lit 929, ob3_929 P) :: (nat_lit 930, ob3_930 P) :: (nat_lit 931, ob3_931 P) :: (nat_lit 932, ob3_932 P) :: (nat_lit 934, ob3_934 P) :: (nat_lit 935, ob3_935 P) :: (nat_lit 937, ob3_937 P) :: (nat_lit 938, ob3_938 P) :: (nat_lit 939, ob3_939 P) :: (nat_lit 940, ob3_940 P) :: (nat_lit 942, ob3_942 P) :: (nat_lit 943, ob3_943 P) :: (nat_lit 945, ob3_945 P) :: (nat_lit 946, ob3_946 P) :: (nat_lit 947, ob3_947 P) :: (nat_lit 949, ob3_949 P) :: (nat_lit 950, ob3_950 P) :: (nat_lit 952, ob3_952 P) :: (nat_lit 953, ob3_953 P) :: (nat_lit 954, ob3_954 P) :: (nat_lit 955, ob3_955 P) :: (nat_lit 956, ob3_956 P) :: (nat_lit 957, ob3_957 P) :: (nat_lit 958, ob3_958 P) :: (nat_lit 961, ob3_961 P) :: (nat_lit 968, ob3_968 P) :: (nat_lit 970, ob3_970 P) :: (nat_lit 971, ob3_971 P) :: (nat_lit 973, ob3_973 P) :: (nat_lit 974, ob3_974 P) :: (nat_lit 975, ob3_975 P) :: (nat_lit 977, ob3_977 P) :: (nat_lit 978, ob3_978 P) :: (nat_lit 980, ob3_980 P) :: (nat_lit 981, ob3_981 P) :: (nat_lit 982, ob3_982 P) :: (nat_lit 983, ob3_983 P) :: (nat_lit 985, ob3_985 P) :: (nat_lit 986, ob3_986 P) :: (nat_lit 988, ob3_988 P) :: (nat_lit 989, ob3_989 P) :: (nat_lit 990, ob3_990 P) :: (nat_lit 993, ob3_993 P) :: (nat_lit 994, ob3_994 P) :: (nat_lit 995, ob3_995 P) :: (nat_lit 997, ob3_997 P) :: (nat_lit 998, ob3_998 P) :: (nat_lit 1000, ob3_1000 P) :: (nat_lit 1001, ob3_1001 P) :: (nat_lit 1002, ob3_1002 P) :: (nat_lit 1004, ob3_1004 P) :: (nat_lit 1005, ob3_1005 P) :: (nat_lit 1007, ob3_1007 P) :: (nat_lit 1008, ob3_1008 P) :: (nat_lit 1009, ob3_1009 P) :: (nat_lit 1012, ob3_1012 P) :: (nat_lit 1013, ob3_1013 P) :: (nat_lit 1014, ob3_1014 P) :: (nat_lit 1017, ob3_1017 P) :: (nat_lit 1018, ob3_1018 P) :: (nat_lit 1019, ob3_1019 P) :: (nat_lit 1022, ob3_1022 P) :: (nat_lit 1023, ob3_1023 P) :: (nat_lit 1024, ob3_1024 P) :: (nat_lit 1026, ob3_1026 P) :: (nat_lit 1027, ob3_1027 P) :: (nat_lit 1029, ob3_1029 P) :: (nat_lit 1030, ob3_1030 P) :: (nat_lit 1031, ob3_1031 P) :: (nat_lit 1032, ob3_1032 P) :: (nat_lit 1033, ob3_1033 P) :: (nat_lit 1036, ob3_1036 P) :: (nat_lit 1038, ob3_1038 P) :: (nat_lit 1039, ob3_1039 P) :: (nat_lit 1041, ob3_1041 P) :: (nat_lit 1042, ob3_1042 P) :: (nat_lit 1043, ob3_1043 P) :: (nat_lit 1045, ob3_1045 P) :: (nat_lit 1046, ob3_1046 P) :: (nat_lit 1048, ob3_1048 P) :: (nat_lit 1049, ob3_1049 P) :: (nat_lit 1057, ob3_1057 P) :: (nat_lit 1059, ob3_1059 P) :: (nat_lit 1060, ob3_1060 P) :: (nat_lit 1062, ob3_1062 P) :: (nat_lit 1063, ob3_1063 P) :: (nat_lit 1064, ob3_1064 P) :: (nat_lit 1065, ob3_1065 P) :: (nat_lit 1066, ob3_1066 P) :: (nat_lit 1067, ob3_1067 P) :: (nat_lit 1068, ob3_1068 P) :: (nat_lit 1071, ob3_1071 P) :: (nat_lit 1078, ob3_1078 P) :: (nat_lit 1079, ob3_1079 P) :: (nat_lit 1080, ob3_1080 P) :: (nat_lit 1082, ob3_1082 P) :: (nat_lit 1083, ob3_1083 P) :: (nat_lit 1085, ob3_1085 P) :: (nat_lit 1086, ob3_1086 P) :: (nat_lit 1087, ob3_1087 P) :: (nat_lit 1089, ob3_1089 P) :: (nat_lit 1090, ob3_1090 P) :: (nat_lit 1092, ob3_1092 P) :: (nat_lit 1093, ob3_1093 P) :: (nat_lit 1094, ob3_1094 P) :: (nat_lit 1095, ob3_1095 P) :: (nat_lit 1096, ob3_1096 P) :: (nat_lit 1097, ob3_1097 P) :: (nat_lit 1099, ob3_1099 P) :: (nat_lit 1100, ob3_1100 P) :: (nat_lit 1102, ob3_1102 P) :: (nat_lit 1103, ob3_1103 P) :: (nat_lit 1104, ob3_1104 P) :: (nat_lit 1105, ob3_1105 P) :: (nat_lit 1107, ob3_1107 P) :: (nat_lit 1108, ob3_1108 P) :: (nat_lit 1110, ob3_1110 P) :: (nat_lit 1111, ob3_1111 P) :: (nat_lit 1112, ob3_1112 P) :: (nat_lit 1114, ob3_1114 P) :: (nat_lit 1115, ob3_1115 P) :: (nat_lit 1117, ob3_1117 P) :: (nat_lit 1118, ob3_1118 P) :: (nat_lit 1119, ob3_1119 P) :: (nat_lit 1121, ob3_1121 P) :: (nat_lit 1122, ob3_1122 P) :: (nat_lit 1124, ob3_1124 P) :: (nat_lit 1125, ob3_1125 P) :: (nat_lit 1126, ob3_1126 P) :: (nat_lit 1128, ob3_1128 P) :: (nat_lit 1129, ob3_1129 P) :: (nat_lit 1131, ob3_1131 P) :: (nat_lit 1132, ob3_1132 P) :: (nat_lit 1133, ob3_1133 P) :: (nat_lit 1135, ob3_1135 P) :: (nat_lit 1136, ob3_1136 P) :: (nat_lit 1138, ob3_1138 P) :: (nat_lit 1139, ob3_1139 P) :: (nat_lit 1142, ob3_1142 P) :: (nat_lit 1144, ob3_1144 P) :: (nat_lit 1145, ob3_1145 P) :: (nat_lit 1147, ob3_1147 P) :: (nat_lit 1148, ob3_1148 P) :: (nat_lit 1149, ob3_1149 P) :: (nat_lit 1150, ob3_1150 P) :: (nat_lit 1152, ob3_1152 P) :: (nat_lit 1153, ob3_1153 P) :: (nat_lit 1155, ob3_1155 P) :: (nat_lit 1156, ob3_1156 P) :: (nat_lit 1157, ob3_1157 P) :: (nat_lit 1159, ob3_1159 P) :: (nat_lit 1160, ob3_1160 P) :: (nat_lit 1162, ob3_1162 P) :: (nat_lit 1163, ob3_1163 P) :: (nat_lit 1164, ob3_1164 P) :: (nat_lit 1166, ob3_1166 P) :: (nat_lit 1167, ob3_1167 P) :: (nat_lit 1169, ob3_1169 P) :: (nat_lit 1170, ob3_1170 P) :: (nat_lit 1171, ob3_1171 P) :: (nat_lit 1173, ob3_1173 P) :: (nat_lit 1174, ob3_1174 P) :: (nat_lit 1176, ob3_1176 P) :: (nat_lit 1177, ob3_1177 P) :: (nat_lit 1178, ob3_1178 P) :: (nat_lit 1180, ob3_1180 P) :: (nat_lit 1181, ob3_1181 P) :: (nat_lit 1183, ob3_1183 P) :: (nat_lit 1184, ob3_1184 P) :: (nat_lit 1185, ob3_1185 P) :: (nat_lit 1187, ob3_1187 P) :: (nat_lit 1188, ob3_1188 P) :: (nat_lit 1190, ob3_1190 P) :: (nat_lit 1191, ob3_1191 P) :: (nat_lit 1192, ob3_1192 P) :: (nat_lit 1194, ob3_1194 P) :: (nat_lit 1195, ob3_1195 P) :: (nat_lit 1197, ob3_1197 P) :: (nat_lit 1198, ob3_1198 P) :: (nat_lit 1199, ob3_1199 P) :: (nat_lit 1200, ob3_1200 P) :: (nat_lit 1201, ob3_1201 P) :: (nat_lit 1204, kb1204 P) :: (nat_lit 1206, kb1206 P) :: (nat_lit 1207, kb1207 P) :: (nat_lit 1209, kb1209 P) :: (nat_lit 1210, kb1210 P) :: (nat_lit 1211, kb1211 P) :: (nat_lit 1213, kb1213 P) :: (nat_lit 1214, kb1214 P) :: (nat_lit 1216, kb1216 P) :: (nat_lit 1217, kb1217 P) :: (nat_lit 1218, kb1218 P) :: (nat_lit 1220, kb1220 P) :: (nat_lit 1221, kb1221 P) :: (nat_lit 1223, kb1223 P) :: (nat_lit 1224, kb1224 P) :: (nat_lit 1225, kb1225 P) :: (nat_lit 1227, kb1227 P) :: (nat_lit 1228, kb1228 P) :: (nat_lit 1230, kb1230 P) :: (nat_lit 1231, kb1231 P) :: (nat_lit 1232, kb1232 P) :: (nat_lit 1234, kb1234 P) :: (nat_lit 1235, kb1235 P) :: (nat_lit 1237, kb1237 P) :: (nat_lit 1238, kb1238 P) :: (nat_lit 1239, kb1239 P) :: (nat_lit 1241, kb1241 P) :: (nat_lit 1242, kb1242 P) :: (nat_lit 1244, kb1244 P) :: (nat_lit 1245, kb1245 P) :: (nat_lit 1246, kb1246 P) :: (nat_lit 1248, kb1248 P) :: (nat_lit 1249, kb1249 P) :: (nat_lit 1251, kb1251 P) :: (nat_lit 1252, kb1252 P) :: (nat_lit 1253, kb1253 P) :: (nat_lit 1255, kb1255 P) :: (nat_lit 1256, kb1256 P) :: (nat_lit 1258, kb1258 P) :: (nat_lit 1259, kb1259 P) :: (nat_lit 1260, kb1260 P) :: (nat_lit 1262, kb1262 P) :: (nat_lit 1263, kb1263 P) :: (nat_lit 1265, kb1265 P) :: (nat_lit 1266, kb1266 P) :: (nat_lit 1267, kb1267 P) :: (nat_lit 1270, kb1270 P) :: (nat_lit 1271, kb1271 P) :: (nat_lit 1272, kb1272 P) :: (nat_lit 1275, kb1275 P) :: (nat_lit 1276, kb1276 P) :: (nat_lit 1277, kb1277 P) :: (nat_lit 1279, kb1279 P) :: (nat_lit 1280, kb1280 P) :: (nat_lit 1282, kb1282 P) :: (nat_lit 1283, kb1283 P) :: []
def asH : List Addr := [2, 3, 15, 17, 18, 20, 21, 22, 24, 25, 27, 28, 29, 31, 32, 34, 35, 36, 39, 40, 41, 43, 44, 46, 47, 48, 51, 52, 53, 55, 56, 58, 59, 60, 63, 64, 65, 68, 69, 70, 77, 78, 79, 80, 83, 90, 92, 93, 95, 96, 97, 98, 99, 102, 109, 111, 112, 114, 115, 116, 117, 118, 121, 128, 130, 131, 133, 134, 135, 136, 137, 140, 147, 149, 150, 152, 153, 154, 155, 156, 159, 166, 168, 169, 171, 172, 173, 174, 175, 178, 185, 187, 188, 190, 191, 192, 193, 194, 197, 204, 206, 207, 209, 210, 211, 212, 213, 216, 223, 225, 226, 228, 229, 230, 231, 232, 235, 242, 244, 245, 247, 248, 249, 250, 251, 254, 261, 263, 264, 266, 267, 268, 269, 270, 273, 280, 281, 282, 285, 292, 294, 295, 297, 298, 299, 300, 301, 304, 306, 307, 309, 310, 311, 313, 314, 316, 317, 318, 320, 321, 323, 324, 325, 327, 328, 330, 331, 332, 334, 335, 337, 338, 346, 348, 349, 351, 352, 353, 354, 355, 356, 357, 360, 362, 363, 365, 366, 367, 369, 370, 372, 373, 374, 376, 377, 379, 380, 381, 383, 384, 386, 387, 388, 391, 392, 393, 395, 396, 398, 399, 400, 402, 403, 405, 406, 407, 409, 410, 412, 413, 414, 416, 417, 419, 420, 421, 424, 425, 426, 427, 428, 436, 437, 438, 439, 440, 443, 450, 452, 453, 455, 456, 457, 459, 460, 462, 463, 464, 466, 467, 469, 470, 471, 474, 475, 476, 477, 478, 479, 480, 481, 484, 491, 492, 493, 495, 496, 498, 499, 500, 502, 503, 505, 506, 507, 509, 510, 512, 513, 514, 516, 517, 519, 520, 521, 522, 523, 526, 533, 534, 536, 537, 539, 540, 541, 543, 544, 546, 547, 548, 550, 551, 553, 554, 555, 557, 558, 560, 561, 562, 564, 565, 567, 568, 569, 570, 571, 574, 576, 577, 579, 580, 581, 583, 584, 586, 587, 588, 590, 591, 593, 594, 595, 597, 598, 600, 601, 602, 604, 605, 607, 608, 609, 612, 613, 614, 616, 617, 619, 620, 621, 623, 624, 626, 627, 628, 630, 631, 633, 634, 635, 637, 638, 640, 641, 642, 644, 645, 647, 648, 649, 651, 652, 654, 655, 656, 658, 659, 661, 662, 663, 665, 666, 668, 669, 670, 672, 673, 675, 676, 677, 679, 680, 682, 683, 684, 686, 687, 689, 690, 691, 693, 694, 696, 697, 698, 700, 701, 703, 704, 705, 707, 708, 710, 711, 712, 714, 715, 717, 718, 719, 721, 722, 724, 725, 726, 728, 729, 731, 732, 740, 742, 743, 745, 746, 747, 748, 749, 750, 751, 754, 757, 758, 759, 761, 762, 764, 765, 766, 768, 769, 771, 772, 773, 775, 776, 778, 779, 780, 783, 784, 785, 787, 788, 790, 791, 792, 794, 795, 797, 798, 799, 802, 803, 811, 813, 814, 816, 817, 818, 820, 821, 823, 824, 825, 827, 828, 830, 831, 832, 834, 835, 837, 838, 839, 841, 842, 844, 845, 846, 848, 849, 851, 852, 853, 854, 856, 857, 859, 860, 861, 863, 864, 866, 867, 868, 870, 871, 873, 874, 875, 877, 878, 880, 881, 882, 884, 885, 887, 888, 889, 891, 892, 894, 895, 896, 898, 899, 901, 902, 903, 905, 906, 908, 909, 910, 912, 913, 915, 916, 917, 919, 920, 922, 923, 924, 926, 927, 929, 930, 931, 932, 934, 935, 937, 938, 939, 940, 942, 943, 945, 946, 947, 949, 950, 952, 953, 954, 955, 956, 957, 958, 961, 968, 970, 971, 973, 974, 975, 977, 978, 980, 981, 982, 983, 985, 986, 988, 989, 990, 993, 994, 995, 997, 998, 1000, 1001, 1002, 1004, 1005, 1007, 1008, 1009, 1012, 1013, 1014, 1017, 1018, 1019, 1022, 1023, 1024, 1026, 1027, 1029, 1030, 1031, 1032, 1033, 1036, 1038, 1039, 1041, 1042, 1043, 1045, 1046, 1048, 1049, 1057, 1059, 1060, 1062, 1063, 1064, 1065, 1066, 1067, 1068, 1071, 1078, 1079, 1080, 1082, 1083, 1085, 1086, 1087, 1089, 1090, 1092, 1093, 1094, 1095, 1096, 1097, 1099, 1100, 1102, 1103, 1104, 1105, 1107, 1108, 1110, 1111, 1112, 1114, 1115, 1117, 1118, 1119, 1121, 1122, 1124, 1125, 1126, 1128, 1129, 1131, 1132, 1133, 1135, 1136, 1138, 1139, 1142, 1144, 1145, 1147, 1148, 1149, 1150, 1152, 1153, 1155, 1156, 1157, 1159, 1160, 1162, 1163, 1164, 1166, 1167, 1169, 1170, 1171, 1173, 1174, 1176, 1177, 1178, 1180, 1181, 1183, 1184, 1185, 1187, 1188, 1190, 1191, 1192, 1194, 1195, 1197, 1198, 1199, 1200, 1201, 1204, 1206, 1207, 1209, 1210, 1211, 1213, 1214, 1216, 1217, 1218, 1220, 1221, 1223, 1224, 1225, 1227, 1228, 1230, 1231, 1232, 1234, 1235, 1237, 1238, 1239, 1241, 1242, 1244, 1245, 1246, 1248, 1249, 1251, 1252, 1253, 1255, 1256, 1258, 1259, 1260, 1262, 1263, 1265, 1266, 1267, 1270, 1271, 1272, 1275, 1276, 1277, 1279, 1280, 1282, 1283]
abbrev RH : OpenRow := OpenLaw.row PySem.Challenge.rw_evenrules_k63_whole_trees_come_to_by_put
noncomputable def qH : Program := view RH.prog [0, 2, 3, 4, 5, 6, 7, 8, 9, 11, 12, 13, 14, 15, 16, 17, 18, 19, 20, 21, 22, 23, 25, 26, 27, 28, 29, 30, 32, 33, 34, 35, 36, 37, 38, 40, 41, 42, 43, 44, 45, 47, 48, 49, 50, 51, 52, 53, 54, 55, 56, 57, 58, 59, 60, 61, 62, 63, 64, 65, 66, 67, 68, 69, 71, 72, 73, 74, 75, 76, 77, 78, 80, 81, 82, 83, 84, 85, 86, 87, 88, 89, 91, 93, 94, 95, 97, 99, 101, 102, 103, 104, 105, 106, 107, 108, 109, 110, 111, 112]
def looseH : List Str := [oS "KEY_BOUND", oS "PIECE", oS "MOST_WEIGHT", oS "WORDS", oS "WeightRule", oS "TurnRule", oS "TryRule", oS "Reading", oS "Parts", oS "Tree"]
theorem ekH (P : Params) : asH = (Kh P).map (·.1) := by kernel_rfl
noncomputable abbrev hkH : Hook := kHook Kh asH ekH
noncomputable def obH (s : SharedT) : List (Option Obj) := asH.map (HandSHeadRun.getT s)
theorem obH_eq (s : SharedT) : obH s = hkH.obs s.abs := List.map_congr_left fun a _ => HandSHeadRun.getT_eq s a
noncomputable def envH : Env := { scope := RH.prog.main.scope, locals := mainNs, globals := mainNs, cells := [], code := .ref 13, frame := some 14 }
noncomputable def atH : TopAt := ⟨envH, PySem.Pos.mk 0 0 0 0, PySem.Pos.mk 0 0 0 0, PySem.Pos.mk 0 0 0 0, 11, 12, 1⟩
noncomputable def lifeH : Life := PySem.Life.mk [] [] [] 0 [] [] false #[] [] 0 false false false 0 [2000, 10, 10] false 0 true [] [] 0 false
def drawnH : Drawn := PySem.Drawn.mk 0 0 0 0
noncomputable def tr0 (P : Params) : BT := laid [(nat_lit 11, ob0_11 P), (nat_lit 12, ob0_12 P), (nat_lit 13, ob0_13 P), (nat_lit 14, ob0_14 P)] (bootTree P)
noncomputable def S0 (w : World) (os : OsState) : SharedT := ⟨tr0 w.params, nat_lit 15, lifeH, #[], drawnH, nat_lit 187, os⟩
noncomputable abbrev tr1 (P : Params) : BT := tr0 P
noncomputable def S1 (w : World) (os : OsState) : SharedT := ⟨tr1 w.params, nat_lit 15, lifeH, #[], drawnH, nat_lit 187, os⟩
noncomputable def tr2 (P : Params) : BT := laid [(nat_lit 3, ob2_3 P), (nat_lit 12, ob2_12 P), (nat_lit 15, ob2_15 P), (nat_lit 16, ob2_16 P), (nat_lit 17, ob2_17 P), (nat_lit 18, ob2_18 P), (nat_lit 19, ob2_19 P), (nat_lit 20, ob2_20 P), (nat_lit 21, ob2_21 P), (nat_lit 22, ob2_22 P), (nat_lit 23, ob2_23 P), (nat_lit 24, ob2_24 P), (nat_lit 25, ob2_25 P), (nat_lit 26, ob2_26 P), (nat_lit 27, ob2_27 P), (nat_lit 28, ob2_28 P), (nat_lit 29, ob2_29 P), (nat_lit 30, ob2_30 P), (nat_lit 31, ob2_31 P), (nat_lit 32, ob2_32 P), (nat_lit 33, ob2_33 P), (nat_lit 34, ob2_34 P), (nat_lit 35, ob2_35 P), (nat_lit 36, ob2_36 P), (nat_lit 37, ob2_37 P), (nat_lit 38, ob2_38 P), (nat_lit 39, ob2_39 P), (nat_lit 40, ob2_40 P), (nat_lit 41, ob2_41 P), (nat_lit 42, ob2_42 P), (nat_lit 43, ob2_43 P), (nat_lit 44, ob2_44 P), (nat_lit 45, ob2_45 P), (nat_lit 46, ob2_46 P), (nat_lit 47, ob2_47 P), (nat_lit 48, ob2_48 P), (nat_lit 49, ob2_49 P), (nat_lit 50, ob2_50 P), (nat_lit 51, ob2_51 P), (nat_lit 52, ob2_52 P), (nat_lit 53, ob2_53 P), (nat_lit 54, ob2_54 P), (nat_lit 55, ob2_55 P), (nat_lit 56, ob2_56 P), (nat_lit 57, ob2_57 P), (nat_lit 58, ob2_58 P), (nat_lit 59, ob2_59 P), (nat_lit 60, ob2_60 P), (nat_lit 61, ob2_61 P), (nat_lit 62, ob2_62 P), (nat_lit 63, ob2_63 P), (nat_lit 64, ob2_64 P), (nat_lit 65, ob2_65 P), (nat_lit 66, ob2_66 P), (nat_lit 67, ob2_67 P), (nat_lit 68, ob2_68 P), (nat_lit 69, ob2_69 P), (nat_lit 70, ob2_70 P), (nat_lit 71, ob2_71 P), (nat_lit 72, ob2_72 P), (nat_lit 73, ob2_73 P), (nat_lit 74, ob2_74 P), (nat_lit 75, ob2_75 P), (nat_lit 76, ob2_76 P), (nat_lit 77, ob2_77 P), (nat_lit 78, ob2_78 P), (nat_lit 79, ob2_79 P), (nat_lit 80, ob2_80 P), (nat_lit 81, ob2_81 P), (nat_lit 82, ob2_82 P), (nat_lit 83, ob2_83 P), (nat_lit 84, ob2_84 P), (nat_lit 85, ob2_85 P), (nat_lit 86, ob2_86 P), (nat_lit 87, ob2_87 P), (nat_lit 88, ob2_88 P), (nat_lit 89, ob2_89 P), (nat_lit 90, ob2_90 P), (nat_lit 91, ob2_91 P), (nat_lit 92, ob2_92 P), (nat_lit 93, ob2_93 P), (nat_lit 94, ob2_94 P), (nat_lit 95, ob2_95 P), (nat_lit 96, ob2_96 P), (nat_lit 97, ob2_97 P), (nat_lit 98, ob2_98 P), (nat_lit 99, ob2_99 P), (nat_lit 100, ob2_100 P), (nat_lit 101, ob2_101 P), (nat_lit 102, ob2_102 P), (nat_lit 103, ob2_103 P), (nat_lit 104, ob2_104 P), (nat_lit 105, ob2_105 P), (nat_lit 106, ob2_106 P), (nat_lit 107, ob2_107 P), (nat_lit 108, ob2_108 P), (nat_lit 109, ob2_109 P), (nat_lit 110, ob2_110 P), (nat_lit 111, ob2_111 P), (nat_lit 112, ob2_112 P), (nat_lit 113, ob2_113 P), (nat_lit 114, ob2_114 P), (nat_lit 115, ob2_115 P), (nat_lit 116, ob2_116 P), (nat_lit 117, ob2_117 P), (nat_lit 118, ob2_118 P), (nat_lit 119, ob2_119 P), (nat_lit 120, ob2_120 P), (nat_lit 121, ob2_121 P), (nat_lit 122, ob2_122 P), (nat_lit 123, ob2_123 P), (nat_lit 124, ob2_124 P), (nat_lit 125, ob2_125 P), (nat_lit 126, ob2_126 P), (nat_lit 127, ob2_127 P), (nat_lit 128, ob2_128 P), (nat_lit 129, ob2_129 P), (nat_lit 130, ob2_130 P), (nat_lit 131, ob2_131 P), (nat_lit 132, ob2_132 P), (nat_lit 133, ob2_133 P), (nat_lit 134, ob2_134 P), (nat_lit 135, ob2_135 P), (nat_lit 136, ob2_136 P), (nat_lit 137, ob2_137 P), (nat_lit 138, ob2_138 P), (nat_lit 139, ob2_139 P), (nat_lit 140, ob2_140 P), (nat_lit 141, ob2_141 P), (nat_lit 142, ob2_142 P), (nat_lit 143, ob2_143 P), (nat_lit 144, ob2_144 P), (nat_lit 145, ob2_145 P), (nat_lit 146, ob2_146 P), (nat_lit 147, ob2_147 P), (nat_lit 148, ob2_148 P), (nat_lit 149, ob2_149 P), (nat_lit 150, ob2_150 P), (nat_lit 151, ob2_151 P), (nat_lit 152, ob2_152 P), (nat_lit 153, ob2_153 P), (nat_lit 154, ob2_154 P), (nat_lit 155, ob2_155 P), (nat_lit 156, ob2_156 P), (nat_lit 157, ob2_157 P), (nat_lit 158, ob2_158 P), (nat_lit 159, ob2_159 P), (nat_lit 160, ob2_160 P), (nat_lit 161, ob2_161 P), (nat_lit 162, ob2_162 P), (nat_lit 163, ob2_163 P), (nat_lit 164, ob2_164 P), (nat_lit 165, ob2_165 P), (nat_lit 166, ob2_166 P), (nat_lit 167, ob2_167 P), (nat_lit 168, ob2_168 P), (nat_lit 169, ob2_169 P), (nat_lit 170, ob2_170 P), (nat_lit 171, ob2_171 P), (nat_lit 172, ob2_172 P), (nat_lit 173, ob2_173 P), (nat_lit 174, ob2_174 P), (nat_lit 175, ob2_175 P), (nat_lit 176, ob2_176 P), (nat_lit 177, ob2_177 P), (nat_lit 178, ob2_178 P), (nat_lit 179, ob2_179 P), (nat_lit 180, ob2_180 P), (nat_lit 181, ob2_181 P), (nat_lit 182, ob2_182 P), (nat_lit 183, ob2_183 P), (nat_lit 184, ob2_184 P), (nat_lit 185, ob2_185 P), (nat_lit 186, ob2_186 P), (nat_lit 187, ob2_187 P), (nat_lit 188, ob2_188 P), (nat_lit 189, ob2_189 P), (nat_lit 190, ob2_190 P), (nat_lit 191, ob2_191 P), (nat_lit 192, ob2_192 P), (nat_lit 193, ob2_193 P), (nat_lit 194, ob2_194 P), (nat_lit 195, ob2_195 P), (nat_lit 196, ob2_196 P), (nat_lit 197, ob2_197 P), (nat_lit 198, ob2_198 P), (nat_lit 199, ob2_199 P), (nat_lit 200, ob2_200 P), (nat_lit 201, ob2_201 P), (nat_lit 202, ob2_202 P), (nat_lit 203, ob2_203 P), (nat_lit 204, ob2_204 P), (nat_lit 205, ob2_205 P), (nat_lit 206, ob2_206 P), (nat_lit 207, ob2_207 P), (nat_lit 208, ob2_208 P), (nat_lit 209, ob2_209 P), (nat_lit 210, ob2_210 P), (nat_lit 211, ob2_211 P), (nat_lit 212, ob2_212 P), (nat_lit 213, ob2_213 P), (nat_lit 214, ob2_214 P), (nat_lit 215, ob2_215 P), (nat_lit 216, ob2_216 P), (nat_lit 217, ob2_217 P), (nat_lit 218, ob2_218 P), (nat_lit 219, ob2_219 P), (nat_lit 220, ob2_220 P), (nat_lit 221, ob2_221 P), (nat_lit 222, ob2_222 P), (nat_lit 223, ob2_223 P), (nat_lit 224, ob2_224 P), (nat_lit 225, ob2_225 P), (nat_lit 226, ob2_226 P), (nat_lit 227, ob2_227 P), (nat_lit 228, ob2_228 P), (nat_lit 229, ob2_229 P), (nat_lit 230, ob2_230 P), (nat_lit 231, ob2_231 P), (nat_lit 232, ob2_232 P), (nat_lit 233, ob2_233 P), (nat_lit 234, ob2_234 P), (nat_lit 235, ob2_235 P), (nat_lit 236, ob2_236 P), (nat_lit 237, ob2_237 P), (nat_lit 238, ob2_238 P), (nat_lit 239, ob2_239 P), (nat_lit 240, ob2_240 P), (nat_lit 241, ob2_241 P), (nat_lit 242, ob2_242 P), (nat_lit 243, ob2_243 P), (nat_lit 244, ob2_244 P), (nat_lit 245, ob2_245 P), (nat_lit 246, ob2_246 P), (nat_lit 247, ob2_247 P), (nat_lit 248, ob2_248 P), (nat_lit 249, ob2_249 P), (nat_lit 250, ob2_250 P), (nat_lit 251, ob2_251 P), (nat_lit 252, ob2_252 P), (nat_lit 253, ob2_253 P), (nat_lit 254, ob2_254 P), (nat_lit 255, ob2_255 P), (nat_lit 256, ob2_256 P), (nat_lit 257, ob2_257 P), (nat_lit 258, ob2_258 P), (nat_lit 259, ob2_259 P), (nat_lit 260, ob2_260 P), (nat_lit 261, ob2_261 P), (nat_lit 262, ob2_262 P), (nat_lit 263, ob2_263 P), (nat_lit 264, ob2_264 P), (nat_lit 265, ob2_265 P), (nat_lit 266, ob2_266 P), (nat_lit 267, ob2_267 P), (nat_lit 268, ob2_268 P), (nat_lit 269, ob2_269 P), (nat_lit 270, ob2_270 P), (nat_lit 271, ob2_271 P), (nat_lit 272, ob2_272 P), (nat_lit 273, ob2_273 P), (nat_lit 274, ob2_274 P), (nat_lit 275, ob2_275 P), (nat_lit 276, ob2_276 P), (nat_lit 277, ob2_277 P), (nat_lit 278, ob2_278 P), (nat_lit 279, ob2_279 P), (nat_lit 280, ob2_280 P), (nat_lit 281, ob2_281 P), (nat_lit 282, ob2_282 P), (nat_lit 283, ob2_283 P), (nat_lit 284, ob2_284 P), (nat_lit 285, ob2_285 P), (nat_lit 286, ob2_286 P), (nat_lit 287, ob2_287 P), (nat_lit 288, ob2_288 P), (nat_lit 289, ob2_289 P), (nat_lit 290, ob2_290 P), (nat_lit 291, ob2_291 P), (nat_lit 292, ob2_292 P), (nat_lit 293, ob2_293 P), (nat_lit 294, ob2_294 P), (nat_lit 295, ob2_295 P), (nat_lit 296, ob2_296 P), (nat_lit 297, ob2_297 P), (nat_lit 298, ob2_298 P), (nat_lit 299, ob2_299 P), (nat_lit 300, ob2_300 P), (nat_lit 301, ob2_301 P), (nat_lit 302, ob2_302 P), (nat_lit 303, ob2_303 P), (nat_lit 304, ob2_304 P), (nat_lit 305, ob2_305 P), (nat_lit 306, ob2_306 P), (nat_lit 307, ob2_307 P), (nat_lit 308, ob2_308 P), (nat_lit 309, ob2_309 P), (nat_lit 310, ob2_310 P), (nat_lit 311, ob2_311 P), (nat_lit 312, ob2_312 P), (nat_lit 313, ob2_313 P), (nat_lit 314, ob2_314 P), (nat_lit 315, ob2_315 P), (nat_lit 316, ob2_316 P), (nat_lit 317, ob2_317 P), (nat_lit 318, ob2_318 P), (nat_lit 319, ob2_319 P), (nat_lit 320, ob2_320 P), (nat_lit 321, ob2_321 P), (nat_lit 322, ob2_322 P), (nat_lit 323, ob2_323 P), (nat_lit 324, ob2_324 P), (nat_lit 325, ob2_325 P), (nat_lit 326, ob2_326 P), (nat_lit 327, ob2_327 P), (nat_lit 328, ob2_328 P), (nat_lit 329, ob2_329 P), (nat_lit 330, ob2_330 P), (nat_lit 331, ob2_331 P), (nat_lit 332, ob2_332 P), (nat_lit 333, ob2_333 P), (nat_lit 334, ob2_334 P), (nat_lit 335, ob2_335 P), (nat_lit 336, ob2_336 P), (nat_lit 337, ob2_337 P), (nat_lit 338, ob2_338 P), (nat_lit 339, ob2_339 P), (nat_lit 340, ob2_340 P), (nat_lit 341, ob2_341 P), (nat_lit 342, ob2_342 P), (nat_lit 343, ob2_343 P), (nat_lit 344, ob2_344 P), (nat_lit 345, ob2_345 P), (nat_lit 346, ob2_346 P), (nat_lit 347, ob2_347 P), (nat_lit 348, ob2_348 P), (nat_lit 349, ob2_349 P), (nat_lit 350, ob2_350 P), (nat_lit 351, ob2_351 P), (nat_lit 352, ob2_352 P), (nat_lit 353, ob2_353 P), (nat_lit 354, ob2_354 P), (nat_lit 355, ob2_355 P), (nat_lit 356, ob2_356 P), (nat_lit 357, ob2_357 P), (nat_lit 358, ob2_358 P), (nat_lit 359, ob2_359 P), (nat_lit 360, ob2_360 P), (nat_lit 361, ob2_361 P), (nat_lit 362, ob2_362 P), (nat_lit 363, ob2_363 P), (nat_lit 364, ob2_364 P), (nat_lit 365, ob2_365 P), (nat_lit 366, ob2_366 P), (nat_lit 367, ob2_367 P), (nat_lit 368, ob2_368 P), (nat_lit 369, ob2_369 P), (nat_lit 370, ob2_370 P), (nat_lit 371, ob2_371 P), (nat_lit 372, ob2_372 P), (nat_lit 373, ob2_373 P), (nat_lit 374, ob2_374 P), (nat_lit 375, ob2_375 P), (nat_lit 376, ob2_376 P), (nat_lit 377, ob2_377 P), (nat_lit 378, ob2_378 P), (nat_lit 379, ob2_379 P), (nat_lit 380, ob2_380 P), (nat_lit 381, ob2_381 P), (nat_lit 382, ob2_382 P), (nat_lit 383, ob2_383 P), (nat_lit 384, ob2_384 P), (nat_lit 385, ob2_385 P), (nat_lit 386, ob2_386 P), (nat_lit 387, ob2_387 P), (nat_lit 388, ob2_388 P), (nat_lit 389, ob2_389 P), (nat_lit 390, ob2_390 P), (nat_lit 391, ob2_391 P), (nat_lit 392, ob2_392 P), (nat_lit 393, ob2_393 P), (nat_lit 394, ob2_394 P), (nat_lit 395, ob2_395 P), (nat_lit 396, ob2_396 P), (nat_lit 397, ob2_397 P), (nat_lit 398, ob2_398 P), (nat_lit 399, ob2_399 P), (nat_lit 400, ob2_400 P), (nat_lit 401, ob2_401 P), (nat_lit 402, ob2_402 P), (nat_lit 403, ob2_403 P), (nat_lit 404, ob2_404 P), (nat_lit 405, ob2_405 P), (nat_lit 406, ob2_406 P), (nat_lit 407, ob2_407 P), (nat_lit 408, ob2_408 P), (nat_lit 409, ob2_409 P), (nat_lit 410, ob2_410 P), (nat_lit 411, ob2_411 P), (nat_lit 412, ob2_412 P), (nat_lit 413, ob2_413 P), (nat_lit 414, ob2_414 P), (nat_lit 415, ob2_415 P), (nat_lit 416, ob2_416 P), (nat_lit 417, ob2_417 P), (nat_lit 418, ob2_418 P), (nat_lit 419, ob2_419 P), (nat_lit 420, ob2_420 P), (nat_lit 421, ob2_421 P), (nat_lit 422, ob2_422 P), (nat_lit 423, ob2_423 P), (nat_lit 424, ob2_424 P), (nat_lit 425, ob2_425 P), (nat_lit 426, ob2_426 P), (nat_lit 427, ob2_427 P), (nat_lit 428, ob2_428 P), (nat_lit 429, ob2_429 P), (nat_lit 430, ob2_430 P), (nat_lit 431, ob2_431 P), (nat_lit 432, ob2_432 P), (nat_lit 433, ob2_433 P), (nat_lit 434, ob2_434 P), (nat_lit 435, ob2_435 P), (nat_lit 436, ob2_436 P), (nat_lit 437, ob2_437 P), (nat_lit 438, ob2_438 P), (nat_lit 439, ob2_439 P), (nat_lit 440, ob2_440 P), (nat_lit 441, ob2_441 P), (nat_lit 442, ob2_442 P), (nat_lit 443, ob2_443 P), (nat_lit 444, ob2_444 P), (nat_lit 445, ob2_445 P), (nat_lit 446, ob2_446 P), (nat_lit 447, ob2_447 P), (nat_lit 448, ob2_448 P), (nat_lit 449, ob2_449 P), (nat_lit 450, ob2_450 P), (nat_lit 451, ob2_451 P), (nat_lit 452, ob2_452 P), (nat_lit 453, ob2_453 P), (nat_lit 454, ob2_454 P), (nat_lit 455, ob2_455 P), (nat_lit 456, ob2_456 P), (nat_lit 457, ob2_457 P), (nat_lit 458, ob2_458 P), (nat_lit 459, ob2_459 P), (nat_lit 460, ob2_460 P), (nat_lit 461, ob2_461 P), (nat_lit 462, ob2_462 P), (nat_lit 463, ob2_463 P), (nat_lit 464, ob2_464 P), (nat_lit 465, ob2_465 P), (nat_lit 466, ob2_466 P), (nat_lit 467, ob2_467 P), (nat_lit 468, ob2_468 P), (nat_lit 469, ob2_469 P), (nat_lit 470, ob2_470 P), (nat_lit 471, ob2_471 P), (nat_lit 472, ob2_472 P), (nat_lit 473, ob2_473 P), (nat_lit 474, ob2_474 P), (nat_lit 475, ob2_475 P), (nat_lit 476, ob2_476 P), (nat_lit 477, ob2_477 P), (nat_lit 478, ob2_478 P), (nat_lit 479, ob2_479 P), (nat_lit 480, ob2_480 P), (nat_lit 481, ob2_481 P), (nat_lit 482, ob2_482 P), (nat_lit 483, ob2_483 P)] (tr1 P)
noncomputable def S2 (w : World) (os : OsState) : SharedT := ⟨tr2 w.params, nat_lit 484, lifeH, #[], drawnH, nat_lit 844, os⟩
noncomputable def tr3 (P : Params) : BT := laid [(nat_lit 3, ob3_3 P), (nat_lit 12, ob3_12 P), (nat_lit 481, ob3_481 P), (nat_lit 484, ob3_484 P), (nat_lit 485, ob3_485 P), (nat_lit 486, ob3_486 P), (nat_lit 487, ob3_487 P), (nat_lit 488, ob3_488 P), (nat_lit 489, ob3_489 P), (nat_lit 490, ob3_490 P), (nat_lit 491, ob3_491 P), (nat_lit 492, ob3_492 P), (nat_lit 493, ob3_493 P), (nat_lit 494, ob3_494 P), (nat_lit 495, ob3_495 P), (nat_lit 496, ob3_496 P), (nat_lit 497, ob3_497 P), (nat_lit 498, ob3_498 P), (nat_lit 499, ob3_499 P), (nat_lit 500, ob3_500 P), (nat_lit 501, ob3_501 P), (nat_lit 502, ob3_502 P), (nat_lit 503, ob3_503 P), (nat_lit 504, ob3_504 P), (nat_lit 505, ob3_505 P), (nat_lit 506, ob3_506 P), (nat_lit 507, ob3_507 P), (nat_lit 508, ob3_508 P), (nat_lit 509, ob3_509 P), (nat_lit 510, ob3_510 P), (nat_lit 511, ob3_511 P), (nat_lit 512, ob3_512 P), (nat_lit 513, ob3_513 P), (nat_lit 514, ob3_514 P), (nat_lit 515, ob3_515 P), (nat_lit 516, ob3_516 P), (nat_lit 517, ob3_517 P), (nat_lit 518, ob3_518 P), (nat_lit 519, ob3_519 P), (nat_lit 520, ob3_520 P), (nat_lit 521, ob3_521 P), (nat_lit 522, ob3_522 P), (nat_lit 523, ob3_523 P), (nat_lit 524, ob3_524 P), (nat_lit 525, ob3_525 P), (nat_lit 526, ob3_526 P), (nat_lit 527, ob3_527 P), (nat_lit 528, ob3_528 P), (nat_lit 529, ob3_529 P), (nat_lit 530, ob3_530 P), (nat_lit 531, ob3_531 P), (nat_lit 532, ob3_532 P), (nat_lit 533, ob3_533 P), (nat_lit 534, ob3_534 P), (nat_lit 535, ob3_535 P), (nat_lit 536, ob3_536 P), (nat_lit 537, ob3_537 P), (nat_lit 538, ob3_538 P), (nat_lit 539, ob3_539 P), (nat_lit 540, ob3_540 P), (nat_lit 541, ob3_541 P), (nat_lit 542, ob3_542 P), (nat_lit 543, ob3_543 P), (nat_lit 544, ob3_544 P), (nat_lit 545, ob3_545 P), (nat_lit 546, ob3_546 P), (nat_lit 547, ob3_547 P), (nat_lit 548, ob3_548 P), (nat_lit 549, ob3_549 P), (nat_lit 550, ob3_550 P), (nat_lit 551, ob3_551 P), (nat_lit 552, ob3_552 P), (nat_lit 553, ob3_553 P), (nat_lit 554, ob3_554 P), (nat_lit 555, ob3_555 P), (nat_lit 556, ob3_556 P), (nat_lit 557, ob3_557 P), (nat_lit 558, ob3_558 P), (nat_lit 559, ob3_559 P), (nat_lit 560, ob3_560 P), (nat_lit 561, ob3_561 P), (nat_lit 562, ob3_562 P), (nat_lit 563, ob3_563 P), (nat_lit 564, ob3_564 P), (nat_lit 565, ob3_565 P), (nat_lit 566, ob3_566 P), (nat_lit 567, ob3_567 P), (nat_lit 568, ob3_568 P), (nat_lit 569, ob3_569 P), (nat_lit 570, ob3_570 P), (nat_lit 571, ob3_571 P), (nat_lit 572, ob3_572 P), (nat_lit 573, ob3_573 P), (nat_lit 574, ob3_574 P), (nat_lit 575, ob3_575 P), (nat_lit 576, ob3_576 P), (nat_lit 577, ob3_577 P), (nat_lit 578, ob3_578 P), (nat_lit 579, ob3_579 P), (nat_lit 580, ob3_580 P), (nat_lit 581, ob3_581 P), (nat_lit 582, ob3_582 P), (nat_lit 583, ob3_583 P), (nat_lit 584, ob3_584 P), (nat_lit 585, ob3_585 P), (nat_lit 586, ob3_586 P), (nat_lit 587, ob3_587 P), (nat_lit 588, ob3_588 P), (nat_lit 589, ob3_589 P), (nat_lit 590, ob3_590 P), (nat_lit 591, ob3_591 P), (nat_lit 592, ob3_592 P), (nat_lit 593, ob3_593 P), (nat_lit 594, ob3_594 P), (nat_lit 595, ob3_595 P), (nat_lit 596, ob3_596 P), (nat_lit 597, ob3_597 P), (nat_lit 598, ob3_598 P), (nat_lit 599, ob3_599 P), (nat_lit 600, ob3_600 P), (nat_lit 601, ob3_601 P), (nat_lit 602, ob3_602 P), (nat_lit 603, ob3_603 P), (nat_lit 604, ob3_604 P), (nat_lit 605, ob3_605 P), (nat_lit 606, ob3_606 P), (nat_lit 607, ob3_607 P), (nat_lit 608, ob3_608 P), (nat_lit 609, ob3_609 P), (nat_lit 610, ob3_610 P), (nat_lit 611, ob3_611 P), (nat_lit 612, ob3_612 P), (nat_lit 613, ob3_613 P), (nat_lit 614, ob3_614 P), (nat_lit 615, ob3_615 P), (nat_lit 616, ob3_616 P), (nat_lit 617, ob3_617 P), (nat_lit 618, ob3_618 P), (nat_lit 619, ob3_619 P), (nat_lit 620, ob3_620 P), (nat_lit 621, ob3_621 P), (nat_lit 622, ob3_622 P), (nat_lit 623, ob3_623 P), (nat_lit 624, ob3_624 P), (nat_lit 625, ob3_625 P), (nat_lit 626, ob3_626 P), (nat_lit 627, ob3_627 P), (nat_lit 628, ob3_628 P), (nat_lit 629, ob3_629 P), (nat_lit 630, ob3_630 P), (nat_lit 631, ob3_631 P), (nat_lit 632, ob3_632 P), (nat_lit 633, ob3_633 P), (nat_lit 634, ob3_634 P), (nat_lit 635, ob3_635 P), (nat_lit 636, ob3_636 P), (nat_lit 637, ob3_637 P), (nat_lit 638, ob3_638 P), (nat_lit 639, ob3_639 P), (nat_lit 640, ob3_640 P), (nat_lit 641, ob3_641 P), (nat_lit 642, ob3_642 P), (nat_lit 643, ob3_643 P), (nat_lit 644, ob3_644 P), (nat_lit 645, ob3_645 P), (nat_lit 646, ob3_646 P), (nat_lit 647, ob3_647 P), (nat_lit 648, ob3_648 P), (nat_lit 649, ob3_649 P), (nat_lit 650, ob3_650 P), (nat_lit 651, ob3_651 P), (nat_lit 652, ob3_652 P), (nat_lit 653, ob3_653 P), (nat_lit 654, ob3_654 P), (nat_lit 655, ob3_655 P), (nat_lit 656, ob3_656 P), (nat_lit 657, ob3_657 P), (nat_lit 658, ob3_658 P), (nat_lit 659, ob3_659 P), (nat_lit 660, ob3_660 P), (nat_lit 661, ob3_661 P), (nat_lit 662, ob3_662 P), (nat_lit 663, ob3_663 P), (nat_lit 664, ob3_664 P), (nat_lit 665, ob3_665 P), (nat_lit 666, ob3_666 P), (nat_lit 667, ob3_667 P), (nat_lit 668, ob3_668 P), (nat_lit 669, ob3_669 P), (nat_lit 670, ob3_670 P), (nat_lit 671, ob3_671 P), (nat_lit 672, ob3_672 P), (nat_lit 673, ob3_673 P), (nat_lit 674, ob3_674 P), (nat_lit 675, ob3_675 P), (nat_lit 676, ob3_676 P), (nat_lit 677, ob3_677 P), (nat_lit 678, ob3_678 P), (nat_lit 679, ob3_679 P), (nat_lit 680, ob3_680 P), (nat_lit 681, ob3_681 P), (nat_lit 682, ob3_682 P), (nat_lit 683, ob3_683 P), (nat_lit 684, ob3_684 P), (nat_lit 685, ob3_685 P), (nat_lit 686, ob3_686 P), (nat_lit 687, ob3_687 P), (nat_lit 688, ob3_688 P), (nat_lit 689, ob3_689 P), (nat_lit 690, ob3_690 P), (nat_lit 691, ob3_691 P), (nat_lit 692, ob3_692 P), (nat_lit 693, ob3_693 P), (nat_lit 694, ob3_694 P), (nat_lit 695, ob3_695 P), (nat_lit 696, ob3_696 P), (nat_lit 697, ob3_697 P), (nat_lit 698, ob3_698 P), (nat_lit 699, ob3_699 P), (nat_lit 700, ob3_700 P), (nat_lit 701, ob3_701 P), (nat_lit 702, ob3_702 P), (nat_lit 703, ob3_703 P), (nat_lit 704, ob3_704 P), (nat_lit 705, ob3_705 P), (nat_lit 706, ob3_706 P), (nat_lit 707, ob3_707 P), (nat_lit 708, ob3_708 P), (nat_lit 709, ob3_709 P), (nat_lit 710, ob3_710 P), (nat_lit 711, ob3_711 P), (nat_lit 712, ob3_712 P), (nat_lit 713, ob3_713 P), (nat_lit 714, ob3_714 P), (nat_lit 715, ob3_715 P), (nat_lit 716, ob3_716 P), (nat_lit 717, ob3_717 P), (nat_lit 718, ob3_718 P), (nat_lit 719, ob3_719 P), (nat_lit 720, ob3_720 P), (nat_lit 721, ob3_721 P), (nat_lit 722, ob3_722 P), (nat_lit 723, ob3_723 P), (nat_lit 724, ob3_724 P), (nat_lit 725, ob3_725 P), (nat_lit 726, ob3_726 P), (nat_lit 727, ob3_727 P), (nat_lit 728, ob3_728 P), (nat_lit 729, ob3_729 P), (nat_lit 730, ob3_730 P), (nat_lit 731, ob3_731 P), (nat_lit 732, ob3_732 P), (nat_lit 733, ob3_733 P), (nat_lit 734, ob3_734 P), (nat_lit 735, ob3_735 P), (nat_lit 736, ob3_736 P), (nat_lit 737, ob3_737 P), (nat_lit 738, ob3_738 P), (nat_lit 739, ob3_739 P), (nat_lit 740, ob3_740 P), (nat_lit 741, ob3_741 P), (nat_lit 742, ob3_742 P), (nat_lit 743, ob3_743 P), (nat_lit 744, ob3_744 P), (nat_lit 745, ob3_745 P), (nat_lit 746, ob3_746 P), (nat_lit 747, ob3_747 P), (nat_lit 748, ob3_748 P), (nat_lit 749, ob3_749 P), (nat_lit 750, ob3_750 P), (nat_lit 751, ob3_751 P), (nat_lit 752, ob3_752 P), (nat_lit 753, ob3_753 P), (nat_lit 754, ob3_754 P), (nat_lit 755, ob3_755 P), (nat_lit 756, ob3_756 P), (nat_lit 757, ob3_757 P), (nat_lit 758, ob3_758 P), (nat_lit 759, ob3_759 P), (nat_lit 760, ob3_760 P), (nat_lit 761, ob3_761 P), (nat_lit 762, ob3_762 P), (nat_lit 763, ob3_763 P), (nat_lit 764, ob3_764 P), (nat_lit 765, ob3_765 P), (nat_lit 766, ob3_766 P), (nat_lit 767, ob3_767 P), (nat_lit 768, ob3_768 P), (nat_lit 769, ob3_769 P), (nat_lit 770, ob3_770 P), (nat_lit 771, ob3_771 P), (nat_lit 772, ob3_772 P), (nat_lit 773, ob3_773 P), (nat_lit 774, ob3_774 P), (nat_lit 775, ob3_775 P), (nat_lit 776, ob3_776 P), (nat_lit 777, ob3_777 P), (nat_lit 778, ob3_778 P), (nat_lit 779, ob3_779 P), (nat_lit 780, ob3_780 P), (nat_lit 781, ob3_781 P), (nat_lit 782, ob3_782 P), (nat_lit 783, ob3_783 P), (nat_lit 784, ob3_784 P), (nat_lit 785, ob3_785 P), (nat_lit 786, ob3_786 P), (nat_lit 787, ob3_787 P), (nat_lit 788, ob3_788 P), (nat_lit 789, ob3_789 P), (nat_lit 790, ob3_790 P), (nat_lit 791, ob3_791 P), (nat_lit 792, ob3_792 P), (nat_lit 793, ob3_793 P), (nat_lit 794, ob3_794 P), (nat_lit 795, ob3_795 P), (nat_lit 796, ob3_796 P), (nat_lit 797, ob3_797 P), (nat_lit 798, ob3_798 P), (nat_lit 799, ob3_799 P), (nat_lit 800, ob3_800 P), (nat_lit 801, ob3_801 P), (nat_lit 802, ob3_802 P), (nat_lit 803, ob3_803 P), (nat_lit 804, ob3_804 P), (nat_lit 805, ob3_805 P), (nat_lit 806, ob3_806 P), (nat_lit 807, ob3_807 P), (nat_lit 808, ob3_808 P), (nat_lit 809, ob3_809 P), (nat_lit 810, ob3_810 P), (nat_lit 811, ob3_811 P), (nat_lit 812, ob3_812 P), (nat_lit 813, ob3_813 P), (nat_lit 814, ob3_814 P), (nat_lit 815, ob3_815 P), (nat_lit 816, ob3_816 P), (nat_lit 817, ob3_817 P), (nat_lit 818, ob3_818 P), (nat_lit 819, ob3_819 P), (nat_lit 820, ob3_820 P), (nat_lit 821, ob3_821 P), (nat_lit 822, ob3_822 P), (nat_lit 823, ob3_823 P), (nat_lit 824, ob3_824 P), (nat_lit 825, ob3_825 P), (nat_lit 826, ob3_826 P), (nat_lit 827, ob3_827 P), (nat_lit 828, ob3_828 P), (nat_lit 829, ob3_829 P), (nat_lit 830, ob3_830 P), (nat_lit 831, ob3_831 P), (nat_lit 832, ob3_832 P), (nat_lit 833, ob3_833 P), (nat_lit 834, ob3_834 P), (nat_lit 835, ob3_835 P), (nat_lit 836, ob3_836 P), (nat_lit 837, ob3_837 P), (nat_lit 838, ob3_838 P), (nat_lit 839, ob3_839 P), (nat_lit 840, ob3_840 P), (nat_lit 841, ob3_841 P), (nat_lit 842, ob3_842 P), (nat_lit 843, ob3_843 P), (nat_lit 844, ob3_844 P), (nat_lit 845, ob3_845 P), (nat_lit 846, ob3_846 P), (nat_lit 847, ob3_847 P), (nat_lit 848, ob3_848 P), (nat_lit 849, ob3_849 P), (nat_lit 850, ob3_850 P), (nat_lit 851, ob3_851 P), (nat_lit 852, ob3_852 P), (nat_lit 853, ob3_853 P), (nat_lit 854, ob3_854 P), (nat_lit 855, ob3_855 P), (nat_lit 856, ob3_856 P), (nat_lit 857, ob3_857 P), (nat_lit 858, ob3_858 P), (nat_lit 859, ob3_859 P), (nat_lit 860, ob3_860 P), (nat_lit 861, ob3_861 P), (nat_lit 862, ob3_862 P), (nat_lit 863, ob3_863 P), (nat_lit 864, ob3_864 P), (nat_lit 865, ob3_865 P), (nat_lit 866, ob3_866 P), (nat_lit 867, ob3_867 P), (nat_lit 868, ob3_868 P), (nat_lit 869, ob3_869 P), (nat_lit 870, ob3_870 P), (nat_lit 871, ob3_871 P), (nat_lit 872, ob3_872 P), (nat_lit 873, ob3_873 P), (nat_lit 874, ob3_874 P), (nat_lit 875, ob3_875 P), (nat_lit 876, ob3_876 P), (nat_lit 877, ob3_877 P), (nat_lit 878, ob3_878 P), (nat_lit 879, ob3_879 P), (nat_lit 880, ob3_880 P), (nat_lit 881, ob3_881 P), (nat_lit 882, ob3_882 P), (nat_lit 883, ob3_883 P), (nat_lit 884, ob3_884 P), (nat_lit 885, ob3_885 P), (nat_lit 886, ob3_886 P), (nat_lit 887, ob3_887 P), (nat_lit 888, ob3_888 P), (nat_lit 889, ob3_889 P), (nat_lit 890, ob3_890 P), (nat_lit 891, ob3_891 P), (nat_lit 892, ob3_892 P), (nat_lit 893, ob3_893 P), (nat_lit 894, ob3_894 P), (nat_lit 895, ob3_895 P), (nat_lit 896, ob3_896 P), (nat_lit 897, ob3_897 P), (nat_lit 898, ob3_898 P), (nat_lit 899, ob3_899 P), (nat_lit 900, ob3_900 P), (nat_lit 901, ob3_901 P), (nat_lit 902, ob3_902 P), (nat_lit 903, ob3_903 P), (nat_lit 904, ob3_904 P), (nat_lit 905, ob3_905 P), (nat_lit 906, ob3_906 P), (nat_lit 907, ob3_907 P), (nat_lit 908, ob3_908 P), (nat_lit 909, ob3_909 P), (nat_lit 910, ob3_910 P), (nat_lit 911, ob3_911 P), (nat_lit 912, ob3_912 P), (nat_lit 913, ob3_913 P), (nat_lit 914, ob3_914 P), (nat_lit 915, ob3_915 P), (nat_lit 916, ob3_916 P), (nat_lit 917, ob3_917 P), (nat_lit 918, ob3_918 P), (nat_lit 919, ob3_919 P), (nat_lit 920, ob3_920 P), (nat_lit 921, ob3_921 P), (nat_lit 922, ob3_922 P), (nat_lit 923, ob3_923 P), (nat_lit 924, ob3_924 P), (nat_lit 925, ob3_925 P), (nat_lit 926, ob3_926 P), (nat_lit 927, ob3_927 P), (nat_lit 928, ob3_928 P), (nat_lit 929, ob3_929 P), (nat_lit 930, ob3_930 P), (nat_lit 931, ob3_931 P), (nat_lit 932, ob3_932 P), (nat_lit 933, ob3_933 P), (nat_lit 934, ob3_934 P), (nat_lit 935, ob3_935 P), (nat_lit 936, ob3_936 P), (nat_lit 937, ob3_937 P), (nat_lit 938, ob3_938 P), (nat_lit 939, ob3_939 P), (nat_lit 940, ob3_940 P), (nat_lit 941, ob3_941 P), (nat_lit 942, ob3_942 P), (nat_lit 943, ob3_943 P), (nat_lit 944, ob3_944 P), (nat_lit 945, ob3_945 P), (nat_lit 946, ob3_946 P), (nat_lit 947, ob3_947 P), (nat_lit 948, ob3_948 P), (nat_lit 949, ob3_949 P), (nat_lit 950, ob3_950 P), (nat_lit 951, ob3_951 P), (nat_lit 952, ob3_952 P), (nat_lit 953, ob3_953 P), (nat_lit 954, ob3_954 P), (nat_lit 955, ob3_955 P), (nat_lit 956, ob3_956 P), (nat_lit 957, ob3_957 P), (nat_lit 958, ob3_958 P), (nat_lit 959, ob3_959 P), (nat_lit 960, ob3_960 P), (nat_lit 961, ob3_961 P), (nat_lit 962, ob3_962 P), (nat_lit 963, ob3_963 P), (nat_lit 964, ob3_964 P), (nat_lit 965, ob3_965 P), (nat_lit 966, ob3_966 P), (nat_lit 967, ob3_967 P), (nat_lit 968, ob3_968 P), (nat_lit 969, ob3_969 P), (nat_lit 970, ob3_970 P), (nat_lit 971, ob3_971 P), (nat_lit 972, ob3_972 P), (nat_lit 973, ob3_973 P), (nat_lit 974, ob3_974 P), (nat_lit 975, ob3_975 P), (nat_lit 976, ob3_976 P), (nat_lit 977, ob3_977 P), (nat_lit 978, ob3_978 P), (nat_lit 979, ob3_979 P), (nat_lit 980, ob3_980 P), (nat_lit 981, ob3_981 P), (nat_lit 982, ob3_982 P), (nat_lit 983, ob3_983 P), (nat_lit 984, ob3_984 P), (nat_lit 985, ob3_985 P), (nat_lit 986, ob3_986 P), (nat_lit 987, ob3_987 P), (nat_lit 988, ob3_988 P), (nat_lit 989, ob3_989 P), (nat_lit 990, ob3_990 P), (nat_lit 991, ob3_991 P), (nat_lit 992, ob3_992 P), (nat_lit 993, ob3_993 P), (nat_lit 994, ob3_994 P), (nat_lit 995, ob3_995 P), (nat_lit 996, ob3_996 P), (nat_lit 997, ob3_997 P), (nat_lit 998, ob3_998 P), (nat_lit 999, ob3_999 P), (nat_lit 1000, ob3_1000 P), (nat_lit 1001, ob3_1001 P), (nat_lit 1002, ob3_1002 P), (nat_lit 1003, ob3_1003 P), (nat_lit 1004, ob3_1004 P), (nat_lit 1005, ob3_1005 P), (nat_lit 1006, ob3_1006 P), (nat_lit 1007, ob3_1007 P), (nat_lit 1008, ob3_1008 P), (nat_lit 1009, ob3_1009 P), (nat_lit 1010, ob3_1010 P), (nat_lit 1011, ob3_1011 P), (nat_lit 1012, ob3_1012 P), (nat_lit 1013, ob3_1013 P), (nat_lit 1014, ob3_1014 P), (nat_lit 1015, ob3_1015 P), (nat_lit 1016, ob3_1016 P), (nat_lit 1017, ob3_1017 P), (nat_lit 1018, ob3_1018 P), (nat_lit 1019, ob3_1019 P), (nat_lit 1020, ob3_1020 P), (nat_lit 1021, ob3_1021 P), (nat_lit 1022, ob3_1022 P), (nat_lit 1023, ob3_1023 P), (nat_lit 1024, ob3_1024 P), (nat_lit 1025, ob3_1025 P), (nat_lit 1026, ob3_1026 P), (nat_lit 1027, ob3_1027 P), (nat_lit 1028, ob3_1028 P), (nat_lit 1029, ob3_1029 P), (nat_lit 1030, ob3_1030 P), (nat_lit 1031, ob3_1031 P), (nat_lit 1032, ob3_1032 P), (nat_lit 1033, ob3_1033 P), (nat_lit 1034, ob3_1034 P), (nat_lit 1035, ob3_1035 P), (nat_lit 1036, ob3_1036 P), (nat_lit 1037, ob3_1037 P), (nat_lit 1038, ob3_1038 P), (nat_lit 1039, ob3_1039 P), (nat_lit 1040, ob3_1040 P), (nat_lit 1041, ob3_1041 P), (nat_lit 1042, ob3_1042 P), (nat_lit 1043, ob3_1043 P), (nat_lit 1044, ob3_1044 P), (nat_lit 1045, ob3_1045 P), (nat_lit 1046, ob3_1046 P), (nat_lit 1047, ob3_1047 P), (nat_lit 1048, ob3_1048 P), (nat_lit 1049, ob3_1049 P), (nat_lit 1050, ob3_1050 P), (nat_lit 1051, ob3_1051 P), (nat_lit 1052, ob3_1052 P), (nat_lit 1053, ob3_1053 P), (nat_lit 1054, ob3_1054 P), (nat_lit 1055, ob3_1055 P), (nat_lit 1056, ob3_1056 P), (nat_lit 1057, ob3_1057 P), (nat_lit 1058, ob3_1058 P), (nat_lit 1059, ob3_1059 P), (nat_lit 1060, ob3_1060 P), (nat_lit 1061, ob3_1061 P), (nat_lit 1062, ob3_1062 P), (nat_lit 1063, ob3_1063 P), (nat_lit 1064, ob3_1064 P), (nat_lit 1065, ob3_1065 P), (nat_lit 1066, ob3_1066 P), (nat_lit 1067, ob3_1067 P), (nat_lit 1068, ob3_1068 P), (nat_lit 1069, ob3_1069 P), (nat_lit 1070, ob3_1070 P), (nat_lit 1071, ob3_1071 P), (nat_lit 1072, ob3_1072 P), (nat_lit 1073, ob3_1073 P), (nat_lit 1074, ob3_1074 P), (nat_lit 1075, ob3_1075 P), (nat_lit 1076, ob3_1076 P), (nat_lit 1077, ob3_1077 P), (nat_lit 1078, ob3_1078 P), (nat_lit 1079, ob3_1079 P), (nat_lit 1080, ob3_1080 P), (nat_lit 1081, ob3_1081 P), (nat_lit 1082, ob3_1082 P), (nat_lit 1083, ob3_1083 P), (nat_lit 1084, ob3_1084 P), (nat_lit 1085, ob3_1085 P), (nat_lit 1086, ob3_1086 P), (nat_lit 1087, ob3_1087 P), (nat_lit 1088, ob3_1088 P), (nat_lit 1089, ob3_1089 P), (nat_lit 1090, ob3_1090 P), (nat_lit 1091, ob3_1091 P), (nat_lit 1092, ob3_1092 P), (nat_lit 1093, ob3_1093 P), (nat_lit 1094, ob3_1094 P), (nat_lit 1095, ob3_1095 P), (nat_lit 1096, ob3_1096 P), (nat_lit 1097, ob3_1097 P), (nat_lit 1098, ob3_1098 P), (nat_lit 1099, ob3_1099 P), (nat_lit 1100, ob3_1100 P), (nat_lit 1101, ob3_1101 P), (nat_lit 1102, ob3_1102 P), (nat_lit 1103, ob3_1103 P), (nat_lit 1104, ob3_1104 P), (nat_lit 1105, ob3_1105 P), (nat_lit 1106, ob3_1106 P), (nat_lit 1107, ob3_1107 P), (nat_lit 1108, ob3_1108 P), (nat_lit 1109, ob3_1109 P), (nat_lit 1110, ob3_1110 P), (nat_lit 1111, ob3_1111 P), (nat_lit 1112, ob3_1112 P), (nat_lit 1113, ob3_1113 P), (nat_lit 1114, ob3_1114 P), (nat_lit 1115, ob3_1115 P), (nat_lit 1116, ob3_1116 P), (nat_lit 1117, ob3_1117 P), (nat_lit 1118, ob3_1118 P), (nat_lit 1119, ob3_1119 P), (nat_lit 1120, ob3_1120 P), (nat_lit 1121, ob3_1121 P), (nat_lit 1122, ob3_1122 P), (nat_lit 1123, ob3_1123 P), (nat_lit 1124, ob3_1124 P), (nat_lit 1125, ob3_1125 P), (nat_lit 1126, ob3_1126 P), (nat_lit 1127, ob3_1127 P), (nat_lit 1128, ob3_1128 P), (nat_lit 1129, ob3_1129 P), (nat_lit 1130, ob3_1130 P), (nat_lit 1131, ob3_1131 P), (nat_lit 1132, ob3_1132 P), (nat_lit 1133, ob3_1133 P), (nat_lit 1134, ob3_1134 P), (nat_lit 1135, ob3_1135 P), (nat_lit 1136, ob3_1136 P), (nat_lit 1137, ob3_1137 P), (nat_lit 1138, ob3_1138 P), (nat_lit 1139, ob3_1139 P), (nat_lit 1140, ob3_1140 P), (nat_lit 1141, ob3_1141 P), (nat_lit 1142, ob3_1142 P), (nat_lit 1143, ob3_1143 P), (nat_lit 1144, ob3_1144 P), (nat_lit 1145, ob3_1145 P), (nat_lit 1146, ob3_1146 P), (nat_lit 1147, ob3_1147 P), (nat_lit 1148, ob3_1148 P), (nat_lit 1149, ob3_1149 P), (nat_lit 1150, ob3_1150 P), (nat_lit 1151, ob3_1151 P), (nat_lit 1152, ob3_1152 P), (nat_lit 1153, ob3_1153 P), (nat_lit 1154, ob3_1154 P), (nat_lit 1155, ob3_1155 P), (nat_lit 1156, ob3_1156 P), (nat_lit 1157, ob3_1157 P), (nat_lit 1158, ob3_1158 P), (nat_lit 1159, ob3_1159 P), (nat_lit 1160, ob3_1160 P), (nat_lit 1161, ob3_1161 P), (nat_lit 1162, ob3_1162 P), (nat_lit 1163, ob3_1163 P), (nat_lit 1164, ob3_1164 P), (nat_lit 1165, ob3_1165 P), (nat_lit 1166, ob3_1166 P), (nat_lit 1167, ob3_1167 P), (nat_lit 1168, ob3_1168 P), (nat_lit 1169, ob3_1169 P), (nat_lit 1170, ob3_1170 P), (nat_lit 1171, ob3_1171 P), (nat_lit 1172, ob3_1172 P), (nat_lit 1173, ob3_1173 P), (nat_lit 1174, ob3_1174 P), (nat_lit 1175, ob3_1175 P), (nat_lit 1176, ob3_1176 P), (nat_lit 1177, ob3_1177 P), (nat_lit 1178, ob3_1178 P), (nat_lit 1179, ob3_1179 P), (nat_lit 1180, ob3_1180 P), (nat_lit 1181, ob3_1181 P), (nat_lit 1182, ob3_1182 P), (nat_lit 1183, ob3_1183 P), (nat_lit 1184, ob3_1184 P), (nat_lit 1185, ob3_1185 P), (nat_lit 1186, ob3_1186 P), (nat_lit 1187, ob3_1187 P), (nat_lit 1188, ob3_1188 P), (nat_lit 1189, ob3_1189 P), (nat_lit 1190, ob3_1190 P), (nat_lit 1191, ob3_1191 P), (nat_lit 1192, ob3_1192 P), (nat_lit 1193, ob3_1193 P), (nat_lit 1194, ob3_1194 P), (nat_lit 1195, ob3_1195 P), (nat_lit 1196, ob3_1196 P), (nat_lit 1197, ob3_1197 P), (nat_lit 1198, ob3_1198 P), (nat_lit 1199, ob3_1199 P), (nat_lit 1200, ob3_1200 P), (nat_lit 1201, ob3_1201 P), (nat_lit 1202, ob3_1202 P), (nat_lit 1203, ob3_1203 P)] (tr2 P)
noncomputable def S3 (w : World) (os : OsState) : SharedT := ⟨tr3 w.params, nat_lit 1204, lifeH, #[], drawnH, nat_lit 1806, os⟩
theorem startH (w : World) : Starts atH RH.prog S0 S1 w := ⟨by kernel_rfl, fun os => by kernel_rfl, fun os => by kernel_rfl⟩
theorem goes2F (w : World) : Goes atH RH.prog 4873 (List.take 53 (behindTheImports RH.prog)) S1 S2 atH.pb (PySem.Pos.mk 222 0 249 86) (w.withFollow "special-get-raises" false) := by
  intro os
  kernel_rfl
theorem goes2T (w : World) : Goes atH RH.prog 4873 (List.take 53 (behindTheImports RH.prog)) S1 S2 atH.pb (PySem.Pos.mk 222 0 249 86) (w.withFollow "special-get-raises" true) := by
  intro os
  kernel_rfl
theorem goes2 (w : World) : Goes atH RH.prog 4873 (List.take 53 (behindTheImports RH.prog)) S1 S2 atH.pb (PySem.Pos.mk 222 0 249 86) w := byRow2 "special-get-raises" (P := fun w => Goes atH RH.prog 4873 (List.take 53 (behindTheImports RH.prog)) S1 S2 atH.pb (PySem.Pos.mk 222 0 249 86) w) goes2F goes2T w
theorem goes3 (w : World) : Goes atH RH.prog 4828 (List.take 47 (List.drop 53 (behindTheImports RH.prog))) S2 S3 (PySem.Pos.mk 222 0 249 86) (PySem.Pos.mk 605 0 684 16) w := by
  intro os
  kernel_rfl
theorem join8 {S C L O A1 A2 A3 A4 A5 A6 A7 A8 A9 : Type} (x : Option (S × C)) (f : S → L) (o : S → O) (g : S → A1 × A2 × A3 × A4 × A5 × A6 × A7 × A8 × A9) (c0 : C) (l0 : L) (o0 : O) (y : A1 × A2 × A3 × A4 × A5 × A6 × A7 × A8 × A9)
    (h0 : x.map (fun z => (z.2, f z.1, o z.1, (g z.1).2.2.2.2.1, (g z.1).2.2.2.2.2.1, (g z.1).2.2.1)) = some (c0, l0, o0, y.2.2.2.2.1, y.2.2.2.2.2.1, y.2.2.1))
    (h1 : x.map (fun z => ((g z.1).1, (g z.1).2.1)) = some (y.1, y.2.1))
    (h2 : x.map (fun z => ((g z.1).2.2.2.1)) = some (y.2.2.2.1))
    (h3 : x.map (fun z => ((g z.1).2.2.2.2.2.2.1, (g z.1).2.2.2.2.2.2.2.1, (g z.1).2.2.2.2.2.2.2.2)) = some (y.2.2.2.2.2.2.1, y.2.2.2.2.2.2.2.1, y.2.2.2.2.2.2.2.2))
    : x.map (fun z => (z.2, f z.1, g z.1, o z.1)) = some (c0, l0, y, o0) := by
  cases x with
  | none => cases h0
  | some s =>
    obtain ⟨s, c⟩ := s
    simp only [Option.map_some, Option.some.injEq, Prod.mk.injEq] at h0 h1 h2 h3 ⊢
    generalize g s = z at h0 h1 h2 h3 ⊢
    obtain ⟨z1, z2, z3, z4, z5, z6, z7, z8, z9⟩ := z
    obtain ⟨y1, y2, y3, y4, y5, y6, y7, y8, y9⟩ := y
    simp_all
noncomputable abbrev endH (w : World) (os : OsState) : Option (SharedT × Code) := endP (stQ RH.prog w) atH RH.prog (HandSHeadRun.bootAnn w) 377 (S3 w os) (List.drop 47 (List.drop 53 (behindTheImports RH.prog))) (PySem.Pos.mk 605 0 684 16)
noncomputable abbrev snH (s : SharedT) := HandSHeadRun.seenQ qH looseH (importedModules RH.prog.main.body) (fun s => W.xlAt qH [] s && W.recOk RH.records s) s.abs
noncomputable abbrev gdH := W.openGood qH looseH
def lwH : List Str := [oS "KEY_BOUND", oS "PIECE", oS "MOST_WEIGHT", oS "WORDS", oS "WeightRule", oS "TurnRule", oS "TryRule", oS "Reading", oS "Parts", oS "Tree"]
theorem lfH : W.Fast.tw821141287760084731 qH looseH = lwH := by kernel_rfl
theorem lgH : W.looseW qH looseH = lwH := by kernel_rfl
theorem runL0 (w : World) (os : OsState) : (endH w os).map (fun z => (z.2, HandSHeadRun.looksF RH.prog (W.boot_heap w.params) z.1.abs, obH z.1, (snH z.1).2.2.2.2.1, (snH z.1).2.2.2.2.2.1, (snH z.1).2.2.1)) = some (atH.code RH.prog, true, hkH.val w, gdH.2.2.2.2.1, gdH.2.2.2.2.2.1, gdH.2.2.1) := by
  dsimp only [snH, gdH, HandSHeadRun.seenQ, W.Fast.tw4187177175401517315, W.openGood]
  try simp only [lfH, lgH]
  kernel_rfl
theorem runL1 (w : World) (os : OsState) : (endH w os).map (fun z => ((snH z.1).1, (snH z.1).2.1)) = some (gdH.1, gdH.2.1) := by
  dsimp only [snH, gdH, HandSHeadRun.seenQ, W.Fast.tw4187177175401517315, W.openGood]
  try simp only [lfH, lgH]
  kernel_rfl
theorem runL2 (w : World) (os : OsState) : (endH w os).map (fun z => ((snH z.1).2.2.2.1)) = some (gdH.2.2.2.1) := by
  dsimp only [snH, gdH, HandSHeadRun.seenQ, W.Fast.tw4187177175401517315, W.openGood]
  try simp only [lfH, lgH]
  kernel_rfl
theorem runL3 (w : World) (os : OsState) : (endH w os).map (fun z => ((snH z.1).2.2.2.2.2.2.1, (snH z.1).2.2.2.2.2.2.2.1, (snH z.1).2.2.2.2.2.2.2.2)) = some (gdH.2.2.2.2.2.2.1, gdH.2.2.2.2.2.2.2.1, gdH.2.2.2.2.2.2.2.2) := by
  dsimp only [snH, gdH, HandSHeadRun.seenQ, W.Fast.tw4187177175401517315, W.openGood]
  try simp only [lfH, lgH]
  kernel_rfl
theorem runL (w : World) : SeesAt RH atH qH hkH obH 377 looseH S3 (List.drop 47 (List.drop 53 (behindTheImports RH.prog))) (PySem.Pos.mk 605 0 684 16) w := by
  intro os
  exact join8 (endH w os) (fun s => HandSHeadRun.looksF RH.prog (W.boot_heap w.params) s.abs) obH snH (atH.code RH.prog) true (hkH.val w) gdH (runL0 w os) (runL1 w os) (runL2 w os) (runL3 w os)
theorem endsH (w : World) : EndsAt RH qH hkH looseH (12 + (1 + (4873 + (4828 + (377 + 60))))) w := by
  intro os
  obtain ⟨s, e, l1, l2, l3⟩ := sees_run obH_eq (runL w) os
  refine ⟨s, ?_, l1, l2, l3⟩
  have e := cut_at ((goes3 w).seg os) e
  have e := cut_at ((goes2 w).seg os) e
  exact ((startH w).top os e).2
theorem hd (walk : WalkO qH looseH (XL qH []) (kHook Kh asH ekH).says RH.toRowW (HandSHeadRun.topDef RH.prog 112) [] fun f vs => PySem.call f vs) : PySem.Challenge.rw_evenrules_k63_whole_trees_come_to_by_put.Holds := by
  w_on
  o_law
  refine head_by (r := RH) (q := qH) (H := hkH) (M := 12 + (1 + (4873 + (4828 + (377 + 60))))) (loose := looseH) (kwd := []) (by kernel_rfl) (fun s => by kernel_rfl) endsH (by kernel_rfl) (by kernel_rfl) (by kernel_rfl) (by rfl) (by first | assumption | decide +kernel) (by decide +kernel) ⟨rfl, rfl, rfl, rfl, rfl, by decide +kernel⟩ ?hw walk
  w_witness2
end Ev
end
namespace Ev
open PySem L2
/-- all that was tracked is as it was, but at p -/
def But (p : Addr) (H H' : Hp) : Prop := ∀ b o, b ≠ p → H b = some o → H' b = some o
theorem But.refl (p : Addr) (H : Hp) : But p H H := fun _ _ _ e => e
theorem But.trans {p : Addr} {H H1 H2 : Hp} (a : But p H H1) (b : But p H1 H2) : But p H H2 := fun c o n e => b c o n (a c o n e)
theorem Same.but {p : Addr} {H H' : Hp} (a : Same H H') : But p H H' := fun c o _ e => a c o e
theorem But.upd_new {p q : Addr} {H : Hp} {o : HO} (h : H q = none) : But p H (upd H q o) := fun b u _ e => by
  rw [upd_ne (ne_of_none e h)]; exact e
theorem But.upd_at {p : Addr} {H : Hp} {o : HO} : But p H (upd H p o) := fun b u n e => by
  rw [upd_ne n]; exact e
/-- the pen: a list of a list of ints, how often it was asked, and a rest -/
def Pen (L : Addr) (H : Hp) (p : Addr) (B : Int) : Prop := ∃ (ns : List Int) (turn carry : Int),
  H p = some (.lst [.ref L, .int turn, .int carry]) ∧ H L = some (.lst (ns.map V.int)) ∧ L ≠ p ∧ ns.length ≤ 63 ∧ 0 ≤ turn ∧ turn ≤ B ∧ 0 ≤ carry
theorem Pen.keep {L : Addr} {H H' : Hp} {p : Addr} {B : Int} (h : Pen L H p B) (k : Same H H') : Pen L H' p B := by
  obtain ⟨ns, t, c, h1, h2, h3, h4, h5, h6, h7⟩ := h
  exact ⟨ns, t, c, k _ _ h1, k _ _ h2, h3, h4, h5, h6, h7⟩
theorem Pen.mono {L : Addr} {H : Hp} {p : Addr} {B B' : Int} (h : Pen L H p B) (k : B ≤ B') : Pen L H p B' := by
  obtain ⟨ns, t, c, h1, h2, h3, h4, h5, h6, h7⟩ := h
  exact ⟨ns, t, c, h1, h2, h3, h4, h5, by omega, h7⟩
def spDraw : Sp := fun vs H Q _ => ∃ (p L : Addr) (m B : Int), vs = [.ref p, .int m] ∧ 1 ≤ m ∧ m ≤ 100000000000000000000000000000 ∧ B ≤ 1000000 ∧ Pen L H p B ∧
  ∀ (d : Int) (H' : Hp), But p H H' → Pen L H' p (B + 1) → 0 ≤ d → d < m → Q (.int d) H'
theorem dpInts {K : PySem.W.Frag} {H : Hp} : ∀ ns : List Int, DpAll K H (ns.map V.int) (ns.map PyData.int)
  | [] => .nil
  | n :: r => .cons (.int n) (dpInts r)
theorem sh_ints (ns : List Int) : SeqAt.shaped (.list (ns.map PyData.int)) = true := by
  have h1 : ∀ ns : List Int, PyData.canLayAll0 (ns.map PyData.int) = true := by
    intro ns
    induction ns with
    | nil => rfl
    | cons n r ih => simp [PyData.canLayAll0, PyData.canLay0, ih]
  have h2 : ∀ ns : List Int, PyData.depthAll (ns.map PyData.int) ≤ 1 := by
    intro ns
    induction ns with
    | nil => simp [PyData.depthAll]
    | cons n r ih => simp [PyData.depthAll, PyData.depth]; omega
  unfold SeqAt.shaped
  rw [Bool.and_eq_true]
  refine ⟨by simp [PyData.canLay0, h1], decide_eq_true ?_⟩
  have := h2 ns
  simp [PyData.depth]; omega
theorem eqv_nil (ns : List Int) : PyData.eqv (.list (ns.map PyData.int)) (.list []) = ns.isEmpty := by
  cases ns <;> simp [PyData.eqv, PyData.eqvAll]
section
variable {P : Program} {w : World} {K : PySem.W.Frag} {mg : Str → Option Value} {base : Heap}
/-- built-ins that the program does not cover -/
structure Blt (mg : Str → Option Value) : Prop where
  int : mg "int" = none
  len : mg "len" = none
  abs : mg "abs" = none
  list : mg "list" = none
  min : mg "min" = none
  max : mg "max" = none
  isi : mg "isinstance" = none
  bool : mg "bool" = none
  tuple : mg "tuple" = none
  all : mg "all" = none
  range : mg "range" = none
  repr : mg "repr" = none
theorem scD : FnScope ["_law_pen_here", "_law_many", "_law_digit", "_law_at", "_law_cell", "_law_great", "_law_mixed"] ["_law_pen_here", "_law_many"] (defScope sDraw) := ⟨rfl, rfl, rfl, by decide +kernel, rfl, by decide +kernel, by decide +kernel⟩
theorem fmod_lo (a : Int) {m : Int} (h : 1 ≤ m) : 0 ≤ a.fmod m := by rw [Int.fmod_eq_emod_of_nonneg a (by omega)]; exact Int.emod_nonneg a (by omega)
theorem fmod_hi (a : Int) {m : Int} (h : 1 ≤ m) : a.fmod m < m := by rw [Int.fmod_eq_emod_of_nonneg a (by omega)]; exact Int.emod_lt_of_pos a (by omega)
theorem fdiv_lo {a m : Int} (h : 1 ≤ m) (h0 : 0 ≤ a) : 0 ≤ a.fdiv m := by rw [Int.fdiv_eq_ediv_of_nonneg a (by omega)]; exact Int.ediv_nonneg h0 (by omega)
theorem cell_at {ns : List Int} (h : ns ≠ []) (t : Int) : ∃ c : Int, atI (ns.map V.int) (t.fmod (((ns.map V.int).length : Nat) : Int)) = some (V.int c) := by
  rw [List.length_map]
  have l : 0 < ns.length := List.length_pos_iff.mpr h
  have h1 : 0 ≤ t.fmod (ns.length : Int) := fmod_lo t (by omega)
  have h2 : t.fmod (ns.length : Int) < ns.length := fmod_hi t (by omega)
  generalize t.fmod (ns.length : Int) = i at h1 h2
  obtain ⟨j, rfl⟩ := Int.eq_ofNat_of_zero_le h1
  have hj : j < ns.length := by omega
  exact ⟨ns[j], atI_nat (by rw [List.getElem?_map, List.getElem?_eq_getElem hj]; rfl)⟩
theorem mul_le_of {a b A B : Int} (a0 : 0 ≤ a) (b0 : 0 ≤ b) (ha : a ≤ A) (hb : b ≤ B) : 0 ≤ a * b ∧ a * b ≤ A * B :=
  ⟨Int.mul_nonneg a0 b0, Int.mul_le_mul ha hb b0 (by omega)⟩
theorem bound1 (c : Int) {M C D t : Int} (hM : 1 ≤ M) (hM2 : M ≤ 4294967296) (hC : 0 ≤ C ∧ C ≤ 1000000) (hD : 0 ≤ D ∧ D ≤ 1000000) (h0 : 0 ≤ t) (h1 : t ≤ 1000000) : (c.fmod M + C * t + D).natAbs < 2 ^ 64 := by
  have a1 := fmod_lo c hM
  have a2 := fmod_hi c hM
  have ⟨a3, a4⟩ := mul_le_of hC.1 h0 hC.2 h1
  omega
theorem bound2 {x C5 C6 C7 t : Int} (hx : 0 ≤ x ∧ x < 4294967296) (h5 : 0 ≤ C5 ∧ C5 ≤ 1000000) (h6 : 0 ≤ C6 ∧ C6 ≤ 1000000) (h7 : 0 ≤ C7 ∧ C7 ≤ 1000000) (h0 : 0 ≤ t) (h1 : t ≤ 1000000) :
    (x * (2 * t + C5) + C6 * t * t + C7).natAbs < 2 ^ 64 := by
  have ⟨a1, a2⟩ := mul_le_of (b := 2 * t + C5) (A := 4294967296) (B := 3000000) hx.1 (by omega) (by omega) (by omega)
  have ⟨a3, a4⟩ := mul_le_of h6.1 h0 h6.2 h1
  have ⟨a5, a6⟩ := mul_le_of a3 h0 a4 h1
  omega
theorem great_nn {c e : Int} (h : e ≤ (if c < 0 then -c else c)) (b : Bool) : 0 ≤ 2 * ((if c < 0 then -c else c) - e) + (if b = true then 1 else 0) := by
  cases b
  · rw [if_neg Bool.false_ne_true]; omega
  · rw [if_pos rfl]; omega
theorem lt64 {x : Int} (h : 0 ≤ x ∧ x < 4294967296) : -(2 ^ 64) < x ∧ x < 2 ^ 64 := ⟨by omega, by omega⟩
theorem nz {M : Int} (h : 0 < M) : M ≠ 0 := by omega
theorem divW {i m : Int} (h : 1 ≤ m) (h2 : m ≤ 100000000000000000000000000000) : CDivW i m := wide_div (b := 97) (by omega) (by omega) (by decide) (by decide)
theorem ediv_lo {a m : Int} (h : 1 ≤ m) (h0 : 0 ≤ a) : 0 ≤ a / m := Int.ediv_nonneg h0 (by omega)
theorem ok_draw {f : Addr} {fd : FuncData} (F : Fun K "_law_draw" "_law_draw" sDraw f fd) (T : Blt mg) : FnOk P w K mg base CX0 1 f fd ["_law_pen_here", "_law_many"] spDraw := by
  refine F.ok scD (fun vs H Q E h => ?_) (fun cdv A outer s H vs Q E hr h => ?_)
  · obtain ⟨p, L, m, B, rfl, _⟩ := h
    rfl
  · obtain ⟨p, L, m, B, rfl, hm, hm2, hB, ⟨ns, tn, ca, hp, hL, Lp, hlen, t0, tB, c0⟩, k⟩ := h
    have hu := hu_of hr
    refine ⟨_, pss_cons (ps_if (pt_cmpR op_gt (pe_ix ix_list (pv 0) pe_int (fun _ _ => rfl)) pe_int (nomark _))
        (pss_cons (ps_set (i := 2) scD.nd rfl (.inl rfl) (pe_op op_modN (pe_callTy call_int1 (by rfl) T.int (by decide +kernel) (pa_cons (pe_ix ix_list (pv 0) pe_int (fun _ _ => rfl)) pa_nil)) (pv 1)))
        (pss_cons (ps_asg (pe_op op_fdivW (pe_callTy call_int1 (by rfl) T.int (by decide +kernel) (pa_cons (pe_ix ix_list (pv 0) pe_int (fun _ _ => rfl)) pa_nil)) (pv 1)) (pg_sub (pv 0) pe_int set_list))
        (pss_one (ps_ret (pv 2))))) pss_nil)
      (pss_cons (ps_set (i := 3) scD.nd rfl (.inl rfl) (pe_ix ix_list (pv 0) pe_int (fun _ _ => rfl)))
      (pss_cons (ps_asg (pe_op op_add (pv 3) pe_int) (pg_sub (pv 0) pe_int set_list))
      (pss_cons (ps_set (i := 4) scD.nd rfl (.inl rfl) (pe_op op_add (pe_op op_mul pe_int (pv 3)) pe_int))
      (pss_cons (ps_if (pt_cmpR (op_neD hr.units) (pe_ix ix_list (pv 0) pe_int (fun _ _ => rfl)) (pe_lst pa_nil) (nomark _))
        (pss_one (ps_set (i := 4) scD.nd rfl (.inl rfl) (pe_ix ix_list (pe_ix ix_list (pv 0) pe_int (fun _ _ => rfl))
          (pe_op op_modN (pe_callTy call_int1 (by rfl) T.int (by decide +kernel) (pa_cons (pv 3) pa_nil)) (pe_callB call_len_seq (by rfl) T.len PySem.boot_len (pa_cons (pe_ix ix_list (pv 0) pe_int (fun _ _ => rfl)) pa_nil))) (fun _ _ => rfl)))) pss_nil)
      (pss_cons (ps_if (PW.pt (pw_and (pt_cmpR op_lt (pv 3) (pe_callB call_len_seq (by rfl) T.len PySem.boot_len (pa_cons (pe_ix ix_list (pv 0) pe_int (fun _ _ => rfl)) pa_nil)) (nomark _))
          (pw_and1 (pt_cmpR op_ge (pe_callB call_abs (by rfl) T.abs (by decide +kernel) (pa_cons (pv 4) pa_nil)) (pe_op op_pow pe_int pe_int) (nomark _)))))
        (pss_cons (ps_set (i := 5) scD.nd rfl (.inl rfl) (pe_op op_add (pe_op op_mul pe_int (pe_op op_sub (pe_callB call_abs (by rfl) T.abs (by decide +kernel) (pa_cons (pv 4) pa_nil)) (pe_op op_pow pe_int pe_int)))
            (pe_callTy call_int1 (by rfl) T.int (by decide +kernel) (pa_cons (pe_cmpR op_lt (pv 4) pe_int (nomark _)) pa_nil))))
        (pss_cons (ps_asg (pe_op op_fdivW (pe_callTy call_int1 (by rfl) T.int (by decide +kernel) (pa_cons (pv 5) pa_nil)) (pv 1)) (pg_sub (pv 0) pe_int set_list))
        (pss_one (ps_ret (pe_op op_modN (pe_callTy call_int1 (by rfl) T.int (by decide +kernel) (pa_cons (pv 5) pa_nil)) (pv 1)))))) pss_nil)
      (pss_cons (ps_set (i := 6) scD.nd rfl (.inl rfl) (pe_op op_modN (pe_callTy call_int1 (by rfl) T.int (by decide +kernel) (pa_cons (pe_op op_pow (pe_op op_add (pe_op op_add
          (pe_op op_modN (pe_callTy call_int1 (by rfl) T.int (by decide +kernel) (pa_cons (pv 4) pa_nil)) pe_int) (pe_op op_mul pe_int (pv 3))) pe_int) pe_int) pa_nil)) pe_int))
      (pss_cons (ps_set (i := 6) scD.nd rfl (.inl rfl) (pe_op op_modN (pe_callTy call_int1 (by rfl) T.int (by decide +kernel) (pa_cons (pe_op op_pow (pe_op op_add (pe_op op_add
          (pe_op op_mul (pv 6) (pe_op op_add (pe_op op_mul pe_int (pv 3)) pe_int)) (pe_op op_mul (pe_op op_mul pe_int (pv 3)) (pv 3))) pe_int) pe_int) pa_nil)) pe_int))
      (pss_one (ps_ret (pe_op op_modN (pe_callTy call_int1 (by rfl) T.int (by decide +kernel) (pa_cons (pe_op op_fdivN (pv 6) pe_int) pa_nil)) (pv 1))))))))))), ?_⟩
    have i2 : ∀ {a b c : V}, atI [a, b, c] 2 = some c := fun {a b c} => atI_nat (j := 2) rfl
    have i1 : ∀ {a b c : V}, atI [a, b, c] 1 = some b := fun {a b c} => atI_nat (j := 1) rfl
    have i0 : ∀ {a b c : V}, atI [a, b, c] 0 = some a := fun {a b c} => atI_nat (j := 0) rfl
    -- if pen[2] > 0
    refine ⟨_, rfl, p, _, 2, _, rfl, rfl, SqL.of hp, i2, _, _, rfl, rfl, _, rfl, ite2 (fun e => ?_) (fun e => ?_)⟩
    · -- digit
      refine ⟨_, rfl, p, _, 2, _, rfl, rfl, SqL.of hp, i2, .inl ⟨_, rfl, _, rfl, _, _, rfl, rfl, (by omega), ?_⟩⟩
      refine ⟨_, rfl, p, _, 2, _, rfl, rfl, SqL.of hp, i2, .inl ⟨_, rfl, _, rfl, _, _, rfl, rfl, divW hm hm2, _, rfl, p, _, _, 2, rfl, rfl, hp, rfl, ?_⟩⟩
      refine ⟨_, rfl, ?_⟩
      exact k _ _ But.upd_at ⟨ns, tn, _, upd_same, by rw [upd_ne Lp]; exact hL, Lp, hlen, t0, by omega, ediv_lo hm c0⟩ (fmod_lo _ hm) (fmod_hi _ hm)
    · -- turn
      refine ⟨_, rfl, p, _, 1, _, rfl, rfl, SqL.of hp, i1, ?_⟩
      refine ⟨_, rfl, _, _, rfl, rfl, _, rfl, p, _, _, 1, rfl, rfl, hp, rfl, ?_⟩
      have hp1 : upd H p (.lst ([V.ref L, V.int tn, V.int ca].set 1 (V.int (tn + 1)))) p = some (.lst [.ref L, .int (tn + 1), .int ca]) := upd_same
      have hL1 : upd H p (.lst ([V.ref L, V.int tn, V.int ca].set 1 (V.int (tn + 1)))) L = some (.lst (ns.map V.int)) := by rw [upd_ne Lp]; exact hL
      have b1 : But p H (upd H p (.lst ([V.ref L, V.int tn, V.int ca].set 1 (V.int (tn + 1))))) := But.upd_at
      generalize upd H p (.lst ([V.ref L, V.int tn, V.int ca].set 1 (V.int (tn + 1)))) = H1 at hp1 hL1 b1 ⊢
      -- cell = c * turn + c'
      refine ⟨_, rfl, _, _, rfl, rfl, .inl ⟨by decide, by decide⟩, _, _, rfl, rfl, ?_⟩
      -- if pen[0] != []
      refine ⟨_, rfl, p, _, 0, _, rfl, rfl, SqL.of hp1, i0, by decide, fun l hl => ?_⟩
      have n1 : p ≠ l := ne_of_none hp1 hl
      have n2 : L ≠ l := ne_of_none hL1 hl
      have hp2 : upd H1 l (.lst []) p = some (.lst [.ref L, .int (tn + 1), .int ca]) := by rw [upd_ne n1]; exact hp1
      have hL2 : upd H1 l (.lst []) L = some (.lst (ns.map V.int)) := by rw [upd_ne n2]; exact hL1
      have hl2 : upd H1 l (.lst []) l = some (.lst []) := upd_same
      have b2 : But p H (upd H1 l (.lst [])) := b1.trans (But.upd_new hl)
      clear b1 hp1 hL1
      generalize upd H1 l (.lst []) = H2 at hp2 hL2 hl2 b2
      refine ⟨_, _, .lst (SqL.of hL2) (dpInts ns), .lst (SqL.of hl2) .nil, sh_ints ns, sh_ints [], _, rfl, ?_⟩
      rw [eqv_nil]
      -- the rest, for any cell
      have hcell : ∀ c : Int, ∃ j : Int, (if c < 0 then -c else c) = j ∧ 0 ≤ j := fun c => by
        by_cases z : c < 0
        · exact ⟨_, rfl, by rw [if_pos z]; omega⟩
        · exact ⟨_, rfl, by rw [if_neg z]; omega⟩
      have fin : ∀ H' : Hp, H' p = some (.lst [.ref L, .int (tn + 1), .int ca]) → H' L = some (.lst (ns.map V.int)) → But p H H' → Pen L H' p (B + 1) := fun H' e1 e2 _ =>
        ⟨ns, tn + 1, ca, e1, e2, Lp, hlen, by omega, by omega, c0⟩
      have ht : tn ≤ 1000000 := by omega
      have hm6 : 0 ≤ 72019 * tn ∧ 72019 * tn ≤ 72019 * 1000000 := mul_le_of (by decide) t0 (Int.le_refl _) ht
      have hq : ∀ {x m : Int}, 1 ≤ m → m ≤ 4294967296 → 0 ≤ x.fmod m ∧ x.fmod m < 4294967296 := fun {x m} h1 h2 => ⟨fmod_lo x h1, by have := fmod_hi x h1; omega⟩
      cases hn : ns with
      | nil =>
        refine iteF ?_
        refine ⟨_, rfl, _, rfl, p, _, 0, _, rfl, rfl, SqL.of hp2, i0, L, _, rfl, .inl (SqL.of hL2), _, _, rfl, rfl, _, rfl, ite2 (fun e1 => ?_) (fun e1 => ?_)⟩
        · refine ⟨_, rfl, _, rfl, _, _, rfl, rfl, ⟨by decide, by decide, by decide⟩, _, _, rfl, rfl, _, rfl, ite2 (fun e2 => ?_) (fun e2 => ?_)⟩
          · refine ⟨_, rfl, _, rfl, _, _, rfl, rfl, ⟨by decide, by decide, by decide⟩, _, _, rfl, rfl, _, _, rfl, rfl, .inl ⟨by decide, by decide⟩, _, rfl, _, _, rfl, rfl, .inr ⟨_, rfl, _, _, rfl, rfl, ?_⟩⟩
            refine ⟨_, rfl, .inl ⟨_, rfl, _, rfl, _, _, rfl, rfl, divW hm hm2, _, rfl, p, _, _, 2, rfl, rfl, hp2, rfl, ?_⟩⟩
            refine ⟨_, rfl, .inl ⟨_, rfl, _, rfl, _, _, rfl, rfl, (by omega), ?_⟩⟩
            refine k _ _ (b2.trans But.upd_at) ⟨_, tn + 1, _, upd_same, by rw [upd_ne Lp]; exact hL2, Lp, hlen, by omega, by omega, ediv_lo hm ?_⟩ (fmod_lo _ hm) (fmod_hi _ hm)
            have e3 := of_decide_eq_true e2
            exact great_nn e3 _
          · skip
            refine ⟨_, rfl, .inl ⟨_, rfl, _, _, rfl, rfl, nz (by decide), _, rfl, _, _, rfl, rfl, .inl ⟨by decide, by decide⟩, _, _, rfl, rfl, _, _, rfl, rfl, _, _, rfl, rfl, ⟨by decide, by decide, bound1 _ (by decide) (by decide) (by decide) (by decide) t0 ht⟩, .inl ⟨_, rfl, _, _, rfl, rfl, nz (by decide), ?_⟩⟩⟩
            refine ⟨_, rfl, _, rfl, _, _, rfl, rfl, .inl ⟨by decide, by decide⟩, _, _, rfl, rfl, _, _, rfl, rfl, .inl ?_, _, rfl, _, _, rfl, rfl, .inl ⟨by decide, by decide⟩, _, rfl, _, _, rfl, rfl, .inl ?_, _, _, rfl, rfl, _, _, rfl, rfl, _, _, rfl, rfl, ⟨by decide, by decide, ?_⟩, .inl ⟨_, rfl, _, _, rfl, rfl, nz (by decide), ?_⟩⟩
            · exact lt64 (hq (by decide) (by decide))
            · exact ⟨by omega, by omega⟩
            · exact bound2 (hq (by decide) (by decide)) (by decide) (by decide) (by decide) t0 ht
            · refine ⟨_, rfl, _, _, rfl, rfl, ⟨by decide, by decide⟩, .inl ⟨_, rfl, _, rfl, _, _, rfl, rfl, (by omega), ?_⟩⟩
              exact k _ _ b2 (fin _ hp2 hL2 b2) (fmod_lo _ hm) (fmod_hi _ hm)
        · skip
          refine ⟨_, rfl, .inl ⟨_, rfl, _, _, rfl, rfl, nz (by decide), _, rfl, _, _, rfl, rfl, .inl ⟨by decide, by decide⟩, _, _, rfl, rfl, _, _, rfl, rfl, _, _, rfl, rfl, ⟨by decide, by decide, bound1 _ (by decide) (by decide) (by decide) (by decide) t0 ht⟩, .inl ⟨_, rfl, _, _, rfl, rfl, nz (by decide), ?_⟩⟩⟩
          refine ⟨_, rfl, _, rfl, _, _, rfl, rfl, .inl ⟨by decide, by decide⟩, _, _, rfl, rfl, _, _, rfl, rfl, .inl ?_, _, rfl, _, _, rfl, rfl, .inl ⟨by decide, by decide⟩, _, rfl, _, _, rfl, rfl, .inl ?_, _, _, rfl, rfl, _, _, rfl, rfl, _, _, rfl, rfl, ⟨by decide, by decide, ?_⟩, .inl ⟨_, rfl, _, _, rfl, rfl, nz (by decide), ?_⟩⟩
          · exact lt64 (hq (by decide) (by decide))
          · exact ⟨by omega, by omega⟩
          · exact bound2 (hq (by decide) (by decide)) (by decide) (by decide) (by decide) t0 ht
          · refine ⟨_, rfl, _, _, rfl, rfl, ⟨by decide, by decide⟩, .inl ⟨_, rfl, _, rfl, _, _, rfl, rfl, (by omega), ?_⟩⟩
            exact k _ _ b2 (fin _ hp2 hL2 b2) (fmod_lo _ hm) (fmod_hi _ hm)
      | cons n0 nr =>
        refine iteT ?_
        obtain ⟨c, hc⟩ := cell_at (ns := ns) (by rw [hn]; exact List.cons_ne_nil _ _) tn
        refine ⟨_, rfl, p, _, 0, _, rfl, rfl, SqL.of hp2, i0, _, rfl, .inl ⟨_, rfl, _, rfl, p, _, 0, _, rfl, rfl, SqL.of hp2, i0, L, _, rfl, .inl (SqL.of hL2), _, _, rfl, rfl, (by rw [List.length_map, hn, List.length_cons]; omega), L, _, _, _, rfl, rfl, SqL.of hL2, hc, ?_⟩⟩
        refine ⟨_, rfl, _, rfl, p, _, 0, _, rfl, rfl, SqL.of hp2, i0, L, _, rfl, .inl (SqL.of hL2), _, _, rfl, rfl, _, rfl, ite2 (fun e1 => ?_) (fun e1 => ?_)⟩
        · refine ⟨_, rfl, _, rfl, _, _, rfl, rfl, ⟨by decide, by decide, by decide⟩, _, _, rfl, rfl, _, rfl, ite2 (fun e2 => ?_) (fun e2 => ?_)⟩
          · refine ⟨_, rfl, _, rfl, _, _, rfl, rfl, ⟨by decide, by decide, by decide⟩, _, _, rfl, rfl, _, _, rfl, rfl, .inl ⟨by decide, by decide⟩, _, rfl, _, _, rfl, rfl, .inr ⟨_, rfl, _, _, rfl, rfl, ?_⟩⟩
            refine ⟨_, rfl, .inl ⟨_, rfl, _, rfl, _, _, rfl, rfl, divW hm hm2, _, rfl, p, _, _, 2, rfl, rfl, hp2, rfl, ?_⟩⟩
            refine ⟨_, rfl, .inl ⟨_, rfl, _, rfl, _, _, rfl, rfl, (by omega), ?_⟩⟩
            refine k _ _ (b2.trans But.upd_at) ⟨_, tn + 1, _, upd_same, by rw [upd_ne Lp]; exact hL2, Lp, hlen, by omega, by omega, ediv_lo hm ?_⟩ (fmod_lo _ hm) (fmod_hi _ hm)
            have e3 := of_decide_eq_true e2
            exact great_nn e3 _
          · skip
            refine ⟨_, rfl, .inl ⟨_, rfl, _, _, rfl, rfl, nz (by decide), _, rfl, _, _, rfl, rfl, .inl ⟨by decide, by decide⟩, _, _, rfl, rfl, _, _, rfl, rfl, _, _, rfl, rfl, ⟨by decide, by decide, bound1 _ (by decide) (by decide) (by decide) (by decide) t0 ht⟩, .inl ⟨_, rfl, _, _, rfl, rfl, nz (by decide), ?_⟩⟩⟩
            refine ⟨_, rfl, _, rfl, _, _, rfl, rfl, .inl ⟨by decide, by decide⟩, _, _, rfl, rfl, _, _, rfl, rfl, .inl ?_, _, rfl, _, _, rfl, rfl, .inl ⟨by decide, by decide⟩, _, rfl, _, _, rfl, rfl, .inl ?_, _, _, rfl, rfl, _, _, rfl, rfl, _, _, rfl, rfl, ⟨by decide, by decide, ?_⟩, .inl ⟨_, rfl, _, _, rfl, rfl, nz (by decide), ?_⟩⟩
            · exact lt64 (hq (by decide) (by decide))
            · exact ⟨by omega, by omega⟩
            · exact bound2 (hq (by decide) (by decide)) (by decide) (by decide) (by decide) t0 ht
            · refine ⟨_, rfl, _, _, rfl, rfl, ⟨by decide, by decide⟩, .inl ⟨_, rfl, _, rfl, _, _, rfl, rfl, (by omega), ?_⟩⟩
              exact k _ _ b2 (fin _ hp2 hL2 b2) (fmod_lo _ hm) (fmod_hi _ hm)
        · skip
          refine ⟨_, rfl, .inl ⟨_, rfl, _, _, rfl, rfl, nz (by decide), _, rfl, _, _, rfl, rfl, .inl ⟨by decide, by decide⟩, _, _, rfl, rfl, _, _, rfl, rfl, _, _, rfl, rfl, ⟨by decide, by decide, bound1 _ (by decide) (by decide) (by decide) (by decide) t0 ht⟩, .inl ⟨_, rfl, _, _, rfl, rfl, nz (by decide), ?_⟩⟩⟩
          refine ⟨_, rfl, _, rfl, _, _, rfl, rfl, .inl ⟨by decide, by decide⟩, _, _, rfl, rfl, _, _, rfl, rfl, .inl ?_, _, rfl, _, _, rfl, rfl, .inl ⟨by decide, by decide⟩, _, rfl, _, _, rfl, rfl, .inl ?_, _, _, rfl, rfl, _, _, rfl, rfl, _, _, rfl, rfl, ⟨by decide, by decide, ?_⟩, .inl ⟨_, rfl, _, _, rfl, rfl, nz (by decide), ?_⟩⟩
          · exact lt64 (hq (by decide) (by decide))
          · exact ⟨by omega, by omega⟩
          · exact bound2 (hq (by decide) (by decide)) (by decide) (by decide) (by decide) t0 ht
          · refine ⟨_, rfl, _, _, rfl, rfl, ⟨by decide, by decide⟩, .inl ⟨_, rfl, _, rfl, _, _, rfl, rfl, (by omega), ?_⟩⟩
            exact k _ _ b2 (fin _ hp2 hL2 b2) (fmod_lo _ hm) (fmod_hi _ hm)
end
end Ev
namespace Ev
open PySem L2
abbrev sTryInit : Stmt := inClass (top 54) 0
abbrev sTryTurns : Stmt := inClass (top 54) 1
abbrev sTwice : Stmt := inClass (top 54) 2
abbrev sTurnInit : Stmt := inClass (top 53) 0
abbrev sTurnTurns : Stmt := inClass (top 53) 1
abbrev sGreatest : Stmt := inClass (top 52) 2
abbrev sFair : Stmt := top 55
abbrev sNeedW : Stmt := top 59
abbrev sTimes : Stmt := top 61
abbrev sPlus : Stmt := top 62
abbrev sTurn : Stmt := top 63
abbrev sNeedT : Stmt := top 64
abbrev sHalves : Stmt := top 65
abbrev sNeedH : Stmt := top 66
def fairB (p q k x y : Int) : Bool := decide (q * y ≤ p * x + k) && decide (q * x ≤ p * y + k)
def spIsInt : Sp := fun vs H Q _ => ∃ i : Int, vs = [.int i] ∧ Q (.bl true) H
def spWithin : Sp := fun vs H Q _ => ∃ v l m : Int, vs = [.int v, .int l, .int m] ∧ l ≤ v ∧ v ≤ m ∧ Q (.bl true) H
def spNeedW : Sp := fun vs H Q _ => ∃ v : Int, vs = [.int v] ∧ 1 ≤ v ∧ v ≤ 10 ^ 60 ∧ Q .non H
def spPair (_K : PySem.W.Frag) : Sp := fun vs H Q _ => ∃ (a : Addr) (x y m : Int), vs = [.ref a, .int m] ∧ H a = some (.tup [.int x, .int y]) ∧ (1 ≤ x ∧ x ≤ m) ∧ (1 ≤ y ∧ y ≤ m) ∧ ∀ H', Same H H' → Q (.bl true) H'
def spTimes (_K : PySem.W.Frag) : Sp := fun vs H Q _ => ∃ (a : Addr) (p q : Int), vs = [.ref a] ∧ H a = some (.tup [.int p, .int q]) ∧ 1 ≤ q ∧ q ≤ p ∧ p ≤ 6 ∧ ∀ H', Same H H' → Q (.bl true) H'
def spPlus : Sp := fun vs H Q _ => ∃ k : Int, vs = [.int k] ∧ -6 ≤ k ∧ k ≤ 6 ∧ Q (.bl true) H
def spTurn (_K : PySem.W.Frag) : Sp := fun vs H Q _ => ∃ (a : Addr) (p q : Int), vs = [.ref a] ∧ H a = some (.tup [.int p, .int q]) ∧ (1 ≤ p ∧ p ≤ 8) ∧ (1 ≤ q ∧ q ≤ 8) ∧ ∀ H', Same H H' → Q (.bl true) H'
def spNeedT (_K : PySem.W.Frag) : Sp := fun vs H Q _ => ∃ (a : Addr) (p q k : Int), vs = [.ref a, .int k] ∧ H a = some (.tup [.int p, .int q]) ∧ 1 ≤ q ∧ q ≤ p ∧ p ≤ 6 ∧ -6 ≤ k ∧ k ≤ 6 ∧ ∀ H', Same H H' → Q .non H'
def spHalves (_K : PySem.W.Frag) : Sp := fun vs H Q _ => ∃ (a : Addr) (p q k : Int), vs = [.ref a, .int k] ∧ H a = some (.tup [.int p, .int q]) ∧ 2 * q ≤ p + k ∧ Q (.bl true) H
def spNeedH (_K : PySem.W.Frag) : Sp := fun vs H Q _ => ∃ (a : Addr) (p q k : Int), vs = [.ref a, .int k] ∧ H a = some (.tup [.int p, .int q]) ∧ 0 ≤ q ∧ 2 * q ≤ p + k ∧ Q .non H
section
variable {P : Program} {w : World} {K : PySem.W.Frag} {mg : Str → Option Value} {base : Heap}
theorem scIsInt : FnScope ["value"] ["value"] (defScope sIsInt) := ⟨rfl, rfl, rfl, by decide +kernel, rfl, by decide +kernel, by decide +kernel⟩
theorem ok_isInt {f : Addr} {fd : FuncData} (F : Fun K "is_integer" "is_integer" sIsInt f fd) (T : Blt mg) : FnOk P w K mg base CX0 1 f fd ["value"] spIsInt := by
  refine F.ok scIsInt (fun vs H Q E h => ?_) (fun cdv A outer s H vs Q E hr h => ?_)
  · obtain ⟨i, rfl, _⟩ := h
    rfl
  · obtain ⟨i, rfl, k⟩ := h
    refine ⟨_, pss_one (ps_ret (pe_and (pe_callB call_isi (by rfl) T.isi (by decide +kernel) (pa_cons (pv 0) (pa_cons (pe_bltn (v := .ty "int") (by rfl) T.int (by decide +kernel) rfl) pa_nil)))
      (pe_one (pe_not (pe_callB call_isi (by rfl) T.isi (by decide +kernel) (pa_cons (pv 0) (pa_cons (pe_bltn (v := .ty "bool") (by rfl) T.bool (by decide +kernel) rfl) pa_nil))))))), ?_⟩
    refine ⟨_, rfl, _, _, _, _, true, rfl, .ty _, .base (.int i), kit_ty (by decide +kernel), true, rfl, iteT ⟨_, rfl, _, _, _, _, false, rfl, .ty _, .base (.int i), kit_ty (by decide +kernel), _, rfl, ?_⟩⟩
    exact k
theorem scWithin : FnScope ["value", "least", "most"] ["value", "least", "most"] (defScope sWithin) := ⟨rfl, rfl, rfl, by decide +kernel, rfl, by decide +kernel, by decide +kernel⟩
theorem ok_within {f fI : Addr} {fd fdI : FuncData} (F : Fun K "is_within" "is_within" sWithin f fd) (T : Blt mg)
    (GI : FnOk P w K mg base CX0 1 fI fdI ["value"] spIsInt) (gI : mg "is_integer" = some (.ref fI)) (kI : PySem.W.keepIn K (.ref fI) = true) (bI : Binds K fdI ["value"] []) : FnOk P w K mg base CX0 2 f fd ["value", "least", "most"] spWithin := by
  refine F.ok scWithin (fun vs H Q E h => ?_) (fun cdv A outer s H vs Q E hr h => ?_)
  · obtain ⟨v, l, m, rfl, _⟩ := h
    rfl
  · obtain ⟨v, l, m, rfl, h1, h2, k⟩ := h
    refine ⟨_, pss_one (ps_ret (pe_and (pe_call GI hr (by rfl) gI kI bI .nil pass0 (pa_cons (pv 0) pa_nil)) (pe_one (pe_chain op_le op_le (pv 1) (pv 0) (pv 2))))), ?_⟩
    refine ⟨_, rfl, v, rfl, true, rfl, iteT ⟨_, rfl, _, rfl, _, _, rfl, rfl, true, congrArg V.bl (decide_eq_true h1), iteT ⟨_, rfl, _, _, rfl, rfl, ?_⟩⟩⟩
    show Q (.bl (decide (v ≤ m))) H
    rw [decide_eq_true h2]
    exact k

/-- a def that stands under its name -/
structure Df (P : Program) (w : World) (K : PySem.W.Frag) (mg : Str → Option Value) (base : Heap) (k : Nat) (x : Str) (ps : List Str) (sp : Sp) : Prop where
  ex : ∃ (f : Addr) (fd : FuncData), FnOk P w K mg base CX0 k f fd ps sp ∧ mg x = some (.ref f) ∧ PySem.W.keepIn K (.ref f) = true ∧ Binds K fd ps []
theorem scNeedW : FnScope ["value"] ["value"] (defScope sNeedW) := ⟨rfl, rfl, rfl, by decide +kernel, rfl, by decide +kernel, by decide +kernel⟩
theorem ok_needW {f : Addr} {fd : FuncData} (F : Fun K "need_weight" "need_weight" sNeedW f fd) (D : Df P w K mg base 2 "is_within" ["value", "least", "most"] spWithin) {t : Tok} (gM : mg "MOST_WEIGHT" = some (.int (10 ^ 60) t)) :
    FnOk P w K mg base CX0 3 f fd ["value"] spNeedW := by
  obtain ⟨fW, fdW, GW, gW, kW, bW⟩ := D.ex
  refine F.ok scNeedW (fun vs H Q E h => ?_) (fun cdv A outer s H vs Q E hr h => ?_)
  · obtain ⟨i, rfl, _⟩ := h
    rfl
  · obtain ⟨i, rfl, h1, h2, k⟩ := h
    refine ⟨_, pss_one (ps_if (pt_not (pt_val (pe_call GW hr (by rfl) gW kW bW .nil pass0 (pa_cons (pv 0) (pa_cons pe_int (pa_cons (pe_glob (v := .int (10 ^ 60)) rfl gM ⟨_, rfl⟩) pa_nil)))))) (pss_one ps_never) pss_nil), ?_⟩
    exact ⟨_, rfl, _, _, _, rfl, h1, h2, true, rfl, iteF k⟩
theorem scPair : FnScope ["value", "most", "item"] ["value", "most"] (defScope sPair) := ⟨rfl, rfl, rfl, by decide +kernel, rfl, by decide +kernel, by decide +kernel⟩
theorem ok_pair {f : Addr} {fd : FuncData} (F : Fun K "is_pair" "is_pair" sPair f fd) (T : Blt mg) (D : Df P w K mg base 2 "is_within" ["value", "least", "most"] spWithin) :
    FnOk P w K mg base CX0 3 f fd ["value", "most"] (spPair K) := by
  obtain ⟨fW, fdW, GW, gW, kW, bW⟩ := D.ex
  refine F.ok scPair (fun vs H Q E h => ?_) (fun cdv A outer s H vs Q E hr h => ?_)
  · obtain ⟨a, x, y, m, rfl, _⟩ := h
    rfl
  · obtain ⟨a, x, y, m, rfl, ha, hx, hy, k⟩ := h
    refine ⟨_, pss_one (ps_ret (pe_and (pe_callB call_isi (by rfl) T.isi (by decide +kernel) (pa_cons (pv 0) (pa_cons (pe_bltn (v := .ty "tuple") (by rfl) T.tuple (by decide +kernel) rfl) pa_nil)))
      (pe_and (pe_cmpR op_eq (pe_callB call_len_seq (by rfl) T.len PySem.boot_len (pa_cons (pv 0) pa_nil)) pe_int (nomark _))
      (pe_one (pe_callB (cr_all rfl) (by rfl) T.all (by decide +kernel) (pa_cons (pe_lc (own := [("item", 2)]) (g := gName 2) (by rfl) scPair.nd (pi_tup (pv 0)) (blkOk_by (own := [("item", 2)]) (N := ["value", "most", "item"]) (sc := defScope sPair) (by decide +kernel))
          (fun _ _ _ _ _ => pg_name (i := 2) scPair.nd rfl (.inl rfl)) (fun _ _ _ _ _ => pts_nil) (fun _ _ _ _ _ => pe_call GW hr (by rfl) gW kW bW .nil pass0 (pa_cons (pv 2) (pa_cons pe_int (pa_cons (pv 1) pa_nil))))) pa_nil)))))), ?_⟩
    refine ⟨_, rfl, _, _, _, _, true, rfl, .ty _, .base (.tup ha), kit_ty (by decide +kernel), true, rfl, iteT ⟨_, rfl, a, _, rfl, .inr (SqT.of ha), rfl, true, congrArg V.bl (decide_eq_true rfl), iteT ⟨_, rfl, a, rfl, ⟨_, SqT.of ha⟩, fun D nD => ?_⟩⟩⟩
    have naD : a ≠ D := ne_of_none ha nD
    refine lc_tup (xs := [V.int x, V.int y]) (fun i H' => H' D = some (.lst ((List.replicate i true).map V.bl)) ∧ But D H H') ⟨upd_same, But.upd_at⟩ (fun i H' _ h => SqT.of (h.2 _ _ naD ha)) (fun i v H' hi ⟨e1, e2⟩ => ?_) (fun H' ⟨e1, e2⟩ => ?_)
    · obtain ⟨z, rfl, z1, z2⟩ : ∃ z : Int, v = .int z ∧ 1 ≤ z ∧ z ≤ m := by
        match i, hi with
        | 0, hi => exact ⟨x, (Option.some.inj hi).symm, hx.1, hx.2⟩
        | 1, hi => exact ⟨y, (Option.some.inj hi).symm, hy.1, hy.2⟩
        | n + 2, hi => cases hi
      have hil : i < 2 := (List.getElem?_eq_some_iff.mp hi).1
      refine ⟨rfl, _, rfl, _, rfl, _, _, _, rfl, z1, z2, _, e1, ?_, ?_, ?_⟩
      · rw [List.length_map, List.length_replicate]; exact small1000 (by omega)
      · rw [List.replicate_succ', List.map_append]
        exact upd_same
      · exact e2.trans But.upd_at
    · refine ⟨D, [true, true], rfl, SqL.of e1, ?_⟩
      exact k H' fun b o e => e2 b o (ne_of_none e nD) e
end
end Ev
namespace Ev
open PySem L2
section
variable {P : Program} {w : World} {K : PySem.W.Frag} {mg : Str → Option Value} {base : Heap}
theorem tup1 {a b : V} : atI [a, b] 1 = some b := atI_nat (j := 1) rfl
theorem tup0 {a b : V} : atI [a, b] 0 = some a := atI_nat (j := 0) rfl
theorem scTimes : FnScope ["value"] ["value"] (defScope sTimes) := ⟨rfl, rfl, rfl, by decide +kernel, rfl, by decide +kernel, by decide +kernel⟩
theorem ok_times {f : Addr} {fd : FuncData} (F : Fun K "is_times" "is_times" sTimes f fd) (D : Df P w K mg base 3 "is_pair" ["value", "most"] (spPair K)) {CW : Addr} {mc u : Value} (gW : mg "WeightRule" = some (.ref CW)) (cr : ClX.CRead K CW mc) (cv : ClX.CVal K CW mc "MOST" (.int 6) u) :
    FnOk P w K mg base CX0 4 f fd ["value"] (spTimes K) := by
  obtain ⟨fP, fdP, GP, gP, kP, bP⟩ := D.ex
  refine F.ok scTimes (fun vs H Q E h => ?_) (fun cdv A outer s H vs Q E hr h => ?_)
  · obtain ⟨a, p, q, rfl, _⟩ := h
    rfl
  · obtain ⟨a, p, q, rfl, ha, h1, h2, h3, k⟩ := h
    refine ⟨_, pss_one (ps_ret (pe_and (pe_call GP hr (by rfl) gP kP bP .nil pass0 (pa_cons (pv 0) (pa_cons (ClX.pe_cval (pe_glob (v := .ref CW) rfl gW rfl)) pa_nil)))
      (pe_one (pe_cmpR op_le (pe_ix ix_tup (pv 0) pe_int (fun _ _ => rfl)) (pe_ix ix_tup (pv 0) pe_int (fun _ _ => rfl)) (nomark _))))), ?_⟩
    refine ⟨_, rfl, CW, mc, _, u, rfl, cr, cv, a, p, q, _, rfl, ha, ⟨by omega, by omega⟩, ⟨by omega, by omega⟩, fun H' s => ⟨true, rfl, ?_⟩⟩
    refine ⟨_, rfl, a, _, 1, _, rfl, rfl, SqT.of (s _ _ ha), tup1, _, rfl, a, _, 0, _, rfl, rfl, SqT.of (s _ _ ha), tup0, _, _, rfl, rfl, ?_⟩
    show Q (.bl (decide (q ≤ p))) H'
    rw [decide_eq_true h2]
    exact k H' s
theorem scPlus : FnScope ["value"] ["value"] (defScope sPlus) := ⟨rfl, rfl, rfl, by decide +kernel, rfl, by decide +kernel, by decide +kernel⟩
theorem ok_plus {f : Addr} {fd : FuncData} (F : Fun K "is_plus" "is_plus" sPlus f fd) (D : Df P w K mg base 2 "is_within" ["value", "least", "most"] spWithin) {t : Tok} (gM : mg "MOST_PLUS" = some (.int 6 t)) : FnOk P w K mg base CX0 3 f fd ["value"] spPlus := by
  obtain ⟨fW, fdW, GW, gW, kW, bW⟩ := D.ex
  refine F.ok scPlus (fun vs H Q E h => ?_) (fun cdv A outer s H vs Q E hr h => ?_)
  · obtain ⟨i, rfl, _⟩ := h
    rfl
  · obtain ⟨i, rfl, h1, h2, k⟩ := h
    refine ⟨_, pss_one (ps_ret (pe_call GW hr (by rfl) gW kW bW .nil pass0 (pa_cons (pv 0) (pa_cons (pe_un un_neg (pe_glob (v := .int 6) rfl gM ⟨_, rfl⟩)) (pa_cons (pe_glob (v := .int 6) rfl gM ⟨_, rfl⟩) pa_nil))))), ?_⟩
    exact ⟨_, rfl, _, rfl, _, _, _, rfl, h1, h2, k⟩
theorem scTurn : FnScope ["value"] ["value"] (defScope sTurn) := ⟨rfl, rfl, rfl, by decide +kernel, rfl, by decide +kernel, by decide +kernel⟩
theorem ok_turn {f : Addr} {fd : FuncData} (F : Fun K "is_turn" "is_turn" sTurn f fd) (D : Df P w K mg base 3 "is_pair" ["value", "most"] (spPair K)) {t : Tok} (gM : mg "MOST_TURN" = some (.int 8 t)) : FnOk P w K mg base CX0 4 f fd ["value"] (spTurn K) := by
  obtain ⟨fP, fdP, GP, gP, kP, bP⟩ := D.ex
  refine F.ok scTurn (fun vs H Q E h => ?_) (fun cdv A outer s H vs Q E hr h => ?_)
  · obtain ⟨a, p, q, rfl, _⟩ := h
    rfl
  · obtain ⟨a, p, q, rfl, ha, h1, h2, k⟩ := h
    refine ⟨_, pss_one (ps_ret (pe_call GP hr (by rfl) gP kP bP .nil pass0 (pa_cons (pv 0) (pa_cons (pe_glob (v := .int 8) rfl gM ⟨_, rfl⟩) pa_nil)))), ?_⟩
    exact ⟨_, rfl, a, p, q, _, rfl, ha, h1, h2, k⟩
theorem scNeedT : FnScope ["times", "plus"] ["times", "plus"] (defScope sNeedT) := ⟨rfl, rfl, rfl, by decide +kernel, rfl, by decide +kernel, by decide +kernel⟩
theorem ok_needT {f : Addr} {fd : FuncData} (F : Fun K "need_times" "need_times" sNeedT f fd) (D1 : Df P w K mg base 4 "is_times" ["value"] (spTimes K)) (D2 : Df P w K mg base 3 "is_plus" ["value"] spPlus) : FnOk P w K mg base CX0 5 f fd ["times", "plus"] (spNeedT K) := by
  obtain ⟨f1, fd1, G1, g1, k1, b1⟩ := D1.ex
  obtain ⟨f2, fd2, G2, g2, k2, b2⟩ := D2.ex
  refine F.ok scNeedT (fun vs H Q E h => ?_) (fun cdv A outer s H vs Q E hr h => ?_)
  · obtain ⟨a, p, q, k, rfl, _⟩ := h
    rfl
  · obtain ⟨a, p, q, k, rfl, ha, h1, h2, h3, h4, h5, kk⟩ := h
    refine ⟨_, pss_cons (ps_if (pt_not (pt_val (pe_call G1 hr (by rfl) g1 k1 b1 .nil pass0 (pa_cons (pv 0) pa_nil)))) (pss_one ps_never) pss_nil)
      (pss_one (ps_if (pt_not (pt_val (pe_call G2 (hr.mono (by decide)) (by rfl) g2 k2 b2 .nil pass0 (pa_cons (pv 1) pa_nil)))) (pss_one ps_never) pss_nil)), ?_⟩
    exact ⟨_, rfl, a, p, q, rfl, ha, h1, h2, h3, fun H' s => ⟨true, rfl, iteF ⟨_, rfl, k, rfl, h4, h5, true, rfl, iteF (kk H' s)⟩⟩⟩
theorem scHalves : FnScope ["times", "plus", "over", "under"] ["times", "plus"] (defScope sHalves) := ⟨rfl, rfl, rfl, by decide +kernel, rfl, by decide +kernel, by decide +kernel⟩
theorem ok_halves {f : Addr} {fd : FuncData} (F : Fun K "has_halves" "has_halves" sHalves f fd) : FnOk P w K mg base CX0 1 f fd ["times", "plus"] (spHalves K) := by
  refine F.ok scHalves (fun vs H Q E h => ?_) (fun cdv A outer s H vs Q E hr h => ?_)
  · obtain ⟨a, p, q, k, rfl, _⟩ := h
    rfl
  · obtain ⟨a, p, q, k, rfl, ha, h1, kk⟩ := h
    refine ⟨_, pss_cons (ps_asg (pv 0) (pg_tup (by rfl) (pgs_cons (pg_name (i := 2) scHalves.nd rfl (.inl rfl)) (pgs_cons (pg_name (i := 3) scHalves.nd rfl (.inl rfl)) pgs_nil))))
      (pss_one (ps_ret (pe_cmpR op_ge (pe_op op_add (pv 2) (pv 1)) (pe_op op_mul pe_int (pv 3)) (nomark _)))), ?_⟩
    refine ⟨_, rfl, a, _, rfl, SqT.of ha, rfl, _, _, rfl, _, _, rfl, rfl, ?_⟩
    refine ⟨_, rfl, _, rfl, _, _, rfl, rfl, _, rfl, _, _, rfl, rfl, .inl ⟨by decide, by decide⟩, _, _, rfl, rfl, ?_⟩
    show Q (.bl (decide (2 * q ≤ p + k))) H
    rw [decide_eq_true h1]
    exact kk
theorem scNeedH : FnScope ["times", "plus", "over", "under"] ["times", "plus"] (defScope sNeedH) := ⟨rfl, rfl, rfl, by decide +kernel, rfl, by decide +kernel, by decide +kernel⟩
theorem ok_needH {f : Addr} {fd : FuncData} (F : Fun K "need_halves" "need_halves" sNeedH f fd) (D : Df P w K mg base 1 "has_halves" ["times", "plus"] (spHalves K)) : FnOk P w K mg base CX0 2 f fd ["times", "plus"] (spNeedH K) := by
  obtain ⟨f1, fd1, G1, g1, k1, b1⟩ := D.ex
  refine F.ok scNeedH (fun vs H Q E h => ?_) (fun cdv A outer s H vs Q E hr h => ?_)
  · obtain ⟨a, p, q, k, rfl, _⟩ := h
    rfl
  · obtain ⟨a, p, q, k, rfl, ha, h0, h1, kk⟩ := h
    refine ⟨_, pss_cons (ps_asg (pv 0) (pg_tup (by rfl) (pgs_cons (pg_name (i := 2) scNeedH.nd rfl (.inl rfl)) (pgs_cons (pg_name (i := 3) scNeedH.nd rfl (.inl rfl)) pgs_nil))))
      (pss_cons (ps_if (pt_cmpR op_lt (pe_op op_add (pv 2) (pv 1)) (pv 3) (nomark _)) (pss_one ps_never) pss_nil)
      (pss_one (ps_if (pt_not (pt_val (pe_call G1 hr (by rfl) g1 k1 b1 .nil pass0 (pa_cons (pv 0) (pa_cons (pv 1) pa_nil))))) (pss_one ps_never) pss_nil))), ?_⟩
    refine ⟨_, rfl, a, _, rfl, SqT.of ha, rfl, _, _, rfl, _, _, rfl, rfl, ?_⟩
    refine ⟨_, rfl, _, rfl, _, _, rfl, rfl, _, rfl, _, _, rfl, rfl, _, rfl, ite2 (fun e => ?_) (fun _ => ?_)⟩
    · have := of_decide_eq_true e; omega
    · exact ⟨_, rfl, _, rfl, a, p, q, k, rfl, ha, h1, true, rfl, iteF kk⟩
end
end Ev
namespace Ev
open PySem L2
/-- the part of a rule object that every rule has -/
structure RB (K : PySem.W.Frag) (H : Hp) (r : Addr) (p q k : Int) : Prop where
  ex : ∃ (C dx : Addr) (fs : List (Str × V)) (a : Addr), H r = some (.ins C dx fs) ∧ Cls K C ∧ NoAttr K C "times" ∧ NoAttr K C "plus" ∧ fs.lookup ("times" : Str) = some (.ref a) ∧ fs.lookup ("plus" : Str) = some (.int k) ∧ H a = some (.tup [.int p, .int q])
  b1 : 1 ≤ q
  b2 : q ≤ p
  b3 : p ≤ 6
  b4 : -6 ≤ k
  b5 : k ≤ 6
def tryF (a : Addr) (k : Int) : List (Str × V) := [("times", .ref a), ("plus", .int k)]
def turnF (a : Addr) (k : Int) (b : Addr) (r : Int) : List (Str × V) := [("times", .ref a), ("plus", .int k), ("turn", .ref b), ("turn_plus", .int r)]
def tryT (p q k l i o : Int) (n : Option Int) : Int :=
  if (fairB p q k l i && fairB p q k (l + i) o) = true then 1 else
    match n with
    | none => 1
    | some n => if (decide (1 < i) && (fairB p q k l n && (fairB p q k (i - n) o && fairB p q k (l + n) (i - n + o)))) = true then 2 else 1
def turnT (t s r i o : Int) : Int := if s * i ≤ t * o + r then 1 else if 1 < i then 2 else 0
def spFair (K : PySem.W.Frag) : Sp := fun vs H Q _ => ∃ (r : Addr) (p q k x y : Int), vs = [.ref r, .int x, .int y] ∧ RB K H r p q k ∧ Q (.bl (fairB p q k x y)) H
def spGreatest (K : PySem.W.Frag) : Sp := fun vs H Q _ => ∃ (r : Addr) (p q k x : Int), vs = [.ref r, .int x] ∧ RB K H r p q k ∧ 1 ≤ x ∧ x ≤ 10 ^ 60 ∧ Q (.int ((p * x + k).fdiv q)) H
def spTwice (K : PySem.W.Frag) : Sp := fun vs H Q _ => ∃ (r : Addr) (p q k l i o n : Int), vs = [.ref r, .int l, .int i, .int o, .int n] ∧ RB K H r p q k ∧ Q (.bl (fairB p q k l n && (fairB p q k (i - n) o && fairB p q k (l + n) (i - n + o)))) H
def vOpt : Option Int → V
  | none => .non
  | some n => .int n
def spTryTurns (K : PySem.W.Frag) (C : Addr) : Sp := fun vs H Q _ => ∃ (r : Addr) (p q k l i o : Int) (n : Option Int) (dx : Addr) (fs : List (Str × V)), vs = [.ref r, .int l, .int i, .int o, vOpt n] ∧ RB K H r p q k ∧ H r = some (.ins C dx fs) ∧ fs.lookup ("twice_is_fair" : Str) = none ∧ (n = none → i = 1) ∧
  Q (.int (tryT p q k l i o n)) H
def spTurnTurns (K : PySem.W.Frag) (C : Addr) : Sp := fun vs H Q _ => ∃ (r : Addr) (l i o : Int) (n : Option Int) (dx a b : Addr) (k t s c : Int), vs = [.ref r, .int l, .int i, .int o, vOpt n] ∧ H r = some (.ins C dx (turnF a k b c)) ∧ H b = some (.tup [.int t, .int s]) ∧ (1 ≤ t ∧ t ≤ 8) ∧ (1 ≤ s ∧ s ≤ 8) ∧
  Q (.int (turnT t s c i o)) H
section
variable {P : Program} {w : World} {K : PySem.W.Frag} {mg : Str → Option Value} {base : Heap}
theorem m64 {q : Int} (h1 : 1 ≤ q) (h2 : q ≤ 8) : -(2 ^ 64) < q ∧ q < 2 ^ 64 := ⟨by omega, by omega⟩
theorem scFair : FnScope ["rule", "x", "y", "over", "under"] ["rule", "x", "y"] (defScope sFair) := ⟨rfl, rfl, rfl, by decide +kernel, rfl, by decide +kernel, by decide +kernel⟩
theorem ok_fair {f : Addr} {fd : FuncData} (F : Fun K "are_fair" "are_fair" sFair f fd) : FnOk P w K mg base CX0 1 f fd ["rule", "x", "y"] (spFair K) := by
  refine F.ok scFair (fun vs H Q E h => ?_) (fun cdv A outer s H vs Q E hr h => ?_)
  · obtain ⟨r, p, q, k, x, y, rfl, _⟩ := h
    rfl
  · obtain ⟨r, p, q, k, x, y, rfl, ⟨⟨C, dx, fs, a, hr1, cl, n1, n2, l1, l2, ha⟩, b1, b2, b3, b4, b5⟩, kk⟩ := h
    refine ⟨_, pss_cons (ps_asg (pe_fld (pv 0) rfl) (pg_tup (by rfl) (pgs_cons (pg_name (i := 3) scFair.nd rfl (.inl rfl)) (pgs_cons (pg_name (i := 4) scFair.nd rfl (.inl rfl)) pgs_nil))))
      (pss_one (ps_ret (pe_and (pe_cmpR op_le (pe_op op_mul (pv 4) (pv 2)) (pe_op op_add (pe_op op_mul (pv 3) (pv 1)) (pe_fld (pv 0) rfl)) (nomark _))
        (pe_one (pe_cmpR op_le (pe_op op_mul (pv 4) (pv 1)) (pe_op op_add (pe_op op_mul (pv 3) (pv 2)) (pe_fld (pv 0) rfl)) (nomark _)))))), ?_⟩
    have q6 := m64 b1 (show q ≤ 8 by omega)
    have p6 := m64 (show 1 ≤ p by omega) (show p ≤ 8 by omega)
    refine ⟨_, rfl, r, C, dx, fs, _, rfl, hr1, cl, n1, l1, a, _, rfl, SqT.of ha, rfl, _, _, rfl, _, _, rfl, rfl, ?_⟩
    refine ⟨_, rfl, _, rfl, _, _, rfl, rfl, .inl q6, _, rfl, _, rfl, _, _, rfl, rfl, .inl p6, _, rfl, r, C, dx, fs, _, rfl, hr1, cl, n2, l2, _, _, rfl, rfl, _, _, rfl, rfl, _, rfl, ite2 (fun e => ?_) (fun e => ?_)⟩
    · refine ⟨_, rfl, _, rfl, _, _, rfl, rfl, .inl q6, _, rfl, _, rfl, _, _, rfl, rfl, .inl p6, _, rfl, r, C, dx, fs, _, rfl, hr1, cl, n2, l2, _, _, rfl, rfl, _, _, rfl, rfl, ?_⟩
      show Q (.bl (decide (q * x ≤ p * y + k))) H
      rw [show fairB p q k x y = decide (q * x ≤ p * y + k) by unfold fairB; rw [show decide (q * y ≤ p * x + k) = true from e, Bool.true_and]] at kk
      exact kk
    · rw [show fairB p q k x y = false by unfold fairB; rw [show decide (q * y ≤ p * x + k) = false from Bool.eq_false_iff.mpr e, Bool.false_and]] at kk
      exact kk
theorem scTwice : FnScope ["self", "light", "inner", "outer", "near", "far"] ["self", "light", "inner", "outer", "near"] (defScope sTwice) := ⟨rfl, rfl, rfl, by decide +kernel, rfl, by decide +kernel, by decide +kernel⟩
theorem ok_twice {f : Addr} {fd : FuncData} (F : Fun K "twice_is_fair" "TryRule.twice_is_fair" sTwice f fd) (D : Df P w K mg base 1 "are_fair" ["rule", "x", "y"] (spFair K)) : FnOk P w K mg base CX0 2 f fd ["self", "light", "inner", "outer", "near"] (spTwice K) := by
  obtain ⟨f1, fd1, G1, g1, k1, b1⟩ := D.ex
  refine F.ok scTwice (fun vs H Q E h => ?_) (fun cdv A outer s H vs Q E hr h => ?_)
  · obtain ⟨r, p, q, k, l, i, o, n, rfl, _⟩ := h
    rfl
  · obtain ⟨r, p, q, k, l, i, o, n, rfl, R, kk⟩ := h
    refine ⟨_, pss_cons (ps_set (i := 5) scTwice.nd rfl (.inl rfl) (pe_op op_sub (pv 2) (pv 4)))
      (pss_one (ps_ret (pe_and (pe_call G1 hr (by rfl) g1 k1 b1 .nil pass0 (pa_cons (pv 0) (pa_cons (pv 1) (pa_cons (pv 4) pa_nil))))
        (pe_and (pe_call G1 hr (by rfl) g1 k1 b1 .nil pass0 (pa_cons (pv 0) (pa_cons (pv 5) (pa_cons (pv 3) pa_nil))))
        (pe_one (pe_call G1 hr (by rfl) g1 k1 b1 .nil pass0 (pa_cons (pv 0) (pa_cons (pe_op op_add (pv 1) (pv 4)) (pa_cons (pe_op op_add (pv 5) (pv 3)) pa_nil))))))))), ?_⟩
    refine ⟨_, rfl, _, rfl, _, _, rfl, rfl, _, rfl, _, rfl, _, rfl, r, p, q, k, _, _, rfl, R, _, rfl, ite2 (fun e => ?_) (fun e => ?_)⟩
    · rw [e, Bool.true_and] at kk
      refine ⟨_, rfl, _, rfl, _, rfl, r, p, q, k, _, _, rfl, R, _, rfl, ite2 (fun e => ?_) (fun e => ?_)⟩
      · rw [show fairB p q k (i - n) o = true from e, Bool.true_and] at kk
        exact ⟨_, rfl, _, rfl, _, rfl, _, _, rfl, rfl, _, rfl, _, rfl, _, _, rfl, rfl, r, p, q, k, _, _, rfl, R, kk⟩
      · rw [show fairB p q k (i - n) o = false from Bool.eq_false_iff.mpr e, Bool.false_and] at kk
        exact kk
    · rw [Bool.eq_false_iff.mpr e, Bool.false_and] at kk
      exact kk
end
end Ev
namespace Ev
open PySem L2 PySem.Spec PyProof.Rows
theorem same_new {H : Hp} {q : Addr} {o : HO} (n : H q = none) : Same H (upd H q o) := fun b u e => by rw [upd_ne (ne_of_none e n)]; exact e
theorem lk_hit {k : Str} {v : V} {l : List (Str × V)} : List.lookup k ((k, v) :: l) = some v := by simp [List.lookup]
theorem lk_miss {k k' : Str} {v : V} {l : List (Str × V)} (h : ¬ k = k') : List.lookup k ((k', v) :: l) = List.lookup k l := by
  have : (k == k') = false := by simpa using h
  simp [List.lookup, this]
theorem try_times (a : Addr) (k : Int) : (tryF a k).lookup ("times" : Str) = some (.ref a) := lk_hit
theorem try_plus (a : Addr) (k : Int) : (tryF a k).lookup ("plus" : Str) = some (.int k) := (lk_miss (by decide +kernel)).trans lk_hit
theorem turn_times (a : Addr) (k : Int) (b : Addr) (c : Int) : (turnF a k b c).lookup ("times" : Str) = some (.ref a) := lk_hit
theorem turn_plus (a : Addr) (k : Int) (b : Addr) (c : Int) : (turnF a k b c).lookup ("plus" : Str) = some (.int k) := (lk_miss (by decide +kernel)).trans lk_hit
theorem turn_turn (a : Addr) (k : Int) (b : Addr) (c : Int) : (turnF a k b c).lookup ("turn" : Str) = some (.ref b) := (lk_miss (by decide +kernel)).trans ((lk_miss (by decide +kernel)).trans lk_hit)
theorem turn_tp (a : Addr) (k : Int) (b : Addr) (c : Int) : (turnF a k b c).lookup ("turn_plus" : Str) = some (.int c) := (lk_miss (by decide +kernel)).trans ((lk_miss (by decide +kernel)).trans ((lk_miss (by decide +kernel)).trans lk_hit))
theorem try_no (a : Addr) (k : Int) {m : Str} (h1 : ¬ m = "times") (h2 : ¬ m = "plus") : (tryF a k).lookup m = none := (lk_miss h1).trans ((lk_miss h2).trans rfl)
theorem turn_no (a : Addr) (k : Int) (b : Addr) (c : Int) {m : Str} (h1 : ¬ m = "times") (h2 : ¬ m = "plus") (h3 : ¬ m = "turn") (h4 : ¬ m = "turn_plus") : (turnF a k b c).lookup m = none := (lk_miss h1).trans ((lk_miss h2).trans ((lk_miss h3).trans ((lk_miss h4).trans rfl)))
theorem put_try (a : Addr) (k : Int) : putF "plus" (.int k) (putF "times" (.ref a) []) = tryF a k := by
  show (if ("times" : Str) = "plus" then _ else _) = _
  rw [if_neg (by decide +kernel)]
  rfl
theorem put_turn1 (a : Addr) (k : Int) (b : Addr) : putF "turn" (V.ref b) (tryF a k) = ([("times", V.ref a), ("plus", V.int k), ("turn", V.ref b)] : List (Str × V)) := by
  show (if ("times" : Str) = "turn" then _ else _ :: (if ("plus" : Str) = "turn" then _ else _)) = _
  rw [if_neg (by decide +kernel), if_neg (by decide +kernel)]
  rfl
theorem put_turn2 (a : Addr) (k : Int) (b : Addr) (c : Int) : putF "turn_plus" (.int c) (putF "turn" (.ref b) (tryF a k)) = turnF a k b c := by
  rw [put_turn1]
  show (if ("times" : Str) = "turn_plus" then _ else _ :: (if ("plus" : Str) = "turn_plus" then _ else _ :: (if ("turn" : Str) = "turn_plus" then _ else _))) = _
  rw [if_neg (by decide +kernel), if_neg (by decide +kernel), if_neg (by decide +kernel)]
  rfl
/-- a class of rules -/
structure RCls (K : PySem.W.Frag) (C : Addr) : Prop where
  cl : Cls K C
  n1 : NoAttr K C "times"
  n2 : NoAttr K C "plus"
  n3 : NoAttr K C "turn"
  n4 : NoAttr K C "turn_plus"
def spTryInit (C : Addr) : Sp := fun vs H Q _ => ∃ (x dx a : Addr) (p q k : Int), vs = [.ref x, .ref a, .int k] ∧ H x = some (.ins C dx []) ∧ H a = some (.tup [.int p, .int q]) ∧ 1 ≤ q ∧ q ≤ p ∧ p ≤ 6 ∧ -6 ≤ k ∧ k ≤ 6 ∧ 2 * q ≤ p + k ∧
  ∀ H', But x H H' → H' x = some (.ins C dx (tryF a k)) → Q .non H'
def spTurnInit (C : Addr) : Sp := fun vs H Q _ => ∃ (x dx a b : Addr) (p q k t s c : Int), vs = [.ref x, .ref a, .int k, .ref b, .int c] ∧ H x = some (.ins C dx []) ∧ H a = some (.tup [.int p, .int q]) ∧ H b = some (.tup [.int t, .int s]) ∧
  1 ≤ q ∧ q ≤ p ∧ p ≤ 6 ∧ -6 ≤ k ∧ k ≤ 6 ∧ 2 * q ≤ p + k ∧ (1 ≤ t ∧ t ≤ 8) ∧ (1 ≤ s ∧ s ≤ 8) ∧ -6 ≤ c ∧ c ≤ 6 ∧ ∀ H', But x H H' → H' x = some (.ins C dx (turnF a k b c)) → Q .non H'
section
variable {P : Program} {w : World} {K : PySem.W.Frag} {mg : Str → Option Value} {base : Heap}
theorem scTryInit : FnScope ["self", "times", "plus"] ["self", "times", "plus"] (defScope sTryInit) := ⟨rfl, rfl, rfl, by decide +kernel, rfl, by decide +kernel, by decide +kernel⟩
theorem ok_tryInit {f C : Addr} {fd : FuncData} {dvs : List V} {kws : List (Str × V)} (F : FunD K "__init__" "TryRule.__init__" (defArgs sTryInit) (defBody sTryInit) (defScope sTryInit) dvs kws f fd) (T : RCls K C) (D1 : Df P w K mg base 5 "need_times" ["times", "plus"] (spNeedT K))
    (D2 : Df P w K mg base 2 "need_halves" ["times", "plus"] (spNeedH K)) : FnOk P w K mg base CX0 6 f fd ["self", "times", "plus"] (spTryInit C) := by
  obtain ⟨f1, fd1, G1, g1, k1, bb1⟩ := D1.ex
  obtain ⟨f2, fd2, G2, g2, k2, bb2⟩ := D2.ex
  refine F.ok scTryInit (fun vs H Q E h => ?_) (fun cdv A outer s H vs Q E hr h => ?_)
  · obtain ⟨x, dx, a, p, q, k, rfl, _⟩ := h
    rfl
  · obtain ⟨x, dx, a, p, q, k, rfl, hx, ha, h1, h2, h3, h4, h5, h6, kk⟩ := h
    refine ⟨_, PSs.nox (pss_cons (ps_expr (pe_call G1 hr (by rfl) g1 k1 bb1 .nil pass0 (pa_cons (pv 1) (pa_cons (pv 2) pa_nil))))
      (pss_cons (ps_expr (pe_call G2 (hr.mono (by decide)) (by rfl) g2 k2 bb2 .nil pass0 (pa_cons (pv 1) (pa_cons (pv 2) pa_nil))))
      (pss_cons (ps_fld (pv 0) (pv 1) rfl) (pss_one (ps_fld (pv 0) (pv 2) rfl))))), ?_⟩
    refine ⟨_, rfl, _, rfl, a, p, q, k, rfl, ha, h1, h2, h3, h4, h5, fun H1 s1 => ?_⟩
    refine ⟨_, rfl, _, rfl, a, p, q, k, rfl, s1 _ _ ha, by omega, h6, ?_⟩
    refine ⟨_, rfl, _, rfl, x, C, dx, _, rfl, s1 _ _ hx, T.cl, T.n1, (by show 0 < 1000; decide), _, rfl, _, rfl, x, C, dx, _, rfl, upd_same, T.cl, T.n2, (by show 1 < 1000; decide), ?_⟩
    refine kk _ ((Same.but s1).trans (But.upd_at.trans But.upd_at)) ?_
    rw [upd_same, put_try]
theorem scTurnInit : FnScope ["self", "times", "plus", "turn", "turn_plus"] ["self", "times", "plus", "turn", "turn_plus"] (defScope sTurnInit) := ⟨rfl, rfl, rfl, by decide +kernel, rfl, by decide +kernel, by decide +kernel⟩
theorem ok_turnInit {f C : Addr} {fd : FuncData} {dvs : List V} {kws : List (Str × V)} (F : FunD K "__init__" "TurnRule.__init__" (defArgs sTurnInit) (defBody sTurnInit) (defScope sTurnInit) dvs kws f fd) (T : RCls K C) (D1 : Df P w K mg base 5 "need_times" ["times", "plus"] (spNeedT K))
    (D2 : Df P w K mg base 2 "need_halves" ["times", "plus"] (spNeedH K)) (D3 : Df P w K mg base 4 "is_turn" ["value"] (spTurn K)) (D4 : Df P w K mg base 3 "is_plus" ["value"] spPlus) : FnOk P w K mg base CX0 6 f fd ["self", "times", "plus", "turn", "turn_plus"] (spTurnInit C) := by
  obtain ⟨f1, fd1, G1, g1, k1, bb1⟩ := D1.ex
  obtain ⟨f2, fd2, G2, g2, k2, bb2⟩ := D2.ex
  obtain ⟨f3, fd3, G3, g3, k3, bb3⟩ := D3.ex
  obtain ⟨f4, fd4, G4, g4, k4, bb4⟩ := D4.ex
  refine F.ok scTurnInit (fun vs H Q E h => ?_) (fun cdv A outer s H vs Q E hr h => ?_)
  · obtain ⟨x, dx, a, b, p, q, k, t, s, c, rfl, _⟩ := h
    rfl
  · obtain ⟨x, dx, a, b, p, q, k, t, s, c, rfl, hx, ha, hb, h1, h2, h3, h4, h5, h6, h7, h8, h9, h10, kk⟩ := h
    refine ⟨_, PSs.nox (pss_cons (ps_expr (pe_call G1 hr (by rfl) g1 k1 bb1 .nil pass0 (pa_cons (pv 1) (pa_cons (pv 2) pa_nil))))
      (pss_cons (ps_if (pt_not (pt_val (pe_call G3 (hr.mono (by decide)) (by rfl) g3 k3 bb3 .nil pass0 (pa_cons (pv 3) pa_nil)))) (pss_one ps_never) pss_nil)
      (pss_cons (ps_if (pt_not (pt_val (pe_call G4 (hr.mono (by decide)) (by rfl) g4 k4 bb4 .nil pass0 (pa_cons (pv 4) pa_nil)))) (pss_one ps_never) pss_nil)
      (pss_cons (ps_expr (pe_call G2 (hr.mono (by decide)) (by rfl) g2 k2 bb2 .nil pass0 (pa_cons (pv 1) (pa_cons (pv 2) pa_nil))))
      (pss_cons (ps_fld (pv 0) (pv 1) rfl) (pss_cons (ps_fld (pv 0) (pv 2) rfl) (pss_cons (ps_fld (pv 0) (pv 3) rfl) (pss_one (ps_fld (pv 0) (pv 4) rfl))))))))), ?_⟩
    refine ⟨_, rfl, _, rfl, a, p, q, k, rfl, ha, h1, h2, h3, h4, h5, fun H1 s1 => ?_⟩
    refine ⟨_, rfl, b, t, s, rfl, s1 _ _ hb, h7, h8, fun H2 s2 => ⟨true, rfl, iteF ?_⟩⟩
    refine ⟨_, rfl, c, rfl, h9, h10, true, rfl, iteF ?_⟩
    have s3 := s1.trans s2
    refine ⟨_, rfl, _, rfl, a, p, q, k, rfl, s3 _ _ ha, by omega, h6, ?_⟩
    refine ⟨_, rfl, _, rfl, x, C, dx, _, rfl, s3 _ _ hx, T.cl, T.n1, (by show 0 < 1000; decide), _, rfl, _, rfl, x, C, dx, _, rfl, upd_same, T.cl, T.n2, (by show 1 < 1000; decide), ?_⟩
    refine ⟨_, rfl, _, rfl, x, C, dx, _, rfl, upd_same, T.cl, T.n3, (by rw [put_try]; show 2 < 1000; decide), _, rfl, _, rfl, x, C, dx, _, rfl, upd_same, T.cl, T.n4, (by rw [put_try, put_turn1]; show 3 < 1000; decide), ?_⟩
    refine kk _ ((Same.but s3).trans (But.upd_at.trans (But.upd_at.trans (But.upd_at.trans But.upd_at)))) ?_
    rw [upd_same, put_try, put_turn2]
end
end Ev
namespace Ev
open PySem L2 PySem.Spec PyProof.Rows
/-! Promises of defs that are called while no repr is under way (so what they make can be shown). -/
structure FnG (P : Program) (w : World) (K : PySem.W.Frag) (mg : Str → Option Value) (base : Heap) (k : Nat) (f : Addr)
    (fd : FuncData) (ps : List Str) (sp : Sp) : Prop where
  many : ∀ vs H Q E, sp vs H Q E → vs.length = ps.length
  goes : ∀ (A : Around) (above : List Env) (s : Shared) (H : Hp) (args : Args) (us : List Value) (vs : List V) (Q : VK)
    (E : XK), Room k A → A.guards = some [] → Env0 P w K mg base A above s H → BindsTo s fd args (ps.zip us) → Vals vs us →
    sp vs H Q E → codeAny (model P w) A (.call (.ref f) args) (CR CX0 above P w H s Q E) s
theorem FnG.of {P : Program} {w : World} {K : PySem.W.Frag} {mg : Str → Option Value} {base : Heap} {k : Nat} {f : Addr}
    {fd : FuncData} {ps : List Str} {sp : Sp} (F : FnOk P w K mg base CX0 k f fd ps sp) : FnG P w K mg base k f fd ps sp :=
  ⟨F.len, fun A above s H args us vs Q E hr _ => F.run A above s H args us vs Q E hr⟩
section
variable {P : Program} {w : World} {K : PySem.W.Frag} {mg : Str → Option Value} {base : Heap}
/-- a def by its body, where no repr is under way -/
theorem fng_of {x qual : Str} {st : Stmt} {f : Addr} {fd : FuncData} {N ps : List Str} {k : Nat} {sp : Sp} (F : Fun K x qual st f fd)
    (S : FnScope N ps (defScope st)) (many : ∀ vs H Q E, sp vs H Q E → vs.length = ps.length)
    (body : ∀ (cdv : Value) (A : Around) (above : List Env) (s : Shared) (H : Hp) (vs : List V) (Q : VK) (E : XK),
      Room k (A.deeper (envOfC qual (defScope st) s.heap.objs.size f cdv)) → A.guards = some [] → sp vs H Q E →
      ∃ t, PSs (cxOf CX0 P w K mg base N qual (defScope st) f cdv A above s H E).nox (defBody st) t ∧
        t { nx := fun _ H' => Q .non H', rt := Q } (start N vs) H) : FnG P w K mg base (k + 1) f fd ps sp := by
  obtain ⟨oc, od, kV, doc, pm, an, cdv, ct, osl, rfl, lk, hcd⟩ := F.ex
  constructor
  · exact many
  · intro A above s H args us vs Q E room gd env bt rv hs
    have inK : K.In s.heap := env.mod.kin.keeps fun b o e => (env.bs b o e).1
    have noLim : s.heap.NoLimit := env.mod.nolimit.keeps fun b o e => (env.bs b o e).1
    have kinds : ∀ y ∈ ps.zip us, (defScope st).names.lookup y.1 = some .local ∨
        ((defScope st).names.lookup y.1 = some .cell ∧ ((cellsFrom (s.heap.objs.size + 1) (defScope st).names []).lookup y.1).isSome = true) := by
      rintro ⟨n, v⟩ hy
      cases S.par n (List.of_mem_zip hy).1 with
      | inl q => exact .inl q
      | inr q => exact .inr ⟨q, PySem.W.cellsFrom_some _ _ _ (.inl q)⟩
    refine codeAny_call_function room.depth (inK _ _ lk) rfl S.co S.gen rfl (PySem.W.codeRec_of inK hcd) (bt _ _ _ _ ?_)
    refine wpAny_newFunctionEnv_cells S.kind kinds fun e2 he s2 x => ?_
    subst he
    refine ⟨noLim.keeps x.toInCall.keep, codeAny_func ?_⟩
    obtain ⟨t, ht, hq⟩ := body cdv A above s H vs Q E (room.deeper _) gd hs
    have inv := inv_start (CX := CX0) (E := E) S room.hd env (many _ _ _ _ hs) rv x
    refine wpAny_mono (ht.nox.run [] s2 (start N vs) H _ inv hq) (fun fl s3 h3 => ?_) fun e s3 h3 => h3
    cases fl with
    | ret u =>
      obtain ⟨v, σ3, H3, J, rr, q⟩ := h3
      exact ⟨v, H3, J.os, J.bare, J.base, J.hok, rr, q⟩
    | next =>
      obtain ⟨σ3, H3, J, q⟩ := h3
      exact ⟨.non, H3, J.os, J.bare, J.base, J.hok, rfl, q⟩
    | brk =>
      obtain ⟨_, _, _, z⟩ := h3
      exact False.elim z
    | cont =>
      obtain ⟨_, _, _, z⟩ := h3
      exact False.elim z
end
section
variable {X : Cx}
/-- f(e, ..) of such a def -/
theorem pe_callG {k : Nat} {f : Addr} {fd : FuncData} {ps : List Str} {sp : Sp} {E : XK} {x : Str} {p pos : Pos} {e : Expr} {es : List Expr} {t : TA}
    (F : FnG X.prog X.w X.K X.mg X.base k f fd ps sp) (room : Room k X.A) (gd : X.A.guards = some []) (hg : Gl X x)
    (hm : X.mg x = some (.ref f)) (kp : PySem.W.keepIn X.K (.ref f) = true) (hb : Binds X.K fd ps []) (ha : PA X (e :: es) t)
    (hdb : (x == ("__debug__" : Str)) = false := by decide)
    (he : starEach (e :: es) X.env = (false, eval e X.env) :: starEach es X.env := by rfl)
    (hpl : (backTo pos (starEach es X.env)).any (·.1) = false := by rfl) :
    PE X (.Call (.Name x p) (e :: es) [] pos) (tCall sp [] E t) := by
  constructor
  intro pins s σ H Q I h
  refine wpAny_Call_Name_kw (ld_glob I hg hm ?_ hdb)
  refine PySem.W.callWith_K (h₀ := X.base) I.ok.mod.kin kp (thn (ha.run pos pins s σ H _ I h) fun us s1 d => ?_) he hpl
  obtain ⟨vs, H1, I1, rv, q⟩ := d
  refine ⟨I1.kIn, ?_⟩
  have q : sp vs H1 Q E := by
    have q' : sp (vs ++ []) H1 Q E := q
    rw [List.append_nil] at q'
    exact q'
  have hl : us.length = ps.length := rv.length.symm.trans (F.many _ _ _ _ q)
  have bt := hb s1 us I1.kIn (by rw [List.append_nil]; exact hl)
  rw [List.append_nil] at bt
  refine wpAny_call (codeAny_mono (F.goes X.A X.stack s1 H1 ⟨us, []⟩ us vs Q E room gd I1.env0 bt rv q) fun r s2 h2 => ?_)
  cases r with
  | error e => exact False.elim h2
  | ok fl =>
    cases fl with
    | ret u => exact I1.after h2
    | next => exact False.elim h2
    | brk => exact False.elim h2
    | cont => exact False.elim h2
/-- repr of data, where none is under way -/
def rRepr (K : PySem.W.Frag) : List V → Hp → VK → Prop := fun xs H Q => ∃ (a : Addr) (d : PyData), xs = [.ref a] ∧ Dp K H (.ref a) d ∧
  d.showable = true ∧ d.hasDict = false ∧ d.depth ≤ 32 ∧ d.shown.length ≤ sizeLine ∧ Q (.str d.shown) H
theorem call_repr (gd : X.A.guards = some []) (hu : X.A.units + 64 < cLine) : CallR X (.builtin "repr") (rRepr X.K) := by
  intro pins s σ H xs us Q I r h
  obtain ⟨a, d, rfl, hd, h1, h2, h3, h4, q⟩ := h
  cases r with
  | cons r1 r2 =>
    cases r2
    cases r1
    obtain ⟨as, rd⟩ := Dp.reads I d (.ref a) (.ref a) hd rfl
    exact repr_of_reads' rd h1 (fun z => by rw [h2] at z; cases z) gd (by omega) (fun _ _ e => e)
      (fun h' u tk hk => ⟨.str d.shown, H, I.kept hk, ⟨u, rfl⟩, q⟩) h4
end
/-! ### the law's own call -/
section
variable {P : Program} {w : World} {K : PySem.W.Frag} {mg mb : Str → Option Value}
theorem law_callG {k : Nat} {fa a : Addr} {fd : FuncData} {x : Str} {sp : Sp} {s : Shared} {vs : List Value} {ns : List Int}
    (inK : K.In s.heap) (ns1 : s.heap.Ns mainGlobals mg) (ns2 : s.heap.Ns builtinsNs mb) (blt : ∀ x : Str, x ≠ "__name__" → mb x = bootBuiltins x)
    (noLim : s.heap.NoLimit) (hg : s.gens = #[]) (ha : s.heap.get? a = some { cls := .type "list", data := .seq vs.toArray })
    (hi : IntsAre vs ns) (hl : ns.length ≤ sizeLine) (hr : Room k callerA)
    (F : ∀ base : Heap, K.In base → base.Ns mainGlobals mg → FnG P w K mg base k fa fd [x] sp)
    (bt : ∀ (s : Shared) (u : Value), BindsTo s fd ⟨[u], []⟩ [(x, u)])
    (hsp : ∀ H : Hp, SqL K H a (ns.map V.int) → sp [.ref a] H (fun v _ => v = .bl true) fun _ _ _ => False) :
    codeAny (model P w) callerA (.call (.ref fa) ⟨[.ref a], []⟩)
      (fun r s' => r = .ok (.ret (.bool true)) ∧ OldK s.heap s'.heap ∧ s'.os = s.os ∧ AllBare s'.gens) s := by
  have rv := vals_ints hi
  have lv := hi.length
  have key : ∀ H : Hp, (∀ b u, H b = some u → b = a ∧ K.lookup a = none ∧ u = .frz { cls := .type "list", data := .seq vs.toArray } (.lst (ns.map V.int))) →
      SqL K H a (ns.map V.int) → codeAny (model P w) callerA (.call (.ref fa) ⟨[.ref a], []⟩)
        (fun r s' => r = .ok (.ret (.bool true)) ∧ OldK s.heap s'.heap ∧ s'.os = s.os ∧ AllBare s'.gens) s := by
    intro H only sq
    have ok : HOk P w H s.heap := by
      intro b u e
      obtain ⟨rfl, _, rfl⟩ := only b u e
      exact ⟨ha, by rw [List.length_map]; exact hl, vs, _, rv, ha⟩
    have plain : ∀ {b : Addr} {o : Obj} {es : Array DictEntry} {n : Nat}, s.heap.get? b = some o → o.data = .dict es n → H b = none := by
      intro b o es n e d
      cases q : H b with
      | none => rfl
      | some u =>
        obtain ⟨rfl, _, _⟩ := only b u q
        rw [ha] at e
        cases e
        exact nomatch d
    have names : ∀ {b : Addr} {m : Str → Option Value}, s.heap.Ns b m → (hidT s.heap H).Ns b m := by
      rintro b m ⟨o, es, n, e, d, r⟩
      exact ⟨o, es, n, hidT_get e (plain e d), d, r⟩
    have inB : K.In (hidT s.heap H) := by
      intro b o e
      refine hidT_get (inK b o e) ?_
      cases q : H b with
      | none => rfl
      | some u =>
        obtain ⟨rfl, n, _⟩ := only b u q
        rw [n] at e
        cases e
    obtain ⟨mc, l1, l2⟩ := noLim
    have md : Mod K mg (hidT s.heap H) := ⟨inB, names ns1, ⟨mb, names ns2, blt⟩, ⟨mc, names l1, l2⟩⟩
    have env : Env0 P w K mg (hidT s.heap H) callerA [] s H :=
      ⟨rfl, md, fun b o e => of_hidT e, Nat.le_of_eq (hidT_size _ _), trivial, (fun b hb => by cases hb), ok, .of_eq hg⟩
    have go := (F _ inB (names ns1)).goes callerA [] s H ⟨[.ref a], []⟩ [.ref a] [.ref a] _ _ hr rfl env (bt s (.ref a)) (.cons rfl .nil) (hsp H sq)
    refine codeAny_mono go fun r s2 h2 => ?_
    cases r with
    | error e => exact False.elim h2
    | ok fl =>
      cases fl with
      | next => exact False.elim h2
      | brk => exact False.elim h2
      | cont => exact False.elim h2
      | ret u =>
        obtain ⟨v, H2, os, bare, un, ok2, rr, q⟩ := h2
        obtain rfl : v = V.bl true := q
        obtain rfl : u = Value.bool true := rr
        refine ⟨rfl, OldK.of_keep fun b o e => ?_, os, bare⟩
        cases q : H b with
        | none => exact un.keep b o e q (by intro z; cases z) (by simp)
        | some u =>
          obtain ⟨rfl, _, rfl⟩ := only b u q
          obtain ⟨e1, _⟩ := ok b _ q
          obtain ⟨e2, _⟩ := ok2 b _ (un.frzs b _ _ q)
          rw [e] at e1
          cases e1
          exact e2
  cases hk : K.lookup a with
  | none =>
    refine key (fun b => if b = a then some (.frz { cls := .type "list", data := .seq vs.toArray } (.lst (ns.map V.int))) else none) (fun b u e => ?_) (.inl (.inr ⟨_, if_pos rfl⟩))
    by_cases z : b = a
    · rw [if_pos z] at e
      cases e
      exact ⟨z, hk, rfl⟩
    · rw [if_neg z] at e
      cases e
  | some o =>
    have e := inK a o hk
    rw [ha] at e
    cases e
    refine key (fun _ => none) (fun b u e => by cases e) (.inr ⟨_, vs.toArray, _, hk, rfl, rfl, rfl, ?_, by simpa using rv⟩)
    rw [List.size_toArray, lv]
    exact hl
end
theorem walk_ofG {l : PySem.W.OpenLaw} {n k : Nat} {q : Program} {loose : List Str} {XP : (Str → Option Value) → Heap → Prop} {YP : World → Heap → Prop}
    {d : DefRec} {K : Params → PySem.W.Frag} {sp : World → Sp} {x : Str} (hn : l.most = some n) (hn2 : n ≤ sizeLine) (hdf : d.params.defaults = [])
    (hr : Room k callerA) (hY : ∀ (w : World) (h : Heap), YP w h → (K w.params).In h)
    (F : ∀ (w : World) (mg : Str → Option Value) (fa : Addr) (h : Heap), (K w.params).In h → h.Ns mainGlobals mg → mg d.name = some (.ref fa) →
      ∃ fd : FuncData, (∀ (s : Shared) (u : Value), BindsTo s fd ⟨[u], []⟩ [(x, u)]) ∧
        ∀ base : Heap, (K w.params).In base → base.Ns mainGlobals mg → FnG l.prog w (K w.params) mg base k fa fd [x] (sp w))
    (hsp : ∀ (w : World) (H : Hp) (a : Addr) (ns : List Int), ns.length ≤ n → SqL (K w.params) H a (ns.map V.int) → sp w [.ref a] H (fun v _ => v = .bl true) fun _ _ _ => False) :
    PySem.W.WalkO q loose XP YP l.row.toRowW d [] (fun f vs => PySem.call f vs) := by
  refine Att.attach_call hn hdf fun w s0 s1 mg mb fa o pm cd doc a vs ns G Y h1 h2 h3 h4 h5 h6 h7 h8 => ?_
  obtain ⟨fd, bt, hF⟩ := F w mg fa _ (hY w _ Y) G.T.g h4
  exact law_callG (hY w _ Y) G.T.g G.T.b G.T.builtins G.T.nolimit h8 h5 h6 (Nat.le_trans h7 hn2) hr hF bt (fun H sq => hsp w H a ns h7 sq)
end Ev
namespace Ev
open PySem L2 PySem.Spec PyProof.Rows
theorem walk_ofGE {l : PySem.W.OpenLaw} {n k : Nat} {q : Program} {loose : List Str} {XP : (Str → Option Value) → Heap → Prop} {YP : World → Heap → Prop}
    {d : DefRec} {x : Str} (hn : l.most = some n) (hn2 : n ≤ sizeLine) (hdf : d.params.defaults = []) (hr : Room k callerA)
    (F : ∀ (w : World) (mg : Str → Option Value) (fa : Addr) (h : Heap), YP w h → h.Ns mainGlobals mg → mg d.name = some (.ref fa) →
      ∃ (K : PySem.W.Frag) (fd : FuncData) (sp : Sp), K.In h ∧ (∀ (s : Shared) (u : Value), BindsTo s fd ⟨[u], []⟩ [(x, u)]) ∧
        (∀ (H : Hp) (a : Addr) (ns : List Int), ns.length ≤ n → SqL K H a (ns.map V.int) → sp [.ref a] H (fun v _ => v = .bl true) fun _ _ _ => False) ∧
        ∀ base : Heap, K.In base → base.Ns mainGlobals mg → FnG l.prog w K mg base k fa fd [x] sp) :
    PySem.W.WalkO q loose XP YP l.row.toRowW d [] (fun f vs => PySem.call f vs) := by
  refine Att.attach_call hn hdf fun w s0 s1 mg mb fa o pm cd doc a vs ns G Y h1 h2 h3 h4 h5 h6 h7 h8 => ?_
  obtain ⟨K, fd, sp, inK, bt, hsp, hF⟩ := F w mg fa _ Y G.T.g h4
  exact law_callG inK G.T.g G.T.b G.T.builtins G.T.nolimit h8 h5 h6 (Nat.le_trans h7 hn2) hr hF bt (fun H sq => hsp H a ns h7 sq)
end Ev
namespace Ev
open PySem L2 PySem.Spec PyProof.Rows
theorem Pen.new {L : Addr} {H : Hp} {p q : Addr} {B : Int} {o : HO} (h : Pen L H p B) (n : H q = none) : Pen L (upd H q o) p B := h.keep (fun b u e => by rw [upd_ne (ne_of_none e n)]; exact e)
theorem Pen.some {L : Addr} {H : Hp} {p : Addr} {B : Int} (h : Pen L H p B) : ∃ xs, H p = some (.lst xs) := by
  obtain ⟨ns, t, c, h1, _⟩ := h
  exact ⟨_, h1⟩
theorem Pen.ne {L : Addr} {H : Hp} {p q : Addr} {B : Int} (h : Pen L H p B) (n : H q = none) : q ≠ p := by
  obtain ⟨xs, e⟩ := h.some
  exact (ne_of_none e n).symm
theorem But.free {L p a : Addr} {H H' : Hp} {B : Int} (t : But p H H') (h : Pen L H' p B) (n : H' a = none) : H a = none := by
  cases e : H a with
  | none => rfl
  | some o =>
    have := t a o (h.ne n) e
    rw [n] at this
    cases this
def spPick : Sp := fun vs H Q _ => ∃ (p l L : Addr) (xs : List V) (B : Int), vs = [.ref p, .ref l] ∧ H l = some (.lst xs) ∧ l ≠ p ∧ 1 ≤ xs.length ∧ xs.length ≤ 1000 ∧ B ≤ 1000000 ∧ Pen L H p B ∧
  ∀ (d : V) (H' : Hp), d ∈ xs → But p H H' → Pen L H' p (B + 1) → Q d H'
inductive Row
  | tr (p q k : Int)
  | tn (p q k t s c : Int)
def Row.vs : Row → List V
  | .tr p q k => [.int p, .int q, .int k]
  | .tn p q k t s c => [.int p, .int q, .int k, .int t, .int s, .int c]
def Row.p : Row → Int
  | .tr p _ _ => p
  | .tn p _ _ _ _ _ => p
def Row.q : Row → Int
  | .tr _ q _ => q
  | .tn _ q _ _ _ _ => q
def Row.k : Row → Int
  | .tr _ _ k => k
  | .tn _ _ k _ _ _ => k
def okN (p q k : Int) : Prop := 1 ≤ q ∧ q ≤ p ∧ p ≤ 6 ∧ -6 ≤ k ∧ k ≤ 6 ∧ 2 * q ≤ p + k
def okT (t s c : Int) : Prop := (1 ≤ t ∧ t ≤ 8) ∧ (1 ≤ s ∧ s ≤ 8) ∧ -6 ≤ c ∧ c ≤ 6
def Row.ok : Row → Prop
  | .tr p q k => okN p q k
  | .tn p q k t s c => okN p q k ∧ okT t s c
def spNums : Sp := fun vs H Q _ => ∃ (p L : Addr) (B : Int), vs = [.ref p] ∧ B ≤ 900000 ∧ Pen L H p B ∧
  ∀ (a : Addr) (p' q k t s c : Int) (H' : Hp), okN p' q k → okT t s c → H a = none → H' a = some (.tup (Row.tn p' q k t s c).vs) → But p H H' → Pen L H' p (B + 9) → Q (.ref a) H'
section
variable {P : Program} {w : World} {K : PySem.W.Frag} {mg : Str → Option Value} {base : Heap}
theorem scPick : FnScope ["_law_pen_here", "_law_some"] ["_law_pen_here", "_law_some"] (defScope sPick) := ⟨rfl, rfl, rfl, by decide +kernel, rfl, by decide +kernel, by decide +kernel⟩
theorem ok_pick {f : Addr} {fd : FuncData} (F : Fun K "_law_pick" "_law_pick" sPick f fd) (T : Blt mg) (D : Df P w K mg base 1 "_law_draw" ["_law_pen_here", "_law_many"] spDraw) : FnOk P w K mg base CX0 2 f fd ["_law_pen_here", "_law_some"] spPick := by
  obtain ⟨f1, fd1, G1, g1, k1, b1⟩ := D.ex
  refine F.ok scPick (fun vs H Q E h => ?_) (fun cdv A outer s H vs Q E hr h => ?_)
  · obtain ⟨p, l, L, xs, B, rfl, _⟩ := h
    rfl
  · obtain ⟨p, l, L, xs, B, rfl, hl, hne, x1, x2, hB, hp, kk⟩ := h
    refine ⟨_, pss_one (ps_ret (pe_ix ix_list (pv 1) (pe_call G1 hr (by rfl) g1 k1 b1 .nil pass0 (pa_cons (pv 0) (pa_cons (pe_callB call_len_seq (by rfl) T.len PySem.boot_len (pa_cons (pv 1) pa_nil)) pa_nil))) (fun _ _ => rfl))), ?_⟩
    refine ⟨_, rfl, _, rfl, _, rfl, l, _, rfl, .inl (SqL.of hl), p, L, _, B, rfl, by omega, by omega, hB, hp, fun d H1 bt pn d0 d1 => ?_⟩
    obtain ⟨j, rfl⟩ := Int.eq_ofNat_of_zero_le d0
    have hj : j < xs.length := by omega
    refine ⟨l, xs, _, xs[j], rfl, rfl, SqL.of (bt _ _ hne hl), atI_nat (List.getElem?_eq_getElem hj), ?_⟩
    exact kk _ _ (List.getElem_mem hj) bt pn
end
end Ev
namespace Ev
open PySem L2 PySem.Spec PyProof.Rows
def ObjAt (Ct Cn : Addr) (H : Hp) (r : Addr) : Row → Prop
  | .tr p q k => ∃ dx a : Addr, H r = some (.ins Ct dx (tryF a k)) ∧ H a = some (.tup [.int p, .int q])
  | .tn p q k t s c => ∃ dx a b : Addr, H r = some (.ins Cn dx (turnF a k b c)) ∧ H a = some (.tup [.int p, .int q]) ∧ H b = some (.tup [.int t, .int s])
theorem ObjAt.keep {Ct Cn : Addr} {H H' : Hp} {r : Addr} {row : Row} (h : ObjAt Ct Cn H r row) (k : Same H H') : ObjAt Ct Cn H' r row := by
  cases row with
  | tr p q kk =>
    obtain ⟨dx, a, h1, h2⟩ := h
    exact ⟨dx, a, k _ _ h1, k _ _ h2⟩
  | tn p q kk t s c =>
    obtain ⟨dx, a, b, h1, h2, h3⟩ := h
    exact ⟨dx, a, b, k _ _ h1, k _ _ h2, k _ _ h3⟩
theorem ObjAt.but {Ct Cn p : Addr} {H H' : Hp} {r : Addr} {row : Row} {xs : List V} (h : ObjAt Ct Cn H r row) (hp : H p = some (.lst xs)) (k : But p H H') : ObjAt Ct Cn H' r row := by
  cases row with
  | tr p q kk =>
    obtain ⟨dx, a, h1, h2⟩ := h
    exact ⟨dx, a, k _ _ (ne_of h1 hp (by intro z; cases z)) h1, k _ _ (ne_of h2 hp (by intro z; cases z)) h2⟩
  | tn p q kk t s c =>
    obtain ⟨dx, a, b, h1, h2, h3⟩ := h
    exact ⟨dx, a, b, k _ _ (ne_of h1 hp (by intro z; cases z)) h1, k _ _ (ne_of h2 hp (by intro z; cases z)) h2, k _ _ (ne_of h3 hp (by intro z; cases z)) h3⟩
theorem ObjAt.rb {K : PySem.W.Frag} {Ct Cn : Addr} {H : Hp} {r : Addr} {row : Row} (h : ObjAt Ct Cn H r row) (T : RCls K Ct) (N : RCls K Cn) (o : row.ok) : RB K H r row.p row.q row.k := by
  cases row with
  | tr p q kk =>
    obtain ⟨dx, a, h1, h2⟩ := h
    obtain ⟨o1, o2, o3, o4, o5, o6⟩ := o
    exact ⟨⟨Ct, dx, _, a, h1, T.cl, T.n1, T.n2, try_times a kk, try_plus a kk, h2⟩, o1, o2, o3, o4, o5⟩
  | tn p q kk t s c =>
    obtain ⟨dx, a, b, h1, h2, h3⟩ := h
    obtain ⟨⟨o1, o2, o3, o4, o5, o6⟩, _⟩ := o
    exact ⟨⟨Cn, dx, _, a, h1, N.cl, N.n1, N.n2, turn_times a kk b c, turn_plus a kk b c, h2⟩, o1, o2, o3, o4, o5⟩
def spRule (Ct Cn : Addr) : Sp := fun vs H Q _ => ∃ (l : Addr) (p q k t s c : Int) (b : Bool), vs = [.ref l, .bl b] ∧ H l = some (.tup (Row.tn p q k t s c).vs) ∧ okN p q k ∧ okT t s c ∧
  ∀ (r : Addr) (H' : Hp) (row : Row), Same H H' → ObjAt Ct Cn H' r row → row.ok → row.p = p → row.q = q → row.k = k → Q (.ref r) H'
section
variable {P : Program} {w : World} {K : PySem.W.Frag} {mg : Str → Option Value} {base : Heap}
theorem Row.okN {row : Row} (o : row.ok) : Ev.okN row.p row.q row.k := by
  cases row with
  | tr p q k => exact o
  | tn p q k t s c => exact o.1
theorem max6 {c : Int} (h : -6 ≤ c) : (if c > -6 then c else -6) = c := by
  by_cases z : c > -6
  · exact if_pos z
  · rw [if_neg z]; omega
end
end Ev
namespace Ev
open PySem L2 PySem.Spec PyProof.Rows
def leastV (p q k y : Int) : Int := if -((k - q * y).fdiv p) > 1 then -((k - q * y).fdiv p) else 1
theorem least_le {p q k y x : Int} (hp : 1 ≤ p) (hx : 1 ≤ x) : leastV p q k y ≤ x ↔ q * y ≤ p * x + k := by
  unfold leastV
  rw [Int.fdiv_eq_ediv_of_nonneg _ (by omega)]
  have h1 : -x ≤ (k - q * y) / p ↔ -x * p ≤ k - q * y := Int.le_ediv_iff_mul_le (by omega)
  have h2 : -x * p = -(p * x) := by rw [Int.neg_mul, Int.mul_comm]
  rw [h2] at h1
  generalize q * y = a at h1 ⊢
  generalize p * x = b at h1 ⊢
  generalize (k - a) / p = c at h1 ⊢
  by_cases z : -c > 1
  · rw [if_pos z]
    constructor
    · intro h; have := h1.mp (by omega); omega
    · intro h; have := h1.mpr (by omega); omega
  · rw [if_neg z]
    constructor
    · intro h; have := h1.mp (by omega); omega
    · intro h; omega
theorem least_pos (p q k y : Int) : 1 ≤ leastV p q k y := by
  unfold leastV
  by_cases z : -((k - q * y).fdiv p) > 1
  · rw [if_pos z]; omega
  · rw [if_neg z]; omega
def greatV (p q k x : Int) : Int := (p * x + k).fdiv q
theorem le_great {p q k x y : Int} (hq : 1 ≤ q) : y ≤ greatV p q k x ↔ q * y ≤ p * x + k := by
  unfold greatV
  rw [Int.fdiv_eq_ediv_of_nonneg _ (by omega), Int.le_ediv_iff_mul_le (by omega), Int.mul_comm]
theorem great_ge {p q k x : Int} (o : okN p q k) (hx : 1 ≤ x) : x + 1 ≤ greatV p q k x := by
  obtain ⟨o1, o2, o3, o4, o5, o6⟩ := o
  refine (le_great o1).mpr ?_
  have h1 : q * (x - 1) ≤ p * (x - 1) := Int.mul_le_mul_of_nonneg_right o2 (by omega)
  rw [Int.mul_sub, Int.mul_sub, Int.mul_one, Int.mul_one] at h1
  rw [Int.mul_add, Int.mul_one]
  omega
def Wt (p q k : Int) : Nat → Int
  | 0 => 1
  | n + 1 => Wt p q k n + leastV p q k (Wt p q k n)
theorem Wt_lt (p q k : Int) (n : Nat) : Wt p q k n + 1 ≤ Wt p q k (n + 1) := by
  have := least_pos p q k (Wt p q k n)
  show Wt p q k n + 1 ≤ Wt p q k n + leastV p q k (Wt p q k n)
  omega
theorem Wt_ge (p q k : Int) : ∀ n : Nat, (n : Int) + 1 ≤ Wt p q k n
  | 0 => by show ((0 : Nat) : Int) + 1 ≤ 1; decide
  | n + 1 => by
    have h1 := Wt_ge p q k n
    have h2 := Wt_lt p q k n
    omega
theorem Wt_add (p q k : Int) (m : Nat) : ∀ d : Nat, Wt p q k m + (d : Int) ≤ Wt p q k (m + d)
  | 0 => by simp
  | d + 1 => by
    have h1 := Wt_add p q k m d
    have h2 := Wt_lt p q k (m + d)
    rw [show m + (d + 1) = m + d + 1 by omega]
    omega
theorem Wt_mono (p q k : Int) {m n : Nat} (h : m ≤ n) : Wt p q k m ≤ Wt p q k n := by
  obtain ⟨d, rfl⟩ := Nat.exists_eq_add_of_le h
  have := Wt_add p q k m d
  omega
/-- the greatest height whose least weight is not above m -/
def IsH (p q k m : Int) (h : Nat) : Prop := Wt p q k h ≤ m ∧ m < Wt p q k (h + 1)
theorem IsH.mono {p q k m m' : Int} {h h' : Nat} (a : IsH p q k m h) (b : IsH p q k m' h') (l : m ≤ m') : h ≤ h' := by
  by_cases z : h ≤ h'
  · exact z
  · have := Wt_mono p q k (show h' + 1 ≤ h by omega)
    have := a.1
    have := b.2
    omega
theorem IsH.uniq {p q k m : Int} {h h' : Nat} (a : IsH p q k m h) (b : IsH p q k m h') : h = h' :=
  Nat.le_antisymm (a.mono b (Int.le_refl _)) (b.mono a (Int.le_refl _))
theorem IsH.at (p q k : Int) (n : Nat) : IsH p q k (Wt p q k n) n := ⟨Int.le_refl _, by have := Wt_lt p q k n; omega⟩
theorem IsH.small {p q k m : Int} {h : Nat} (a : IsH p q k m h) : (h : Int) + 1 ≤ m := by
  have := Wt_ge p q k h
  have := a.1
  omega
theorem least_lt {p q k y : Int} (o : okN p q k) (h : 2 ≤ y) : leastV p q k y ≤ y - 1 := by
  have g := great_ge (x := y - 1) o (by omega)
  have g := (le_great o.1).mp (show y ≤ greatV p q k (y - 1) by omega)
  obtain ⟨o1, o2, o3, o4, o5, o6⟩ := o
  exact (least_le (by omega) (by omega)).mpr g
theorem least_ge {p q k y : Int} (o : okN p q k) (h : 12 ≤ y) : y ≤ 12 * leastV p q k y := by
  obtain ⟨o1, o2, o3, o4, o5, o6⟩ := o
  have l1 := least_pos p q k y
  have l := (least_le (p := p) (k := k) (q := q) (y := y) (by omega) l1).mp (Int.le_refl _)
  have a : 1 * y ≤ q * y := Int.mul_le_mul_of_nonneg_right o1 (by omega)
  have b : p * leastV p q k y ≤ 6 * leastV p q k y := Int.mul_le_mul_of_nonneg_right o3 (by omega)
  omega
theorem Wt_one {p q k : Int} (o : okN p q k) : Wt p q k 1 = 2 := by
  show 1 + leastV p q k 1 = 2
  have l1 := least_pos p q k 1
  have : leastV p q k 1 ≤ 1 := (least_le (by have := o.1; have := o.2.1; omega) (Int.le_refl 1)).mpr (by
    obtain ⟨o1, o2, o3, o4, o5, o6⟩ := o
    omega)
  omega
/-- the tree of halves is a fair one -/
theorem Wt_two {p q k : Int} (o : okN p q k) : ∀ b : Nat, Wt p q k (b + 1) ≤ 2 ^ b + 1
  | 0 => by rw [Wt_one o]; decide
  | b + 1 => by
    have h := Wt_two o b
    have g := Wt_ge p q k (b + 1)
    have l := least_lt o (show 2 ≤ Wt p q k (b + 1) by omega)
    show Wt p q k (b + 1) + leastV p q k (Wt p q k (b + 1)) ≤ 2 ^ (b + 1) + 1
    rw [Int.pow_succ]
    omega
theorem Wt_dbl {p q k : Int} (o : okN p q k) {n : Nat} (h : 12 ≤ Wt p q k n) : ∀ d : Nat, 12 * Wt p q k n + d * Wt p q k n ≤ 12 * Wt p q k (n + d)
  | 0 => by simp
  | d + 1 => by
    have h1 := Wt_dbl o h d
    have m := Wt_mono p q k (show n ≤ n + d by omega)
    have l := least_ge o (show 12 ≤ Wt p q k (n + d) by omega)
    show 12 * Wt p q k n + ((d + 1 : Nat) : Int) * Wt p q k n ≤ 12 * (Wt p q k (n + d) + leastV p q k (Wt p q k (n + d)))
    rw [show ((d + 1 : Nat) : Int) * Wt p q k n = (d : Int) * Wt p q k n + Wt p q k n by rw [show ((d + 1 : Nat) : Int) = (d : Int) + 1 by omega, Int.add_mul, Int.one_mul]]
    omega
theorem Wt_exp {p q k : Int} (o : okN p q k) : ∀ j : Nat, 12 * 2 ^ j ≤ Wt p q k (11 + 12 * j)
  | 0 => by
    have := Wt_ge p q k 11
    simpa using this
  | j + 1 => by
    have h := Wt_exp o j
    have t : (1 : Int) ≤ 2 ^ j := by
      have : (0 : Int) < 2 ^ j := Int.pow_pos (by decide)
      omega
    have d := Wt_dbl o (show 12 ≤ Wt p q k (11 + 12 * j) by omega) 12
    rw [show 11 + 12 * (j + 1) = 11 + 12 * j + 12 by omega, Int.pow_succ]
    omega
theorem Wt_long {p q k : Int} (o : okN p q k) {n : Nat} (h : Wt p q k n ≤ 10 ^ 31) : n < 1300 := by
  by_cases z : n < 1300
  · exact z
  · have e := Wt_exp o 104
    have m := Wt_mono p q k (show 11 + 12 * 104 ≤ n by omega)
    have : (10 : Int) ^ 31 < 12 * 2 ^ 104 := by decide
    omega
/-- the least weights of the heights up to n -/
def wl (p q k : Int) (n : Nat) : List V := (List.range (n + 1)).map fun i => V.int (Wt p q k i)
theorem wl_zero (p q k : Int) : wl p q k 0 = [.int 1] := rfl
theorem wl_succ (p q k : Int) (n : Nat) : wl p q k n ++ [.int (Wt p q k (n + 1))] = wl p q k (n + 1) := by
  unfold wl
  rw [List.range_succ (n := n + 1), List.map_append]
  rfl
theorem wl_len (p q k : Int) (n : Nat) : (wl p q k n).length = n + 1 := by unfold wl; simp
theorem wl_get (p q k : Int) {n i : Nat} (h : i ≤ n) : (wl p q k n)[i]? = some (.int (Wt p q k i)) := by
  unfold wl
  rw [List.getElem?_map, List.getElem?_range (by omega)]
  rfl
end Ev
namespace Ev
open PySem L2 PySem.Spec PyProof.Rows RZ
theorem slA_any {K : PySem.W.Frag} {a : Addr} {xs : List V} {lo hi : Option Int} {H : Hp} {Q : VK} (h : H a = some (.tup xs)) (k : ∀ (a' : Addr) (H' : Hp), Same H H' → H' a' = some (.tup (cutV xs lo hi)) → Q (.ref a') H') : rSlA K (.ref a) lo hi H Q := by
  refine ⟨a, xs, rfl, SqT.of h, fun ⟨e1, e2⟩ => k a H (Same.refl H) ?_, fun _ p np => k p _ (same_new np) upd_same⟩
  rw [h]
  unfold cutV
  rw [e1, e2, List.drop_zero, Nat.sub_zero, List.take_length]
theorem cut3 (a b c : V) (xs : List V) : cutV (a :: b :: c :: xs) none (some 3) = [a, b, c] := by
  unfold cutV
  have h1 : HT.sIx (a :: b :: c :: xs).length 0 none = 0 := rfl
  have h2 : HT.sIx (a :: b :: c :: xs).length (a :: b :: c :: xs).length (some ((3 : Nat) : Int)) = min 3 (a :: b :: c :: xs).length := HT.sIx_nat _ _ 3
  rw [h1, show (3 : Int) = ((3 : Nat) : Int) from rfl, h2]
  simp
theorem lt6 {x : Int} : (if x < 6 then x else 6) = min x 6 := by
  by_cases h : x < 6
  · rw [if_pos h]; omega
  · rw [if_neg h]; omega
def spNumsL : Sp := fun vs H Q _ => ∃ (p L : Addr) (B : Int), vs = [.ref p] ∧ B ≤ 900000 ∧ Pen L H p B ∧
  ∀ (a : Addr) (p' q k t s c : Int) (H' : Hp), okN p' q k → okT t s c → H a = none → H' a = some (.tup (Row.tn p' q k t s c).vs) → But p H H' → Pen L H' p (B + 9) → Q (.ref a) H'
section
variable {P : Program} {w : World} {K : PySem.W.Frag} {mg : Str → Option Value} {base : Heap}
theorem scNums : FnScope ["_law_pen_here", "_law_q", "_law_p", "_law_k", "_law_s", "_law_t"] ["_law_pen_here"] (defScope sLNumbers) := ⟨rfl, rfl, rfl, by decide +kernel, rfl, by decide +kernel, by decide +kernel⟩
theorem mem_int {xs : List V} {d : V} {lo hi : Int} (h : d ∈ xs) (a : ∀ x ∈ xs, ∃ n, x = .int n ∧ lo ≤ n ∧ n ≤ hi) : ∃ n, d = .int n ∧ lo ≤ n ∧ n ≤ hi := a d h
theorem ok_nums {f : Addr} {fd : FuncData} (F : Fun K "_law_numbers" "_law_numbers" sLNumbers f fd) (T : Blt mg) (D1 : Df P w K mg base 1 "_law_draw" ["_law_pen_here", "_law_many"] spDraw) (D2 : Df P w K mg base 2 "_law_pick" ["_law_pen_here", "_law_some"] spPick) :
    FnOk P w K mg base CX0 3 f fd ["_law_pen_here"] spNumsL := by
  obtain ⟨f1, fd1, G1, g1, k1, b1⟩ := D1.ex
  obtain ⟨f2, fd2, G2, g2, k2, b2⟩ := D2.ex
  refine F.ok scNums (fun vs H Q E h => ?_) (fun cdv A outer s H vs Q E hr h => ?_)
  · obtain ⟨p, L, B, rfl, _⟩ := h
    rfl
  · obtain ⟨p, L, B, rfl, hB, hp, kk⟩ := h
    have hr1 : Room 1 _ := hr.mono (by decide)
    refine ⟨_, (pss_cons (ps_set (i := 1) scNums.nd rfl (.inl rfl) (pe_op op_add pe_int (pe_call G1 hr1 (by rfl) g1 k1 b1 .nil pass0 (pa_cons (pv 0) (pa_cons pe_int pa_nil)))))
    (pss_cons (ps_set (i := 2) scNums.nd rfl (.inl rfl) (pe_callB (call_min2 rfl) (by rfl) T.min (by decide +kernel) (pa_cons pe_int (pa_cons (pe_op op_add (pv 1) (pe_call G1 hr1 (by rfl) g1 k1 b1 .nil pass0 (pa_cons (pv 0) (pa_cons (pe_op op_add pe_int (pe_op op_mul pe_int (pv 1))) pa_nil)))) pa_nil))))
    (pss_cons (ps_set (i := 3) scNums.nd rfl (.inl rfl) (pe_call G2 hr (by rfl) g2 k2 b2 .nil pass0 (pa_cons (pv 0) (pa_cons (pe_lst (pa_cons pe_int (pa_cons pe_int (pa_cons pe_int (pa_cons (pe_op op_sub (pe_call G1 hr1 (by rfl) g1 k1 b1 .nil pass0 (pa_cons (pv 0) (pa_cons pe_int pa_nil))) pe_int) (pa_cons pe_int (pa_cons (pe_un un_neg pe_int) pa_nil))))))) pa_nil))))
    (pss_cons (ps_if (pt_cmpR op_lt (pe_op op_add (pv 2) (pv 3)) (pe_op op_mul pe_int (pv 1)) (nomark _))
      (pss_one (ps_set (i := 3) scNums.nd rfl (.inl rfl) (pe_op op_sub (pe_op op_mul pe_int (pv 1)) (pv 2)))) pss_nil)
    (pss_cons (ps_set (i := 4) scNums.nd rfl (.inl rfl) (pe_op op_add pe_int (pe_call G1 hr1 (by rfl) g1 k1 b1 .nil pass0 (pa_cons (pv 0) (pa_cons pe_int pa_nil)))))
    (pss_cons (ps_set (i := 5) scNums.nd rfl (.inl rfl) (pe_callB (call_min2 rfl) (by rfl) T.min (by decide +kernel) (pa_cons pe_int (pa_cons (pe_op op_add (pv 4) (pe_call G1 hr1 (by rfl) g1 k1 b1 .nil pass0 (pa_cons (pv 0) (pa_cons (pe_op op_add (pe_op op_mul pe_int (pv 4)) pe_int) pa_nil)))) pa_nil))))
    (pss_one (ps_ret (pe_tup (pa_cons (pv 2) (pa_cons (pv 1) (pa_cons (pe_callB (call_min2 rfl) (by rfl) T.min (by decide +kernel) (pa_cons pe_int (pa_cons (pv 3) pa_nil))) (pa_cons (pv 5) (pa_cons (pv 4) (pa_cons (pe_call G2 hr (by rfl) g2 k2 b2 .nil pass0 (pa_cons (pv 0) (pa_cons (pe_lst (pa_cons pe_int (pa_cons (pe_un un_neg pe_int) (pa_cons (pe_un un_neg (pv 4)) (pa_cons (pe_op op_sub (pe_call G1 hr1 (by rfl) g1 k1 b1 .nil pass0 (pa_cons (pv 0) (pa_cons pe_int pa_nil))) pe_int) pa_nil))))) pa_nil))) pa_nil))))))))))))))), ?_⟩
    refine ⟨_, rfl, p, L, _, B, rfl, by decide, by decide, by omega, hp, fun d1 H1 t1 p1 a1 c1 => ⟨_, _, rfl, rfl, ?_⟩⟩
    refine ⟨_, rfl, _, rfl, _, rfl, _, _, rfl, rfl, .inl ⟨by decide, by decide⟩, _, _, rfl, rfl, p, L, _, _, rfl, by omega, by omega, by omega, p1, fun d2 H2 t2 p2 a2 c2 => ⟨_, _, rfl, rfl, _, _, rfl, ?_⟩⟩
    have t02 := t1.trans t2
    obtain ⟨pp, hpp, pp1, pp2⟩ : ∃ pp : Int, (if 1 + d1 + d2 < 6 then 1 + d1 + d2 else 6) = pp ∧ 1 + d1 ≤ pp ∧ pp ≤ 6 := by
      refine ⟨_, rfl, ?_, ?_⟩ <;> split <;> omega
    rw [hpp]
    refine ⟨_, rfl, _, rfl, p, L, _, _, rfl, by decide, by decide, by omega, p2, fun d3 H3 t3 p3 a3 c3 => ⟨_, _, rfl, rfl, _, rfl, (by show 6 ≤ sizeLine; decide), fun l hl => ⟨p, l, L, _, _, rfl, upd_same, p3.ne hl, (by show 1 ≤ 6; decide), (by show 6 ≤ 1000; decide), by omega, p3.new hl, fun kv H4 m4 t4 p4 => ?_⟩⟩⟩
    obtain ⟨k0, rfl, k1', k2'⟩ : ∃ k0 : Int, kv = .int k0 ∧ -6 ≤ k0 ∧ k0 ≤ 6 := by
      simp only [List.mem_cons, List.not_mem_nil, or_false] at m4
      rcases m4 with e | e | e | e | e | e
      · exact ⟨_, e, by decide, by decide⟩
      · exact ⟨_, e, by decide, by decide⟩
      · exact ⟨_, e, by decide, by decide⟩
      · exact ⟨_, e, by omega, by omega⟩
      · exact ⟨_, e, by decide, by decide⟩
      · exact ⟨_, e, by decide, by decide⟩
    have t04 : But p H H4 := t02.trans (t3.trans ((Same.but (same_new hl)).trans t4))
    refine ⟨_, rfl, _, rfl, _, _, rfl, rfl, _, rfl, _, _, rfl, rfl, .inl ⟨by decide, by decide⟩, _, _, rfl, rfl, _, rfl, ite2 (fun e => ?_) (fun e => ?_)⟩
    · have e := of_decide_eq_true e
      refine ⟨_, rfl, _, _, rfl, rfl, .inl ⟨by decide, by decide⟩, _, rfl, _, _, rfl, rfl, ?_⟩
      refine ⟨_, rfl, p, L, _, _, rfl, by decide, by decide, by omega, p4, fun d5 H5 t5 p5 a5 c5 => ⟨_, _, rfl, rfl, ?_⟩⟩
      refine ⟨_, rfl, _, rfl, _, rfl, _, _, rfl, rfl, .inl ⟨by decide, by decide⟩, _, _, rfl, rfl, p, L, _, _, rfl, by omega, by omega, by omega, p5, fun d6 H6 t6 p6 a6 c6 => ⟨_, _, rfl, rfl, _, _, rfl, ?_⟩⟩
      obtain ⟨tt, htt, tt1, tt2⟩ : ∃ tt : Int, (if 1 + d5 + d6 < 8 then 1 + d5 + d6 else 8) = tt ∧ 1 ≤ tt ∧ tt ≤ 8 := by
        refine ⟨_, rfl, ?_, ?_⟩ <;> split <;> omega
      rw [htt]
      refine ⟨_, rfl, _, rfl, _, rfl, _, _, rfl, _, rfl, _, rfl, _, rfl, _, rfl, _, rfl, _, rfl, _, rfl, p, L, _, _, rfl, by decide, by decide, by omega, p6, fun d7 H7 t7 p7 a7 c7 => ⟨_, _, rfl, rfl, (by show 4 ≤ sizeLine; decide), fun l2 hl2 => ⟨p, l2, L, _, _, rfl, upd_same, p7.ne hl2, (by show 1 ≤ 4; decide), (by show 4 ≤ 1000; decide), by omega, p7.new hl2, fun cv H8 m8 t8 p8 => ⟨(by show 6 ≤ sizeLine; decide), fun a na => ?_⟩⟩⟩⟩
      obtain ⟨c0, rfl, c1', c2'⟩ : ∃ c0 : Int, cv = .int c0 ∧ -6 ≤ c0 ∧ c0 ≤ 6 := by
        simp only [List.mem_cons, List.not_mem_nil, or_false] at m8
        rcases m8 with e | e | e | e
        · exact ⟨_, e, by decide, by decide⟩
        · exact ⟨_, e, by decide, by decide⟩
        · exact ⟨_, e, by omega, by omega⟩
        · exact ⟨_, e, by omega, by omega⟩
      have t08 : But p H H8 := t04.trans (((t5.trans t6).trans t7).trans ((Same.but (same_new hl2)).trans t8))
      refine kk a _ _ _ _ _ _ _ ?_ ?_ (t08.free p8 na) upd_same (t08.trans (Same.but (same_new na))) ((p8.new na).mono (by omega))
      · refine ⟨by omega, by omega, by omega, ?_, ?_, ?_⟩ <;> split <;> omega
      · exact ⟨⟨by omega, by omega⟩, ⟨by omega, by omega⟩, by omega, by omega⟩
    · have e : ¬ (pp + k0 < 2 * (1 + d1)) := fun z => e (decide_eq_true z)
      refine ⟨_, rfl, p, L, _, _, rfl, by decide, by decide, by omega, p4, fun d5 H5 t5 p5 a5 c5 => ⟨_, _, rfl, rfl, ?_⟩⟩
      refine ⟨_, rfl, _, rfl, _, rfl, _, _, rfl, rfl, .inl ⟨by decide, by decide⟩, _, _, rfl, rfl, p, L, _, _, rfl, by omega, by omega, by omega, p5, fun d6 H6 t6 p6 a6 c6 => ⟨_, _, rfl, rfl, _, _, rfl, ?_⟩⟩
      obtain ⟨tt, htt, tt1, tt2⟩ : ∃ tt : Int, (if 1 + d5 + d6 < 8 then 1 + d5 + d6 else 8) = tt ∧ 1 ≤ tt ∧ tt ≤ 8 := by
        refine ⟨_, rfl, ?_, ?_⟩ <;> split <;> omega
      rw [htt]
      refine ⟨_, rfl, _, rfl, _, rfl, _, _, rfl, _, rfl, _, rfl, _, rfl, _, rfl, _, rfl, _, rfl, _, rfl, p, L, _, _, rfl, by decide, by decide, by omega, p6, fun d7 H7 t7 p7 a7 c7 => ⟨_, _, rfl, rfl, (by show 4 ≤ sizeLine; decide), fun l2 hl2 => ⟨p, l2, L, _, _, rfl, upd_same, p7.ne hl2, (by show 1 ≤ 4; decide), (by show 4 ≤ 1000; decide), by omega, p7.new hl2, fun cv H8 m8 t8 p8 => ⟨(by show 6 ≤ sizeLine; decide), fun a na => ?_⟩⟩⟩⟩
      obtain ⟨c0, rfl, c1', c2'⟩ : ∃ c0 : Int, cv = .int c0 ∧ -6 ≤ c0 ∧ c0 ≤ 6 := by
        simp only [List.mem_cons, List.not_mem_nil, or_false] at m8
        rcases m8 with e | e | e | e
        · exact ⟨_, e, by decide, by decide⟩
        · exact ⟨_, e, by decide, by decide⟩
        · exact ⟨_, e, by omega, by omega⟩
        · exact ⟨_, e, by omega, by omega⟩
      have t08 : But p H H8 := t04.trans (((t5.trans t6).trans t7).trans ((Same.but (same_new hl2)).trans t8))
      refine kk a _ _ _ _ _ _ _ ?_ ?_ (t08.free p8 na) upd_same (t08.trans (Same.but (same_new na))) ((p8.new na).mono (by omega))
      · refine ⟨by omega, by omega, by omega, ?_, ?_, ?_⟩ <;> split <;> omega
      · exact ⟨⟨by omega, by omega⟩, ⟨by omega, by omega⟩, by omega, by omega⟩
end
end Ev
namespace Ev
open PySem L2 PySem.Spec PyProof.Rows RZ
/-- a row of three or of six numbers -/
def spRule3 (Ct Cn : Addr) : Sp := fun vs H Q _ => ∃ (l : Addr) (row : Row), vs = [.ref l] ∧ H l = some (.tup row.vs) ∧ row.ok ∧ ∀ (r : Addr) (H' : Hp), Same H H' → ObjAt Ct Cn H' r row → Q (.ref r) H'
section
variable {P : Program} {w : World} {K : PySem.W.Frag} {mg : Str → Option Value} {base : Heap}
theorem scRule : FnScope ["_law_some", "_law_p", "_law_q", "_law_k"] ["_law_some"] (defScope sLRule) := ⟨rfl, rfl, rfl, by decide +kernel, rfl, by decide +kernel, by decide +kernel⟩
theorem ok_rule {f Ct Cn fT fN : Addr} {fd fdT fdN : FuncData} {g : List Value → List Value → List Value} (F : Fun K "_law_rule" "_law_rule" sLRule f fd) (T : Blt mg) (gT : mg "TryRule" = some (.ref Ct)) (gN : mg "TurnRule" = some (.ref Cn)) (MT : Mk K Ct fT) (MN : Mk K Cn fN)
    (GT : FnOk P w K mg base CX0 6 fT fdT ["self", "times", "plus"] (spTryInit Ct)) (bT : Binds K fdT ["self", "times", "plus"] [])
    (GN : FnOk P w K mg base CX0 6 fN fdN ["self", "times", "plus", "turn", "turn_plus"] (spTurnInit Cn)) (bN : KBn K fdN ["self", "times", "plus", "turn", "turn_plus"] 3 ["turn", "turn_plus"] g (fun vs zs => vs ++ zs)) :
    FnOk P w K mg base CX0 8 f fd ["_law_some"] (spRule3 Ct Cn) := by
  refine F.ok scRule (fun vs H Q E h => ?_) (fun cdv A outer s H vs Q E hr h => ?_)
  · obtain ⟨l, row, rfl, _⟩ := h
    rfl
  · obtain ⟨l, row, rfl, hl, ok, kk⟩ := h
    refine ⟨_, (pss_cons (ps_asg (pe_slice sl_tupA (pv 0) po_none (po_some pe_int)) (pg_tup (by rfl) (pgs_cons (pg_name (i := 1) scRule.nd rfl (.inl rfl)) (pgs_cons (pg_name (i := 2) scRule.nd rfl (.inl rfl)) (pgs_cons (pg_name (i := 3) scRule.nd rfl (.inl rfl)) pgs_nil)))))
    (pss_cons (ps_if (pt_cmpR op_eq (pe_callB call_len_seq (by rfl) T.len PySem.boot_len (pa_cons (pv 0) pa_nil)) pe_int (nomark _))
      (pss_one (ps_ret (pe_make MT GT (hr.mono (by decide)) (by rfl) gT bT .nil pass0 (pa_cons (pe_tup (pa_cons (pv 1) (pa_cons (pv 2) pa_nil))) (pa_cons (pv 3) pa_nil))))) pss_nil)
    (pss_one (ps_ret (pe_makeN (n := 2) MN GN (hr.mono (by decide)) (by rfl) gN bN pass0 (pa_cons (pe_tup (pa_cons (pv 1) (pa_cons (pv 2) pa_nil))) (pa_cons (pv 3) pa_nil)) (pk_cons (pe_tup (pa_cons (pe_ix ix_tup (pv 0) pe_int (fun _ _ => rfl)) (pa_cons (pe_ix ix_tup (pv 0) pe_int (fun _ _ => rfl)) pa_nil))) (pk_cons (pe_ix ix_tup (pv 0) pe_int (fun _ _ => rfl)) pk_nil))))))), ?_⟩
    refine ⟨_, rfl, _, rfl, slA_any hl fun l' H1 s1 hl' => ?_⟩
    have hl1 := s1 _ _ hl
    cases row with
    | tr p q k =>
      obtain ⟨o1, o2, o3, o4, o5, o6⟩ := ok
      rw [show cutV (Row.tr p q k).vs none (some 3) = [.int p, .int q, .int k] from cut3 _ _ _ []] at hl'
      refine ⟨l', _, rfl, SqT.of hl', rfl, _, _, rfl, _, _, rfl, _, _, rfl, rfl, ?_⟩
      refine ⟨_, rfl, l, _, rfl, .inr (SqT.of hl1), rfl, _, rfl, ?_⟩
      refine iteT ⟨_, rfl, _, rfl, (by show 2 ≤ sizeLine; decide), fun tp ntp => ⟨_, rfl, fun x dx nx ndx nex => ?_⟩⟩
      have f1 : upd H1 tp (.tup [.int p, .int q]) tp = some (.tup [.int p, .int q]) := upd_same
      have s2 : Same H (upd H1 tp (.tup [.int p, .int q])) := s1.trans (same_new ntp)
      generalize upd H1 tp (.tup [.int p, .int q]) = H2 at f1 s2 nx ndx ⊢
      have keep : ∀ (o1 o2 : HO) (b : Addr) (u : HO), H2 b = some u → upd (upd H2 dx o1) x o2 b = some u := fun o1 o2 b u e => by
        rw [upd_ne (ne_of_none e nx), upd_ne (ne_of_none e ndx)]; exact e
      refine ⟨x, dx, tp, p, q, k, rfl, upd_same, keep _ _ _ _ f1, o1, o2, o3, o4, o5, o6, fun H3 t3 hx3 => ⟨rfl, ?_⟩⟩
      have s3 : ∀ b u, H2 b = some u → H3 b = some u := fun b u e => t3 _ _ (ne_of_none e nx) (keep _ _ _ _ e)
      exact kk x H3 (fun b u e => s3 _ _ (s2 _ _ e)) ⟨dx, tp, hx3, s3 _ _ f1⟩
    | tn p q k t s' c =>
      obtain ⟨⟨o1, o2, o3, o4, o5, o6⟩, ot⟩ := ok
      rw [show cutV (Row.tn p q k t s' c).vs none (some 3) = [.int p, .int q, .int k] from cut3 _ _ _ _] at hl'
      refine ⟨l', _, rfl, SqT.of hl', rfl, _, _, rfl, _, _, rfl, _, _, rfl, rfl, ?_⟩
      refine ⟨_, rfl, l, _, rfl, .inr (SqT.of hl1), rfl, _, rfl, ?_⟩
      refine iteF ⟨_, rfl, _, rfl, (by show 2 ≤ sizeLine; decide), fun tp ntp => ⟨_, rfl, ?_⟩⟩
      have sp := same_new (o := .tup [.int p, .int q]) ntp
      refine ⟨_, rfl, l, _, _, _, rfl, rfl, SqT.of (sp _ _ hl1), atI_nat (j := 3) rfl, _, rfl, l, _, _, _, rfl, rfl, SqT.of (sp _ _ hl1), atI_nat (j := 4) rfl, (by show 2 ≤ sizeLine; decide), fun tq ntq => ?_⟩
      have sq := same_new (o := .tup [.int t, .int s']) ntq
      refine ⟨_, rfl, l, _, _, _, rfl, rfl, SqT.of (sq _ _ (sp _ _ hl1)), atI_nat (j := 5) rfl, ?_⟩
      refine ⟨rfl, rfl, fun x dx nx ndx nex => ?_⟩
      have f1 : upd (upd H1 tp (.tup [.int p, .int q])) tq (.tup [.int t, .int s']) tp = some (.tup [.int p, .int q]) := same_new ntq _ _ upd_same
      have f2 : upd (upd H1 tp (.tup [.int p, .int q])) tq (.tup [.int t, .int s']) tq = some (.tup [.int t, .int s']) := upd_same
      have s2 : Same H (upd (upd H1 tp (.tup [.int p, .int q])) tq (.tup [.int t, .int s'])) := s1.trans (sp.trans sq)
      generalize upd (upd H1 tp (.tup [.int p, .int q])) tq (.tup [.int t, .int s']) = H2 at f1 f2 s2 nx ndx ⊢
      have keep : ∀ (o1 o2 : HO) (b : Addr) (u : HO), H2 b = some u → upd (upd H2 dx o1) x o2 b = some u := fun o1 o2 b u e => by
        rw [upd_ne (ne_of_none e nx), upd_ne (ne_of_none e ndx)]; exact e
      refine ⟨x, dx, tp, tq, p, q, k, t, s', c, rfl, upd_same, keep _ _ _ _ f1, keep _ _ _ _ f2, o1, o2, o3, o4, o5, o6, ot.1, ot.2.1, ot.2.2.1, ot.2.2.2, fun H3 t3 hx3 => ⟨rfl, ?_⟩⟩
      have s3 : ∀ b u, H2 b = some u → H3 b = some u := fun b u e => t3 _ _ (ne_of_none e nx) (keep _ _ _ _ e)
      exact kk x H3 (fun b u e => s3 _ _ (s2 _ _ e)) ⟨dx, tp, tq, hx3, s3 _ _ f1, s3 _ _ f2⟩
end
end Ev
namespace Ev
open PySem L2 PySem.Spec PyProof.Rows RZ
def spPen (K : PySem.W.Frag) : Sp := fun vs H Q _ => ∃ (a : Addr) (ns : List Int), vs = [.ref a] ∧ SqL K H a (ns.map V.int) ∧ ns.length ≤ 63 ∧
  ∀ (p L : Addr) (H' : Hp), H p = none → Same H H' → Pen L H' p 0 → Q (.ref p) H'
theorem But.tup {L p a : Addr} {H H' : Hp} {B : Int} {xs : List V} (h : H a = some (.tup xs)) (pn : Pen L H p B) (t : But p H H') : H' a = some (.tup xs) := by
  obtain ⟨ys, e⟩ := pn.some
  exact t _ _ (ne_of h e (by intro z; cases z)) h
theorem Pen.put {L p D : Addr} {H : Hp} {B : Int} {o : HO} (h : Pen L H p B) (d1 : D ≠ p) (d2 : D ≠ L) : Pen L (upd H D o) p B := by
  obtain ⟨ns, t, c, h1, h2, h3⟩ := h
  exact ⟨ns, t, c, by rw [upd_ne d1.symm]; exact h1, by rw [upd_ne d2.symm]; exact h2, h3⟩
theorem Pen.neL {L p D : Addr} {H : Hp} {B : Int} (h : Pen L H p B) (n : H D = none) : D ≠ L := by
  obtain ⟨ns, t, c, h1, h2, h3⟩ := h
  exact (ne_of_none h2 n).symm
theorem cut_ints (ns : List Int) (h : Int) : ∃ ms : List Int, cutV (ns.map V.int) none (some h) = ms.map V.int ∧ ms.length ≤ ns.length := by
  unfold cutV
  generalize HT.sIx (ns.map V.int).length 0 none = x
  generalize HT.sIx (ns.map V.int).length (ns.map V.int).length (some h) - x = y
  refine ⟨(ns.drop x).take y, ?_, ?_⟩
  · rw [List.map_take, List.map_drop]
  · rw [List.length_take, List.length_drop]; omega

section
variable {P : Program} {w : World} {K : PySem.W.Frag} {mg : Str → Option Value} {base : Heap}
theorem scPen : FnScope ["_law_script"] ["_law_script"] (defScope sPen) := ⟨rfl, rfl, rfl, by decide +kernel, rfl, by decide +kernel, by decide +kernel⟩
theorem ok_pen {f : Addr} {fd : FuncData} (F : Fun K "_law_pen" "_law_pen" sPen f fd) (T : Blt mg) : FnOk P w K mg base CX0 1 f fd ["_law_script"] (spPen K) := by
  refine F.ok scPen (fun vs H Q E h => ?_) (fun cdv A outer s H vs Q E hr h => ?_)
  · obtain ⟨a, ns, rfl, _⟩ := h
    rfl
  · obtain ⟨a, ns, rfl, hS, hlen, kk⟩ := h
    refine ⟨_, pss_one (ps_ret (pe_lst (pa_cons (pe_callTy call_list_of (by rfl) T.list (by decide +kernel) (pa_cons (pe_slice sl_list (pv 0) po_none (po_some pe_int)) pa_nil)) (pa_cons pe_int (pa_cons pe_int pa_nil))))), ?_⟩
    refine ⟨_, rfl, _, rfl, a, _, rfl, hS, fun l1 nl1 => ⟨l1, _, rfl, .inl (SqL.of upd_same), fun l2 nl2 => ⟨(by show 3 ≤ sizeLine; decide), fun p np => ?_⟩⟩⟩
    obtain ⟨ms, e1, e2⟩ := cut_ints ns 63
    rw [e1] at nl2 np ⊢
    have s1 : Same H (upd (upd H l1 (.lst (ms.map V.int))) l2 (.lst (ms.map V.int))) := (same_new nl1).trans (same_new nl2)
    have s2 := s1.trans (same_new (o := .lst [.ref l2, .int 0, .int 0]) np)
    refine kk p l2 _ ?_ s2 ⟨ms, 0, 0, upd_same, by rw [upd_ne (ne_of_none upd_same np)]; exact upd_same, ne_of_none upd_same np, by omega, by decide, by decide, by decide⟩
    cases z : H p with
    | none => rfl
    | some o => rw [s1 _ _ z] at np; cases np
end
end Ev
set_option maxHeartbeats 1000000
namespace Ev
open PySem L2 PySem.Spec PyProof.Rows
/-! Sorted trees: what the program reckons of them. -/
inductive Tr
  | e
  | n (l : Tr) (k : Int) (r : Tr)
deriving DecidableEq
namespace Tr
def w : Tr → Int
  | .e => 1
  | .n l _ r => l.w + r.w
def keys : Tr → List Int
  | .e => []
  | .n l k r => l.keys ++ k :: r.keys
def height : Tr → Nat
  | .e => 0
  | .n l _ r => (if l.height < r.height then r.height else l.height) + 1
def left : Tr → Tr
  | .e => .e
  | .n l _ _ => l
def right : Tr → Tr
  | .e => .e
  | .n _ _ r => r
/-- all nodes are fair -/
def fair (p q k : Int) : Tr → Prop
  | .e => True
  | .n l _ r => fairB p q k l.w r.w = true ∧ fair p q k l ∧ fair p q k r
/-- a put without turns -/
def put (x : Int) : Tr → Tr
  | .e => .n .e x .e
  | .n l k r => if x < k then .n (l.put x) k r else .n l k (r.put x)
/-- a take of a key without sides -/
def cut (x : Int) : Tr → Tr
  | .e => .e
  | .n l k r => if x = k then .e else if x < k then .n (l.cut x) k r else .n l k (r.cut x)
/-- strictly ascending -/
def srt : List Int → Prop
  | [] => True
  | [_] => True
  | a :: b :: l => a < b ∧ srt (b :: l)
theorem w_pos : ∀ t : Tr, 1 ≤ t.w
  | .e => Int.le_refl _
  | .n l k r => by
    have h1 := w_pos l
    have h2 := w_pos r
    show 1 ≤ l.w + r.w
    omega
theorem w_keys : ∀ t : Tr, t.w = t.keys.length + 1
  | .e => rfl
  | .n l k r => by
    have h1 := w_keys l
    have h2 := w_keys r
    show l.w + r.w = _
    simp only [keys, List.length_append, List.length_cons]
    omega
theorem height_le : ∀ t : Tr, t.height ≤ t.keys.length
  | .e => Nat.le_refl _
  | .n l k r => by
    have h1 := height_le l
    have h2 := height_le r
    simp only [height, keys, List.length_append, List.length_cons]
    split <;> omega
theorem srt_iff : ∀ l : List Int, srt l ↔ l.Pairwise (· < ·)
  | [] => by simp [srt]
  | [a] => by simp [srt]
  | a :: b :: l => by
    have ih := srt_iff (b :: l)
    simp only [srt, ih, List.pairwise_cons]
    constructor
    · rintro ⟨h1, h2, h3⟩
      refine ⟨?_, h2, h3⟩
      intro x hx
      rcases List.mem_cons.mp hx with rfl | hx
      · exact h1
      · exact Int.lt_trans h1 (h2 x hx)
    · rintro ⟨h1, h2, h3⟩
      exact ⟨h1 b List.mem_cons_self, h2, h3⟩
/-- a tree whose keys ascend -/
def asc (t : Tr) : Prop := t.keys.Pairwise (· < ·)
theorem asc_n {l r : Tr} {k : Int} : (Tr.n l k r).asc ↔ l.asc ∧ r.asc ∧ (∀ x ∈ l.keys, x < k) ∧ ∀ x ∈ r.keys, k < x := by
  unfold asc
  rw [show (Tr.n l k r).keys = l.keys ++ k :: r.keys from rfl, List.pairwise_append]
  simp only [List.pairwise_cons, List.mem_cons]
  constructor
  · rintro ⟨h1, ⟨h2, h3⟩, h4⟩
    exact ⟨h1, h3, fun x hx => h4 x hx k (.inl rfl), h2⟩
  · rintro ⟨h1, h2, h3, h4⟩
    refine ⟨h1, ⟨h4, h2⟩, ?_⟩
    rintro x hx y (rfl | hy)
    · exact h3 x hx
    · exact Int.lt_trans (h3 x hx) (h4 y hy)
/-- the way down to a key: the subtrees and the sides -/
def path (x : Int) : Tr → List (Tr × Bool)
  | .e => []
  | .n l k r => (.n l k r, decide (x < k)) :: (if x < k then l.path x else r.path x)
/-- the way down to a key that is there, itself left out -/
def pathTo (x : Int) : Tr → List (Tr × Bool)
  | .e => []
  | .n l k r => if k = x then [] else (.n l k r, decide (x < k)) :: (if x < k then l.pathTo x else r.pathTo x)
/-- the subtree at a key -/
def sub (x : Int) : Tr → Tr
  | .e => .e
  | .n l k r => if k = x then .n l k r else if x < k then l.sub x else r.sub x
/-- steps made new from below -/
def mend : List (Tr × Int × Bool) → Tr → Tr
  | [], u => u
  | (s, k, b) :: rest, u => if b = true then .n (mend rest u) k s.right else .n s.left k (mend rest u)
/-- .. where each new node is fair -/
def mendF (p q c : Int) : List (Tr × Int × Bool) → Tr → Prop
  | [], _ => True
  | (s, k, b) :: rest, u => fairB p q c (if b = true then (mend rest u).w else s.left.w) (if b = true then s.right.w else (mend rest u).w) = true ∧ mendF p q c rest u
def top : Tr → Int
  | .e => 0
  | .n _ k _ => k
def stepsOf (ps : List (Tr × Bool)) : List (Tr × Int × Bool) := ps.map fun s => (s.1, s.1.top, s.2)
theorem mend_put (x : Int) : ∀ t : Tr, mend (stepsOf (t.path x)) (.n .e x .e) = t.put x
  | .e => rfl
  | .n l k r => by
    have h1 := mend_put x l
    have h2 := mend_put x r
    unfold path put stepsOf
    by_cases z : x < k
    · rw [if_pos z, if_pos z, List.map_cons]
      simp only [mend, decide_eq_true z, if_true]
      rw [← h1]
      rfl
    · rw [if_neg z, if_neg z, List.map_cons]
      simp only [mend, decide_eq_false z, Bool.false_eq_true, if_false]
      rw [← h2]
      rfl
theorem mendF_put {p q c : Int} (x : Int) : ∀ t : Tr, (t.put x).fair p q c → mendF p q c (stepsOf (t.path x)) (.n .e x .e)
  | .e, _ => trivial
  | .n l k r, h => by
    have h1 := mendF_put (p := p) (q := q) (c := c) x l
    have h2 := mendF_put (p := p) (q := q) (c := c) x r
    have m1 := mend_put x l
    have m2 := mend_put x r
    unfold stepsOf at h1 h2 m1 m2
    unfold put at h
    unfold path stepsOf
    by_cases z : x < k
    · rw [if_pos z] at h ⊢
      obtain ⟨f1, f2, f3⟩ := h
      rw [List.map_cons]
      simp only [mendF, decide_eq_true z, if_true]
      rw [m1]
      exact ⟨f1, h1 f2⟩
    · rw [if_neg z] at h ⊢
      obtain ⟨f1, f2, f3⟩ := h
      rw [List.map_cons]
      simp only [mendF, decide_eq_false z, Bool.false_eq_true, if_false]
      rw [m2]
      exact ⟨f1, h2 f3⟩
theorem mend_cut (x : Int) : ∀ t : Tr, x ∈ t.keys → t.asc → mend (stepsOf (t.pathTo x)) .e = t.cut x
  | .e, h, _ => by cases h
  | .n l k r, h, a => by
    obtain ⟨a1, a2, a3, a4⟩ := asc_n.mp a
    unfold pathTo cut stepsOf
    by_cases y : k = x
    · rw [if_pos y, if_pos y.symm]
      rfl
    · have y' : ¬ x = k := fun e => y e.symm
      rw [if_neg y, if_neg y']
      have hm : x ∈ l.keys ∨ x ∈ r.keys := by
        rcases List.mem_append.mp h with h | h
        · exact .inl h
        · rcases List.mem_cons.mp h with h | h
          · exact absurd h.symm y
          · exact .inr h
      by_cases z : x < k
      · rw [if_pos z, if_pos z, List.map_cons]
        simp only [mend, decide_eq_true z, if_true]
        have hx : x ∈ l.keys := hm.resolve_right fun h => by have := a4 x h; omega
        rw [← mend_cut x l hx a1]
        rfl
      · rw [if_neg z, if_neg z, List.map_cons]
        simp only [mend, decide_eq_false z, Bool.false_eq_true, if_false]
        have hx : x ∈ r.keys := hm.resolve_left fun h => by have := a3 x h; omega
        rw [← mend_cut x r hx a2]
        rfl
theorem mendF_cut {p q c : Int} (x : Int) : ∀ t : Tr, x ∈ t.keys → t.asc → (t.cut x).fair p q c → mendF p q c (stepsOf (t.pathTo x)) .e
  | .e, h, _, _ => by cases h
  | .n l k r, h, a, f => by
    obtain ⟨a1, a2, a3, a4⟩ := asc_n.mp a
    unfold cut at f
    unfold pathTo stepsOf
    by_cases y : k = x
    · rw [if_pos y]
      trivial
    · have y' : ¬ x = k := fun e => y e.symm
      rw [if_neg y] 
      rw [if_neg y'] at f
      have hm : x ∈ l.keys ∨ x ∈ r.keys := by
        rcases List.mem_append.mp h with h | h
        · exact .inl h
        · rcases List.mem_cons.mp h with h | h
          · exact absurd h.symm y
          · exact .inr h
      by_cases z : x < k
      · rw [if_pos z] at f ⊢
        obtain ⟨f1, f2, f3⟩ := f
        have hx : x ∈ l.keys := hm.resolve_right fun h => by have := a4 x h; omega
        have m := mend_cut x l hx a1
        unfold stepsOf at m
        rw [List.map_cons]
        simp only [mendF, decide_eq_true z, if_true]
        rw [m]
        have := mendF_cut (p := p) (q := q) (c := c) x l hx a1 f2
        exact ⟨f1, this⟩
      · rw [if_neg z] at f ⊢
        obtain ⟨f1, f2, f3⟩ := f
        have hx : x ∈ r.keys := hm.resolve_left fun h => by have := a3 x h; omega
        have m := mend_cut x r hx a2
        unfold stepsOf at m
        rw [List.map_cons]
        simp only [mendF, decide_eq_false z, Bool.false_eq_true, if_false]
        rw [m]
        have := mendF_cut (p := p) (q := q) (c := c) x r hx a2 f3
        exact ⟨f1, this⟩
end Tr
end Ev
set_option maxHeartbeats 1000000
namespace Ev
open PySem L2 PySem.Spec PyProof.Rows RZ
/-! Nodes in the heap. -/
theorem put_new {k : Str} {v : V} : ∀ {l : List (Str × V)}, (∀ e ∈ l, ¬ e.1 = k) → putF k v l = l ++ [(k, v)]
  | [], _ => rfl
  | (k', v') :: l, h => by
    show (if k' = k then _ else _) = _
    rw [if_neg (h _ List.mem_cons_self)]
    show (k', v') :: putF k v l = _
    rw [put_new (fun e he => h e (List.mem_cons_of_mem _ he))]
    rfl
/-- a layout -/
def FmAt (H : Hp) : Tr → V → Prop
  | .e, v => ∃ a : Addr, v = .ref a ∧ H a = some (.tup [])
  | .n l k r, v => ∃ (a : Addr) (fl fr : V), v = .ref a ∧ H a = some (.tup [fl, .int k, fr]) ∧ FmAt H l fl ∧ FmAt H r fr
def nodeF (vl : V) (k : Int) (vr : V) (w : Int) (f : V) : List (Str × V) := [("left", vl), ("key", .int k), ("right", vr), ("weight", .int w), ("form", f)]
/-- a side -/
def NdAt (N : Addr) (H : Hp) : Tr → V → Prop
  | .e, v => v = .non
  | .n l k r, v => ∃ (a dx : Addr) (vl vr f : V), v = .ref a ∧ H a = some (.ins N dx (nodeF vl k vr (Tr.n l k r).w f)) ∧ NdAt N H l vl ∧ NdAt N H r vr ∧ FmAt H (.n l k r) f
theorem FmAt.keep {H H' : Hp} (s : Same H H') : ∀ {t : Tr} {v : V}, FmAt H t v → FmAt H' t v
  | .e, v, h => by
    obtain ⟨a, e, h⟩ := h
    exact ⟨a, e, s _ _ h⟩
  | .n l k r, v, h => by
    obtain ⟨a, fl, fr, e, h, h1, h2⟩ := h
    exact ⟨a, fl, fr, e, s _ _ h, h1.keep s, h2.keep s⟩
theorem NdAt.keep {N : Addr} {H H' : Hp} (s : Same H H') : ∀ {t : Tr} {v : V}, NdAt N H t v → NdAt N H' t v
  | .e, v, h => h
  | .n l k r, v, h => by
    obtain ⟨a, dx, vl, vr, f, e, h, h1, h2, h3⟩ := h
    exact ⟨a, dx, vl, vr, f, e, s _ _ h, h1.keep s, h2.keep s, h3.keep s⟩
/-- what stands at x is no tuple and no whole node -/
structure Oth (N : Addr) (H : Hp) (x : Addr) : Prop where
  t : ∀ xs, H x ≠ some (.tup xs)
  n : ∀ dx vl k vr w f, H x ≠ some (.ins N dx (nodeF vl k vr w f))
theorem FmAt.but {N : Addr} {H H' : Hp} {x : Addr} (o : Oth N H x) (s : But x H H') : ∀ {t : Tr} {v : V}, FmAt H t v → FmAt H' t v
  | .e, v, h => by
    obtain ⟨a, e, h⟩ := h
    exact ⟨a, e, s _ _ (fun z => o.t _ (by rw [← z]; exact h)) h⟩
  | .n l k r, v, h => by
    obtain ⟨a, fl, fr, e, h, h1, h2⟩ := h
    exact ⟨a, fl, fr, e, s _ _ (fun z => o.t _ (by rw [← z]; exact h)) h, FmAt.but o s h1, FmAt.but o s h2⟩
theorem NdAt.but {N : Addr} {H H' : Hp} {x : Addr} (o : Oth N H x) (s : But x H H') : ∀ {t : Tr} {v : V}, NdAt N H t v → NdAt N H' t v
  | .e, v, h => h
  | .n l k r, v, h => by
    obtain ⟨a, dx, vl, vr, f, e, h, h1, h2, h3⟩ := h
    exact ⟨a, dx, vl, vr, f, e, s _ _ (fun z => o.n _ _ _ _ _ _ (by rw [← z]; exact h)) h, NdAt.but o s h1, NdAt.but o s h2, FmAt.but o s h3⟩
theorem Oth.new {N : Addr} {H : Hp} {x dx : Addr} (h : H x = some (.ins N dx [])) : Oth N H x := ⟨fun xs e => (by rw [h] at e; cases e), fun dx' vl k vr w f e => (by rw [h] at e; cases e)⟩
theorem Oth.lst {N : Addr} {H : Hp} {x : Addr} {xs : List V} (h : H x = some (.lst xs)) : Oth N H x := ⟨fun ys e => (by rw [h] at e; cases e), fun dx' vl k vr w f e => (by rw [h] at e; cases e)⟩
theorem Oth.dK {N : Addr} {H : Hp} {x : Addr} {kvs : List (Key × V)} (h : H x = some (.dK kvs)) : Oth N H x := ⟨fun ys e => (by rw [h] at e; cases e), fun dx' vl k vr w f e => (by rw [h] at e; cases e)⟩
theorem NdAt.isN {N : Addr} {H : Hp} {t : Tr} {v : V} (h : NdAt N H t v) : decide (v = .non) = decide (t = .e) := by
  cases t with
  | e =>
    have : v = .non := h
    rw [this]
    decide
  | n l k r =>
    obtain ⟨a, dx, vl, vr, f, rfl, _⟩ := h
    rw [decide_eq_false (by intro z; cases z), decide_eq_false (by intro z; cases z)]
structure NC (K : PySem.W.Frag) (C : Addr) : Prop where
  cl : Cls K C
  n1 : NoAttr K C "left"
  n2 : NoAttr K C "key"
  n3 : NoAttr K C "right"
  n4 : NoAttr K C "weight"
  n5 : NoAttr K C "form"
section
variable {a d f : V} {k w : Int}
theorem nl1 : (nodeF a k d w f).lookup ("left" : Str) = some a := lk_hit
theorem nl2 : (nodeF a k d w f).lookup ("key" : Str) = some (.int k) := (lk_miss (by decide +kernel)).trans lk_hit
theorem nl3 : (nodeF a k d w f).lookup ("right" : Str) = some d := (lk_miss (by decide +kernel)).trans ((lk_miss (by decide +kernel)).trans lk_hit)
theorem nl4 : (nodeF a k d w f).lookup ("weight" : Str) = some (.int w) := (lk_miss (by decide +kernel)).trans ((lk_miss (by decide +kernel)).trans ((lk_miss (by decide +kernel)).trans lk_hit))
theorem nl5 : (nodeF a k d w f).lookup ("form" : Str) = some f := (lk_miss (by decide +kernel)).trans ((lk_miss (by decide +kernel)).trans ((lk_miss (by decide +kernel)).trans ((lk_miss (by decide +kernel)).trans lk_hit)))
theorem np1 : putF "left" a [] = ([("left", a)] : List (Str × V)) := rfl
theorem np2 : putF "key" (.int k) [("left", a)] = ([("left", a), ("key", .int k)] : List (Str × V)) := put_new (by intro e0 he; simp only [List.mem_cons, List.not_mem_nil, or_false] at he; subst he; dsimp only; decide +kernel)
theorem np3 : putF "right" d [("left", a), ("key", .int k)] = ([("left", a), ("key", .int k), ("right", d)] : List (Str × V)) := put_new (by intro e0 he; simp only [List.mem_cons, List.not_mem_nil, or_false] at he; rcases he with he | he <;> subst he <;> dsimp only <;> decide +kernel)
theorem np4 : putF "weight" (.int w) [("left", a), ("key", .int k), ("right", d)] = ([("left", a), ("key", .int k), ("right", d), ("weight", .int w)] : List (Str × V)) := put_new (by intro e0 he; simp only [List.mem_cons, List.not_mem_nil, or_false] at he; rcases he with he | he | he <;> subst he <;> dsimp only <;> decide +kernel)
theorem np5 : putF "form" f [("left", a), ("key", .int k), ("right", d), ("weight", .int w)] = nodeF a k d w f := put_new (by intro e0 he; simp only [List.mem_cons, List.not_mem_nil, or_false] at he; rcases he with he | he | he | he <;> subst he <;> dsimp only <;> decide +kernel)
end
def spWeightOf (N : Addr) : Sp := fun vs H Q _ => ∃ (v : V) (t : Tr), vs = [v] ∧ NdAt N H t v ∧ Q (.int t.w) H
def spFormOf (N : Addr) : Sp := fun vs H Q _ => ∃ (v : V) (t : Tr), vs = [v] ∧ NdAt N H t v ∧ ∀ f H', Same H H' → FmAt H' t f → Q f H'
def spNodeI (N : Addr) : Sp := fun vs H Q _ => ∃ (x dx : Addr) (vl vr : V) (l r : Tr) (k : Int), vs = [.ref x, vl, .int k, vr] ∧ H x = some (.ins N dx []) ∧ NdAt N H l vl ∧ NdAt N H r vr ∧ ∀ H', But x H H' → NdAt N H' (.n l k r) (.ref x) → Q .non H'
section
variable {P : Program} {w : World} {K : PySem.W.Frag} {mg : Str → Option Value} {base : Heap}
theorem scWeightOf : FnScope ["node"] ["node"] (defScope sWeightOf) := ⟨rfl, rfl, rfl, by decide +kernel, rfl, by decide +kernel, by decide +kernel⟩
theorem ok_weightOf {f N : Addr} {fd : FuncData} (F : Fun K "weight_of" "weight_of" sWeightOf f fd) (T : NC K N) : FnOk P w K mg base CX0 1 f fd ["node"] (spWeightOf N) := by
  refine F.ok scWeightOf (fun vs H Q E h => ?_) (fun cdv A outer s H vs Q E hr h => ?_)
  · obtain ⟨v, t, rfl, _⟩ := h
    rfl
  · obtain ⟨v, t, rfl, hv, kk⟩ := h
    refine ⟨_, (pss_one (ps_ret (pe_ifExp (pt_cmpR op_isN (pv 0) pe_non (nomark _)) pe_int (pe_fld (pv 0) rfl)))), ?_⟩
    refine ⟨_, rfl, rfl, _, rfl, ?_⟩
    rw [hv.isN]
    cases t with
    | e => exact iteT kk
    | n l k r =>
      obtain ⟨a, dx, vl, vr, f, rfl, h, h1, h2, h3⟩ := hv
      exact iteF ⟨_, rfl, a, N, dx, _, _, rfl, h, T.cl, T.n4, nl4, kk⟩
theorem scFormOf : FnScope ["node"] ["node"] (defScope sFormOf) := ⟨rfl, rfl, rfl, by decide +kernel, rfl, by decide +kernel, by decide +kernel⟩
theorem ok_formOf {f N : Addr} {fd : FuncData} (F : Fun K "form_of" "form_of" sFormOf f fd) (T : NC K N) : FnOk P w K mg base CX0 1 f fd ["node"] (spFormOf N) := by
  refine F.ok scFormOf (fun vs H Q E h => ?_) (fun cdv A outer s H vs Q E hr h => ?_)
  · obtain ⟨v, t, rfl, _⟩ := h
    rfl
  · obtain ⟨v, t, rfl, hv, kk⟩ := h
    refine ⟨_, (pss_one (ps_ret (pe_ifExp (pt_cmpR op_isN (pv 0) pe_non (nomark _)) (pe_tup pa_nil) (pe_fld (pv 0) rfl)))), ?_⟩
    refine ⟨_, rfl, rfl, _, rfl, ?_⟩
    rw [hv.isN]
    cases t with
    | e => exact iteT ⟨(by show 0 ≤ sizeLine; decide), fun t ht => kk _ _ (same_new ht) ⟨t, rfl, upd_same⟩⟩
    | n l k r =>
      obtain ⟨a, dx, vl, vr, f, rfl, h, h1, h2, h3⟩ := hv
      exact iteF ⟨_, rfl, a, N, dx, _, _, rfl, h, T.cl, T.n5, nl5, kk _ _ (Same.refl _) h3⟩
theorem scNode_init : FnScope ["self", "left", "key", "right"] ["self", "left", "key", "right"] (defScope sNode_init) := ⟨rfl, rfl, rfl, by decide +kernel, rfl, by decide +kernel, by decide +kernel⟩
theorem ok_nodeI {f N : Addr} {fd : FuncData} (F : Fun K "__init__" "Node.__init__" sNode_init f fd) (T : NC K N) (D1 : Df P w K mg base 1 "weight_of" ["node"] (spWeightOf N)) (D2 : Df P w K mg base 1 "form_of" ["node"] (spFormOf N)) : FnOk P w K mg base CX0 2 f fd ["self", "left", "key", "right"] (spNodeI N) := by
  obtain ⟨f1, fd1, G1, g1, k1, b1⟩ := D1.ex
  obtain ⟨f2, fd2, G2, g2, k2, b2⟩ := D2.ex
  refine F.ok scNode_init (fun vs H Q E h => ?_) (fun cdv A outer s H vs Q E hr h => ?_)
  · obtain ⟨x, dx, vl, vr, l, r, k, rfl, _⟩ := h
    rfl
  · obtain ⟨x, dx, vl, vr, l, r, k, rfl, hx, hl, hr', kk⟩ := h
    refine ⟨_, (pss_cons (ps_fld (pv 0) (pv 1) rfl)
    (pss_cons (ps_fld (pv 0) (pv 2) rfl)
    (pss_cons (ps_fld (pv 0) (pv 3) rfl)
    (pss_cons (ps_fld (pv 0) (pe_op op_add (pe_call G1 hr (by rfl) g1 k1 b1 .nil pass0 (pa_cons (pv 1) pa_nil)) (pe_call G1 hr (by rfl) g1 k1 b1 .nil pass0 (pa_cons (pv 3) pa_nil))) rfl)
    (pss_one (ps_fld (pv 0) (pe_tup (pa_cons (pe_call G2 hr (by rfl) g2 k2 b2 .nil pass0 (pa_cons (pv 1) pa_nil)) (pa_cons (pv 2) (pa_cons (pe_call G2 hr (by rfl) g2 k2 b2 .nil pass0 (pa_cons (pv 3) pa_nil)) pa_nil)))) rfl)))))), ?_⟩
    have o0 := Oth.new hx
    refine ⟨_, rfl, _, rfl, x, N, dx, _, rfl, hx, T.cl, T.n1, (by show 0 < 1000; decide), ?_⟩
    rw [np1]
    have u1 : But x H (upd H x (.ins N dx [("left", vl)])) := But.upd_at
    have e1 : upd H x (.ins N dx [("left", vl)]) x = some (.ins N dx [("left", vl)]) := upd_same
    generalize upd H x (.ins N dx [("left", vl)]) = H1 at u1 e1 ⊢
    refine ⟨_, rfl, _, rfl, x, N, dx, _, rfl, e1, T.cl, T.n2, (by show 1 < 1000; decide), ?_⟩
    rw [np2]
    have u2 : But x H (upd H1 x (.ins N dx [("left", vl), ("key", .int k)])) := u1.trans But.upd_at
    have e2 : upd H1 x (.ins N dx [("left", vl), ("key", .int k)]) x = some (.ins N dx [("left", vl), ("key", .int k)]) := upd_same
    generalize upd H1 x (.ins N dx [("left", vl), ("key", .int k)]) = H2 at u2 e2 ⊢
    refine ⟨_, rfl, _, rfl, x, N, dx, _, rfl, e2, T.cl, T.n3, (by show 2 < 1000; decide), ?_⟩
    rw [np3]
    have u3 : But x H (upd H2 x (.ins N dx [("left", vl), ("key", .int k), ("right", vr)])) := u2.trans But.upd_at
    have e3 : upd H2 x (.ins N dx [("left", vl), ("key", .int k), ("right", vr)]) x = some (.ins N dx [("left", vl), ("key", .int k), ("right", vr)]) := upd_same
    generalize upd H2 x (.ins N dx [("left", vl), ("key", .int k), ("right", vr)]) = H3 at u3 e3 ⊢
    refine ⟨_, rfl, vl, l, rfl, hl.but o0 u3, _, rfl, vr, r, rfl, hr'.but o0 u3, _, _, rfl, rfl, _, rfl, x, N, dx, _, rfl, e3, T.cl, T.n4, (by show 3 < 1000; decide), ?_⟩
    rw [np4]
    have u4 : But x H (upd H3 x (.ins N dx [("left", vl), ("key", .int k), ("right", vr), ("weight", .int (l.w + r.w))])) := u3.trans But.upd_at
    have e4 : upd H3 x (.ins N dx [("left", vl), ("key", .int k), ("right", vr), ("weight", .int (l.w + r.w))]) x = some (.ins N dx [("left", vl), ("key", .int k), ("right", vr), ("weight", .int (l.w + r.w))]) := upd_same
    generalize upd H3 x (.ins N dx [("left", vl), ("key", .int k), ("right", vr), ("weight", .int (l.w + r.w))]) = H4 at u4 e4 ⊢
    refine ⟨_, rfl, vl, l, rfl, hl.but o0 u4, fun fl H5 s5 ml => ?_⟩
    refine ⟨_, rfl, _, rfl, vr, r, rfl, (hr'.but o0 u4).keep s5, fun fr H6 s6 mr => ?_⟩
    refine ⟨(by show 3 ≤ sizeLine; decide), fun t ht => ?_⟩
    have s7 := same_new (o := .tup [fl, .int k, fr]) ht
    have h7 : upd H6 t (.tup [fl, .int k, fr]) t = some (.tup [fl, .int k, fr]) := upd_same
    generalize upd H6 t (.tup [fl, .int k, fr]) = H7 at s7 h7 ⊢
    have e7 := s7 _ _ (s6 _ _ (s5 _ _ e4))
    have s47 := (s5.trans s6).trans s7
    have u7 : But x H H7 := u4.trans (Same.but s47)
    refine ⟨_, rfl, x, N, dx, _, rfl, e7, T.cl, T.n5, (by show 4 < 1000; decide), ?_⟩
    rw [np5]
    have u8 : But x H (upd H7 x (.ins N dx (nodeF vl k vr (l.w + r.w) (.ref t)))) := u7.trans But.upd_at
    have o7 : Oth N H7 x := ⟨fun ys e => (by rw [e7] at e; cases e), fun dx' a' k' b' w' f' e => (by rw [e7] at e; cases e)⟩
    have v7 : But x H7 (upd H7 x (.ins N dx (nodeF vl k vr (l.w + r.w) (.ref t)))) := But.upd_at
    have ff : FmAt H7 (.n l k r) (.ref t) := ⟨t, fl, fr, rfl, h7, (ml.keep s6).keep s7, mr.keep s7⟩
    exact kk _ u8 ⟨x, dx, vl, vr, .ref t, rfl, upd_same, hl.but o0 u8, hr'.but o0 u8, ff.but o7 v7⟩
end
end Ev
set_option maxHeartbeats 1000000
namespace Ev
open PySem L2 PySem.Spec PyProof.Rows RZ
/-! Deeds where nothing is turned. -/
theorem RB.keep {K : PySem.W.Frag} {H H' : Hp} {r : Addr} {p q k : Int} (h : RB K H r p q k) (s : Same H H') : RB K H' r p q k := by
  obtain ⟨⟨C, dx, fs, a, e1, e2, e3, e4, e5, e6, e7⟩, o1, o2, o3, o4, o5⟩ := h
  exact ⟨⟨C, dx, fs, a, s _ _ e1, e2, e3, e4, e5, e6, s _ _ e7⟩, o1, o2, o3, o4, o5⟩
/-- values that are in a relation to other things, one by one -/
def All2 {α : Type} (R : V → α → Prop) : List V → List α → Prop
  | [], [] => True
  | v :: vs, b :: bs => R v b ∧ All2 R vs bs
  | _, _ => False
theorem All2.mono {α : Type} {R S : V → α → Prop} (s : ∀ v a, R v a → S v a) : ∀ {vs : List V} {bs : List α}, All2 R vs bs → All2 S vs bs
  | [], [], _ => trivial
  | _ :: _, _ :: _, h => ⟨s _ _ h.1, All2.mono s h.2⟩
  | [], _ :: _, h => h.elim
  | _ :: _, [], h => h.elim
theorem All2.app {α : Type} {R : V → α → Prop} : ∀ {vs us : List V} {bs cs : List α}, All2 R vs bs → All2 R us cs → All2 R (vs ++ us) (bs ++ cs)
  | [], _, [], _, _, k => k
  | _ :: _, _, _ :: _, _, h, k => ⟨h.1, All2.app h.2 k⟩
  | [], _, _ :: _, _, h, _ => h.elim
  | _ :: _, _, [], _, h, _ => h.elim
theorem All2.len {α : Type} {R : V → α → Prop} : ∀ {vs : List V} {bs : List α}, All2 R vs bs → vs.length = bs.length
  | [], [], _ => rfl
  | _ :: _, _ :: _, h => congrArg (· + 1) (All2.len h.2)
  | [], _ :: _, h => h.elim
  | _ :: _, [], h => h.elim
theorem All2.get {α : Type} {R : V → α → Prop} : ∀ {vs : List V} {bs : List α}, All2 R vs bs → ∀ {i : Nat} {v : V}, vs[i]? = some v → ∃ a, bs[i]? = some a ∧ R v a
  | [], [], _, i, v, e => by cases e
  | _ :: _, _ :: _, h, 0, v, e => ⟨_, rfl, by rw [← Option.some.inj e]; exact h.1⟩
  | _ :: _, _ :: _, h, i + 1, v, e => All2.get h.2 (i := i) e
  | [], _ :: _, h, _, _, _ => h.elim
  | _ :: _, [], h, _, _, _ => h.elim
theorem drop_at {α : Type} {xs : List α} {i : Nat} {x : α} (h : xs[i]? = some x) : xs.drop i = x :: xs.drop (i + 1) := by
  obtain ⟨hi, e⟩ := List.getElem?_eq_some_iff.mp h
  rw [List.drop_eq_getElem_cons hi, e]
theorem take_snoc {α : Type} {xs : List α} {i : Nat} {x : α} (h : xs[i]? = some x) : xs.take (i + 1) = xs.take i ++ [x] := by
  rw [List.take_succ, h]
  rfl
def StV (N : Addr) (H : Hp) (v : V) (s : Tr × Int × Bool) : Prop := ∃ (t : Addr) (vn : V), v = .ref t ∧ H t = some (.tup [vn, .int s.2.1, .bl s.2.2]) ∧ NdAt N H s.1 vn ∧ s.1 ≠ .e
theorem StV.keep {N : Addr} {H H' : Hp} (s : Same H H') (v : V) (x : Tr × Int × Bool) (h : StV N H v x) : StV N H' v x := by
  obtain ⟨t, vn, e, h1, h2, h3⟩ := h
  exact ⟨t, vn, e, s _ _ h1, h2.keep s, h3⟩
theorem StV.but {N : Addr} {H H' : Hp} {l : Addr} {xs : List V} (hl : H l = some (.lst xs)) (s : But l H H') (v : V) (x : Tr × Int × Bool) (h : StV N H v x) : StV N H' v x := by
  obtain ⟨t, vn, e, h1, h2, h3⟩ := h
  exact ⟨t, vn, e, s _ _ (ne_of h1 hl (by intro z; cases z)) h1, h2.but (Oth.lst hl) s, h3⟩
theorem Tr.mendF_drop {p q c : Int} {u : Tr} : ∀ {steps : List (Tr × Int × Bool)} (j : Nat), Tr.mendF p q c steps u → Tr.mendF p q c (steps.drop j) u
  | [], j, _ => by rw [List.drop_nil]; trivial
  | _ :: _, 0, h => h
  | (s, k, b) :: rest, j + 1, h => by
    rw [List.drop_succ_cons]
    exact Tr.mendF_drop j h.2
def spBalanced (K : PySem.W.Frag) (N : Addr) : Sp := fun vs H Q _ => ∃ (r : Addr) (p q c : Int) (vl vr dk : V) (lt rt : Tr) (k : Int), vs = [.ref r, vl, .int k, vr, dk] ∧ RB K H r p q c ∧ NdAt N H lt vl ∧ NdAt N H rt vr ∧ fairB p q c lt.w rt.w = true ∧ ∀ v H', Same H H' → NdAt N H' (.n lt k rt) v → Q v H'
def spMended (K : PySem.W.Frag) (N : Addr) : Sp := fun vs H Q _ => ∃ (r l : Addr) (p q c : Int) (v dk : V) (xs : List V) (steps : List (Tr × Int × Bool)) (u : Tr), vs = [.ref r, .ref l, v, dk] ∧ RB K H r p q c ∧ H l = some (.lst xs) ∧ xs.length ≤ 100000 ∧ All2 (StV N H) xs steps ∧ NdAt N H u v ∧ Tr.mendF p q c steps u ∧ ∀ v' H', Same H H' → NdAt N H' (Tr.mend steps u) v' → Q v' H'
/-- a node made -/
theorem mkr_node {N x dx : Addr} {H : Hp} {vl vr : V} {l r : Tr} {k : Int} {E : XK} {Q : VK} (nx : H x = none) (nd : H dx = none) (hl : NdAt N H l vl) (hr : NdAt N H r vr)
    (kk : ∀ G, Same H G → NdAt N G (.n l k r) (.ref x) → Q .non G) : spNodeI N (.ref x :: ([vl, .int k, vr] ++ [])) (upd (upd H dx (.own x)) x (.ins N dx [])) Q E := by
  have s1 : Same H (upd (upd H dx (.own x)) x (.ins N dx [])) := fun b u e => by
    rw [upd_ne (ne_of_none e nx), upd_ne (ne_of_none e nd)]; exact e
  refine ⟨x, dx, vl, vr, l, r, k, rfl, upd_same, hl.keep s1, hr.keep s1, fun H' t h => kk H' (fun b u e => t _ _ (ne_of_none e nx) (s1 _ _ e)) h⟩
section
variable {P : Program} {w : World} {K : PySem.W.Frag} {mg : Str → Option Value} {base : Heap}
structure NMk (P : Program) (w : World) (K : PySem.W.Frag) (mg : Str → Option Value) (base : Heap) (N : Addr) : Prop where
  g : mg "Node" = some (.ref N)
  c : NC K N
  ex : ∃ (f : Addr) (fd : FuncData), Mk K N f ∧ FnOk P w K mg base CX0 2 f fd ["self", "left", "key", "right"] (spNodeI N) ∧ Binds K fd ["self", "left", "key", "right"] []
theorem scBalanced : FnScope ["rule", "left", "key", "right", "deed_key", "one", "other"] ["rule", "left", "key", "right", "deed_key"] (defScope sBalanced) := ⟨rfl, rfl, rfl, by decide +kernel, rfl, by decide +kernel, by decide +kernel⟩
theorem ok_balanced {f N : Addr} {fd : FuncData} (F : Fun K "balanced" "balanced" sBalanced f fd) (NN : NMk P w K mg base N) (D1 : Df P w K mg base 1 "weight_of" ["node"] (spWeightOf N)) (D2 : Df P w K mg base 1 "are_fair" ["rule", "x", "y"] (spFair K)) : FnOk P w K mg base CX0 4 f fd ["rule", "left", "key", "right", "deed_key"] (spBalanced K N) := by
  obtain ⟨f1, fd1, G1, g1, k1, b1⟩ := D1.ex
  obtain ⟨f2, fd2, G2, g2, k2, b2⟩ := D2.ex
  obtain ⟨gN, T, fN, fdN, MN, GN, bN⟩ := NN
  refine F.ok scBalanced (fun vs H Q E h => ?_) (fun cdv A outer s H vs Q E hr h => ?_)
  · obtain ⟨r, p, q, c, vl, vr, dk, lt, rt, k, rfl, _⟩ := h
    rfl
  · obtain ⟨r, p, q, c, vl, vr, dk, lt, rt, k, rfl, rb, hl, hr', ff, kk⟩ := h
    refine ⟨_, (pss_cons (ps_par (i := 5) (j := 6) (by rfl) scBalanced.nd rfl rfl (by decide) rfl rfl (pa_cons (pe_call G1 (hr.mono (by decide)) (by rfl) g1 k1 b1 .nil pass0 (pa_cons (pv 1) pa_nil)) (pa_cons (pe_call G1 (hr.mono (by decide)) (by rfl) g1 k1 b1 .nil pass0 (pa_cons (pv 3) pa_nil)) pa_nil)) (by rfl))
    (pss_cons (ps_if (pt_val (pe_call G2 (hr.mono (by decide)) (by rfl) g2 k2 b2 .nil pass0 (pa_cons (pv 0) (pa_cons (pv 5) (pa_cons (pv 6) pa_nil)))))
      (pss_one (ps_ret (pe_make MN GN hr (by rfl) gN bN .nil pass0 (pa_cons (pv 1) (pa_cons (pv 2) (pa_cons (pv 3) pa_nil)))))) pss_nil)
    (pss_cons ps_never (pss_one ps_never)))), ?_⟩
    refine ⟨_, rfl, vl, lt, rfl, hl, _, rfl, vr, rt, rfl, hr', _, _, rfl, ?_⟩
    refine ⟨_, rfl, _, rfl, _, rfl, r, p, q, c, lt.w, rt.w, rfl, rb, ?_⟩
    rw [ff]
    refine ⟨_, rfl, iteT ?_⟩
    exact ⟨_, rfl, _, rfl, _, rfl, fun x dx nx nd ne => mkr_node nx nd hl hr' fun G s h => ⟨rfl, kk _ _ s h⟩⟩
theorem scMended : FnScope ["rule", "steps", "side", "deed_key", "node", "key", "is_left"] ["rule", "steps", "side", "deed_key"] (defScope sMended) := ⟨rfl, rfl, rfl, by decide +kernel, rfl, by decide +kernel, by decide +kernel⟩
theorem ok_mended {f N : Addr} {fd : FuncData} (F : Fun K "mended" "mended" sMended f fd) (T : NC K N) (D : Df P w K mg base 4 "balanced" ["rule", "left", "key", "right", "deed_key"] (spBalanced K N)) : FnOk P w K mg base CX0 5 f fd ["rule", "steps", "side", "deed_key"] (spMended K N) := by
  obtain ⟨f1, fd1, G1, g1, k1, b1⟩ := D.ex
  refine F.ok scMended (fun vs H Q E h => ?_) (fun cdv A outer s H vs Q E hr h => ?_)
  · obtain ⟨r, l, p, q, c, v, dk, xs, steps, u, rfl, _⟩ := h
    rfl
  · obtain ⟨r, l, p, q, c, v, dk, xs, steps, u, rfl, rb, hl, len, al, hu, mf, kk⟩ := h
    refine ⟨_, (pss_cons (ps_for PassesOwn.never rfl (pi_list (pe_revL (pv 1))) (pg_tup (by rfl) (pgs_cons (pg_name (i := 4) scMended.nd rfl (.inl rfl)) (pgs_cons (pg_name (i := 5) scMended.nd rfl (.inl rfl)) (pgs_cons (pg_name (i := 6) scMended.nd rfl (.inl rfl)) pgs_nil))))
      (pss_one (ps_if (pt_val (pv 6))
        (pss_one (ps_set (i := 2) scMended.nd rfl (.inl rfl) (pe_call G1 hr (by rfl) g1 k1 b1 .nil pass0 (pa_cons (pv 0) (pa_cons (pv 2) (pa_cons (pv 5) (pa_cons (pe_fld (pv 4) rfl) (pa_cons (pv 3) pa_nil)))))))) (pss_one (ps_set (i := 2) scMended.nd rfl (.inl rfl) (pe_call G1 hr (by rfl) g1 k1 b1 .nil pass0 (pa_cons (pv 0) (pa_cons (pe_fld (pv 4) rfl) (pa_cons (pv 5) (pa_cons (pv 2) (pa_cons (pv 3) pa_nil)))))))))))
    (pss_one (ps_ret (pv 2)))), ?_⟩
    refine ⟨_, rfl, l, xs, rfl, SqL.of hl, fun lr nlr => ⟨lr, rfl, ⟨_, SqL.of upd_same⟩, ?_⟩⟩
    have s1 := same_new (o := .lst xs.reverse) nlr
    have hlr : upd H lr (.lst xs.reverse) lr = some (.lst xs.reverse) := upd_same
    generalize upd H lr (.lst xs.reverse) = H1 at s1 hlr ⊢
    have rb1 := rb.keep s1
    have al1 : All2 (StV N H1) xs steps := al.mono (StV.keep s1)
    have ln := al.len
    refine for_list (xs := xs.reverse) (fun i σ G => Same H1 G ∧ ∃ (v' : V) (z4 z5 z6 : Option V), σ = [some (.ref r), some (.ref l), some v', some dk, z4, z5, z6] ∧ NdAt N G (Tr.mend (steps.drop (steps.length - i)) u) v') ⟨Same.refl _, v, _, _, _, rfl, by rw [Nat.sub_zero, List.drop_length]; exact hu.keep s1⟩ (fun i σ G _ h => SqL.of (h.1 _ _ hlr)) (fun i v σ G hi hp => ?_) (fun σ G hp => ?_)
    · obtain ⟨sg, v', z4, z5, z6, rfl, hm⟩ := hp
      have hlt : i < xs.length := by
        have := (List.getElem?_eq_some_iff.mp hi).1
        rwa [List.length_reverse] at this
      rw [List.getElem?_reverse hlt] at hi
      obtain ⟨⟨t, k, b⟩, es, ta, vn, rfl, hta, hn, ne⟩ := al1.get hi
      have hs : steps.length - (i + 1) = xs.length - 1 - i := by omega
      have e1 : steps.drop (steps.length - (i + 1)) = (t, k, b) :: steps.drop (steps.length - i) := by
        rw [hs, drop_at es]
        congr 2
        omega
      have mf1 := Tr.mendF_drop (steps.length - (i + 1)) mf
      rw [e1] at mf1
      rw [e1]
      obtain ⟨mf1, _⟩ := mf1
      have em : Tr.mend ((t, k, b) :: steps.drop (steps.length - i)) u = if b = true then .n (Tr.mend (steps.drop (steps.length - i)) u) k t.right else .n t.left k (Tr.mend (steps.drop (steps.length - i)) u) := rfl
      rw [em]
      generalize Tr.mend (steps.drop (steps.length - i)) u = m at hm mf1 ⊢
      cases t with
      | e => exact absurd rfl ne
      | n tl tk tr =>
        obtain ⟨a, dx, vl, vr, fm, rfl, hna, hnl, hnr, _⟩ := hn
        have hnaG := sg _ _ hna
        refine ⟨ta, _, rfl, SqT.of (sg _ _ hta), rfl, _, _, rfl, _, _, rfl, _, _, rfl, rfl, ?_⟩
        refine ⟨_, rfl, b, rfl, ?_⟩
        cases b with
        | true =>
          refine iteT ⟨_, rfl, _, rfl, _, rfl, _, rfl, a, N, dx, _, _, rfl, hnaG, T.cl, T.n3, nl3, _, rfl, r, p, q, c, v', vr, dk, m, tr, k, rfl, rb1.keep sg, hm, hnr.keep sg, mf1, fun v2 G2 s2 h2 => ?_⟩
          exact ⟨sg.trans s2, v2, _, _, _, rfl, h2⟩
        | false =>
          refine iteF ⟨_, rfl, _, rfl, a, N, dx, _, _, rfl, hnaG, T.cl, T.n1, nl1, _, rfl, _, rfl, _, rfl, r, p, q, c, vl, v', dk, tl, m, k, rfl, rb1.keep sg, hnl.keep sg, hm, mf1, fun v2 G2 s2 h2 => ?_⟩
          exact ⟨sg.trans s2, v2, _, _, _, rfl, h2⟩
    · obtain ⟨sg, v', z4, z5, z6, rfl, hm⟩ := hp
      rw [List.length_reverse, ln, Nat.sub_self, List.drop_zero] at hm
      exact ⟨_, rfl, kk _ _ (s1.trans sg) hm⟩
theorem scWithKey : FnScope ["rule", "root", "key", "steps", "node", "is_left"] ["rule", "root", "key"] (defScope sWithKey) := ⟨rfl, rfl, rfl, by decide +kernel, rfl, by decide +kernel, by decide +kernel⟩
def spWithKey (K : PySem.W.Frag) (N : Addr) : Sp := fun vs H Q _ => ∃ (r : Addr) (p q c : Int) (v : V) (t : Tr) (x : Int), vs = [.ref r, v, .int x] ∧ RB K H r p q c ∧ NdAt N H t v ∧ t.height ≤ 1000 ∧ (t.put x).fair p q c ∧ ∀ v' H', Same H H' → NdAt N H' (t.put x) v' → Q v' H'
theorem ok_withKey {f N : Addr} {fd : FuncData} (F : Fun K "with_key" "with_key" sWithKey f fd) (NN : NMk P w K mg base N) (D : Df P w K mg base 5 "mended" ["rule", "steps", "side", "deed_key"] (spMended K N)) : FnOk P w K mg base CX0 6 f fd ["rule", "root", "key"] (spWithKey K N) := by
  obtain ⟨f1, fd1, G1, g1, k1, b1⟩ := D.ex
  obtain ⟨gN, T, fN, fdN, MN, GN, bN⟩ := NN
  refine F.ok scWithKey (fun vs H Q E h => ?_) (fun cdv A outer s H vs Q E hr h => ?_)
  · obtain ⟨r, p, q, c, v, t, x, rfl, _⟩ := h
    rfl
  · obtain ⟨r, p, q, c, v, t, x, rfl, rb, hv, hh, ff, kk⟩ := h
    refine ⟨_, (pss_cons (ps_set (i := 3) scWithKey.nd rfl (.inl rfl) (pe_lst pa_nil))
    (pss_cons (ps_set (i := 4) scWithKey.nd rfl (.inl rfl) (pv 1))
    (pss_cons (ps_while PassesOwn.never (pt_cmpR op_notN (pv 4) pe_non (nomark _))
      (pss_cons (ps_set (i := 5) scWithKey.nd rfl (.inl rfl) (pe_cmpR op_lt (pv 2) (pe_fld (pv 4) rfl) (nomark _)))
      (pss_cons (ps_expr (pe_bm PySem.F.plainAttrs_list PySem.F.slot_list_append PySem.F.type_list_append mt_append (pv 3) (pa_cons (pe_tup (pa_cons (pv 4) (pa_cons (pe_fld (pv 4) rfl) (pa_cons (pv 5) pa_nil)))) pa_nil)))
      (pss_one (ps_set (i := 4) scWithKey.nd rfl (.inl rfl) (pe_ifExp (pt_val (pv 5)) (pe_fld (pv 4) rfl) (pe_fld (pv 4) rfl)))))))
    (pss_one (ps_ret (pe_call G1 hr (by rfl) g1 k1 b1 .nil pass0 (pa_cons (pv 0) (pa_cons (pv 3) (pa_cons (pe_make MN GN (hr.mono (by decide)) (by rfl) gN bN .nil pass0 (pa_cons pe_non (pa_cons (pv 2) (pa_cons pe_non pa_nil)))) (pa_cons (pv 2) pa_nil)))))))))), ?_⟩
    refine ⟨(by show 0 ≤ sizeLine; decide), fun l nl => ?_⟩
    have s0 := same_new (o := .lst []) nl
    have h0 : upd H l (.lst []) l = some (.lst []) := upd_same
    generalize upd H l (.lst []) = H1 at s0 h0 ⊢
    refine ⟨_, rfl, ?_⟩
    have rb1 := rb.keep s0
    have hv1 := hv.keep s0
    -- what is done and what is left
    refine ⟨fun m σ G => ∃ (vn : V) (z5 : Option V) (xs : List V) (done : List (Tr × Int × Bool)) (u : Tr), m = u.height ∧ σ = [some (.ref r), some v, some (.int x), some (.ref l), some vn, z5] ∧ But l H1 G ∧ NdAt N G u vn ∧ G l = some (.lst xs) ∧ All2 (StV N G) xs done ∧ Tr.stepsOf (t.path x) = done ++ Tr.stepsOf (u.path x) ∧ done.length + u.height ≤ t.height, ⟨_, v, _, [], [], t, rfl, rfl, fun _ _ _ e => e, hv1, h0, trivial, rfl, by simp⟩, fun m σ G hW => ?_⟩
    obtain ⟨vn, z5, xs, done, u, rfl, rfl, bt, hu, hl, al, es, hd⟩ := hW
    refine ⟨_, rfl, rfl, _, rfl, ?_⟩
    show (if (!decide (vn = V.non)) = true then _ else _)
    rw [hu.isN]
    cases u with
    | e =>
      rw [show (!decide (Tr.e = Tr.e)) = false by decide]
      have es : Tr.stepsOf (t.path x) = done := by rw [es]; exact List.append_nil _
      have ln := al.len
      have rbG : RB K G r p q c := by
        have s1 : Same H G := fun b o e => bt _ _ (fun z => by rw [z, nl] at e; cases e) (s0 _ _ e)
        exact rb.keep s1
      refine iteF ⟨_, rfl, _, rfl, _, rfl, fun y dx nx nd ne => mkr_node (l := .e) (r := .e) nx nd rfl rfl fun G2 s2 hn => ⟨rfl, ?_⟩⟩
      refine ⟨_, rfl, r, l, p, q, c, .ref y, .int x, xs, done, .n .e x .e, rfl, rbG.keep s2, s2 _ _ hl, by simp only [Tr.height] at hd; omega, al.mono (StV.keep s2), hn, by rw [← es]; exact Tr.mendF_put x t ff, fun v' G3 s3 h3 => ?_⟩
      rw [← es, Tr.mend_put] at h3
      refine kk v' G3 (fun b o e => ?_) h3
      exact s3 _ _ (s2 _ _ (bt _ _ (fun z => by rw [z, nl] at e; cases e) (s0 _ _ e)))
    | n ul uk ur =>
      rw [show (!decide (Tr.n ul uk ur = Tr.e)) = true by simp]
      obtain ⟨a, dx, vl, vr, fm, rfl, hna, hnl, hnr, hfm⟩ := hu
      refine iteT ⟨fun σ' G' => ∃ (vn : V) (z5 : Option V) (xs : List V) (done : List (Tr × Int × Bool)) (u : Tr), u.height < (Tr.n ul uk ur).height ∧ σ' = [some (.ref r), some v, some (.int x), some (.ref l), some vn, z5] ∧ But l H1 G' ∧ NdAt N G' u vn ∧ G' l = some (.lst xs) ∧ All2 (StV N G') xs done ∧ Tr.stepsOf (t.path x) = done ++ Tr.stepsOf (u.path x) ∧ done.length + u.height ≤ t.height,
        fun σ' G' h => by
          obtain ⟨vn, z5, xs, done, u, lt, h⟩ := h
          exact ⟨u.height, lt, vn, z5, xs, done, u, rfl, h⟩, ?_⟩
      refine ⟨_, rfl, _, rfl, a, N, dx, _, _, rfl, hna, T.cl, T.n2, nl2, _, _, rfl, rfl, ?_⟩
      refine ⟨_, rfl, .inl ⟨rfl, _, SqL.of hl⟩, _, rfl, _, rfl, a, N, dx, _, _, rfl, hna, T.cl, T.n2, nl2, _, rfl, (by show 3 ≤ sizeLine; decide), fun tt nt => ?_⟩
      have s2 := same_new (o := .tup [.ref a, .int uk, .bl (decide (x < uk))]) nt
      have h2 : upd G tt (.tup [.ref a, .int uk, .bl (decide (x < uk))]) tt = some (.tup [.ref a, .int uk, .bl (decide (x < uk))]) := upd_same
      generalize upd G tt (.tup [.ref a, .int uk, .bl (decide (x < uk))]) = G2 at s2 h2 ⊢
      have hl2 := s2 _ _ hl
      have ln := al.len
      have u2 : But l G2 (upd G2 l (.lst (xs ++ [.ref tt]))) := But.upd_at
      refine ⟨l, _, _, rfl, rfl, hl2, Nat.lt_of_le_of_lt (show _ ≤ 1000 by simp only [Tr.height] at hd; omega) (by decide), ?_⟩
      have hl3 : upd G2 l (.lst (xs ++ [.ref tt])) l = some (.lst (xs ++ [.ref tt])) := upd_same
      have nd : NdAt N G2 (.n ul uk ur) (.ref a) := NdAt.keep s2 ⟨a, dx, vl, vr, fm, rfl, hna, hnl, hnr, hfm⟩
      have al2 : All2 (StV N (upd G2 l (.lst (xs ++ [.ref tt])))) (xs ++ [.ref tt]) (done ++ [(.n ul uk ur, uk, decide (x < uk))]) :=
        ((al.mono (StV.keep s2)).mono (StV.but hl2 u2)).app ⟨StV.but hl2 u2 _ _ ⟨tt, .ref a, rfl, h2, nd, by intro z; cases z⟩, trivial⟩
      have bt2 : But l H1 (upd G2 l (.lst (xs ++ [.ref tt]))) := fun b o n e => u2 _ _ n (s2 _ _ (bt _ _ n e))
      have hna2 : upd G2 l (.lst (xs ++ [.ref tt])) a = some (.ins N dx (nodeF vl uk vr (Tr.n ul uk ur).w fm)) := u2 _ _ (ne_of (s2 _ _ hna) hl2 (by intro z; cases z)) (s2 _ _ hna)
      have hnl2 := (hnl.keep s2).but (Oth.lst hl2) u2
      have hnr2 := (hnr.keep s2).but (Oth.lst hl2) u2
      generalize upd G2 l (.lst (xs ++ [.ref tt])) = G3 at u2 hl3 al2 bt2 hna2 hnl2 hnr2 ⊢
      have hh1 : ul.height < (Tr.n ul uk ur).height ∧ ur.height < (Tr.n ul uk ur).height := by
        simp only [Tr.height]; split <;> omega
      have ep : (Tr.n ul uk ur).path x = (.n ul uk ur, decide (x < uk)) :: (if x < uk then ul.path x else ur.path x) := rfl
      rw [ep] at es
      have es : Tr.stepsOf (t.path x) = (done ++ [(.n ul uk ur, uk, decide (x < uk))]) ++ Tr.stepsOf (if x < uk then ul.path x else ur.path x) := by
        rw [es, List.append_assoc]
        rfl
      refine ⟨_, rfl, _, rfl, ?_⟩
      by_cases z : x < uk
      · rw [decide_eq_true z]
        rw [if_pos z] at es
        refine iteT ⟨_, rfl, a, N, dx, _, _, rfl, hna2, T.cl, T.n1, nl1, ?_⟩
        exact ⟨vl, _, _, _, ul, hh1.1, rfl, bt2, hnl2, hl3, al2, es, by rw [List.length_append]; simp only [List.length_cons, List.length_nil]; omega⟩
      · rw [decide_eq_false z]
        rw [if_neg z] at es
        refine iteF ⟨_, rfl, a, N, dx, _, _, rfl, hna2, T.cl, T.n3, nl3, ?_⟩
        exact ⟨vr, _, _, _, ur, hh1.2, rfl, bt2, hnr2, hl3, al2, es, by rw [List.length_append]; simp only [List.length_cons, List.length_nil]; omega⟩
end
end Ev
set_option maxHeartbeats 1000000
namespace Ev
open PySem L2 PySem.Spec PyProof.Rows RZ
/-! A take of a key without sides. -/
def spWithoutLeaf (K : PySem.W.Frag) (N : Addr) : Sp := fun vs H Q _ => ∃ (r : Addr) (p q c : Int) (v : V) (t : Tr) (x : Int), vs = [.ref r, v, .int x] ∧ RB K H r p q c ∧ NdAt N H t v ∧ t.height ≤ 1000 ∧ x ∈ t.keys ∧ t.asc ∧ t.sub x = .n .e x .e ∧ (t.cut x).fair p q c ∧ ∀ v' H', Same H H' → NdAt N H' (t.cut x) v' → Q v' H'
section
variable {P : Program} {w : World} {K : PySem.W.Frag} {mg : Str → Option Value} {base : Heap}
theorem scWithoutKey : FnScope ["rule", "root", "key", "steps", "node", "is_left", "below", "neighbour"] ["rule", "root", "key"] (defScope sWithoutKey) := ⟨rfl, rfl, rfl, by decide +kernel, rfl, by decide +kernel, by decide +kernel⟩
theorem ok_withoutLeaf {f N : Addr} {fd : FuncData} (F : Fun K "without_key" "without_key" sWithoutKey f fd) (T : NC K N) (D : Df P w K mg base 5 "mended" ["rule", "steps", "side", "deed_key"] (spMended K N)) : FnOk P w K mg base CX0 6 f fd ["rule", "root", "key"] (spWithoutLeaf K N) := by
  obtain ⟨f1, fd1, G1, g1, k1, b1⟩ := D.ex
  refine F.ok scWithoutKey (fun vs H Q E h => ?_) (fun cdv A outer s H vs Q E hr h => ?_)
  · obtain ⟨r, p, q, c, v, t, x, rfl, _⟩ := h
    rfl
  · obtain ⟨r, p, q, c, v, t, x, rfl, rb, hv, hh, hx, ha, hsub, ff, kk⟩ := h
    refine ⟨_, (pss_cons (ps_set (i := 3) scWithoutKey.nd rfl (.inl rfl) (pe_lst pa_nil))
    (pss_cons (ps_set (i := 4) scWithoutKey.nd rfl (.inl rfl) (pv 1))
    (pss_cons (ps_while PassesOwn.never (pt_cmpR op_ne (pe_fld (pv 4) rfl) (pv 2) (nomark _))
      (pss_cons (ps_set (i := 5) scWithoutKey.nd rfl (.inl rfl) (pe_cmpR op_lt (pv 2) (pe_fld (pv 4) rfl) (nomark _)))
      (pss_cons (ps_expr (pe_bm PySem.F.plainAttrs_list PySem.F.slot_list_append PySem.F.type_list_append mt_append (pv 3) (pa_cons (pe_tup (pa_cons (pv 4) (pa_cons (pe_fld (pv 4) rfl) (pa_cons (pv 5) pa_nil)))) pa_nil)))
      (pss_one (ps_set (i := 4) scWithoutKey.nd rfl (.inl rfl) (pe_ifExp (pt_val (pv 5)) (pe_fld (pv 4) rfl) (pe_fld (pv 4) rfl)))))))
    (pss_cons (ps_if (PW.pt (pw_or (pt_cmpR op_isN (pe_fld (pv 4) rfl) pe_non (nomark _)) (pw_or1 (pt_cmpR op_isN (pe_fld (pv 4) rfl) pe_non (nomark _)))))
      (pss_one (ps_ret (pe_call G1 hr (by rfl) g1 k1 b1 .nil pass0 (pa_cons (pv 0) (pa_cons (pv 3) (pa_cons (pe_ifExp (pt_cmpR op_isN (pe_fld (pv 4) rfl) pe_non (nomark _)) (pe_fld (pv 4) rfl) (pe_fld (pv 4) rfl)) (pa_cons (pv 2) pa_nil))))))) pss_nil)
    (pss_cons ps_never (pss_cons ps_never (pss_cons ps_never (pss_cons ps_never (pss_one ps_never))))))))), ?_⟩
    refine ⟨(by show 0 ≤ sizeLine; decide), fun l nl => ?_⟩
    have s0 := same_new (o := .lst []) nl
    have h0 : upd H l (.lst []) l = some (.lst []) := upd_same
    generalize upd H l (.lst []) = H1 at s0 h0 ⊢
    refine ⟨_, rfl, ?_⟩
    have rb1 := rb.keep s0
    have hv1 := hv.keep s0
    refine ⟨fun m σ G => ∃ (vn : V) (z5 : Option V) (xs : List V) (done : List (Tr × Int × Bool)) (u : Tr), m = u.height ∧ σ = [some (.ref r), some v, some (.int x), some (.ref l), some vn, z5, none, none] ∧ But l H1 G ∧ NdAt N G u vn ∧ G l = some (.lst xs) ∧ All2 (StV N G) xs done ∧ Tr.stepsOf (t.pathTo x) = done ++ Tr.stepsOf (u.pathTo x) ∧ done.length + u.height ≤ t.height ∧ x ∈ u.keys ∧ u.asc ∧ u.sub x = .n .e x .e, ⟨_, v, _, [], [], t, rfl, rfl, fun _ _ _ e => e, hv1, h0, trivial, rfl, by simp, hx, ha, hsub⟩, fun m σ G hW => ?_⟩
    obtain ⟨vn, z5, xs, done, u, rfl, rfl, bt, hu, hl, al, es, hd, hxu, hau, hsu⟩ := hW
    cases u with
    | e => cases hxu
    | n ul uk ur =>
      obtain ⟨a, dx, vl, vr, fm, rfl, hna, hnl, hnr, hfm⟩ := hu
      refine ⟨_, rfl, a, N, dx, _, _, rfl, hna, T.cl, T.n2, nl2, _, rfl, rfl, _, rfl, ?_⟩
      show (if (!decide (V.int uk = V.int x)) = true then _ else _)
      by_cases y : uk = x
      · rw [show (!decide (V.int uk = V.int x)) = false by rw [y]; simp]
        have ep : (Tr.n ul uk ur).pathTo x = [] := if_pos y
        have esub : (Tr.n ul uk ur).sub x = .n ul uk ur := if_pos y
        rw [esub] at hsu
        injection hsu with e1 e2 e3
        subst e1 e2 e3
        rw [ep] at es
        have es : Tr.stepsOf (t.pathTo uk) = done := by rw [es]; exact List.append_nil _
        have ln := al.len
        have hl0 : vl = .non := hnl
        have hr0 : vr = .non := hnr
        have rbG : RB K G r p q c := by
          have s1 : Same H G := fun b o e => bt _ _ (fun z => by rw [z, nl] at e; cases e) (s0 _ _ e)
          exact rb.keep s1
        refine iteF ⟨_, rfl, a, N, dx, _, _, rfl, hna, T.cl, T.n1, nl1, rfl, _, rfl, ?_⟩
        rw [hl0, show decide (V.non = V.non) = true by decide]
        refine iteT (iteT ?_)
        refine ⟨_, rfl, _, rfl, _, rfl, a, N, dx, _, _, rfl, hna, T.cl, T.n3, nl3, rfl, _, rfl, ?_⟩
        rw [hr0, show decide (V.non = V.non) = true by decide]
        refine iteT ⟨_, rfl, a, N, dx, _, _, rfl, hna, T.cl, T.n1, nl1, _, rfl, r, l, p, q, c, vl, .int uk, xs, done, .e, by rw [hl0]; rfl, rbG, hl, by simp only [Tr.height] at hd; omega, al, hl0, by rw [← es]; exact Tr.mendF_cut uk t hx ha ff, fun v' G3 s3 h3 => ?_⟩
        rw [← es, Tr.mend_cut uk t hx ha] at h3
        exact kk v' G3 (fun b o e => s3 _ _ (bt _ _ (fun z => by rw [z, nl] at e; cases e) (s0 _ _ e))) h3
      · have y' : ¬ x = uk := fun e => y e.symm
        rw [show (!decide (V.int uk = V.int x)) = true by simp [y]]
        refine iteT ⟨fun σ' G' => ∃ (vn : V) (z5 : Option V) (xs : List V) (done : List (Tr × Int × Bool)) (u : Tr), u.height < (Tr.n ul uk ur).height ∧ σ' = [some (.ref r), some v, some (.int x), some (.ref l), some vn, z5, none, none] ∧ But l H1 G' ∧ NdAt N G' u vn ∧ G' l = some (.lst xs) ∧ All2 (StV N G') xs done ∧ Tr.stepsOf (t.pathTo x) = done ++ Tr.stepsOf (u.pathTo x) ∧ done.length + u.height ≤ t.height ∧ x ∈ u.keys ∧ u.asc ∧ u.sub x = .n .e x .e,
          fun σ' G' h => by
            obtain ⟨vn, z5, xs, done, u, lt, h⟩ := h
            exact ⟨u.height, lt, vn, z5, xs, done, u, rfl, h⟩, ?_⟩
        refine ⟨_, rfl, _, rfl, a, N, dx, _, _, rfl, hna, T.cl, T.n2, nl2, _, _, rfl, rfl, ?_⟩
        refine ⟨_, rfl, .inl ⟨rfl, _, SqL.of hl⟩, _, rfl, _, rfl, a, N, dx, _, _, rfl, hna, T.cl, T.n2, nl2, _, rfl, (by show 3 ≤ sizeLine; decide), fun tt nt => ?_⟩
        have s2 := same_new (o := .tup [.ref a, .int uk, .bl (decide (x < uk))]) nt
        have h2 : upd G tt (.tup [.ref a, .int uk, .bl (decide (x < uk))]) tt = some (.tup [.ref a, .int uk, .bl (decide (x < uk))]) := upd_same
        generalize upd G tt (.tup [.ref a, .int uk, .bl (decide (x < uk))]) = G2 at s2 h2 ⊢
        have hl2 := s2 _ _ hl
        have ln := al.len
        have u2 : But l G2 (upd G2 l (.lst (xs ++ [.ref tt]))) := But.upd_at
        refine ⟨l, _, _, rfl, rfl, hl2, Nat.lt_of_le_of_lt (show _ ≤ 1000 by simp only [Tr.height] at hd; omega) (by decide), ?_⟩
        have hl3 : upd G2 l (.lst (xs ++ [.ref tt])) l = some (.lst (xs ++ [.ref tt])) := upd_same
        have nd : NdAt N G2 (.n ul uk ur) (.ref a) := NdAt.keep s2 ⟨a, dx, vl, vr, fm, rfl, hna, hnl, hnr, hfm⟩
        have al2 : All2 (StV N (upd G2 l (.lst (xs ++ [.ref tt])))) (xs ++ [.ref tt]) (done ++ [(.n ul uk ur, uk, decide (x < uk))]) :=
          ((al.mono (StV.keep s2)).mono (StV.but hl2 u2)).app ⟨StV.but hl2 u2 _ _ ⟨tt, .ref a, rfl, h2, nd, by intro z; cases z⟩, trivial⟩
        have bt2 : But l H1 (upd G2 l (.lst (xs ++ [.ref tt]))) := fun b o n e => u2 _ _ n (s2 _ _ (bt _ _ n e))
        have hna2 : upd G2 l (.lst (xs ++ [.ref tt])) a = some (.ins N dx (nodeF vl uk vr (Tr.n ul uk ur).w fm)) := u2 _ _ (ne_of (s2 _ _ hna) hl2 (by intro z; cases z)) (s2 _ _ hna)
        have hnl2 := (hnl.keep s2).but (Oth.lst hl2) u2
        have hnr2 := (hnr.keep s2).but (Oth.lst hl2) u2
        generalize upd G2 l (.lst (xs ++ [.ref tt])) = G3 at u2 hl3 al2 bt2 hna2 hnl2 hnr2 ⊢
        have hh1 : ul.height < (Tr.n ul uk ur).height ∧ ur.height < (Tr.n ul uk ur).height := by
          simp only [Tr.height]; split <;> omega
        have ep : (Tr.n ul uk ur).pathTo x = (.n ul uk ur, decide (x < uk)) :: (if x < uk then ul.pathTo x else ur.pathTo x) := if_neg y
        have esub : (Tr.n ul uk ur).sub x = if x < uk then ul.sub x else ur.sub x := if_neg y
        rw [ep] at es
        rw [esub] at hsu
        obtain ⟨al1, ar1, lo, hi⟩ := Tr.asc_n.mp hau
        have hm : x ∈ ul.keys ∨ x ∈ ur.keys := by
          rcases List.mem_append.mp hxu with h | h
          · exact .inl h
          · rcases List.mem_cons.mp h with h | h
            · exact absurd h y'
            · exact .inr h
        have es : Tr.stepsOf (t.pathTo x) = (done ++ [(.n ul uk ur, uk, decide (x < uk))]) ++ Tr.stepsOf (if x < uk then ul.pathTo x else ur.pathTo x) := by
          rw [es, List.append_assoc]
          rfl
        refine ⟨_, rfl, _, rfl, ?_⟩
        by_cases z : x < uk
        · rw [decide_eq_true z]
          rw [if_pos z] at es hsu
          refine iteT ⟨_, rfl, a, N, dx, _, _, rfl, hna2, T.cl, T.n1, nl1, ?_⟩
          exact ⟨vl, _, _, _, ul, hh1.1, rfl, bt2, hnl2, hl3, al2, es, by rw [List.length_append]; simp only [List.length_cons, List.length_nil]; omega, hm.resolve_right fun h => by have := hi x h; omega, al1, hsu⟩
        · rw [decide_eq_false z]
          rw [if_neg z] at es hsu
          refine iteF ⟨_, rfl, a, N, dx, _, _, rfl, hna2, T.cl, T.n3, nl3, ?_⟩
          exact ⟨vr, _, _, _, ur, hh1.2, rfl, bt2, hnr2, hl3, al2, es, by rw [List.length_append]; simp only [List.length_cons, List.length_nil]; omega, hm.resolve_left fun h => by have := lo x h; omega, ar1, hsu⟩
end
end Ev
set_option maxHeartbeats 1000000
namespace Ev
open PySem L2 PySem.Spec PyProof.Rows RZ
/-! Keys, and the first place from a key. -/
/-- how many stand below a key -/
def belowN (ks : List Int) (x : Int) : Nat := ks.countP fun k => decide (k < x)
theorem belowN_app {as bs : List Int} {x : Int} (h1 : ∀ a ∈ as, a < x) (h2 : ∀ b ∈ bs, x ≤ b) : belowN (as ++ bs) x = as.length := by
  unfold belowN
  rw [List.countP_append, List.countP_eq_length.mpr (fun a ha => decide_eq_true (h1 a ha)), List.countP_eq_zero.mpr (fun b hb => by have := h2 b hb; rw [decide_eq_false (by omega)]; exact Bool.false_ne_true)]
  rfl
theorem belowN_at {ks : List Int} {x : Int} {m : Nat} (hm : m ≤ ks.length) (h1 : ∀ i k, ks[i]? = some k → i < m → k < x) (h2 : ∀ i k, ks[i]? = some k → m ≤ i → x ≤ k) : belowN ks x = m := by
  have e := belowN_app (as := ks.take m) (bs := ks.drop m) (x := x) (fun a ha => by
    obtain ⟨i, hi, e⟩ := List.mem_iff_getElem.mp ha
    rw [List.length_take] at hi
    rw [List.getElem_take] at e
    exact h1 i a (by rw [List.getElem?_eq_getElem (by omega), e]) (by omega)) (fun b hb => by
    obtain ⟨i, hi, e⟩ := List.mem_iff_getElem.mp hb
    rw [List.length_drop] at hi
    rw [List.getElem_drop] at e
    exact h2 (m + i) b (by rw [List.getElem?_eq_getElem (by omega), e]) (by omega))
  rw [List.take_append_drop, List.length_take] at e
  rw [e]
  omega
theorem belowN_le (ks : List Int) (x : Int) : belowN ks x ≤ ks.length := List.countP_le_length
namespace Tr
/-- a put lays the key where it belongs -/
theorem keys_put (x : Int) : ∀ t : Tr, t.asc → ∃ as bs, t.keys = as ++ bs ∧ (t.put x).keys = as ++ x :: bs ∧ (∀ a ∈ as, a ≤ x) ∧ ∀ b ∈ bs, x < b
  | .e, _ => ⟨[], [], rfl, rfl, (fun _ h => nomatch h), fun _ h => nomatch h⟩
  | .n l k r, h => by
    obtain ⟨h1, h2, h3, h4⟩ := asc_n.mp h
    unfold put
    by_cases z : x < k
    · rw [if_pos z]
      obtain ⟨as, bs, e1, e2, e3, e4⟩ := keys_put x l h1
      refine ⟨as, bs ++ k :: r.keys, ?_, ?_, e3, fun b hb => ?_⟩
      · show l.keys ++ k :: r.keys = _
        rw [e1, List.append_assoc]
      · show (l.put x).keys ++ k :: r.keys = _
        rw [e2, List.append_assoc]
        rfl
      · rcases List.mem_append.mp hb with hb | hb
        · exact e4 b hb
        · rcases List.mem_cons.mp hb with rfl | hb
          · exact z
          · exact Int.lt_trans z (h4 b hb)
    · rw [if_neg z]
      obtain ⟨as, bs, e1, e2, e3, e4⟩ := keys_put x r h2
      refine ⟨l.keys ++ k :: as, bs, ?_, ?_, fun a ha => ?_, e4⟩
      · show l.keys ++ k :: r.keys = _
        rw [e1, List.append_assoc]
        rfl
      · show l.keys ++ k :: (r.put x).keys = _
        rw [e2, List.append_assoc]
        rfl
      · rcases List.mem_append.mp ha with ha | ha
        · have := h3 a ha; omega
        · rcases List.mem_cons.mp ha with rfl | ha
          · omega
          · exact e3 a ha
theorem keys_put_at {x : Int} {t : Tr} (h : t.asc) (hx : ¬ x ∈ t.keys) : (t.put x).keys = t.keys.take (belowN t.keys x) ++ x :: t.keys.drop (belowN t.keys x) := by
  obtain ⟨as, bs, e1, e2, e3, e4⟩ := keys_put x t h
  have e : belowN t.keys x = as.length := by
    rw [e1]
    refine belowN_app (fun a ha => ?_) (fun b hb => by have := e4 b hb; omega)
    have h1 := e3 a ha
    have h2 : a ≠ x := fun z => hx (by rw [e1, ← z]; exact List.mem_append_left _ ha)
    omega
  rw [e2, e, e1, List.take_left, List.drop_left]
theorem asc_put {x : Int} {t : Tr} (h : t.asc) (hx : ¬ x ∈ t.keys) : (t.put x).asc := by
  obtain ⟨as, bs, e1, e2, e3, e4⟩ := keys_put x t h
  unfold asc at h ⊢
  rw [e1] at h hx
  rw [e2]
  rw [List.pairwise_append] at h ⊢
  obtain ⟨h1, h2, h3⟩ := h
  have e5 : ∀ a ∈ as, a < x := fun a ha => by
    have h1 := e3 a ha
    have h2 : a ≠ x := fun z => hx (by rw [← z]; exact List.mem_append_left _ ha)
    omega
  refine ⟨h1, List.pairwise_cons.mpr ⟨e4, h2⟩, fun a ha b hb => ?_⟩
  rcases List.mem_cons.mp hb with rfl | hb
  · exact e5 a ha
  · exact h3 a ha b hb
/-- a cut of a key without sides -/
theorem keys_cut (x : Int) : ∀ t : Tr, t.asc → t.sub x = .n .e x .e → ∃ as bs, t.keys = as ++ x :: bs ∧ (t.cut x).keys = as ++ bs ∧ (∀ a ∈ as, a < x) ∧ ∀ b ∈ bs, x < b
  | .e, _, h => by cases h
  | .n l k r, h, hs => by
    obtain ⟨h1, h2, h3, h4⟩ := asc_n.mp h
    unfold sub at hs
    unfold cut
    by_cases y : k = x
    · rw [if_pos y] at hs
      rw [if_pos y.symm]
      injection hs with e1 e2 e3
      subst e1 e2 e3
      exact ⟨[], [], rfl, rfl, (fun _ h => nomatch h), fun _ h => nomatch h⟩
    · rw [if_neg y] at hs
      rw [if_neg (fun e => y e.symm)]
      by_cases z : x < k
      · rw [if_pos z] at hs ⊢
        obtain ⟨as, bs, e1, e2, e3, e4⟩ := keys_cut x l h1 hs
        refine ⟨as, bs ++ k :: r.keys, ?_, ?_, e3, fun b hb => ?_⟩
        · show l.keys ++ k :: r.keys = _
          rw [e1, List.append_assoc]
          rfl
        · show (l.cut x).keys ++ k :: r.keys = _
          rw [e2, List.append_assoc]
        · rcases List.mem_append.mp hb with hb | hb
          · exact e4 b hb
          · rcases List.mem_cons.mp hb with rfl | hb
            · exact z
            · exact Int.lt_trans z (h4 b hb)
      · rw [if_neg z] at hs ⊢
        obtain ⟨as, bs, e1, e2, e3, e4⟩ := keys_cut x r h2 hs
        refine ⟨l.keys ++ k :: as, bs, ?_, ?_, fun a ha => ?_, e4⟩
        · show l.keys ++ k :: r.keys = _
          rw [e1, List.append_assoc]
          rfl
        · show l.keys ++ k :: (r.cut x).keys = _
          rw [e2, List.append_assoc]
          rfl
        · rcases List.mem_append.mp ha with ha | ha
          · have := h3 a ha; omega
          · rcases List.mem_cons.mp ha with rfl | ha
            · omega
            · exact e3 a ha
theorem keys_cut_at {x : Int} {t : Tr} (h : t.asc) (hs : t.sub x = .n .e x .e) : (t.cut x).keys = t.keys.take (belowN t.keys x) ++ t.keys.drop (belowN t.keys x + 1) ∧ x ∈ t.keys ∧ (t.cut x).asc ∧ ¬ x ∈ (t.cut x).keys := by
  obtain ⟨as, bs, e1, e2, e3, e4⟩ := keys_cut x t h hs
  have e : belowN t.keys x = as.length := by
    rw [e1]
    refine belowN_app e3 (fun b hb => ?_)
    rcases List.mem_cons.mp hb with rfl | hb
    · exact Int.le_refl _
    · have := e4 b hb; omega
  refine ⟨?_, ?_, ?_, ?_⟩
  · rw [e2, e, e1, List.take_left]
    congr 1
    rw [← List.drop_drop, List.drop_left]
    rfl
  · rw [e1]
    exact List.mem_append_right _ List.mem_cons_self
  · unfold asc at h ⊢
    rw [e1] at h
    rw [e2]
    rw [List.pairwise_append] at h ⊢
    obtain ⟨h1, h2, h3⟩ := h
    exact ⟨h1, (List.pairwise_cons.mp h2).2, fun a ha b hb => h3 a ha b (List.mem_cons_of_mem _ hb)⟩
  · rw [e2]
    intro hm
    rcases List.mem_append.mp hm with hm | hm
    · have := e3 x hm; omega
    · have := e4 x hm; omega
end Tr
def spKey : Sp := fun vs H Q _ => ∃ x : Int, vs = [.int x] ∧ -10 ^ 30 < x ∧ x < 10 ^ 30 ∧ Q (.bl true) H
def spNeedKey : Sp := fun vs H Q _ => ∃ x : Int, vs = [.int x] ∧ -10 ^ 30 < x ∧ x < 10 ^ 30 ∧ Q .non H
def spFirstFrom (K : PySem.W.Frag) : Sp := fun vs H Q _ => ∃ (l : Addr) (ks : List Int) (x : Int), vs = [.ref l, .int x] ∧ H l = some (.lst (ks.map .int)) ∧ ks.Pairwise (· < ·) ∧ Q (.int (belowN ks x)) H
section
variable {P : Program} {w : World} {K : PySem.W.Frag} {mg : Str → Option Value} {base : Heap}
theorem scIsKey : FnScope ["value"] ["value"] (defScope sIsKey) := ⟨rfl, rfl, rfl, by decide +kernel, rfl, by decide +kernel, by decide +kernel⟩
theorem ok_isKey {f : Addr} {fd : FuncData} {tk : Tok} (F : Fun K "is_key" "is_key" sIsKey f fd) (gB : mg "KEY_BOUND" = some (.int (10 ^ 30) tk)) (D1 : Df P w K mg base 1 "is_integer" ["value"] spIsInt) : FnOk P w K mg base CX0 2 f fd ["value"] spKey := by
  obtain ⟨f1, fd1, G1, g1, k1, b1⟩ := D1.ex
  refine F.ok scIsKey (fun vs H Q E h => ?_) (fun cdv A outer s H vs Q E hr h => ?_)
  · obtain ⟨x, rfl, _⟩ := h
    rfl
  · obtain ⟨x, rfl, h1, h2, kk⟩ := h
    refine ⟨_, (pss_one (ps_ret (pe_and (pe_call G1 hr (by rfl) g1 k1 b1 .nil pass0 (pa_cons (pv 0) pa_nil)) (pe_one (pe_chain op_lt op_lt (pe_un un_neg (pe_glob (v := .int (10 ^ 30)) rfl gB ⟨_, rfl⟩)) (pv 0) (pe_glob (v := .int (10 ^ 30)) rfl gB ⟨_, rfl⟩)))))), ?_⟩
    refine ⟨_, rfl, x, rfl, true, rfl, iteT ⟨_, rfl, _, rfl, _, _, rfl, rfl, true, congrArg V.bl (decide_eq_true h1), iteT ⟨_, _, rfl, rfl, ?_⟩⟩⟩
    show Q (.bl (decide (x < 10 ^ 30))) H
    rw [decide_eq_true h2]
    exact kk
theorem scNeedKey : FnScope ["value"] ["value"] (defScope sNeedKey) := ⟨rfl, rfl, rfl, by decide +kernel, rfl, by decide +kernel, by decide +kernel⟩
theorem ok_needKey {f : Addr} {fd : FuncData} (F : Fun K "need_key" "need_key" sNeedKey f fd) (D1 : Df P w K mg base 2 "is_key" ["value"] spKey) : FnOk P w K mg base CX0 3 f fd ["value"] spNeedKey := by
  obtain ⟨f1, fd1, G1, g1, k1, b1⟩ := D1.ex
  refine F.ok scNeedKey (fun vs H Q E h => ?_) (fun cdv A outer s H vs Q E hr h => ?_)
  · obtain ⟨x, rfl, _⟩ := h
    rfl
  · obtain ⟨x, rfl, h1, h2, kk⟩ := h
    refine ⟨_, (pss_one (ps_if (pt_not (pt_val (pe_call G1 hr (by rfl) g1 k1 b1 .nil pass0 (pa_cons (pv 0) pa_nil))))
      (pss_one ps_never) pss_nil)), ?_⟩
    exact ⟨_, rfl, x, rfl, h1, h2, true, rfl, iteF kk⟩
theorem scFirstFrom : FnScope ["order", "key", "low", "high", "middle"] ["order", "key"] (defScope sFirstFrom) := ⟨rfl, rfl, rfl, by decide +kernel, rfl, by decide +kernel, by decide +kernel⟩
theorem ok_firstFrom {f : Addr} {fd : FuncData} (F : Fun K "first_from" "first_from" sFirstFrom f fd) (T : Blt mg) : FnOk P w K mg base CX0 1 f fd ["order", "key"] (spFirstFrom K) := by
  refine F.ok scFirstFrom (fun vs H Q E h => ?_) (fun cdv A outer s H vs Q E hr h => ?_)
  · obtain ⟨l, ks, x, rfl, _⟩ := h
    rfl
  · obtain ⟨l, ks, x, rfl, hl, asc, kk⟩ := h
    refine ⟨_, (pss_cons (ps_par (i := 2) (j := 3) (by rfl) scFirstFrom.nd rfl rfl (by decide) rfl rfl (pa_cons pe_int (pa_cons (pe_callB call_len_seq (by rfl) T.len PySem.boot_len (pa_cons (pv 0) pa_nil)) pa_nil)) (by rfl))
    (pss_cons (ps_while PassesOwn.never (pt_cmpR op_lt (pv 2) (pv 3) (nomark _))
      (pss_cons (ps_set (i := 4) scFirstFrom.nd rfl (.inl rfl) (pe_op op_fdiv (pe_op op_add (pv 2) (pv 3)) pe_int))
      (pss_one (ps_if (pt_cmpR op_lt (pe_ix ix_list (pv 0) (pv 4) (fun _ _ => rfl)) (pv 1) (nomark _))
        (pss_one (ps_set (i := 2) scFirstFrom.nd rfl (.inl rfl) (pe_op op_add (pv 4) pe_int))) (pss_one (ps_set (i := 3) scFirstFrom.nd rfl (.inl rfl) (pv 4)))))))
    (pss_one (ps_ret (pv 2))))), ?_⟩
    refine ⟨_, rfl, l, _, rfl, .inl (SqL.of hl), _, _, rfl, ?_⟩
    rw [List.length_map]
    refine ⟨fun m σ G => ∃ (lo hi : Nat) (z : Option V), m = hi - lo ∧ σ = [some (.ref l), some (.int x), some (.int lo), some (.int hi), z] ∧ G = H ∧ lo ≤ hi ∧ hi ≤ ks.length ∧ (∀ i k, ks[i]? = some k → i < lo → k < x) ∧ ∀ i k, ks[i]? = some k → hi ≤ i → x ≤ k, ⟨_, 0, ks.length, none, rfl, rfl, rfl, Nat.zero_le _, Nat.le_refl _, fun i k _ hi => absurd hi (Nat.not_lt_zero _), fun i k e hi => by have := (List.getElem?_eq_some_iff.mp e).1; omega⟩, fun m σ G hW => ?_⟩
    obtain ⟨lo, hi, z, rfl, rfl, rfl, h1, h2, h3, h4⟩ := hW
    refine ⟨_, rfl, _, rfl, _, _, rfl, rfl, _, rfl, ite2 (fun e => ?_) (fun e => ?_)⟩
    · have lt : lo < hi := Int.ofNat_lt.mp (of_decide_eq_true e)
      have hm : ((lo : Int) + (hi : Int)) / 2 = (((lo + hi) / 2 : Nat) : Int) := by omega
      refine ⟨fun σ' G' => ∃ (lo' hi' : Nat) (z : Option V), hi' - lo' < hi - lo ∧ σ' = [some (.ref l), some (.int x), some (.int lo'), some (.int hi'), z] ∧ G' = G ∧ lo' ≤ hi' ∧ hi' ≤ ks.length ∧ (∀ i k, ks[i]? = some k → i < lo' → k < x) ∧ ∀ i k, ks[i]? = some k → hi' ≤ i → x ≤ k, fun σ' G' h => by
          obtain ⟨lo', hi', z, lt, h⟩ := h
          exact ⟨hi' - lo', lt, lo', hi', z, rfl, h⟩, ?_⟩
      refine ⟨_, rfl, _, rfl, _, _, rfl, rfl, _, _, rfl, rfl, ⟨by decide, by decide⟩, ?_⟩
      dsimp only
      rw [hm]
      have hmid : lo ≤ (lo + hi) / 2 ∧ (lo + hi) / 2 < hi := by omega
      generalize (lo + hi) / 2 = mid at hmid hm ⊢
      have hk : ks[mid]? = some ks[mid] := List.getElem?_eq_getElem (by omega)
      generalize ks[mid]'(by omega) = km at hk
      have hkm : (ks.map V.int)[mid]? = some (.int km) := by rw [List.getElem?_map, hk]; rfl
      refine ⟨_, rfl, _, rfl, l, _, _, _, rfl, rfl, SqL.of hl, atI_nat hkm, _, rfl, _, _, rfl, rfl, _, rfl, ite2 (fun e2 => ?_) (fun e2 => ?_)⟩
      · refine ⟨_, rfl, _, _, rfl, rfl, ?_⟩
        refine ⟨mid + 1, hi, _, by omega, rfl, rfl, by omega, h2, fun i k ek hi' => ?_, h4⟩
        rcases Nat.lt_or_ge i mid with hlt | hge
        · have := List.pairwise_iff_getElem.mp asc i mid (List.getElem?_eq_some_iff.mp ek).1 (by omega) hlt
          rw [(List.getElem?_eq_some_iff.mp ek).2, (List.getElem?_eq_some_iff.mp hk).2] at this
          exact Int.lt_trans this (of_decide_eq_true e2)
        · have : i = mid := by omega
          subst this
          rw [hk] at ek
          cases ek
          exact of_decide_eq_true e2
      · refine ⟨_, rfl, ?_⟩
        refine ⟨lo, mid, _, by omega, rfl, rfl, hmid.1, by omega, h3, fun i k ek hi' => ?_⟩
        rcases Nat.lt_or_ge mid i with hlt | hge
        · have := List.pairwise_iff_getElem.mp asc mid i (by omega) (List.getElem?_eq_some_iff.mp ek).1 hlt
          rw [(List.getElem?_eq_some_iff.mp ek).2, (List.getElem?_eq_some_iff.mp hk).2] at this
          have e2 : ¬ km < x := fun z => e2 (decide_eq_true z)
          have this : km < k := this
          omega
        · have : i = mid := by omega
          subst this
          rw [hk] at ek
          cases ek
          have e2 : ¬ km < x := fun z => e2 (decide_eq_true z)
          omega
    · have eq : lo = hi := by
        have e' : ¬ lo < hi := fun z => e (decide_eq_true (Int.ofNat_lt.mpr z))
        omega
      subst eq
      refine ⟨_, rfl, ?_⟩
      rw [belowN_at h2 h3 h4] at kk
      exact kk
end
end Ev
set_option maxHeartbeats 1000000
namespace Ev
open PySem L2 PySem.Spec PyProof.Rows RZ
/-! States: a root, an order, the worths. -/
section
variable {κ : Type} [DecidableEq κ]
theorem valV_dropK (k j : κ) : ∀ kvs : List (κ × V), valV (dropK kvs k) j = if j = k then none else valV kvs j
  | [] => by
    show none = _
    split <;> rfl
  | p :: r => by
    have ih := valV_dropK k j r
    by_cases e : p.1 = k
    · rw [dropK_pos e, ih]
      by_cases z : j = k
      · rw [if_pos z, if_pos z]
      · rw [if_neg z, if_neg z, valV_neg (fun e2 => z (e2.symm.trans e))]
    · rw [dropK_neg e]
      by_cases y : p.1 = j
      · rw [valV_pos y, valV_pos y, if_neg (fun z => e (y.trans z))]
      · rw [valV_neg y, valV_neg y, ih]
end
/-- the worths of a tree's keys -/
structure Wor (kvs : List (Key × V)) (t : Tr) : Prop where
  mem : ∀ x, (valV kvs (.inl x)).isSome = decide (x ∈ t.keys)
  len : kvs.length = t.keys.length
  nd : (kvs.map (·.1)).Nodup
theorem Wor.put {kvs : List (Key × V)} {t : Tr} (h : Wor kvs t) (a : t.asc) {x : Int} (hx : ¬ x ∈ t.keys) (v : V) : Wor (putK kvs (.inl x) v) (t.put x) := by
  have e0 : valV kvs (.inl x) = none := by
    have := h.mem x
    rw [decide_eq_false hx] at this
    exact Option.isSome_eq_false_iff.mp this |> Option.isNone_iff_eq_none.mp
  obtain ⟨as, bs, e1, e2, e3, e4⟩ := Tr.keys_put x t a
  refine ⟨fun y => ?_, ?_, nd_putK v h.nd e0⟩
  · rw [valV_put]
    by_cases z : (Sum.inl y : Key) = .inl x
    · rw [if_pos z]
      have z : y = x := by injection z
      rw [z]
      symm
      exact decide_eq_true (by rw [e2]; exact List.mem_append_right _ List.mem_cons_self)
    · rw [if_neg z, h.mem y]
      have z : ¬ y = x := fun e => z (by rw [e])
      rw [e1, e2]
      apply decide_eq_decide.mpr
      simp only [List.mem_append, List.mem_cons, z, false_or]
  · rw [putK_new v e0, e2, List.length_append, h.len, e1]
    simp only [List.length_append, List.length_cons, List.length_nil]
    omega
theorem Wor.cut {kvs : List (Key × V)} {t : Tr} (h : Wor kvs t) (a : t.asc) {x : Int} (hs : t.sub x = .n .e x .e) : Wor (dropK kvs (.inl x)) (t.cut x) := by
  obtain ⟨as, bs, e1, e2, e3, e4⟩ := Tr.keys_cut x t a hs
  have hx : x ∈ t.keys := by rw [e1]; exact List.mem_append_right _ List.mem_cons_self
  refine ⟨fun y => ?_, ?_, nd_dropK h.nd⟩
  · rw [valV_dropK]
    by_cases z : (Sum.inl y : Key) = .inl x
    · rw [if_pos z]
      have z : y = x := by injection z
      rw [z]
      symm
      refine decide_eq_false ?_
      rw [e2]
      intro hm
      rcases List.mem_append.mp hm with hm | hm
      · have := e3 x hm; omega
      · have := e4 x hm; omega
    · rw [if_neg z, h.mem y]
      have z : ¬ y = x := fun e => z (by rw [e])
      rw [e1, e2]
      apply decide_eq_decide.mpr
      simp only [List.mem_append, List.mem_cons, z, false_or]
  · obtain ⟨v, hv⟩ := Option.isSome_iff_exists.mp (show (valV kvs (.inl x)).isSome = true by rw [h.mem x]; exact decide_eq_true hx)
    have := dropK_len h.nd (valV_in hv)
    have l := h.len
    rw [e1] at l
    rw [e2]
    simp only [List.length_append, List.length_cons] at l ⊢
    omega
def stF (r v lo d : V) : List (Str × V) := [("own_rule", r), ("root", v), ("order", lo), ("worths", d)]
structure SC (K : PySem.W.Frag) (C : Addr) : Prop where
  cl : Cls K C
  n1 : NoAttr K C "own_rule"
  n2 : NoAttr K C "root"
  n3 : NoAttr K C "order"
  n4 : NoAttr K C "worths"
section
variable {r v lo d : V}
theorem sl1 : (stF r v lo d).lookup ("own_rule" : Str) = some r := lk_hit
theorem sl2 : (stF r v lo d).lookup ("root" : Str) = some v := (lk_miss (by decide +kernel)).trans lk_hit
theorem sl3 : (stF r v lo d).lookup ("order" : Str) = some lo := (lk_miss (by decide +kernel)).trans ((lk_miss (by decide +kernel)).trans lk_hit)
theorem sl4 : (stF r v lo d).lookup ("worths" : Str) = some d := (lk_miss (by decide +kernel)).trans ((lk_miss (by decide +kernel)).trans ((lk_miss (by decide +kernel)).trans lk_hit))
theorem sp1 : putF "own_rule" r [] = ([("own_rule", r)] : List (Str × V)) := rfl
theorem sp2 : putF "root" v [("own_rule", r)] = ([("own_rule", r), ("root", v)] : List (Str × V)) := put_new (by intro e0 he; simp only [List.mem_cons, List.not_mem_nil, or_false] at he; subst he; dsimp only; decide +kernel)
theorem sp3 : putF "order" lo [("own_rule", r), ("root", v)] = ([("own_rule", r), ("root", v), ("order", lo)] : List (Str × V)) := put_new (by intro e0 he; simp only [List.mem_cons, List.not_mem_nil, or_false] at he; rcases he with he | he <;> subst he <;> dsimp only <;> decide +kernel)
theorem sp4 : putF "worths" d [("own_rule", r), ("root", v), ("order", lo)] = stF r v lo d := put_new (by intro e0 he; simp only [List.mem_cons, List.not_mem_nil, or_false] at he; rcases he with he | he | he <;> subst he <;> dsimp only <;> decide +kernel)
end
/-- a state -/
def StateAt (N S : Addr) (H : Hp) (rv : V) (t : Tr) (kvs : List (Key × V)) (v : V) : Prop := ∃ (s dx lo d : Addr) (vr : V), v = .ref s ∧ H s = some (.ins S dx (stF rv vr (.ref lo) (.ref d))) ∧ NdAt N H t vr ∧ H lo = some (.lst (t.keys.map .int)) ∧ H d = some (.dK kvs) ∧ t.asc ∧ Wor kvs t
theorem StateAt.keep {N S : Addr} {H H' : Hp} {rv v : V} {t : Tr} {kvs : List (Key × V)} (s : Same H H') (h : StateAt N S H rv t kvs v) : StateAt N S H' rv t kvs v := by
  obtain ⟨x, dx, lo, d, vr, e, h1, h2, h3, h4, h5⟩ := h
  exact ⟨x, dx, lo, d, vr, e, s _ _ h1, h2.keep s, s _ _ h3, s _ _ h4, h5⟩
def spStateI (S : Addr) : Sp := fun vs H Q _ => ∃ (x dx : Addr) (a b c d : V), vs = [.ref x, a, b, c, d] ∧ H x = some (.ins S dx []) ∧ ∀ H', But x H H' → H' x = some (.ins S dx (stF a b c d)) → Q .non H'
theorem mkr_state {N S x dx lo d : Addr} {H : Hp} {rv vr : V} {t : Tr} {kvs : List (Key × V)} {E : XK} {Q : VK} (nx : H x = none) (nd : H dx = none) (ht : NdAt N H t vr) (hlo : H lo = some (.lst (t.keys.map .int))) (hd : H d = some (.dK kvs)) (ha : t.asc) (hw : Wor kvs t)
    (kk : ∀ G, Same H G → StateAt N S G rv t kvs (.ref x) → Q .non G) : spStateI S (.ref x :: ([rv, vr, .ref lo, .ref d] ++ [])) (upd (upd H dx (.own x)) x (.ins S dx [])) Q E := by
  have s1 : Same H (upd (upd H dx (.own x)) x (.ins S dx [])) := fun b u e => by
    rw [upd_ne (ne_of_none e nx), upd_ne (ne_of_none e nd)]; exact e
  refine ⟨x, dx, rv, vr, .ref lo, .ref d, rfl, upd_same, fun H' b h => ?_⟩
  have s2 : Same H H' := fun a u e => b _ _ (ne_of_none e nx) (s1 _ _ e)
  exact kk H' s2 ⟨x, dx, lo, d, vr, rfl, h, ht.keep s2, s2 _ _ hlo, s2 _ _ hd, ha, hw⟩
section
variable {P : Program} {w : World} {K : PySem.W.Frag} {mg : Str → Option Value} {base : Heap}
structure SMk (P : Program) (w : World) (K : PySem.W.Frag) (mg : Str → Option Value) (base : Heap) (S : Addr) : Prop where
  g : mg "State" = some (.ref S)
  c : SC K S
  ex : ∃ (f : Addr) (fd : FuncData), Mk K S f ∧ FnOk P w K mg base CX0 1 f fd ["self", "own_rule", "root", "order", "worths"] (spStateI S) ∧ Binds K fd ["self", "own_rule", "root", "order", "worths"] []
theorem scState_init : FnScope ["self", "own_rule", "root", "order", "worths"] ["self", "own_rule", "root", "order", "worths"] (defScope sState_init) := ⟨rfl, rfl, rfl, by decide +kernel, rfl, by decide +kernel, by decide +kernel⟩
theorem ok_stateI {f S : Addr} {fd : FuncData} (F : Fun K "__init__" "State.__init__" sState_init f fd) (T : SC K S) : FnOk P w K mg base CX0 1 f fd ["self", "own_rule", "root", "order", "worths"] (spStateI S) := by
  refine F.ok scState_init (fun vs H Q E h => ?_) (fun cdv A outer s H vs Q E hr h => ?_)
  · obtain ⟨x, dx, a, b, c, d, rfl, _⟩ := h
    rfl
  · obtain ⟨x, dx, a, b, c, d, rfl, hx, kk⟩ := h
    refine ⟨_, (pss_cons (ps_fld (pv 0) (pv 1) rfl)
    (pss_cons (ps_fld (pv 0) (pv 2) rfl)
    (pss_cons (ps_fld (pv 0) (pv 3) rfl)
    (pss_one (ps_fld (pv 0) (pv 4) rfl))))), ?_⟩
    refine ⟨_, rfl, _, rfl, x, S, dx, _, rfl, hx, T.cl, T.n1, (by show 0 < 1000; decide), ?_⟩
    rw [sp1]
    refine ⟨_, rfl, _, rfl, x, S, dx, _, rfl, upd_same, T.cl, T.n2, (by show 1 < 1000; decide), ?_⟩
    rw [sp2]
    refine ⟨_, rfl, _, rfl, x, S, dx, _, rfl, upd_same, T.cl, T.n3, (by show 2 < 1000; decide), ?_⟩
    rw [sp3]
    refine ⟨_, rfl, _, rfl, x, S, dx, _, rfl, upd_same, T.cl, T.n4, (by show 3 < 1000; decide), ?_⟩
    rw [sp4]
    exact kk _ (((But.upd_at.trans But.upd_at).trans But.upd_at).trans But.upd_at) upd_same
end
end Ev
set_option maxHeartbeats 1000000
namespace Ev
open PySem L2 PySem.Spec PyProof.Rows RZ
/-! A state with entries, and without one. -/
def KTup0 (K : PySem.W.Frag) (l : Addr) : Prop := ∃ (o : Obj) (its : Array Value) (n : Nat), K.lookup l = some o ∧ o.cls = .type "tuple" ∧ o.data = .seq its n ∧ its.size ≤ sizeLine ∧ Vals ([] : List V) its.toList
theorem KTup0.sq {K : PySem.W.Frag} {l : Addr} {H : Hp} (h : KTup0 K l) : SqT K H l [] := .inr h
theorem KTup0.ty {K : PySem.W.Frag} {l : Addr} {H : Hp} (h : KTup0 K l) : TyX K H (.ref l) (.type "tuple") := by
  obtain ⟨o, its, n, e, c, _⟩ := h
  exact .kTuple e c
def spWithNone (K : PySem.W.Frag) (N S : Addr) : Sp := fun vs H Q _ => ∃ (s e : Addr) (rv : V) (t : Tr) (kvs : List (Key × V)), vs = [.ref s, .ref e] ∧ StateAt N S H rv t kvs (.ref s) ∧ KTup0 K e ∧ ∀ v' H', Same H H' → StateAt N S H' rv t kvs v' → Q v' H'
def spWithOne (K : PySem.W.Frag) (N S : Addr) : Sp := fun vs H Q _ => ∃ (s l e r : Addr) (p q c : Int) (t : Tr) (kvs : List (Key × V)) (x : Int) (v : V), vs = [.ref s, .ref l] ∧ StateAt N S H (.ref r) t kvs (.ref s) ∧ RB K H r p q c ∧ H l = some (.lst [.ref e]) ∧ H e = some (.tup [.int x, v]) ∧ -10 ^ 30 < x ∧ x < 10 ^ 30 ∧ ¬ x ∈ t.keys ∧ t.keys.length < 1000 ∧ (t.put x).fair p q c ∧ ∀ v' H', Same H H' → StateAt N S H' (.ref r) (t.put x) (putK kvs (.inl x) v) v' → Q v' H'
def spWithout (K : PySem.W.Frag) (N S : Addr) : Sp := fun vs H Q _ => ∃ (s r : Addr) (p q c : Int) (t : Tr) (kvs : List (Key × V)) (x : Int), vs = [.ref s, .int x] ∧ StateAt N S H (.ref r) t kvs (.ref s) ∧ RB K H r p q c ∧ t.sub x = .n .e x .e ∧ t.keys.length < 1000 ∧ (t.cut x).fair p q c ∧ ∀ v' H', Same H H' → StateAt N S H' (.ref r) (t.cut x) (dropK kvs (.inl x)) v' → Q v' H'
section
variable {P : Program} {w : World} {K : PySem.W.Frag} {mg : Str → Option Value} {base : Heap}
theorem scWithEntries : FnScope ["state", "entries", "root", "order", "worths", "key", "worth"] ["state", "entries"] (defScope sWithEntries) := ⟨rfl, rfl, rfl, by decide +kernel, rfl, by decide +kernel, by decide +kernel⟩
theorem ok_withNone {f N S : Addr} {fd : FuncData} {tk : Tok} (F : Fun K "with_entries" "with_entries" sWithEntries f fd) (T : Blt mg) (gd : mg "dict" = none) (gM : mg "MOST_KEYS" = some (.int 2000 tk)) (SS : SMk P w K mg base S) (D1 : Df P w K mg base 3 "need_key" ["value"] spNeedKey) (D2 : Df P w K mg base 6 "with_key" ["rule", "root", "key"] (spWithKey K N)) (D3 : Df P w K mg base 1 "first_from" ["order", "key"] (spFirstFrom K)) : FnOk P w K mg base CX0 7 f fd ["state", "entries"] (spWithNone K N S) := by
  obtain ⟨f1, fd1, G1, g1, k1, b1⟩ := D1.ex
  obtain ⟨f2, fd2, G2, g2, k2, b2⟩ := D2.ex
  obtain ⟨f3, fd3, G3, g3, k3, b3⟩ := D3.ex
  obtain ⟨gS, TS, fS, fdS, MS, GS, bS⟩ := SS
  refine F.ok scWithEntries (fun vs H Q E h => ?_) (fun cdv A outer s H vs Q E hr h => ?_)
  · obtain ⟨s, e, rv, t, kvs, rfl, _⟩ := h
    rfl
  · obtain ⟨s, e, rv, t, kvs, rfl, hs, he, kk⟩ := h
    refine ⟨_, (pss_cons (ps_set (i := 2) scWithEntries.nd rfl (.inl rfl) (pe_fld (pv 0) rfl))
    (pss_cons (ps_set (i := 3) scWithEntries.nd rfl (.inl rfl) (pe_callTy call_list_of (by rfl) T.list (by decide +kernel) (pa_cons (pe_fld (pv 0) rfl) pa_nil)))
    (pss_cons (ps_set (i := 4) scWithEntries.nd rfl (.inl rfl) (pe_callTy call_dictD (by rfl) gd (by decide +kernel) (pa_cons (pe_fld (pv 0) rfl) pa_nil)))
    (pss_cons (ps_for PassesOwn.never rfl (pi_tup (pv 1)) (pg_tup (by rfl) (pgs_cons (pg_name (i := 5) scWithEntries.nd rfl (.inl rfl)) (pgs_cons (pg_name (i := 6) scWithEntries.nd rfl (.inl rfl)) pgs_nil)))
      (pss_cons (ps_expr (pe_call G1 (hr.mono (by decide)) (by rfl) g1 k1 b1 .nil pass0 (pa_cons (pv 5) pa_nil)))
      (pss_cons (ps_if (pt_cmp (pc_dnotin (hu_of hr) (pv 5) (pv 4)))
        (pss_cons (ps_if (pt_cmpR op_eq (pe_callB call_lenD (by rfl) T.len PySem.boot_len (pa_cons (pv 4) pa_nil)) (pe_glob (v := .int 2000) rfl gM ⟨_, rfl⟩) (nomark _))
          (pss_one ps_never) pss_nil)
        (pss_cons (ps_set (i := 2) scWithEntries.nd rfl (.inl rfl) (pe_call G2 hr (by rfl) g2 k2 b2 .nil pass0 (pa_cons (pe_fld (pv 0) rfl) (pa_cons (pv 2) (pa_cons (pv 5) pa_nil)))))
        (pss_one (ps_expr (pe_bm PySem.F.plainAttrs_list PySem.F.slot_list_insert PySem.F.type_list_insert mt_insert (pv 3) (pa_cons (pe_call G3 (hr.mono (by decide)) (by rfl) g3 k3 b3 .nil pass0 (pa_cons (pv 3) (pa_cons (pv 5) pa_nil))) (pa_cons (pv 5) pa_nil))))))) pss_nil)
      (pss_one (ps_dput (hu_of hr) (pv 4) (pv 5) (pv 6) rfl)))))
    (pss_one (ps_ret (pe_make MS GS (hr.mono (by decide)) (by rfl) gS bS .nil pass0 (pa_cons (pe_fld (pv 0) rfl) (pa_cons (pv 2) (pa_cons (pv 3) (pa_cons (pv 4) pa_nil))))))))))), ?_⟩
    obtain ⟨s, dx, lo, d, vr, e0, hs, hn, hlo, hd, ha, hw⟩ := hs
    cases e0
    refine ⟨_, rfl, s, S, dx, _, _, rfl, hs, TS.cl, TS.n2, sl2, ?_⟩
    refine ⟨_, rfl, s, S, dx, _, _, rfl, hs, TS.cl, TS.n3, sl3, lo, _, rfl, .inl (SqL.of hlo), fun lo2 nlo => ?_⟩
    have s1 := same_new (o := .lst (t.keys.map V.int)) nlo
    have h1 : upd H lo2 (.lst (t.keys.map V.int)) lo2 = some (.lst (t.keys.map V.int)) := upd_same
    generalize upd H lo2 (.lst (t.keys.map V.int)) = H1 at s1 h1 ⊢
    refine ⟨_, rfl, s, S, dx, _, _, rfl, s1 _ _ hs, TS.cl, TS.n4, sl4, d, kvs, rfl, .of (s1 _ _ hd), fun d2 nd2 => ?_⟩
    have s2 := same_new (o := .dK kvs) nd2
    have h2 : upd H1 d2 (.dK kvs) d2 = some (.dK kvs) := upd_same
    generalize upd H1 d2 (.dK kvs) = H2 at s2 h2 ⊢
    have s12 := s1.trans s2
    refine ⟨_, rfl, e, rfl, ⟨_, he.sq⟩, ?_⟩
    refine for_tup (xs := []) (fun i σ G => G = H2 ∧ σ = [some (.ref s), some (.ref e), some vr, some (.ref lo2), some (.ref d2), none, none]) ⟨rfl, rfl⟩ (fun i σ G _ h => by rw [h.1]; exact he.sq) (fun i v σ G hi hp => by cases hi) (fun σ G hp => ?_)
    obtain ⟨rfl, rfl⟩ := hp
    refine ⟨_, rfl, s, S, dx, _, _, rfl, s12 _ _ hs, TS.cl, TS.n1, sl1, _, rfl, _, rfl, _, rfl, fun x dx' nx nd ne => ?_⟩
    exact mkr_state nx nd (hn.keep s12) (s2 _ _ h1) h2 ha hw fun G3 s3 h3 => ⟨rfl, kk _ _ (s12.trans s3) h3⟩
theorem ok_withOne {f N S : Addr} {fd : FuncData} {tk : Tok} (F : Fun K "with_entries" "with_entries" sWithEntries f fd) (T : Blt mg) (gd : mg "dict" = none) (gM : mg "MOST_KEYS" = some (.int 2000 tk)) (SS : SMk P w K mg base S) (D1 : Df P w K mg base 3 "need_key" ["value"] spNeedKey) (D2 : Df P w K mg base 6 "with_key" ["rule", "root", "key"] (spWithKey K N)) (D3 : Df P w K mg base 1 "first_from" ["order", "key"] (spFirstFrom K)) : FnOk P w K mg base CX0 7 f fd ["state", "entries"] (spWithOne K N S) := by
  obtain ⟨f1, fd1, G1, g1, k1, b1⟩ := D1.ex
  obtain ⟨f2, fd2, G2, g2, k2, b2⟩ := D2.ex
  obtain ⟨f3, fd3, G3, g3, k3, b3⟩ := D3.ex
  obtain ⟨gS, TS, fS, fdS, MS, GS, bS⟩ := SS
  refine F.ok scWithEntries (fun vs H Q E h => ?_) (fun cdv A outer s H vs Q E hr h => ?_)
  · obtain ⟨s, l, e, r, p, q, c, t, kvs, x, v, rfl, _⟩ := h
    rfl
  · obtain ⟨s, l, e, r, p, q, c, t, kvs, x, v, rfl, hs, rb, hl, he, b1', b2', hx, len, ff, kk⟩ := h
    refine ⟨_, (pss_cons (ps_set (i := 2) scWithEntries.nd rfl (.inl rfl) (pe_fld (pv 0) rfl))
    (pss_cons (ps_set (i := 3) scWithEntries.nd rfl (.inl rfl) (pe_callTy call_list_of (by rfl) T.list (by decide +kernel) (pa_cons (pe_fld (pv 0) rfl) pa_nil)))
    (pss_cons (ps_set (i := 4) scWithEntries.nd rfl (.inl rfl) (pe_callTy call_dictD (by rfl) gd (by decide +kernel) (pa_cons (pe_fld (pv 0) rfl) pa_nil)))
    (pss_cons (ps_for PassesOwn.never rfl (pi_list (pv 1)) (pg_tup (by rfl) (pgs_cons (pg_name (i := 5) scWithEntries.nd rfl (.inl rfl)) (pgs_cons (pg_name (i := 6) scWithEntries.nd rfl (.inl rfl)) pgs_nil)))
      (pss_cons (ps_expr (pe_call G1 (hr.mono (by decide)) (by rfl) g1 k1 b1 .nil pass0 (pa_cons (pv 5) pa_nil)))
      (pss_cons (ps_if (pt_cmp (pc_dnotin (hu_of hr) (pv 5) (pv 4)))
        (pss_cons (ps_if (pt_cmpR op_eq (pe_callB call_lenD (by rfl) T.len PySem.boot_len (pa_cons (pv 4) pa_nil)) (pe_glob (v := .int 2000) rfl gM ⟨_, rfl⟩) (nomark _))
          (pss_one ps_never) pss_nil)
        (pss_cons (ps_set (i := 2) scWithEntries.nd rfl (.inl rfl) (pe_call G2 hr (by rfl) g2 k2 b2 .nil pass0 (pa_cons (pe_fld (pv 0) rfl) (pa_cons (pv 2) (pa_cons (pv 5) pa_nil)))))
        (pss_one (ps_expr (pe_bm PySem.F.plainAttrs_list PySem.F.slot_list_insert PySem.F.type_list_insert mt_insert (pv 3) (pa_cons (pe_call G3 (hr.mono (by decide)) (by rfl) g3 k3 b3 .nil pass0 (pa_cons (pv 3) (pa_cons (pv 5) pa_nil))) (pa_cons (pv 5) pa_nil))))))) pss_nil)
      (pss_one (ps_dput (hu_of hr) (pv 4) (pv 5) (pv 6) rfl)))))
    (pss_one (ps_ret (pe_make MS GS (hr.mono (by decide)) (by rfl) gS bS .nil pass0 (pa_cons (pe_fld (pv 0) rfl) (pa_cons (pv 2) (pa_cons (pv 3) (pa_cons (pv 4) pa_nil))))))))))), ?_⟩
    obtain ⟨s, dx, lo, d, vr, e0, hs, hn, hlo, hd, ha, hw⟩ := hs
    cases e0
    refine ⟨_, rfl, s, S, dx, _, _, rfl, hs, TS.cl, TS.n2, sl2, ?_⟩
    refine ⟨_, rfl, s, S, dx, _, _, rfl, hs, TS.cl, TS.n3, sl3, lo, _, rfl, .inl (SqL.of hlo), fun lo2 nlo => ?_⟩
    have s1 := same_new (o := .lst (t.keys.map V.int)) nlo
    have h1 : upd H lo2 (.lst (t.keys.map V.int)) lo2 = some (.lst (t.keys.map V.int)) := upd_same
    generalize upd H lo2 (.lst (t.keys.map V.int)) = H1 at s1 h1 ⊢
    refine ⟨_, rfl, s, S, dx, _, _, rfl, s1 _ _ hs, TS.cl, TS.n4, sl4, d, kvs, rfl, .of (s1 _ _ hd), fun d2 nd2 => ?_⟩
    have s2 := same_new (o := .dK kvs) nd2
    have h2 : upd H1 d2 (.dK kvs) d2 = some (.dK kvs) := upd_same
    have nd0 : H d2 = none := by
      rcases e9 : H d2 with _ | o
      · rfl
      · rw [s1 _ _ e9] at nd2
        cases nd2
    generalize upd H1 d2 (.dK kvs) = H2 at s2 h2 ⊢
    have s12 := s1.trans s2
    refine ⟨_, rfl, l, rfl, ⟨_, SqL.of (s12 _ _ hl)⟩, ?_⟩
    refine for_list (xs := [.ref e]) (fun i σ G => Same H G ∧ ∃ (vr' : V) (z5 z6 : Option V), σ = [some (.ref s), some (.ref l), some vr', some (.ref lo2), some (.ref d2), z5, z6] ∧ (i = 0 → vr' = vr ∧ G lo2 = some (.lst (t.keys.map V.int)) ∧ G d2 = some (.dK kvs)) ∧ (i = 1 → NdAt N G (t.put x) vr' ∧ G lo2 = some (.lst ((t.put x).keys.map V.int)) ∧ G d2 = some (.dK (putK kvs (.inl x) v)))) ⟨s12, vr, _, _, rfl, fun _ => ⟨rfl, s2 _ _ h1, h2⟩, fun z => by cases z⟩ (fun i σ G _ h => SqL.of (h.1 _ _ hl)) (fun i v0 σ G hi hp => ?_) (fun σ G hp => ?_)
    · obtain ⟨sg, vr', z5, z6, rfl, hp0, _⟩ := hp
      have i0 : i = 0 := by
        have := (List.getElem?_eq_some_iff.mp hi).1
        simp only [List.length_cons, List.length_nil] at this
        omega
      subst i0
      cases hi
      obtain ⟨rfl, hlo2, hd2⟩ := hp0 rfl
      refine ⟨e, _, rfl, SqT.of (sg _ _ he), rfl, _, _, rfl, _, _, rfl, rfl, ?_⟩
      refine ⟨_, rfl, x, rfl, b1', b2', ?_⟩
      refine ⟨_, rfl, _, rfl, d2, _, rfl, DGet.k (k := .inl x) hd2, _, rfl, ?_⟩
      rw [hw.mem x, decide_eq_false hx]
      refine iteT ⟨_, rfl, d2, _, rfl, hd2, rfl, _, rfl, ite2 (fun z => ?_) fun _ => ?_⟩
      · exfalso
        have := of_decide_eq_true z
        have l9 := hw.len
        injection this with this
        omega
      refine ⟨_, rfl, s, S, dx, _, _, rfl, sg _ _ hs, TS.cl, TS.n1, sl1, _, rfl, _, rfl, r, p, q, c, vr', t, x, rfl, rb.keep sg, hn.keep sg, Nat.le_trans t.height_le (Nat.le_of_lt len), ff, fun vp G3 s3 h3 => ?_⟩
      have hlo3 := s3 _ _ hlo2
      have hd3 := s3 _ _ hd2
      refine ⟨_, rfl, .inl ⟨rfl, _, SqL.of hlo3⟩, _, rfl, _, rfl, lo2, t.keys, x, rfl, hlo3, ha, ?_⟩
      have bl := belowN_le t.keys x
      refine ⟨_, rfl, lo2, _, _, _, rfl, rfl, hlo3, by rw [List.length_map]; exact Nat.lt_trans len (by decide), Int.natCast_nonneg _, by omega, ?_⟩
      have ek : (t.keys.map V.int).take (((belowN t.keys x : Nat) : Int).toNat) ++ [V.int x] ++ (t.keys.map V.int).drop (((belowN t.keys x : Nat) : Int).toNat) = (t.put x).keys.map V.int := by
        rw [Int.toNat_natCast, Tr.keys_put_at ha hx, List.map_append, List.map_cons, List.map_take, List.map_drop, List.append_assoc]
        rfl
      rw [ek]
      have u4 : But lo2 G3 (upd G3 lo2 (.lst ((t.put x).keys.map V.int))) := But.upd_at
      have h4 : upd G3 lo2 (.lst ((t.put x).keys.map V.int)) lo2 = some (.lst ((t.put x).keys.map V.int)) := upd_same
      have hn4 : NdAt N (upd G3 lo2 (.lst ((t.put x).keys.map V.int))) (t.put x) vp := h3.but (Oth.lst hlo3) u4
      generalize upd G3 lo2 (.lst ((t.put x).keys.map V.int)) = G4 at u4 h4 hn4 ⊢
      have hd4 := u4 _ _ (ne_of hd3 hlo3 (by intro z; cases z)) hd3
      refine ⟨_, rfl, _, rfl, _, rfl, d2, _, rfl, DPut.k (k := .inl x) hd4 (by rw [hw.len]; exact Nat.lt_trans len (by decide)), ?_⟩
      have u5 : But d2 G4 (upd G4 d2 (.dK (putK kvs (.inl x) v))) := But.upd_at
      have h5 : upd G4 d2 (.dK (putK kvs (.inl x) v)) d2 = some (.dK (putK kvs (.inl x) v)) := upd_same
      refine ⟨fun b o e9 => ?_, vp, _, _, rfl, (fun z => nomatch z), fun _ => ⟨hn4.but (Oth.dK hd4) u5, u5 _ _ (ne_of h4 hd4 (by intro z; cases z)) h4, h5⟩⟩
      exact u5 _ _ (ne_of_none e9 nd0) (u4 _ _ (ne_of_none e9 nlo) (s3 _ _ (sg _ _ e9)))
    · obtain ⟨sg, vr', z5, z6, rfl, _, hp1⟩ := hp
      obtain ⟨hn5, hlo5, hd5⟩ := hp1 rfl
      refine ⟨_, rfl, s, S, dx, _, _, rfl, sg _ _ hs, TS.cl, TS.n1, sl1, _, rfl, _, rfl, _, rfl, fun y dy nx nd ne => ?_⟩
      exact mkr_state nx nd hn5 hlo5 hd5 (Tr.asc_put ha hx) (hw.put ha hx v) fun G6 s6 h6 => ⟨rfl, kk _ _ (sg.trans s6) h6⟩
end
end Ev
set_option maxHeartbeats 1000000
namespace Ev
open PySem L2 PySem.Spec PyProof.Rows RZ
theorem cut_uptoN {xs : List Int} {k : Nat} (h1 : k ≤ xs.length) : cutV (xs.map V.int) none (some (k : Int)) = (xs.take k).map V.int := by
  unfold cutV
  rw [HT.sIx_nat, HT.sIx_none, List.length_map, List.drop_zero, Nat.sub_zero, Nat.min_eq_left (by omega), List.map_take]
theorem cut_fromN {xs : List Int} {k : Nat} (h1 : k ≤ xs.length) : cutV (xs.map V.int) (some (k : Int)) none = (xs.drop k).map V.int := by
  unfold cutV
  rw [HT.sIx_nat, HT.sIx_none, List.length_map, Nat.min_eq_left (by omega), ← List.map_drop, List.take_of_length_le (by rw [List.length_map, List.length_drop]; omega)]
theorem cut_fromZ {xs : List Int} {k : Nat} {e : Int} (h : e = k) (h1 : k ≤ xs.length) : cutV (xs.map V.int) (some e) none = (xs.drop k).map V.int := by
  rw [h, cut_fromN h1]
section
variable {P : Program} {w : World} {K : PySem.W.Frag} {mg : Str → Option Value} {base : Heap}
theorem scWithoutEntry : FnScope ["state", "key", "worths", "root", "at"] ["state", "key"] (defScope sWithoutEntry) := ⟨rfl, rfl, rfl, by decide +kernel, rfl, by decide +kernel, by decide +kernel⟩
theorem ok_without {f N S : Addr} {fd : FuncData} (F : Fun K "without_entry" "without_entry" sWithoutEntry f fd) (T : Blt mg) (gd : mg "dict" = none) (SS : SMk P w K mg base S) (D2 : Df P w K mg base 6 "without_key" ["rule", "root", "key"] (spWithoutLeaf K N)) (D3 : Df P w K mg base 1 "first_from" ["order", "key"] (spFirstFrom K)) : FnOk P w K mg base CX0 7 f fd ["state", "key"] (spWithout K N S) := by
  obtain ⟨f2, fd2, G2, g2, k2, b2⟩ := D2.ex
  obtain ⟨f3, fd3, G3, g3, k3, b3⟩ := D3.ex
  obtain ⟨gS, TS, fS, fdS, MS, GS, bS⟩ := SS
  refine F.ok scWithoutEntry (fun vs H Q E h => ?_) (fun cdv A outer s H vs Q E hr h => ?_)
  · obtain ⟨s, r, p, q, c, t, kvs, x, rfl, _⟩ := h
    rfl
  · obtain ⟨s, r, p, q, c, t, kvs, x, rfl, hs, rb, hsub, len, ff, kk⟩ := h
    refine ⟨_, (pss_cons (ps_set (i := 2) scWithoutEntry.nd rfl (.inl rfl) (pe_callTy call_dictD (by rfl) gd (by decide +kernel) (pa_cons (pe_fld (pv 0) rfl) pa_nil)))
    (pss_cons (ps_ddel (pv 2) (pv 1))
    (pss_cons (ps_set (i := 3) scWithoutEntry.nd rfl (.inl rfl) (pe_call G2 hr (by rfl) g2 k2 b2 .nil pass0 (pa_cons (pe_fld (pv 0) rfl) (pa_cons (pe_fld (pv 0) rfl) (pa_cons (pv 1) pa_nil)))))
    (pss_cons (ps_set (i := 4) scWithoutEntry.nd rfl (.inl rfl) (pe_call G3 (hr.mono (by decide)) (by rfl) g3 k3 b3 .nil pass0 (pa_cons (pe_fld (pv 0) rfl) (pa_cons (pv 1) pa_nil))))
    (pss_one (ps_ret (pe_make MS GS (hr.mono (by decide)) (by rfl) gS bS .nil pass0 (pa_cons (pe_fld (pv 0) rfl) (pa_cons (pv 3) (pa_cons (pe_lst (StX.pa_star (pe_slice sl_list (pe_fld (pv 0) rfl) po_none (po_some (pv 4))) (StX.pa_star (pe_slice sl_list (pe_fld (pv 0) rfl) (po_some (pe_op op_add (pv 4) pe_int)) po_none) pa_nil))) (pa_cons (pv 2) pa_nil))))))))))), ?_⟩
    obtain ⟨s, dx, lo, d, vr, e0, hs, hn, hlo, hd, ha, hw⟩ := hs
    cases e0
    obtain ⟨ek, hmem, ha2, _⟩ := Tr.keys_cut_at ha hsub
    refine ⟨_, rfl, s, S, dx, _, _, rfl, hs, TS.cl, TS.n4, sl4, d, kvs, rfl, .of hd, fun d2 nd2 => ?_⟩
    have s1 := same_new (o := .dK kvs) nd2
    have h1 : upd H d2 (.dK kvs) d2 = some (.dK kvs) := upd_same
    generalize upd H d2 (.dK kvs) = H1 at s1 h1 ⊢
    refine ⟨_, rfl, _, rfl, d2, kvs, .inl x, rfl, h1, rfl, by rw [hw.mem x]; exact decide_eq_true hmem, ?_⟩
    have u2 : But d2 H1 (upd H1 d2 (.dK (dropK kvs (.inl x)))) := But.upd_at
    have h2 : upd H1 d2 (.dK (dropK kvs (.inl x))) d2 = some (.dK (dropK kvs (.inl x))) := upd_same
    generalize upd H1 d2 (.dK (dropK kvs (.inl x))) = H2 at u2 h2 ⊢
    have s12 : Same H H2 := fun b o e => u2 _ _ (ne_of_none e nd2) (s1 _ _ e)
    refine ⟨_, rfl, s, S, dx, _, _, rfl, s12 _ _ hs, TS.cl, TS.n1, sl1, _, rfl, s, S, dx, _, _, rfl, s12 _ _ hs, TS.cl, TS.n2, sl2, _, rfl, ?_⟩
    refine ⟨r, p, q, c, vr, t, x, rfl, rb.keep s12, hn.keep s12, Nat.le_trans t.height_le (Nat.le_of_lt len), hmem, ha, hsub, ff, fun vp H3 s3 h3 => ?_⟩
    have s13 := s12.trans s3
    refine ⟨_, rfl, s, S, dx, _, _, rfl, s13 _ _ hs, TS.cl, TS.n3, sl3, _, rfl, lo, t.keys, x, rfl, s13 _ _ hlo, ha, ?_⟩
    have bl : belowN t.keys x < t.keys.length := by
      obtain ⟨as, bs, e1, e2, e3, e4⟩ := Tr.keys_cut x t ha hsub
      have e : belowN t.keys x = as.length := by
        rw [e1]
        refine belowN_app e3 (fun b hb => ?_)
        rcases List.mem_cons.mp hb with rfl | hb
        · exact Int.le_refl _
        · have := e4 b hb; omega
      rw [e, e1, List.length_append, List.length_cons]
      omega
    refine ⟨_, rfl, s, S, dx, _, _, rfl, s13 _ _ hs, TS.cl, TS.n1, sl1, _, rfl, _, rfl, s, S, dx, _, _, rfl, s13 _ _ hs, TS.cl, TS.n3, sl3, _, rfl, _, rfl, lo, _, rfl, SqL.of (s13 _ _ hlo), fun a1 n1 => ?_⟩
    rw [cut_uptoN (Nat.le_of_lt bl)]
    refine ⟨a1, _, rfl, .inr (SqL.of upd_same), ?_⟩
    have s4 := s13.trans (same_new (o := .lst ((t.keys.take (belowN t.keys x)).map V.int)) n1)
    have s34 := s3.trans (same_new (o := .lst ((t.keys.take (belowN t.keys x)).map V.int)) n1)
    have h4 := h3.keep (same_new (o := .lst ((t.keys.take (belowN t.keys x)).map V.int)) n1)
    generalize upd H3 a1 (.lst ((t.keys.take (belowN t.keys x)).map V.int)) = H4 at s4 s34 h4 ⊢
    refine ⟨_, rfl, s, S, dx, _, _, rfl, s4 _ _ hs, TS.cl, TS.n3, sl3, _, rfl, _, _, rfl, rfl, _, rfl, lo, _, rfl, SqL.of (s4 _ _ hlo), fun a2 n2 => ?_⟩
    rw [cut_fromZ (e := (belowN t.keys x : Int) + 1) (k := belowN t.keys x + 1) (by omega) bl]
    refine ⟨a2, _, rfl, .inr (SqL.of upd_same), ?_⟩
    have s5 := s4.trans (same_new (o := .lst ((t.keys.drop (belowN t.keys x + 1)).map V.int)) n2)
    have s35 := s34.trans (same_new (o := .lst ((t.keys.drop (belowN t.keys x + 1)).map V.int)) n2)
    have h5 := h4.keep (same_new (o := .lst ((t.keys.drop (belowN t.keys x + 1)).map V.int)) n2)
    generalize upd H4 a2 (.lst ((t.keys.drop (belowN t.keys x + 1)).map V.int)) = H5 at s5 s35 h5 ⊢
    refine ⟨?_, fun lp np => ?_⟩
    · rw [List.append_nil, List.length_append, List.length_map, List.length_map, List.length_take, List.length_drop]
      exact Nat.le_trans (show _ ≤ 5000 by omega) (by decide)
    rw [List.append_nil, ← List.map_append, ← ek]
    have s6 := s5.trans (same_new (o := .lst ((t.cut x).keys.map V.int)) np)
    have s36 := s35.trans (same_new (o := .lst ((t.cut x).keys.map V.int)) np)
    have h6 := h5.keep (same_new (o := .lst ((t.cut x).keys.map V.int)) np)
    have hl6 : upd H5 lp (.lst ((t.cut x).keys.map V.int)) lp = some (.lst ((t.cut x).keys.map V.int)) := upd_same
    generalize upd H5 lp (.lst ((t.cut x).keys.map V.int)) = H6 at s6 s36 h6 hl6 ⊢
    refine ⟨_, rfl, fun y dy nx nd ne => ?_⟩
    exact mkr_state nx nd h6 hl6 (s36 _ _ h2) ha2 (hw.cut ha hsub) fun G6 s7 h7 => ⟨rfl, kk _ _ (s6.trans s7) h7⟩
end
end Ev
namespace Ev
open PySem L2 PySem.Spec PyProof.Rows
/-! x in o by an own __contains__, len(o) by an own __len__, for x in o by an own __iter__ that gives a list's iterator. -/
section
variable {prog : Program} {w : World} {A : Around} {E : Value → Shared → Prop} {s : Shared} {K : PySem.W.Frag} {x C f : Addr} {ox : Obj} {od : Option Obj}
theorem lenRun {Q : Value → Shared → Prop} (X : K.In s.heap) (I : PySem.W.InstAt s.heap x ox C od) (hs : PySem.W.findIn K (.ref C) "__len__" = some (some (.ref f))) (hf : PySem.W.isFn K (.ref f) = true)
    (h : wpAny (model prog w) A.in1 (call (.ref f) [.ref x]) (fun r s' => ∃ (n : Int) (u : Tok), r = .int n u ∧ (0 ≤ n ∧ n < 2 ^ 63) ∧ Q (.int n s'.toks) { s' with toks := s'.toks + 1 }) E s) : wpAny (model prog w) A (call (.builtin "len") [.ref x]) Q E s := by
  refine Calls.call_function_entry kind_len plain_len entry_len (args_len1 (.ref x)) ?_
  unfold Builtin.«len»
  refine wpAny_bind (m := oneArg "len" ⟨[.ref x], []⟩) (wpAny_pure ?_)
  refine wpAny_bind (m := callSpecial? (.ref x) (Str.ofString "__len__")) (PySem.W.special_fn X I hs (beq_iff_eq.mp hf) (wpAny_mono h (fun r s' z => ?_) fun _ _ z => z))
  obtain ⟨n, u, rfl, ⟨n0, n1⟩, q⟩ := z
  refine wpAny_bind (wpAny_holding (wpAny_pure (wpAny_bind (wpAny_letGo ?_))))
  show wpAny _ _ (if n < 0 then _ else _) _ _ s'
  rw [if_neg (show ¬ n < 0 by omega)]
  show wpAny _ _ (if n ≥ 2 ^ 63 then _ else _) _ _ s'
  rw [if_neg (show ¬ n ≥ 2 ^ 63 by omega)]
  exact wpAny_bind (wpAny_mkInt (wpAny_pure ⟨_, rfl, q⟩))
end
section
variable {X : Cx} {CX : CXT} {C g : Addr} {n : Nat} {sp : Sp} {E : XK} {a b : Expr} {ta tb : TE}
def rLenO (C : Addr) (sp : Sp) (E : XK) : List V → Hp → VK → Prop := fun xs H Q => ∃ (a dx : Addr) (fs : List (Str × V)), xs = [V.ref a] ∧ H a = some (.ins C dx fs) ∧ sp [.ref a] H (fun z H' => ∃ i : Int, z = .int i ∧ (0 ≤ i ∧ i < 2 ^ 63) ∧ Q (.int i) H') E
theorem call_lenO (hs : PySem.W.findIn X.K (.ref C) "__len__" = some (some (.ref g))) (hf : PySem.W.isFn X.K (.ref g) = true) (F : FnR X.prog X.w X.K X.mg X.base CX n g sp) (hr : Room (n + 1) X.A) (hx : Passes CX X E) : CallR X (.builtin "len") (rLenO C sp E) := by
  intro pins s σ H xs us Q I r h
  obtain ⟨a, dx, fs, rfl, ha, q⟩ := h
  obtain ⟨u, rfl, ru⟩ := vals1 r
  cases (show u = Value.ref a from ru)
  obtain ⟨mA, J, _⟩ := ins_get I.hok ha
  obtain ⟨od, J, _⟩ := J.look
  have hr1 : Room n X.A.in1 := hr.in1
  refine lenRun I.kIn J hs hf (wpAny_mono (wpAny_call (SlX.run_at (us := [.ref a]) (ws := [.ref a]) F hr1 I.env0.in1 hx I (.cons rfl .nil) q)) (fun w' s' z => ?_) fun _ _ z => z)
  obtain ⟨z', H', I', rz, i, rfl, b, q'⟩ := z
  obtain ⟨t, e⟩ := (show ∃ t, w' = Value.int i t from rz)
  exact ⟨i, t, e, b, .int i, H', I'.tok _, ⟨_, rfl⟩, q'⟩
def tInO (C : Addr) (sp : Sp) (E : XK) (neg : Bool) (ta tb : TE) : TE := fun σ H Q => ta σ H fun y H1 => tb σ H1 fun x H2 => ∃ (a dx : Addr) (fs : List (Str × V)), x = .ref a ∧ H2 a = some (.ins C dx fs) ∧ sp [.ref a, y] H2 (fun z H' => ∃ b, z = .bl b ∧ Q (.bl (neg ^^ b)) H') E
theorem pc_inO (ha : PE X a ta) (hb : PE X b tb) (hs : PySem.W.findIn X.K (.ref C) "__contains__" = some (some (.ref g))) (hf : PySem.W.isFn X.K (.ref g) = true) (F : FnR X.prog X.w X.K X.mg X.base CX n g sp) (hr : Room n X.A) (hx : Passes CX X E) : PC X .In a b (tInO C sp E false ta tb) := by
  refine ⟨fun pins s σ H Q I h => ?_⟩
  refine thn (ha.run pins s σ H _ I h) fun v s1 ⟨y, H1, I1, ry, q1⟩ => thn (hb.run pins s1 σ H1 _ I1 q1) fun u s2 ⟨x, H2, I2, rx, q2⟩ => ?_
  obtain ⟨a, dx, fs, rfl, ha, q⟩ := q2
  cases (show u = Value.ref a from rx)
  obtain ⟨mA, J, _⟩ := ins_get I2.hok ha
  obtain ⟨od, J, _⟩ := J.look
  obtain ⟨m, hF⟩ := I2.fr
  refine PySem.W.in_K hF I2.ok.mod.kin J hs hf (wpAny_mono (wpAny_call (SlX.run_at (us := [.ref a, v]) (ws := [.ref a, y]) F hr I2.env0 hx I2 (.cons rfl (.cons ry .nil)) q)) (fun w' s' z => ?_) fun _ _ z => z)
  obtain ⟨z', H', I', rz, b, rfl, q'⟩ := z
  cases (show w' = Value.bool b from rz)
  exact wpAny_pure ⟨.bl b, H', I', rfl, by simpa using q'⟩
theorem pc_notinO (ha : PE X a ta) (hb : PE X b tb) (hs : PySem.W.findIn X.K (.ref C) "__contains__" = some (some (.ref g))) (hf : PySem.W.isFn X.K (.ref g) = true) (F : FnR X.prog X.w X.K X.mg X.base CX n g sp) (hr : Room n X.A) (hx : Passes CX X E) : PC X .NotIn a b (tInO C sp E true ta tb) := by
  refine ⟨fun pins s σ H Q I h => ?_⟩
  refine thn (ha.run pins s σ H _ I h) fun v s1 ⟨y, H1, I1, ry, q1⟩ => thn (hb.run pins s1 σ H1 _ I1 q1) fun u s2 ⟨x, H2, I2, rx, q2⟩ => ?_
  obtain ⟨a, dx, fs, rfl, ha, q⟩ := q2
  cases (show u = Value.ref a from rx)
  obtain ⟨mA, J, _⟩ := ins_get I2.hok ha
  obtain ⟨od, J, _⟩ := J.look
  obtain ⟨m, hF⟩ := I2.fr
  refine PySem.W.notIn_K hF I2.ok.mod.kin J hs hf (wpAny_mono (wpAny_call (SlX.run_at (us := [.ref a, v]) (ws := [.ref a, y]) F hr I2.env0 hx I2 (.cons rfl (.cons ry .nil)) q)) (fun w' s' z => ?_) fun _ _ z => z)
  obtain ⟨z', H', I', rz, b, rfl, q'⟩ := z
  cases (show w' = Value.bool b from rz)
  exact wpAny_pure ⟨.bl (!b), H', I', rfl, by simpa using q'⟩
end
/-- a def that gives a list's new iterator: it is younger than the call -/
def FnIt (P : Program) (w : World) (K : PySem.W.Frag) (mg : Str → Option Value) (base : Heap) (k : Nat) (g : Addr) (Rl : Hp → Addr → Addr → Prop) : Prop :=
  ∀ (A : Around) (above : List Env) (s : Shared) (H : Hp) (a l : Addr) (Q : VK), Room k A → Env0 P w K mg base A above s H → Rl H a l → (∀ it, H it = none → s.heap.objs.size ≤ it → Q (.ref it) (upd H it (ItO l it 0))) →
    codeAny (model P w) A (.call (.ref g) ⟨[.ref a], []⟩) (CR CX0 above P w H s Q E0) s
def iOwnL (C : Addr) (K : PySem.W.Frag) (Rl : Hp → Addr → Addr → Prop) (te : TE) : TI := fun σ H R => te σ H fun v H1 => ∃ (a dx l : Addr) (fs : List (Str × V)), v = .ref a ∧ H1 a = some (.ins C dx fs) ∧ Rl H1 a l ∧ R (Itl K l) H1
section
variable {X : Cx} {C fi : Addr} {k : Nat} {Rl : Hp → Addr → Addr → Prop} {e tg : Expr} {te : TE}
theorem pi_ownL (he : PE X e te) (hit : PySem.W.findIn X.K (.ref C) "__iter__" = some (some (.ref fi))) (hf : PySem.W.isFn X.K (.ref fi) = true) (F : FnIt X.prog X.w X.K X.mg X.base k fi Rl) (hr : Room k X.A) : PI X tg e (iOwnL C X.K Rl te) := by
  refine ⟨fun pins s σ H R I h => ?_⟩
  refine thn (he.run pins s σ H _ I h) fun v s1 ⟨x, H1, I1, r1, q1⟩ => ?_
  obtain ⟨a, dx, l, fs, rfl, ha, hl, q⟩ := q1
  cases (show v = Value.ref a from r1)
  obtain ⟨mA, J, _⟩ := ins_get I1.hok ha
  obtain ⟨od, J, _⟩ := J.look
  obtain ⟨m0, hF⟩ := I1.fr
  refine PySem.W.owit_iter hF I1.ok.mod.kin J hit hf ?_
  refine wpAny_call (codeAny_mono (F X.A X.stack s1 H1 a l (fun v H' => ∃ it, v = .ref it ∧ H1 it = none ∧ s1.heap.objs.size ≤ it ∧ H' = upd H1 it (ItO l it 0)) hr I1.env0 hl fun it ni hn => ⟨it, rfl, ni, hn, rfl⟩) fun r s' hq => ?_)
  cases r with
  | error e => exact False.elim hq
  | ok fl =>
    cases fl with
    | next => exact False.elim hq
    | brk => exact False.elim hq
    | cont => exact False.elim hq
    | ret u =>
      obtain ⟨v, H', I', rv, it, rfl, ni, hn, rfl⟩ := I1.after hq
      cases rv
      have hi : upd H1 it (ItO l it 0) it = some (ItO l it 0) := upd_same
      have eo := itO_get I' hi
      have st : s'.heap.IsListIter it l 0 := ⟨_, eo, rfl, rfl⟩
      have hT : s'.TypeIs (.ref it) "list_iterator" := ⟨_, eo, rfl⟩
      unfold PySem.W.OwitIt
      refine wpAny_specialOf (name := Str.ofString "__next__") hT slot_listiter_next.lookup ?_
      have hi' := hi
      unfold ItO at hi'
      have I2 := ItX.inv_drop I' hi'
      have fp := ItX.inv_fp I' hi (Nat.le_trans I1.sz hn)
      rw [ItX.dropH_upd ni] at I2
      rw [ItX.dropH_upd ni] at fp
      refine ⟨it, [it], _, _, H1, rfl, I2, turn_list l it, st, fun b hb => ?_, q⟩
      have e : b = it := by simpa using hb
      rw [e]
      exact fp
end
section
variable {P : Program} {w : World} {K : PySem.W.Frag} {mg : Str → Option Value} {base : Heap}
theorem fnIt_of {x qual : Str} {st : Stmt} {f : Addr} {fd : FuncData} {N : List Str} {k : Nat} {Rl : Hp → Addr → Addr → Prop} {p0 : Str} (F : Fun K x qual st f fd)
    (S : FnScope N [p0] (defScope st)) (hb : Binds K fd [p0] [])
    (body : ∀ (cdv : Value) (A : Around) (above : List Env) (s : Shared) (H : Hp) (a l : Addr) (Q : VK) (E : XK),
      Room k (A.deeper (envOfC qual (defScope st) s.heap.objs.size f cdv)) → Rl H a l → (∀ it, H it = none → s.heap.objs.size ≤ it → Q (.ref it) (upd H it (ItO l it 0))) →
      ∃ t, PSs (cxOf CX0 P w K mg base N qual (defScope st) f cdv A above s H E).nox (defBody st) t ∧
        t { nx := fun _ H' => Q .non H', rt := Q } (start N [.ref a]) H) : FnIt P w K mg base (k + 1) f Rl := by
  obtain ⟨oc, od, kV, doc, pm, an, cdv, ct, osl, rfl, lk, hcd⟩ := F.ex
  intro A above s H a l Q room env hs kk
  have inK : K.In s.heap := env.mod.kin.keeps fun b o e => (env.bs b o e).1
  have noLim : s.heap.NoLimit := env.mod.nolimit.keeps fun b o e => (env.bs b o e).1
  have bt := hb s [.ref a] inK rfl
  have kinds : ∀ y ∈ [p0].zip [Value.ref a], (defScope st).names.lookup y.1 = some .local ∨
      ((defScope st).names.lookup y.1 = some .cell ∧ ((cellsFrom (s.heap.objs.size + 1) (defScope st).names []).lookup y.1).isSome = true) := by
    rintro ⟨n, v⟩ hy
    cases S.par n (List.of_mem_zip hy).1 with
    | inl q => exact .inl q
    | inr q => exact .inr ⟨q, PySem.W.cellsFrom_some _ _ _ (.inl q)⟩
  refine codeAny_call_function room.depth (inK _ _ lk) rfl S.co S.gen rfl (PySem.W.codeRec_of inK hcd) (bt _ _ _ _ ?_)
  refine wpAny_newFunctionEnv_cells S.kind kinds fun e2 he s2 x => ?_
  subst he
  refine ⟨noLim.keeps x.toInCall.keep, codeAny_func ?_⟩
  obtain ⟨t, ht, hq⟩ := body cdv A above s H a l Q E0 (room.deeper _) hs kk
  have inv := inv_start (CX := CX0) (E := E0) S room.hd env (vs := [.ref a]) rfl (.cons rfl .nil) x
  refine wpAny_mono (ht.nox.run [] s2 (start N [.ref a]) H _ inv hq) (fun fl s3 h3 => ?_) fun e s3 h3 => h3
  cases fl with
  | ret u =>
    obtain ⟨v, σ3, H3, J, rr, q⟩ := h3
    exact ⟨v, H3, J.os, J.bare, J.base, J.hok, rr, q⟩
  | next =>
    obtain ⟨σ3, H3, J, q⟩ := h3
    exact ⟨.non, H3, J.os, J.bare, J.base, J.hok, rfl, q⟩
  | brk =>
    obtain ⟨_, _, _, z⟩ := h3
    exact False.elim z
  | cont =>
    obtain ⟨_, _, _, z⟩ := h3
    exact False.elim z
end
end Ev
set_option maxHeartbeats 1000000
namespace Ev
open PySem L2 PySem.Spec PyProof.Rows RZ
/-! Trees. -/
theorem kit_any2 {K : PySem.W.Frag} {T a b : String} {r1 r2 : Bool} (h1 : kitB T a = some r1) (h2 : kitB T b = some r2) : PySem.W.kitAny K (.type T) [.type a, .type b] = some (r1 || r2) := by
  refine kitAny_cons (kit_ty h1) (fun e => ?_) (fun e => by rw [e]; rfl)
  refine kitAny_cons (kit_ty h2) (fun e2 => ?_) (fun e2 => by rw [e, e2]; rfl)
  rw [e, e2]
  exact kitAny_nil
structure RK (K : PySem.W.Frag) (C CW : Addr) : Prop where
  cl : RCls K C
  ha : PySem.W.findIn K (.ref C) "__class__" = some (some (.builtin "object.__class__"))
  hm : PySem.W.mroIn K C (.type "object") = some true
  is : PySem.W.kitOne K (.ref C) (.ref CW) = some true
structure InsK (K : PySem.W.Frag) : Prop where
  hn : PySem.W.specialIn K (.builtin "object.__class__") "__get__" = some (some (.builtin "getset_descriptor.__get__"))
  htk : PySem.W.takesIn K (.builtin "object.__class__") = some true
def treeF (s : Addr) : List (Str × V) := [("_saved", .non), ("_state", .ref s)]
structure TrC (K : PySem.W.Frag) (C : Addr) : Prop where
  cl : Cls K C
  n1 : NoAttr K C "_saved"
  n2 : NoAttr K C "_state"
theorem tl2 {s : Addr} : (treeF s).lookup ("_state" : Str) = some (.ref s) := (lk_miss (by decide +kernel)).trans lk_hit
theorem tp1 : putF "_saved" .non [] = ([("_saved", .non)] : List (Str × V)) := rfl
theorem tp2 {s : Addr} : putF "_state" (.ref s) [("_saved", .non)] = treeF s := put_new (by intro e0 he; simp only [List.mem_cons, List.not_mem_nil, or_false] at he; subst he; dsimp only; decide +kernel)
theorem tp3 {s s' : Addr} : putF "_state" (.ref s') (treeF s) = treeF s' := by
  show (if ("_saved" : Str) = "_state" then _ else _ :: (if ("_state" : Str) = "_state" then _ else _)) = _
  rw [if_neg (by decide +kernel), if_pos rfl]
  rfl
def TreeAt (N S C : Addr) (H : Hp) (r : Addr) (t : Tr) (kvs : List (Key × V)) (x : Addr) : Prop := ∃ dx s, H x = some (.ins C dx (treeF s)) ∧ StateAt N S H (.ref r) t kvs (.ref s)
theorem TreeAt.keep {N S C r x : Addr} {H H' : Hp} {t : Tr} {kvs : List (Key × V)} (s : Same H H') (h : TreeAt N S C H r t kvs x) : TreeAt N S C H' r t kvs x := by
  obtain ⟨dx, s0, h1, h2⟩ := h
  exact ⟨dx, s0, s _ _ h1, h2.keep s⟩
theorem Oth.short {N C : Addr} {H : Hp} {x dx : Addr} {fs : List (Str × V)} (h : H x = some (.ins C dx fs)) (l : fs.length ≤ 3) : Oth N H x :=
  ⟨fun xs e => (by rw [h] at e; cases e), fun dx' vl k vr w f e => (by
    rw [h] at e
    injection e with e
    injection e with _ _ e
    rw [e] at l
    exact absurd l (by simp [nodeF]))⟩
theorem StateAt.but {N S C : Addr} {H H' : Hp} {rv v : V} {t : Tr} {kvs : List (Key × V)} {x dx : Addr} {fs : List (Str × V)} (hx : H x = some (.ins C dx fs)) (l : fs.length ≤ 3) (u : But x H H') (h : StateAt N S H rv t kvs v) : StateAt N S H' rv t kvs v := by
  obtain ⟨s, ds, lo, d, vr, e, h1, h2, h3, h4, h5⟩ := h
  refine ⟨s, ds, lo, d, vr, e, u _ _ (fun z => ?_) h1, h2.but (Oth.short hx l) u, u _ _ (ne_of h3 hx (by intro z; cases z)) h3, u _ _ (ne_of h4 hx (by intro z; cases z)) h4, h5⟩
  subst z
  rw [hx] at h1
  injection h1 with h1
  injection h1 with _ _ h1
  rw [h1] at l
  exact absurd l (by simp [stF])
theorem RB.but {K : PySem.W.Frag} {H H' : Hp} {r x : Addr} {p q k : Int} (h : RB K H r p q k) (ne : r ≠ x) (nt : ∀ xs, H x ≠ some (.tup xs)) (u : But x H H') : RB K H' r p q k := by
  obtain ⟨⟨C, dx, fs, a, e1, e2, e3, e4, e5, e6, e7⟩, o1, o2, o3, o4, o5⟩ := h
  exact ⟨⟨C, dx, fs, a, u _ _ ne e1, e2, e3, e4, e5, e6, u _ _ (fun z => nt _ (by rw [← z]; exact e7)) e7⟩, o1, o2, o3, o4, o5⟩
def spNeedR (Ct Cn : Addr) : Sp := fun vs H Q _ => ∃ (r : Addr) (row : Row), vs = [.ref r] ∧ ObjAt Ct Cn H r row ∧ Q .non H
def spNeedPairs0 (K : PySem.W.Frag) : Sp := fun vs H Q _ => ∃ e : Addr, vs = [.ref e] ∧ KTup0 K e ∧ ∀ H', Same H H' → Q .non H'
def spTreeI0 (K : PySem.W.Frag) (Ct Cn N S C : Addr) : Sp := fun vs H Q _ => ∃ (x dx r e : Addr) (row : Row), vs = [.ref x, .ref r, .ref e] ∧ H x = some (.ins C dx []) ∧ ObjAt Ct Cn H r row ∧ KTup0 K e ∧ ∀ H', But x H H' → TreeAt N S C H' r .e [] x → Q .non H'
def spHas (N S C : Addr) : Sp := fun vs H Q _ => ∃ (x r : Addr) (t : Tr) (kvs : List (Key × V)) (k : Int), vs = [.ref x, .int k] ∧ TreeAt N S C H r t kvs x ∧ -10 ^ 30 < k ∧ k < 10 ^ 30 ∧ Q (.bl (decide (k ∈ t.keys))) H
def spTLen (N S C : Addr) : Sp := fun vs H Q _ => ∃ (x r : Addr) (t : Tr) (kvs : List (Key × V)), vs = [.ref x] ∧ TreeAt N S C H r t kvs x ∧ Q (.int t.keys.length) H
def spLayout (N S C : Addr) : Sp := fun vs H Q _ => ∃ (x r : Addr) (t : Tr) (kvs : List (Key × V)), vs = [.ref x] ∧ TreeAt N S C H r t kvs x ∧ ∀ f H', Same H H' → FmAt H' t f → Q f H'
def spPut (K : PySem.W.Frag) (N S C : Addr) : Sp := fun vs H Q _ => ∃ (x r : Addr) (p q c : Int) (t : Tr) (kvs : List (Key × V)) (k : Int) (v : V), vs = [.ref x, .int k, v] ∧ TreeAt N S C H r t kvs x ∧ RB K H r p q c ∧ -10 ^ 30 < k ∧ k < 10 ^ 30 ∧ ¬ k ∈ t.keys ∧ t.keys.length < 1000 ∧ (t.put k).fair p q c ∧ ∀ H', But x H H' → TreeAt N S C H' r (t.put k) (putK kvs (.inl k) v) x → Q .non H'
def spDrop (K : PySem.W.Frag) (N S C : Addr) : Sp := fun vs H Q _ => ∃ (x r : Addr) (p q c : Int) (t : Tr) (kvs : List (Key × V)) (k : Int) (v : V), vs = [.ref x, .int k] ∧ TreeAt N S C H r t kvs x ∧ RB K H r p q c ∧ -10 ^ 30 < k ∧ k < 10 ^ 30 ∧ t.sub k = .n .e k .e ∧ t.keys.length < 1000 ∧ (t.cut k).fair p q c ∧ valV kvs (.inl k) = some v ∧ ∀ H', But x H H' → TreeAt N S C H' r (t.cut k) (dropK kvs (.inl k)) x → Q v H'
/-- where a tree's order stands -/
def OrdAt (N S C : Addr) (H : Hp) (x l : Addr) : Prop := ∃ r t kvs dx s ds vr d, H x = some (.ins C dx (treeF s)) ∧ H s = some (.ins S ds (stF (.ref r) vr (.ref l) (.ref d))) ∧ H l = some (.lst ((Tr.keys t).map .int)) ∧ StateAt N S H (.ref r) t kvs (.ref s)
theorem TreeAt.ord {N S C r x : Addr} {H : Hp} {t : Tr} {kvs : List (Key × V)} (h : TreeAt N S C H r t kvs x) : ∃ l, OrdAt N S C H x l ∧ H l = some (.lst (t.keys.map .int)) := by
  obtain ⟨dx, s, h1, h2⟩ := h
  obtain ⟨s', ds, lo, d, vr, e, q1, q2, q3, q4⟩ := id h2
  cases e
  exact ⟨lo, ⟨r, t, kvs, dx, s, ds, vr, d, h1, q1, q3, h2⟩, q3⟩
section
variable {P : Program} {w : World} {K : PySem.W.Frag} {mg : Str → Option Value} {base : Heap}
theorem fund_ok0 {x qual : Str} {params : Arguments} {body : List Stmt} {scope : Scope} {dvs : List V} {kws : List (Str × V)} {f : Addr} {fd : FuncData} {N ps : List Str} {k : Nat} {sp : Sp} (F : FunD K x qual params body scope dvs kws f fd) (S : FnScope N ps scope) (len : ∀ vs H Q E, sp vs H Q E → vs.length = ps.length)
    (hbody : ∀ (cdv : Value) (A : Around) (outer : List Env) (s : Shared) (H : Hp) (vs : List V) (Q : VK) (E : XK), Room k (A.deeper (envOfC qual scope s.heap.objs.size f cdv)) → sp vs H Q E →
      ∃ t, PSs (cxOf CX0 P w K mg base N qual scope f cdv A outer s H E).nox body t ∧ t { nx := fun _ H' => Q .non H', rt := Q } (start N vs) H) : FnOk P w K mg base CX0 (k + 1) f fd ps sp :=
  F.ok S len fun cdv A outer s H vs Q E hr h => let ⟨t, p, q⟩ := hbody cdv A outer s H vs Q E hr h; ⟨t, p.nox, q⟩
theorem scNeedRule : FnScope ["value"] ["value"] (defScope sNeedRule) := ⟨rfl, rfl, rfl, by decide +kernel, rfl, by decide +kernel, by decide +kernel⟩
theorem ok_needR {f Ct Cn CW : Addr} {fd : FuncData} (F : Fun K "need_rule" "need_rule" sNeedRule f fd) (T : Blt mg) (gW : mg "WeightRule" = some (.ref CW)) (MT : RK K Ct CW) (MN : RK K Cn CW) (ik : InsK K) : FnOk P w K mg base CX0 1 f fd ["value"] (spNeedR Ct Cn) := by
  refine F.ok scNeedRule (fun vs H Q E h => ?_) (fun cdv A outer s H vs Q E hr h => ?_)
  · obtain ⟨r, row, rfl, _⟩ := h
    rfl
  · obtain ⟨r, row, rfl, ob, kk⟩ := h
    refine ⟨_, pss_one (ps_if (pt_not (pt_val (pe_callB call_isi (by rfl) T.isi (by decide +kernel) (pa_cons (pv 0) (pa_cons (pe_glob (v := .ref CW) rfl gW rfl) pa_nil))))) (pss_one ps_never) pss_nil), ?_⟩
    cases row with
    | tr p q k =>
      obtain ⟨dx, a, h1, h2⟩ := ob
      exact ⟨_, rfl, _, _, _, _, true, rfl, .own CW, .base (.ins h1 MT.cl.cl MT.ha ik.hn ik.htk MT.hm), MT.is, true, rfl, iteF kk⟩
    | tn p q k t s c =>
      obtain ⟨dx, a, b, h1, h2, h3⟩ := ob
      exact ⟨_, rfl, _, _, _, _, true, rfl, .own CW, .base (.ins h1 MN.cl.cl MN.ha ik.hn ik.htk MN.hm), MN.is, true, rfl, iteF kk⟩
theorem scNeedPairs : FnScope ["items", "item"] ["items"] (defScope sNeedPairs) := ⟨rfl, rfl, rfl, by decide +kernel, rfl, by decide +kernel, by decide +kernel⟩
theorem ok_needPairs0 {f : Addr} {fd : FuncData} (F : Fun K "need_pairs" "need_pairs" sNeedPairs f fd) (T : Blt mg) : FnOk P w K mg base CX0 1 f fd ["items"] (spNeedPairs0 K) := by
  refine F.ok scNeedPairs (fun vs H Q E h => ?_) (fun cdv A outer s H vs Q E hr h => ?_)
  · obtain ⟨e, rfl, _⟩ := h
    rfl
  · obtain ⟨e, rfl, kt, kk⟩ := h
    refine ⟨_, (pss_cons (ps_if (pt_not (pt_val (pe_callB call_isiT (by rfl) T.isi (by decide +kernel) (pa_cons (pv 0) (pa_cons (pe_tup (pa_cons (pe_bltn (v := .ty "list") (by rfl) T.list (by decide +kernel) rfl) (pa_cons (pe_bltn (v := .ty "tuple") (by rfl) T.tuple (by decide +kernel) rfl) pa_nil))) pa_nil)))))
      (pss_one ps_never) pss_nil)
    (pss_one (ps_for PassesOwn.never rfl (pi_tup (pv 0)) (pg_name (i := 1) scNeedPairs.nd rfl (.inl rfl))
      (pss_one (ps_if (PW.pt (pw_or (pt_not (pt_val (pe_callB call_isi (by rfl) T.isi (by decide +kernel) (pa_cons (pv 1) (pa_cons (pe_bltn (v := .ty "tuple") (by rfl) T.tuple (by decide +kernel) rfl) pa_nil))))) (pw_or1 (pt_cmpR op_ne (pe_callB call_len_seq (by rfl) T.len PySem.boot_len (pa_cons (pv 1) pa_nil)) pe_int (nomark _)))))
        (pss_one ps_never) pss_nil))))), ?_⟩
    refine ⟨_, rfl, (by show 2 ≤ sizeLine; decide), fun tp ntp => ⟨_, tp, _, _, _, true, rfl, upd_same, .cons (.ty _) (.cons (.ty _) .nil), kt.ty, kit_any2 (r1 := false) (r2 := true) (by decide +kernel) (by decide +kernel), _, rfl, iteF ?_⟩⟩
    have s1 : Same H (upd H tp (.tup [.ty "list", .ty "tuple"])) := same_new ntp
    generalize upd H tp (.tup [.ty "list", .ty "tuple"]) = H1 at s1 ⊢
    refine ⟨_, rfl, e, rfl, ⟨_, kt.sq⟩, ?_⟩
    refine for_tup (xs := []) (fun i σ G => G = H1) rfl (fun i σ G _ h => kt.sq) (fun i v σ G hi hp => by cases hi) (fun σ G hp => ?_)
    rw [hp]
    exact kk _ s1
theorem scTree_init : FnScope ["self", "rule", "items"] ["self", "rule", "items"] (defScope sTree_init) := ⟨rfl, rfl, rfl, by decide +kernel, rfl, by decide +kernel, by decide +kernel⟩
theorem ok_treeI0 {f Ct Cn N S C : Addr} {fd : FuncData} {dvs : List V} {kws : List (Str × V)} (F : FunD K "__init__" "Tree.__init__" (defArgs sTree_init) (defBody sTree_init) (defScope sTree_init) dvs kws f fd) (T : Blt mg) (TC : TrC K C) (SS : SMk P w K mg base S) (no : PySem.W.kitOne K (.type "tuple") (.ref S) = some false)
    (D1 : Df P w K mg base 1 "need_rule" ["value"] (spNeedR Ct Cn)) (D2 : Df P w K mg base 1 "need_pairs" ["items"] (spNeedPairs0 K)) (D3 : Df P w K mg base 7 "with_entries" ["state", "entries"] (spWithNone K N S)) : FnOk P w K mg base CX0 8 f fd ["self", "rule", "items"] (spTreeI0 K Ct Cn N S C) := by
  obtain ⟨f1, fd1, G1, g1, k1, b1⟩ := D1.ex
  obtain ⟨f2, fd2, G2, g2, k2, b2⟩ := D2.ex
  obtain ⟨f3, fd3, G3, g3, k3, b3⟩ := D3.ex
  obtain ⟨gS, TS, fS, fdS, MS, GS, bS⟩ := SS
  refine fund_ok0 F scTree_init (fun vs H Q E h => ?_) (fun cdv A outer s H vs Q E hr h => ?_)
  · obtain ⟨x, dx, r, e, row, rfl, _⟩ := h
    rfl
  · obtain ⟨x, dx, r, e, row, rfl, hx, ob, kt, kk⟩ := h
    refine ⟨_, (pss_cons (ps_expr (pe_call G1 (hr.mono (by decide)) (by rfl) g1 k1 b1 .nil pass0 (pa_cons (pv 1) pa_nil)))
    (pss_cons (ps_fld (pv 0) pe_non rfl)
    (pss_one (ps_if (pt_val (pe_callB call_isi (by rfl) T.isi (by decide +kernel) (pa_cons (pv 2) (pa_cons (pe_glob (v := .ref S) rfl gS rfl) pa_nil))))
      (pss_one (ps_fld (pv 0) (pv 2) rfl)) (pss_cons (ps_expr (pe_call G2 (hr.mono (by decide)) (by rfl) g2 k2 b2 .nil pass0 (pa_cons (pv 2) pa_nil)))
      (pss_one (ps_fld (pv 0) (pe_call G3 hr (by rfl) g3 k3 b3 .nil pass0 (pa_cons (pe_make MS GS (hr.mono (by decide)) (by rfl) gS bS .nil pass0 (pa_cons (pv 1) (pa_cons pe_non (pa_cons (pe_lst pa_nil) (pa_cons pe_dnewK pa_nil))))) (pa_cons (pv 2) pa_nil))) rfl))))))), ?_⟩
    refine ⟨_, rfl, r, row, rfl, ob, ?_⟩
    refine ⟨_, rfl, x, C, dx, _, rfl, hx, TC.cl, TC.n1, (by show 0 < 1000; decide), ?_⟩
    rw [tp1]
    have u1 : But x H (upd H x (.ins C dx [("_saved", .non)])) := But.upd_at
    have h1 : upd H x (.ins C dx [("_saved", .non)]) x = some (.ins C dx [("_saved", .non)]) := upd_same
    generalize upd H x (.ins C dx [("_saved", .non)]) = H1 at u1 h1 ⊢
    refine ⟨_, rfl, _, _, _, _, false, rfl, .own S, kt.ty, no, _, rfl, iteF ?_⟩
    refine ⟨_, rfl, e, rfl, kt, fun H2 s2 => ?_⟩
    refine ⟨_, rfl, (by show 0 ≤ sizeLine; decide), fun l nl => ?_⟩
    have s3 := same_new (o := .lst []) nl
    have h3 : upd H2 l (.lst []) l = some (.lst (Tr.e.keys.map V.int)) := upd_same
    generalize upd H2 l (.lst []) = H3 at s3 h3 ⊢
    intro d nd
    have s4 := same_new (o := .dK []) nd
    have h4 : upd H3 d (.dK []) d = some (.dK []) := upd_same
    generalize upd H3 d (.dK []) = H4 at s4 h4 ⊢
    refine fun y dy ny ndy ne => mkr_state (N := N) (t := .e) ny ndy rfl (s4 _ _ h3) h4 List.Pairwise.nil ⟨fun _ => rfl, rfl, List.nodup_nil⟩ fun G5 s5 h5 => ⟨rfl, ?_⟩
    refine ⟨_, rfl, y, e, _, _, _, rfl, h5, kt, fun v' H6 s6 h6 => ?_⟩
    have s16 : Same H1 H6 := s2.trans (s3.trans (s4.trans (s5.trans s6)))
    obtain ⟨s', ds, lo, d', vr, rfl, q⟩ := id h6
    refine ⟨_, rfl, x, C, dx, _, rfl, s16 _ _ h1, TC.cl, TC.n2, (by show 1 < 1000; decide), ?_⟩
    rw [tp2]
    refine kk _ (u1.trans ((Same.but s16).trans But.upd_at)) ⟨dx, s', upd_same, h6.but (s16 _ _ h1) (by show 1 ≤ 3; decide) But.upd_at⟩
theorem scReading_len : FnScope ["self"] ["self"] (defScope sReading_len) := ⟨rfl, rfl, rfl, by decide +kernel, rfl, by decide +kernel, by decide +kernel⟩
theorem ok_tlen {f N S C : Addr} {fd : FuncData} (F : Fun K "__len__" "Reading.__len__" sReading_len f fd) (T : Blt mg) (TC : TrC K C) (TS : SC K S) : FnOk P w K mg base CX0 1 f fd ["self"] (spTLen N S C) := by
  refine F.ok scReading_len (fun vs H Q E h => ?_) (fun cdv A outer s H vs Q E hr h => ?_)
  · obtain ⟨x, r, t, kvs, rfl, _⟩ := h
    rfl
  · obtain ⟨x, r, t, kvs, rfl, ⟨dx, s, hx, s', ds, lo, d, vr, e, h1, h2, h3, h4, h5⟩, kk⟩ := h
    cases e
    refine ⟨_, (pss_one (ps_ret (pe_callB call_len_seq (by rfl) T.len PySem.boot_len (pa_cons (pe_fld (pe_fld (pv 0) rfl) rfl) pa_nil)))), ?_⟩
    refine ⟨_, rfl, x, C, dx, _, _, rfl, hx, TC.cl, TC.n2, tl2, s, S, ds, _, _, rfl, h1, TS.cl, TS.n3, sl3, lo, _, rfl, .inl (SqL.of h3), ?_⟩
    rw [List.length_map]
    exact kk
theorem scReading_contains : FnScope ["self", "key"] ["self", "key"] (defScope sReading_contains) := ⟨rfl, rfl, rfl, by decide +kernel, rfl, by decide +kernel, by decide +kernel⟩
theorem ok_has {f N S C : Addr} {fd : FuncData} (F : Fun K "__contains__" "Reading.__contains__" sReading_contains f fd) (TC : TrC K C) (TS : SC K S) (D1 : Df P w K mg base 2 "is_key" ["value"] spKey) : FnOk P w K mg base CX0 3 f fd ["self", "key"] (spHas N S C) := by
  obtain ⟨f1, fd1, G1, g1, k1, b1⟩ := D1.ex
  refine F.ok scReading_contains (fun vs H Q E h => ?_) (fun cdv A outer s H vs Q E hr h => ?_)
  · obtain ⟨x, r, t, kvs, k, rfl, _⟩ := h
    rfl
  · obtain ⟨x, r, t, kvs, k, rfl, ⟨dx, s, hx, s', ds, lo, d, vr, e, h1, h2, h3, h4, h5, hw⟩, o1, o2, kk⟩ := h
    cases e
    refine ⟨_, (pss_one (ps_ret (pe_and (pe_call G1 hr (by rfl) g1 k1 b1 .nil pass0 (pa_cons (pv 1) pa_nil)) (pe_one (pe_cmp (pc_din (hu_of hr) (pv 1) (pe_fld (pe_fld (pv 0) rfl) rfl))))))), ?_⟩
    refine ⟨_, rfl, k, rfl, o1, o2, true, rfl, iteT ⟨_, rfl, _, rfl, x, C, dx, _, _, rfl, hx, TC.cl, TC.n2, tl2, s, S, ds, _, _, rfl, h1, TS.cl, TS.n4, sl4, d, _, rfl, DGet.k (k := .inl k) h4, ?_⟩⟩
    rw [hw.mem k]
    exact kk
theorem scReading_iter : FnScope ["self"] ["self"] (defScope sReading_iter) := ⟨rfl, rfl, rfl, by decide +kernel, rfl, by decide +kernel, by decide +kernel⟩
theorem fnIt_tree {f N S C : Addr} {fd : FuncData} (F : Fun K "__iter__" "Reading.__iter__" sReading_iter f fd) (hb : Binds K fd ["self"] []) (mi : mg "iter" = none) (TC : TrC K C) (TS : SC K S) : FnIt P w K mg base 1 f (OrdAt N S C) := by
  refine fnIt_of F scReading_iter hb (fun cdv A above s H a l Q E hr h kk => ?_)
  obtain ⟨r, t, kvs, dx, s0, ds, vr, d, h1, h2, h3, _⟩ := h
  refine ⟨_, (pss_one (ps_ret (pe_callB ItX.call_iterN (by rfl) mi (by decide +kernel) (pa_cons (pe_fld (pe_fld (pv 0) rfl) rfl) pa_nil)))), ?_⟩
  refine ⟨_, rfl, a, C, dx, _, _, rfl, h1, TC.cl, TC.n2, tl2, s0, S, ds, _, _, rfl, h2, TS.cl, TS.n3, sl3, ?_⟩
  refine ⟨l, _, rfl, SqL.of h3, ?_⟩
  intro it ni hn
  exact kk it ni hn
theorem scReading_layout : FnScope ["self"] ["self"] (defScope sReading_layout) := ⟨rfl, rfl, rfl, by decide +kernel, rfl, by decide +kernel, by decide +kernel⟩
theorem ok_layout {f N S C : Addr} {fd : FuncData} (F : Fun K "layout" "Reading.layout" sReading_layout f fd) (TC : TrC K C) (TS : SC K S) (D1 : Df P w K mg base 1 "form_of" ["node"] (spFormOf N)) : FnOk P w K mg base CX0 2 f fd ["self"] (spLayout N S C) := by
  obtain ⟨f1, fd1, G1, g1, k1, b1⟩ := D1.ex
  refine F.ok scReading_layout (fun vs H Q E h => ?_) (fun cdv A outer s H vs Q E hr h => ?_)
  · obtain ⟨x, r, t, kvs, rfl, _⟩ := h
    rfl
  · obtain ⟨x, r, t, kvs, rfl, ⟨dx, s, hx, s', ds, lo, d, vr, e, h1, h2, h3, h4, h5⟩, kk⟩ := h
    cases e
    refine ⟨_, (pss_one (ps_ret (pe_call G1 hr (by rfl) g1 k1 b1 .nil pass0 (pa_cons (pe_fld (pe_fld (pv 0) rfl) rfl) pa_nil)))), ?_⟩
    exact ⟨_, rfl, x, C, dx, _, _, rfl, hx, TC.cl, TC.n2, tl2, s, S, ds, _, _, rfl, h1, TS.cl, TS.n2, sl2, vr, t, rfl, h2, fun f' H' s' hf => kk f' H' s' hf⟩
theorem scTree_put : FnScope ["self", "key", "value"] ["self", "key", "value"] (defScope sTree_put) := ⟨rfl, rfl, rfl, by decide +kernel, rfl, by decide +kernel, by decide +kernel⟩
theorem ok_put {f N S C : Addr} {fd : FuncData} {dvs : List V} {kws : List (Str × V)} (F : FunD K "put" "Tree.put" (defArgs sTree_put) (defBody sTree_put) (defScope sTree_put) dvs kws f fd) (TC : TrC K C) (D : Df P w K mg base 7 "with_entries" ["state", "entries"] (spWithOne K N S)) : FnOk P w K mg base CX0 8 f fd ["self", "key", "value"] (spPut K N S C) := by
  obtain ⟨f1, fd1, G1, g1, k1, b1⟩ := D.ex
  refine fund_ok0 F scTree_put (fun vs H Q E h => ?_) (fun cdv A outer s H vs Q E hr h => ?_)
  · obtain ⟨x, r, p, q, c, t, kvs, k, v, rfl, _⟩ := h
    rfl
  · obtain ⟨x, r, p, q, c, t, kvs, k, v, rfl, ⟨dx, s, hx, st⟩, rb, o1, o2, hk, len, ff, kk⟩ := h
    refine ⟨_, (pss_one (ps_fld (pv 0) (pe_call G1 hr (by rfl) g1 k1 b1 .nil pass0 (pa_cons (pe_fld (pv 0) rfl) (pa_cons (pe_lst (pa_cons (pe_tup (pa_cons (pv 1) (pa_cons (pv 2) pa_nil))) pa_nil)) pa_nil))) rfl)), ?_⟩
    refine ⟨_, rfl, x, C, dx, _, _, rfl, hx, TC.cl, TC.n2, tl2, _, rfl, _, rfl, (by show 2 ≤ sizeLine; decide), fun e ne => ?_⟩
    have s1 := same_new (o := .tup [.int k, v]) ne
    have h1 : upd H e (.tup [.int k, v]) e = some (.tup [.int k, v]) := upd_same
    generalize upd H e (.tup [.int k, v]) = H1 at s1 h1 ⊢
    refine ⟨(by show 1 ≤ sizeLine; decide), fun l nl => ?_⟩
    have s2 := same_new (o := .lst [.ref e]) nl
    have h2 : upd H1 l (.lst [.ref e]) l = some (.lst [.ref e]) := upd_same
    generalize upd H1 l (.lst [.ref e]) = H2 at s2 h2 ⊢
    have s12 := s1.trans s2
    refine ⟨s, l, e, r, p, q, c, t, kvs, k, v, rfl, st.keep s12, rb.keep s12, h2, s2 _ _ h1, o1, o2, hk, len, ff, fun v' H3 s3 h3 => ?_⟩
    have s13 := s12.trans s3
    obtain ⟨s', ds, lo, d', vr, rfl, _⟩ := id h3
    refine ⟨_, rfl, x, C, dx, _, rfl, s13 _ _ hx, TC.cl, TC.n2, (by show 2 < 1000; decide), ?_⟩
    rw [tp3]
    exact kk _ ((Same.but s13).trans But.upd_at) ⟨dx, s', upd_same, h3.but (s13 _ _ hx) (by show 2 ≤ 3; decide) But.upd_at⟩
theorem scTree_drop : FnScope ["self", "key", "value"] ["self", "key"] (defScope sTree_drop) := ⟨rfl, rfl, rfl, by decide +kernel, rfl, by decide +kernel, by decide +kernel⟩
theorem ok_drop {f fc N S C : Addr} {fd : FuncData} (F : Fun K "drop" "Tree.drop" sTree_drop f fd) (TC : TrC K C) (TS : SC K S) (hc : PySem.W.findIn K (.ref C) "__contains__" = some (some (.ref fc))) (hf : PySem.W.isFn K (.ref fc) = true) (FC : FnR P w K mg base CX0 3 fc (spHas N S C))
    (D : Df P w K mg base 7 "without_entry" ["state", "key"] (spWithout K N S)) : FnOk P w K mg base CX0 8 f fd ["self", "key"] (spDrop K N S C) := by
  obtain ⟨f1, fd1, G1, g1, k1, b1⟩ := D.ex
  refine F.ok scTree_drop (fun vs H Q E h => ?_) (fun cdv A outer s H vs Q E hr h => ?_)
  · obtain ⟨x, r, p, q, c, t, kvs, k, v, rfl, _⟩ := h
    rfl
  · obtain ⟨x, r, p, q, c, t, kvs, k, v, rfl, tr, rb, o1, o2, hk, len, ff, hv, kk⟩ := h
    refine ⟨_, (pss_cons (ps_if (pt_cmp (pc_notinO (pv 1) (pv 0) hc hf FC (hr.mono (by decide)) pass0))
      (pss_one ps_never) pss_nil)
    (pss_cons (ps_set (i := 2) scTree_drop.nd rfl (.inl rfl) (pe_dget (hu_of hr) (pe_fld (pe_fld (pv 0) rfl) rfl) (pv 1) (fun _ _ => rfl)))
    (pss_cons (ps_fld (pv 0) (pe_call G1 hr (by rfl) g1 k1 b1 .nil pass0 (pa_cons (pe_fld (pv 0) rfl) (pa_cons (pv 1) pa_nil))) rfl)
    (pss_one (ps_ret (pv 2)))))), ?_⟩
    obtain ⟨dx, s, hx, st⟩ := id tr
    obtain ⟨s', ds, lo, d, vr, e, h1, h2, h3, h4, ha, hw⟩ := id st
    cases e
    have hm := (Tr.keys_cut_at ha hk).2.1
    refine ⟨_, rfl, _, rfl, x, dx, _, rfl, hx, x, r, t, kvs, k, rfl, tr, o1, o2, _, rfl, _, rfl, ?_⟩
    rw [decide_eq_true hm]
    refine iteF ⟨_, rfl, x, C, dx, _, _, rfl, hx, TC.cl, TC.n2, tl2, s, S, ds, _, _, rfl, h1, TS.cl, TS.n4, sl4, _, rfl, d, v, rfl, by rw [← hv]; exact DGet.k (k := .inl k) h4, ?_⟩
    refine ⟨_, rfl, x, C, dx, _, _, rfl, hx, TC.cl, TC.n2, tl2, _, rfl, s, r, p, q, c, t, kvs, k, rfl, st, rb, hk, len, ff, fun v' H3 s3 q3 => ?_⟩
    obtain ⟨s2, ds2, lo2, d2, vr2, rfl, _⟩ := id q3
    refine ⟨_, rfl, x, C, dx, _, rfl, s3 _ _ hx, TC.cl, TC.n2, (by show 2 < 1000; decide), ?_⟩
    rw [tp3]
    exact ⟨_, rfl, kk _ ((Same.but s3).trans But.upd_at) ⟨dx, s2, upd_same, q3.but (s3 _ _ hx) (by show 2 ≤ 3; decide) But.upd_at⟩⟩
end
end Ev
set_option maxHeartbeats 1000000
namespace Ev
open PySem L2 PySem.Spec PyProof.Rows RZ
/-! All nodes, and those that are not fair: there are none. -/
theorem All2.snoc {α : Type} {R : V → α → Prop} : ∀ {vs : List V} {bs : List α}, All2 R vs bs → vs ≠ [] → ∃ vs0 y bs0 u, vs = vs0 ++ [y] ∧ bs = bs0 ++ [u] ∧ All2 R vs0 bs0 ∧ R y u
  | [], _, _, h => absurd rfl h
  | [v], [b], h, _ => ⟨[], v, [], b, rfl, rfl, trivial, h.1⟩
  | v :: v' :: vs, b :: b' :: bs, h, _ => by
    obtain ⟨vs0, y, bs0, u, e1, e2, h1, h2⟩ := All2.snoc h.2 (by intro z; cases z)
    exact ⟨v :: vs0, y, b :: bs0, u, by rw [e1]; rfl, by rw [e2]; rfl, ⟨h.1, h1⟩, h2⟩
  | [_], [], h, _ => h.elim
  | [_], _ :: _ :: _, h, _ => h.2.elim
  | _ :: _ :: _, [], h, _ => h.elim
  | _ :: _ :: _, [_], h, _ => h.2.elim
def muT (us : List Tr) : Nat := (us.map fun u => 2 * u.keys.length + 1).sum
theorem muT_app (us vs : List Tr) : muT (us ++ vs) = muT us + muT vs := by
  unfold muT
  rw [List.map_append, List.sum_append]
theorem muT_len : ∀ us : List Tr, us.length ≤ muT us
  | [] => Nat.zero_le _
  | u :: us => by
    have := muT_len us
    unfold muT at this ⊢
    rw [List.map_cons, List.sum_cons, List.length_cons]
    omega
def FairNd (N : Addr) (p q c : Int) (H : Hp) (x : V) : Prop := ∃ l k r, NdAt N H (.n l k r) x ∧ (Tr.n l k r).fair p q c
theorem last_snoc {α : Type} (xs : List α) (y : α) : (xs ++ [y])[(xs ++ [y]).length - 1]? = some y := by
  rw [List.length_append, List.length_singleton, Nat.add_sub_cancel, List.getElem?_append_right (Nat.le_refl _), Nat.sub_self]
  rfl
def spNodes (N : Addr) : Sp := fun vs H Q _ => ∃ (v : V) (t : Tr) (p q c : Int), vs = [v] ∧ NdAt N H t v ∧ t.fair p q c ∧ t.keys.length < 1000 ∧ ∀ (l : Addr) (xs : List V) (H' : Hp), Same H H' → H' l = some (.lst xs) → (∀ x ∈ xs, FairNd N p q c H x) → Q (.ref l) H'
def spUnfairK (K : PySem.W.Frag) (N S : Addr) : Sp := fun vs H Q _ => ∃ (s r : Addr) (t : Tr) (kvs : List (Key × V)) (p q c : Int), vs = [.ref s] ∧ StateAt N S H (.ref r) t kvs (.ref s) ∧ RB K H r p q c ∧ t.fair p q c ∧ t.keys.length < 1000 ∧ ∀ (l : Addr) (H' : Hp), Same H H' → H' l = some (.lst []) → Q (.ref l) H'
def spUnfair (K : PySem.W.Frag) (N S C : Addr) : Sp := fun vs H Q _ => ∃ (x r : Addr) (t : Tr) (kvs : List (Key × V)) (p q c : Int), vs = [.ref x] ∧ TreeAt N S C H r t kvs x ∧ RB K H r p q c ∧ t.fair p q c ∧ t.keys.length < 1000 ∧ ∀ (l : Addr) (H' : Hp), Same H H' → H' l = some (.tup []) → Q (.ref l) H'
section
variable {P : Program} {w : World} {K : PySem.W.Frag} {mg : Str → Option Value} {base : Heap}
theorem scNodesOf : FnScope ["root", "found", "waiting", "node"] ["root"] (defScope sNodesOf) := ⟨rfl, rfl, rfl, by decide +kernel, rfl, by decide +kernel, by decide +kernel⟩
theorem ok_nodes {f N : Addr} {fd : FuncData} (F : Fun K "nodes_of" "nodes_of" sNodesOf f fd) (T : NC K N) : FnOk P w K mg base CX0 1 f fd ["root"] (spNodes N) := by
  refine F.ok scNodesOf (fun vs H Q E h => ?_) (fun cdv A outer s H vs Q E hr h => ?_)
  · obtain ⟨v, t, p, q, c, rfl, _⟩ := h
    rfl
  · obtain ⟨v, t, p, q, c, rfl, hv, hf, len, kk⟩ := h
    refine ⟨_, (pss_cons (ps_set (i := 1) scNodesOf.nd rfl (.inl rfl) (pe_lst pa_nil))
    (pss_cons (ps_set (i := 2) scNodesOf.nd rfl (.inl rfl) (pe_lst (pa_cons (pv 0) pa_nil)))
    (pss_cons (ps_while PassesOwn.never (pt_truth (pv 2) (fun _ => rfl))
      (pss_cons (ps_set (i := 3) scNodesOf.nd rfl (.inl rfl) (pe_bm0 PySem.F.plainAttrs_list PySem.F.slot_list_pop PySem.F.type_list_pop mt_pop (pv 2)))
      (pss_one (ps_if (pt_cmpR op_notN (pv 3) pe_non (nomark _))
        (pss_cons (ps_expr (pe_bm PySem.F.plainAttrs_list PySem.F.slot_list_append PySem.F.type_list_append mt_append (pv 1) (pa_cons (pv 3) pa_nil)))
        (pss_cons (ps_expr (pe_bm PySem.F.plainAttrs_list PySem.F.slot_list_append PySem.F.type_list_append mt_append (pv 2) (pa_cons (pe_fld (pv 3) rfl) pa_nil)))
        (pss_one (ps_expr (pe_bm PySem.F.plainAttrs_list PySem.F.slot_list_append PySem.F.type_list_append mt_append (pv 2) (pa_cons (pe_fld (pv 3) rfl) pa_nil)))))) pss_nil))))
    (pss_one (ps_ret (pv 1)))))), ?_⟩
    refine ⟨(by show 0 ≤ sizeLine; decide), fun lf nf => ?_⟩
    have s1 := same_new (o := .lst []) nf
    have h1 : upd H lf (.lst []) lf = some (.lst []) := upd_same
    generalize upd H lf (.lst []) = H1 at s1 h1 ⊢
    refine ⟨_, rfl, (by show 1 ≤ sizeLine; decide), fun lw nw => ?_⟩
    have s2 := same_new (o := .lst [v]) nw
    have h2 : upd H1 lw (.lst [v]) lw = some (.lst [v]) := upd_same
    have ne : lf ≠ lw := ne_of_none h1 nw
    have nw0 : H lw = none := by
      rcases e9 : H lw with _ | o
      · rfl
      · rw [s1 _ _ e9] at nw
        cases nw
    have h12 := s2 _ _ h1
    generalize upd H1 lw (.lst [v]) = H2 at s2 h2 h12 ⊢
    refine ⟨fun m σ G => ∃ (ws fs : List V) (us : List Tr) (z : Option V), m = muT us ∧ σ = [some v, some (.ref lf), some (.ref lw), z] ∧ Same H G ∧ G lw = some (.lst ws) ∧ G lf = some (.lst fs) ∧ All2 (fun v u => NdAt N H u v) ws us ∧ (∀ u ∈ us, u.fair p q c) ∧ (∀ x ∈ fs, FairNd N p q c H x) ∧ fs.length + muT us ≤ 2 * t.keys.length + 1,
      ⟨_, [v], [], [t], none, rfl, rfl, s1.trans s2, h2, h12, ⟨hv, trivial⟩, (fun u hu => by rw [List.mem_singleton.mp hu]; exact hf), (fun x hx => nomatch hx), (by unfold muT; simp)⟩, fun m σ G hW => ?_⟩
    obtain ⟨ws, fs, us, z, rfl, rfl, sg, hw, hfs, al, fu, ff, bd⟩ := hW
    have ml := muT_len us
    have ln := al.len
    refine ⟨_, rfl, _, .inl ⟨ws, SqL.of hw, rfl⟩, ?_⟩
    by_cases wn : ws = []
    · subst wn
      exact iteF ⟨_, rfl, kk lf fs G sg hfs ff⟩
    · obtain ⟨ws0, y, us0, u, rfl, rfl, al0, hy⟩ := al.snoc wn
      rw [show (!(ws0 ++ [y]).isEmpty) = true by simp]
      refine iteT ⟨fun σ' G' => ∃ (ws' fs' : List V) (us' : List Tr) (z : Option V), muT us' < muT (us0 ++ [u]) ∧ σ' = [some v, some (.ref lf), some (.ref lw), z] ∧ Same H G' ∧ G' lw = some (.lst ws') ∧ G' lf = some (.lst fs') ∧ All2 (fun v u => NdAt N H u v) ws' us' ∧ (∀ u ∈ us', u.fair p q c) ∧ (∀ x ∈ fs', FairNd N p q c H x) ∧ fs'.length + muT us' ≤ 2 * t.keys.length + 1,
        fun σ' G' h => by
          obtain ⟨ws', fs', us', z, lt, h⟩ := h
          exact ⟨muT us', lt, ws', fs', us', z, rfl, h⟩, ?_⟩
      refine ⟨_, rfl, .inl ⟨rfl, _, SqL.of hw⟩, lw, ws0 ++ [y], y, rfl, rfl, hw, last_snoc _ _, ?_⟩
      rw [List.dropLast_concat]
      have k1 : But lw G (upd G lw (.lst ws0)) := But.upd_at
      have hw1 : upd G lw (.lst ws0) lw = some (.lst ws0) := upd_same
      have hf1 := k1 _ _ ne hfs
      have sg1 : Same H (upd G lw (.lst ws0)) := fun b o e => k1 _ _ (ne_of_none e nw0) (sg _ _ e)
      generalize upd G lw (.lst ws0) = G1 at k1 hw1 hf1 sg1 ⊢
      rw [muT_app] at bd ⊢
      refine ⟨_, rfl, rfl, _, rfl, ?_⟩
      show (if (!decide (y = V.non)) = true then _ else _)
      rw [hy.isN]
      have hu : u.fair p q c := fu u (List.mem_append_right _ List.mem_cons_self)
      have fu0 : ∀ u' ∈ us0, u'.fair p q c := fun u' h' => fu u' (List.mem_append_left _ h')
      cases u with
      | e =>
        rw [show (!decide (Tr.e = Tr.e)) = false by decide]
        refine iteF ⟨ws0, fs, us0, some y, ?_, rfl, sg1, hw1, hf1, al0, fu0, ff, ?_⟩
        · show _ < _ + (2 * 0 + 1 + 0)
          omega
        · omega
      | n ul uk ur =>
        rw [show (!decide (Tr.n ul uk ur = Tr.e)) = true by simp]
        have fdd : FairNd N p q c H y := ⟨ul, uk, ur, hy, hu⟩
        obtain ⟨a, dx, vl, vr, fm, rfl, hna, hnl, hnr, hfm⟩ := hy
        obtain ⟨_, fl, fr⟩ := hu
        have mu1 : muT [Tr.n ul uk ur] = 2 * (ul.keys.length + (ur.keys.length + 1)) + 1 := by
          unfold muT
          simp only [List.map_cons, List.map_nil, List.sum_cons, List.sum_nil, Tr.keys, List.length_append, List.length_cons]
          omega
        have mu2 : muT [ur, ul] = 2 * ur.keys.length + 1 + (2 * ul.keys.length + 1) := by
          unfold muT
          simp only [List.map_cons, List.map_nil, List.sum_cons, List.sum_nil]
          omega
        rw [mu1] at bd ⊢
        have l0 := al0.len
        have ml0 := muT_len us0
        refine iteT ⟨_, rfl, .inl ⟨rfl, _, SqL.of hf1⟩, _, rfl, lf, _, _, rfl, rfl, hf1, Nat.lt_of_le_of_lt (show _ ≤ 3000 by omega) (by decide), ?_⟩
        have k2 : But lf G1 (upd G1 lf (.lst (fs ++ [.ref a]))) := But.upd_at
        have hf2 : upd G1 lf (.lst (fs ++ [.ref a])) lf = some (.lst (fs ++ [.ref a])) := upd_same
        have hw2 := k2 _ _ ne.symm hw1
        have sg2 : Same H (upd G1 lf (.lst (fs ++ [.ref a]))) := fun b o e => k2 _ _ (ne_of_none e nf) (sg1 _ _ e)
        generalize upd G1 lf (.lst (fs ++ [.ref a])) = G2 at k2 hf2 hw2 sg2 ⊢
        refine ⟨_, rfl, .inl ⟨rfl, _, SqL.of hw2⟩, _, rfl, a, N, dx, _, _, rfl, sg2 _ _ hna, T.cl, T.n3, nl3, lw, _, _, rfl, rfl, hw2, Nat.lt_of_le_of_lt (show _ ≤ 3000 by omega) (by decide), ?_⟩
        have k3 : But lw G2 (upd G2 lw (.lst (ws0 ++ [vr]))) := But.upd_at
        have hw3 : upd G2 lw (.lst (ws0 ++ [vr])) lw = some (.lst (ws0 ++ [vr])) := upd_same
        have hf3 := k3 _ _ ne hf2
        have sg3 : Same H (upd G2 lw (.lst (ws0 ++ [vr]))) := fun b o e => k3 _ _ (ne_of_none e nw0) (sg2 _ _ e)
        generalize upd G2 lw (.lst (ws0 ++ [vr])) = G3 at k3 hw3 hf3 sg3 ⊢
        refine ⟨_, rfl, .inl ⟨rfl, _, SqL.of hw3⟩, _, rfl, a, N, dx, _, _, rfl, sg3 _ _ hna, T.cl, T.n1, nl1, lw, _, _, rfl, rfl, hw3, Nat.lt_of_le_of_lt (show _ ≤ 3000 by rw [List.length_append, List.length_singleton]; omega) (by decide), ?_⟩
        have k4 : But lw G3 (upd G3 lw (.lst ((ws0 ++ [vr]) ++ [vl]))) := But.upd_at
        refine ⟨(ws0 ++ [vr]) ++ [vl], fs ++ [.ref a], us0 ++ [ur, ul], _, ?_, rfl, fun b o e => k4 _ _ (ne_of_none e nw0) (sg3 _ _ e), upd_same, k4 _ _ ne hf3, ?_, ?_, ?_, ?_⟩
        · rw [muT_app, mu2]
          omega
        · rw [List.append_assoc]
          exact al0.app ⟨hnr, hnl, trivial⟩
        · intro u' h'
          rcases List.mem_append.mp h' with h' | h'
          · exact fu0 u' h'
          · rcases List.mem_cons.mp h' with rfl | h'
            · exact fr
            · rw [List.mem_singleton.mp h']
              exact fl
        · intro x hx
          rcases List.mem_append.mp hx with hx | hx
          · exact ff x hx
          · rw [List.mem_singleton.mp hx]
            exact fdd
        · rw [muT_app, mu2, List.length_append, List.length_singleton]
          omega
theorem scUnfairKeys : FnScope ["state", "found", "node", "key"] ["state"] (defScope sUnfairKeys) := ⟨rfl, rfl, rfl, by decide +kernel, rfl, by decide +kernel, by decide +kernel⟩
theorem ok_unfairK {f N S : Addr} {fd : FuncData} (F : Fun K "unfair_keys" "unfair_keys" sUnfairKeys f fd) (T : Blt mg) (ms : mg "sorted" = none) (TN : NC K N) (TS : SC K S) (D1 : Df P w K mg base 1 "nodes_of" ["root"] (spNodes N)) (D2 : Df P w K mg base 1 "weight_of" ["node"] (spWeightOf N)) (D3 : Df P w K mg base 1 "are_fair" ["rule", "x", "y"] (spFair K)) : FnOk P w K mg base CX0 2 f fd ["state"] (spUnfairK K N S) := by
  obtain ⟨f1, fd1, G1, g1, k1, b1⟩ := D1.ex
  obtain ⟨f2, fd2, G2, g2, k2, b2⟩ := D2.ex
  obtain ⟨f3, fd3, G3, g3, k3, b3⟩ := D3.ex
  refine F.ok scUnfairKeys (fun vs H Q E h => ?_) (fun cdv A outer s H vs Q E hr h => ?_)
  · obtain ⟨s, r, t, kvs, p, q, c, rfl, _⟩ := h
    rfl
  · obtain ⟨s, r, t, kvs, p, q, c, rfl, ⟨s', ds, lo, d, vr, e, h1, h2, h3, h4, h5⟩, rb, hf, len, kk⟩ := h
    cases e
    refine ⟨_, (pss_cons (ps_set (i := 1) scUnfairKeys.nd rfl (.inl rfl) (pe_lst pa_nil))
    (pss_cons (ps_for PassesOwn.never rfl (pi_list (pe_call G1 hr (by rfl) g1 k1 b1 .nil pass0 (pa_cons (pe_fld (pv 0) rfl) pa_nil))) (pg_name (i := 2) scUnfairKeys.nd rfl (.inl rfl))
      (pss_one (ps_if (pt_not (pt_val (pe_call G3 hr (by rfl) g3 k3 b3 .nil pass0 (pa_cons (pe_fld (pv 0) rfl) (pa_cons (pe_call G2 hr (by rfl) g2 k2 b2 .nil pass0 (pa_cons (pe_fld (pv 2) rfl) pa_nil)) (pa_cons (pe_call G2 hr (by rfl) g2 k2 b2 .nil pass0 (pa_cons (pe_fld (pv 2) rfl) pa_nil)) pa_nil))))))
        (pss_one (ps_expr (pe_bm PySem.F.plainAttrs_list PySem.F.slot_list_append PySem.F.type_list_append mt_append (pv 1) (pa_cons (pe_callTy call_int1 (by rfl) T.int (by decide +kernel) (pa_cons (pe_fld (pv 2) rfl) pa_nil)) pa_nil)))) pss_nil)))
    (pss_one (ps_ret (pe_callB cr_sortedI (by rfl) ms (by decide +kernel) (pa_cons (pe_lc (own := [("key", 3)]) (g := gName 3) (by rfl) scUnfairKeys.nd (pi_list (pv 1)) (blkOk_by (own := [("key", 3)]) (N := ["state", "found", "node", "key"]) (sc := defScope sUnfairKeys) (by decide +kernel)) (fun _ _ _ _ _ => pg_name (i := 3) scUnfairKeys.nd rfl (.inl rfl)) (fun _ _ _ _ _ => pts_nil) (fun _ _ _ _ _ => (pe_callTy call_int1 (by rfl) T.int (by decide +kernel) (pa_cons (pv 3) pa_nil)))) pa_nil)))))), ?_⟩
    refine ⟨(by show 0 ≤ sizeLine; decide), fun lf nf => ?_⟩
    have s1 := same_new (o := .lst []) nf
    have hlf : upd H lf (.lst []) lf = some (.lst []) := upd_same
    generalize upd H lf (.lst []) = H1 at s1 hlf ⊢
    refine ⟨_, rfl, s, S, ds, _, _, rfl, s1 _ _ h1, TS.cl, TS.n2, sl2, vr, t, p, q, c, rfl, h2.keep s1, hf, len, fun ln xs H2 s2 hln hx => ?_⟩
    have s12 := s1.trans s2
    refine ⟨ln, rfl, ⟨_, SqL.of hln⟩, ?_⟩
    refine for_list (xs := xs) (fun i σ G => G = H2 ∧ ∃ z, σ = [some (.ref s), some (.ref lf), z, none]) ⟨rfl, none, rfl⟩ (fun i σ G _ h => by rw [h.1]; exact SqL.of hln) (fun i v σ G hi hp => ?_) (fun σ G hp => ?_)
    · obtain ⟨rfl, z, rfl⟩ := hp
      obtain ⟨l, k, r', hn, ⟨f1', _, _⟩⟩ := hx v (List.mem_of_getElem? hi)
      obtain ⟨a, dx, vl, vr', fm, rfl, hna, hnl, hnr, hfm⟩ := hn
      refine ⟨_, rfl, s, S, ds, _, _, rfl, s12 _ _ h1, TS.cl, TS.n1, sl1, _, rfl, a, N, dx, _, _, rfl, s2 _ _ hna, TN.cl, TN.n1, nl1, vl, l, rfl, hnl.keep s2, _, rfl, a, N, dx, _, _, rfl, s2 _ _ hna, TN.cl, TN.n3, nl3, vr', r', rfl, hnr.keep s2, r, p, q, c, l.w, r'.w, rfl, rb.keep s12, ?_⟩
      rw [f1']
      exact ⟨true, rfl, iteF ⟨rfl, _, rfl⟩⟩
    · obtain ⟨rfl, z, rfl⟩ := hp
      have hlf2 := s2 _ _ hlf
      refine ⟨_, rfl, lf, rfl, ⟨_, SqL.of hlf2⟩, fun D nD => ?_⟩
      refine lc_list (xs := []) (fun i G' => G' = upd G D (.lst [])) rfl (fun i G' _ h => by rw [h]; exact SqL.of (same_new nD _ _ hlf2)) (fun i v G' hi hp => by cases hi) (fun G' h => ?_)
      rw [h]
      refine ⟨D, [], rfl, SqL.of upd_same, fun ns' pl perm _ npl => ?_⟩
      have : ns' = [] := List.Perm.eq_nil perm
      subst this
      exact kk pl _ (s12.trans ((same_new nD).trans (same_new npl))) upd_same
theorem scTree_unfair : FnScope ["self"] ["self"] (defScope sTree_unfair) := ⟨rfl, rfl, rfl, by decide +kernel, rfl, by decide +kernel, by decide +kernel⟩
theorem ok_unfair {f N S C : Addr} {fd : FuncData} (F : Fun K "unfair" "Tree.unfair" sTree_unfair f fd) (T : Blt mg) (TC : TrC K C) (D : Df P w K mg base 2 "unfair_keys" ["state"] (spUnfairK K N S)) : FnOk P w K mg base CX0 3 f fd ["self"] (spUnfair K N S C) := by
  obtain ⟨f1, fd1, G1, g1, k1, b1⟩ := D.ex
  refine F.ok scTree_unfair (fun vs H Q E h => ?_) (fun cdv A outer s H vs Q E hr h => ?_)
  · obtain ⟨x, r, t, kvs, p, q, c, rfl, _⟩ := h
    rfl
  · obtain ⟨x, r, t, kvs, p, q, c, rfl, ⟨dx, s, hx, st⟩, rb, hf, len, kk⟩ := h
    refine ⟨_, (pss_one (ps_ret (pe_callTy call_tuple_of (by rfl) T.tuple (by decide +kernel) (pa_cons (pe_call G1 hr (by rfl) g1 k1 b1 .nil pass0 (pa_cons (pe_fld (pv 0) rfl) pa_nil)) pa_nil)))), ?_⟩
    refine ⟨_, rfl, x, C, dx, _, _, rfl, hx, TC.cl, TC.n2, tl2, s, r, t, kvs, p, q, c, rfl, st, rb, hf, len, fun l H1 s1 h1 => ?_⟩
    exact ⟨l, _, rfl, .inl ⟨SqL.of h1, fun tp nt => kk tp _ (s1.trans (same_new nt)) upd_same⟩⟩
end
end Ev
set_option maxHeartbeats 1000000
namespace Ev
open PySem L2 PySem.Spec PyProof.Rows RZ
/-! A leaf taken from the heavier side: the tree stays fair, and a put of the leaf gives it back. -/
namespace Tr
def isE : Tr → Bool
  | .e => true
  | _ => false
def isLeaf : Tr → Bool
  | .n .e _ .e => true
  | _ => false
theorem isE_w {t : Tr} (h : t.isE = false) : 2 ≤ t.w := by
  cases t with
  | e => cases h
  | n l k r =>
    have := w_pos l
    have := w_pos r
    show 2 ≤ l.w + r.w
    omega
def rmT : Tr → Tr
  | .e => .e
  | .n l k r => if (l.isE && r.isE) = true then .e else if r.w ≤ l.w then .n l.rmT k r else .n l k r.rmT
def rmK : Tr → Int
  | .e => 0
  | .n l k r => if (l.isE && r.isE) = true then k else if r.w ≤ l.w then l.rmK else r.rmK
def rmA : Tr → Nat
  | .e => 0
  | .n l k r => if (l.isE && r.isE) = true then 0 else if r.w ≤ l.w then l.rmA else r.rmA + l.keys.length + 1
theorem isE_eq {t : Tr} (h : t.isE = true) : t = .e := by
  cases t with
  | e => rfl
  | n l k r => cases h
theorem rm_side {l r : Tr} (h : ¬ (l.isE && r.isE) = true) : (r.w ≤ l.w → l.isE = false) ∧ (¬ r.w ≤ l.w → r.isE = false) := by
  constructor
  · intro z
    rcases hl : l.isE with _ | _
    · rfl
    · have := isE_eq hl
      subst this
      have hr : r.isE = false := by
        rcases hr : r.isE with _ | _
        · rfl
        · exact absurd (by rw [hl, hr]; rfl) h
      have := isE_w hr
      have : r.w ≤ 1 := z
      omega
  · intro z
    rcases hr : r.isE with _ | _
    · rfl
    · have := isE_eq hr
      subst this
      have := w_pos l
      exact absurd (show (1 : Int) ≤ l.w from this) z
theorem rm_keys : ∀ t : Tr, t.isE = false → ∃ as bs, t.keys = as ++ t.rmK :: bs ∧ t.rmT.keys = as ++ bs ∧ as.length = t.rmA
  | .e, h => by cases h
  | .n l k r, _ => by
    unfold rmK rmT rmA
    by_cases z : (l.isE && r.isE) = true
    · rw [if_pos z, if_pos z, if_pos z]
      obtain ⟨z1, z2⟩ := Bool.and_eq_true_iff.mp z
      rw [isE_eq z1, isE_eq z2]
      exact ⟨[], [], rfl, rfl, rfl⟩
    · rw [if_neg z, if_neg z, if_neg z]
      obtain ⟨s1, s2⟩ := rm_side z
      by_cases y : r.w ≤ l.w
      · rw [if_pos y, if_pos y, if_pos y]
        obtain ⟨as, bs, e1, e2, e3⟩ := rm_keys l (s1 y)
        refine ⟨as, bs ++ k :: r.keys, ?_, ?_, e3⟩
        · show l.keys ++ k :: r.keys = _
          rw [e1, List.append_assoc]
          rfl
        · show l.rmT.keys ++ k :: r.keys = _
          rw [e2, List.append_assoc]
      · rw [if_neg y, if_neg y, if_neg y]
        obtain ⟨as, bs, e1, e2, e3⟩ := rm_keys r (s2 y)
        refine ⟨l.keys ++ k :: as, bs, ?_, ?_, ?_⟩
        · show l.keys ++ k :: r.keys = _
          rw [e1, List.append_assoc]
          rfl
        · show l.keys ++ k :: r.rmT.keys = _
          rw [e2, List.append_assoc]
          rfl
        · rw [List.length_append, List.length_cons, e3]
          omega
theorem rm_w {t : Tr} (h : t.isE = false) : t.rmT.w + 1 = t.w := by
  obtain ⟨as, bs, e1, e2, e3⟩ := rm_keys t h
  rw [w_keys, w_keys, e1, e2]
  simp only [List.length_append, List.length_cons]
  omega
theorem rm_mem {t : Tr} (h : t.isE = false) : t.rmK ∈ t.keys := by
  obtain ⟨as, bs, e1, e2, e3⟩ := rm_keys t h
  rw [e1]
  exact List.mem_append_right _ List.mem_cons_self
theorem rm_asc {t : Tr} (h : t.asc) : t.rmT.asc := by
  rcases he : t.isE with _ | _
  · obtain ⟨as, bs, e1, e2, e3⟩ := rm_keys t he
    unfold asc at h ⊢
    rw [e1] at h
    rw [e2]
    rw [List.pairwise_append] at h ⊢
    obtain ⟨h1, h2, h3⟩ := h
    exact ⟨h1, (List.pairwise_cons.mp h2).2, fun a ha b hb => h3 a ha b (List.mem_cons_of_mem _ hb)⟩
  · rw [isE_eq he]
    exact List.Pairwise.nil
theorem rm_sub : ∀ t : Tr, t.isE = false → t.asc → t.sub t.rmK = .n .e t.rmK .e ∧ t.cut t.rmK = t.rmT ∧ t.rmT.put t.rmK = t
  | .e, h, _ => by cases h
  | .n l k r, _, a => by
    obtain ⟨a1, a2, a3, a4⟩ := asc_n.mp a
    unfold rmK rmT
    by_cases z : (l.isE && r.isE) = true
    · rw [if_pos z, if_pos z]
      obtain ⟨z1, z2⟩ := Bool.and_eq_true_iff.mp z
      rw [isE_eq z1, isE_eq z2]
      exact ⟨if_pos rfl, if_pos rfl, rfl⟩
    · rw [if_neg z, if_neg z]
      obtain ⟨s1, s2⟩ := rm_side z
      by_cases y : r.w ≤ l.w
      · rw [if_pos y, if_pos y]
        obtain ⟨i1, i2, i3⟩ := rm_sub l (s1 y) a1
        have lt := a3 _ (rm_mem (s1 y))
        refine ⟨?_, ?_, ?_⟩
        · unfold sub
          rw [if_neg (by omega), if_pos lt, i1]
        · unfold cut
          rw [if_neg (by omega), if_pos lt, i2]
        · unfold put
          rw [if_pos lt, i3]
      · rw [if_neg y, if_neg y]
        obtain ⟨i1, i2, i3⟩ := rm_sub r (s2 y) a2
        have lt := a4 _ (rm_mem (s2 y))
        refine ⟨?_, ?_, ?_⟩
        · unfold sub
          rw [if_neg (by omega), if_neg (by omega), i1]
        · unfold cut
          rw [if_neg (by omega), if_neg (by omega), i2]
        · unfold put
          rw [if_neg (by omega), i3]
theorem fair_less {p q c m y : Int} (h1 : 1 ≤ q) (h2 : q ≤ p) (h3 : 2 * q ≤ p + c) (hm : 1 ≤ m) (hy : y ≤ m + 1) (f : q * (m + 1) ≤ p * y + c) : q * y ≤ p * m + c ∧ q * m ≤ p * y + c := by
  have e1 : (p - q) * 1 ≤ (p - q) * m := Int.mul_le_mul_of_nonneg_left hm (by omega)
  have e2 : q * y ≤ q * (m + 1) := Int.mul_le_mul_of_nonneg_left hy (by omega)
  have e3 : (p - q) * m = p * m - q * m := Int.sub_mul ..
  have e4 : q * (m + 1) = q * m + q := by rw [Int.mul_add, Int.mul_one]
  constructor <;> omega
theorem rm_fair {p q c : Int} (h1 : 1 ≤ q) (h2 : q ≤ p) (h3 : 2 * q ≤ p + c) : ∀ t : Tr, t.fair p q c → t.rmT.fair p q c
  | .e, _ => trivial
  | .n l k r, ⟨f1, f2, f3⟩ => by
    unfold rmT
    by_cases z : (l.isE && r.isE) = true
    · rw [if_pos z]
      trivial
    · rw [if_neg z]
      obtain ⟨s1, s2⟩ := rm_side z
      unfold fairB at f1
      rw [Bool.and_eq_true] at f1
      obtain ⟨g1, g2⟩ := f1
      have g1 := of_decide_eq_true g1
      have g2 := of_decide_eq_true g2
      by_cases y : r.w ≤ l.w
      · rw [if_pos y]
        have e := rm_w (s1 y)
        have lw := isE_w (s1 y)
        have := fair_less h1 h2 h3 (m := l.rmT.w) (y := r.w) (by omega) (by omega) (by rw [e]; exact g2)
        refine ⟨?_, rm_fair h1 h2 h3 l f2, f3⟩
        unfold fairB
        rw [decide_eq_true this.1, decide_eq_true this.2]
        rfl
      · rw [if_neg y]
        have e := rm_w (s2 y)
        have lw := isE_w (s2 y)
        have := fair_less h1 h2 h3 (m := r.rmT.w) (y := l.w) (by omega) (by omega) (by rw [e]; exact g1)
        refine ⟨?_, f2, rm_fair h1 h2 h3 r f3⟩
        unfold fairB
        rw [decide_eq_true this.1, decide_eq_true this.2]
        rfl
/-- so many leaves taken -/
def rmN : Nat → Tr → Tr
  | 0, t => t
  | m + 1, t => (rmN m t).rmT
theorem rmN_len (t : Tr) : ∀ m : Nat, m ≤ t.keys.length → (rmN m t).keys.length + m = t.keys.length
  | 0, _ => rfl
  | m + 1, h => by
    have ih := rmN_len t m (by omega)
    have ne : (rmN m t).isE = false := by
      rcases he : (rmN m t).isE with _ | _
      · rfl
      · rw [isE_eq he] at ih
        have : 0 + m = t.keys.length := ih
        omega
    have e := rm_w ne
    rw [w_keys, w_keys] at e
    show (rmN m t).rmT.keys.length + (m + 1) = _
    omega
theorem rmN_ne {t : Tr} {m : Nat} (h : m < t.keys.length) : (rmN m t).isE = false := by
  have ih := rmN_len t m (by omega)
  rcases he : (rmN m t).isE with _ | _
  · rfl
  · rw [isE_eq he] at ih
    have : 0 + m = t.keys.length := ih
    omega
theorem rmN_end (t : Tr) : rmN t.keys.length t = .e := by
  have ih := rmN_len t _ (Nat.le_refl _)
  have l0 : (rmN t.keys.length t).keys.length = 0 := by omega
  cases h : rmN t.keys.length t with
  | e => rfl
  | n l k r =>
    rw [h] at l0
    simp [keys] at l0
theorem rmN_asc {t : Tr} (h : t.asc) : ∀ m, (rmN m t).asc
  | 0 => h
  | m + 1 => rm_asc (rmN_asc h m)
theorem rmN_fair {p q c : Int} (h1 : 1 ≤ q) (h2 : q ≤ p) (h3 : 2 * q ≤ p + c) {t : Tr} (h : t.fair p q c) : ∀ m, (rmN m t).fair p q c
  | 0 => h
  | m + 1 => rm_fair h1 h2 h3 _ (rmN_fair h1 h2 h3 h m)
theorem rm_subset {t : Tr} {x : Int} (h : x ∈ t.rmT.keys) : x ∈ t.keys := by
  rcases he : t.isE with _ | _
  · obtain ⟨as, bs, e1, e2, e3⟩ := rm_keys t he
    rw [e2] at h
    rw [e1]
    rcases List.mem_append.mp h with h | h
    · exact List.mem_append_left _ h
    · exact List.mem_append_right _ (List.mem_cons_of_mem _ h)
  · rw [isE_eq he] at h
    cases h
theorem rmN_subset {t : Tr} {x : Int} : ∀ {m : Nat}, x ∈ (rmN m t).keys → x ∈ t.keys
  | 0, h => h
  | m + 1, h => rmN_subset (m := m) (rm_subset h)
/-- new keys: 0, 10, 20 .. from the left -/
def lab (s : Int) : Tr → Tr
  | .e => .e
  | .n l _ r => .n (l.lab s) (10 * (s + l.keys.length)) (r.lab (s + l.keys.length + 1))
theorem lab_len : ∀ (t : Tr) (s : Int), (t.lab s).keys.length = t.keys.length
  | .e, _ => rfl
  | .n l k r, s => by
    simp only [lab, keys, List.length_append, List.length_cons]
    rw [lab_len l, lab_len r]
theorem lab_w (t : Tr) (s : Int) : (t.lab s).w = t.w := by rw [w_keys, w_keys, lab_len]
theorem lab_keys : ∀ (t : Tr) (s : Int), (t.lab s).keys = (List.range t.keys.length).map fun i : Nat => 10 * (s + (i : Int))
  | .e, _ => rfl
  | .n l k r, s => by
    have e1 := lab_keys l s
    have e2 := lab_keys r (s + l.keys.length + 1)
    simp only [lab, keys, List.length_append, List.length_cons]
    rw [e1, e2, List.range_add, List.map_append, List.range_succ_eq_map, List.map_cons, List.map_cons, List.map_map, List.map_map]
    have e3 : (List.range r.keys.length).map (fun i : Nat => 10 * (s + l.keys.length + 1 + (i : Int))) = (List.range r.keys.length).map (((fun i : Nat => 10 * (s + (i : Int))) ∘ fun x => l.keys.length + x) ∘ Nat.succ) := List.map_congr_left fun i _ => by
      simp only [Function.comp]
      omega
    rw [e3, Nat.add_zero]
theorem lab_fair {p q c : Int} : ∀ (t : Tr) (s : Int), t.fair p q c → (t.lab s).fair p q c
  | .e, _, _ => trivial
  | .n l k r, s, ⟨f1, f2, f3⟩ => ⟨by rw [lab_w, lab_w]; exact f1, lab_fair l _ f2, lab_fair r _ f3⟩
theorem lab_asc (t : Tr) (s : Int) : (t.lab s).asc := by
  unfold asc
  rw [lab_keys, List.pairwise_map]
  refine List.Pairwise.imp (R := fun a b => a < b) (fun {a b} h => ?_) List.pairwise_lt_range
  omega
end Tr
/-- a shape: the sides without the keys -/
def BareAt (H : Hp) : Tr → V → Prop
  | .e, v => ∃ a : Addr, v = .ref a ∧ H a = some (.tup [])
  | .n l _ r, v => ∃ (a : Addr) (vl vr : V), v = .ref a ∧ H a = some (.tup [vl, vr]) ∧ BareAt H l vl ∧ BareAt H r vr
theorem BareAt.keep {H H' : Hp} (s : Same H H') : ∀ {t : Tr} {v : V}, BareAt H t v → BareAt H' t v
  | .e, v, h => by
    obtain ⟨a, e, h⟩ := h
    exact ⟨a, e, s _ _ h⟩
  | .n l k r, v, h => by
    obtain ⟨a, fl, fr, e, h, h1, h2⟩ := h
    exact ⟨a, fl, fr, e, s _ _ h, h1.keep s, h2.keep s⟩
theorem BareAt.but {H H' : Hp} {x : Addr} (n : ∀ xs, H x ≠ some (.tup xs)) (s : But x H H') : ∀ {t : Tr} {v : V}, BareAt H t v → BareAt H' t v
  | .e, v, h => by
    obtain ⟨a, e, h⟩ := h
    exact ⟨a, e, s _ _ (fun z => n _ (by rw [← z]; exact h)) h⟩
  | .n l k r, v, h => by
    obtain ⟨a, fl, fr, e, h, h1, h2⟩ := h
    exact ⟨a, fl, fr, e, s _ _ (fun z => n _ (by rw [← z]; exact h)) h, h1.but n s, h2.but n s⟩
theorem BareAt.lab {H : Hp} : ∀ {t : Tr} {v : V} (s : Int), BareAt H t v → BareAt H (t.lab s) v
  | .e, v, _, h => h
  | .n l k r, v, s, h => by
    obtain ⟨a, fl, fr, e, h, h1, h2⟩ := h
    exact ⟨a, fl, fr, e, h, h1.lab _, h2.lab _⟩
def bareD : Tr → PyData
  | .e => .tuple []
  | .n l _ r => .tuple [bareD l, bareD r]
def formD : Tr → PyData
  | .e => .tuple []
  | .n l k r => .tuple [formD l, .int k, formD r]
theorem bare_dp {K : PySem.W.Frag} {H : Hp} : ∀ {t : Tr} {v : V}, BareAt H t v → Dp K H v (bareD t)
  | .e, v, ⟨a, e1, e2⟩ => by subst e1; exact .tup (SqT.of e2) .nil
  | .n l k r, v, ⟨a, x, y, e1, e2, e3, e4⟩ => by subst e1; exact .tup (SqT.of e2) (.cons (bare_dp e3) (.cons (bare_dp e4) .nil))
theorem form_dp {K : PySem.W.Frag} {H : Hp} : ∀ {t : Tr} {v : V}, FmAt H t v → Dp K H v (formD t)
  | .e, v, ⟨a, e1, e2⟩ => by subst e1; exact .tup (SqT.of e2) .nil
  | .n l k r, v, ⟨a, x, y, e1, e2, e3, e4⟩ => by subst e1; exact .tup (SqT.of e2) (.cons (form_dp e3) (.cons (.int _) (.cons (form_dp e4) .nil)))
theorem bare_lay : ∀ s : Tr, (bareD s).canLay0 = true
  | .e => by simp [bareD, PyData.canLay0, PyData.canLayAll0]
  | .n l k r => by simp [bareD, PyData.canLay0, PyData.canLayAll0, bare_lay l, bare_lay r]
theorem form_lay : ∀ s : Tr, (formD s).canLay0 = true
  | .e => by simp [formD, PyData.canLay0, PyData.canLayAll0]
  | .n l k r => by simp [formD, PyData.canLay0, PyData.canLayAll0, form_lay l, form_lay r]
theorem bare_depth : ∀ s : Tr, (bareD s).depth ≤ s.height + 1
  | .e => by simp [bareD, PyData.depth, PyData.depthAll]
  | .n l k r => by
    have := bare_depth l
    have := bare_depth r
    simp only [bareD, PyData.depth, PyData.depthAll, Tr.height]
    split <;> omega
theorem form_depth : ∀ s : Tr, (formD s).depth ≤ s.height + 1
  | .e => by simp [formD, PyData.depth, PyData.depthAll]
  | .n l k r => by
    have := form_depth l
    have := form_depth r
    simp only [formD, PyData.depth, PyData.depthAll, Tr.height]
    split <;> omega
theorem bare_shaped {s : Tr} (h : s.height ≤ 60) : SeqAt.shaped (bareD s) = true := by
  unfold SeqAt.shaped
  rw [Bool.and_eq_true]
  have := bare_depth s
  exact ⟨bare_lay s, decide_eq_true (by omega)⟩
theorem form_shaped {s : Tr} (h : s.height ≤ 60) : SeqAt.shaped (formD s) = true := by
  unfold SeqAt.shaped
  rw [Bool.and_eq_true]
  have := form_depth s
  exact ⟨form_lay s, decide_eq_true (by omega)⟩
theorem bare_eq : ∀ s : Tr, PyData.eqv (bareD s) (bareD s) = true
  | .e => by simp [bareD, PyData.eqv, PyData.eqvAll]
  | .n l k r => by simp [bareD, PyData.eqv, PyData.eqvAll, bare_eq l, bare_eq r]
theorem form_eq : ∀ s : Tr, PyData.eqv (formD s) (formD s) = true
  | .e => by simp [formD, PyData.eqv, PyData.eqvAll]
  | .n l k r => by simp [formD, PyData.eqv, PyData.eqvAll, form_eq l, form_eq r]
theorem bare_e (s : Tr) : PyData.eqv (bareD s) (.tuple []) = s.isE := by
  cases s <;> simp [bareD, PyData.eqv, PyData.eqvAll, Tr.isE]
theorem form_e (s : Tr) : PyData.eqv (formD s) (.tuple []) = s.isE := by
  cases s <;> simp [formD, PyData.eqv, PyData.eqvAll, Tr.isE]
theorem nil_shaped : SeqAt.shaped (.tuple []) = true := by decide +kernel
end Ev
set_option maxHeartbeats 1000000
namespace Ev
open PySem L2 PySem.Spec PyProof.Rows RZ
/-! The law's bare shapes: measured, a leaf taken. -/
def spLBare (d : Nat) : Sp := fun vs H Q _ => ∃ (v : V) (t : Tr), vs = [v] ∧ FmAt H t v ∧ t.height ≤ d ∧ d ≤ 60 ∧ ∀ v' H', Same H H' → BareAt H' t v' → Q v' H'
def spLWt (d : Nat) : Sp := fun vs H Q _ => ∃ (v : V) (t : Tr), vs = [v] ∧ BareAt H t v ∧ t.height ≤ d ∧ d ≤ 60 ∧ ∀ H', Same H H' → Q (.int t.w) H'
def spLeafOff (d : Nat) : Sp := fun vs H Q _ => ∃ (v : V) (t : Tr), vs = [v] ∧ BareAt H t v ∧ t.height ≤ d ∧ d ≤ 15 ∧ t.isE = false ∧ ∀ (a : Addr) (v' : V) H', Same H H' → H' a = some (.tup [v', .int t.rmA]) → BareAt H' t.rmT v' → Q (.ref a) H'
theorem j3_0 {a b c : V} : atI [a, b, c] 0 = some a := atI_nat (j := 0) rfl
theorem j3_2 {a b c : V} : atI [a, b, c] 2 = some c := atI_nat (j := 2) rfl
theorem j2_0 {a b : V} : atI [a, b] 0 = some a := atI_nat (j := 0) rfl
theorem j2_1 {a b : V} : atI [a, b] 1 = some b := atI_nat (j := 1) rfl
theorem Tr.ht_n {l r : Tr} {k : Int} {d : Nat} (h : (Tr.n l k r).height ≤ d + 1) : l.height ≤ d ∧ r.height ≤ d := by
  simp only [Tr.height] at h
  split at h <;> omega
theorem pe_never {X : Cx} {e : Expr} : PE X e (fun _ _ _ => False) := ⟨fun _ _ _ _ _ _ h => h.elim⟩
section
variable {P : Program} {w : World} {K : PySem.W.Frag} {mg : Str → Option Value} {base : Heap}
theorem scLBare : FnScope ["_law_layout_so"] ["_law_layout_so"] (defScope sLBare) := ⟨rfl, rfl, rfl, by decide +kernel, rfl, by decide +kernel, by decide +kernel⟩
theorem ok_lbare {f : Addr} {fd : FuncData} (F : Fun K "_law_bare" "_law_bare" sLBare f fd) (gS : mg "_law_bare" = some (.ref f)) (bS : Binds K fd ["_law_layout_so"] []) : ∀ d : Nat, FnOk P w K mg base CX0 (1 + d) f fd ["_law_layout_so"] (spLBare d)
  | 0 => by
    refine F.ok scLBare (fun vs H Q E h => ?_) (fun cdv A outer s H vs Q E hr h => ?_)
    · obtain ⟨v, t, rfl, _⟩ := h
      rfl
    · obtain ⟨v, t, rfl, hv, ht, _, kk⟩ := h
      refine ⟨_, (pss_one (ps_ret (pe_ifExp (pt_cmpR (op_eqD hr.units) (pv 0) (pe_tup pa_nil) (nomark _)) (pe_tup pa_nil) pe_never))), ?_⟩
      have te : t = .e := by
        cases t with
        | e => rfl
        | n l k r =>
          simp only [Tr.height] at ht
          omega
      subst te
      refine ⟨_, rfl, (by show 0 ≤ sizeLine; decide), fun t0 nt => ?_⟩
      refine ⟨_, _, form_dp (hv.keep (same_new nt)), .tup (SqT.of upd_same) .nil, form_shaped (by show 0 ≤ 60; omega), nil_shaped, ?_⟩
      rw [form_e]
      exact ⟨_, rfl, iteT ⟨(by show 0 ≤ sizeLine; decide), fun a na => kk _ _ ((same_new nt).trans (same_new na)) ⟨a, rfl, upd_same⟩⟩⟩
  | d + 1 => by
    have GS := ok_lbare F gS bS d
    refine F.ok scLBare (fun vs H Q E h => ?_) (fun cdv A outer s H vs Q E hr h => ?_)
    · obtain ⟨v, t, rfl, _⟩ := h
      rfl
    · obtain ⟨v, t, rfl, hv, ht, d6, kk⟩ := h
      refine ⟨_, (pss_one (ps_ret (pe_ifExp (pt_cmpR (op_eqD hr.units) (pv 0) (pe_tup pa_nil) (nomark _)) (pe_tup pa_nil) (pe_tup (pa_cons (pe_call GS hr (by rfl) gS F.kp bS .nil pass0 (pa_cons (pe_ix ix_tup (pv 0) pe_int (fun _ _ => rfl)) pa_nil)) (pa_cons (pe_call GS hr (by rfl) gS F.kp bS .nil pass0 (pa_cons (pe_ix ix_tup (pv 0) pe_int (fun _ _ => rfl)) pa_nil)) pa_nil)))))), ?_⟩
      refine ⟨_, rfl, (by show 0 ≤ sizeLine; decide), fun t0 nt => ?_⟩
      have s1 : Same H (upd H t0 (.tup [])) := same_new nt
      refine ⟨_, _, form_dp (hv.keep s1), .tup (SqT.of upd_same) .nil, form_shaped (by omega), nil_shaped, ?_⟩
      rw [form_e]
      generalize upd H t0 (.tup []) = H1 at s1 ⊢
      cases t with
      | e => exact ⟨_, rfl, iteT ⟨(by show 0 ≤ sizeLine; decide), fun a na => kk _ _ (s1.trans (same_new na)) ⟨a, rfl, upd_same⟩⟩⟩
      | n l k r =>
        obtain ⟨a, fl, fr, rfl, ha, hl, hr'⟩ := hv
        obtain ⟨d1, d2⟩ := Tr.ht_n ht
        refine ⟨_, rfl, iteF ⟨_, rfl, a, _, 0, _, rfl, rfl, SqT.of (s1 _ _ ha), j3_0, fl, l, rfl, hl.keep s1, d1, by omega, fun vl H2 s2 h2 => ?_⟩⟩
        have s12 := s1.trans s2
        refine ⟨_, rfl, a, _, 2, _, rfl, rfl, SqT.of (s12 _ _ ha), j3_2, fr, r, rfl, hr'.keep s12, d2, by omega, fun vr H3 s3 h3 => ?_⟩
        refine ⟨(by show 2 ≤ sizeLine; decide), fun b nb => kk _ _ ((s12.trans s3).trans (same_new nb)) ⟨b, vl, vr, rfl, upd_same, (h2.keep s3).keep (same_new nb), h3.keep (same_new nb)⟩⟩
theorem scLWeightOf : FnScope ["_law_tree_so"] ["_law_tree_so"] (defScope sLWeightOf) := ⟨rfl, rfl, rfl, by decide +kernel, rfl, by decide +kernel, by decide +kernel⟩
theorem ok_lwt {f : Addr} {fd : FuncData} (F : Fun K "_law_weight_of" "_law_weight_of" sLWeightOf f fd) (gS : mg "_law_weight_of" = some (.ref f)) (bS : Binds K fd ["_law_tree_so"] []) : ∀ d : Nat, FnOk P w K mg base CX0 (1 + d) f fd ["_law_tree_so"] (spLWt d)
  | 0 => by
    refine F.ok scLWeightOf (fun vs H Q E h => ?_) (fun cdv A outer s H vs Q E hr h => ?_)
    · obtain ⟨v, t, rfl, _⟩ := h
      rfl
    · obtain ⟨v, t, rfl, hv, ht, _, kk⟩ := h
      refine ⟨_, (pss_one (ps_ret (pe_ifExp (pt_cmpR (op_eqD hr.units) (pv 0) (pe_tup pa_nil) (nomark _)) pe_int pe_never))), ?_⟩
      have te : t = .e := by
        cases t with
        | e => rfl
        | n l k r =>
          simp only [Tr.height] at ht
          omega
      subst te
      refine ⟨_, rfl, (by show 0 ≤ sizeLine; decide), fun t0 nt => ?_⟩
      refine ⟨_, _, bare_dp (hv.keep (same_new nt)), .tup (SqT.of upd_same) .nil, bare_shaped (by show 0 ≤ 60; omega), nil_shaped, ?_⟩
      rw [bare_e]
      exact ⟨_, rfl, iteT (kk _ (same_new nt))⟩
  | d + 1 => by
    have GS := ok_lwt F gS bS d
    refine F.ok scLWeightOf (fun vs H Q E h => ?_) (fun cdv A outer s H vs Q E hr h => ?_)
    · obtain ⟨v, t, rfl, _⟩ := h
      rfl
    · obtain ⟨v, t, rfl, hv, ht, d6, kk⟩ := h
      refine ⟨_, (pss_one (ps_ret (pe_ifExp (pt_cmpR (op_eqD hr.units) (pv 0) (pe_tup pa_nil) (nomark _)) pe_int (pe_op op_add (pe_call GS hr (by rfl) gS F.kp bS .nil pass0 (pa_cons (pe_ix ix_tup (pv 0) pe_int (fun _ _ => rfl)) pa_nil)) (pe_call GS hr (by rfl) gS F.kp bS .nil pass0 (pa_cons (pe_ix ix_tup (pv 0) pe_int (fun _ _ => rfl)) pa_nil)))))), ?_⟩
      refine ⟨_, rfl, (by show 0 ≤ sizeLine; decide), fun t0 nt => ?_⟩
      have s1 : Same H (upd H t0 (.tup [])) := same_new nt
      refine ⟨_, _, bare_dp (hv.keep s1), .tup (SqT.of upd_same) .nil, bare_shaped (by omega), nil_shaped, ?_⟩
      rw [bare_e]
      generalize upd H t0 (.tup []) = H1 at s1 ⊢
      cases t with
      | e => exact ⟨_, rfl, iteT (kk _ s1)⟩
      | n l k r =>
        obtain ⟨a, fl, fr, rfl, ha, hl, hr'⟩ := hv
        obtain ⟨d1, d2⟩ := Tr.ht_n ht
        refine ⟨_, rfl, iteF ⟨_, rfl, a, _, 0, _, rfl, rfl, SqT.of (s1 _ _ ha), j2_0, fl, l, rfl, hl.keep s1, d1, by omega, fun H2 s2 => ?_⟩⟩
        have s12 := s1.trans s2
        exact ⟨_, rfl, a, _, 1, _, rfl, rfl, SqT.of (s12 _ _ ha), j2_1, fr, r, rfl, hr'.keep s12, d2, by omega, fun H3 s3 => ⟨_, _, rfl, rfl, kk _ (s12.trans s3)⟩⟩
theorem scLWithoutLeaf : FnScope ["_law_tree_so", "_law_left", "_law_right_here", "_law_side", "_law_at"] ["_law_tree_so"] (defScope sLWithoutLeaf) := ⟨rfl, rfl, rfl, by decide +kernel, rfl, by decide +kernel, by decide +kernel⟩
theorem ok_leafOff {f : Addr} {fd : FuncData} (F : Fun K "_law_without_leaf" "_law_without_leaf" sLWithoutLeaf f fd) (gS : mg "_law_without_leaf" = some (.ref f)) (bS : Binds K fd ["_law_tree_so"] []) (D1 : Df P w K mg base 16 "_law_weight_of" ["_law_tree_so"] (spLWt 15)) : ∀ d : Nat, FnOk P w K mg base CX0 (17 + d) f fd ["_law_tree_so"] (spLeafOff d)
  | 0 => by
    refine F.ok scLWithoutLeaf (fun vs H Q E h => ?_) (fun cdv A outer s H vs Q E hr h => ?_)
    · obtain ⟨v, t, rfl, _⟩ := h
      rfl
    · obtain ⟨v, t, rfl, hv, ht, d6, ne, kk⟩ := h
      exfalso
      cases t with
      | e => cases ne
      | n l k r =>
        simp only [Tr.height] at ht
        omega
  | d + 1 => by
    have GS := ok_leafOff F gS bS D1 d
    obtain ⟨f1, fd1, G1, g1, k1, b1⟩ := D1.ex
    refine F.ok scLWithoutLeaf (fun vs H Q E h => ?_) (fun cdv A outer s H vs Q E hr h => ?_)
    · obtain ⟨v, t, rfl, _⟩ := h
      rfl
    · obtain ⟨v, t, rfl, hv, ht, d6, ne, kk⟩ := h
      have hr1 : Room 16 _ := hr.mono (show 16 ≤ 17 + d by omega)
      cases t with
      | e => cases ne
      | n l k r =>
        obtain ⟨a, vl, vr, rfl, ha, hl, hr'⟩ := hv
        obtain ⟨d1, d2⟩ := Tr.ht_n ht
        have rmt : (Tr.n l k r).rmT = if (l.isE && r.isE) = true then .e else if r.w ≤ l.w then .n l.rmT k r else .n l k r.rmT := rfl
        have rma : (Tr.n l k r).rmA = if (l.isE && r.isE) = true then 0 else if r.w ≤ l.w then l.rmA else r.rmA + l.keys.length + 1 := rfl
        obtain ⟨tE, hE, qE⟩ : ∃ tt : TS, PSs (cxOf CX0 P w K mg base ["_law_tree_so", "_law_left", "_law_right_here", "_law_side", "_law_at"] "_law_without_leaf" (defScope sLWithoutLeaf) f cdv A outer s H E).nox ((defBody sLWithoutLeaf).drop 2) tt ∧
            ∀ H1, Same H H1 → ¬ (l.isE && r.isE) = true → tt { nx := fun _ H' => Q .non H', rt := Q } [some (.ref a), some vl, some vr, none, none] H1 := by
          refine ⟨_, (pss_cons (ps_if (pt_cmpR op_ge (pe_call G1 hr1 (by rfl) g1 k1 b1 .nil pass0 (pa_cons (pv 1) pa_nil)) (pe_call G1 hr1 (by rfl) g1 k1 b1 .nil pass0 (pa_cons (pv 2) pa_nil)) (nomark _))
      (pss_cons (ps_asg (pe_call GS hr (by rfl) gS F.kp bS .nil pass0 (pa_cons (pv 1) pa_nil)) (pg_tup (by rfl) (pgs_cons (pg_name (i := 3) scLWithoutLeaf.nd rfl (.inl rfl)) (pgs_cons (pg_name (i := 4) scLWithoutLeaf.nd rfl (.inl rfl)) pgs_nil))))
      (pss_one (ps_ret (pe_tup (pa_cons (pe_tup (pa_cons (pv 3) (pa_cons (pv 2) pa_nil))) (pa_cons (pv 4) pa_nil)))))) pss_nil)
    (pss_cons (ps_asg (pe_call GS hr (by rfl) gS F.kp bS .nil pass0 (pa_cons (pv 2) pa_nil)) (pg_tup (by rfl) (pgs_cons (pg_name (i := 3) scLWithoutLeaf.nd rfl (.inl rfl)) (pgs_cons (pg_name (i := 4) scLWithoutLeaf.nd rfl (.inl rfl)) pgs_nil))))
    (pss_one (ps_ret (pe_tup (pa_cons (pe_tup (pa_cons (pv 1) (pa_cons (pv 3) pa_nil))) (pa_cons (pe_op op_add (pv 4) (pe_call G1 hr1 (by rfl) g1 k1 b1 .nil pass0 (pa_cons (pv 1) pa_nil))) pa_nil))))))), fun H1 s1 nz => ?_⟩
          obtain ⟨e1, e2⟩ := Tr.rm_side nz
          rw [if_neg nz] at rmt rma
          refine ⟨_, rfl, vl, l, rfl, hl.keep s1, by omega, by omega, fun H2 s2 => ?_⟩
          have s12 := s1.trans s2
          refine ⟨_, rfl, vr, r, rfl, hr'.keep s12, by omega, by omega, fun H3 s3 => ?_⟩
          have s13 := s12.trans s3
          refine ⟨_, _, rfl, rfl, _, rfl, ite2 (fun z => ?_) (fun z => ?_)⟩
          · have z : r.w ≤ l.w := of_decide_eq_true z
            rw [if_pos z] at rmt rma
            refine ⟨_, rfl, vl, l, rfl, hl.keep s13, d1, by omega, e1 z, fun b v' H4 s4 h4 hb => ?_⟩
            have s14 := s13.trans s4
            refine ⟨b, _, rfl, SqT.of h4, rfl, _, _, rfl, _, _, rfl, rfl, ?_⟩
            refine ⟨_, rfl, _, rfl, (by show 2 ≤ sizeLine; decide), fun t5 n5 => ?_⟩
            have s5 := same_new (o := .tup [v', vr]) n5
            have h5 : upd H4 t5 (.tup [v', vr]) t5 = some (.tup [v', vr]) := upd_same
            generalize upd H4 t5 (.tup [v', vr]) = H5 at s5 h5 ⊢
            refine ⟨_, rfl, (by show 2 ≤ sizeLine; decide), fun t6 n6 => ?_⟩
            have s6 := s5.trans (same_new (o := .tup [.ref t5, .int l.rmA]) n6)
            refine kk t6 (.ref t5) _ (s14.trans s6) (by rw [rma]; exact upd_same) ?_
            rw [rmt]
            exact ⟨t5, v', vr, rfl, same_new n6 _ _ h5, hb.keep s6, hr'.keep (s14.trans s6)⟩
          · have z : ¬ r.w ≤ l.w := fun y => z (decide_eq_true y)
            rw [if_neg z] at rmt rma
            refine ⟨_, rfl, vr, r, rfl, hr'.keep s13, d2, by omega, e2 z, fun b v' H4 s4 h4 hb => ?_⟩
            have s14 := s13.trans s4
            refine ⟨b, _, rfl, SqT.of h4, rfl, _, _, rfl, _, _, rfl, rfl, ?_⟩
            refine ⟨_, rfl, _, rfl, (by show 2 ≤ sizeLine; decide), fun t5 n5 => ?_⟩
            have s5 := same_new (o := .tup [vl, v']) n5
            have h5 : upd H4 t5 (.tup [vl, v']) t5 = some (.tup [vl, v']) := upd_same
            generalize upd H4 t5 (.tup [vl, v']) = H5 at s5 h5 ⊢
            refine ⟨_, rfl, _, rfl, vl, l, rfl, hl.keep (s14.trans s5), by omega, by omega, fun H6 s6 => ?_⟩
            refine ⟨_, _, rfl, rfl, (by show 2 ≤ sizeLine; decide), fun t7 n7 => ?_⟩
            have lw := Tr.w_keys l
            have ew : ((r.rmA : Nat) : Int) + l.w = ((r.rmA + l.keys.length + 1 : Nat) : Int) := by omega
            dsimp only
            rw [ew]
            have s7 := s6.trans (same_new (o := .tup [.ref t5, .int ((r.rmA + l.keys.length + 1 : Nat) : Int)]) n7)
            refine kk t7 (.ref t5) _ ((s14.trans s5).trans s7) (by rw [rma]; exact upd_same) ?_
            rw [rmt]
            exact ⟨t5, vl, v', rfl, s7 _ _ h5, hl.keep ((s14.trans s5).trans s7), hb.keep (s5.trans s7)⟩
        refine ⟨_, (pss_cons (ps_asg (pv 0) (pg_tup (by rfl) (pgs_cons (pg_name (i := 1) scLWithoutLeaf.nd rfl (.inl rfl)) (pgs_cons (pg_name (i := 2) scLWithoutLeaf.nd rfl (.inl rfl)) pgs_nil))))
    (pss_cons (ps_if (PW.pt (pw_and (pt_cmpR (op_eqD hr.units) (pv 1) (pe_tup pa_nil) (nomark _)) (pw_and1 (pt_cmpR (op_eqD hr.units) (pv 2) (pe_tup pa_nil) (nomark _)))))
      (pss_one (ps_ret (pe_tup (pa_cons (pe_tup pa_nil) (pa_cons pe_int pa_nil))))) pss_nil) hE)), ?_⟩
        refine ⟨_, rfl, a, _, rfl, SqT.of ha, rfl, _, _, rfl, _, _, rfl, rfl, ?_⟩
        refine ⟨_, rfl, (by show 0 ≤ sizeLine; decide), fun t0 nt => ?_⟩
        have s1 : Same H (upd H t0 (.tup [])) := same_new nt
        refine ⟨_, _, bare_dp (hl.keep s1), .tup (SqT.of upd_same) .nil, bare_shaped (by omega), nil_shaped, ?_⟩
        rw [bare_e]
        generalize upd H t0 (.tup []) = H1 at s1 ⊢
        refine ⟨_, rfl, ?_⟩
        cases zl : l.isE with
        | false => exact iteF (iteF (qE H1 s1 (by rw [zl]; exact Bool.false_ne_true)))
        | true =>
          refine iteT ⟨_, rfl, (by show 0 ≤ sizeLine; decide), fun t2 n2 => ?_⟩
          have s2 : Same H (upd H1 t2 (.tup [])) := s1.trans (same_new n2)
          refine ⟨_, _, bare_dp (hr'.keep s2), .tup (SqT.of upd_same) .nil, bare_shaped (by omega), nil_shaped, ?_⟩
          rw [bare_e]
          generalize upd H1 t2 (.tup []) = H2 at s2 ⊢
          refine ⟨_, rfl, ?_⟩
          cases zr : r.isE with
          | false => exact iteF (qE H2 s2 (by rw [zl, zr]; exact Bool.false_ne_true))
          | true =>
            rw [if_pos (show (l.isE && r.isE) = true by rw [zl, zr]; rfl)] at rmt rma
            refine iteT ⟨(by show 0 ≤ sizeLine; decide), fun t5 n5 => ?_⟩
            have s5 := s2.trans (same_new (o := .tup []) n5)
            have h5 : upd H2 t5 (.tup []) t5 = some (.tup []) := upd_same
            generalize upd H2 t5 (.tup []) = H5 at s5 h5 ⊢
            refine ⟨(by show 2 ≤ sizeLine; decide), fun t6 n6 => ?_⟩
            refine kk t6 (.ref t5) _ (s5.trans (same_new n6)) (by rw [rma]; exact upd_same) ?_
            rw [rmt]
            exact ⟨t5, rfl, same_new n6 _ _ h5⟩
end
end Ev
set_option maxHeartbeats 1000000
namespace Ev
open PySem L2 PySem.Spec PyProof.Rows RZ
/-! In which order the law puts. -/
/-- the places of the leaves taken, the last taken first -/
def fndL : Nat → Tr → List Int
  | 0, _ => []
  | m + 1, t => (t.rmN m).rmK / 10 :: fndL m t
theorem fndL_len (t : Tr) : ∀ m, (fndL m t).length = m
  | 0 => rfl
  | m + 1 => congrArg (· + 1) (fndL_len t m)
theorem fndL_at (t : Tr) : ∀ (m i : Nat), i < m → (fndL m t)[i]? = some ((t.rmN (m - 1 - i)).rmK / 10)
  | 0, i, h => absurd h (Nat.not_lt_zero _)
  | m + 1, 0, _ => by
    show some _ = some _
    rw [Nat.sub_zero, Nat.add_sub_cancel]
  | m + 1, i + 1, h => by
    show (fndL m t)[i]? = _
    rw [fndL_at t m i (by omega)]
    rw [show m + 1 - 1 - (i + 1) = m - 1 - i by omega]
theorem erase_mid {α : Type} (x : α) (bs : List α) : ∀ as : List α, (as ++ x :: bs).eraseIdx as.length = as ++ bs
  | [] => rfl
  | a :: as => congrArg (a :: ·) (erase_mid x bs as)
theorem at_mid {α : Type} (x : α) (bs : List α) (as : List α) : (as ++ x :: bs)[as.length]? = some x := by
  rw [List.getElem?_append_right (Nat.le_refl _), Nat.sub_self]
  rfl
theorem seqI_nat {k n : Nat} (h : k < n) : seqIndex? (k : Int) n = some k := by
  have h1 : ¬ ((k : Int) < 0) := by omega
  have h2 : ((k : Int) < (n : Int)) := by omega
  have h3 : (0 : Int) ≤ (k : Int) := by omega
  simp [seqIndex?, h1, h2, h3]
def intsD (ns : List Int) : PyData := .list (ns.map PyData.int)
theorem ints_all {K : PySem.W.Frag} {H : Hp} : ∀ ns : List Int, DpAll K H (ns.map V.int) (ns.map PyData.int)
  | [] => .nil
  | n :: ns => .cons (.int n) (ints_all ns)
theorem ints_lay : ∀ ns : List Int, PyData.canLayAll0 (ns.map PyData.int) = true
  | [] => by simp [PyData.canLayAll0]
  | n :: ns => by simp [PyData.canLayAll0, PyData.canLay0, ints_lay ns]
theorem ints_depth : ∀ ns : List Int, PyData.depthAll (ns.map PyData.int) ≤ 1
  | [] => by simp [PyData.depthAll]
  | n :: ns => by
    have := ints_depth ns
    simp only [List.map_cons, PyData.depthAll, PyData.depth]
    omega
theorem ints_shaped (ns : List Int) : SeqAt.shaped (intsD ns) = true := by
  unfold SeqAt.shaped
  rw [Bool.and_eq_true]
  have := ints_depth ns
  refine ⟨?_, decide_eq_true ?_⟩
  · simp [intsD, PyData.canLay0, ints_lay]
  · simp only [intsD, PyData.depth]
    omega
theorem ints_eqAll : ∀ ns : List Int, PyData.eqvAll (ns.map PyData.int) (ns.map PyData.int) = true
  | [] => by simp [PyData.eqvAll]
  | n :: ns => by simp [PyData.eqvAll, PyData.eqv, ints_eqAll ns]
theorem ints_eq (ns : List Int) : PyData.eqv (intsD ns) (intsD ns) = true := by simp [intsD, PyData.eqv, ints_eqAll]
theorem ints_e (ns : List Int) : PyData.eqv (intsD ns) (intsD []) = ns.isEmpty := by
  cases ns <;> simp [intsD, PyData.eqv, PyData.eqvAll]
def spOrder : Sp := fun vs H Q _ => ∃ (v : V) (t : Tr), vs = [v] ∧ BareAt H t v ∧ t.keys.length ≤ 14 ∧ t.keys = (List.range t.keys.length).map (fun i : Nat => 10 * (0 + (i : Int))) ∧ ∀ l H', Same H H' → H' l = some (.lst ((fndL t.keys.length t).map .int)) → Q (.ref l) H'
section
variable {P : Program} {w : World} {K : PySem.W.Frag} {mg : Str → Option Value} {base : Heap}
theorem scLPutOrder : FnScope ["_law_tree_so", "_law_left", "_law_found", "_law_at"] ["_law_tree_so"] (defScope sLPutOrder) := ⟨rfl, rfl, rfl, by decide +kernel, rfl, by decide +kernel, by decide +kernel⟩
theorem ok_order {f : Addr} {fd : FuncData} (F : Fun K "_law_put_order" "_law_put_order" sLPutOrder f fd) (T : Blt mg) (D1 : Df P w K mg base 16 "_law_weight_of" ["_law_tree_so"] (spLWt 15)) (D2 : Df P w K mg base 32 "_law_without_leaf" ["_law_tree_so"] (spLeafOff 15)) : FnOk P w K mg base CX0 33 f fd ["_law_tree_so"] spOrder := by
  obtain ⟨f1, fd1, G1, g1, k1, b1⟩ := D1.ex
  obtain ⟨f2, fd2, G2, g2, k2, b2⟩ := D2.ex
  refine F.ok scLPutOrder (fun vs H Q E h => ?_) (fun cdv A outer s H vs Q E hr h => ?_)
  · obtain ⟨v, t, rfl, _⟩ := h
    rfl
  · obtain ⟨v, t, rfl, hv, len, hk, kk⟩ := h
    refine ⟨_, (pss_cons (ps_set (i := 1) scLPutOrder.nd rfl (.inl rfl) (pe_listRg rfl (by rfl) T.list (prg_1 (by rfl) T.range (pe_op op_sub (pe_call G1 (hr.mono (by decide)) (by rfl) g1 k1 b1 .nil pass0 (pa_cons (pv 0) pa_nil)) pe_int))))
    (pss_cons (ps_set (i := 2) scLPutOrder.nd rfl (.inl rfl) (pe_lst pa_nil))
    (pss_cons (ps_while PassesOwn.never (pt_cmpR (op_neD hr.units) (pv 1) (pe_lst pa_nil) (nomark _))
      (pss_cons (ps_asg (pe_call G2 hr (by rfl) g2 k2 b2 .nil pass0 (pa_cons (pv 0) pa_nil)) (pg_tup (by rfl) (pgs_cons (pg_name (i := 0) scLPutOrder.nd rfl (.inl rfl)) (pgs_cons (pg_name (i := 3) scLPutOrder.nd rfl (.inl rfl)) pgs_nil))))
      (pss_one (ps_set (i := 2) scLPutOrder.nd rfl (.inl rfl) (pe_op op_cat (pe_lst (pa_cons (pe_bm PySem.F.plainAttrs_list PySem.F.slot_list_pop PySem.F.type_list_pop mt_popAt (pv 1) (pa_cons (pv 3) pa_nil)) pa_nil)) (pv 2))))))
    (pss_one (ps_ret (pv 2)))))), ?_⟩
    have hh : t.height ≤ 15 := Nat.le_trans t.height_le (by omega)
    refine ⟨_, rfl, v, t, rfl, hv, hh, by decide, fun H1 s1 => ?_⟩
    have hw : t.w - 1 = (t.keys.length : Int) := by rw [Tr.w_keys]; omega
    refine ⟨_, _, rfl, rfl, _, rfl, RgOk.of_le (by decide) (by rw [hw]; omega) (by decide) (by rw [hw]; omega), fun ll nl => ?_⟩
    have hB := hv.keep s1
    have eL : rgV 0 (t.w - 1) = ((t.rmN 0).keys.map fun k => k / 10).map V.int := by
      show rgV 0 (t.w - 1) = (t.keys.map fun k => k / 10).map V.int
      rw [hw]
      unfold rgV
      rw [hk, List.map_map, List.map_map, List.length_map, List.length_range, Int.sub_zero, Int.toNat_natCast]
      refine List.map_congr_left fun i _ => ?_
      simp only [Function.comp]
      congr 1
      omega
    rw [eL]
    have nl0 : H ll = none := by
      rcases e9 : H ll with _ | o
      · rfl
      · rw [s1 _ _ e9] at nl
        cases nl
    have s2 := s1.trans (same_new (o := .lst (((t.rmN 0).keys.map fun k => k / 10).map V.int)) nl)
    have h2 : upd H1 ll (.lst (((t.rmN 0).keys.map fun k => k / 10).map V.int)) ll = some (.lst (((t.rmN 0).keys.map fun k => k / 10).map V.int)) := upd_same
    have hB2 := hB.keep (same_new (o := .lst (((t.rmN 0).keys.map fun k => k / 10).map V.int)) nl)
    generalize upd H1 ll (.lst (((t.rmN 0).keys.map fun k => k / 10).map V.int)) = H2 at s2 h2 hB2 ⊢
    refine ⟨(by show 0 ≤ sizeLine; decide), fun lf nf => ?_⟩
    have s3 := same_new (o := .lst []) nf
    have h3 : upd H2 lf (.lst []) lf = some (.lst ((fndL 0 t).map V.int)) := upd_same
    generalize upd H2 lf (.lst []) = H3 at s3 h3 ⊢
    refine ⟨fun m σ G => ∃ (j : Nat) (v' : V) (lf' : Addr) (z : Option V), m = t.keys.length - j ∧ j ≤ t.keys.length ∧ σ = [some v', some (.ref ll), some (.ref lf'), z] ∧ Same H G ∧ G ll = some (.lst (((t.rmN j).keys.map fun k => k / 10).map V.int)) ∧ G lf' = some (.lst ((fndL j t).map V.int)) ∧ lf' ≠ ll ∧ BareAt G (t.rmN j) v',
      ⟨_, 0, v, lf, none, rfl, Nat.zero_le _, rfl, s2.trans s3, s3 _ _ h2, h3, (ne_of_none h2 nf).symm, hB2.keep s3⟩, fun m σ G hW => ?_⟩
    obtain ⟨j, v', lf', z, rfl, hj, rfl, sg, hll, hlf, hne, hb⟩ := hW
    refine ⟨_, rfl, (by show 0 ≤ sizeLine; decide), fun l0 n0 => ?_⟩
    have s4 := same_new (o := .lst []) n0
    have h4 : upd G l0 (.lst []) l0 = some (.lst (([] : List Int).map V.int)) := upd_same
    generalize upd G l0 (.lst []) = G1 at s4 h4 ⊢
    have sg1 := sg.trans s4
    have hll1 := s4 _ _ hll
    have hlf1 := s4 _ _ hlf
    refine ⟨intsD ((t.rmN j).keys.map fun k => k / 10), intsD [], .lst (SqL.of hll1) (ints_all _), .lst (SqL.of h4) (ints_all []), ints_shaped _, ints_shaped [], ?_⟩
    rw [ints_e]
    have lj := Tr.rmN_len t j hj
    rcases Nat.lt_or_ge j t.keys.length with jl | jg
    · have ne := Tr.rmN_ne jl
      have emp : ((t.rmN j).keys.map fun k => k / 10).isEmpty = false := by
        rw [List.isEmpty_eq_false_iff]
        intro z
        have := congrArg List.length z
        rw [List.length_map, List.length_nil] at this
        omega
      rw [emp]
      refine ⟨_, rfl, iteT ⟨fun σ' G' => ∃ (j' : Nat) (v' : V) (lf' : Addr) (z : Option V), t.keys.length - j' < t.keys.length - j ∧ j' ≤ t.keys.length ∧ σ' = [some v', some (.ref ll), some (.ref lf'), z] ∧ Same H G' ∧ G' ll = some (.lst (((t.rmN j').keys.map fun k => k / 10).map V.int)) ∧ G' lf' = some (.lst ((fndL j' t).map V.int)) ∧ lf' ≠ ll ∧ BareAt G' (t.rmN j') v',
        fun σ' G' h => by
          obtain ⟨j', v', lf', z, lt, h⟩ := h
          exact ⟨t.keys.length - j', lt, j', v', lf', z, rfl, h⟩, ?_⟩⟩
      have hj15 : (t.rmN j).height ≤ 15 := Nat.le_trans (Tr.height_le _) (by omega)
      refine ⟨_, rfl, v', t.rmN j, rfl, hb.keep s4, hj15, Nat.le_refl _, ne, fun b v2 G2 s5 h5 hb2 => ?_⟩
      refine ⟨b, _, rfl, SqT.of h5, rfl, _, _, rfl, _, _, rfl, rfl, ?_⟩
      have sg2 := sg1.trans s5
      have hll2 := s5 _ _ hll1
      have hlf2 := s5 _ _ hlf1
      obtain ⟨as, bs, e1, e2, e3⟩ := Tr.rm_keys _ ne
      have rl : (t.rmN j).rmA ≤ 14 := by
        have := congrArg List.length e1
        rw [List.length_append, List.length_cons] at this
        omega
      have ekj : ((t.rmN j).keys.map fun k => k / 10).map V.int = (as.map fun k => V.int (k / 10)) ++ V.int ((t.rmN j).rmK / 10) :: (bs.map fun k => V.int (k / 10)) := by
        rw [e1, List.map_map, List.map_append, List.map_cons]
        rfl
      have eks : ((t.rmN (j + 1)).keys.map fun k => k / 10).map V.int = (as.map fun k => V.int (k / 10)) ++ (bs.map fun k => V.int (k / 10)) := by
        show ((t.rmN j).rmT.keys.map fun k => k / 10).map V.int = _
        rw [e2, List.map_map, List.map_append]
        rfl
      have ela : (as.map fun k => V.int (k / 10)).length = (t.rmN j).rmA := by rw [List.length_map, e3]
      have sq : seqIndex? ((t.rmN j).rmA : Int) (((t.rmN j).keys.map fun k => k / 10).map V.int).length = some (t.rmN j).rmA := by
        have l1 : (t.rmN j).rmA < (((t.rmN j).keys.map fun k => k / 10).map V.int).length := by
          rw [ekj, List.length_append, List.length_cons, ela]
          omega
        exact seqI_nat l1
      refine ⟨_, rfl, .inl ⟨rfl, _, SqL.of hll2⟩, _, rfl, ll, _, _, _, V.int ((t.rmN j).rmK / 10), rfl, rfl, hll2, by omega, by omega, sq, by rw [ekj, ← ela]; exact at_mid _ _ _, ?_⟩
      have er : (((t.rmN j).keys.map fun k => k / 10).map V.int).eraseIdx (t.rmN j).rmA = ((t.rmN (j + 1)).keys.map fun k => k / 10).map V.int := by
        rw [ekj, eks, ← ela]
        exact erase_mid _ _ _
      rw [er]
      have u6 : But ll G2 (upd G2 ll (.lst (((t.rmN (j + 1)).keys.map fun k => k / 10).map V.int))) := But.upd_at
      have h6 : upd G2 ll (.lst (((t.rmN (j + 1)).keys.map fun k => k / 10).map V.int)) ll = some (.lst (((t.rmN (j + 1)).keys.map fun k => k / 10).map V.int)) := upd_same
      have hb6 := hb2.but (x := ll) (fun xs e => by rw [hll2] at e; cases e) u6
      generalize upd G2 ll (.lst (((t.rmN (j + 1)).keys.map fun k => k / 10).map V.int)) = G6 at u6 h6 hb6 ⊢
      have sg6 : Same H G6 := fun b o e => u6 _ _ (ne_of_none e nl0) (sg2 _ _ e)
      have hlf6 := u6 _ _ hne hlf2
      refine ⟨(by show 1 ≤ sizeLine; decide), fun l7 n7 => ?_⟩
      have s7 := same_new (o := .lst [V.int ((t.rmN j).rmK / 10)]) n7
      have h7 : upd G6 l7 (.lst [V.int ((t.rmN j).rmK / 10)]) l7 = some (.lst [V.int ((t.rmN j).rmK / 10)]) := upd_same
      generalize upd G6 l7 (.lst [V.int ((t.rmN j).rmK / 10)]) = G7 at s7 h7 ⊢
      refine ⟨_, rfl, l7, lf', _, _, rfl, rfl, h7, s7 _ _ hlf6, ?_, fun l8 n8 => ?_⟩
      · rw [List.length_map, fndL_len]
        exact Nat.le_trans (show _ ≤ 5000 by simp only [List.length_cons, List.length_nil]; omega) (by decide)
      have s8 := s7.trans (same_new (o := .lst ([V.int ((t.rmN j).rmK / 10)] ++ (fndL j t).map V.int)) n8)
      have hll8 := s8 _ _ h6
      refine ⟨j + 1, v2, l8, _, by omega, jl, rfl, sg6.trans s8, hll8, upd_same, ?_, hb6.keep s8⟩
      exact (ne_of_none (s7 _ _ h6) n8).symm
    · have jn : j = t.keys.length := by omega
      have emp : ((t.rmN j).keys.map fun k => k / 10).isEmpty = true := by
        rw [List.isEmpty_iff_length_eq_zero, List.length_map]
        omega
      rw [emp]
      subst jn
      exact ⟨_, rfl, iteF ⟨_, rfl, kk lf' G1 sg1 hlf1⟩⟩
end
end Ev
set_option maxHeartbeats 1000000
namespace Ev
open PySem L2 PySem.Spec PyProof.Rows RZ
/-! Drawn shapes. -/
def tEither (t1 t2 : TE) : TE := fun σ H Q => t1 σ H Q ∨ t2 σ H Q
theorem pe_either {X : Cx} {e : Expr} {t1 t2 : TE} (h1 : PE X e t1) (h2 : PE X e t2) : PE X e (tEither t1 t2) := ⟨fun pins s σ H Q I h => h.elim (h1.run pins s σ H Q I) (h2.run pins s σ H Q I)⟩
def tCallI (C : Addr) (sp : Sp) (E : XK) (tf : TE) (t : TA) : TE := fun σ H Q => tf σ H fun y H1 => ∃ a, y = V.ref a ∧ t σ H1 fun vs H2 => ((∃ dx vs, SlX.Slt H2 a C dx vs) ∨ ∃ dx fs, H2 a = some (.ins C dx fs)) ∧ sp (V.ref a :: vs) H2 Q E
theorem pe_callI {X : Cx} {CX : CXT} {k : Nat} {C g : Addr} {sp : Sp} {E : XK} {e fe : Expr} {es : List Expr} {tf : TE} {t : TA} {pos : Pos} (hf : PE X fe tf) (c : StX.CallO X.K C g) (F : FnR X.prog X.w X.K X.mg X.base CX k g sp) (hr : Room k X.A) (hx : Passes CX X E) (ha : PA X (e :: es) t)
    (ht : eval (.Call fe (e :: es) [] pos) X.env = (do callWith pos (← eval fe X.env) [] (backTo pos (starEach (e :: es) X.env)) (backToKw pos (keywordEach [] X.env))) := by rfl)
    (he : starEach (e :: es) X.env = (false, eval e X.env) :: starEach es X.env := by rfl) (hpl : (backTo pos (starEach es X.env)).any (·.1) = false := by rfl) : PE X (.Call fe (e :: es) [] pos) (tCallI C sp E tf t) :=
  StX.pe_callO hf c F hr hx ha ht he hpl
def spCall (K : PySem.W.Frag) : Sp := fun vs H Q _ => ∃ (r : Addr) (p q k x y : Int), vs = [.ref r, .int x, .int y] ∧ RB K H r p q k ∧ (1 ≤ x ∧ x ≤ 10 ^ 60) ∧ (1 ≤ y ∧ y ≤ 10 ^ 60) ∧ Q (.bl (fairB p q k x y)) H
/-- the sides that are fair -/
def sidesN (p q k : Int) (n m : Nat) : List Nat := (List.range m).filter fun i => fairB p q k ((i : Int) + 1) ((n : Int) - (i : Int))
theorem sidesN_succ (p q k : Int) (n m : Nat) : sidesN p q k n (m + 1) = sidesN p q k n m ++ (if fairB p q k ((m : Int) + 1) ((n : Int) - (m : Int)) = true then [m] else []) := by
  unfold sidesN
  rw [List.range_succ, List.filter_append]
  congr 1
  rw [List.filter_cons]
  split <;> rfl
theorem sidesN_len (p q k : Int) (n m : Nat) : (sidesN p q k n m).length ≤ m := by
  unfold sidesN
  refine Nat.le_trans (List.length_filter_le _ _) ?_
  rw [List.length_range]
  exact Nat.le_refl _
theorem half_fair {p q k : Int} (h1 : 1 ≤ q) (h2 : q ≤ p) (h3 : 2 * q ≤ p + k) {x y : Int} (hy : 1 ≤ y) (hx : x = y ∨ x = y + 1) : fairB p q k x y = true := by
  have e1 : (p - q) * 1 ≤ (p - q) * y := Int.mul_le_mul_of_nonneg_left hy (by omega)
  have e3 : (p - q) * y = p * y - q * y := Int.sub_mul ..
  have e4 : q * (y + 1) = q * y + q := by rw [Int.mul_add, Int.mul_one]
  have e5 : p * (y + 1) = p * y + p := by rw [Int.mul_add, Int.mul_one]
  unfold fairB
  rw [Bool.and_eq_true]
  rcases hx with rfl | rfl
  · exact ⟨decide_eq_true (by omega), decide_eq_true (by omega)⟩
  · exact ⟨decide_eq_true (by omega), decide_eq_true (by omega)⟩
theorem sidesN_ne {p q k : Int} (h1 : 1 ≤ q) (h2 : q ≤ p) (h3 : 2 * q ≤ p + k) {n : Nat} (hn : 1 ≤ n) : 1 ≤ (sidesN p q k n n).length := by
  have hm : n / 2 ∈ sidesN p q k n n := by
    unfold sidesN
    rw [List.mem_filter, List.mem_range]
    exact ⟨by omega, half_fair h1 h2 h3 (by omega) (by omega)⟩
  exact List.length_pos_iff.mpr (List.ne_nil_of_mem hm)
def spDrawn (Ct Cn : Addr) (d : Nat) : Sp := fun vs H Q _ => ∃ (p L r : Addr) (B : Int) (n : Nat) (row : Row), vs = [.ref p, .ref r, .int n] ∧ n ≤ d ∧ d ≤ 14 ∧ ObjAt Ct Cn H r row ∧ row.ok ∧ okN row.p row.q row.k ∧ B + n ≤ 900000 ∧ Pen L H p B ∧
  ∀ (v : V) (t : Tr) (H' : Hp), But p H H' → Pen L H' p (B + n) → BareAt H' t v → t.keys.length = n → t.fair row.p row.q row.k → Q v H'
section
variable {P : Program} {w : World} {K : PySem.W.Frag} {mg : Str → Option Value} {base : Heap}
theorem scCall : FnScope ["self", "x", "y"] ["self", "x", "y"] (defScope sWeightRule_call) := ⟨rfl, rfl, rfl, by decide +kernel, rfl, by decide +kernel, by decide +kernel⟩
theorem ok_call {f : Addr} {fd : FuncData} (F : Fun K "__call__" "WeightRule.__call__" sWeightRule_call f fd) (D : Df P w K mg base 3 "need_weight" ["value"] spNeedW) (D2 : Df P w K mg base 1 "are_fair" ["rule", "x", "y"] (spFair K)) : FnOk P w K mg base CX0 4 f fd ["self", "x", "y"] (spCall K) := by
  obtain ⟨f1, fd1, G1, g1, k1, b1⟩ := D.ex
  obtain ⟨f2, fd2, G2, g2, k2, b2⟩ := D2.ex
  refine F.ok scCall (fun vs H Q E h => ?_) (fun cdv A outer s H vs Q E hr h => ?_)
  · obtain ⟨r, p, q, k, x, y, rfl, _⟩ := h
    rfl
  · obtain ⟨r, p, q, k, x, y, rfl, R, hx, hy, kk⟩ := h
    refine ⟨_, pss_cons (ps_expr (pe_call G1 hr (by rfl) g1 k1 b1 .nil pass0 (pa_cons (pv 1) pa_nil)))
      (pss_cons (ps_expr (pe_call G1 hr (by rfl) g1 k1 b1 .nil pass0 (pa_cons (pv 2) pa_nil)))
      (pss_one (ps_ret (pe_call G2 (hr.mono (by decide)) (by rfl) g2 k2 b2 .nil pass0 (pa_cons (pv 0) (pa_cons (pv 1) (pa_cons (pv 2) pa_nil))))))), ?_⟩
    exact ⟨_, rfl, x, rfl, hx.1, hx.2, _, rfl, y, rfl, hy.1, hy.2, _, rfl, _, rfl, _, rfl, r, p, q, k, x, y, rfl, R, kk⟩
abbrev nDr : List Str := ["_law_pen_here", "_law_rule_so", "_law_keys", "_law_sides", "_law_left"]
theorem scLDrawn : FnScope nDr ["_law_pen_here", "_law_rule_so", "_law_keys"] (defScope sLDrawn) := ⟨rfl, rfl, rfl, by decide +kernel, rfl, by decide +kernel, by decide +kernel⟩
theorem ok_drawn {f fC Ct Cn : Addr} {fd : FuncData} (F : Fun K "_law_drawn" "_law_drawn" sLDrawn f fd) (T : Blt mg) (gS : mg "_law_drawn" = some (.ref f)) (bS : Binds K fd ["_law_pen_here", "_law_rule_so", "_law_keys"] [])
    (cT : StX.CallO K Ct fC) (cN : StX.CallO K Cn fC) (FC : FnR P w K mg base CX0 4 fC (spCall K)) (RT : RCls K Ct) (RN : RCls K Cn)
    (D1 : Df P w K mg base 2 "_law_pick" ["_law_pen_here", "_law_some"] spPick) : ∀ d : Nat, FnOk P w K mg base CX0 (5 + d) f fd ["_law_pen_here", "_law_rule_so", "_law_keys"] (spDrawn Ct Cn d)
  | 0 => by
    refine F.ok scLDrawn (fun vs H Q E h => ?_) (fun cdv A outer s H vs Q E hr h => ?_)
    · obtain ⟨p, L, r, B, n, row, rfl, _⟩ := h
      rfl
    · obtain ⟨p, L, r, B, n, row, rfl, n0, _, ob, ro, okn, hB, hp, kk⟩ := h
      have n0 : n = 0 := by omega
      subst n0
      refine ⟨_, (pss_cons (ps_if (pt_cmpR op_eq (pv 2) pe_int (nomark _)) (pss_one (ps_ret (pe_tup pa_nil))) pss_nil) (pss_cons ps_never (pss_cons ps_never (pss_one ps_never)))), ?_⟩
      refine ⟨_, rfl, rfl, _, rfl, iteT ⟨(by show 0 ≤ sizeLine; decide), fun a na => ?_⟩⟩
      exact kk _ .e _ (Same.but (same_new na)) ((hp.new na).mono (by omega)) ⟨a, rfl, upd_same⟩ rfl trivial
  | d + 1 => by
    obtain ⟨f1, fd1, G1, g1, k1, b1⟩ := D1.ex
    have GS := ok_drawn F T gS bS cT cN FC RT RN D1 d
    refine F.ok scLDrawn (fun vs H Q E h => ?_) (fun cdv A outer s H vs Q E hr h => ?_)
    · obtain ⟨p, L, r, B, n, row, rfl, _⟩ := h
      rfl
    · obtain ⟨p, L, r, B, n, row, rfl, nd, d14, ob, ro, okn, hB, hp, kk⟩ := h
      have hr2 : Room 2 _ := hr.mono (show 2 ≤ 5 + d by omega)
      have hr4 : Room 4 _ := hr.mono (show 4 ≤ 5 + d by omega)
      have hrd : Room (5 + d) _ := hr
      refine ⟨_, (pss_cons (ps_if (pt_cmpR op_eq (pv 2) pe_int (nomark _))
      (pss_one (ps_ret (pe_tup pa_nil))) pss_nil)
    (pss_cons (ps_setLc (i := 3) (own := [("_law_left", 4)]) (g := gName 4) (by rfl) scLDrawn.nd rfl rfl (sw_true rfl rfl rfl (by decide +kernel)) (pi_range1 (by rfl) T.range (pa_cons (pv 2) pa_nil)) (blkOk_by (own := [("_law_left", 4)]) (N := nDr) (sc := defScope sLDrawn) (by decide +kernel)) (fun _ _ _ _ _ => pg_name (i := 4) scLDrawn.nd rfl (.inl rfl)) (fun _ _ _ _ _ => pts_one (pt_val (pe_either (pe_callI (pv 1) cT FC hr4 (E := E0) pass0 (pa_cons (pe_op op_add (pv 4) pe_int) (pa_cons (pe_op op_sub (pv 2) (pv 4)) pa_nil))) (pe_callI (pv 1) cN FC hr4 (E := E0) pass0 (pa_cons (pe_op op_add (pv 4) pe_int) (pa_cons (pe_op op_sub (pv 2) (pv 4)) pa_nil)))))) (fun _ _ _ _ _ => (pv 4)))
    (pss_cons (ps_set (i := 4) scLDrawn.nd rfl (.inl rfl) (pe_call G1 hr2 (by rfl) g1 k1 b1 .nil pass0 (pa_cons (pv 0) (pa_cons (pv 3) pa_nil))))
    (pss_one (ps_ret (pe_tup (pa_cons (pe_call GS hrd (by rfl) gS F.kp bS .nil pass0 (pa_cons (pv 0) (pa_cons (pv 1) (pa_cons (pv 4) pa_nil)))) (pa_cons (pe_call GS hrd (by rfl) gS F.kp bS .nil pass0 (pa_cons (pv 0) (pa_cons (pv 1) (pa_cons (pe_op op_sub (pe_op op_sub (pv 2) pe_int) (pv 4)) pa_nil)))) pa_nil)))))))), ?_⟩
      refine ⟨_, rfl, rfl, _, rfl, ite2 (fun e => ⟨(by show 0 ≤ sizeLine; decide), fun a na => ?_⟩) (fun e => ?_)⟩
      · have e : V.int (n : Int) = V.int 0 := of_decide_eq_true e
        injection e with e
        have n0 : n = 0 := by omega
        subst n0
        exact kk _ .e _ (Same.but (same_new na)) ((hp.new na).mono (by omega)) ⟨a, rfl, upd_same⟩ rfl trivial
      have n1 : 1 ≤ n := by
        rcases Nat.eq_zero_or_pos n with z | z
        · subst z
          exact absurd (decide_eq_true (show V.int ((0 : Nat) : Int) = V.int 0 from rfl)) e
        · exact z
      obtain ⟨o1, o2, o3, o4, o5, o6⟩ := id okn
      refine ⟨_, rfl, n, rfl, by omega, by omega, fun D nD => ?_⟩
      have ntn : ((n : Int)).toNat = n := Int.toNat_natCast n
      rw [ntn]
      refine lc_range (lo := 0) (n := n) (fun i H3 => H3 D = some (.lst ((sidesN row.p row.q row.k n i).map fun j : Nat => V.int (j : Int))) ∧ Same H H3) ⟨upd_same, same_new nD⟩ (fun i H3 hi h => ?_) (fun H3 h => ?_)
      · obtain ⟨hD, s3⟩ := h
        have e0 : (0 : Int) + (i : Int) = (i : Int) := by omega
        rw [e0]
        have rb := (ob.keep s3).rb (K := K) RT RN ro
        have ob3 := ob.keep s3
        -- what is done behind the test
        have step : ∀ b : Bool, b = fairB row.p row.q row.k ((i : Int) + 1) ((n : Int) - (i : Int)) → if b = true then (tVar 4) [some (.ref p), some (.ref r), some (.int (n : Int)), none, some (.int (i : Int))] H3 (fun y H4 => ∃ acc, H4 D = some (.lst acc) ∧ acc.length < sizeLine ∧ (upd H4 D (.lst (acc ++ [y])) D = some (.lst ((sidesN row.p row.q row.k n (i + 1)).map fun j : Nat => V.int (j : Int))) ∧ Same H (upd H4 D (.lst (acc ++ [y]))))) else (H3 D = some (.lst ((sidesN row.p row.q row.k n (i + 1)).map fun j : Nat => V.int (j : Int))) ∧ Same H H3) := fun b eb => by
          rw [sidesN_succ, ← eb]
          cases b with
          | false =>
            refine iteF ⟨?_, s3⟩
            rw [hD]
            simp
          | true =>
            refine iteT ⟨_, rfl, _, hD, ?_, ?_, fun b u q => by rw [upd_ne (ne_of_none q nD)]; exact s3 _ _ q⟩
            · rw [List.length_map]
              have := sidesN_len row.p row.q row.k n i
              exact Nat.lt_of_le_of_lt (show _ ≤ 14 by omega) (by decide)
            · rw [upd_same, if_pos rfl, List.map_append]
              rfl
        have hins : (∃ dx fs, H3 r = some (.ins Ct dx fs)) ∨ ∃ dx fs, H3 r = some (.ins Cn dx fs) := by
          cases row with
          | tr p q k =>
            obtain ⟨dx, a, h1, h2⟩ := ob3
            exact .inl ⟨dx, _, h1⟩
          | tn p q k t s c =>
            obtain ⟨dx, a, b, h1, h2, h3⟩ := ob3
            exact .inr ⟨dx, _, h1⟩
        rcases hins with hins | hins
        · refine ⟨rfl, .inl ⟨_, rfl, r, rfl, _, rfl, _, _, rfl, rfl, _, rfl, _, rfl, _, _, rfl, rfl, .inr hins, r, row.p, row.q, row.k, _, _, rfl, rb, ⟨by omega, by omega⟩, ⟨by omega, by omega⟩, _, rfl, ?_⟩⟩
          exact step _ rfl
        · refine ⟨rfl, .inr ⟨_, rfl, r, rfl, _, rfl, _, _, rfl, rfl, _, rfl, _, rfl, _, _, rfl, rfl, .inr hins, r, row.p, row.q, row.k, _, _, rfl, rb, ⟨by omega, by omega⟩, ⟨by omega, by omega⟩, _, rfl, ?_⟩⟩
          exact step _ rfl
      · obtain ⟨hD, s3⟩ := h
        obtain ⟨xs, hpx⟩ := hp.some
        have hp3 := hp.keep s3
        have sl := sidesN_len row.p row.q row.k n n
        have dp : D ≠ p := hp.ne nD
        refine ⟨_, rfl, _, rfl, p, D, L, _, B, rfl, hD, dp, by rw [List.length_map]; exact sidesN_ne o1 o2 o6 n1, by rw [List.length_map]; omega, by omega, hp3, fun v H4 hm t4 p4 => ?_⟩
        obtain ⟨i, hi, rfl⟩ := List.mem_map.mp hm
        unfold sidesN at hi
        rw [List.mem_filter, List.mem_range] at hi
        obtain ⟨il, ifr⟩ := hi
        have t04 : But p H H4 := fun b o n e => t4 _ _ n (s3 _ _ e)
        have ob4 := ob.but hpx t04
        refine ⟨_, rfl, _, rfl, _, rfl, p, L, r, B + 1, i, row, rfl, by omega, by omega, ob4, ro, okn, by omega, p4, fun v1 t1 H5 t5 p5 b5 l5 f5 => ?_⟩
        obtain ⟨xs4, hpx4⟩ := p4.some
        obtain ⟨xs5, hpx5⟩ := p5.some
        have ob5 := ob4.but hpx4 t5
        refine ⟨_, rfl, _, rfl, _, rfl, _, _, rfl, rfl, _, rfl, _, _, rfl, rfl, p, L, r, B + 1 + i, n - 1 - i, row, ?_, by omega, by omega, ob5, ro, okn, by omega, p5, fun v2 t2 H6 t6 p6 b6 l6 f6 => ?_⟩
        · show [V.ref p, V.ref r, V.int ((n : Int) - 1 - (i : Int))] ++ [] = _
          rw [List.append_nil, show ((n - 1 - i : Nat) : Int) = (n : Int) - 1 - (i : Int) by omega]
        refine ⟨(by show 2 ≤ sizeLine; decide), fun a na => ?_⟩
        have b56 := b5.but (x := p) (fun xs e => by rw [hpx5] at e; cases e) t6
        have s7 := same_new (o := .tup [v1, v2]) na
        refine kk _ (.n t1 0 t2) _ (((t04.trans t5).trans t6).trans (Same.but s7)) ((p6.new na).mono (by omega)) ⟨a, v1, v2, rfl, upd_same, b56.keep s7, b6.keep s7⟩ ?_ ⟨?_, f5, f6⟩
        · simp only [Tr.keys, List.length_append, List.length_cons]
          omega
        · have w1 := Tr.w_keys t1
          have w2 := Tr.w_keys t2
          rw [show t1.w = (i : Int) + 1 by omega, show t2.w = (n : Int) - (i : Int) by omega]
          exact ifr
end
end Ev
set_option maxHeartbeats 1000000
namespace Ev
open PySem L2 PySem.Spec PyProof.Rows RZ
/-! _law_right, from its end. -/
structure TB (P : Program) (w : World) (K : PySem.W.Frag) (mg : Str → Option Value) (base : Heap) (N S C Ct Cn : Addr) : Prop where
  g : mg "Tree" = some (.ref C)
  tc : TrC K C
  sc : SC K S
  mak : ∃ (f : Addr) (fd : FuncData) (e : Addr), Mk K C f ∧ FnOk P w K mg base CX0 8 f fd ["self", "rule", "items"] (spTreeI0 K Ct Cn N S C) ∧ Binds K fd ["self", "rule", "items"] [.ref e] ∧ KTup0 K e
  put : ∃ (f : Addr) (fd : FuncData), Meth K C "put" f ∧ FnOk P w K mg base CX0 8 f fd ["self", "key", "value"] (spPut K N S C) ∧ Binds K fd ["self", "key", "value"] []
  drp : ∃ (f : Addr) (fd : FuncData), Meth K C "drop" f ∧ FnOk P w K mg base CX0 8 f fd ["self", "key"] (spDrop K N S C) ∧ Binds K fd ["self", "key"] []
  unf : ∃ (f : Addr) (fd : FuncData), Meth K C "unfair" f ∧ FnOk P w K mg base CX0 3 f fd ["self"] (spUnfair K N S C) ∧ Binds K fd ["self"] []
  lay : ∃ (p g : Addr) (fd : FuncData), PropOf K C "layout" p g ∧ FnOk P w K mg base CX0 2 g fd ["self"] (spLayout N S C) ∧ Binds K fd ["self"] []
  len : ∃ g : Addr, PySem.W.findIn K (.ref C) "__len__" = some (some (.ref g)) ∧ PySem.W.isFn K (.ref g) = true ∧ FnR P w K mg base CX0 1 g (spTLen N S C)
  itr : ∃ g : Addr, PySem.W.findIn K (.ref C) "__iter__" = some (some (.ref g)) ∧ PySem.W.isFn K (.ref g) = true ∧ FnIt P w K mg base 1 g (OrdAt N S C)
theorem tlP {s : Addr} : (treeF s).lookup ("put" : Str) = none := (lk_miss (by decide +kernel)).trans ((lk_miss (by decide +kernel)).trans rfl)
theorem tlD {s : Addr} : (treeF s).lookup ("drop" : Str) = none := (lk_miss (by decide +kernel)).trans ((lk_miss (by decide +kernel)).trans rfl)
theorem tlU {s : Addr} : (treeF s).lookup ("unfair" : Str) = none := (lk_miss (by decide +kernel)).trans ((lk_miss (by decide +kernel)).trans rfl)
/-- the worths that the law puts -/
def WorT (kvs : List (Key × V)) : Prop := ∀ y v, valV kvs (.inl y) = some v → v = .int (y / 10)
theorem WorT.put {kvs : List (Key × V)} (h : WorT kvs) {x i : Int} (e : x / 10 = i) : WorT (putK kvs (.inl x) (.int i)) := by
  intro y v hv
  rw [valV_put] at hv
  by_cases z : (Sum.inl y : Key) = .inl x
  · rw [if_pos z] at hv
    have z : y = x := by injection z
    cases hv
    rw [z, e]
  · rw [if_neg z] at hv
    exact h y v hv
theorem WorT.cut {kvs : List (Key × V)} (h : WorT kvs) {x : Key} : WorT (dropK kvs x) := by
  intro y v hv
  rw [valV_dropK] at hv
  by_cases z : (Sum.inl y : Key) = x
  · rw [if_pos z] at hv
    cases hv
  · rw [if_neg z] at hv
    exact h y v hv
/-- the trees ahead of each put -/
def trL (t : Tr) : Nat → List Tr
  | 0 => []
  | m + 1 => trL t m ++ [t.rmN (t.keys.length - m)]
theorem trL_len (t : Tr) : ∀ m, (trL t m).length = m
  | 0 => rfl
  | m + 1 => by
    show (trL t m ++ [_]).length = _
    rw [List.length_append, trL_len t m]
    rfl
/-- a goal with the law's keys -/
structure Goal (p q k : Int) (t : Tr) : Prop where
  len : t.keys.length ≤ 14
  ks : t.keys = (List.range t.keys.length).map fun i : Nat => 10 * (0 + (i : Int))
  asc : t.asc
  fair : t.fair p q k
theorem Goal.key {p q k : Int} {t : Tr} (g : Goal p q k t) {m : Nat} {x : Int} (h : x ∈ (t.rmN m).keys) : 10 * (x / 10) = x ∧ 0 ≤ x ∧ x ≤ 140 := by
  have h := Tr.rmN_subset h
  rw [g.ks] at h
  obtain ⟨i, hi, e⟩ := List.mem_map.mp h
  have hi := List.mem_range.mp hi
  have := g.len
  omega
def But2 (x y : Addr) (H H' : Hp) : Prop := ∀ b o, b ≠ x → b ≠ y → H b = some o → H' b = some o
theorem FmAt.but2 {N x : Addr} {H H' : Hp} (o : Oth N H x) (s : But x H H') (v : V) (u : Tr) (h : FmAt H u v) : FmAt H' u v := h.but o s
theorem ord_uniq {N S C : Addr} {G : Hp} {x l l' : Addr} (h : OrdAt N S C G x l) (h' : OrdAt N S C G x l') : l = l' := by
  obtain ⟨r, t, kvs, dx, s, ds, vr, d, a1, a2, a3, _⟩ := h
  obtain ⟨r', t', kvs', dx', s', ds', vr', d', b1, b2, b3, _⟩ := h'
  rw [a1] at b1
  injection b1 with b1
  injection b1 with _ _ b1
  have es : s = s' := by
    unfold treeF at b1
    injection b1 with _ b1
    injection b1 with b1 _
    injection b1 with _ b1
    injection b1
  subst es
  rw [a2] at b2
  injection b2 with b2
  injection b2 with _ _ b2
  unfold stF at b2
  injection b2 with _ b2
  injection b2 with _ b2
  injection b2 with b2 _
  injection b2 with _ b2
  injection b2
theorem ord_ne {N S C ly : Addr} {G : Hp} {r x : Addr} {u : Tr} {kvs : List (Key × V)} {ls : List V} (h : TreeAt N S C G r u kvs x) (hl : G ly = some (.lst ls)) (ne : ls ≠ u.keys.map V.int) : ∀ l, OrdAt N S C G x l → l ≠ ly := by
  intro l ho z
  obtain ⟨l2, h1, h2⟩ := h.ord
  have e := ord_uniq ho h1
  rw [← e, z, hl] at h2
  injection h2 with h2
  injection h2 with h2
  exact ne h2
theorem TreeAt.butL {N S C ly : Addr} {G G' : Hp} {r x : Addr} {u : Tr} {kvs : List (Key × V)} {ls : List V} (h : TreeAt N S C G r u kvs x) (hl : G ly = some (.lst ls)) (ne : ∀ l, OrdAt N S C G x l → l ≠ ly) (u4 : But ly G G') : TreeAt N S C G' r u kvs x := by
  obtain ⟨dx, s, hx, st⟩ := h
  obtain ⟨s', ds, lo', d', vr, e, j1, j2, j3, j4, j5, j6⟩ := id st
  cases e
  refine ⟨dx, s, u4 _ _ (ne_of hx hl (by intro z; cases z)) hx, s, ds, lo', d', vr, rfl, u4 _ _ (ne_of j1 hl (by intro z; cases z)) j1, j2.but (Oth.lst hl) u4, u4 _ _ (ne lo' ⟨r, u, kvs, dx, s, ds, vr, d', hx, j1, j3, st⟩) j3, u4 _ _ (ne_of j4 hl (by intro z; cases z)) j4, j5, j6⟩
theorem FmAt.ref {H : Hp} {u : Tr} {v : V} (h : FmAt H u v) : ∃ a, v = .ref a := by
  cases u with
  | e =>
    obtain ⟨a, e, _⟩ := h
    exact ⟨a, e⟩
  | n l k r =>
    obtain ⟨a, _, _, e, _⟩ := h
    exact ⟨a, e⟩
theorem ref_ne {ls : List V} {a : Addr} {ns : List Int} (h : V.ref a ∈ ls) : ls ≠ ns.map V.int := by
  intro z
  rw [z] at h
  obtain ⟨n, _, e⟩ := List.mem_map.mp h
  cases e
section
variable {P : Program} {w : World} {K : PySem.W.Frag} {mg : Str → Option Value} {base : Heap}
abbrev nRi : List Str := ["_law_pen_here", "_law_rule_so", "_law_keys", "_law_goal", "_law_order", "_law_tree_so", "_law_layouts", "_law_index", "_law_one"]
theorem scLRight : FnScope nRi ["_law_pen_here", "_law_rule_so", "_law_keys"] (defScope sLRight) := ⟨rfl, rfl, rfl, by decide +kernel, rfl, by decide +kernel, by decide +kernel⟩
theorem right_drops {f N S C Ct Cn : Addr} {cdv : Value} {A : Around} {outer : List Env} {s : Shared} {H : Hp} {E : XK} (T : Blt mg) (B : TB P w K mg base N S C Ct Cn) (hr : Room 33 (cxOf CX0 P w K mg base nRi "_law_right" (defScope sLRight) f cdv A outer s H E).nox.A) :
    ∃ tt : TS, PSs (cxOf CX0 P w K mg base nRi "_law_right" (defScope sLRight) f cdv A outer s H E).nox ((defBody sLRight).drop 5) tt ∧
      ∀ (D : Ends) (G : Hp) (p r lo x ly : Addr) (vg : V) (n : Int) (t : Tr) (kvs : List (Key × V)) (a b c : Int) (ls : List V) (z7 z8 : Option V),
        okN a b c → Goal a b c t → RB K G r a b c → r ≠ x → G lo = some (.lst ((fndL t.keys.length t).map V.int)) → TreeAt N S C G r t kvs x → WorT kvs → G ly = some (.lst ls) → All2 (fun v u => FmAt G u v) ls (trL t t.keys.length) →
        (∀ G', But2 x ly G G' → D.rt (.bl true) G') → tt D [some (.ref p), some (.ref r), some (.int n), some vg, some (.ref lo), some (.ref x), some (.ref ly), z7, z8] G := by
  obtain ⟨fd', fdd, MD, GD, bD⟩ := B.drp
  obtain ⟨pl, gl, fdl, PL, GL, bL⟩ := B.lay
  obtain ⟨gn, hn1, hn2, FN⟩ := B.len
  have TC := B.tc
  have hu : (cxOf CX0 P w K mg base nRi "_law_right" (defScope sLRight) f cdv A outer s H E).nox.A.units + 64 < cLine := hr.units
  refine ⟨_, (pss_cons (ps_for PassesOwn.never rfl (pi_list (pe_revL (pv 4))) (pg_name (i := 7) scLRight.nd rfl (.inl rfl))
      (pss_one (ps_if (PW.pt (pw_or (pt_cmpR op_ne (pe_meth (E := E0) (pv 5) TC.cl MD GD (hr.mono (by decide)) bD .nil pass0 (pa_cons (pe_op op_mul pe_int (pv 7)) pa_nil)) (pv 7) (nomark _)) (pw_or1 (pt_cmpR (op_neD hu) (pe_prop (E := E0) (pv 5) TC.cl PL GL (hr.mono (by decide)) bL .nil pass0 rfl) (pe_bm0 PySem.F.plainAttrs_list PySem.F.slot_list_pop PySem.F.type_list_pop mt_pop (pv 6)) (nomark _)))))
        (pss_one (ps_ret pe_bl)) pss_nil)))
    (pss_one (ps_ret (pe_cmpR op_eq (pe_callB (call_lenO (E := E0) hn1 hn2 FN (hr.mono (by decide)) pass0) (by rfl) T.len PySem.boot_len (pa_cons (pv 5) pa_nil)) pe_int (nomark _))))), ?_⟩
  intro D G p r lo x ly vg n t kvs a b c ls z7 z8 o g rb rx hlo htr wt hly al fin
  obtain ⟨o1, o2, o3, o4, o5, o6⟩ := id o
  refine ⟨_, rfl, lo, _, rfl, SqL.of hlo, fun lr nlr => ⟨lr, rfl, ⟨_, SqL.of upd_same⟩, ?_⟩⟩
  have s1 := same_new (o := .lst ((fndL t.keys.length t).map V.int).reverse) nlr
  have hlr : upd G lr (.lst ((fndL t.keys.length t).map V.int).reverse) lr = some (.lst ((fndL t.keys.length t).map V.int).reverse) := upd_same
  generalize upd G lr (.lst ((fndL t.keys.length t).map V.int).reverse) = G1 at s1 hlr ⊢
  obtain ⟨dxx, ssx, hxx, _⟩ := id htr
  have nxl : x ≠ ly := fun z => by rw [z, hly] at hxx; cases hxx
  have nlx : lr ≠ x := fun z => by rw [z, s1 _ _ hxx] at hlr; cases hlr
  have nll : lr ≠ ly := (ne_of_none hly nlr).symm
  have flen := fndL_len t t.keys.length
  refine for_list (xs := ((fndL t.keys.length t).map V.int).reverse) (fun i σ G' => But2 x ly G1 G' ∧ ∃ (kvs' : List (Key × V)) (ls' : List V) (z : Option V), σ = [some (.ref p), some (.ref r), some (.int n), some vg, some (.ref lo), some (.ref x), some (.ref ly), z, z8] ∧ TreeAt N S C G' r (t.rmN i) kvs' x ∧ WorT kvs' ∧ G' ly = some (.lst ls') ∧ All2 (fun v u => FmAt G' u v) ls' (trL t (t.keys.length - i)))
    ⟨fun _ _ _ _ e => e, kvs, ls, z7, rfl, htr.keep s1, wt, s1 _ _ hly, al.mono fun v u h => h.keep s1⟩ (fun i σ G' _ h => SqL.of (h.1 _ _ nlx nll hlr)) (fun i v σ G' hi hp => ?_) (fun σ G' hp => ?_)
  · obtain ⟨sg, kvs', ls', z, rfl, tr, wt', hly', al'⟩ := hp
    have il : i < t.keys.length := by
      have := (List.getElem?_eq_some_iff.mp hi).1
      rw [List.length_reverse, List.length_map, flen] at this
      exact this
    have ev : v = .int ((t.rmN i).rmK / 10) := by
      rw [List.getElem?_reverse (by rw [List.length_map, flen]; exact il), List.length_map, flen, List.getElem?_map, fndL_at t _ _ (by omega), show t.keys.length - 1 - (t.keys.length - 1 - i) = i by omega] at hi
      exact (Option.some.inj hi).symm
    subst ev
    have ne := Tr.rmN_ne il
    obtain ⟨q1, q2, q3⟩ := Tr.rm_sub _ ne (Tr.rmN_asc g.asc i)
    obtain ⟨ek, ek1, ek2⟩ := g.key (Tr.rm_mem ne)
    obtain ⟨dx, s0, hx, st⟩ := id tr
    have rb' : RB K G' r a b c := by
      have r1 := rb.keep s1
      obtain ⟨⟨C', dx', fs', a', e1, e2, e3, e4, e5, e6, e7⟩, p1, p2, p3, p4, p5⟩ := r1
      refine ⟨⟨C', dx', fs', a', sg _ _ rx (fun z => ?_) e1, e2, e3, e4, e5, e6, sg _ _ (fun z => ?_) (fun z => ?_) e7⟩, p1, p2, p3, p4, p5⟩
      · rw [z, s1 _ _ hly] at e1
        cases e1
      · rw [z, s1 _ _ hxx] at e7
        cases e7
      · rw [z, s1 _ _ hly] at e7
        cases e7
    have lenr := Tr.rmN_len t i (Nat.le_of_lt il)
    have g14 := g.len
    obtain ⟨v0, hv0⟩ : ∃ v0, valV kvs' (.inl (t.rmN i).rmK) = some v0 := by
      obtain ⟨s', ds, lo', d', vr, e, _, _, _, _, _, hw⟩ := st
      exact Option.isSome_iff_exists.mp (by rw [hw.mem]; exact decide_eq_true (Tr.rm_mem ne))
    have ev0 := wt' _ _ hv0
    subst ev0
    refine ⟨_, rfl, x, dx, _, rfl, hx, tlD, _, rfl, _, _, rfl, rfl, .inl (by decide), x, r, a, b, c, t.rmN i, kvs', 10 * ((t.rmN i).rmK / 10), _, rfl, tr, rb', by omega, by omega, by rw [ek]; exact q1, by omega, by rw [ek, q2]; exact Tr.rmN_fair o1 o2 o6 g.fair (i + 1), by rw [ek]; exact hv0, fun G2 u2 tr2 => ?_⟩
    rw [ek, q2] at tr2
    refine ⟨_, rfl, rfl, _, rfl, ?_⟩
    rw [show (!decide (V.int ((t.rmN i).rmK / 10) = V.int ((t.rmN i).rmK / 10))) = false by simp]
    refine iteF ?_
    obtain ⟨dx2, s2, hx2, st2⟩ := id tr2
    have hly2 := u2 _ _ nxl.symm hly'
    have al2 : All2 (fun v u => FmAt G2 u v) ls' (trL t (t.keys.length - i)) := al'.mono (FmAt.but2 (N := N) (Oth.short hx (by show 2 ≤ 3; decide)) u2)
    refine ⟨_, rfl, x, dx2, _, rfl, hx2, x, r, t.rmN (i + 1), _, rfl, tr2, fun fm G3 s3 hfm => ?_⟩
    have hly3 := s3 _ _ hly2
    have al3 : All2 (fun v u => FmAt G3 u v) ls' (trL t (t.keys.length - i)) := al2.mono fun v u h => h.keep s3
    rw [show t.keys.length - i = (t.keys.length - (i + 1)) + 1 by omega] at al3
    have lsn : ls' ≠ [] := fun z => by
      rw [z] at al3
      have := al3.len
      rw [trL_len] at this
      cases this
    obtain ⟨ls0, y, bs0, u, e1, e2, al0, hy⟩ := al3.snoc lsn
    subst e1
    obtain ⟨e3, e4⟩ := List.append_inj' (show trL t (t.keys.length - (i + 1)) ++ [t.rmN (t.keys.length - (t.keys.length - (i + 1)))] = bs0 ++ [u] from e2) rfl
    have e4 : t.rmN (t.keys.length - (t.keys.length - (i + 1))) = u := by injection e4
    rw [show t.keys.length - (t.keys.length - (i + 1)) = i + 1 by omega] at e4
    subst e3 e4
    refine ⟨_, rfl, .inl ⟨rfl, _, SqL.of hly3⟩, ly, ls0 ++ [y], y, rfl, rfl, hly3, last_snoc _ _, ?_⟩
    rw [List.dropLast_concat]
    have u4 : But ly G3 (upd G3 ly (.lst ls0)) := But.upd_at
    have h4 : upd G3 ly (.lst ls0) ly = some (.lst ls0) := upd_same
    have ol : Oth N G3 ly := Oth.lst hly3
    have hfm4 := hfm.but ol u4
    have hy4 := hy.but ol u4
    have al4 : All2 (fun v u => FmAt (upd G3 ly (.lst ls0)) u v) ls0 (trL t (t.keys.length - (i + 1))) := al0.mono fun v u h => h.but ol u4
    obtain ⟨ya, rfl⟩ := hy.ref
    have tr4 : TreeAt N S C (upd G3 ly (.lst ls0)) r (t.rmN (i + 1)) (dropK kvs' (.inl (t.rmN i).rmK)) x := (tr2.keep s3).butL hly3 (ord_ne (tr2.keep s3) hly3 (ref_ne (List.mem_append_right _ List.mem_cons_self))) u4
    generalize upd G3 ly (.lst ls0) = G4 at u4 h4 hfm4 hy4 al4 tr4 ⊢
    refine ⟨formD (t.rmN (i + 1)), formD (t.rmN (i + 1)), form_dp hfm4, form_dp hy4, form_shaped (Nat.le_trans (Tr.height_le _) ?_), form_shaped (Nat.le_trans (Tr.height_le _) ?_), ?_⟩
    · have := Tr.rmN_len t (i + 1) il
      omega
    · have := Tr.rmN_len t (i + 1) il
      omega
    rw [form_eq]
    refine ⟨_, rfl, iteF ?_⟩
    refine ⟨fun b o n1 n2 e => u4 _ _ n2 (s3 _ _ (u2 _ _ n1 (sg _ _ n1 n2 e))), _, ls0, _, rfl, tr4, wt'.cut, h4, al4⟩
  · obtain ⟨sg, kvs', ls', z, rfl, tr, wt', hly', al'⟩ := hp
    rw [List.length_reverse, List.length_map, flen] at tr
    obtain ⟨dx, s0, hx, st⟩ := id tr
    have el := Tr.rmN_end t
    refine ⟨_, rfl, x, dx, _, rfl, hx, x, r, _, _, rfl, tr, ?_⟩
    rw [el]
    refine ⟨_, rfl, ⟨by decide, by decide⟩, rfl, ?_⟩
    exact fin G' fun b o n1 n2 e => sg _ _ n1 n2 (s1 _ _ e)
end
end Ev
set_option maxHeartbeats 1000000
namespace Ev
open PySem L2 PySem.Spec PyProof.Rows RZ
/-! _law_right, its middle and its start. -/
theorem tyes2 {σ : L2.St} {H : Hp} {Q : Bool → Hp → Prop} (h : Q true H) : tYes σ H Q := h
theorem OrdAt.keep {N S C : Addr} {G G' : Hp} {x l : Addr} (s : Same G G') (h : OrdAt N S C G x l) : OrdAt N S C G' x l := by
  obtain ⟨r, t, kvs, dx, s0, ds, vr, d, a1, a2, a3, a4⟩ := h
  exact ⟨r, t, kvs, dx, s0, ds, vr, d, s _ _ a1, s _ _ a2, s _ _ a3, a4.keep s⟩
theorem ord_keep {N S C ly : Addr} {G G' : Hp} {r x : Addr} {u : Tr} {kvs : List (Key × V)} (s : Same G G') (h : TreeAt N S C G r u kvs x) (ne : ∀ l, OrdAt N S C G x l → l ≠ ly) : ∀ l, OrdAt N S C G' x l → l ≠ ly := by
  intro l ho
  obtain ⟨l0, h1, h2⟩ := h.ord
  have e := ord_uniq ho (h1.keep s)
  rw [e]
  exact ne _ h1
def spRight (Ct Cn : Addr) : Sp := fun vs H Q _ => ∃ (p L r : Addr) (B : Int) (n : Nat) (row : Row), vs = [.ref p, .ref r, .int n] ∧ n ≤ 14 ∧ ObjAt Ct Cn H r row ∧ row.ok ∧ okN row.p row.q row.k ∧ B + n ≤ 900000 ∧ Pen L H p B ∧
  ∀ H', But p H H' → Pen L H' p (B + n) → Q (.bl true) H'
theorem nil_eq : PyData.eqv (.tuple []) (.tuple []) = true := by simp [PyData.eqv, PyData.eqvAll]
theorem RB.but2 {K : PySem.W.Frag} {H H' : Hp} {r x y : Addr} {p q k : Int} (h : RB K H r p q k) (r1 : r ≠ x) (hx : ∀ xs, H x ≠ some (.tup xs)) {ys : List V} (hy : H y = some (.lst ys)) (u : But2 x y H H') : RB K H' r p q k := by
  obtain ⟨⟨C', dx', fs', a', e1, e2, e3, e4, e5, e6, e7⟩, p1, p2, p3, p4, p5⟩ := h
  exact ⟨⟨C', dx', fs', a', u _ _ r1 (ne_of e1 hy (by intro z; cases z)) e1, e2, e3, e4, e5, e6, u _ _ (fun z => hx _ (by rw [← z]; exact e7)) (ne_of e7 hy (by intro z; cases z)) e7⟩, p1, p2, p3, p4, p5⟩
theorem BareAt.but2 {H H' : Hp} {x y : Addr} (hx : ∀ xs, H x ≠ some (.tup xs)) (hy : ∀ xs, H y ≠ some (.tup xs)) (s : But2 x y H H') : ∀ {t : Tr} {v : V}, BareAt H t v → BareAt H' t v
  | .e, v, h => by
    obtain ⟨a, e, h⟩ := h
    exact ⟨a, e, s _ _ (fun z => hx _ (by rw [← z]; exact h)) (fun z => hy _ (by rw [← z]; exact h)) h⟩
  | .n l k r, v, h => by
    obtain ⟨a, fl, fr, e, h, h1, h2⟩ := h
    exact ⟨a, fl, fr, e, s _ _ (fun z => hx _ (by rw [← z]; exact h)) (fun z => hy _ (by rw [← z]; exact h)) h, h1.but2 hx hy s, h2.but2 hx hy s⟩
section
variable {P : Program} {w : World} {K : PySem.W.Frag} {mg : Str → Option Value} {base : Heap}
theorem right_mid {f N S C Ct Cn : Addr} {cdv : Value} {A : Around} {outer : List Env} {s : Shared} {H : Hp} {E : XK} (T : Blt mg) (B : TB P w K mg base N S C Ct Cn) (D1 : Df P w K mg base 16 "_law_bare" ["_law_layout_so"] (spLBare 15)) (hr : Room 33 (cxOf CX0 P w K mg base nRi "_law_right" (defScope sLRight) f cdv A outer s H E).nox.A) :
    ∃ tt : TS, PSs (cxOf CX0 P w K mg base nRi "_law_right" (defScope sLRight) f cdv A outer s H E).nox ((defBody sLRight).drop 4) tt ∧
      ∀ (D : Ends) (G : Hp) (p r lo x ly : Addr) (vg : V) (t : Tr) (kvs : List (Key × V)) (a b c : Int) (ls : List V) (z7 z8 : Option V),
        okN a b c → Goal a b c t → BareAt G t vg → RB K G r a b c → r ≠ x → G lo = some (.lst ((fndL t.keys.length t).map V.int)) → TreeAt N S C G r t kvs x → WorT kvs → G ly = some (.lst ls) → All2 (fun v u => FmAt G u v) ls (trL t t.keys.length) →
        (∀ G', But2 x ly G G' → D.rt (.bl true) G') → tt D [some (.ref p), some (.ref r), some (.int (t.keys.length : Nat)), some vg, some (.ref lo), some (.ref x), some (.ref ly), z7, z8] G := by
  obtain ⟨f1, fd1, G1', g1, k1, b1⟩ := D1.ex
  obtain ⟨pl, gl, fdl, PL, GL, bL⟩ := B.lay
  obtain ⟨gi, hi1, hi2, FI⟩ := B.itr
  obtain ⟨tE, hE, qE⟩ := right_drops (f := f) (cdv := cdv) (A := A) (outer := outer) (s := s) (H := H) (E := E) T B hr
  have TC := B.tc
  have hu : (cxOf CX0 P w K mg base nRi "_law_right" (defScope sLRight) f cdv A outer s H E).nox.A.units + 64 < cLine := hr.units
  refine ⟨_, (pss_cons (ps_if (PW.pt (pw_or (pt_cmpR (op_neD hu) (pe_call G1' (hr.mono (by decide)) (by rfl) g1 k1 b1 .nil pass0 (pa_cons (pe_prop (E := E0) (pv 5) TC.cl PL GL (hr.mono (by decide)) bL .nil pass0 rfl) pa_nil)) (pv 3) (nomark _)) (pw_or1 (pt_cmpR (op_neD hu)
        (pe_lc (own := [("_law_one", 8)]) (g := gName 8) (by rfl) scLRight.nd (pi_ownL (pv 5) hi1 hi2 FI (hr.mono (by decide))) (blkOk_by (own := [("_law_one", 8)]) (N := nRi) (sc := defScope sLRight) (by decide +kernel)) (fun _ _ _ _ _ => pg_name (i := 8) scLRight.nd rfl (.inl rfl)) (fun _ _ _ _ _ => pts_nil) (fun _ _ _ _ _ => (pv 8)))
        (pe_lc (own := [("_law_index", 7)]) (g := gName 7) (by rfl) scLRight.nd (pi_range1 (by rfl) T.range (pa_cons (pv 2) pa_nil)) (blkOk_by (own := [("_law_index", 7)]) (N := nRi) (sc := defScope sLRight) (by decide +kernel)) (fun _ _ _ _ _ => pg_name (i := 7) scLRight.nd rfl (.inl rfl)) (fun _ _ _ _ _ => pts_nil) (fun _ _ _ _ _ => (pe_op op_mul pe_int (pv 7)))) (nomark _)))))
      (pss_one (ps_ret pe_bl)) pss_nil) hE), ?_⟩
  intro D G p r lo x ly vg t kvs a b c ls z7 z8 o g hb rb rx hlo tr wt hly al fin
  obtain ⟨dx, s0, hx, st⟩ := id tr
  have g14 := g.len
  have hh : t.height ≤ 15 := Nat.le_trans t.height_le (by omega)
  refine ⟨_, rfl, x, dx, _, rfl, hx, x, r, t, kvs, rfl, tr, fun fm G2 s2 hfm => ?_⟩
  refine ⟨fm, t, rfl, hfm, hh, by decide, fun vb G3 s3 hb3 => ?_⟩
  have s23 := s2.trans s3
  refine ⟨_, rfl, bareD t, bareD t, bare_dp hb3, bare_dp (hb.keep s23), bare_shaped (by omega), bare_shaped (by omega), ?_⟩
  rw [bare_eq]
  refine ⟨_, rfl, iteF ?_⟩
  have tr3 := tr.keep s23
  obtain ⟨lt, ho3, hlt3⟩ := tr3.ord
  refine ⟨_, rfl, x, dx, lt, _, rfl, s23 _ _ hx, ho3, fun D1 nD1 => ?_⟩
  have g63 : t.keys.length ≤ 63 := by omega
  refine lc_list (K := K) (a := lt) (xs := t.keys.map V.int) (fun i H' => H' D1 = some (.lst ((t.keys.map V.int).take i)) ∧ Same G3 H') ⟨by rw [List.take_zero]; exact upd_same, same_new nD1⟩ (fun i H' _ q => SqL.of (q.2 _ _ hlt3)) (fun i v H' hi h => ?_) (fun H' h => ?_)
  · obtain ⟨hD, sD⟩ := h
    refine ⟨rfl, tyes2 (iteT ⟨_, rfl, _, hD, ?_, ?_, fun b u q => by rw [upd_ne (ne_of_none q nD1)]; exact sD _ _ q⟩)⟩
    · rw [List.length_take, List.length_map]
      exact Nat.lt_of_le_of_lt (show _ ≤ 63 by omega) (by decide)
    · rw [upd_same, List.take_add_one, hi]
      rfl
  obtain ⟨hD1, sD1⟩ := h
  rw [List.take_length] at hD1
  refine ⟨_, rfl, _, rfl, by omega, by omega, fun D2 nD2 => ?_⟩
  rw [Int.toNat_natCast]
  refine lc_range (lo := 0) (n := t.keys.length) (fun i H2 => H2 D2 = some (.lst (((List.range i).map fun j : Nat => 10 * (0 + (j : Int))).map V.int)) ∧ Same H' H2) ⟨upd_same, same_new nD2⟩ (fun i H2 hi h => ?_) (fun H2 h => ?_)
  · obtain ⟨hD, sD⟩ := h
    refine ⟨rfl, tyes2 (iteT ⟨_, rfl, _, _, rfl, rfl, .inl (by decide), _, hD, ?_, ?_, fun b u q => by rw [upd_ne (ne_of_none q nD2)]; exact sD _ _ q⟩)⟩
    · rw [List.length_map, List.length_map, List.length_range]
      exact Nat.lt_of_le_of_lt (show _ ≤ 63 by omega) (by decide)
    · rw [upd_same, List.range_succ, List.map_append, List.map_append]
      rfl
  obtain ⟨hD2, sD2⟩ := h
  rw [← g.ks] at hD2
  refine ⟨intsD t.keys, intsD t.keys, .lst (SqL.of (sD2 _ _ hD1)) (ints_all _), .lst (SqL.of hD2) (ints_all _), ints_shaped _, ints_shaped _, ?_⟩
  rw [ints_eq]
  refine ⟨_, rfl, iteF ?_⟩
  have ss := s23.trans (sD1.trans sD2)
  exact qE D H2 p r lo x ly vg _ t kvs a b c ls _ _ o g (rb.keep ss) rx (ss _ _ hlo) (tr.keep ss) wt (ss _ _ hly) (al.mono fun v u h => h.keep ss) (fun G' h => fin G' fun b o n1 n2 e => h _ _ n1 n2 (ss _ _ e))
theorem right_puts {f N S C Ct Cn : Addr} {cdv : Value} {A : Around} {outer : List Env} {s : Shared} {H : Hp} {E : XK} (T : Blt mg) (B : TB P w K mg base N S C Ct Cn) (D1 : Df P w K mg base 16 "_law_bare" ["_law_layout_so"] (spLBare 15)) (hr : Room 33 (cxOf CX0 P w K mg base nRi "_law_right" (defScope sLRight) f cdv A outer s H E).nox.A) :
    ∃ tt : TS, PSs (cxOf CX0 P w K mg base nRi "_law_right" (defScope sLRight) f cdv A outer s H E).nox ((defBody sLRight).drop 3) tt ∧
      ∀ (D : Ends) (G : Hp) (p r lo x ly : Addr) (vg : V) (t : Tr) (a b c : Int),
        okN a b c → Goal a b c t → BareAt G t vg → RB K G r a b c → r ≠ x → G lo = some (.lst ((fndL t.keys.length t).map V.int)) → lo ≠ ly → TreeAt N S C G r .e [] x → G ly = some (.lst []) → (∀ l, OrdAt N S C G x l → l ≠ ly) →
        (∀ G', But2 x ly G G' → D.rt (.bl true) G') → tt D [some (.ref p), some (.ref r), some (.int (t.keys.length : Nat)), some vg, some (.ref lo), some (.ref x), some (.ref ly), none, none] G := by
  obtain ⟨fp, fdp, MP, GP, bP⟩ := B.put
  obtain ⟨fu, fdu, MU, GU, bU⟩ := B.unf
  obtain ⟨pl, gl, fdl, PL, GL, bL⟩ := B.lay
  obtain ⟨tE, hE, qE⟩ := right_mid (f := f) (cdv := cdv) (A := A) (outer := outer) (s := s) (H := H) (E := E) T B D1 hr
  have TC := B.tc
  have hu : (cxOf CX0 P w K mg base nRi "_law_right" (defScope sLRight) f cdv A outer s H E).nox.A.units + 64 < cLine := hr.units
  refine ⟨_, (pss_cons (ps_for PassesOwn.never rfl (pi_list (pv 4)) (pg_name (i := 7) scLRight.nd rfl (.inl rfl))
      (pss_cons (ps_expr (pe_bm PySem.F.plainAttrs_list PySem.F.slot_list_append PySem.F.type_list_append mt_append (pv 6) (pa_cons (pe_prop (E := E0) (pv 5) TC.cl PL GL (hr.mono (by decide)) bL .nil pass0 rfl) pa_nil)))
      (pss_cons (ps_expr (pe_meth (E := E0) (pv 5) TC.cl MP GP (hr.mono (by decide)) bP .nil pass0 (pa_cons (pe_op op_mul pe_int (pv 7)) (pa_cons (pv 7) pa_nil))))
      (pss_one (ps_if (pt_cmpR (op_neD hu) (pe_meth0 (E := E0) (pv 5) TC.cl MU GU (hr.mono (by decide)) bU .nil pass0) (pe_tup pa_nil) (nomark _))
        (pss_one (ps_ret pe_bl)) pss_nil))))) hE), ?_⟩
  intro D G p r lo x ly vg t a b c o g hb rb rx hlo lol htr hly hord fin
  obtain ⟨o1, o2, o3, o4, o5, o6⟩ := id o
  obtain ⟨dxx, ssx, hxx, _⟩ := id htr
  have lox : lo ≠ x := fun z => by rw [z, hxx] at hlo; cases hlo
  have nxl : x ≠ ly := fun z => by rw [z, hly] at hxx; cases hxx
  have flen := fndL_len t t.keys.length
  have g14 := g.len
  have ntx : ∀ xs, G x ≠ some (.tup xs) := fun xs e => by rw [hxx] at e; cases e
  refine ⟨_, rfl, lo, rfl, ⟨_, SqL.of hlo⟩, ?_⟩
  refine for_list (xs := (fndL t.keys.length t).map V.int) (fun i σ G' => But2 x ly G G' ∧ ∃ (kvs' : List (Key × V)) (ls' : List V) (z : Option V), σ = [some (.ref p), some (.ref r), some (.int (t.keys.length : Nat)), some vg, some (.ref lo), some (.ref x), some (.ref ly), z, none] ∧ TreeAt N S C G' r (t.rmN (t.keys.length - i)) kvs' x ∧ WorT kvs' ∧ G' ly = some (.lst ls') ∧ All2 (fun v u => FmAt G' u v) ls' (trL t i) ∧ (∀ l, OrdAt N S C G' x l → l ≠ ly))
    ⟨fun _ _ _ _ e => e, [], [], none, rfl, by rw [Nat.sub_zero, Tr.rmN_end]; exact htr, (fun y v h => nomatch h), hly, trivial, hord⟩ (fun i σ G' _ h => SqL.of (h.1 _ _ lox lol hlo)) (fun i v σ G' hi hp => ?_) (fun σ G' hp => ?_)
  · obtain ⟨sg, kvs', ls', z, rfl, tr, wt', hly', al', ho'⟩ := hp
    have il : i < t.keys.length := by
      have := (List.getElem?_eq_some_iff.mp hi).1
      rw [List.length_map, flen] at this
      exact this
    have ev : v = .int ((t.rmN (t.keys.length - 1 - i)).rmK / 10) := by
      rw [List.getElem?_map, fndL_at t _ _ il] at hi
      exact (Option.some.inj hi).symm
    subst ev
    have em : t.keys.length - i = (t.keys.length - 1 - i) + 1 := by omega
    have en : t.keys.length - (i + 1) = t.keys.length - 1 - i := by omega
    have ml : t.keys.length - 1 - i < t.keys.length := by omega
    have tre : trL t (i + 1) = trL t i ++ [t.rmN (t.keys.length - i)] := rfl
    rw [en, tre]
    rw [em] at tr ⊢
    generalize t.keys.length - 1 - i = m at ml tr ⊢
    have ne := Tr.rmN_ne ml
    obtain ⟨q1, q2, q3⟩ := Tr.rm_sub _ ne (Tr.rmN_asc g.asc m)
    obtain ⟨ek, ek1, ek2⟩ := g.key (Tr.rm_mem ne)
    have nin := (Tr.keys_cut_at (Tr.rmN_asc g.asc m) q1).2.2.2
    rw [q2] at nin
    have lenm := Tr.rmN_len t m (Nat.le_of_lt ml)
    have lenm1 := Tr.rmN_len t (m + 1) ml
    have fm := Tr.rmN_fair o1 o2 o6 g.fair m
    have tr : TreeAt N S C G' r (t.rmN m).rmT kvs' x := tr
    have lenm1 : (t.rmN m).rmT.keys.length + (m + 1) = t.keys.length := lenm1
    show tSeq _ _ _ _ _
    obtain ⟨dx, s0, hx, st⟩ := id tr
    have alen := al'.len
    rw [trL_len] at alen
    refine ⟨_, rfl, .inl ⟨rfl, _, SqL.of hly'⟩, _, rfl, x, dx, _, rfl, hx, x, r, _, kvs', rfl, tr, fun fv G2 s2 hfm => ⟨ly, _, _, rfl, rfl, s2 _ _ hly', Nat.lt_of_le_of_lt (show _ ≤ 14 by omega) (by decide), ?_⟩⟩
    have hly2 := s2 _ _ hly'
    have tr2 := tr.keep s2
    have ho2 := ord_keep s2 tr ho'
    have u3 : But ly G2 (upd G2 ly (.lst (ls' ++ [fv]))) := But.upd_at
    have h3 : upd G2 ly (.lst (ls' ++ [fv])) ly = some (.lst (ls' ++ [fv])) := upd_same
    have tr3 := tr2.butL hly2 ho2 u3
    have al3 : All2 (fun v u => FmAt (upd G2 ly (.lst (ls' ++ [fv]))) u v) (ls' ++ [fv]) (trL t i ++ [(t.rmN m).rmT]) := All2.app (al'.mono fun v u h => (h.keep s2).but (N := N) (Oth.lst hly2) u3) ⟨hfm.but (N := N) (Oth.lst hly2) u3, trivial⟩
    generalize upd G2 ly (.lst (ls' ++ [fv])) = G3 at u3 h3 tr3 al3 ⊢
    have sg3 : But2 x ly G G3 := fun b o n1 n2 e => u3 _ _ n2 (s2 _ _ (sg _ _ n1 n2 e))
    have rb3 := rb.but2 rx ntx hly sg3
    obtain ⟨dx3, s03, hx3, st3⟩ := id tr3
    refine ⟨_, rfl, x, dx3, _, rfl, hx3, tlP, _, rfl, _, _, rfl, rfl, .inl (by decide), _, rfl, x, r, a, b, c, (t.rmN m).rmT, kvs', 10 * ((t.rmN m).rmK / 10), _, rfl, tr3, rb3, by omega, by omega, by rw [ek]; exact nin, by omega, by rw [ek, q3]; exact fm, fun G4 u4 tr4 => ?_⟩
    rw [ek, q3] at tr4
    have hly4 := u4 _ _ nxl.symm h3
    have al4 := al3.mono (FmAt.but2 (N := N) (Oth.short hx3 (by show 2 ≤ 3; decide)) u4)
    have sg4 : But2 x ly G G4 := fun b o n1 n2 e => u4 _ _ n1 (sg3 _ _ n1 n2 e)
    have rb4 := rb.but2 rx ntx hly sg4
    obtain ⟨dx4, s04, hx4, st4⟩ := id tr4
    refine ⟨_, rfl, x, dx4, _, rfl, hx4, tlU, x, r, t.rmN m, _, a, b, c, rfl, tr4, rb4, fm, by omega, fun tu G5 s5 h5 => ?_⟩
    refine ⟨(by show 0 ≤ sizeLine; decide), fun t0 nt => ?_⟩
    have s6 := s5.trans (same_new (o := .tup []) nt)
    refine ⟨_, _, .tup (SqT.of (same_new nt _ _ h5)) .nil, .tup (SqT.of upd_same) .nil, nil_shaped, nil_shaped, ?_⟩
    rw [nil_eq]
    refine ⟨_, rfl, iteF ?_⟩
    generalize upd G5 t0 (.tup []) = G6 at s6 ⊢
    have hly6 := s6 _ _ hly4
    obtain ⟨ya, rfl⟩ := hfm.ref
    exact ⟨fun b o n1 n2 e => s6 _ _ (sg4 _ _ n1 n2 e), _, _, _, rfl, tr4.keep s6, wt'.put (by omega), hly6, al4.mono fun v u h => h.keep s6, ord_ne (tr4.keep s6) hly6 (ref_ne (List.mem_append_right _ List.mem_cons_self))⟩
  · obtain ⟨sg, kvs', ls', z, rfl, tr, wt', hly', al', ho'⟩ := hp
    rw [List.length_map, flen] at tr al'
    rw [Nat.sub_self] at tr
    exact qE D G' p r lo x ly vg t kvs' a b c ls' _ _ o g (hb.but2 ntx (fun xs e => by rw [hly] at e; cases e) sg) (rb.but2 rx ntx hly sg) rx (sg _ _ lox lol hlo) tr wt' hly' al' (fun G'' h => fin G'' fun b o n1 n2 e => h _ _ n1 n2 (sg _ _ n1 n2 e))
end
end Ev
set_option maxHeartbeats 1000000
namespace Ev
open PySem L2 PySem.Spec PyProof.Rows RZ
/-! _law_right, and the law. -/
section
variable {P : Program} {w : World} {K : PySem.W.Frag} {mg : Str → Option Value} {base : Heap}
theorem ok_right {f N S C Ct Cn : Addr} {fd : FuncData} (F : Fun K "_law_right" "_law_right" sLRight f fd) (T : Blt mg) (B : TB P w K mg base N S C Ct Cn) (RT : RCls K Ct) (RN : RCls K Cn) (D1 : Df P w K mg base 16 "_law_bare" ["_law_layout_so"] (spLBare 15)) (D2 : Df P w K mg base 19 "_law_drawn" ["_law_pen_here", "_law_rule_so", "_law_keys"] (spDrawn Ct Cn 14)) (D3 : Df P w K mg base 33 "_law_put_order" ["_law_tree_so"] spOrder) : FnOk P w K mg base CX0 34 f fd ["_law_pen_here", "_law_rule_so", "_law_keys"] (spRight Ct Cn) := by
  obtain ⟨f2, fd2, G2', g2, k2, b2⟩ := D2.ex
  obtain ⟨f3, fd3, G3', g3, k3, b3⟩ := D3.ex
  obtain ⟨fm, fdm, em, MT, GT, bT, kt⟩ := B.mak
  refine F.ok scLRight (fun vs H Q E h => ?_) (fun cdv A outer s H vs Q E hr h => ?_)
  · obtain ⟨p, L, r, Bd, n, row, rfl, _⟩ := h
    rfl
  · obtain ⟨p, L, r, Bd, n, row, rfl, n14, ob, ro, okn, hB, hp, kk⟩ := h
    obtain ⟨tE, hE, qE⟩ := right_puts (f := f) (cdv := cdv) (A := A) (outer := outer) (s := s) (H := H) (E := E) T B D1 hr
    refine ⟨_, (pss_cons (ps_set (i := 3) scLRight.nd rfl (.inl rfl) (pe_call G2' (hr.mono (by decide)) (by rfl) g2 k2 b2 .nil pass0 (pa_cons (pv 0) (pa_cons (pv 1) (pa_cons (pv 2) pa_nil)))))
    (pss_cons (ps_par (i := 4) (j := 5) (by rfl) scLRight.nd rfl rfl (by decide) rfl rfl (pa_cons (pe_call G3' hr (by rfl) g3 k3 b3 .nil pass0 (pa_cons (pv 3) pa_nil)) (pa_cons (pe_make (E := E0) MT GT (hr.mono (by decide)) (by rfl) B.g bT (.cons (show RelV (.ref em) (.ref em) from rfl) .nil) pass0 (pa_cons (pv 1) pa_nil)) pa_nil)) (by rfl))
    (pss_cons (ps_set (i := 6) scLRight.nd rfl (.inl rfl) (pe_lst pa_nil)) hE))), ?_⟩
    obtain ⟨xs, hpx⟩ := hp.some
    refine ⟨_, rfl, _, rfl, _, rfl, p, L, r, Bd, n, row, rfl, n14, Nat.le_refl _, ob, ro, okn, hB, hp, fun vg t0 H1 u1 p1 hb0 l0 f0 => ?_⟩
    have ob1 := ob.but hpx u1
    have g : Goal row.p row.q row.k (t0.lab 0) := ⟨by rw [Tr.lab_len, l0]; exact n14, by rw [Tr.lab_len]; exact Tr.lab_keys t0 0, Tr.lab_asc t0 0, Tr.lab_fair t0 0 f0⟩
    have hb := hb0.lab 0
    have ln : (t0.lab 0).keys.length = n := by rw [Tr.lab_len, l0]
    generalize t0.lab 0 = t at g hb ln
    subst ln
    refine ⟨_, rfl, vg, t, rfl, hb, g.len, g.ks, fun lo H2 s2 hlo => ?_⟩
    have ob2 := ob1.keep s2
    refine ⟨_, rfl, fun x dx nx nd ne => ?_⟩
    have sk : Same H2 (upd (upd H2 dx (.own x)) x (.ins C dx [])) := fun b u e => by
      rw [upd_ne (ne_of_none e nx), upd_ne (ne_of_none e nd)]; exact e
    refine ⟨x, dx, r, em, row, rfl, upd_same, ob2.keep sk, kt, fun H3 u3 tr3 => ⟨rfl, ?_⟩⟩
    have s3 : Same H2 H3 := fun b u e => u3 _ _ (ne_of_none e nx) (sk _ _ e)
    refine ⟨_, _, rfl, ?_⟩
    refine ⟨(by show 0 ≤ sizeLine; decide), fun ly nl => ?_⟩
    have s4 := same_new (o := .lst []) nl
    have h4 : upd H3 ly (.lst []) ly = some (.lst []) := upd_same
    have lol : lo ≠ ly := ne_of_none (s3 _ _ hlo) nl
    obtain ⟨l3, o3, h3⟩ := tr3.ord
    have hord : ∀ l, OrdAt N S C H3 x l → l ≠ ly := fun l ho => by
      rw [ord_uniq ho o3]
      exact ne_of_none h3 nl
    have hord4 := ord_keep s4 tr3 hord
    have nly1 : ∀ b o, H1 b = some o → b ≠ ly := fun b o e => ne_of_none (s3 _ _ (s2 _ _ e)) nl
    have nx1 : ∀ b o, H1 b = some o → b ≠ x := fun b o e => ne_of_none (s2 _ _ e) nx
    generalize upd H3 ly (.lst []) = H4 at s4 h4 hord4 ⊢
    have s14 : Same H1 H4 := s2.trans (s3.trans s4)
    have rb4 : RB K H4 r row.p row.q row.k := (ob1.keep s14).rb RT RN ro
    have rx : r ≠ x := by
      obtain ⟨⟨C', dx', fs', a', e1, _⟩, _⟩ := ob2.rb (K := K) RT RN ro
      exact ne_of_none e1 nx
    refine qE _ H4 p r lo x ly vg t row.p row.q row.k okn g (hb.keep s14) rb4 rx (s4 _ _ (s3 _ _ hlo)) lol (tr3.keep s4) h4 hord4 fun G' h => ?_
    have s1G : Same H1 G' := fun b o e => h _ _ (nx1 _ _ e) (nly1 _ _ e) (s14 _ _ e)
    exact kk G' (fun b o n1 e => s1G _ _ (u1 _ _ n1 e)) (p1.keep s1G)
end
end Ev
set_option maxHeartbeats 1000000
namespace Ev
open PySem L2 PySem.Spec PyProof.Rows RZ
def spLaw (K : PySem.W.Frag) : Sp := fun vs H Q _ => ∃ (a : Addr) (ns : List Int), vs = [.ref a] ∧ SqL K H a (ns.map V.int) ∧ ns.length ≤ 63 ∧ ∀ H', Q (.bl true) H'
section
variable {P : Program} {w : World} {K : PySem.W.Frag} {mg : Str → Option Value} {base : Heap}
theorem scLaw : FnScope ["_law_script", "_law_pen_here", "_law_lap", "_law_some"] ["_law_script"] (defScope sLaw) := ⟨rfl, rfl, rfl, by decide +kernel, rfl, by decide +kernel, by decide +kernel⟩
theorem ok_law {f Ct Cn : Addr} {fd : FuncData} (F : Fun K "law" "law" sLaw f fd) (T : Blt mg) (D1 : Df P w K mg base 1 "_law_pen" ["_law_script"] (spPen K)) (D2 : Df P w K mg base 1 "_law_draw" ["_law_pen_here", "_law_many"] spDraw) (D4 : Df P w K mg base 3 "_law_numbers" ["_law_pen_here"] spNumsL)
    (D5 : Df P w K mg base 8 "_law_rule" ["_law_some"] (spRule3 Ct Cn)) (D6 : Df P w K mg base 34 "_law_right" ["_law_pen_here", "_law_rule_so", "_law_keys"] (spRight Ct Cn)) : FnOk P w K mg base CX0 35 f fd ["_law_script"] (spLaw K) := by
  obtain ⟨f1, fd1, G1, g1, k1, b1⟩ := D1.ex
  obtain ⟨f2, fd2, G2, g2, k2, b2⟩ := D2.ex
  obtain ⟨f4, fd4, G4, g4, k4, b4⟩ := D4.ex
  obtain ⟨f5, fd5, G5, g5, k5, b5⟩ := D5.ex
  obtain ⟨f6, fd6, G6, g6, k6, b6⟩ := D6.ex
  refine F.ok scLaw (fun vs H Q E h => ?_) (fun cdv A outer s H vs Q E hr h => ?_)
  · obtain ⟨a, ns, rfl, _⟩ := h
    rfl
  · obtain ⟨a, ns, rfl, hS, hlen, kk⟩ := h
    refine ⟨_, (pss_cons (ps_set (i := 1) scLaw.nd rfl (.inl rfl) (pe_call G1 (hr.mono (by decide)) (by rfl) g1 k1 b1 .nil pass0 (pa_cons (pv 0) pa_nil)))
    (pss_cons (ps_for PassesOwn.never rfl (pi_range1 (by rfl) T.range (pa_cons pe_int pa_nil)) (pg_name (i := 2) scLaw.nd rfl (.inl rfl))
      (pss_cons (ps_set (i := 3) scLaw.nd rfl (.inl rfl) (pe_call G4 (hr.mono (by decide)) (by rfl) g4 k4 b4 .nil pass0 (pa_cons (pv 1) pa_nil)))
      (pss_cons (ps_if (pt_not (pt_val (pe_call G6 hr (by rfl) g6 k6 b6 .nil pass0 (pa_cons (pv 1) (pa_cons (pe_call G5 (hr.mono (by decide)) (by rfl) g5 k5 b5 .nil pass0 (pa_cons (pv 3) pa_nil)) (pa_cons (pe_call G2 (hr.mono (by decide)) (by rfl) g2 k2 b2 .nil pass0 (pa_cons (pv 1) (pa_cons pe_int pa_nil))) pa_nil))))))
        (pss_one (ps_ret pe_bl)) pss_nil)
      (pss_one (ps_if (pt_not (pt_val (pe_call G6 hr (by rfl) g6 k6 b6 .nil pass0 (pa_cons (pv 1) (pa_cons (pe_call G5 (hr.mono (by decide)) (by rfl) g5 k5 b5 .nil pass0 (pa_cons (pe_slice sl_tupA (pv 3) po_none (po_some pe_int)) pa_nil)) (pa_cons (pe_call G2 (hr.mono (by decide)) (by rfl) g2 k2 b2 .nil pass0 (pa_cons (pv 1) (pa_cons pe_int pa_nil))) pa_nil))))))
        (pss_one (ps_ret pe_bl)) pss_nil)))))
    (pss_one (ps_ret pe_bl)))), ?_⟩
    refine ⟨_, rfl, a, ns, rfl, hS, hlen, fun p L H1 np s1 pn0 => ?_⟩
    refine ⟨4, rfl, by decide, by decide, for_range (n := 4) (fun i σ H2 => (∃ v2 v3 : Option V, σ = [some (.ref a), some (.ref p), v2, v3]) ∧ Pen L H2 p (100 * (i : Int))) ⟨⟨_, _, rfl⟩, pn0.mono (by decide)⟩ (fun i σ H2 hi h => ?_) (fun σ H2 h => ?_)⟩
    · obtain ⟨⟨v2, v3, rfl⟩, pn⟩ := h
      refine ⟨_, rfl, p, L, _, rfl, by omega, pn, fun a0 p' q k t s' c H3 on ot nn ha0 t3 p3 => ?_⟩
      refine ⟨_, rfl, _, rfl, a0, .tn p' q k t s' c, rfl, ha0, ⟨on, ot⟩, fun r H4 s4 ob4 => ?_⟩
      have ha4 := s4 _ _ ha0
      have p4 := p3.keep s4
      obtain ⟨x4, hp4⟩ := p4.some
      refine ⟨_, rfl, p, L, _, _, rfl, by decide, by decide, by omega, p4, fun d H5 t5 p5 d0 d1 => ?_⟩
      obtain ⟨n, rfl⟩ := Int.eq_ofNat_of_zero_le d0
      have ha5 := But.tup ha4 p4 t5
      obtain ⟨x5, hp5⟩ := p5.some
      refine ⟨p, L, r, _, n, .tn p' q k t s' c, rfl, by omega, ob4.but hp4 t5, ⟨on, ot⟩, on, by omega, p5, fun H6 t6 p6 => ⟨true, rfl, iteF ?_⟩⟩
      have ha6 := But.tup ha5 p5 t6
      refine ⟨_, rfl, _, rfl, _, rfl, slA_any ha6 fun a1 H7 s7 ha7 => ?_⟩
      rw [show cutV (Row.tn p' q k t s' c).vs none (some 3) = (Row.tr p' q k).vs from cut3 _ _ _ _] at ha7
      have p7 := p6.keep s7
      refine ⟨a1, .tr p' q k, rfl, ha7, on, fun r2 H8 s8 ob8 => ?_⟩
      have p8 := p7.keep s8
      obtain ⟨x8, hp8⟩ := p8.some
      refine ⟨_, rfl, p, L, _, _, rfl, by decide, by decide, by omega, p8, fun d H9 t9 p9 e0 e1 => ?_⟩
      obtain ⟨m, rfl⟩ := Int.eq_ofNat_of_zero_le e0
      refine ⟨p, L, r2, _, m, .tr p' q k, rfl, by omega, ob8.but hp8 t9, on, on, by omega, p9, fun G t10 p10 => ⟨true, rfl, iteF ?_⟩⟩
      exact ⟨⟨_, _, rfl⟩, p10.mono (by omega)⟩
    · exact kk H2
end
end Ev
namespace Ev
open PySem L2 PySem.Spec PyProof.Rows
theorem kit_cls' {K : PySem.W.Frag} {t : Value} {C : Addr} (h1 : PySem.W.isClsIn K C = true) (h2 : PySem.W.typeIn K (.ref C) = some (.type "type")) (h3 : PySem.W.subIn K t (.ref C) = some true) : PySem.W.kitCls K t (.ref C) = some true := by
  have h1 : (PySem.W.clsIn K C).isSome = true := h1
  unfold PySem.W.kitCls
  simp only [h1, h2, h3]
  decide
theorem kit_own {K : PySem.W.Frag} {t : Value} {C : Addr} (h1 : PySem.W.isClsIn K C = true) (h2 : PySem.W.typeIn K (.ref C) = some (.type "type")) (h3 : PySem.W.subIn K t (.ref C) = some true) : PySem.W.kitOne K t (.ref C) = some true := by
  unfold PySem.W.kitOne
  split
  · rfl
  · exact kit_cls' h1 h2 h3
theorem fnr_of {P : Program} {w : World} {K : PySem.W.Frag} {mg : Str → Option Value} {base : Heap} {CX : CXT} {k : Nat} {f : Addr} {fd : FuncData} {ps : List Str} {sp : Sp} (F : FnOk P w K mg base CX k f fd ps sp) (b : Binds K fd ps []) : FnR P w K mg base CX k f sp := by
  intro A above s H us vs Q E room env rv hs
  have hl : us.length = ps.length := rv.length.symm.trans (F.len _ _ _ _ hs)
  have bt := b s us (env.mod.kin.keeps fun b o e => (env.bs b o e).1) (by rw [List.append_nil]; exact hl)
  rw [List.append_nil] at bt
  exact F.run A above s H ⟨us, []⟩ us vs Q E room env bt rv hs
theorem kit_clsB {K : PySem.W.Frag} {t : Value} {C : Addr} {b : Bool} (h1 : PySem.W.isClsIn K C = true) (h2 : PySem.W.typeIn K (.ref C) = some (.type "type")) (h3 : PySem.W.subIn K t (.ref C) = some b) : PySem.W.kitCls K t (.ref C) = some b := by
  have h1 : (PySem.W.clsIn K C).isSome = true := h1
  unfold PySem.W.kitCls
  simp only [h1, h2, h3]
  cases b <;> decide
theorem kit_clsN {K : PySem.W.Frag} {x : String} {C : Addr} (h1 : PySem.W.isClsIn K C = true) (h2 : PySem.W.typeIn K (.ref C) = some (.type "type")) (h3 : PySem.W.subIn K (.type x) (.ref C) = some false) : PySem.W.kitOne K (.type x) (.ref C) = some false := by
  unfold PySem.W.kitOne
  split
  · rename_i z
    have n : ((Value.type x) == (Value.ref C)) = false := by simp
    rw [n] at z
    cases z
  · exact kit_clsB h1 h2 h3
theorem kit_not {K : PySem.W.Frag} {D C : Addr} (h1 : PySem.W.isClsIn K C = true) (h2 : PySem.W.typeIn K (.ref C) = some (.type "type")) (h3 : PySem.W.subIn K (.ref D) (.ref C) = some false) (h4 : PySem.W.subIn K (.ref C) (.ref C) = some true) : PySem.W.kitOne K (.ref D) (.ref C) = some false := by
  unfold PySem.W.kitOne
  split
  · rename_i z
    by_cases e : D = C
    · rw [e, h4] at h3
      cases h3
    · have n : ((Value.ref D) == (Value.ref C)) = false := by simp [e]
      rw [n] at z
      cases z
  · exact kit_clsB h1 h2 h3
theorem sqT_K {K : PySem.W.Frag} {H : Hp} {a : Addr} {od : Option Addr} {us : List Value} {n : Nat} {sl : Array (Option Value)} {xs : List V} (h : K.lookup a = some ⟨.type "tuple", od, .seq us.toArray n, sl⟩) (hl : xs.length ≤ 1000) (r : Vals xs us) : SqT K H a xs := by
  have hl2 : us.length ≤ 1000 := by rw [← r.length]; exact hl
  exact .inr ⟨_, us.toArray, n, h, rfl, rfl, by rw [List.size_toArray]; exact Nat.le_trans hl2 (by decide), by simpa using r⟩
set_option maxHeartbeats 4000000 in
theorem all_mk {l : PySem.W.OpenLaw} {w : World} {K : PySem.W.Frag} {h : Heap} {mg : Str → Option Value} {f0 f1 f2 f3 f4 f5 f6 f7 f8 f9 f10 f11 f12 f13 f14 f15 f16 f17 f18 f19 f20 f21 f22 f23 f24 f25 f26 f27 f28 f29 f30 f31 f32 f33 f34 f35 f36 f37 Ct Cn ND ST TR CW T150 f150 T151 KD151 f151 f152 f153 f154 T155 f155 E155 T159 f159 f156 f157 f158 f160 f161 p162 f162 fa : Addr} {od0 an0 od1 an1 od2 an2 od3 an3 od4 an4 od5 an5 od6 an6 od7 an7 od8 an8 od9 an9 od10 an10 od11 an11 od12 an12 od13 an13 od14 an14 od15 an15 od16 an16 od17 an17 od18 an18 od19 an19 od20 an20 od21 an21 od22 an22 od23 an23 od24 an24 od25 an25 od26 an26 od27 an27 od28 an28 od29 an29 od30 an30 od31 an31 od32 an32 od33 an33 od34 an34 od35 an35 od36 an36 od37 an37 td150 od150 an150 td151 od151 an151 od152 an152 od153 an153 od154 an154 td155 od155 an155 odE155 td159 od159 an159 od156 an156 od157 an157 od158 an158 od160 an160 od161 an161 od162 an162 : Option Addr} {sl0 sl1 sl2 sl3 sl4 sl5 sl6 sl7 sl8 sl9 sl10 sl11 sl12 sl13 sl14 sl15 sl16 sl17 sl18 sl19 sl20 sl21 sl22 sl23 sl24 sl25 sl26 sl27 sl28 sl29 sl30 sl31 sl32 sl33 sl34 sl35 sl36 sl37 ts150 sl150 ts151 sl151 sl152 sl153 sl154 ts155 sl155 slE155 ts159 sl159 sl156 sl157 sl158 sl160 sl161 sl162 : Array (Option Value)} {oc0 dc0 pm0 cd0 ct0 kV0 oc1 dc1 pm1 cd1 ct1 kV1 oc2 dc2 pm2 cd2 ct2 kV2 oc3 dc3 pm3 cd3 ct3 kV3 oc4 dc4 pm4 cd4 ct4 kV4 oc5 dc5 pm5 cd5 ct5 kV5 oc6 dc6 pm6 cd6 ct6 kV6 oc7 dc7 pm7 cd7 ct7 kV7 oc8 dc8 pm8 cd8 ct8 kV8 oc9 dc9 pm9 cd9 ct9 kV9 oc10 dc10 pm10 cd10 ct10 kV10 oc11 dc11 pm11 cd11 ct11 kV11 oc12 dc12 pm12 cd12 ct12 kV12 oc13 dc13 pm13 cd13 ct13 kV13 oc14 dc14 pm14 cd14 ct14 kV14 oc15 dc15 pm15 cd15 ct15 kV15 oc16 dc16 pm16 cd16 ct16 kV16 oc17 dc17 pm17 cd17 ct17 kV17 oc18 dc18 pm18 cd18 ct18 kV18 oc19 dc19 pm19 cd19 ct19 kV19 oc20 dc20 pm20 cd20 ct20 kV20 oc21 dc21 pm21 cd21 ct21 kV21 oc22 dc22 pm22 cd22 ct22 kV22 oc23 dc23 pm23 cd23 ct23 kV23 oc24 dc24 pm24 cd24 ct24 kV24 oc25 dc25 pm25 cd25 ct25 kV25 oc26 dc26 pm26 cd26 ct26 kV26 oc27 dc27 pm27 cd27 ct27 kV27 oc28 dc28 pm28 cd28 ct28 kV28 oc29 dc29 pm29 cd29 ct29 kV29 oc30 dc30 pm30 cd30 ct30 kV30 oc31 dc31 pm31 cd31 ct31 kV31 oc32 dc32 pm32 cd32 ct32 kV32 oc33 dc33 pm33 cd33 ct33 kV33 oc34 dc34 pm34 cd34 ct34 kV34 oc35 dc35 pm35 cd35 ct35 kV35 oc36 dc36 pm36 cd36 ct36 kV36 oc37 dc37 pm37 cd37 ct37 kV37 tc150 oc150 dc150 pm150 cd150 ct150 kV150 tc151 oc151 dc151 pm151 cd151 ct151 oc152 dc152 pm152 cd152 ct152 kV152 oc153 dc153 pm153 cd153 ct153 kV153 oc154 dc154 pm154 cd154 ct154 kV154 tc155 oc155 dc155 pm155 cd155 ct155 kV155 tc159 oc159 dc159 pm159 cd159 ct159 kV159 oc156 dc156 pm156 cd156 ct156 kV156 oc157 dc157 pm157 cd157 ct157 kV157 oc158 dc158 pm158 cd158 ct158 kV158 oc160 dc160 pm160 cd160 ct160 kV160 oc161 dc161 pm161 cd161 ct161 kV161 oc162 dc162 pm162 cd162 ct162 kV162 : Value} {tt1500 tt1510 tk1510 tW tgP tgU tgH tgB tgM : Tok} {tn150 tn151 tn155 nE155 tn159 : Nat} {rs162 : List Value} (X : K.In h) (G : h.Ns mainGlobals mg) (hfa : mg "law" = some (.ref fa))
    (a0 : PySem.W.nsIn K mainGlobals "is_integer" = some (some (.ref f0)))
    (l0 : K.lookup f0 = some ⟨oc0, od0, .func (PySem.W.fnOf "is_integer" "is_integer" (defArgs sIsInt) (defBody sIsInt) (defScope sIsInt) .none kV0 dc0 pm0 an0 cd0 ct0), sl0⟩)
    (c0 : PySem.W.codeIn K cd0 "is_integer" = true)
    (k0 : PySem.W.keepIn K (.ref f0) = true)
    (a1 : PySem.W.nsIn K mainGlobals "is_within" = some (some (.ref f1)))
    (l1 : K.lookup f1 = some ⟨oc1, od1, .func (PySem.W.fnOf "is_within" "is_within" (defArgs sWithin) (defBody sWithin) (defScope sWithin) .none kV1 dc1 pm1 an1 cd1 ct1), sl1⟩)
    (c1 : PySem.W.codeIn K cd1 "is_within" = true)
    (k1 : PySem.W.keepIn K (.ref f1) = true)
    (a2 : PySem.W.nsIn K mainGlobals "is_pair" = some (some (.ref f2)))
    (l2 : K.lookup f2 = some ⟨oc2, od2, .func (PySem.W.fnOf "is_pair" "is_pair" (defArgs sPair) (defBody sPair) (defScope sPair) .none kV2 dc2 pm2 an2 cd2 ct2), sl2⟩)
    (c2 : PySem.W.codeIn K cd2 "is_pair" = true)
    (k2 : PySem.W.keepIn K (.ref f2) = true)
    (a3 : PySem.W.nsIn K mainGlobals "is_times" = some (some (.ref f3)))
    (l3 : K.lookup f3 = some ⟨oc3, od3, .func (PySem.W.fnOf "is_times" "is_times" (defArgs sTimes) (defBody sTimes) (defScope sTimes) .none kV3 dc3 pm3 an3 cd3 ct3), sl3⟩)
    (c3 : PySem.W.codeIn K cd3 "is_times" = true)
    (k3 : PySem.W.keepIn K (.ref f3) = true)
    (a4 : PySem.W.nsIn K mainGlobals "is_plus" = some (some (.ref f4)))
    (l4 : K.lookup f4 = some ⟨oc4, od4, .func (PySem.W.fnOf "is_plus" "is_plus" (defArgs sPlus) (defBody sPlus) (defScope sPlus) .none kV4 dc4 pm4 an4 cd4 ct4), sl4⟩)
    (c4 : PySem.W.codeIn K cd4 "is_plus" = true)
    (k4 : PySem.W.keepIn K (.ref f4) = true)
    (a5 : PySem.W.nsIn K mainGlobals "is_turn" = some (some (.ref f5)))
    (l5 : K.lookup f5 = some ⟨oc5, od5, .func (PySem.W.fnOf "is_turn" "is_turn" (defArgs sTurn) (defBody sTurn) (defScope sTurn) .none kV5 dc5 pm5 an5 cd5 ct5), sl5⟩)
    (c5 : PySem.W.codeIn K cd5 "is_turn" = true)
    (k5 : PySem.W.keepIn K (.ref f5) = true)
    (a6 : PySem.W.nsIn K mainGlobals "need_times" = some (some (.ref f6)))
    (l6 : K.lookup f6 = some ⟨oc6, od6, .func (PySem.W.fnOf "need_times" "need_times" (defArgs sNeedT) (defBody sNeedT) (defScope sNeedT) .none kV6 dc6 pm6 an6 cd6 ct6), sl6⟩)
    (c6 : PySem.W.codeIn K cd6 "need_times" = true)
    (k6 : PySem.W.keepIn K (.ref f6) = true)
    (a7 : PySem.W.nsIn K mainGlobals "has_halves" = some (some (.ref f7)))
    (l7 : K.lookup f7 = some ⟨oc7, od7, .func (PySem.W.fnOf "has_halves" "has_halves" (defArgs sHalves) (defBody sHalves) (defScope sHalves) .none kV7 dc7 pm7 an7 cd7 ct7), sl7⟩)
    (c7 : PySem.W.codeIn K cd7 "has_halves" = true)
    (k7 : PySem.W.keepIn K (.ref f7) = true)
    (a8 : PySem.W.nsIn K mainGlobals "need_halves" = some (some (.ref f8)))
    (l8 : K.lookup f8 = some ⟨oc8, od8, .func (PySem.W.fnOf "need_halves" "need_halves" (defArgs sNeedH) (defBody sNeedH) (defScope sNeedH) .none kV8 dc8 pm8 an8 cd8 ct8), sl8⟩)
    (c8 : PySem.W.codeIn K cd8 "need_halves" = true)
    (k8 : PySem.W.keepIn K (.ref f8) = true)
    (a9 : PySem.W.nsIn K mainGlobals "need_rule" = some (some (.ref f9)))
    (l9 : K.lookup f9 = some ⟨oc9, od9, .func (PySem.W.fnOf "need_rule" "need_rule" (defArgs sNeedRule) (defBody sNeedRule) (defScope sNeedRule) .none kV9 dc9 pm9 an9 cd9 ct9), sl9⟩)
    (c9 : PySem.W.codeIn K cd9 "need_rule" = true)
    (k9 : PySem.W.keepIn K (.ref f9) = true)
    (a10 : PySem.W.nsIn K mainGlobals "need_weight" = some (some (.ref f10)))
    (l10 : K.lookup f10 = some ⟨oc10, od10, .func (PySem.W.fnOf "need_weight" "need_weight" (defArgs sNeedW) (defBody sNeedW) (defScope sNeedW) .none kV10 dc10 pm10 an10 cd10 ct10), sl10⟩)
    (c10 : PySem.W.codeIn K cd10 "need_weight" = true)
    (k10 : PySem.W.keepIn K (.ref f10) = true)
    (a11 : PySem.W.nsIn K mainGlobals "is_key" = some (some (.ref f11)))
    (l11 : K.lookup f11 = some ⟨oc11, od11, .func (PySem.W.fnOf "is_key" "is_key" (defArgs sIsKey) (defBody sIsKey) (defScope sIsKey) .none kV11 dc11 pm11 an11 cd11 ct11), sl11⟩)
    (c11 : PySem.W.codeIn K cd11 "is_key" = true)
    (k11 : PySem.W.keepIn K (.ref f11) = true)
    (a12 : PySem.W.nsIn K mainGlobals "need_key" = some (some (.ref f12)))
    (l12 : K.lookup f12 = some ⟨oc12, od12, .func (PySem.W.fnOf "need_key" "need_key" (defArgs sNeedKey) (defBody sNeedKey) (defScope sNeedKey) .none kV12 dc12 pm12 an12 cd12 ct12), sl12⟩)
    (c12 : PySem.W.codeIn K cd12 "need_key" = true)
    (k12 : PySem.W.keepIn K (.ref f12) = true)
    (a13 : PySem.W.nsIn K mainGlobals "need_pairs" = some (some (.ref f13)))
    (l13 : K.lookup f13 = some ⟨oc13, od13, .func (PySem.W.fnOf "need_pairs" "need_pairs" (defArgs sNeedPairs) (defBody sNeedPairs) (defScope sNeedPairs) .none kV13 dc13 pm13 an13 cd13 ct13), sl13⟩)
    (c13 : PySem.W.codeIn K cd13 "need_pairs" = true)
    (k13 : PySem.W.keepIn K (.ref f13) = true)
    (a14 : PySem.W.nsIn K mainGlobals "weight_of" = some (some (.ref f14)))
    (l14 : K.lookup f14 = some ⟨oc14, od14, .func (PySem.W.fnOf "weight_of" "weight_of" (defArgs sWeightOf) (defBody sWeightOf) (defScope sWeightOf) .none kV14 dc14 pm14 an14 cd14 ct14), sl14⟩)
    (c14 : PySem.W.codeIn K cd14 "weight_of" = true)
    (k14 : PySem.W.keepIn K (.ref f14) = true)
    (a15 : PySem.W.nsIn K mainGlobals "form_of" = some (some (.ref f15)))
    (l15 : K.lookup f15 = some ⟨oc15, od15, .func (PySem.W.fnOf "form_of" "form_of" (defArgs sFormOf) (defBody sFormOf) (defScope sFormOf) .none kV15 dc15 pm15 an15 cd15 ct15), sl15⟩)
    (c15 : PySem.W.codeIn K cd15 "form_of" = true)
    (k15 : PySem.W.keepIn K (.ref f15) = true)
    (a16 : PySem.W.nsIn K mainGlobals "nodes_of" = some (some (.ref f16)))
    (l16 : K.lookup f16 = some ⟨oc16, od16, .func (PySem.W.fnOf "nodes_of" "nodes_of" (defArgs sNodesOf) (defBody sNodesOf) (defScope sNodesOf) .none kV16 dc16 pm16 an16 cd16 ct16), sl16⟩)
    (c16 : PySem.W.codeIn K cd16 "nodes_of" = true)
    (k16 : PySem.W.keepIn K (.ref f16) = true)
    (a17 : PySem.W.nsIn K mainGlobals "are_fair" = some (some (.ref f17)))
    (l17 : K.lookup f17 = some ⟨oc17, od17, .func (PySem.W.fnOf "are_fair" "are_fair" (defArgs sFair) (defBody sFair) (defScope sFair) .none kV17 dc17 pm17 an17 cd17 ct17), sl17⟩)
    (c17 : PySem.W.codeIn K cd17 "are_fair" = true)
    (k17 : PySem.W.keepIn K (.ref f17) = true)
    (a18 : PySem.W.nsIn K mainGlobals "balanced" = some (some (.ref f18)))
    (l18 : K.lookup f18 = some ⟨oc18, od18, .func (PySem.W.fnOf "balanced" "balanced" (defArgs sBalanced) (defBody sBalanced) (defScope sBalanced) .none kV18 dc18 pm18 an18 cd18 ct18), sl18⟩)
    (c18 : PySem.W.codeIn K cd18 "balanced" = true)
    (k18 : PySem.W.keepIn K (.ref f18) = true)
    (a19 : PySem.W.nsIn K mainGlobals "mended" = some (some (.ref f19)))
    (l19 : K.lookup f19 = some ⟨oc19, od19, .func (PySem.W.fnOf "mended" "mended" (defArgs sMended) (defBody sMended) (defScope sMended) .none kV19 dc19 pm19 an19 cd19 ct19), sl19⟩)
    (c19 : PySem.W.codeIn K cd19 "mended" = true)
    (k19 : PySem.W.keepIn K (.ref f19) = true)
    (a20 : PySem.W.nsIn K mainGlobals "with_key" = some (some (.ref f20)))
    (l20 : K.lookup f20 = some ⟨oc20, od20, .func (PySem.W.fnOf "with_key" "with_key" (defArgs sWithKey) (defBody sWithKey) (defScope sWithKey) .none kV20 dc20 pm20 an20 cd20 ct20), sl20⟩)
    (c20 : PySem.W.codeIn K cd20 "with_key" = true)
    (k20 : PySem.W.keepIn K (.ref f20) = true)
    (a21 : PySem.W.nsIn K mainGlobals "without_key" = some (some (.ref f21)))
    (l21 : K.lookup f21 = some ⟨oc21, od21, .func (PySem.W.fnOf "without_key" "without_key" (defArgs sWithoutKey) (defBody sWithoutKey) (defScope sWithoutKey) .none kV21 dc21 pm21 an21 cd21 ct21), sl21⟩)
    (c21 : PySem.W.codeIn K cd21 "without_key" = true)
    (k21 : PySem.W.keepIn K (.ref f21) = true)
    (a22 : PySem.W.nsIn K mainGlobals "first_from" = some (some (.ref f22)))
    (l22 : K.lookup f22 = some ⟨oc22, od22, .func (PySem.W.fnOf "first_from" "first_from" (defArgs sFirstFrom) (defBody sFirstFrom) (defScope sFirstFrom) .none kV22 dc22 pm22 an22 cd22 ct22), sl22⟩)
    (c22 : PySem.W.codeIn K cd22 "first_from" = true)
    (k22 : PySem.W.keepIn K (.ref f22) = true)
    (a23 : PySem.W.nsIn K mainGlobals "with_entries" = some (some (.ref f23)))
    (l23 : K.lookup f23 = some ⟨oc23, od23, .func (PySem.W.fnOf "with_entries" "with_entries" (defArgs sWithEntries) (defBody sWithEntries) (defScope sWithEntries) .none kV23 dc23 pm23 an23 cd23 ct23), sl23⟩)
    (c23 : PySem.W.codeIn K cd23 "with_entries" = true)
    (k23 : PySem.W.keepIn K (.ref f23) = true)
    (a24 : PySem.W.nsIn K mainGlobals "without_entry" = some (some (.ref f24)))
    (l24 : K.lookup f24 = some ⟨oc24, od24, .func (PySem.W.fnOf "without_entry" "without_entry" (defArgs sWithoutEntry) (defBody sWithoutEntry) (defScope sWithoutEntry) .none kV24 dc24 pm24 an24 cd24 ct24), sl24⟩)
    (c24 : PySem.W.codeIn K cd24 "without_entry" = true)
    (k24 : PySem.W.keepIn K (.ref f24) = true)
    (a25 : PySem.W.nsIn K mainGlobals "unfair_keys" = some (some (.ref f25)))
    (l25 : K.lookup f25 = some ⟨oc25, od25, .func (PySem.W.fnOf "unfair_keys" "unfair_keys" (defArgs sUnfairKeys) (defBody sUnfairKeys) (defScope sUnfairKeys) .none kV25 dc25 pm25 an25 cd25 ct25), sl25⟩)
    (c25 : PySem.W.codeIn K cd25 "unfair_keys" = true)
    (k25 : PySem.W.keepIn K (.ref f25) = true)
    (a26 : PySem.W.nsIn K mainGlobals "_law_pen" = some (some (.ref f26)))
    (l26 : K.lookup f26 = some ⟨oc26, od26, .func (PySem.W.fnOf "_law_pen" "_law_pen" (defArgs sPen) (defBody sPen) (defScope sPen) .none kV26 dc26 pm26 an26 cd26 ct26), sl26⟩)
    (c26 : PySem.W.codeIn K cd26 "_law_pen" = true)
    (k26 : PySem.W.keepIn K (.ref f26) = true)
    (a27 : PySem.W.nsIn K mainGlobals "_law_draw" = some (some (.ref f27)))
    (l27 : K.lookup f27 = some ⟨oc27, od27, .func (PySem.W.fnOf "_law_draw" "_law_draw" (defArgs sDraw) (defBody sDraw) (defScope sDraw) .none kV27 dc27 pm27 an27 cd27 ct27), sl27⟩)
    (c27 : PySem.W.codeIn K cd27 "_law_draw" = true)
    (k27 : PySem.W.keepIn K (.ref f27) = true)
    (a28 : PySem.W.nsIn K mainGlobals "_law_pick" = some (some (.ref f28)))
    (l28 : K.lookup f28 = some ⟨oc28, od28, .func (PySem.W.fnOf "_law_pick" "_law_pick" (defArgs sPick) (defBody sPick) (defScope sPick) .none kV28 dc28 pm28 an28 cd28 ct28), sl28⟩)
    (c28 : PySem.W.codeIn K cd28 "_law_pick" = true)
    (k28 : PySem.W.keepIn K (.ref f28) = true)
    (a29 : PySem.W.nsIn K mainGlobals "_law_numbers" = some (some (.ref f29)))
    (l29 : K.lookup f29 = some ⟨oc29, od29, .func (PySem.W.fnOf "_law_numbers" "_law_numbers" (defArgs sLNumbers) (defBody sLNumbers) (defScope sLNumbers) .none kV29 dc29 pm29 an29 cd29 ct29), sl29⟩)
    (c29 : PySem.W.codeIn K cd29 "_law_numbers" = true)
    (k29 : PySem.W.keepIn K (.ref f29) = true)
    (a30 : PySem.W.nsIn K mainGlobals "_law_rule" = some (some (.ref f30)))
    (l30 : K.lookup f30 = some ⟨oc30, od30, .func (PySem.W.fnOf "_law_rule" "_law_rule" (defArgs sLRule) (defBody sLRule) (defScope sLRule) .none kV30 dc30 pm30 an30 cd30 ct30), sl30⟩)
    (c30 : PySem.W.codeIn K cd30 "_law_rule" = true)
    (k30 : PySem.W.keepIn K (.ref f30) = true)
    (a31 : PySem.W.nsIn K mainGlobals "_law_bare" = some (some (.ref f31)))
    (l31 : K.lookup f31 = some ⟨oc31, od31, .func (PySem.W.fnOf "_law_bare" "_law_bare" (defArgs sLBare) (defBody sLBare) (defScope sLBare) .none kV31 dc31 pm31 an31 cd31 ct31), sl31⟩)
    (c31 : PySem.W.codeIn K cd31 "_law_bare" = true)
    (k31 : PySem.W.keepIn K (.ref f31) = true)
    (a32 : PySem.W.nsIn K mainGlobals "_law_weight_of" = some (some (.ref f32)))
    (l32 : K.lookup f32 = some ⟨oc32, od32, .func (PySem.W.fnOf "_law_weight_of" "_law_weight_of" (defArgs sLWeightOf) (defBody sLWeightOf) (defScope sLWeightOf) .none kV32 dc32 pm32 an32 cd32 ct32), sl32⟩)
    (c32 : PySem.W.codeIn K cd32 "_law_weight_of" = true)
    (k32 : PySem.W.keepIn K (.ref f32) = true)
    (a33 : PySem.W.nsIn K mainGlobals "_law_without_leaf" = some (some (.ref f33)))
    (l33 : K.lookup f33 = some ⟨oc33, od33, .func (PySem.W.fnOf "_law_without_leaf" "_law_without_leaf" (defArgs sLWithoutLeaf) (defBody sLWithoutLeaf) (defScope sLWithoutLeaf) .none kV33 dc33 pm33 an33 cd33 ct33), sl33⟩)
    (c33 : PySem.W.codeIn K cd33 "_law_without_leaf" = true)
    (k33 : PySem.W.keepIn K (.ref f33) = true)
    (a34 : PySem.W.nsIn K mainGlobals "_law_put_order" = some (some (.ref f34)))
    (l34 : K.lookup f34 = some ⟨oc34, od34, .func (PySem.W.fnOf "_law_put_order" "_law_put_order" (defArgs sLPutOrder) (defBody sLPutOrder) (defScope sLPutOrder) .none kV34 dc34 pm34 an34 cd34 ct34), sl34⟩)
    (c34 : PySem.W.codeIn K cd34 "_law_put_order" = true)
    (k34 : PySem.W.keepIn K (.ref f34) = true)
    (a35 : PySem.W.nsIn K mainGlobals "_law_drawn" = some (some (.ref f35)))
    (l35 : K.lookup f35 = some ⟨oc35, od35, .func (PySem.W.fnOf "_law_drawn" "_law_drawn" (defArgs sLDrawn) (defBody sLDrawn) (defScope sLDrawn) .none kV35 dc35 pm35 an35 cd35 ct35), sl35⟩)
    (c35 : PySem.W.codeIn K cd35 "_law_drawn" = true)
    (k35 : PySem.W.keepIn K (.ref f35) = true)
    (a36 : PySem.W.nsIn K mainGlobals "_law_right" = some (some (.ref f36)))
    (l36 : K.lookup f36 = some ⟨oc36, od36, .func (PySem.W.fnOf "_law_right" "_law_right" (defArgs sLRight) (defBody sLRight) (defScope sLRight) .none kV36 dc36 pm36 an36 cd36 ct36), sl36⟩)
    (c36 : PySem.W.codeIn K cd36 "_law_right" = true)
    (k36 : PySem.W.keepIn K (.ref f36) = true)
    (a37 : PySem.W.nsIn K mainGlobals "law" = some (some (.ref f37)))
    (l37 : K.lookup f37 = some ⟨oc37, od37, .func (PySem.W.fnOf "law" "law" (defArgs sLaw) (defBody sLaw) (defScope sLaw) .none kV37 dc37 pm37 an37 cd37 ct37), sl37⟩)
    (c37 : PySem.W.codeIn K cd37 "law" = true)
    (k37 : PySem.W.keepIn K (.ref f37) = true)
    (aCt : PySem.W.nsIn K mainGlobals "TryRule" = some (some (.ref Ct)))
    (pgCt : PySem.W.plainGet K Ct Str.empty = true)
    (hdCt : PySem.W.hasDictIn K Ct = true)
    (poCt : PySem.W.plainOver K Ct = true)
    (saCt : PySem.W.findIn K (.ref Ct) "__setattr__" = some (some (.builtin "object.__setattr__")))
    (mkCt : PySem.W.makesIn K Ct = true)
    (kcCt : PySem.W.keepIn K (.ref Ct) = true)
    (n0Ct : PySem.W.findIn K (.ref Ct) "times" = some none)
    (n1Ct : PySem.W.findIn K (.ref Ct) "plus" = some none)
    (n2Ct : PySem.W.findIn K (.ref Ct) "turn" = some none)
    (n3Ct : PySem.W.findIn K (.ref Ct) "turn_plus" = some none)
    (aCn : PySem.W.nsIn K mainGlobals "TurnRule" = some (some (.ref Cn)))
    (pgCn : PySem.W.plainGet K Cn Str.empty = true)
    (hdCn : PySem.W.hasDictIn K Cn = true)
    (poCn : PySem.W.plainOver K Cn = true)
    (saCn : PySem.W.findIn K (.ref Cn) "__setattr__" = some (some (.builtin "object.__setattr__")))
    (mkCn : PySem.W.makesIn K Cn = true)
    (kcCn : PySem.W.keepIn K (.ref Cn) = true)
    (n0Cn : PySem.W.findIn K (.ref Cn) "times" = some none)
    (n1Cn : PySem.W.findIn K (.ref Cn) "plus" = some none)
    (n2Cn : PySem.W.findIn K (.ref Cn) "turn" = some none)
    (n3Cn : PySem.W.findIn K (.ref Cn) "turn_plus" = some none)
    (aND : PySem.W.nsIn K mainGlobals "Node" = some (some (.ref ND)))
    (pgND : PySem.W.plainGet K ND Str.empty = true)
    (hdND : PySem.W.hasDictIn K ND = true)
    (poND : PySem.W.plainOver K ND = true)
    (saND : PySem.W.findIn K (.ref ND) "__setattr__" = some (some (.builtin "object.__setattr__")))
    (mkND : PySem.W.makesIn K ND = true)
    (kcND : PySem.W.keepIn K (.ref ND) = true)
    (n0ND : PySem.W.findIn K (.ref ND) "left" = some none)
    (n1ND : PySem.W.findIn K (.ref ND) "key" = some none)
    (n2ND : PySem.W.findIn K (.ref ND) "right" = some none)
    (n3ND : PySem.W.findIn K (.ref ND) "weight" = some none)
    (n4ND : PySem.W.findIn K (.ref ND) "form" = some none)
    (aST : PySem.W.nsIn K mainGlobals "State" = some (some (.ref ST)))
    (pgST : PySem.W.plainGet K ST Str.empty = true)
    (hdST : PySem.W.hasDictIn K ST = true)
    (poST : PySem.W.plainOver K ST = true)
    (saST : PySem.W.findIn K (.ref ST) "__setattr__" = some (some (.builtin "object.__setattr__")))
    (mkST : PySem.W.makesIn K ST = true)
    (kcST : PySem.W.keepIn K (.ref ST) = true)
    (n0ST : PySem.W.findIn K (.ref ST) "own_rule" = some none)
    (n1ST : PySem.W.findIn K (.ref ST) "root" = some none)
    (n2ST : PySem.W.findIn K (.ref ST) "order" = some none)
    (n3ST : PySem.W.findIn K (.ref ST) "worths" = some none)
    (aTR : PySem.W.nsIn K mainGlobals "Tree" = some (some (.ref TR)))
    (pgTR : PySem.W.plainGet K TR Str.empty = true)
    (hdTR : PySem.W.hasDictIn K TR = true)
    (poTR : PySem.W.plainOver K TR = true)
    (saTR : PySem.W.findIn K (.ref TR) "__setattr__" = some (some (.builtin "object.__setattr__")))
    (mkTR : PySem.W.makesIn K TR = true)
    (kcTR : PySem.W.keepIn K (.ref TR) = true)
    (n0TR : PySem.W.findIn K (.ref TR) "_saved" = some none)
    (n1TR : PySem.W.findIn K (.ref TR) "_state" = some none)
    (aCW : PySem.W.nsIn K mainGlobals "WeightRule" = some (some (.ref CW)))
    (hcCt : PySem.W.findIn K (.ref Ct) "__class__" = some (some (.builtin "object.__class__")))
    (moCt : PySem.W.mroIn K Ct (.type "object") = some true)
    (suCt : PySem.W.subIn K (.ref Ct) (.ref CW) = some true)
    (hcCn : PySem.W.findIn K (.ref Cn) "__class__" = some (some (.builtin "object.__class__")))
    (moCn : PySem.W.mroIn K Cn (.type "object") = some true)
    (suCn : PySem.W.subIn K (.ref Cn) (.ref CW) = some true)
    (icCW : PySem.W.isClsIn K CW = true)
    (ttCW : PySem.W.typeIn K (.ref CW) = some (.type "type"))
    (icST : PySem.W.isClsIn K ST = true)
    (ttST : PySem.W.typeIn K (.ref ST) = some (.type "type"))
    (snTS : PySem.W.subIn K (.type "tuple") (.ref ST) = some false)
    (ikn : PySem.W.specialIn K (.builtin "object.__class__") "__get__" = some (some (.builtin "getset_descriptor.__get__")))
    (ikt : PySem.W.takesIn K (.builtin "object.__class__") = some true)
    (m150 : PySem.W.findIn K (.ref Ct) "__init__" = some (some (.ref f150)))
    (i150 : PySem.W.isFn K (.ref f150) = true)
    (l150 : K.lookup f150 = some ⟨oc150, od150, .func (PySem.W.fnOf "__init__" "TryRule.__init__" (defArgs sTryInit) (defBody sTryInit) (defScope sTryInit) (.ref T150) kV150 dc150 pm150 an150 cd150 ct150), sl150⟩)
    (c150 : PySem.W.codeIn K cd150 "TryRule.__init__" = true)
    (k150 : PySem.W.keepIn K (.ref f150) = true)
    (t150 : K.lookup T150 = some ⟨tc150, td150, .seq #[Value.int 0 tt1500] tn150, ts150⟩)
    (m151 : PySem.W.findIn K (.ref Cn) "__init__" = some (some (.ref f151)))
    (i151 : PySem.W.isFn K (.ref f151) = true)
    (l151 : K.lookup f151 = some ⟨oc151, od151, .func (PySem.W.fnOf "__init__" "TurnRule.__init__" (defArgs sTurnInit) (defBody sTurnInit) (defScope sTurnInit) (.ref T151) (.ref KD151) dc151 pm151 an151 cd151 ct151), sl151⟩)
    (c151 : PySem.W.codeIn K cd151 "TurnRule.__init__" = true)
    (k151 : PySem.W.keepIn K (.ref f151) = true)
    (t151 : K.lookup T151 = some ⟨tc151, td151, .seq #[Value.int 0 tt1510] tn151, ts151⟩)
    (kd1510 : PySem.W.nsIn K KD151 "turn_plus" = some (some (.int 0 tk1510)))
    (m152 : PySem.W.findIn K (.ref Ct) "__call__" = some (some (.ref f152)))
    (i152 : PySem.W.isFn K (.ref f152) = true)
    (l152 : K.lookup f152 = some ⟨oc152, od152, .func (PySem.W.fnOf "__call__" "WeightRule.__call__" (defArgs sWeightRule_call) (defBody sWeightRule_call) (defScope sWeightRule_call) .none kV152 dc152 pm152 an152 cd152 ct152), sl152⟩)
    (c152 : PySem.W.codeIn K cd152 "WeightRule.__call__" = true)
    (k152 : PySem.W.keepIn K (.ref f152) = true)
    (m252 : PySem.W.findIn K (.ref Cn) "__call__" = some (some (.ref f152)))
    (fi152 : PySem.W.fnIn K f152 = true)
    (m153 : PySem.W.findIn K (.ref ND) "__init__" = some (some (.ref f153)))
    (i153 : PySem.W.isFn K (.ref f153) = true)
    (l153 : K.lookup f153 = some ⟨oc153, od153, .func (PySem.W.fnOf "__init__" "Node.__init__" (defArgs sNode_init) (defBody sNode_init) (defScope sNode_init) .none kV153 dc153 pm153 an153 cd153 ct153), sl153⟩)
    (c153 : PySem.W.codeIn K cd153 "Node.__init__" = true)
    (k153 : PySem.W.keepIn K (.ref f153) = true)
    (m154 : PySem.W.findIn K (.ref ST) "__init__" = some (some (.ref f154)))
    (i154 : PySem.W.isFn K (.ref f154) = true)
    (l154 : K.lookup f154 = some ⟨oc154, od154, .func (PySem.W.fnOf "__init__" "State.__init__" (defArgs sState_init) (defBody sState_init) (defScope sState_init) .none kV154 dc154 pm154 an154 cd154 ct154), sl154⟩)
    (c154 : PySem.W.codeIn K cd154 "State.__init__" = true)
    (k154 : PySem.W.keepIn K (.ref f154) = true)
    (m155 : PySem.W.findIn K (.ref TR) "__init__" = some (some (.ref f155)))
    (i155 : PySem.W.isFn K (.ref f155) = true)
    (l155 : K.lookup f155 = some ⟨oc155, od155, .func (PySem.W.fnOf "__init__" "Tree.__init__" (defArgs sTree_init) (defBody sTree_init) (defScope sTree_init) (.ref T155) kV155 dc155 pm155 an155 cd155 ct155), sl155⟩)
    (c155 : PySem.W.codeIn K cd155 "Tree.__init__" = true)
    (k155 : PySem.W.keepIn K (.ref f155) = true)
    (t155 : K.lookup T155 = some ⟨tc155, td155, .seq #[.ref E155] tn155, ts155⟩)
    (lE155 : K.lookup E155 = some ⟨.type "tuple", odE155, .seq #[] nE155, slE155⟩)
    (m159 : PySem.W.findIn K (.ref TR) "put" = some (some (.ref f159)))
    (i159 : PySem.W.isFn K (.ref f159) = true)
    (l159 : K.lookup f159 = some ⟨oc159, od159, .func (PySem.W.fnOf "put" "Tree.put" (defArgs sTree_put) (defBody sTree_put) (defScope sTree_put) (.ref T159) kV159 dc159 pm159 an159 cd159 ct159), sl159⟩)
    (c159 : PySem.W.codeIn K cd159 "Tree.put" = true)
    (k159 : PySem.W.keepIn K (.ref f159) = true)
    (t159 : K.lookup T159 = some ⟨tc159, td159, .seq #[.none] tn159, ts159⟩)
    (m156 : PySem.W.findIn K (.ref TR) "__len__" = some (some (.ref f156)))
    (i156 : PySem.W.isFn K (.ref f156) = true)
    (l156 : K.lookup f156 = some ⟨oc156, od156, .func (PySem.W.fnOf "__len__" "Reading.__len__" (defArgs sReading_len) (defBody sReading_len) (defScope sReading_len) .none kV156 dc156 pm156 an156 cd156 ct156), sl156⟩)
    (c156 : PySem.W.codeIn K cd156 "Reading.__len__" = true)
    (k156 : PySem.W.keepIn K (.ref f156) = true)
    (m157 : PySem.W.findIn K (.ref TR) "__iter__" = some (some (.ref f157)))
    (i157 : PySem.W.isFn K (.ref f157) = true)
    (l157 : K.lookup f157 = some ⟨oc157, od157, .func (PySem.W.fnOf "__iter__" "Reading.__iter__" (defArgs sReading_iter) (defBody sReading_iter) (defScope sReading_iter) .none kV157 dc157 pm157 an157 cd157 ct157), sl157⟩)
    (c157 : PySem.W.codeIn K cd157 "Reading.__iter__" = true)
    (k157 : PySem.W.keepIn K (.ref f157) = true)
    (m158 : PySem.W.findIn K (.ref TR) "__contains__" = some (some (.ref f158)))
    (i158 : PySem.W.isFn K (.ref f158) = true)
    (l158 : K.lookup f158 = some ⟨oc158, od158, .func (PySem.W.fnOf "__contains__" "Reading.__contains__" (defArgs sReading_contains) (defBody sReading_contains) (defScope sReading_contains) .none kV158 dc158 pm158 an158 cd158 ct158), sl158⟩)
    (c158 : PySem.W.codeIn K cd158 "Reading.__contains__" = true)
    (k158 : PySem.W.keepIn K (.ref f158) = true)
    (m160 : PySem.W.findIn K (.ref TR) "drop" = some (some (.ref f160)))
    (i160 : PySem.W.isFn K (.ref f160) = true)
    (l160 : K.lookup f160 = some ⟨oc160, od160, .func (PySem.W.fnOf "drop" "Tree.drop" (defArgs sTree_drop) (defBody sTree_drop) (defScope sTree_drop) .none kV160 dc160 pm160 an160 cd160 ct160), sl160⟩)
    (c160 : PySem.W.codeIn K cd160 "Tree.drop" = true)
    (k160 : PySem.W.keepIn K (.ref f160) = true)
    (m161 : PySem.W.findIn K (.ref TR) "unfair" = some (some (.ref f161)))
    (i161 : PySem.W.isFn K (.ref f161) = true)
    (l161 : K.lookup f161 = some ⟨oc161, od161, .func (PySem.W.fnOf "unfair" "Tree.unfair" (defArgs sTree_unfair) (defBody sTree_unfair) (defScope sTree_unfair) .none kV161 dc161 pm161 an161 cd161 ct161), sl161⟩)
    (c161 : PySem.W.codeIn K cd161 "Tree.unfair" = true)
    (k161 : PySem.W.keepIn K (.ref f161) = true)
    (pa162 : PySem.W.findIn K (.ref TR) "layout" = some (some (.ref p162)))
    (pb162 : PySem.W.specialIn K (.ref p162) "__get__" = some (some (.builtin "property.__get__")))
    (pc162 : PySem.W.takesIn K (.ref p162) = some true)
    (pd162 : PySem.W.recIn K p162 "property" = some (.ref f162 :: rs162))
    (l162 : K.lookup f162 = some ⟨oc162, od162, .func (PySem.W.fnOf "layout" "Reading.layout" (defArgs sReading_layout) (defBody sReading_layout) (defScope sReading_layout) .none kV162 dc162 pm162 an162 cd162 ct162), sl162⟩)
    (c162 : PySem.W.codeIn K cd162 "Reading.layout" = true)
    (k162 : PySem.W.keepIn K (.ref f162) = true)
    (rdW : PySem.W.readsIn K CW (.type "type") = true)
    (gaW : PySem.W.specialIn K (.ref CW) "__getattribute__" = some (some (.builtin "type.__getattribute__")))
    (cvW : PySem.W.findCls K (.ref CW) (.type "type") "MOST" = some (.val (.int 6 tW)))
    (hgP : PySem.W.nsIn K mainGlobals "MOST_PLUS" = some (some (.int 6 tgP)))
    (hgU : PySem.W.nsIn K mainGlobals "MOST_TURN" = some (some (.int 8 tgU)))
    (hgH : PySem.W.nsIn K mainGlobals "MOST_WEIGHT" = some (some (.int (10 ^ 60) tgH)))
    (hgB : PySem.W.nsIn K mainGlobals "KEY_BOUND" = some (some (.int (10 ^ 30) tgB)))
    (hgM : PySem.W.nsIn K mainGlobals "MOST_KEYS" = some (some (.int 2000 tgM)))
    (zint : PySem.W.nsIn K mainGlobals "int" = some none)
    (zlen : PySem.W.nsIn K mainGlobals "len" = some none)
    (zabs : PySem.W.nsIn K mainGlobals "abs" = some none)
    (zlist : PySem.W.nsIn K mainGlobals "list" = some none)
    (zmin : PySem.W.nsIn K mainGlobals "min" = some none)
    (zmax : PySem.W.nsIn K mainGlobals "max" = some none)
    (zisinstance : PySem.W.nsIn K mainGlobals "isinstance" = some none)
    (zbool : PySem.W.nsIn K mainGlobals "bool" = some none)
    (ztuple : PySem.W.nsIn K mainGlobals "tuple" = some none)
    (zall : PySem.W.nsIn K mainGlobals "all" = some none)
    (zrange : PySem.W.nsIn K mainGlobals "range" = some none)
    (zrepr : PySem.W.nsIn K mainGlobals "repr" = some none)
    (zdict : PySem.W.nsIn K mainGlobals "dict" = some none)
    (zsorted : PySem.W.nsIn K mainGlobals "sorted" = some none)
    (ziter : PySem.W.nsIn K mainGlobals "iter" = some none) :
    ∃ fd : FuncData, (∀ (s : Shared) (v : Value), BindsTo s fd ⟨[v], []⟩ [("_law_script", v)]) ∧ ∀ base : Heap, K.In base → base.Ns mainGlobals mg → FnOk l.prog w K mg base CX0 35 fa fd ["_law_script"] (spLaw K) := by
  have e := hfa.symm.trans (PySem.W.mg_of X G a37)
  cases e
  have F0 := fun_mk (st := sIsInt) l0 c0 k0
  have b0 := F0.binds (ps := ["value"]) fun _ _ _ _ _ _ us hl => match us, hl with | [_], _ => rfl
  have F1 := fun_mk (st := sWithin) l1 c1 k1
  have b1 := F1.binds (ps := ["value", "least", "most"]) fun _ _ _ _ _ _ us hl => match us, hl with | [_, _, _], _ => rfl
  have F2 := fun_mk (st := sPair) l2 c2 k2
  have b2 := F2.binds (ps := ["value", "most"]) fun _ _ _ _ _ _ us hl => match us, hl with | [_, _], _ => rfl
  have F3 := fun_mk (st := sTimes) l3 c3 k3
  have b3 := F3.binds (ps := ["value"]) fun _ _ _ _ _ _ us hl => match us, hl with | [_], _ => rfl
  have F4 := fun_mk (st := sPlus) l4 c4 k4
  have b4 := F4.binds (ps := ["value"]) fun _ _ _ _ _ _ us hl => match us, hl with | [_], _ => rfl
  have F5 := fun_mk (st := sTurn) l5 c5 k5
  have b5 := F5.binds (ps := ["value"]) fun _ _ _ _ _ _ us hl => match us, hl with | [_], _ => rfl
  have F6 := fun_mk (st := sNeedT) l6 c6 k6
  have b6 := F6.binds (ps := ["times", "plus"]) fun _ _ _ _ _ _ us hl => match us, hl with | [_, _], _ => rfl
  have F7 := fun_mk (st := sHalves) l7 c7 k7
  have b7 := F7.binds (ps := ["times", "plus"]) fun _ _ _ _ _ _ us hl => match us, hl with | [_, _], _ => rfl
  have F8 := fun_mk (st := sNeedH) l8 c8 k8
  have b8 := F8.binds (ps := ["times", "plus"]) fun _ _ _ _ _ _ us hl => match us, hl with | [_, _], _ => rfl
  have F9 := fun_mk (st := sNeedRule) l9 c9 k9
  have b9 := F9.binds (ps := ["value"]) fun _ _ _ _ _ _ us hl => match us, hl with | [_], _ => rfl
  have F10 := fun_mk (st := sNeedW) l10 c10 k10
  have b10 := F10.binds (ps := ["value"]) fun _ _ _ _ _ _ us hl => match us, hl with | [_], _ => rfl
  have F11 := fun_mk (st := sIsKey) l11 c11 k11
  have b11 := F11.binds (ps := ["value"]) fun _ _ _ _ _ _ us hl => match us, hl with | [_], _ => rfl
  have F12 := fun_mk (st := sNeedKey) l12 c12 k12
  have b12 := F12.binds (ps := ["value"]) fun _ _ _ _ _ _ us hl => match us, hl with | [_], _ => rfl
  have F13 := fun_mk (st := sNeedPairs) l13 c13 k13
  have b13 := F13.binds (ps := ["items"]) fun _ _ _ _ _ _ us hl => match us, hl with | [_], _ => rfl
  have F14 := fun_mk (st := sWeightOf) l14 c14 k14
  have b14 := F14.binds (ps := ["node"]) fun _ _ _ _ _ _ us hl => match us, hl with | [_], _ => rfl
  have F15 := fun_mk (st := sFormOf) l15 c15 k15
  have b15 := F15.binds (ps := ["node"]) fun _ _ _ _ _ _ us hl => match us, hl with | [_], _ => rfl
  have F16 := fun_mk (st := sNodesOf) l16 c16 k16
  have b16 := F16.binds (ps := ["root"]) fun _ _ _ _ _ _ us hl => match us, hl with | [_], _ => rfl
  have F17 := fun_mk (st := sFair) l17 c17 k17
  have b17 := F17.binds (ps := ["rule", "x", "y"]) fun _ _ _ _ _ _ us hl => match us, hl with | [_, _, _], _ => rfl
  have F18 := fun_mk (st := sBalanced) l18 c18 k18
  have b18 := F18.binds (ps := ["rule", "left", "key", "right", "deed_key"]) fun _ _ _ _ _ _ us hl => match us, hl with | [_, _, _, _, _], _ => rfl
  have F19 := fun_mk (st := sMended) l19 c19 k19
  have b19 := F19.binds (ps := ["rule", "steps", "side", "deed_key"]) fun _ _ _ _ _ _ us hl => match us, hl with | [_, _, _, _], _ => rfl
  have F20 := fun_mk (st := sWithKey) l20 c20 k20
  have b20 := F20.binds (ps := ["rule", "root", "key"]) fun _ _ _ _ _ _ us hl => match us, hl with | [_, _, _], _ => rfl
  have F21 := fun_mk (st := sWithoutKey) l21 c21 k21
  have b21 := F21.binds (ps := ["rule", "root", "key"]) fun _ _ _ _ _ _ us hl => match us, hl with | [_, _, _], _ => rfl
  have F22 := fun_mk (st := sFirstFrom) l22 c22 k22
  have b22 := F22.binds (ps := ["order", "key"]) fun _ _ _ _ _ _ us hl => match us, hl with | [_, _], _ => rfl
  have F23 := fun_mk (st := sWithEntries) l23 c23 k23
  have b23 := F23.binds (ps := ["state", "entries"]) fun _ _ _ _ _ _ us hl => match us, hl with | [_, _], _ => rfl
  have F24 := fun_mk (st := sWithoutEntry) l24 c24 k24
  have b24 := F24.binds (ps := ["state", "key"]) fun _ _ _ _ _ _ us hl => match us, hl with | [_, _], _ => rfl
  have F25 := fun_mk (st := sUnfairKeys) l25 c25 k25
  have b25 := F25.binds (ps := ["state"]) fun _ _ _ _ _ _ us hl => match us, hl with | [_], _ => rfl
  have F26 := fun_mk (st := sPen) l26 c26 k26
  have b26 := F26.binds (ps := ["_law_script"]) fun _ _ _ _ _ _ us hl => match us, hl with | [_], _ => rfl
  have F27 := fun_mk (st := sDraw) l27 c27 k27
  have b27 := F27.binds (ps := ["_law_pen_here", "_law_many"]) fun _ _ _ _ _ _ us hl => match us, hl with | [_, _], _ => rfl
  have F28 := fun_mk (st := sPick) l28 c28 k28
  have b28 := F28.binds (ps := ["_law_pen_here", "_law_some"]) fun _ _ _ _ _ _ us hl => match us, hl with | [_, _], _ => rfl
  have F29 := fun_mk (st := sLNumbers) l29 c29 k29
  have b29 := F29.binds (ps := ["_law_pen_here"]) fun _ _ _ _ _ _ us hl => match us, hl with | [_], _ => rfl
  have F30 := fun_mk (st := sLRule) l30 c30 k30
  have b30 := F30.binds (ps := ["_law_some"]) fun _ _ _ _ _ _ us hl => match us, hl with | [_], _ => rfl
  have F31 := fun_mk (st := sLBare) l31 c31 k31
  have b31 := F31.binds (ps := ["_law_layout_so"]) fun _ _ _ _ _ _ us hl => match us, hl with | [_], _ => rfl
  have F32 := fun_mk (st := sLWeightOf) l32 c32 k32
  have b32 := F32.binds (ps := ["_law_tree_so"]) fun _ _ _ _ _ _ us hl => match us, hl with | [_], _ => rfl
  have F33 := fun_mk (st := sLWithoutLeaf) l33 c33 k33
  have b33 := F33.binds (ps := ["_law_tree_so"]) fun _ _ _ _ _ _ us hl => match us, hl with | [_], _ => rfl
  have F34 := fun_mk (st := sLPutOrder) l34 c34 k34
  have b34 := F34.binds (ps := ["_law_tree_so"]) fun _ _ _ _ _ _ us hl => match us, hl with | [_], _ => rfl
  have F35 := fun_mk (st := sLDrawn) l35 c35 k35
  have b35 := F35.binds (ps := ["_law_pen_here", "_law_rule_so", "_law_keys"]) fun _ _ _ _ _ _ us hl => match us, hl with | [_, _, _], _ => rfl
  have F36 := fun_mk (st := sLRight) l36 c36 k36
  have b36 := F36.binds (ps := ["_law_pen_here", "_law_rule_so", "_law_keys"]) fun _ _ _ _ _ _ us hl => match us, hl with | [_, _, _], _ => rfl
  have F37 := fun_mk (st := sLaw) l37 c37 k37
  have b37 := F37.binds (ps := ["_law_script"]) fun _ _ _ _ _ _ us hl => match us, hl with | [_], _ => rfl
  have F152 := fun_mk (st := sWeightRule_call) l152 c152 k152
  have b152 := F152.binds (ps := ["self", "x", "y"]) fun _ _ _ _ _ _ us hl => match us, hl with | [_, _, _], _ => rfl
  have F153 := fun_mk (st := sNode_init) l153 c153 k153
  have b153 := F153.binds (ps := ["self", "left", "key", "right"]) fun _ _ _ _ _ _ us hl => match us, hl with | [_, _, _, _], _ => rfl
  have F154 := fun_mk (st := sState_init) l154 c154 k154
  have b154 := F154.binds (ps := ["self", "own_rule", "root", "order", "worths"]) fun _ _ _ _ _ _ us hl => match us, hl with | [_, _, _, _, _], _ => rfl
  have F156 := fun_mk (st := sReading_len) l156 c156 k156
  have b156 := F156.binds (ps := ["self"]) fun _ _ _ _ _ _ us hl => match us, hl with | [_], _ => rfl
  have F157 := fun_mk (st := sReading_iter) l157 c157 k157
  have b157 := F157.binds (ps := ["self"]) fun _ _ _ _ _ _ us hl => match us, hl with | [_], _ => rfl
  have F158 := fun_mk (st := sReading_contains) l158 c158 k158
  have b158 := F158.binds (ps := ["self", "key"]) fun _ _ _ _ _ _ us hl => match us, hl with | [_, _], _ => rfl
  have F160 := fun_mk (st := sTree_drop) l160 c160 k160
  have b160 := F160.binds (ps := ["self", "key"]) fun _ _ _ _ _ _ us hl => match us, hl with | [_, _], _ => rfl
  have F161 := fun_mk (st := sTree_unfair) l161 c161 k161
  have b161 := F161.binds (ps := ["self"]) fun _ _ _ _ _ _ us hl => match us, hl with | [_], _ => rfl
  have F162 := fun_mk (st := sReading_layout) l162 c162 k162
  have b162 := F162.binds (ps := ["self"]) fun _ _ _ _ _ _ us hl => match us, hl with | [_], _ => rfl
  have P162 : PropOf K TR "layout" p162 f162 := ⟨pa162, pb162, pc162, ⟨_, pd162⟩⟩
  refine ⟨PySem.W.fnOf "law" "law" (defArgs sLaw) (defBody sLaw) (defScope sLaw) .none kV37 dc37 pm37 an37 cd37 ct37, fun s v => .of_eq rfl, fun base _ _ => ?_⟩
  have T : Blt mg := ⟨PySem.W.mg_none_of X G zint, PySem.W.mg_none_of X G zlen, PySem.W.mg_none_of X G zabs, PySem.W.mg_none_of X G zlist, PySem.W.mg_none_of X G zmin, PySem.W.mg_none_of X G zmax, PySem.W.mg_none_of X G zisinstance, PySem.W.mg_none_of X G zbool, PySem.W.mg_none_of X G ztuple, PySem.W.mg_none_of X G zall, PySem.W.mg_none_of X G zrange, PySem.W.mg_none_of X G zrepr⟩
  have RT : RCls K Ct := ⟨⟨pgCt, hdCt, poCt, saCt⟩, n0Ct, n1Ct, n2Ct, n3Ct⟩
  have RN : RCls K Cn := ⟨⟨pgCn, hdCn, poCn, saCn⟩, n0Cn, n1Cn, n2Cn, n3Cn⟩
  have TN : NC K ND := ⟨⟨pgND, hdND, poND, saND⟩, n0ND, n1ND, n2ND, n3ND, n4ND⟩
  have TS : SC K ST := ⟨⟨pgST, hdST, poST, saST⟩, n0ST, n1ST, n2ST, n3ST⟩
  have TC : TrC K TR := ⟨⟨pgTR, hdTR, poTR, saTR⟩, n0TR, n1TR⟩
  have ik : InsK K := ⟨ikn, ikt⟩
  have KT : RK K Ct CW := ⟨RT, hcCt, moCt, kit_own icCW ttCW suCt⟩
  have KN : RK K Cn CW := ⟨RN, hcCn, moCn, kit_own icCW ttCW suCn⟩
  have D150 : FunD K "__init__" "TryRule.__init__" (defArgs sTryInit) (defBody sTryInit) (defScope sTryInit) [.int 0] [] f150 _ := ⟨⟨_, _, _, _, _, _, _, _, _, _, rfl, l150, c150, .inr ⟨by simp, T150, _, [Value.int 0 tt1500], tn150, rfl, t150, rfl, .cons ⟨_, rfl⟩ .nil⟩, .inl rfl⟩, k150⟩
  obtain ⟨ds150, v150, b150⟩ := FunD.binds1 (ps := ["self", "times", "plus"]) D150 3 1 (by simp) rfl (fun _ _ _ _ _ _ _ us its h1 h2 => match us, its, h1, h2 with | [_, _, _], [_], _, _ => ⟨_, rfl, rfl⟩)
  cases v150
  have D151 : FunD K "__init__" "TurnRule.__init__" (defArgs sTurnInit) (defBody sTurnInit) (defScope sTurnInit) [.int 0] [("turn_plus", .int 0)] f151 _ := ⟨⟨_, _, _, _, _, _, _, _, _, _, rfl, l151, c151, .inr ⟨by simp, T151, _, [Value.int 0 tt1510], tn151, rfl, t151, rfl, .cons ⟨_, rfl⟩ .nil⟩, .inr ⟨KD151, rfl, fun z hz => by
    rw [List.mem_singleton.mp hz]; exact ⟨_, kd1510, ⟨_, rfl⟩⟩⟩⟩, k151⟩
  obtain ⟨its151, b151⟩ := FunD.kbindsD (ps := ["self", "times", "plus", "turn", "turn_plus"]) D151 3 ["turn", "turn_plus"] (fun us _ ws => us ++ ws) (by simp) (fun r1 _ r2 => r1.append r2)
    (fun _ _ _ _ _ _ _ us its ws h1 h2 h3 => match us, its, ws, h1, h2, h3 with | [_, _, _], [_], [_, _], _, _, _ => ⟨_, rfl, rfl⟩)
  have D155 : FunD K "__init__" "Tree.__init__" (defArgs sTree_init) (defBody sTree_init) (defScope sTree_init) [.ref E155] [] f155 _ := ⟨⟨_, _, _, _, _, _, _, _, _, _, rfl, l155, c155, .inr ⟨by simp, T155, _, [Value.ref E155], tn155, rfl, t155, rfl, .cons rfl .nil⟩, .inl rfl⟩, k155⟩
  obtain ⟨ds155, v155, b155⟩ := FunD.binds1 (ps := ["self", "rule", "items"]) D155 2 0 (by simp) rfl (fun _ _ _ _ _ _ _ us its h1 h2 => match us, its, h1, h2 with | [_, _], [_], _, _ => ⟨_, rfl, rfl⟩)
  obtain ⟨u155, rfl, r155⟩ := Vals.one (x := .ref E155) v155
  obtain rfl : u155 = Value.ref E155 := r155
  have D159 : FunD K "put" "Tree.put" (defArgs sTree_put) (defBody sTree_put) (defScope sTree_put) [.non] [] f159 _ := ⟨⟨_, _, _, _, _, _, _, _, _, _, rfl, l159, c159, .inr ⟨by simp, T159, _, [Value.none], tn159, rfl, t159, rfl, .cons rfl .nil⟩, .inl rfl⟩, k159⟩
  obtain ⟨ds159, v159, b159⟩ := FunD.binds1 (ps := ["self", "key", "value"]) D159 3 1 (by simp) rfl (fun _ _ _ _ _ _ _ us its h1 h2 => match us, its, h1, h2 with | [_, _, _], [_], _, _ => ⟨_, rfl, rfl⟩)
  cases v159
  have KE : KTup0 K E155 := ⟨_, _, _, lE155, rfl, rfl, (by show 0 ≤ sizeLine; decide), .nil⟩
  have d0 : Df l.prog w K mg base 1 "is_integer" ["value"] _ := ⟨f0, _, ok_isInt F0 T, PySem.W.mg_of X G a0, F0.kp, b0⟩
  obtain ⟨_, _, GI, gI, kI, bI⟩ := d0.ex
  have d1 : Df l.prog w K mg base 2 "is_within" ["value", "least", "most"] _ := ⟨f1, _, ok_within F1 T GI gI kI bI, PySem.W.mg_of X G a1, F1.kp, b1⟩
  have d2 : Df l.prog w K mg base 3 "is_pair" ["value", "most"] _ := ⟨f2, _, ok_pair F2 T d1, PySem.W.mg_of X G a2, F2.kp, b2⟩
  have d3 : Df l.prog w K mg base 4 "is_times" ["value"] _ := ⟨f3, _, ok_times F3 d2 (PySem.W.mg_of X G aCW) ⟨rdW, gaW⟩ ⟨cvW, ⟨_, rfl⟩⟩, PySem.W.mg_of X G a3, F3.kp, b3⟩
  have d4 : Df l.prog w K mg base 3 "is_plus" ["value"] _ := ⟨f4, _, ok_plus F4 d1 (PySem.W.mg_of X G hgP), PySem.W.mg_of X G a4, F4.kp, b4⟩
  have d5 : Df l.prog w K mg base 4 "is_turn" ["value"] _ := ⟨f5, _, ok_turn F5 d2 (PySem.W.mg_of X G hgU), PySem.W.mg_of X G a5, F5.kp, b5⟩
  have d6 : Df l.prog w K mg base 5 "need_times" ["times", "plus"] _ := ⟨f6, _, ok_needT F6 d3 d4, PySem.W.mg_of X G a6, F6.kp, b6⟩
  have d7 : Df l.prog w K mg base 1 "has_halves" ["times", "plus"] _ := ⟨f7, _, ok_halves F7, PySem.W.mg_of X G a7, F7.kp, b7⟩
  have d8 : Df l.prog w K mg base 2 "need_halves" ["times", "plus"] _ := ⟨f8, _, ok_needH F8 d7, PySem.W.mg_of X G a8, F8.kp, b8⟩
  have d9 : Df l.prog w K mg base 1 "need_rule" ["value"] _ := ⟨f9, _, ok_needR F9 T (PySem.W.mg_of X G aCW) KT KN ik, PySem.W.mg_of X G a9, F9.kp, b9⟩
  have d10 : Df l.prog w K mg base 3 "need_weight" ["value"] _ := ⟨f10, _, ok_needW F10 d1 (PySem.W.mg_of X G hgH), PySem.W.mg_of X G a10, F10.kp, b10⟩
  have d11 : Df l.prog w K mg base 2 "is_key" ["value"] _ := ⟨f11, _, ok_isKey F11 (PySem.W.mg_of X G hgB) d0, PySem.W.mg_of X G a11, F11.kp, b11⟩
  have d12 : Df l.prog w K mg base 3 "need_key" ["value"] _ := ⟨f12, _, ok_needKey F12 d11, PySem.W.mg_of X G a12, F12.kp, b12⟩
  have d13 : Df l.prog w K mg base 1 "need_pairs" ["items"] _ := ⟨f13, _, ok_needPairs0 F13 T, PySem.W.mg_of X G a13, F13.kp, b13⟩
  have d14 : Df l.prog w K mg base 1 "weight_of" ["node"] _ := ⟨f14, _, ok_weightOf F14 TN, PySem.W.mg_of X G a14, F14.kp, b14⟩
  have d15 : Df l.prog w K mg base 1 "form_of" ["node"] _ := ⟨f15, _, ok_formOf F15 TN, PySem.W.mg_of X G a15, F15.kp, b15⟩
  have d16 : Df l.prog w K mg base 1 "nodes_of" ["root"] _ := ⟨f16, _, ok_nodes F16 TN, PySem.W.mg_of X G a16, F16.kp, b16⟩
  have d17 : Df l.prog w K mg base 1 "are_fair" ["rule", "x", "y"] _ := ⟨f17, _, ok_fair F17, PySem.W.mg_of X G a17, F17.kp, b17⟩
  have NN : NMk l.prog w K mg base ND := ⟨(PySem.W.mg_of X G aND), TN, ⟨f153, _, ⟨mkND, m153, i153, kcND⟩, ok_nodeI F153 TN d14 d15, b153⟩⟩
  have SS : SMk l.prog w K mg base ST := ⟨(PySem.W.mg_of X G aST), TS, ⟨f154, _, ⟨mkST, m154, i154, kcST⟩, ok_stateI F154 TS, b154⟩⟩
  have d18 : Df l.prog w K mg base 4 "balanced" ["rule", "left", "key", "right", "deed_key"] _ := ⟨f18, _, ok_balanced F18 NN d14 d17, PySem.W.mg_of X G a18, F18.kp, b18⟩
  have d19 : Df l.prog w K mg base 5 "mended" ["rule", "steps", "side", "deed_key"] _ := ⟨f19, _, ok_mended F19 TN d18, PySem.W.mg_of X G a19, F19.kp, b19⟩
  have d20 : Df l.prog w K mg base 6 "with_key" ["rule", "root", "key"] _ := ⟨f20, _, ok_withKey F20 NN d19, PySem.W.mg_of X G a20, F20.kp, b20⟩
  have d21 : Df l.prog w K mg base 6 "without_key" ["rule", "root", "key"] _ := ⟨f21, _, ok_withoutLeaf F21 TN d19, PySem.W.mg_of X G a21, F21.kp, b21⟩
  have d22 : Df l.prog w K mg base 1 "first_from" ["order", "key"] _ := ⟨f22, _, ok_firstFrom F22 T, PySem.W.mg_of X G a22, F22.kp, b22⟩
  have eN : Df l.prog w K mg base 7 "with_entries" ["state", "entries"] _ := ⟨f23, _, ok_withNone F23 T (PySem.W.mg_none_of X G zdict) (PySem.W.mg_of X G hgM) SS d12 d20 d22, PySem.W.mg_of X G a23, F23.kp, b23⟩
  have eO : Df l.prog w K mg base 7 "with_entries" ["state", "entries"] _ := ⟨f23, _, ok_withOne F23 T (PySem.W.mg_none_of X G zdict) (PySem.W.mg_of X G hgM) SS d12 d20 d22, PySem.W.mg_of X G a23, F23.kp, b23⟩
  have d24 : Df l.prog w K mg base 7 "without_entry" ["state", "key"] _ := ⟨f24, _, ok_without F24 T (PySem.W.mg_none_of X G zdict) SS d21 d22, PySem.W.mg_of X G a24, F24.kp, b24⟩
  have d25 : Df l.prog w K mg base 2 "unfair_keys" ["state"] _ := ⟨f25, _, ok_unfairK F25 T (PySem.W.mg_none_of X G zsorted) TN TS d16 d14 d17, PySem.W.mg_of X G a25, F25.kp, b25⟩
  have G158 := ok_has (P := l.prog) (w := w) (mg := mg) (base := base) (N := ND) F158 TC TS d11
  have G156 := ok_tlen (P := l.prog) (w := w) (mg := mg) (base := base) (N := ND) F156 T TC TS
  have B : TB l.prog w K mg base ND ST TR Ct Cn := ⟨(PySem.W.mg_of X G aTR), TC, TS, ⟨f155, _, E155, ⟨mkTR, m155, i155, kcTR⟩, ok_treeI0 D155 T TC SS (kit_clsN icST ttST snTS) d9 d13 eN, b155, KE⟩,
    ⟨f159, _, ⟨m159, i159, k159⟩, ok_put D159 TC eO, b159⟩, ⟨f160, _, ⟨m160, i160, k160⟩, ok_drop F160 TC TS m158 i158 (fnr_of G158 b158) d24, b160⟩, ⟨f161, _, ⟨m161, i161, k161⟩, ok_unfair F161 T TC d25, b161⟩, ⟨p162, f162, _, P162, ok_layout F162 TC TS d15, b162⟩,
    ⟨f156, m156, i156, fnr_of G156 b156⟩, ⟨f157, m157, i157, fnIt_tree F157 b157 (PySem.W.mg_none_of X G ziter) TC TS⟩⟩
  have G152 := ok_call (P := l.prog) (w := w) (mg := mg) (base := base) F152 d10 d17
  have d26 : Df l.prog w K mg base 1 "_law_pen" ["_law_script"] _ := ⟨f26, _, ok_pen F26 T, PySem.W.mg_of X G a26, F26.kp, b26⟩
  have d27 : Df l.prog w K mg base 1 "_law_draw" ["_law_pen_here", "_law_many"] _ := ⟨f27, _, ok_draw F27 T, PySem.W.mg_of X G a27, F27.kp, b27⟩
  have d28 : Df l.prog w K mg base 2 "_law_pick" ["_law_pen_here", "_law_some"] _ := ⟨f28, _, ok_pick F28 T d27, PySem.W.mg_of X G a28, F28.kp, b28⟩
  have d29 : Df l.prog w K mg base 3 "_law_numbers" ["_law_pen_here"] _ := ⟨f29, _, ok_nums F29 T d27 d28, PySem.W.mg_of X G a29, F29.kp, b29⟩
  have GT0 := ok_tryInit (P := l.prog) (w := w) (mg := mg) (base := base) D150 RT d6 d8
  have GN0 := ok_turnInit (P := l.prog) (w := w) (mg := mg) (base := base) D151 RN d6 d8 d5 d4
  have MCt : Mk K Ct f150 := ⟨mkCt, m150, i150, kcCt⟩
  have MCn : Mk K Cn f151 := ⟨mkCn, m151, i151, kcCn⟩
  have d30 : Df l.prog w K mg base 8 "_law_rule" ["_law_some"] _ := ⟨f30, _, ok_rule F30 T (PySem.W.mg_of X G aCt) (PySem.W.mg_of X G aCn) MCt MCn GT0 b150 GN0 b151, PySem.W.mg_of X G a30, F30.kp, b30⟩
  have d31 : Df l.prog w K mg base 16 "_law_bare" ["_law_layout_so"] _ := ⟨f31, _, ok_lbare F31 (PySem.W.mg_of X G a31) b31 15, PySem.W.mg_of X G a31, F31.kp, b31⟩
  have d32 : Df l.prog w K mg base 16 "_law_weight_of" ["_law_tree_so"] _ := ⟨f32, _, ok_lwt F32 (PySem.W.mg_of X G a32) b32 15, PySem.W.mg_of X G a32, F32.kp, b32⟩
  have d33 : Df l.prog w K mg base 32 "_law_without_leaf" ["_law_tree_so"] _ := ⟨f33, _, ok_leafOff F33 (PySem.W.mg_of X G a33) b33 d32 15, PySem.W.mg_of X G a33, F33.kp, b33⟩
  have d34 : Df l.prog w K mg base 33 "_law_put_order" ["_law_tree_so"] _ := ⟨f34, _, ok_order F34 T d32 d33, PySem.W.mg_of X G a34, F34.kp, b34⟩
  have d35 : Df l.prog w K mg base 19 "_law_drawn" ["_law_pen_here", "_law_rule_so", "_law_keys"] _ := ⟨f35, _, ok_drawn F35 T (PySem.W.mg_of X G a35) b35 ⟨m152, i152, fi152⟩ ⟨m252, i152, fi152⟩ (fnr_of G152 b152) RT RN d28 14, PySem.W.mg_of X G a35, F35.kp, b35⟩
  have d36 : Df l.prog w K mg base 34 "_law_right" ["_law_pen_here", "_law_rule_so", "_law_keys"] _ := ⟨f36, _, ok_right F36 T B RT RN d31 d35 d34, PySem.W.mg_of X G a36, F36.kp, b36⟩
  exact ok_law F37 T d26 d27 d29 d30 d36
end Ev
open PySem PySem.W PyProof.Rows
set_option maxRecDepth 100000 in
set_option maxHeartbeats 0 in
theorem PySem.Challenge.cw_evenrules_k63_whole_trees_come_to_by_put_holds : PySem.Challenge.rw_evenrules_k63_whole_trees_come_to_by_put.Holds := by
  exact Ev.hd (by
    k_fill
    refine L2.walk_of (l := PySem.Challenge.rw_evenrules_k63_whole_trees_come_to_by_put) (n := 63) (k := 35) (x := "_law_script") (CX := fun _ => L2.CX0) (sp := fun w => Ev.spLaw _) rfl (by decide) rfl ⟨rfl, by decide, by decide⟩ (fun w h Y => PySem.W.kIn_of Y) ?F (fun _ _ a ns hl _ hS => ⟨a, ns, rfl, hS, hl, fun _ => rfl⟩) (fun _ _ _ _ _ h => h)
    case F =>
      intro w mg fa h KX G hmg
      refine' Ev.all_mk KX G hmg ?a0 ?l0 ?c0 ?k0 ?a1 ?l1 ?c1 ?k1 ?a2 ?l2 ?c2 ?k2 ?a3 ?l3 ?c3 ?k3 ?a4 ?l4 ?c4 ?k4 ?a5 ?l5 ?c5 ?k5 ?a6 ?l6 ?c6 ?k6 ?a7 ?l7 ?c7 ?k7 ?a8 ?l8 ?c8 ?k8 ?a9 ?l9 ?c9 ?k9 ?a10 ?l10 ?c10 ?k10 ?a11 ?l11 ?c11 ?k11 ?a12 ?l12 ?c12 ?k12 ?a13 ?l13 ?c13 ?k13 ?a14 ?l14 ?c14 ?k14 ?a15 ?l15 ?c15 ?k15 ?a16 ?l16 ?c16 ?k16 ?a17 ?l17 ?c17 ?k17 ?a18 ?l18 ?c18 ?k18 ?a19 ?l19 ?c19 ?k19 ?a20 ?l20 ?c20 ?k20 ?a21 ?l21 ?c21 ?k21 ?a22 ?l22 ?c22 ?k22 ?a23 ?l23 ?c23 ?k23 ?a24 ?l24 ?c24 ?k24 ?a25 ?l25 ?c25 ?k25 ?a26 ?l26 ?c26 ?k26 ?a27 ?l27 ?c27 ?k27 ?a28 ?l28 ?c28 ?k28 ?a29 ?l29 ?c29 ?k29 ?a30 ?l30 ?c30 ?k30 ?a31 ?l31 ?c31 ?k31 ?a32 ?l32 ?c32 ?k32 ?a33 ?l33 ?c33 ?k33 ?a34 ?l34 ?c34 ?k34 ?a35 ?l35 ?c35 ?k35 ?a36 ?l36 ?c36 ?k36 ?a37 ?l37 ?c37 ?k37 ?aCt ?pgCt ?hdCt ?poCt ?saCt ?mkCt ?kcCt ?n0Ct ?n1Ct ?n2Ct ?n3Ct ?aCn ?pgCn ?hdCn ?poCn ?saCn ?mkCn ?kcCn ?n0Cn ?n1Cn ?n2Cn ?n3Cn ?aND ?pgND ?hdND ?poND ?saND ?mkND ?kcND ?n0ND ?n1ND ?n2ND ?n3ND ?n4ND ?aST ?pgST ?hdST ?poST ?saST ?mkST ?kcST ?n0ST ?n1ST ?n2ST ?n3ST ?aTR ?pgTR ?hdTR ?poTR ?saTR ?mkTR ?kcTR ?n0TR ?n1TR ?aCW ?hcCt ?moCt ?suCt ?hcCn ?moCn ?suCn ?icCW ?ttCW ?icST ?ttST ?snTS ?ikn ?ikt ?m150 ?i150 ?l150 ?c150 ?k150 ?t150 ?m151 ?i151 ?l151 ?c151 ?k151 ?t151 ?kd1510 ?m152 ?i152 ?l152 ?c152 ?k152 ?m252 ?fi152 ?m153 ?i153 ?l153 ?c153 ?k153 ?m154 ?i154 ?l154 ?c154 ?k154 ?m155 ?i155 ?l155 ?c155 ?k155 ?t155 ?lE155 ?m159 ?i159 ?l159 ?c159 ?k159 ?t159 ?m156 ?i156 ?l156 ?c156 ?k156 ?m157 ?i157 ?l157 ?c157 ?k157 ?m158 ?i158 ?l158 ?c158 ?k158 ?m160 ?i160 ?l160 ?c160 ?k160 ?m161 ?i161 ?l161 ?c161 ?k161 ?pa162 ?pb162 ?pc162 ?pd162 ?l162 ?c162 ?k162 ?rdW ?gaW ?cvW ?hgP ?hgU ?hgH ?hgB ?hgM ?zint ?zlen ?zabs ?zlist ?zmin ?zmax ?zisinstance ?zbool ?ztuple ?zall ?zrange ?zrepr ?zdict ?zsorted ?ziter
      (case a0 => k_is)
      (case l0 => k_is)
      (case c0 => k_is)
      (case k0 => k_is)
      (case a1 => k_is)
      (case l1 => k_is)
      (case c1 => k_is)
      (case k1 => k_is)
      (case a2 => k_is)
      (case l2 => k_is)
      (case c2 => k_is)
      (case k2 => k_is)
      (case a3 => k_is)
      (case l3 => k_is)
      (case c3 => k_is)
      (case k3 => k_is)
      (case a4 => k_is)
      (case l4 => k_is)
      (case c4 => k_is)
      (case k4 => k_is)
      (case a5 => k_is)
      (case l5 => k_is)
      (case c5 => k_is)
      (case k5 => k_is)
      (case a6 => k_is)
      (case l6 => k_is)
      (case c6 => k_is)
      (case k6 => k_is)
      (case a7 => k_is)
      (case l7 => k_is)
      (case c7 => k_is)
      (case k7 => k_is)
      (case a8 => k_is)
      (case l8 => k_is)
      (case c8 => k_is)
      (case k8 => k_is)
      (case a9 => k_is)
      (case l9 => k_is)
      (case c9 => k_is)
      (case k9 => k_is)
      (case a10 => k_is)
      (case l10 => k_is)
      (case c10 => k_is)
      (case k10 => k_is)
      (case a11 => k_is)
      (case l11 => k_is)
      (case c11 => k_is)
      (case k11 => k_is)
      (case a12 => k_is)
      (case l12 => k_is)
      (case c12 => k_is)
      (case k12 => k_is)
      (case a13 => k_is)
      (case l13 => k_is)
      (case c13 => k_is)
      (case k13 => k_is)
      (case a14 => k_is)
      (case l14 => k_is)
      (case c14 => k_is)
      (case k14 => k_is)
      (case a15 => k_is)
      (case l15 => k_is)
      (case c15 => k_is)
      (case k15 => k_is)
      (case a16 => k_is)
      (case l16 => k_is)
      (case c16 => k_is)
      (case k16 => k_is)
      (case a17 => k_is)
      (case l17 => k_is)
      (case c17 => k_is)
      (case k17 => k_is)
      (case a18 => k_is)
      (case l18 => k_is)
      (case c18 => k_is)
      (case k18 => k_is)
      (case a19 => k_is)
      (case l19 => k_is)
      (case c19 => k_is)
      (case k19 => k_is)
      (case a20 => k_is)
      (case l20 => k_is)
      (case c20 => k_is)
      (case k20 => k_is)
      (case a21 => k_is)
      (case l21 => k_is)
      (case c21 => k_is)
      (case k21 => k_is)
      (case a22 => k_is)
      (case l22 => k_is)
      (case c22 => k_is)
      (case k22 => k_is)
      (case a23 => k_is)
      (case l23 => k_is)
      (case c23 => k_is)
      (case k23 => k_is)
      (case a24 => k_is)
      (case l24 => k_is)
      (case c24 => k_is)
      (case k24 => k_is)
      (case a25 => k_is)
      (case l25 => k_is)
      (case c25 => k_is)
      (case k25 => k_is)
      (case a26 => k_is)
      (case l26 => k_is)
      (case c26 => k_is)
      (case k26 => k_is)
      (case a27 => k_is)
      (case l27 => k_is)
      (case c27 => k_is)
      (case k27 => k_is)
      (case a28 => k_is)
      (case l28 => k_is)
      (case c28 => k_is)
      (case k28 => k_is)
      (case a29 => k_is)
      (case l29 => k_is)
      (case c29 => k_is)
      (case k29 => k_is)
      (case a30 => k_is)
      (case l30 => k_is)
      (case c30 => k_is)
      (case k30 => k_is)
      (case a31 => k_is)
      (case l31 => k_is)
      (case c31 => k_is)
      (case k31 => k_is)
      (case a32 => k_is)
      (case l32 => k_is)
      (case c32 => k_is)
      (case k32 => k_is)
      (case a33 => k_is)
      (case l33 => k_is)
      (case c33 => k_is)
      (case k33 => k_is)
      (case a34 => k_is)
      (case l34 => k_is)
      (case c34 => k_is)
      (case k34 => k_is)
      (case a35 => k_is)
      (case l35 => k_is)
      (case c35 => k_is)
      (case k35 => k_is)
      (case a36 => k_is)
      (case l36 => k_is)
      (case c36 => k_is)
      (case k36 => k_is)
      (case a37 => k_is)
      (case l37 => k_is)
      (case c37 => k_is)
      (case k37 => k_is)
      (case aCt => k_is)
      (case pgCt => k_is)
      (case hdCt => k_is)
      (case poCt => k_is)
      (case saCt => k_is)
      (case mkCt => k_is)
      (case kcCt => k_is)
      (case n0Ct => k_is)
      (case n1Ct => k_is)
      (case n2Ct => k_is)
      (case n3Ct => k_is)
      (case aCn => k_is)
      (case pgCn => k_is)
      (case hdCn => k_is)
      (case poCn => k_is)
      (case saCn => k_is)
      (case mkCn => k_is)
      (case kcCn => k_is)
      (case n0Cn => k_is)
      (case n1Cn => k_is)
      (case n2Cn => k_is)
      (case n3Cn => k_is)
      (case aND => k_is)
      (case pgND => k_is)
      (case hdND => k_is)
      (case poND => k_is)
      (case saND => k_is)
      (case mkND => k_is)
      (case kcND => k_is)
      (case n0ND => k_is)
      (case n1ND => k_is)
      (case n2ND => k_is)
      (case n3ND => k_is)
      (case n4ND => k_is)
      (case aST => k_is)
      (case pgST => k_is)
      (case hdST => k_is)
      (case poST => k_is)
      (case saST => k_is)
      (case mkST => k_is)
      (case kcST => k_is)
      (case n0ST => k_is)
      (case n1ST => k_is)
      (case n2ST => k_is)
      (case n3ST => k_is)
      (case aTR => k_is)
      (case pgTR => k_is)
      (case hdTR => k_is)
      (case poTR => k_is)
      (case saTR => k_is)
      (case mkTR => k_is)
      (case kcTR => k_is)
      (case n0TR => k_is)
      (case n1TR => k_is)
      (case aCW => k_is)
      (case hcCt => k_is)
      (case moCt => k_is)
      (case suCt => k_is)
      (case hcCn => k_is)
      (case moCn => k_is)
      (case suCn => k_is)
      (case icCW => k_is)
      (case ttCW => k_is)
      (case icST => k_is)
      (case ttST => k_is)
      (case snTS => k_is)
      (case ikn => k_is)
      (case ikt => k_is)
      (case m150 => k_is)
      (case i150 => k_is)
      (case l150 => k_is)
      (case c150 => k_is)
      (case k150 => k_is)
      (case t150 => k_is)
      (case m151 => k_is)
      (case i151 => k_is)
      (case l151 => k_is)
      (case c151 => k_is)
      (case k151 => k_is)
      (case t151 => k_is)
      (case kd1510 => k_is)
      (case m152 => k_is)
      (case i152 => k_is)
      (case l152 => k_is)
      (case c152 => k_is)
      (case k152 => k_is)
      (case m252 => k_is)
      (case fi152 => k_is)
      (case m153 => k_is)
      (case i153 => k_is)
      (case l153 => k_is)
      (case c153 => k_is)
      (case k153 => k_is)
      (case m154 => k_is)
      (case i154 => k_is)
      (case l154 => k_is)
      (case c154 => k_is)
      (case k154 => k_is)
      (case m155 => k_is)
      (case i155 => k_is)
      (case l155 => k_is)
      (case c155 => k_is)
      (case k155 => k_is)
      (case t155 => k_is)
      (case lE155 => k_is)
      (case m159 => k_is)
      (case i159 => k_is)
      (case l159 => k_is)
      (case c159 => k_is)
      (case k159 => k_is)
      (case t159 => k_is)
      (case m156 => k_is)
      (case i156 => k_is)
      (case l156 => k_is)
      (case c156 => k_is)
      (case k156 => k_is)
      (case m157 => k_is)
      (case i157 => k_is)
      (case l157 => k_is)
      (case c157 => k_is)
      (case k157 => k_is)
      (case m158 => k_is)
      (case i158 => k_is)
      (case l158 => k_is)
      (case c158 => k_is)
      (case k158 => k_is)
      (case m160 => k_is)
      (case i160 => k_is)
      (case l160 => k_is)
      (case c160 => k_is)
      (case k160 => k_is)
      (case m161 => k_is)
      (case i161 => k_is)
      (case l161 => k_is)
      (case c161 => k_is)
      (case k161 => k_is)
      (case pa162 => k_is)
      (case pb162 => k_is)
      (case pc162 => k_is)
      (case pd162 => k_is)
      (case l162 => k_is)
      (case c162 => k_is)
      (case k162 => k_is)
      (case rdW => k_is)
      (case gaW => k_is)
      (case cvW => k_is)
      (case hgP => k_is)
      (case hgU => k_is)
      (case hgH => k_is)
      (case hgB => k_is)
      (case hgM => k_is)
      (case zint => k_is)
      (case zlen => k_is)
      (case zabs => k_is)
      (case zlist => k_is)
      (case zmin => k_is)
      (case zmax => k_is)
      (case zisinstance => k_is)
      (case zbool => k_is)
      (case ztuple => k_is)
      (case zall => k_is)
      (case zrange => k_is)
      (case zrepr => k_is)
      (case zdict => k_is)
      (case zsorted => k_is)
      (case ziter => k_is))
