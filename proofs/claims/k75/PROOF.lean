import PyProof.Rows.All
import Wide.All
import OpenK.AllK
import Wide.FinOn
import HandS.ForMost
import HandS.Wide
import HandS.Codes
import HandS.IsInst
import HandS.Defaults
import HandS.MakeKw
import HandS.MakeKwOnly
import HandS.ClsMeth
import HandS.TupAny
import HandS.Style
import HandS.Zip
import HandS.Conv
import HandS.Walk
import HandS.Lambda
import HandS.Iter
import HandS.ExcInit
import HandS.ForExc
import KE.KExcIs
import HandS.EndTab
import HandS.DictComp
import HandS.DeepEq
import KE.KDictList
import KE.DataEq
import HandS.RaiseMore
import HandS.Star
import HandS.WideBits
import HandS.ExcOwn
import HandS.ExcValue
import HandS.More
import HandS.SlotsOwn
import PyProof.InstNe
import PySem.Challenge.RW_evenrules_k75_whole_rows_that_are_spilt
open PySem PySem.W PyProof.Rows
set_option Elab.async false
set_option linter.all false
set_option maxRecDepth 100000 in
set_option maxHeartbeats 0 in
open_top hd for PySem.Challenge.rw_evenrules_k75_whole_rows_that_are_spilt
set_option maxRecDepth 100000
set_option maxHeartbeats 4000000
namespace Ev
open PySem L2
def top (i : Nat) : Stmt := PySem.Challenge.pw_evenrules_k75_whole_rows_that_are_spilt.main.body.getD i (.Pass ⟨0, 0, 0, 0⟩)
abbrev sWall : Stmt := top 0
abbrev sKept : Stmt := top 2
abbrev sIsFlat : Stmt := top 3
abbrev sCopiedDeep : Stmt := top 4
abbrev sPartsOf : Stmt := top 5
abbrev sRebuilt : Stmt := top 6
abbrev sBadRule_init : Stmt := inClass (top 9) 0
abbrev sNoHalves_init : Stmt := inClass (top 10) 0
abbrev sBadNumber_init : Stmt := inClass (top 11) 0
abbrev sBadText_init : Stmt := inClass (top 12) 0
abbrev sIsInt : Stmt := top 15
abbrev sWithin : Stmt := top 16
abbrev sLeastOf : Stmt := top 20
abbrev sCrucialOf : Stmt := top 21
abbrev sIsRightFor : Stmt := top 22
abbrev sDealt : Stmt := top 23
abbrev sPageAt : Stmt := top 24
abbrev sPageFor : Stmt := top 25
abbrev sBehindPut : Stmt := top 26
abbrev sBehindTake : Stmt := top 27
abbrev sGroupOf : Stmt := top 28
abbrev sDealtAnew : Stmt := top 29
abbrev sNumberWord : Stmt := top 33
abbrev sPairWord : Stmt := top 34
abbrev sReadNumber : Stmt := top 35
abbrev sReadPair : Stmt := top 36
abbrev sWeightRule_call : Stmt := inClass (top 43) 1
abbrev sWeightRule_greatest : Stmt := inClass (top 43) 2
abbrev sWeightRule_least : Stmt := inClass (top 43) 3
abbrev sWeightRule_read : Stmt := inClass (top 43) 4
abbrev sTurnRule_init : Stmt := inClass (top 44) 0
abbrev sTurnRule_turns : Stmt := inClass (top 44) 1
abbrev sTurnRule_eq : Stmt := inClass (top 44) 2
abbrev sTurnRule_str : Stmt := inClass (top 44) 3
abbrev sTryRule_init : Stmt := inClass (top 45) 0
abbrev sTryRule_turns : Stmt := inClass (top 45) 1
abbrev sTryRule_twice_is_fair : Stmt := inClass (top 45) 2
abbrev sTryRule_eq : Stmt := inClass (top 45) 3
abbrev sTryRule_str : Stmt := inClass (top 45) 4
abbrev sAreFair : Stmt := top 46
abbrev sLeastBeside : Stmt := top 47
abbrev sNeedWeight : Stmt := top 48
abbrev sPair : Stmt := top 49
abbrev sIsTimes : Stmt := top 50
abbrev sIsPlus : Stmt := top 51
abbrev sIsTurn : Stmt := top 52
abbrev sNeedTimes : Stmt := top 53
abbrev sHasHalves : Stmt := top 54
abbrev sNeedHalves : Stmt := top 55
abbrev sWrongRuleWord : Stmt := top 56
abbrev sWordValue : Stmt := top 57
abbrev sCanStand : Stmt := top 58
abbrev sFillRule_init : Stmt := inClass (top 65) 0
abbrev sFillRule_least_fill : Stmt := inClass (top 65) 1
abbrev sFillRule_fits : Stmt := inClass (top 65) 2
abbrev sFillRule_eq : Stmt := inClass (top 65) 3
abbrev sFillRule_str : Stmt := inClass (top 65) 4
abbrev sFillRule_read : Stmt := inClass (top 65) 5
abbrev sSpill_init : Stmt := inClass (top 66) 0
abbrev sSpill_eq : Stmt := inClass (top 66) 1
abbrev sCanBe : Stmt := top 67
abbrev sWrongFillWord : Stmt := top 68
abbrev sNeedFillRule : Stmt := top 69
abbrev sNeedSize : Stmt := top 70
abbrev sNeedPageSize : Stmt := top 71
abbrev sSpillOf : Stmt := top 72
abbrev sPen : Stmt := top 74
abbrev sDraw : Stmt := top 75
abbrev sPick : Stmt := top 76
abbrev sLNumbers : Stmt := top 77
abbrev sLRule : Stmt := top 78
abbrev sLLeast : Stmt := top 79
abbrev sLIsRight : Stmt := top 80
abbrev sLDealt : Stmt := top 81
abbrev sLPage : Stmt := top 82
abbrev sLGrouped : Stmt := top 83
abbrev sLPut : Stmt := top 84
abbrev sLTake : Stmt := top 85
abbrev sLKeeps : Stmt := top 86
abbrev sLHeard : Stmt := top 87
abbrev sLDue : Stmt := top 88
abbrev sLRight : Stmt := top 89
abbrev sLaw : Stmt := top 90
end Ev
namespace Ev
open PySem L2
/-- all that was tracked is as it was, but at p -/
def But (p : Addr) (H H' : Hp) : Prop := ∀ b o, b ≠ p → H b = some o → H' b = some o
theorem But.refl (p : Addr) (H : Hp) : But p H H := fun _ _ _ e => e
theorem But.trans {p : Addr} {H H1 H2 : Hp} (a : But p H H1) (b : But p H1 H2) : But p H H2 := fun c o n e => b c o n (a c o n e)
theorem Same.but {p : Addr} {H H' : Hp} (a : Same H H') : But p H H' := fun c o _ e => a c o e
theorem But.upd_new {p q : Addr} {H : Hp} {o : HO} (h : H q = none) : But p H (upd H q o) := fun b u _ e => by
  rw [upd_ne (ne_of_none e h)]; exact e
theorem But.upd_at {p : Addr} {H : Hp} {o : HO} : But p H (upd H p o) := fun b u n e => by
  rw [upd_ne n]; exact e
/-- the pen: a list of a list of ints, how often it was asked, and a rest -/
def Pen (L : Addr) (H : Hp) (p : Addr) (B : Int) : Prop := ∃ (ns : List Int) (turn carry : Int),
  H p = some (.lst [.ref L, .int turn, .int carry]) ∧ H L = some (.lst (ns.map V.int)) ∧ L ≠ p ∧ ns.length ≤ 63 ∧ 0 ≤ turn ∧ turn ≤ B ∧ 0 ≤ carry
theorem Pen.keep {L : Addr} {H H' : Hp} {p : Addr} {B : Int} (h : Pen L H p B) (k : Same H H') : Pen L H' p B := by
  obtain ⟨ns, t, c, h1, h2, h3, h4, h5, h6, h7⟩ := h
  exact ⟨ns, t, c, k _ _ h1, k _ _ h2, h3, h4, h5, h6, h7⟩
theorem Pen.mono {L : Addr} {H : Hp} {p : Addr} {B B' : Int} (h : Pen L H p B) (k : B ≤ B') : Pen L H p B' := by
  obtain ⟨ns, t, c, h1, h2, h3, h4, h5, h6, h7⟩ := h
  exact ⟨ns, t, c, h1, h2, h3, h4, h5, by omega, h7⟩
def spDraw : Sp := fun vs H Q _ => ∃ (p L : Addr) (m B : Int), vs = [.ref p, .int m] ∧ 1 ≤ m ∧ m ≤ 1000000000000000000000000000000000000000000000000000000000000 ∧ B ≤ 1000000 ∧ Pen L H p B ∧
  ∀ (d : Int) (H' : Hp), But p H H' → Pen L H' p (B + 1) → 0 ≤ d → d < m → Q (.int d) H'
theorem dpInts {K : PySem.W.Frag} {H : Hp} : ∀ ns : List Int, DpAll K H (ns.map V.int) (ns.map PyData.int)
  | [] => .nil
  | n :: r => .cons (.int n) (dpInts r)
theorem sh_ints (ns : List Int) : SeqAt.shaped (.list (ns.map PyData.int)) = true := by
  have h1 : ∀ ns : List Int, PyData.canLayAll0 (ns.map PyData.int) = true := by
    intro ns
    induction ns with
    | nil => rfl
    | cons n r ih => simp [PyData.canLayAll0, PyData.canLay0, ih]
  have h2 : ∀ ns : List Int, PyData.depthAll (ns.map PyData.int) ≤ 1 := by
    intro ns
    induction ns with
    | nil => simp [PyData.depthAll]
    | cons n r ih => simp [PyData.depthAll, PyData.depth]; omega
  unfold SeqAt.shaped
  rw [Bool.and_eq_true]
  refine ⟨by simp [PyData.canLay0, h1], decide_eq_true ?_⟩
  have := h2 ns
  simp [PyData.depth]; omega
theorem eqv_nil (ns : List Int) : PyData.eqv (.list (ns.map PyData.int)) (.list []) = ns.isEmpty := by
  cases ns <;> simp [PyData.eqv, PyData.eqvAll]
section
variable {P : Program} {w : World} {K : PySem.W.Frag} {mg : Str → Option Value} {base : Heap}
/-- built-ins that the program does not cover -/
structure Blt (mg : Str → Option Value) : Prop where
  int : mg "int" = none
  len : mg "len" = none
  abs : mg "abs" = none
  list : mg "list" = none
  min : mg "min" = none
  max : mg "max" = none
  isi : mg "isinstance" = none
  bool : mg "bool" = none
  tuple : mg "tuple" = none
  all : mg "all" = none
  range : mg "range" = none
  repr : mg "repr" = none
theorem scD : FnScope ["_law_pen_here", "_law_many", "_law_digit", "_law_spot", "_law_cell", "_law_great", "_law_mixed"] ["_law_pen_here", "_law_many"] (defScope sDraw) := ⟨rfl, rfl, rfl, by decide +kernel, rfl, by decide +kernel, by decide +kernel⟩
theorem fmod_lo (a : Int) {m : Int} (h : 1 ≤ m) : 0 ≤ a.fmod m := by rw [Int.fmod_eq_emod_of_nonneg a (by omega)]; exact Int.emod_nonneg a (by omega)
theorem fmod_hi (a : Int) {m : Int} (h : 1 ≤ m) : a.fmod m < m := by rw [Int.fmod_eq_emod_of_nonneg a (by omega)]; exact Int.emod_lt_of_pos a (by omega)
theorem fdiv_lo {a m : Int} (h : 1 ≤ m) (h0 : 0 ≤ a) : 0 ≤ a.fdiv m := by rw [Int.fdiv_eq_ediv_of_nonneg a (by omega)]; exact Int.ediv_nonneg h0 (by omega)
theorem cell_at {ns : List Int} (h : ns ≠ []) (t : Int) : ∃ c : Int, atI (ns.map V.int) (t.fmod (((ns.map V.int).length : Nat) : Int)) = some (V.int c) := by
  rw [List.length_map]
  have l : 0 < ns.length := List.length_pos_iff.mpr h
  have h1 : 0 ≤ t.fmod (ns.length : Int) := fmod_lo t (by omega)
  have h2 : t.fmod (ns.length : Int) < ns.length := fmod_hi t (by omega)
  generalize t.fmod (ns.length : Int) = i at h1 h2
  obtain ⟨j, rfl⟩ := Int.eq_ofNat_of_zero_le h1
  have hj : j < ns.length := by omega
  exact ⟨ns[j], atI_nat (by rw [List.getElem?_map, List.getElem?_eq_getElem hj]; rfl)⟩
theorem mul_le_of {a b A B : Int} (a0 : 0 ≤ a) (b0 : 0 ≤ b) (ha : a ≤ A) (hb : b ≤ B) : 0 ≤ a * b ∧ a * b ≤ A * B :=
  ⟨Int.mul_nonneg a0 b0, Int.mul_le_mul ha hb b0 (by omega)⟩
theorem bound1 (c : Int) {M C D t : Int} (hM : 1 ≤ M) (hM2 : M ≤ 4294967296) (hC : 0 ≤ C ∧ C ≤ 1000000) (hD : 0 ≤ D ∧ D ≤ 1000000) (h0 : 0 ≤ t) (h1 : t ≤ 1000000) : (c.fmod M + C * t + D).natAbs < 2 ^ 64 := by
  have a1 := fmod_lo c hM
  have a2 := fmod_hi c hM
  have ⟨a3, a4⟩ := mul_le_of hC.1 h0 hC.2 h1
  omega
theorem bound2 {x C5 C6 C7 t : Int} (hx : 0 ≤ x ∧ x < 4294967296) (h5 : 0 ≤ C5 ∧ C5 ≤ 1000000) (h6 : 0 ≤ C6 ∧ C6 ≤ 1000000) (h7 : 0 ≤ C7 ∧ C7 ≤ 1000000) (h0 : 0 ≤ t) (h1 : t ≤ 1000000) :
    (x * (2 * t + C5) + C6 * t * t + C7).natAbs < 2 ^ 64 := by
  have ⟨a1, a2⟩ := mul_le_of (b := 2 * t + C5) (A := 4294967296) (B := 3000000) hx.1 (by omega) (by omega) (by omega)
  have ⟨a3, a4⟩ := mul_le_of h6.1 h0 h6.2 h1
  have ⟨a5, a6⟩ := mul_le_of a3 h0 a4 h1
  omega
theorem great_nn {c e : Int} (h : e ≤ (if c < 0 then -c else c)) (b : Bool) : 0 ≤ 2 * ((if c < 0 then -c else c) - e) + (if b = true then 1 else 0) := by
  cases b
  · rw [if_neg Bool.false_ne_true]; omega
  · rw [if_pos rfl]; omega
theorem lt64 {x : Int} (h : 0 ≤ x ∧ x < 4294967296) : -(2 ^ 64) < x ∧ x < 2 ^ 64 := ⟨by omega, by omega⟩
theorem nz {M : Int} (h : 0 < M) : M ≠ 0 := by omega
theorem divW {i m : Int} (h : 1 ≤ m) (h2 : m ≤ 1000000000000000000000000000000000000000000000000000000000000) : CDivW i m := wide_div (b := 200) (by omega) (by omega) (by decide) (by decide)
theorem ediv_lo {a m : Int} (h : 1 ≤ m) (h0 : 0 ≤ a) : 0 ≤ a / m := Int.ediv_nonneg h0 (by omega)
theorem ok_draw {f : Addr} {fd : FuncData} (F : Fun K "_law_draw" "_law_draw" sDraw f fd) (T : Blt mg) : FnOk P w K mg base CX0 1 f fd ["_law_pen_here", "_law_many"] spDraw := by
  refine F.ok scD (fun vs H Q E h => ?_) (fun cdv A outer s H vs Q E hr h => ?_)
  · obtain ⟨p, L, m, B, rfl, _⟩ := h
    rfl
  · obtain ⟨p, L, m, B, rfl, hm, hm2, hB, ⟨ns, tn, ca, hp, hL, Lp, hlen, t0, tB, c0⟩, k⟩ := h
    have hu := hu_of hr
    refine ⟨_, pss_cons (ps_if (pt_cmpR op_gt (pe_ix ix_list (pv 0) pe_int (fun _ _ => rfl)) pe_int (nomark _))
        (pss_cons (ps_set (i := 2) scD.nd rfl (.inl rfl) (pe_op op_modN (pe_callTy call_int1 (by rfl) T.int (by decide +kernel) (pa_cons (pe_ix ix_list (pv 0) pe_int (fun _ _ => rfl)) pa_nil)) (pv 1)))
        (pss_cons (ps_asg (pe_op op_fdivW (pe_callTy call_int1 (by rfl) T.int (by decide +kernel) (pa_cons (pe_ix ix_list (pv 0) pe_int (fun _ _ => rfl)) pa_nil)) (pv 1)) (pg_sub (pv 0) pe_int set_list))
        (pss_one (ps_ret (pv 2))))) pss_nil)
      (pss_cons (ps_set (i := 3) scD.nd rfl (.inl rfl) (pe_ix ix_list (pv 0) pe_int (fun _ _ => rfl)))
      (pss_cons (ps_asg (pe_op op_add (pv 3) pe_int) (pg_sub (pv 0) pe_int set_list))
      (pss_cons (ps_set (i := 4) scD.nd rfl (.inl rfl) (pe_op op_add (pe_op op_mul pe_int (pv 3)) pe_int))
      (pss_cons (ps_if (pt_cmpR (op_neD hr.units) (pe_ix ix_list (pv 0) pe_int (fun _ _ => rfl)) (pe_lst pa_nil) (nomark _))
        (pss_one (ps_set (i := 4) scD.nd rfl (.inl rfl) (pe_ix ix_list (pe_ix ix_list (pv 0) pe_int (fun _ _ => rfl))
          (pe_op op_modN (pe_callTy call_int1 (by rfl) T.int (by decide +kernel) (pa_cons (pv 3) pa_nil)) (pe_callB call_len_seq (by rfl) T.len PySem.boot_len (pa_cons (pe_ix ix_list (pv 0) pe_int (fun _ _ => rfl)) pa_nil))) (fun _ _ => rfl)))) pss_nil)
      (pss_cons (ps_if (PW.pt (pw_and (pt_cmpR op_lt (pv 3) (pe_callB call_len_seq (by rfl) T.len PySem.boot_len (pa_cons (pe_ix ix_list (pv 0) pe_int (fun _ _ => rfl)) pa_nil)) (nomark _))
          (pw_and1 (pt_cmpR op_ge (pe_callB call_abs (by rfl) T.abs (by decide +kernel) (pa_cons (pv 4) pa_nil)) (pe_op op_pow pe_int pe_int) (nomark _)))))
        (pss_cons (ps_set (i := 5) scD.nd rfl (.inl rfl) (pe_op op_add (pe_op op_mul pe_int (pe_op op_sub (pe_callB call_abs (by rfl) T.abs (by decide +kernel) (pa_cons (pv 4) pa_nil)) (pe_op op_pow pe_int pe_int)))
            (pe_callTy call_int1 (by rfl) T.int (by decide +kernel) (pa_cons (pe_cmpR op_lt (pv 4) pe_int (nomark _)) pa_nil))))
        (pss_cons (ps_asg (pe_op op_fdivW (pe_callTy call_int1 (by rfl) T.int (by decide +kernel) (pa_cons (pv 5) pa_nil)) (pv 1)) (pg_sub (pv 0) pe_int set_list))
        (pss_one (ps_ret (pe_op op_modN (pe_callTy call_int1 (by rfl) T.int (by decide +kernel) (pa_cons (pv 5) pa_nil)) (pv 1)))))) pss_nil)
      (pss_cons (ps_set (i := 6) scD.nd rfl (.inl rfl) (pe_op op_modN (pe_callTy call_int1 (by rfl) T.int (by decide +kernel) (pa_cons (pe_op op_pow (pe_op op_add (pe_op op_add
          (pe_op op_modN (pe_callTy call_int1 (by rfl) T.int (by decide +kernel) (pa_cons (pv 4) pa_nil)) pe_int) (pe_op op_mul pe_int (pv 3))) pe_int) pe_int) pa_nil)) pe_int))
      (pss_cons (ps_set (i := 6) scD.nd rfl (.inl rfl) (pe_op op_modN (pe_callTy call_int1 (by rfl) T.int (by decide +kernel) (pa_cons (pe_op op_pow (pe_op op_add (pe_op op_add
          (pe_op op_mul (pv 6) (pe_op op_add (pe_op op_mul pe_int (pv 3)) pe_int)) (pe_op op_mul (pe_op op_mul pe_int (pv 3)) (pv 3))) pe_int) pe_int) pa_nil)) pe_int))
      (pss_one (ps_ret (pe_op op_modN (pe_callTy call_int1 (by rfl) T.int (by decide +kernel) (pa_cons (pe_op op_fdivN (pv 6) pe_int) pa_nil)) (pv 1))))))))))), ?_⟩
    have i2 : ∀ {a b c : V}, atI [a, b, c] 2 = some c := fun {a b c} => atI_nat (j := 2) rfl
    have i1 : ∀ {a b c : V}, atI [a, b, c] 1 = some b := fun {a b c} => atI_nat (j := 1) rfl
    have i0 : ∀ {a b c : V}, atI [a, b, c] 0 = some a := fun {a b c} => atI_nat (j := 0) rfl
    -- if pen[2] > 0
    refine ⟨_, rfl, p, _, 2, _, rfl, rfl, SqL.of hp, i2, _, _, rfl, rfl, _, rfl, ite2 (fun e => ?_) (fun e => ?_)⟩
    · -- digit
      refine ⟨_, rfl, p, _, 2, _, rfl, rfl, SqL.of hp, i2, .inl ⟨_, rfl, _, rfl, _, _, rfl, rfl, (by omega), ?_⟩⟩
      refine ⟨_, rfl, p, _, 2, _, rfl, rfl, SqL.of hp, i2, .inl ⟨_, rfl, _, rfl, _, _, rfl, rfl, divW hm hm2, _, rfl, p, _, _, 2, rfl, rfl, hp, rfl, ?_⟩⟩
      refine ⟨_, rfl, ?_⟩
      exact k _ _ But.upd_at ⟨ns, tn, _, upd_same, by rw [upd_ne Lp]; exact hL, Lp, hlen, t0, by omega, ediv_lo hm c0⟩ (fmod_lo _ hm) (fmod_hi _ hm)
    · -- turn
      refine ⟨_, rfl, p, _, 1, _, rfl, rfl, SqL.of hp, i1, ?_⟩
      refine ⟨_, rfl, _, _, rfl, rfl, _, rfl, p, _, _, 1, rfl, rfl, hp, rfl, ?_⟩
      have hp1 : upd H p (.lst ([V.ref L, V.int tn, V.int ca].set 1 (V.int (tn + 1)))) p = some (.lst [.ref L, .int (tn + 1), .int ca]) := upd_same
      have hL1 : upd H p (.lst ([V.ref L, V.int tn, V.int ca].set 1 (V.int (tn + 1)))) L = some (.lst (ns.map V.int)) := by rw [upd_ne Lp]; exact hL
      have b1 : But p H (upd H p (.lst ([V.ref L, V.int tn, V.int ca].set 1 (V.int (tn + 1))))) := But.upd_at
      generalize upd H p (.lst ([V.ref L, V.int tn, V.int ca].set 1 (V.int (tn + 1)))) = H1 at hp1 hL1 b1 ⊢
      -- cell = c * turn + c'
      refine ⟨_, rfl, _, _, rfl, rfl, .inl ⟨by decide, by decide⟩, _, _, rfl, rfl, ?_⟩
      -- if pen[0] != []
      refine ⟨_, rfl, p, _, 0, _, rfl, rfl, SqL.of hp1, i0, by decide, fun l hl => ?_⟩
      have n1 : p ≠ l := ne_of_none hp1 hl
      have n2 : L ≠ l := ne_of_none hL1 hl
      have hp2 : upd H1 l (.lst []) p = some (.lst [.ref L, .int (tn + 1), .int ca]) := by rw [upd_ne n1]; exact hp1
      have hL2 : upd H1 l (.lst []) L = some (.lst (ns.map V.int)) := by rw [upd_ne n2]; exact hL1
      have hl2 : upd H1 l (.lst []) l = some (.lst []) := upd_same
      have b2 : But p H (upd H1 l (.lst [])) := b1.trans (But.upd_new hl)
      clear b1 hp1 hL1
      generalize upd H1 l (.lst []) = H2 at hp2 hL2 hl2 b2
      refine ⟨_, _, .lst (SqL.of hL2) (dpInts ns), .lst (SqL.of hl2) .nil, sh_ints ns, sh_ints [], _, rfl, ?_⟩
      rw [eqv_nil]
      -- the rest, for any cell
      have hcell : ∀ c : Int, ∃ j : Int, (if c < 0 then -c else c) = j ∧ 0 ≤ j := fun c => by
        by_cases z : c < 0
        · exact ⟨_, rfl, by rw [if_pos z]; omega⟩
        · exact ⟨_, rfl, by rw [if_neg z]; omega⟩
      have fin : ∀ H' : Hp, H' p = some (.lst [.ref L, .int (tn + 1), .int ca]) → H' L = some (.lst (ns.map V.int)) → But p H H' → Pen L H' p (B + 1) := fun H' e1 e2 _ =>
        ⟨ns, tn + 1, ca, e1, e2, Lp, hlen, by omega, by omega, c0⟩
      have ht : tn ≤ 1000000 := by omega
      have hm6 : 0 ≤ 66905 * tn ∧ 66905 * tn ≤ 66905 * 1000000 := mul_le_of (by decide) t0 (Int.le_refl _) ht
      have hq : ∀ {x m : Int}, 1 ≤ m → m ≤ 4294967296 → 0 ≤ x.fmod m ∧ x.fmod m < 4294967296 := fun {x m} h1 h2 => ⟨fmod_lo x h1, by have := fmod_hi x h1; omega⟩
      cases hn : ns with
      | nil =>
        refine iteF ?_
        refine ⟨_, rfl, _, rfl, p, _, 0, _, rfl, rfl, SqL.of hp2, i0, L, _, rfl, .inl (SqL.of hL2), _, _, rfl, rfl, _, rfl, ite2 (fun e1 => ?_) (fun e1 => ?_)⟩
        · refine ⟨_, rfl, _, rfl, _, _, rfl, rfl, ⟨by decide, by decide, by decide⟩, _, _, rfl, rfl, _, rfl, ite2 (fun e2 => ?_) (fun e2 => ?_)⟩
          · refine ⟨_, rfl, _, rfl, _, _, rfl, rfl, ⟨by decide, by decide, by decide⟩, _, _, rfl, rfl, _, _, rfl, rfl, .inl ⟨by decide, by decide⟩, _, rfl, _, _, rfl, rfl, .inr ⟨_, rfl, _, _, rfl, rfl, ?_⟩⟩
            refine ⟨_, rfl, .inl ⟨_, rfl, _, rfl, _, _, rfl, rfl, divW hm hm2, _, rfl, p, _, _, 2, rfl, rfl, hp2, rfl, ?_⟩⟩
            refine ⟨_, rfl, .inl ⟨_, rfl, _, rfl, _, _, rfl, rfl, (by omega), ?_⟩⟩
            refine k _ _ (b2.trans But.upd_at) ⟨_, tn + 1, _, upd_same, by rw [upd_ne Lp]; exact hL2, Lp, hlen, by omega, by omega, ediv_lo hm ?_⟩ (fmod_lo _ hm) (fmod_hi _ hm)
            have e3 := of_decide_eq_true e2
            exact great_nn e3 _
          · skip
            refine ⟨_, rfl, .inl ⟨_, rfl, _, _, rfl, rfl, nz (by decide), _, rfl, _, _, rfl, rfl, .inl ⟨by decide, by decide⟩, _, _, rfl, rfl, _, _, rfl, rfl, _, _, rfl, rfl, ⟨by decide, by decide, bound1 _ (by decide) (by decide) (by decide) (by decide) t0 ht⟩, .inl ⟨_, rfl, _, _, rfl, rfl, nz (by decide), ?_⟩⟩⟩
            refine ⟨_, rfl, _, rfl, _, _, rfl, rfl, .inl ⟨by decide, by decide⟩, _, _, rfl, rfl, _, _, rfl, rfl, .inl ?_, _, rfl, _, _, rfl, rfl, .inl ⟨by decide, by decide⟩, _, rfl, _, _, rfl, rfl, .inl ?_, _, _, rfl, rfl, _, _, rfl, rfl, _, _, rfl, rfl, ⟨by decide, by decide, ?_⟩, .inl ⟨_, rfl, _, _, rfl, rfl, nz (by decide), ?_⟩⟩
            · exact lt64 (hq (by decide) (by decide))
            · exact ⟨by omega, by omega⟩
            · exact bound2 (hq (by decide) (by decide)) (by decide) (by decide) (by decide) t0 ht
            · refine ⟨_, rfl, _, _, rfl, rfl, ⟨by decide, by decide⟩, .inl ⟨_, rfl, _, rfl, _, _, rfl, rfl, (by omega), ?_⟩⟩
              exact k _ _ b2 (fin _ hp2 hL2 b2) (fmod_lo _ hm) (fmod_hi _ hm)
        · skip
          refine ⟨_, rfl, .inl ⟨_, rfl, _, _, rfl, rfl, nz (by decide), _, rfl, _, _, rfl, rfl, .inl ⟨by decide, by decide⟩, _, _, rfl, rfl, _, _, rfl, rfl, _, _, rfl, rfl, ⟨by decide, by decide, bound1 _ (by decide) (by decide) (by decide) (by decide) t0 ht⟩, .inl ⟨_, rfl, _, _, rfl, rfl, nz (by decide), ?_⟩⟩⟩
          refine ⟨_, rfl, _, rfl, _, _, rfl, rfl, .inl ⟨by decide, by decide⟩, _, _, rfl, rfl, _, _, rfl, rfl, .inl ?_, _, rfl, _, _, rfl, rfl, .inl ⟨by decide, by decide⟩, _, rfl, _, _, rfl, rfl, .inl ?_, _, _, rfl, rfl, _, _, rfl, rfl, _, _, rfl, rfl, ⟨by decide, by decide, ?_⟩, .inl ⟨_, rfl, _, _, rfl, rfl, nz (by decide), ?_⟩⟩
          · exact lt64 (hq (by decide) (by decide))
          · exact ⟨by omega, by omega⟩
          · exact bound2 (hq (by decide) (by decide)) (by decide) (by decide) (by decide) t0 ht
          · refine ⟨_, rfl, _, _, rfl, rfl, ⟨by decide, by decide⟩, .inl ⟨_, rfl, _, rfl, _, _, rfl, rfl, (by omega), ?_⟩⟩
            exact k _ _ b2 (fin _ hp2 hL2 b2) (fmod_lo _ hm) (fmod_hi _ hm)
      | cons n0 nr =>
        refine iteT ?_
        obtain ⟨c, hc⟩ := cell_at (ns := ns) (by rw [hn]; exact List.cons_ne_nil _ _) tn
        refine ⟨_, rfl, p, _, 0, _, rfl, rfl, SqL.of hp2, i0, _, rfl, .inl ⟨_, rfl, _, rfl, p, _, 0, _, rfl, rfl, SqL.of hp2, i0, L, _, rfl, .inl (SqL.of hL2), _, _, rfl, rfl, (by rw [List.length_map, hn, List.length_cons]; omega), L, _, _, _, rfl, rfl, SqL.of hL2, hc, ?_⟩⟩
        refine ⟨_, rfl, _, rfl, p, _, 0, _, rfl, rfl, SqL.of hp2, i0, L, _, rfl, .inl (SqL.of hL2), _, _, rfl, rfl, _, rfl, ite2 (fun e1 => ?_) (fun e1 => ?_)⟩
        · refine ⟨_, rfl, _, rfl, _, _, rfl, rfl, ⟨by decide, by decide, by decide⟩, _, _, rfl, rfl, _, rfl, ite2 (fun e2 => ?_) (fun e2 => ?_)⟩
          · refine ⟨_, rfl, _, rfl, _, _, rfl, rfl, ⟨by decide, by decide, by decide⟩, _, _, rfl, rfl, _, _, rfl, rfl, .inl ⟨by decide, by decide⟩, _, rfl, _, _, rfl, rfl, .inr ⟨_, rfl, _, _, rfl, rfl, ?_⟩⟩
            refine ⟨_, rfl, .inl ⟨_, rfl, _, rfl, _, _, rfl, rfl, divW hm hm2, _, rfl, p, _, _, 2, rfl, rfl, hp2, rfl, ?_⟩⟩
            refine ⟨_, rfl, .inl ⟨_, rfl, _, rfl, _, _, rfl, rfl, (by omega), ?_⟩⟩
            refine k _ _ (b2.trans But.upd_at) ⟨_, tn + 1, _, upd_same, by rw [upd_ne Lp]; exact hL2, Lp, hlen, by omega, by omega, ediv_lo hm ?_⟩ (fmod_lo _ hm) (fmod_hi _ hm)
            have e3 := of_decide_eq_true e2
            exact great_nn e3 _
          · skip
            refine ⟨_, rfl, .inl ⟨_, rfl, _, _, rfl, rfl, nz (by decide), _, rfl, _, _, rfl, rfl, .inl ⟨by decide, by decide⟩, _, _, rfl, rfl, _, _, rfl, rfl, _, _, rfl, rfl, ⟨by decide, by decide, bound1 _ (by decide) (by decide) (by decide) (by decide) t0 ht⟩, .inl ⟨_, rfl, _, _, rfl, rfl, nz (by decide), ?_⟩⟩⟩
            refine ⟨_, rfl, _, rfl, _, _, rfl, rfl, .inl ⟨by decide, by decide⟩, _, _, rfl, rfl, _, _, rfl, rfl, .inl ?_, _, rfl, _, _, rfl, rfl, .inl ⟨by decide, by decide⟩, _, rfl, _, _, rfl, rfl, .inl ?_, _, _, rfl, rfl, _, _, rfl, rfl, _, _, rfl, rfl, ⟨by decide, by decide, ?_⟩, .inl ⟨_, rfl, _, _, rfl, rfl, nz (by decide), ?_⟩⟩
            · exact lt64 (hq (by decide) (by decide))
            · exact ⟨by omega, by omega⟩
            · exact bound2 (hq (by decide) (by decide)) (by decide) (by decide) (by decide) t0 ht
            · refine ⟨_, rfl, _, _, rfl, rfl, ⟨by decide, by decide⟩, .inl ⟨_, rfl, _, rfl, _, _, rfl, rfl, (by omega), ?_⟩⟩
              exact k _ _ b2 (fin _ hp2 hL2 b2) (fmod_lo _ hm) (fmod_hi _ hm)
        · skip
          refine ⟨_, rfl, .inl ⟨_, rfl, _, _, rfl, rfl, nz (by decide), _, rfl, _, _, rfl, rfl, .inl ⟨by decide, by decide⟩, _, _, rfl, rfl, _, _, rfl, rfl, _, _, rfl, rfl, ⟨by decide, by decide, bound1 _ (by decide) (by decide) (by decide) (by decide) t0 ht⟩, .inl ⟨_, rfl, _, _, rfl, rfl, nz (by decide), ?_⟩⟩⟩
          refine ⟨_, rfl, _, rfl, _, _, rfl, rfl, .inl ⟨by decide, by decide⟩, _, _, rfl, rfl, _, _, rfl, rfl, .inl ?_, _, rfl, _, _, rfl, rfl, .inl ⟨by decide, by decide⟩, _, rfl, _, _, rfl, rfl, .inl ?_, _, _, rfl, rfl, _, _, rfl, rfl, _, _, rfl, rfl, ⟨by decide, by decide, ?_⟩, .inl ⟨_, rfl, _, _, rfl, rfl, nz (by decide), ?_⟩⟩
          · exact lt64 (hq (by decide) (by decide))
          · exact ⟨by omega, by omega⟩
          · exact bound2 (hq (by decide) (by decide)) (by decide) (by decide) (by decide) t0 ht
          · refine ⟨_, rfl, _, _, rfl, rfl, ⟨by decide, by decide⟩, .inl ⟨_, rfl, _, rfl, _, _, rfl, rfl, (by omega), ?_⟩⟩
            exact k _ _ b2 (fin _ hp2 hL2 b2) (fmod_lo _ hm) (fmod_hi _ hm)
end
end Ev
namespace Ev
open PySem L2 PySem.Spec PyProof.Rows
abbrev sParts : Stmt := sPartsOf
abbrev sBRInit : Stmt := sBadRule_init
abbrev sNHInit : Stmt := sNoHalves_init
abbrev sTurnInit : Stmt := sTurnRule_init
abbrev sTurnEq : Stmt := sTurnRule_eq
abbrev sTryInit : Stmt := sTryRule_init
abbrev sTryEq : Stmt := sTryRule_eq
abbrev sTimes : Stmt := sIsTimes
abbrev sPlus : Stmt := sIsPlus
abbrev sTurn : Stmt := sIsTurn
abbrev sNeedT : Stmt := sNeedTimes
abbrev sHalves : Stmt := sHasHalves
abbrev sNeedH : Stmt := sNeedHalves
abbrev sNums : Stmt := sLNumbers
abbrev sRule : Stmt := sLRule
abbrev sHeard : Stmt := sLHeard
theorem same_new {H : Hp} {q : Addr} {o : HO} (n : H q = none) : Same H (upd H q o) := fun b u e => by rw [upd_ne (ne_of_none e n)]; exact e
theorem Same.gone {H H' : Hp} {p : Addr} (k : Same H H') (n : H' p = none) : H p = none := by
  cases z : H p with
  | none => rfl
  | some o => rw [k _ _ z] at n; cases n
/-- a def that stands under its name -/
structure Df (P : Program) (w : World) (K : PySem.W.Frag) (mg : Str → Option Value) (base : Heap) (k : Nat) (x : Str) (ps : List Str) (sp : Sp) : Prop where
  ex : ∃ (f : Addr) (fd : FuncData), FnOk P w K mg base CX0 k f fd ps sp ∧ mg x = some (.ref f) ∧ PySem.W.keepIn K (.ref f) = true ∧ Binds K fd ps []
theorem extN_refl (H : Hp) : LamX.ExtN H H := fun _ _ e _ => e
theorem sx {H H1 H2 : Hp} (k : Same H H1) (q : LamX.ExtN H1 H2) : LamX.ExtN H H2 := fun b o e t => q b o (k b o e) t
theorem xx {H H1 H2 : Hp} (k : LamX.ExtN H H1) (q : LamX.ExtN H1 H2) : LamX.ExtN H H2 := fun b o e t => q b o (k b o e t) t
/-- no integer -/
def NoInt (H : Hp) (v : V) : Prop := (∀ i, v ≠ .int i) ∧ ∃ (T : String) (b c : Bool), (∀ (K : PySem.W.Frag) (H' : Hp), LamX.ExtN H H' → TyX K H' v (.type T)) ∧ kitB T "int" = some b ∧ kitB T "bool" = some c ∧ (b = true → c = true)
theorem NoInt.keep {H H' : Hp} {v : V} (h : NoInt H v) (k : Same H H') : NoInt H' v := by
  obtain ⟨n, T, b, c, ty, r⟩ := h
  exact ⟨n, T, b, c, fun K G q => ty K G (sx k q), r⟩
theorem NoInt.ext {H H' : Hp} {v : V} (h : NoInt H v) (k : LamX.ExtN H H') : NoInt H' v := by
  obtain ⟨n, T, b, c, ty, r⟩ := h
  exact ⟨n, T, b, c, fun K G q => ty K G (xx k q), r⟩
/-- an integer or none -/
def IntQ (H : Hp) (v : V) : Prop := (∃ i, v = .int i) ∨ NoInt H v
theorem IntQ.keep {H H' : Hp} {v : V} (h : IntQ H v) (k : Same H H') : IntQ H' v := h.imp id fun n => n.keep k
theorem IntQ.ext {H H' : Hp} {v : V} (h : IntQ H v) (k : LamX.ExtN H H') : IntQ H' v := h.imp id fun n => n.ext k
def isI : V → Bool
  | .int _ => true
  | _ => false
def inB (l m : Int) : V → Bool
  | .int i => decide (l ≤ i) && decide (i ≤ m)
  | _ => false
theorem isI_no {H : Hp} {v : V} (h : NoInt H v) : isI v = false := by
  cases v <;> first | rfl | exact absurd rfl (h.1 _)
theorem inB_no {H : Hp} {v : V} (h : NoInt H v) (l m : Int) : inB l m v = false := by
  cases v <;> first | rfl | exact absurd rfl (h.1 _)
/-- what stands in such a tuple -/
def Scal (v : V) : Prop := (∃ i, v = .int i) ∨ (∃ b, v = .bl b) ∨ v = .str "2" ∨ v = .non
theorem noInt_bl (H : Hp) (b : Bool) : NoInt H (.bl b) := ⟨fun i z => (by cases z), "bool", true, true, fun _ _ _ => .base (.bl b), by decide +kernel, by decide +kernel, fun _ => rfl⟩
theorem noInt_str (H : Hp) (x : Str) : NoInt H (.str x) := ⟨fun i z => (by cases z), "str", false, false, fun _ _ _ => .base (.str x), by decide +kernel, by decide +kernel, fun z => z⟩
theorem noInt_non (H : Hp) : NoInt H .non := ⟨fun i z => (by cases z), "NoneType", false, false, fun _ _ _ => .base .non, by decide +kernel, by decide +kernel, fun z => z⟩
theorem Scal.q {H : Hp} {v : V} (h : Scal v) : IntQ H v := by
  rcases h with ⟨i, rfl⟩ | ⟨b, rfl⟩ | rfl | rfl
  · exact .inl ⟨i, rfl⟩
  · exact .inr (noInt_bl H b)
  · exact .inr (noInt_str H _)
  · exact .inr (noInt_non H)
/-- no tuple -/
def NoTup (H : Hp) (v : V) : Prop := ∃ T : String, (∀ (K : PySem.W.Frag) (H' : Hp), LamX.ExtN H H' → TyX K H' v (.type T)) ∧ kitB T "tuple" = some false
theorem NoTup.keep {H H' : Hp} {v : V} (h : NoTup H v) (k : Same H H') : NoTup H' v := by
  obtain ⟨T, ty, r⟩ := h
  exact ⟨T, fun K G q => ty K G (sx k q), r⟩
theorem NoTup.ext {H H' : Hp} {v : V} (h : NoTup H v) (k : LamX.ExtN H H') : NoTup H' v := by
  obtain ⟨T, ty, r⟩ := h
  exact ⟨T, fun K G q => ty K G (xx k q), r⟩
/-- a tuple of such values, or no tuple: xs tells which -/
def PairQ (H : Hp) (v : V) : Option (List V) → Prop
  | some xs => ∃ a, v = .ref a ∧ H a = some (.tup xs) ∧ xs.length ≤ 1000 ∧ ∀ x ∈ xs, Scal x
  | none => NoTup H v
theorem PairQ.keep {H H' : Hp} {v : V} {o : Option (List V)} (h : PairQ H v o) (k : Same H H') : PairQ H' v o := by
  cases o with
  | none => exact NoTup.keep h k
  | some xs =>
    obtain ⟨a, e, h1, h2, h3⟩ := h
    exact ⟨a, e, k _ _ h1, h2, h3⟩
theorem PairQ.ext {H H' : Hp} {v : V} {o : Option (List V)} (h : PairQ H v o) (k : LamX.ExtN H H') : PairQ H' v o := by
  cases o with
  | none => exact NoTup.ext h k
  | some xs =>
    obtain ⟨a, e, h1, h2, h3⟩ := h
    exact ⟨a, e, k _ _ h1 (fun _ z => by cases z), h2, h3⟩
def pairB (m : Int) : Option (List V) → Bool
  | some [x, y] => inB 1 m x && inB 1 m y
  | _ => false
def leV : V → V → Bool
  | .int i, .int j => decide (j ≤ i)
  | _, _ => false
def timesB : Option (List V) → Bool
  | some [x, y] => (inB 1 6 x && inB 1 6 y) && leV x y
  | _ => false
def spIsIntA : Sp := fun vs H Q _ => ∃ v : V, vs = [v] ∧ IntQ H v ∧ Q (.bl (isI v)) H
def spWithinA : Sp := fun vs H Q _ => ∃ (v : V) (l m : Int), vs = [v, .int l, .int m] ∧ IntQ H v ∧ Q (.bl (inB l m v)) H
def spPairA : Sp := fun vs H Q _ => ∃ (v : V) (o : Option (List V)) (m : Int), vs = [v, .int m] ∧ PairQ H v o ∧ ∀ H', Same H H' → Q (.bl (pairB m o)) H'
def spTimesA : Sp := fun vs H Q _ => ∃ (v : V) (o : Option (List V)), vs = [v] ∧ PairQ H v o ∧ ∀ H', Same H H' → Q (.bl (timesB o)) H'
def spPlusA : Sp := fun vs H Q _ => ∃ v : V, vs = [v] ∧ IntQ H v ∧ Q (.bl (inB (-6) 6 v)) H
def spTurnA : Sp := fun vs H Q _ => ∃ (v : V) (o : Option (List V)), vs = [v] ∧ PairQ H v o ∧ ∀ H', Same H H' → Q (.bl (pairB 8 o)) H'
theorem lc_pureV {J : It} {n : Nat} {G : Hp → Prop} {Y : Nat → Hp → V → Hp → Prop} (W : Walk J n G Y) {g : TG} {tt : TT} {te : TE} {vs : List Nat} {σ : L2.St} {H1 : Hp} {D : Addr} {Qd : Hp → Prop} (rs : List V) (hn : rs.length = n) (hb : n ≤ 4000)
    (hG : ∀ H, But D H1 H → G H)
    (step : ∀ (i : Nat) (x : V) (H H' : Hp) (r : V), i < n → rs[i]? = some r → But D H1 H → (∃ acc, H D = some (.lst acc)) → Y i H x H' → ∀ (R : VK) (Wk : Hp → Prop), (∀ H4, Same H H4 → R r H4) →
      g x (wipe σ vs) H' fun σ2 H2 => wipe σ2 vs = wipe σ vs ∧ tt σ2 H2 fun b H3 => if b = true then te σ2 H3 R else Wk H3)
    (fin : ∀ H, But D H1 H → H D = some (.lst rs) → Qd H) :
    ∃ W : Nat → Nat → Hp → Prop, (∃ m, W 0 m (upd H1 D (HO.lst []))) ∧ ∀ (i m : Nat) (H : Hp), W i m H → J.stop i H ∧ Qd H ∨ J.go i H ∧ ∃ Nx : Hp → Prop, (∀ (H' : Hp), Nx H' → ∃ m', m' < m ∧ W (i + 1) m' H') ∧
      ∀ (x : V) (H' : Hp), J.yld i H x H' → g x (wipe σ vs) H' fun σ2 H2 => wipe σ2 vs = wipe σ vs ∧ tt σ2 H2 fun b H3 =>
        if b = true then te σ2 H3 fun y H4 => ∃ acc, H4 D = some (HO.lst acc) ∧ acc.length < sizeLine ∧ Nx (upd H4 D (HO.lst (acc ++ [y]))) else Nx H3 := by
  refine lc_it W (fun i H => H D = some (.lst (rs.take i)) ∧ But D H1 H) ⟨upd_same, But.upd_at⟩ (fun i H _ h => hG H h.2) (fun i x H H' hi h y => ?_) (fun H h => ?_)
  · obtain ⟨e1, e2⟩ := h
    have hr : rs[i]? = some rs[i] := List.getElem?_eq_getElem (by omega)
    refine step i x H H' rs[i] hi hr e2 ⟨_, e1⟩ y _ _ fun H4 s4 => ⟨_, s4 _ _ e1, ?_, ?_, ?_⟩
    · rw [List.length_take]
      exact Nat.lt_of_le_of_lt (Nat.min_le_left _ _) (Nat.lt_of_lt_of_le (show i < 4000 by omega) (by decide))
    · rw [List.take_add_one, hr]
      exact upd_same
    · exact fun c o nc ec => by rw [upd_ne nc]; exact s4 _ _ (e2 c o nc ec)
  · obtain ⟨e1, e2⟩ := h
    rw [← hn, List.take_length] at e1
    exact fin H e2 e1
section
variable {P : Program} {w : World} {K : PySem.W.Frag} {mg : Str → Option Value} {base : Heap}
theorem tup1 {a b : V} : atI [a, b] 1 = some b := atI_nat (j := 1) rfl
theorem tup0 {a b : V} : atI [a, b] 0 = some a := atI_nat (j := 0) rfl
theorem scIsInt : FnScope ["value"] ["value"] (defScope sIsInt) := ⟨rfl, rfl, rfl, by decide +kernel, rfl, by decide +kernel, by decide +kernel⟩
theorem ok_isInt {f : Addr} {fd : FuncData} (F : Fun K "is_integer" "is_integer" sIsInt f fd) (T : Blt mg) : FnOk P w K mg base CX0 1 f fd ["value"] spIsIntA := by
  refine F.ok scIsInt (fun vs H Q E h => ?_) (fun cdv A outer s H vs Q E hr h => ?_)
  · obtain ⟨v, rfl, _⟩ := h
    rfl
  · obtain ⟨v, rfl, h, k⟩ := h
    refine ⟨_, pss_one (ps_ret (pe_and (pe_callB call_isi (by rfl) T.isi (by decide +kernel) (pa_cons (pv 0) (pa_cons (pe_bltn (v := .ty "int") (by rfl) T.int (by decide +kernel) rfl) pa_nil)))
      (pe_one (pe_not (pe_callB call_isi (by rfl) T.isi (by decide +kernel) (pa_cons (pv 0) (pa_cons (pe_bltn (v := .ty "bool") (by rfl) T.bool (by decide +kernel) rfl) pa_nil))))))), ?_⟩
    rcases h with ⟨i, rfl⟩ | no
    · exact ⟨_, rfl, _, _, _, _, true, rfl, .ty _, .base (.int i), kit_ty (by decide +kernel), true, rfl, iteT ⟨_, rfl, _, _, _, _, false, rfl, .ty _, .base (.int i), kit_ty (by decide +kernel), _, rfl, k⟩⟩
    · rw [isI_no no] at k
      obtain ⟨_, TT, b, c, ty, e1, e2, e3⟩ := no
      refine ⟨_, rfl, _, _, _, _, b, rfl, .ty _, ty _ _ (extN_refl H), kit_ty e1, b, rfl, ?_⟩
      cases b with
      | false => exact iteF k
      | true => exact iteT ⟨_, rfl, _, _, _, _, true, rfl, .ty _, ty _ _ (extN_refl H), kit_ty (by rw [e2, e3 rfl]), _, rfl, k⟩
theorem scWithin : FnScope ["value", "least", "most"] ["value", "least", "most"] (defScope sWithin) := ⟨rfl, rfl, rfl, by decide +kernel, rfl, by decide +kernel, by decide +kernel⟩
theorem ok_within {f : Addr} {fd : FuncData} (F : Fun K "is_within" "is_within" sWithin f fd) (D : Df P w K mg base 1 "is_integer" ["value"] spIsIntA) : FnOk P w K mg base CX0 2 f fd ["value", "least", "most"] spWithinA := by
  obtain ⟨fI, fdI, GI, gI, kI, bI⟩ := D.ex
  refine F.ok scWithin (fun vs H Q E h => ?_) (fun cdv A outer s H vs Q E hr h => ?_)
  · obtain ⟨v, l, m, rfl, _⟩ := h
    rfl
  · obtain ⟨v, l, m, rfl, h, k⟩ := h
    refine ⟨_, pss_one (ps_ret (pe_and (pe_call GI hr (by rfl) gI kI bI .nil pass0 (pa_cons (pv 0) pa_nil)) (pe_one (pe_chain op_le op_le (pv 1) (pv 0) (pv 2))))), ?_⟩
    refine ⟨_, rfl, _, rfl, h, ?_⟩
    rcases h with ⟨i, rfl⟩ | no
    · refine ⟨true, rfl, iteT ⟨_, rfl, _, rfl, _, _, rfl, rfl, _, rfl, ?_⟩⟩
      have k : Q (.bl (decide (l ≤ i) && decide (i ≤ m))) H := k
      by_cases z : l ≤ i
      · rw [decide_eq_true z] at k ⊢
        refine iteT ⟨_, rfl, _, _, rfl, rfl, ?_⟩
        exact k
      · rw [decide_eq_false z] at k ⊢
        exact iteF k
    · rw [inB_no no] at k
      rw [isI_no no]
      exact ⟨false, rfl, iteF k⟩
theorem scPair : FnScope ["value", "most", "item"] ["value", "most"] (defScope sPair) := ⟨rfl, rfl, rfl, by decide +kernel, rfl, by decide +kernel, by decide +kernel⟩
theorem pairB_len {m : Int} {xs : List V} (h : xs.length ≠ 2) : pairB m (some xs) = false := by
  match xs, h with
  | [], _ => rfl
  | [_], _ => rfl
  | [_, _], h => exact absurd rfl h
  | _ :: _ :: _ :: _, _ => rfl
theorem ok_pair {f : Addr} {fd : FuncData} (F : Fun K "is_pair" "is_pair" sPair f fd) (T : Blt mg) (D : Df P w K mg base 2 "is_within" ["value", "least", "most"] spWithinA) : FnOk P w K mg base CX0 3 f fd ["value", "most"] spPairA := by
  obtain ⟨fW, fdW, GW, gW, kW, bW⟩ := D.ex
  refine F.ok scPair (fun vs H Q E h => ?_) (fun cdv A outer s H vs Q E hr h => ?_)
  · obtain ⟨v, o, m, rfl, _⟩ := h
    rfl
  · obtain ⟨v, o, m, rfl, hv, k⟩ := h
    refine ⟨_, pss_one (ps_ret (pe_and (pe_callB call_isi (by rfl) T.isi (by decide +kernel) (pa_cons (pv 0) (pa_cons (pe_bltn (v := .ty "tuple") (by rfl) T.tuple (by decide +kernel) rfl) pa_nil)))
      (pe_and (pe_cmpR op_eq (pe_callB call_len_seq (by rfl) T.len PySem.boot_len (pa_cons (pv 0) pa_nil)) pe_int (nomark _))
      (pe_one (pe_callB (cr_all rfl) (by rfl) T.all (by decide +kernel) (pa_cons (pe_lc (own := [("item", 2)]) (g := gName 2) (tt := tYes) (te := tCall spWithinA [] E0 (tCons (tVar 2) (tCons (tC (.int 1)) (tCons (tVar 1) tNil)))) (by rfl) scPair.nd (pi_tup (pv 0)) (blkOk_by (own := [("item", 2)]) (N := ["value", "most", "item"]) (sc := defScope sPair) (by decide +kernel))
          (fun _ _ _ _ _ => pg_name (i := 2) scPair.nd rfl (.inl rfl)) (fun _ _ _ _ _ => pts_nil) (fun _ _ _ _ _ => pe_call GW hr (by rfl) gW kW bW .nil pass0 (pa_cons (pv 2) (pa_cons pe_int (pa_cons (pv 1) pa_nil))))) pa_nil)))))), ?_⟩
    cases o with
    | none =>
      obtain ⟨TT, ty, e⟩ := hv
      exact ⟨_, rfl, _, _, _, _, false, rfl, .ty _, ty _ _ (extN_refl H), kit_ty e, false, rfl, iteF (k H (Same.refl H))⟩
    | some xs =>
      obtain ⟨a, rfl, ha, hl, hq⟩ := hv
      refine ⟨_, rfl, _, _, _, _, true, rfl, .ty _, .base (.tup ha), kit_ty (by decide +kernel), true, rfl, iteT ⟨_, rfl, a, _, rfl, .inr (SqT.of ha), rfl, _, rfl, ite2 (fun e => ?_) (fun e => ?_)⟩⟩
      · have e : xs.length = 2 := by
          have e' : (xs.length : Int) = 2 := by simpa using e
          omega
        refine ⟨_, rfl, a, rfl, ⟨_, SqT.of ha⟩, fun D nD => ?_⟩
        have aD := ne_of_none ha nD
        refine lc_pureV (n := xs.length) (walk_tup (xs := xs)) (xs.map fun x => V.bl (inB 1 m x)) (List.length_map _) (by omega) (fun H' h => SqT.of (h _ _ aD ha)) (fun i v H2 H' r hi hr bt _ y R Wk kk => ?_) (fun H' bt hD => ?_)
        · obtain ⟨rfl, hv⟩ := y
          have er : r = V.bl (inB 1 m v) := by
            rw [List.getElem?_map, hv] at hr
            exact (Option.some.inj hr).symm
          subst er
          have sq : IntQ H' v := (hq v (List.mem_of_getElem? hv)).q
          exact ⟨rfl, _, rfl, _, rfl, v, 1, m, rfl, sq, kk _ (Same.refl _)⟩
        · have s1 : Same H H' := fun c o e => bt c o (ne_of_none e nD) e
          have eq : (xs.map fun x => V.bl (inB 1 m x)) = (xs.map fun x => inB 1 m x).map V.bl := by rw [List.map_map]; rfl
          rw [eq] at hD
          refine ⟨D, _, rfl, SqL.of hD, ?_⟩
          match xs, e with
          | [x, y], _ =>
            have := k H' s1
            simpa [pairB] using this
      · have e : xs.length ≠ 2 := by
          have e' : ¬ (xs.length : Int) = 2 := by simpa using e
          omega
        have := k H (Same.refl H)
        rw [pairB_len e] at this
        simpa using this
theorem scTimes : FnScope ["value"] ["value"] (defScope sTimes) := ⟨rfl, rfl, rfl, by decide +kernel, rfl, by decide +kernel, by decide +kernel⟩
theorem inB_int {l m : Int} {v : V} (h : inB l m v = true) : ∃ i, v = .int i ∧ l ≤ i ∧ i ≤ m := by
  cases v <;> first | cases h | skip
  rename_i i
  have h : (decide (l ≤ i) && decide (i ≤ m)) = true := h
  rw [Bool.and_eq_true, decide_eq_true_eq, decide_eq_true_eq] at h
  exact ⟨i, rfl, h.1, h.2⟩
theorem pair_cases (m : Int) (o : Option (List V)) : (∃ i j, o = some [.int i, .int j] ∧ (1 ≤ i ∧ i ≤ m) ∧ (1 ≤ j ∧ j ≤ m) ∧ pairB m o = true) ∨ pairB m o = false := by
  cases z : pairB m o with
  | false => exact .inr rfl
  | true =>
    refine .inl ?_
    match o, z with
    | some [x, y], z =>
      have z : (inB 1 m x && inB 1 m y) = true := z
      rw [Bool.and_eq_true] at z
      obtain ⟨i, rfl, h1, h2⟩ := inB_int z.1
      obtain ⟨j, rfl, h3, h4⟩ := inB_int z.2
      exact ⟨i, j, rfl, ⟨h1, h2⟩, ⟨h3, h4⟩, rfl⟩
theorem times_no {o : Option (List V)} (h : pairB 6 o = false) : timesB o = false := by
  match o, h with
  | none, _ => rfl
  | some [], _ => rfl
  | some [_], _ => rfl
  | some [x, y], h =>
    have h : (inB 1 6 x && inB 1 6 y) = false := h
    show ((inB 1 6 x && inB 1 6 y) && leV x y) = false
    rw [h]
    rfl
  | some (_ :: _ :: _ :: _), _ => rfl
theorem ok_times {f : Addr} {fd : FuncData} (F : Fun K "is_times" "is_times" sTimes f fd) (D : Df P w K mg base 3 "is_pair" ["value", "most"] spPairA) {CW : Addr} {mc u : Value} (gW : mg "WeightRule" = some (.ref CW)) (cr : ClX.CRead K CW mc) (cv : ClX.CVal K CW mc "MOST" (.int 6) u) :
    FnOk P w K mg base CX0 4 f fd ["value"] spTimesA := by
  obtain ⟨fP, fdP, GP, gP, kP, bP⟩ := D.ex
  refine F.ok scTimes (fun vs H Q E h => ?_) (fun cdv A outer s H vs Q E hr h => ?_)
  · obtain ⟨v, o, rfl, _⟩ := h
    rfl
  · obtain ⟨v, o, rfl, hv, k⟩ := h
    refine ⟨_, pss_one (ps_ret (pe_and (pe_call GP hr (by rfl) gP kP bP .nil pass0 (pa_cons (pv 0) (pa_cons (ClX.pe_cval (pe_glob (v := .ref CW) rfl gW rfl)) pa_nil)))
      (pe_one (pe_cmpR op_le (pe_ix ix_tup (pv 0) pe_int (fun _ _ => rfl)) (pe_ix ix_tup (pv 0) pe_int (fun _ _ => rfl)) (nomark _))))), ?_⟩
    refine ⟨_, rfl, CW, mc, _, u, rfl, cr, cv, v, o, _, rfl, hv, fun H' s => ?_⟩
    rcases pair_cases 6 o with ⟨i, j, rfl, h1, h2, e⟩ | e
    · rw [e]
      obtain ⟨a, rfl, ha, _⟩ := hv
      refine ⟨true, rfl, iteT ⟨_, rfl, a, _, 1, _, rfl, rfl, SqT.of (s _ _ ha), tup1, _, rfl, a, _, 0, _, rfl, rfl, SqT.of (s _ _ ha), tup0, _, _, rfl, rfl, ?_⟩⟩
      have k := k H' s
      have e : (inB 1 6 (.int i) && inB 1 6 (.int j)) = true := e
      have k : Q (.bl ((inB 1 6 (.int i) && inB 1 6 (.int j)) && decide (j ≤ i))) H' := k
      rw [e, Bool.true_and] at k
      exact k
    · have k := k H' s
      rw [times_no e] at k
      rw [e]
      exact ⟨false, rfl, iteF k⟩
theorem scPlus : FnScope ["value"] ["value"] (defScope sPlus) := ⟨rfl, rfl, rfl, by decide +kernel, rfl, by decide +kernel, by decide +kernel⟩
theorem ok_plus {f : Addr} {fd : FuncData} (F : Fun K "is_plus" "is_plus" sPlus f fd) (D : Df P w K mg base 2 "is_within" ["value", "least", "most"] spWithinA) {t : Tok} (gM : mg "MOST_PLUS" = some (.int 6 t)) : FnOk P w K mg base CX0 3 f fd ["value"] spPlusA := by
  obtain ⟨fW, fdW, GW, gW, kW, bW⟩ := D.ex
  refine F.ok scPlus (fun vs H Q E h => ?_) (fun cdv A outer s H vs Q E hr h => ?_)
  · obtain ⟨v, rfl, _⟩ := h
    rfl
  · obtain ⟨v, rfl, hv, k⟩ := h
    refine ⟨_, pss_one (ps_ret (pe_call GW hr (by rfl) gW kW bW .nil pass0 (pa_cons (pv 0) (pa_cons (pe_un un_neg (pe_glob (v := .int 6) rfl gM ⟨_, rfl⟩)) (pa_cons (pe_glob (v := .int 6) rfl gM ⟨_, rfl⟩) pa_nil))))), ?_⟩
    exact ⟨_, rfl, _, rfl, v, _, _, rfl, hv, k⟩
theorem scTurn : FnScope ["value"] ["value"] (defScope sTurn) := ⟨rfl, rfl, rfl, by decide +kernel, rfl, by decide +kernel, by decide +kernel⟩
theorem ok_turn {f : Addr} {fd : FuncData} (F : Fun K "is_turn" "is_turn" sTurn f fd) (D : Df P w K mg base 3 "is_pair" ["value", "most"] spPairA) {t : Tok} (gM : mg "MOST_TURN" = some (.int 8 t)) : FnOk P w K mg base CX0 4 f fd ["value"] spTurnA := by
  obtain ⟨fP, fdP, GP, gP, kP, bP⟩ := D.ex
  refine F.ok scTurn (fun vs H Q E h => ?_) (fun cdv A outer s H vs Q E hr h => ?_)
  · obtain ⟨v, o, rfl, _⟩ := h
    rfl
  · obtain ⟨v, o, rfl, hv, k⟩ := h
    refine ⟨_, pss_one (ps_ret (pe_call GP hr (by rfl) gP kP bP .nil pass0 (pa_cons (pv 0) (pa_cons (pe_glob (v := .int 8) rfl gM ⟨_, rfl⟩) pa_nil)))), ?_⟩
    exact ⟨_, rfl, v, o, _, rfl, hv, k⟩
end
end Ev
namespace Ev
open PySem L2 PySem.Spec PyProof.Rows
section
variable {X : Cx}
theorem pe_never {e : Expr} : PE X e (fun _ _ _ => False) := ⟨fun _ _ _ _ _ _ h => h.elim⟩
end
/-- v is a value of the built-in type T, one that holds nothing -/
structure Flat (v : V) (T : String) : Prop where
  ty : ∀ (K : PySem.W.Frag) (H : Hp), TyX K H v (.type T)
  l : kitB T "list" = some false
  t : kitB T "tuple" = some false
  d : kitB T "dict" = some false
theorem flat_int (i : Int) : Flat (.int i) "int" := ⟨fun _ _ => .base (.int i), by decide +kernel, by decide +kernel, by decide +kernel⟩
theorem flat_str (x : Str) : Flat (.str x) "str" := ⟨fun _ _ => .base (.str x), by decide +kernel, by decide +kernel, by decide +kernel⟩
theorem kit2 {K : PySem.W.Frag} {T a b : String} (h1 : kitB T a = some false) (h2 : kitB T b = some false) : PySem.W.kitAny K (.type T) [.type a, .type b] = some false :=
  kitAny_cons (kit_ty h1) (fun _ => kitAny_cons (kit_ty h2) (fun _ => kitAny_nil) (fun z => by cases z)) (fun z => by cases z)
def spParts : Sp := fun vs H Q _ => ∃ (v : V) (T : String), vs = [v] ∧ Flat v T ∧ ∀ (p : Addr) (H' : Hp), H p = none → Same H H' → H' p = some (.lst []) → Q (.ref p) H'
def spKept : Sp := fun vs H Q _ => ∃ (v : V) (T : String), vs = [v] ∧ Flat v T ∧ ∀ (H' : Hp), Same H H' → Q v H'
section
variable {P : Program} {w : World} {K : PySem.W.Frag} {mg : Str → Option Value} {base : Heap}
theorem scParts : FnScope ["value"] ["value"] (defScope sParts) := ⟨rfl, rfl, rfl, by decide +kernel, rfl, by decide +kernel, by decide +kernel⟩
theorem ok_parts {f : Addr} {fd : FuncData} (F : Fun K "parts_of" "parts_of" sParts f fd) (T : Blt mg) (md : mg "dict" = none) : FnOk P w K mg base CX0 1 f fd ["value"] spParts := by
  refine F.ok scParts (fun vs H Q E h => ?_) (fun cdv A outer s H vs Q E hr h => ?_)
  · obtain ⟨v, TT, rfl, _⟩ := h
    rfl
  · obtain ⟨v, TT, rfl, fl, kk⟩ := h
    refine ⟨_, pss_cons (ps_if (pt_val (pe_callB call_isiT (by rfl) T.isi (by decide +kernel) (pa_cons (pv 0) (pa_cons (pe_tup (pa_cons (pe_bltn (v := .ty "list") (by rfl) T.list (by decide +kernel) rfl) (pa_cons (pe_bltn (v := .ty "tuple") (by rfl) T.tuple (by decide +kernel) rfl) pa_nil))) pa_nil)))) (pss_one ps_never) pss_nil)
      (pss_one (ps_ret (pe_ifExp (pt_val (pe_callB call_isi (by rfl) T.isi (by decide +kernel) (pa_cons (pv 0) (pa_cons (pe_bltn (v := .ty "dict") (by rfl) md (by decide +kernel) rfl) pa_nil)))) pe_never (pe_lst pa_nil)))), ?_⟩
    refine ⟨_, rfl, (by show 2 ≤ sizeLine; decide), fun tp ntp => ⟨v, tp, _, _, _, false, rfl, upd_same, .cons (.ty _) (.cons (.ty _) .nil), fl.ty _ _, kit2 fl.l fl.t, _, rfl, iteF ?_⟩⟩
    refine ⟨_, rfl, v, _, _, _, false, rfl, .ty _, fl.ty _ _, kit_ty fl.d, _, rfl, iteF ⟨(by show 0 ≤ sizeLine; decide), fun p np => ?_⟩⟩
    refine kk p _ ?_ (fun b o e => ?_) upd_same
    · cases e : H p with
      | none => rfl
      | some o => rw [upd_ne (ne_of_none e ntp), e] at np; cases np
    · have e1 : upd H tp (.tup [.ty "list", .ty "tuple"]) b = some o := by rw [upd_ne (ne_of_none e ntp)]; exact e
      rw [upd_ne (ne_of_none e1 np)]; exact e1
theorem kit3 {K : PySem.W.Frag} {T a b c : String} (h1 : kitB T a = some false) (h2 : kitB T b = some false) (h3 : kitB T c = some false) : PySem.W.kitAny K (.type T) [.type a, .type b, .type c] = some false :=
  kitAny_cons (kit_ty h1) (fun _ => kitAny_cons (kit_ty h2) (fun _ => kitAny_cons (kit_ty h3) (fun _ => kitAny_nil) (fun z => by cases z)) (fun z => by cases z)) (fun z => by cases z)
theorem scKept : FnScope ["value"] ["value"] (defScope sKept) := ⟨rfl, rfl, rfl, by decide +kernel, rfl, by decide +kernel, by decide +kernel⟩
theorem ok_kept {f : Addr} {fd : FuncData} (F : Fun K "kept" "kept" sKept f fd) (T : Blt mg) (md : mg "dict" = none) (ma : mg "any" = none) (D : Df P w K mg base 1 "parts_of" ["value"] spParts) : FnOk P w K mg base CX0 2 f fd ["value"] spKept := by
  refine F.ok scKept (fun vs H Q E h => ?_) (fun cdv A outer s H vs Q E hr h => ?_)
  · obtain ⟨v, TT, rfl, _⟩ := h
    rfl
  · obtain ⟨v, TT, rfl, fl, kk⟩ := h
    refine ⟨_, pss_cons (ps_if (pt_not (pt_val (pe_callB call_isiT (by rfl) T.isi (by decide +kernel) (pa_cons (pv 0) (pa_cons (pe_tup (pa_cons (pe_bltn (v := .ty "list") (by rfl) T.list (by decide +kernel) rfl) (pa_cons (pe_bltn (v := .ty "tuple") (by rfl) T.tuple (by decide +kernel) rfl) (pa_cons (pe_bltn (v := .ty "dict") (by rfl) md (by decide +kernel) rfl) pa_nil)))) pa_nil))))) (pss_one (ps_ret (pv 0))) pss_nil)
      (pss_cons ps_never (pss_one ps_never)), ?_⟩
    refine ⟨_, rfl, (by show 3 ≤ sizeLine; decide), fun tp ntp => ⟨v, tp, _, _, _, false, rfl, upd_same, .cons (.ty _) (.cons (.ty _) (.cons (.ty _) .nil)), fl.ty _ _, kit3 fl.l fl.t fl.d, _, rfl, iteT ⟨_, rfl, ?_⟩⟩⟩
    exact kk _ (fun b u e => by rw [upd_ne (ne_of_none e ntp)]; exact e)
end
end Ev
namespace Ev
open PySem L2 PySem.Spec PyProof.Rows
/-! Promises of defs that are called while no repr is under way (so what they make can be shown). -/
structure FnG (P : Program) (w : World) (K : PySem.W.Frag) (mg : Str → Option Value) (base : Heap) (k : Nat) (f : Addr)
    (fd : FuncData) (ps : List Str) (sp : Sp) : Prop where
  many : ∀ vs H Q E, sp vs H Q E → vs.length = ps.length
  goes : ∀ (A : Around) (above : List Env) (s : Shared) (H : Hp) (args : Args) (us : List Value) (vs : List V) (Q : VK)
    (E : XK), Room k A → A.guards = some [] → Env0 P w K mg base A above s H → BindsTo s fd args (ps.zip us) → Vals vs us →
    sp vs H Q E → codeAny (model P w) A (.call (.ref f) args) (CR CX0 above P w H s Q E) s
theorem FnG.of {P : Program} {w : World} {K : PySem.W.Frag} {mg : Str → Option Value} {base : Heap} {k : Nat} {f : Addr}
    {fd : FuncData} {ps : List Str} {sp : Sp} (F : FnOk P w K mg base CX0 k f fd ps sp) : FnG P w K mg base k f fd ps sp :=
  ⟨F.len, fun A above s H args us vs Q E hr _ => F.run A above s H args us vs Q E hr⟩
section
variable {P : Program} {w : World} {K : PySem.W.Frag} {mg : Str → Option Value} {base : Heap}
/-- a def by its body, where no repr is under way -/
theorem fng_code {x qual : Str} {st : Stmt} {f : Addr} {fd : FuncData} {N ps : List Str} {k : Nat} {sp : Sp} (F : Fun K x qual st f fd)
    (S : FnScope N ps (defScope st)) (many : ∀ vs H Q E, sp vs H Q E → vs.length = ps.length)
    (body : ∀ (cdv : Value), fd.code = cdv → ∀ (A : Around) (above : List Env) (s : Shared) (H : Hp) (vs : List V) (Q : VK) (E : XK),
      Room k (A.deeper (envOfC qual (defScope st) s.heap.objs.size f cdv)) → A.guards = some [] → sp vs H Q E →
      ∃ t, PSs (cxOf CX0 P w K mg base N qual (defScope st) f cdv A above s H E).nox (defBody st) t ∧
        t { nx := fun _ H' => Q .non H', rt := Q } (start N vs) H) : FnG P w K mg base (k + 1) f fd ps sp := by
  obtain ⟨oc, od, kV, doc, pm, an, cdv, ct, osl, rfl, lk, hcd⟩ := F.ex
  constructor
  · exact many
  · intro A above s H args us vs Q E room gd env bt rv hs
    have inK : K.In s.heap := env.mod.kin.keeps fun b o e => (env.bs b o e).1
    have noLim : s.heap.NoLimit := env.mod.nolimit.keeps fun b o e => (env.bs b o e).1
    have kinds : ∀ y ∈ ps.zip us, (defScope st).names.lookup y.1 = some .local ∨
        ((defScope st).names.lookup y.1 = some .cell ∧ ((cellsFrom (s.heap.objs.size + 1) (defScope st).names []).lookup y.1).isSome = true) := by
      rintro ⟨n, v⟩ hy
      cases S.par n (List.of_mem_zip hy).1 with
      | inl q => exact .inl q
      | inr q => exact .inr ⟨q, PySem.W.cellsFrom_some _ _ _ (.inl q)⟩
    refine codeAny_call_function room.depth (inK _ _ lk) rfl S.co S.gen rfl (PySem.W.codeRec_of inK hcd) (bt _ _ _ _ ?_)
    refine wpAny_newFunctionEnv_cells S.kind kinds fun e2 he s2 x => ?_
    subst he
    refine ⟨noLim.keeps x.toInCall.keep, codeAny_func ?_⟩
    obtain ⟨t, ht, hq⟩ := body cdv rfl A above s H vs Q E (room.deeper _) gd hs
    have inv := inv_start (CX := CX0) (E := E) S room.hd env (many _ _ _ _ hs) rv x
    refine wpAny_mono (ht.nox.run [] s2 (start N vs) H _ inv hq) (fun fl s3 h3 => ?_) fun e s3 h3 => h3
    cases fl with
    | ret u =>
      obtain ⟨v, σ3, H3, J, rr, q⟩ := h3
      exact ⟨v, H3, J.os, J.bare, J.base, J.hok, rr, q⟩
    | next =>
      obtain ⟨σ3, H3, J, q⟩ := h3
      exact ⟨.non, H3, J.os, J.bare, J.base, J.hok, rfl, q⟩
    | brk =>
      obtain ⟨_, _, _, z⟩ := h3
      exact False.elim z
    | cont =>
      obtain ⟨_, _, _, z⟩ := h3
      exact False.elim z
theorem fng_of {x qual : Str} {st : Stmt} {f : Addr} {fd : FuncData} {N ps : List Str} {k : Nat} {sp : Sp} (F : Fun K x qual st f fd)
    (S : FnScope N ps (defScope st)) (many : ∀ vs H Q E, sp vs H Q E → vs.length = ps.length)
    (body : ∀ (cdv : Value) (A : Around) (above : List Env) (s : Shared) (H : Hp) (vs : List V) (Q : VK) (E : XK),
      Room k (A.deeper (envOfC qual (defScope st) s.heap.objs.size f cdv)) → A.guards = some [] → sp vs H Q E →
      ∃ t, PSs (cxOf CX0 P w K mg base N qual (defScope st) f cdv A above s H E).nox (defBody st) t ∧
        t { nx := fun _ H' => Q .non H', rt := Q } (start N vs) H) : FnG P w K mg base (k + 1) f fd ps sp :=
  fng_code F S many fun cdv _ => body cdv
end
section
variable {X : Cx}
/-- f(e, ..) of such a def -/
theorem pe_callG {k : Nat} {f : Addr} {fd : FuncData} {ps : List Str} {sp : Sp} {E : XK} {x : Str} {p pos : Pos} {e : Expr} {es : List Expr} {t : TA}
    (F : FnG X.prog X.w X.K X.mg X.base k f fd ps sp) (room : Room k X.A) (gd : X.A.guards = some []) (hg : Gl X x)
    (hm : X.mg x = some (.ref f)) (kp : PySem.W.keepIn X.K (.ref f) = true) (hb : Binds X.K fd ps []) (ha : PA X (e :: es) t)
    (hdb : (x == ("__debug__" : Str)) = false := by decide)
    (he : starEach (e :: es) X.env = (false, eval e X.env) :: starEach es X.env := by rfl)
    (hpl : (backTo pos (starEach es X.env)).any (·.1) = false := by rfl) :
    PE X (.Call (.Name x p) (e :: es) [] pos) (tCall sp [] E t) := by
  constructor
  intro pins s σ H Q I h
  refine wpAny_Call_Name_kw (ld_glob I hg hm ?_ hdb)
  refine PySem.W.callWith_K (h₀ := X.base) I.ok.mod.kin kp (thn (ha.run pos pins s σ H _ I h) fun us s1 d => ?_) he hpl
  obtain ⟨vs, H1, I1, rv, q⟩ := d
  refine ⟨I1.kIn, ?_⟩
  have q : sp vs H1 Q E := by
    have q' : sp (vs ++ []) H1 Q E := q
    rw [List.append_nil] at q'
    exact q'
  have hl : us.length = ps.length := rv.length.symm.trans (F.many _ _ _ _ q)
  have bt := hb s1 us I1.kIn (by rw [List.append_nil]; exact hl)
  rw [List.append_nil] at bt
  refine wpAny_call (codeAny_mono (F.goes X.A X.stack s1 H1 ⟨us, []⟩ us vs Q E room gd I1.env0 bt rv q) fun r s2 h2 => ?_)
  cases r with
  | error e => exact False.elim h2
  | ok fl =>
    cases fl with
    | ret u => exact I1.after h2
    | next => exact False.elim h2
    | brk => exact False.elim h2
    | cont => exact False.elim h2
/-- repr of data, where none is under way -/
def rRepr (K : PySem.W.Frag) : List V → Hp → VK → Prop := fun xs H Q => ∃ (a : Addr) (d : PyData), xs = [.ref a] ∧ Dp K H (.ref a) d ∧
  d.showable = true ∧ d.hasDict = false ∧ d.depth ≤ 32 ∧ d.shown.length ≤ sizeLine ∧ Q (.str d.shown) H
theorem call_repr (gd : X.A.guards = some []) (hu : X.A.units + 64 < cLine) : CallR X (.builtin "repr") (rRepr X.K) := by
  intro pins s σ H xs us Q I r h
  obtain ⟨a, d, rfl, hd, h1, h2, h3, h4, q⟩ := h
  cases r with
  | cons r1 r2 =>
    cases r2
    cases r1
    obtain ⟨as, rd⟩ := Dp.reads I d (.ref a) (.ref a) hd rfl
    exact repr_of_reads' rd h1 (fun z => by rw [h2] at z; cases z) gd (by omega) (fun _ _ e => e)
      (fun h' u tk hk => ⟨.str d.shown, H, I.kept hk, ⟨u, rfl⟩, q⟩) h4
end
/-! ### the law's own call -/
section
variable {P : Program} {w : World} {K : PySem.W.Frag} {mg mb : Str → Option Value}
theorem law_callG {k : Nat} {fa a : Addr} {fd : FuncData} {x : Str} {sp : Sp} {s : Shared} {vs : List Value} {ns : List Int}
    (inK : K.In s.heap) (ns1 : s.heap.Ns mainGlobals mg) (ns2 : s.heap.Ns builtinsNs mb) (blt : ∀ x : Str, x ≠ "__name__" → mb x = bootBuiltins x)
    (noLim : s.heap.NoLimit) (hg : s.gens = #[]) (ha : s.heap.get? a = some { cls := .type "list", data := .seq vs.toArray })
    (hi : IntsAre vs ns) (hl : ns.length ≤ sizeLine) (hr : Room k callerA)
    (F : ∀ base : Heap, K.In base → base.Ns mainGlobals mg → FnG P w K mg base k fa fd [x] sp)
    (bt : ∀ (s : Shared) (u : Value), BindsTo s fd ⟨[u], []⟩ [(x, u)])
    (hsp : ∀ H : Hp, SqL K H a (ns.map V.int) → sp [.ref a] H (fun v _ => v = .bl true) fun _ _ _ => False) :
    codeAny (model P w) callerA (.call (.ref fa) ⟨[.ref a], []⟩)
      (fun r s' => r = .ok (.ret (.bool true)) ∧ OldK s.heap s'.heap ∧ s'.os = s.os ∧ AllBare s'.gens) s := by
  have rv := vals_ints hi
  have lv := hi.length
  have key : ∀ H : Hp, (∀ b u, H b = some u → b = a ∧ K.lookup a = none ∧ u = .frz { cls := .type "list", data := .seq vs.toArray } (.lst (ns.map V.int))) →
      SqL K H a (ns.map V.int) → codeAny (model P w) callerA (.call (.ref fa) ⟨[.ref a], []⟩)
        (fun r s' => r = .ok (.ret (.bool true)) ∧ OldK s.heap s'.heap ∧ s'.os = s.os ∧ AllBare s'.gens) s := by
    intro H only sq
    have ok : HOk P w H s.heap := by
      intro b u e
      obtain ⟨rfl, _, rfl⟩ := only b u e
      exact ⟨ha, by rw [List.length_map]; exact hl, vs, _, rv, ha⟩
    have plain : ∀ {b : Addr} {o : Obj} {es : Array DictEntry} {n : Nat}, s.heap.get? b = some o → o.data = .dict es n → H b = none := by
      intro b o es n e d
      cases q : H b with
      | none => rfl
      | some u =>
        obtain ⟨rfl, _, _⟩ := only b u q
        rw [ha] at e
        cases e
        exact nomatch d
    have names : ∀ {b : Addr} {m : Str → Option Value}, s.heap.Ns b m → (hidT s.heap H).Ns b m := by
      rintro b m ⟨o, es, n, e, d, r⟩
      exact ⟨o, es, n, hidT_get e (plain e d), d, r⟩
    have inB : K.In (hidT s.heap H) := by
      intro b o e
      refine hidT_get (inK b o e) ?_
      cases q : H b with
      | none => rfl
      | some u =>
        obtain ⟨rfl, n, _⟩ := only b u q
        rw [n] at e
        cases e
    obtain ⟨mc, l1, l2⟩ := noLim
    have md : Mod K mg (hidT s.heap H) := ⟨inB, names ns1, ⟨mb, names ns2, blt⟩, ⟨mc, names l1, l2⟩⟩
    have env : Env0 P w K mg (hidT s.heap H) callerA [] s H :=
      ⟨rfl, md, fun b o e => of_hidT e, Nat.le_of_eq (hidT_size _ _), trivial, (fun b hb => by cases hb), ok, .of_eq hg⟩
    have go := (F _ inB (names ns1)).goes callerA [] s H ⟨[.ref a], []⟩ [.ref a] [.ref a] _ _ hr rfl env (bt s (.ref a)) (.cons rfl .nil) (hsp H sq)
    refine codeAny_mono go fun r s2 h2 => ?_
    cases r with
    | error e => exact False.elim h2
    | ok fl =>
      cases fl with
      | next => exact False.elim h2
      | brk => exact False.elim h2
      | cont => exact False.elim h2
      | ret u =>
        obtain ⟨v, H2, os, bare, un, ok2, rr, q⟩ := h2
        obtain rfl : v = V.bl true := q
        obtain rfl : u = Value.bool true := rr
        refine ⟨rfl, OldK.of_keep fun b o e => ?_, os, bare⟩
        cases q : H b with
        | none => exact un.keep b o e q (by intro z; cases z) (by simp)
        | some u =>
          obtain ⟨rfl, _, rfl⟩ := only b u q
          obtain ⟨e1, _⟩ := ok b _ q
          obtain ⟨e2, _⟩ := ok2 b _ (un.frzs b _ _ q)
          rw [e] at e1
          cases e1
          exact e2
  cases hk : K.lookup a with
  | none =>
    refine key (fun b => if b = a then some (.frz { cls := .type "list", data := .seq vs.toArray } (.lst (ns.map V.int))) else none) (fun b u e => ?_) (.inl (.inr ⟨_, if_pos rfl⟩))
    by_cases z : b = a
    · rw [if_pos z] at e
      cases e
      exact ⟨z, hk, rfl⟩
    · rw [if_neg z] at e
      cases e
  | some o =>
    have e := inK a o hk
    rw [ha] at e
    cases e
    refine key (fun _ => none) (fun b u e => by cases e) (.inr ⟨_, vs.toArray, _, hk, rfl, rfl, rfl, ?_, by simpa using rv⟩)
    rw [List.size_toArray, lv]
    exact hl
end
theorem walk_ofG {l : PySem.W.OpenLaw} {n k : Nat} {q : Program} {loose : List Str} {XP : (Str → Option Value) → Heap → Prop} {YP : World → Heap → Prop}
    {d : DefRec} {K : Params → PySem.W.Frag} {sp : World → Sp} {x : Str} (hn : l.most = some n) (hn2 : n ≤ sizeLine) (hdf : d.params.defaults = [])
    (hr : Room k callerA) (hY : ∀ (w : World) (h : Heap), YP w h → (K w.params).In h)
    (F : ∀ (w : World) (mg : Str → Option Value) (fa : Addr) (h : Heap), (K w.params).In h → h.Ns mainGlobals mg → mg d.name = some (.ref fa) →
      ∃ fd : FuncData, (∀ (s : Shared) (u : Value), BindsTo s fd ⟨[u], []⟩ [(x, u)]) ∧
        ∀ base : Heap, (K w.params).In base → base.Ns mainGlobals mg → FnG l.prog w (K w.params) mg base k fa fd [x] (sp w))
    (hsp : ∀ (w : World) (H : Hp) (a : Addr) (ns : List Int), ns.length ≤ n → SqL (K w.params) H a (ns.map V.int) → sp w [.ref a] H (fun v _ => v = .bl true) fun _ _ _ => False) :
    PySem.W.WalkO q loose XP YP l.row.toRowW d [] (fun f vs => PySem.call f vs) := by
  refine Att.attach_call hn hdf fun w s0 s1 mg mb fa o pm cd doc a vs ns G Y h1 h2 h3 h4 h5 h6 h7 h8 => ?_
  obtain ⟨fd, bt, hF⟩ := F w mg fa _ (hY w _ Y) G.T.g h4
  exact law_callG (hY w _ Y) G.T.g G.T.b G.T.builtins G.T.nolimit h8 h5 h6 (Nat.le_trans h7 hn2) hr hF bt (fun H sq => hsp w H a ns h7 sq)
end Ev
namespace Ev
open PySem L2 PySem.Spec PyProof.Rows
theorem walk_ofGE {l : PySem.W.OpenLaw} {n k : Nat} {q : Program} {loose : List Str} {XP : (Str → Option Value) → Heap → Prop} {YP : World → Heap → Prop}
    {d : DefRec} {x : Str} (hn : l.most = some n) (hn2 : n ≤ sizeLine) (hdf : d.params.defaults = []) (hr : Room k callerA)
    (F : ∀ (w : World) (mg : Str → Option Value) (fa : Addr) (h : Heap), YP w h → h.Ns mainGlobals mg → mg d.name = some (.ref fa) →
      ∃ (K : PySem.W.Frag) (fd : FuncData) (sp : Sp), K.In h ∧ (∀ (s : Shared) (u : Value), BindsTo s fd ⟨[u], []⟩ [(x, u)]) ∧
        (∀ (H : Hp) (a : Addr) (ns : List Int), ns.length ≤ n → SqL K H a (ns.map V.int) → sp [.ref a] H (fun v _ => v = .bl true) fun _ _ _ => False) ∧
        ∀ base : Heap, K.In base → base.Ns mainGlobals mg → FnG l.prog w K mg base k fa fd [x] sp) :
    PySem.W.WalkO q loose XP YP l.row.toRowW d [] (fun f vs => PySem.call f vs) := by
  refine Att.attach_call hn hdf fun w s0 s1 mg mb fa o pm cd doc a vs ns G Y h1 h2 h3 h4 h5 h6 h7 h8 => ?_
  obtain ⟨K, fd, sp, inK, bt, hsp, hF⟩ := F w mg fa _ Y G.T.g h4
  exact law_callG inK G.T.g G.T.b G.T.builtins G.T.nolimit h8 h5 h6 (Nat.le_trans h7 hn2) hr hF bt (fun H sq => hsp H a ns h7 sq)
end Ev
namespace Ev
open PySem L2 PySem.Spec PyProof.Rows
/-- an error of the class C with the field n is told -/
def TellE (C : Addr) (n : Str) (v : V) (H : Hp) (E : XK) : Prop := ∀ (d : Addr) (H' : Hp), Same H H' → H d = none → H' d = some (.xd [(n, v)]) → E (.ref C) (some d) H'
def spErrI (C : Addr) (n : Str) : Sp := fun vs H Q _ => ∃ (a : Addr) (v : V) (T : String), vs = [.ref a, v] ∧ Flat v T ∧ H a = some (exo a C none) ∧
  ∀ (d : Addr) (H' : Hp), H d = none → H' a = some (exo a C (some d)) → H' d = some (exd d [(n, v)]) → (∀ b o, b ≠ a → H b = some o → H' b = some o) → Q .non H'
/-- an error class of the package with one field n -/
structure ErrC (P : Program) (w : World) (K : PySem.W.Frag) (mg : Str → Option Value) (base : Heap) (x n : Str) (C : Addr) : Prop where
  cl : OexC K C
  g : mg x = some (.ref C)
  ex : ∃ (f : Addr) (fd : FuncData), PySem.W.findIn K (.ref C) "__init__" = some (some (.ref f)) ∧ PySem.W.typeIn K (.ref f) = some (.type "function") ∧ FnOk P w K mg base CX0 3 f fd ["self", n] (spErrI C n) ∧ Binds K fd ["self", n] []
inductive Out
  | ok
  | rule (m : Str)
  | halves (w : Int)
def OutK (B N : Addr) (H : Hp) (E : XK) (good : Prop) : Out → Prop
  | .ok => good
  | .rule m => ∀ H1, Same H H1 → TellE B "part" (.str m) H1 E
  | .halves w => ∀ H1, Same H H1 → TellE N "weight" (.int w) H1 E
theorem OutK.mono {B N : Addr} {H H2 : Hp} {E : XK} {g g' : Prop} {o : Out} (h : OutK B N H E g o) (k : Same H H2) (f : g → g') : OutK B N H2 E g' o := by
  cases o with
  | ok => exact f h
  | rule m => exact fun H1 s => h H1 (k.trans s)
  | halves w => exact fun H1 s => h H1 (k.trans s)
def halvesO (p q k : Int) : Out := if p + k < q then .halves 2 else if 2 * q ≤ p + k then .ok else .halves 3
def outH : Option (List V) → V → Out
  | some [.int p, .int q], .int k => halvesO p q k
  | _, _ => .ok
def outP (o : Option (List V)) (k : V) : Out := if timesB o = false then .rule "times" else if inB (-6) 6 k = false then .rule "plus" else .ok
def Out.then : Out → Out → Out
  | .ok, y => y
  | x, _ => x
def outT (o : Option (List V)) (k : V) : Out := (outP o k).then (outH o k)
def outQ (o2 : Option (List V)) (c : V) : Out := if pairB 8 o2 = false then .rule "turn" else if inB (-6) 6 c = false then .rule "turn_plus" else .ok
def outN (o : Option (List V)) (k : V) (o2 : Option (List V)) (c : V) : Out := (outP o k).then ((outQ o2 c).then (outH o k))
def spNeedT (B : Addr) : Sp := fun vs H Q E => ∃ (tv kv : V) (o : Option (List V)) (N : Addr), vs = [tv, kv] ∧ PairQ H tv o ∧ IntQ H kv ∧ OutK B N H E (∀ H', Same H H' → Q .non H') (outP o kv)
def spHalves : Sp := fun vs H Q _ => ∃ (a : Addr) (p q k : Int), vs = [.ref a, .int k] ∧ H a = some (.tup [.int p, .int q]) ∧ Q (.bl (decide (2 * q ≤ p + k))) H
def spNeedH (N : Addr) : Sp := fun vs H Q E => ∃ (a : Addr) (p q k : Int) (B : Addr), vs = [.ref a, .int k] ∧ H a = some (.tup [.int p, .int q]) ∧ OutK B N H E (Q .non H) (halvesO p q k)
def tryV (tv kv : V) : List (Str × V) := [("times", tv), ("plus", kv)]
def turnV (tv kv uv cv : V) : List (Str × V) := [("times", tv), ("plus", kv), ("turn", uv), ("turn_plus", cv)]
def spTryInit (C B N : Addr) : Sp := fun vs H Q E => ∃ (x dx : Addr) (tv kv : V) (o : Option (List V)), vs = [.ref x, tv, kv] ∧ H x = some (.ins C dx []) ∧ PairQ H tv o ∧ IntQ H kv ∧ OutK B N H E (∀ H', But x H H' → H' x = some (.ins C dx (tryV tv kv)) → Q .non H') (outT o kv)
def spTurnInit (C B N : Addr) : Sp := fun vs H Q E => ∃ (x dx : Addr) (tv kv uv cv : V) (o o2 : Option (List V)), vs = [.ref x, tv, kv, uv, cv] ∧ H x = some (.ins C dx []) ∧ PairQ H tv o ∧ IntQ H kv ∧ PairQ H uv o2 ∧ IntQ H cv ∧ OutK B N H E (∀ H', But x H H' → H' x = some (.ins C dx (turnV tv kv uv cv)) → Q .non H') (outN o kv o2 cv)
/-- what the raising of such an error comes to -/
theorem raised {C : Addr} {n : Str} {H : Hp} {v : V} {T : String} {E : XK} (hv : Flat v T) (k : TellE C n v H E) (a' : Addr) (na : H a' = none) :
    spErrI C n [.ref a', v] (upd H a' (exo a' C none)) (fun v' H2 => v' = .non ∧ ∃ (d : Addr) (fs : List (Str × V)), H2 a' = some (exo a' C (some d)) ∧ H2 d = some (exd d fs) ∧ H d = none ∧ E (.ref C) (some d) (upd (del H2 a') d (.xd fs))) (fun _ _ _ => False) := by
  refine ⟨a', v, T, rfl, hv, upd_same, fun d H' nd ha' hd bt => ⟨rfl, d, _, ha', hd, ?_, ?_⟩⟩
  · have dne : d ≠ a' := fun z => by rw [z, upd_same] at nd; cases nd
    rw [upd_ne dne] at nd
    exact nd
  · have dne : d ≠ a' := fun z => by rw [z, upd_same] at nd; cases nd
    rw [upd_ne dne] at nd
    refine k d _ (fun b o e => ?_) nd upd_same
    rw [upd_ne (ne_of_none e nd), del_ne (ne_of_none e na)]
    exact bt b o (ne_of_none e na) (by rw [upd_ne (ne_of_none e na)]; exact e)
section
variable {P : Program} {w : World} {K : PySem.W.Frag} {mg : Str → Option Value} {base : Heap}
theorem scBR : FnScope ["self", "part"] ["self", "part"] (defScope sBRInit) := ⟨rfl, rfl, rfl, by decide +kernel, rfl, by decide +kernel, by decide +kernel⟩
theorem ok_br {f C : Addr} {fd : FuncData} (F : Fun K "__init__" "BadRule.__init__" sBRInit f fd) (T : OexC K C) (no : PySem.W.findIn K (.ref C) "part" = some none) (D : Df P w K mg base 2 "kept" ["value"] spKept) : FnOk P w K mg base CX0 3 f fd ["self", "part"] (spErrI C "part") := by
  obtain ⟨f1, fd1, G1, g1, k1, b1⟩ := D.ex
  refine F.ok scBR (fun vs H Q E h => ?_) (fun cdv A outer s H vs Q E hr h => ?_)
  · obtain ⟨a, v, TT, rfl, _⟩ := h
    rfl
  · obtain ⟨a, v, TT, rfl, fl, ha, kk⟩ := h
    refine ⟨_, pss_one (ps_ost (pv 0) (pe_call G1 hr (by rfl) g1 k1 b1 .nil pass0 (pa_cons (pv 1) pa_nil))), ?_⟩
    refine ⟨_, rfl, v, TT, rfl, fl, fun H1 s1 => ⟨_, rfl, a, C, rfl, T, no, .inl ⟨s1 _ _ ha, fun dx nd dne => ?_⟩⟩⟩
    refine kk dx _ (Same.gone s1 nd) upd_same (by rw [upd_ne dne]; exact upd_same) fun b o nb e => ?_
    rw [upd_ne nb, upd_ne (ne_of_none (s1 _ _ e) nd)]
    exact s1 _ _ e
theorem scNH : FnScope ["self", "weight"] ["self", "weight"] (defScope sNHInit) := ⟨rfl, rfl, rfl, by decide +kernel, rfl, by decide +kernel, by decide +kernel⟩
theorem ok_nh {f C : Addr} {fd : FuncData} (F : Fun K "__init__" "NoHalves.__init__" sNHInit f fd) (T : OexC K C) (no : PySem.W.findIn K (.ref C) "weight" = some none) (D : Df P w K mg base 2 "kept" ["value"] spKept) : FnOk P w K mg base CX0 3 f fd ["self", "weight"] (spErrI C "weight") := by
  obtain ⟨f1, fd1, G1, g1, k1, b1⟩ := D.ex
  refine F.ok scNH (fun vs H Q E h => ?_) (fun cdv A outer s H vs Q E hr h => ?_)
  · obtain ⟨a, v, TT, rfl, _⟩ := h
    rfl
  · obtain ⟨a, v, TT, rfl, fl, ha, kk⟩ := h
    refine ⟨_, pss_one (ps_ost (pv 0) (pe_call G1 hr (by rfl) g1 k1 b1 .nil pass0 (pa_cons (pv 1) pa_nil))), ?_⟩
    refine ⟨_, rfl, v, TT, rfl, fl, fun H1 s1 => ⟨_, rfl, a, C, rfl, T, no, .inl ⟨s1 _ _ ha, fun dx nd dne => ?_⟩⟩⟩
    refine kk dx _ (Same.gone s1 nd) upd_same (by rw [upd_ne dne]; exact upd_same) fun b o nb e => ?_
    rw [upd_ne nb, upd_ne (ne_of_none (s1 _ _ e) nd)]
    exact s1 _ _ e
theorem scHalves : FnScope ["times", "plus", "over", "under"] ["times", "plus"] (defScope sHalves) := ⟨rfl, rfl, rfl, by decide +kernel, rfl, by decide +kernel, by decide +kernel⟩
theorem ok_halves {f : Addr} {fd : FuncData} (F : Fun K "has_halves" "has_halves" sHalves f fd) : FnOk P w K mg base CX0 1 f fd ["times", "plus"] spHalves := by
  refine F.ok scHalves (fun vs H Q E h => ?_) (fun cdv A outer s H vs Q E hr h => ?_)
  · obtain ⟨a, p, q, k, rfl, _⟩ := h
    rfl
  · obtain ⟨a, p, q, k, rfl, ha, kk⟩ := h
    refine ⟨_, pss_cons (ps_asg (pv 0) (pg_tup (by rfl) (pgs_cons (pg_name (i := 2) scHalves.nd rfl (.inl rfl)) (pgs_cons (pg_name (i := 3) scHalves.nd rfl (.inl rfl)) pgs_nil))))
      (pss_one (ps_ret (pe_cmpR op_ge (pe_op op_add (pv 2) (pv 1)) (pe_op op_mul pe_int (pv 3)) (nomark _)))), ?_⟩
    refine ⟨_, rfl, a, _, rfl, SqT.of ha, rfl, _, _, rfl, _, _, rfl, rfl, ?_⟩
    exact ⟨_, rfl, _, rfl, _, _, rfl, rfl, _, rfl, _, _, rfl, rfl, .inl ⟨by decide, by decide⟩, _, _, rfl, rfl, kk⟩
/-- a def that may raise, under its name -/
structure DfX (P : Program) (w : World) (K : PySem.W.Frag) (mg : Str → Option Value) (base : Heap) (k : Nat) (x : Str) (ps : List Str) (sp : Sp) : Prop where
  ex : ∃ (f : Addr) (fd : FuncData), FnOk P w K mg base (L2.CX P w) k f fd ps sp ∧ mg x = some (.ref f) ∧ PySem.W.keepIn K (.ref f) = true ∧ Binds K fd ps []
theorem scNeedT : FnScope ["times", "plus"] ["times", "plus"] (defScope sNeedT) := ⟨rfl, rfl, rfl, by decide +kernel, rfl, by decide +kernel, by decide +kernel⟩
theorem ok_needT {f B : Addr} {fd : FuncData} (F : Fun K "need_times" "need_times" sNeedT f fd) (D1 : Df P w K mg base 4 "is_times" ["value"] spTimesA) (D2 : Df P w K mg base 3 "is_plus" ["value"] spPlusA) (EB : ErrC P w K mg base "BadRule" "part" B) : FnOk P w K mg base (L2.CX P w) 5 f fd ["times", "plus"] (spNeedT B) := by
  obtain ⟨f1, fd1, G1, g1, k1, b1⟩ := D1.ex
  obtain ⟨f2, fd2, G2, g2, k2, b2⟩ := D2.ex
  obtain ⟨TC, gC, fi, fdi, iC, tI, GI, bI⟩ := id EB
  refine F.okX scNeedT (fun vs H Q E h => ?_) (fun cdv A outer s H vs Q E hr h => ?_)
  · obtain ⟨tv, kv, o, N, rfl, _⟩ := h
    rfl
  · obtain ⟨tv, kv, o, N, rfl, hp, hk, h⟩ := h
    refine ⟨_, pss_cons (ps_if (pt_not (pt_val (pe_call G1 hr (by rfl) g1 k1 b1 .nil pass0 (pa_cons (pv 0) pa_nil)))) (pss_one (ps_raise rfl (takes_of rfl rfl rfl rfl) (pmk_oex TC iC tI GI (hr.mono (by decide)) bI .nil pass0 (by rfl) gC (pa_cons pe_str pa_nil)))) pss_nil)
      (pss_one (ps_if (pt_not (pt_val (pe_call G2 (hr.mono (by decide)) (by rfl) g2 k2 b2 .nil pass0 (pa_cons (pv 1) pa_nil)))) (pss_one (ps_raise rfl (takes_of rfl rfl rfl rfl) (pmk_oex TC iC tI GI (hr.mono (by decide)) bI .nil pass0 (by rfl) gC (pa_cons pe_str pa_nil)))) pss_nil)), ?_⟩
    refine ⟨_, rfl, tv, o, rfl, hp, fun H1 s1 => ?_⟩
    unfold outP at h
    cases z : timesB o with
    | false =>
      rw [if_pos z] at h
      exact ⟨false, rfl, iteT ⟨(by show 1 ≤ 1000; decide), fun a' na => raised (flat_str "times") (h H1 s1) a' na⟩⟩
    | true =>
      rw [if_neg (by rw [z]; simp)] at h
      refine ⟨true, rfl, iteF ⟨_, rfl, kv, rfl, hk.keep s1, ?_⟩⟩
      cases z2 : inB (-6) 6 kv with
      | false =>
        rw [if_pos z2] at h
        exact ⟨false, rfl, iteT ⟨(by show 1 ≤ 1000; decide), fun a' na => raised (flat_str "plus") (h H1 s1) a' na⟩⟩
      | true =>
        rw [if_neg (by rw [z2]; simp)] at h
        exact ⟨true, rfl, iteF (h H1 s1)⟩
theorem scNeedH : FnScope ["times", "plus", "over", "under"] ["times", "plus"] (defScope sNeedH) := ⟨rfl, rfl, rfl, by decide +kernel, rfl, by decide +kernel, by decide +kernel⟩
theorem ok_needH {f N : Addr} {fd : FuncData} (F : Fun K "need_halves" "need_halves" sNeedH f fd) (D : Df P w K mg base 1 "has_halves" ["times", "plus"] spHalves) (EN : ErrC P w K mg base "NoHalves" "weight" N) : FnOk P w K mg base (L2.CX P w) 5 f fd ["times", "plus"] (spNeedH N) := by
  obtain ⟨f1, fd1, G1, g1, k1, b1⟩ := D.ex
  obtain ⟨TC, gC, fi, fdi, iC, tI, GI, bI⟩ := id EN
  refine F.okX scNeedH (fun vs H Q E h => ?_) (fun cdv A outer s H vs Q E hr h => ?_)
  · obtain ⟨a, p, q, k, B, rfl, _⟩ := h
    rfl
  · obtain ⟨a, p, q, k, B, rfl, ha, h⟩ := h
    refine ⟨_, pss_cons (ps_asg (pv 0) (pg_tup (by rfl) (pgs_cons (pg_name (i := 2) scNeedH.nd rfl (.inl rfl)) (pgs_cons (pg_name (i := 3) scNeedH.nd rfl (.inl rfl)) pgs_nil))))
      (pss_cons (ps_if (pt_cmpR op_lt (pe_op op_add (pv 2) (pv 1)) (pv 3) (nomark _)) (pss_one (ps_raise rfl (takes_of rfl rfl rfl rfl) (pmk_oex TC iC tI GI hr bI .nil pass0 (by rfl) gC (pa_cons pe_int pa_nil)))) pss_nil)
      (pss_one (ps_if (pt_not (pt_val (pe_call G1 (hr.mono (by decide)) (by rfl) g1 k1 b1 .nil pass0 (pa_cons (pv 0) (pa_cons (pv 1) pa_nil))))) (pss_one (ps_raise rfl (takes_of rfl rfl rfl rfl) (pmk_oex TC iC tI GI hr bI .nil pass0 (by rfl) gC (pa_cons pe_int pa_nil)))) pss_nil))), ?_⟩
    refine ⟨_, rfl, a, _, rfl, SqT.of ha, rfl, _, _, rfl, _, _, rfl, rfl, ?_⟩
    unfold halvesO at h
    refine ⟨_, rfl, _, rfl, _, _, rfl, rfl, _, rfl, _, _, rfl, rfl, _, rfl, ite2 (fun e => ?_) (fun e => ?_)⟩
    · rw [if_pos (of_decide_eq_true e)] at h
      exact ⟨by decide, fun a' na => raised (flat_int 2) (h H (Same.refl H)) a' na⟩
    · rw [if_neg (fun z => e (decide_eq_true z))] at h
      refine ⟨_, rfl, _, rfl, a, p, q, k, rfl, ha, _, rfl, ?_⟩
      by_cases z : 2 * q ≤ p + k
      · rw [if_pos z] at h
        rw [decide_eq_true z]
        exact iteF h
      · rw [if_neg z] at h
        rw [decide_eq_false z]
        exact iteT ⟨by decide, fun a' na => raised (flat_int 3) (h H (Same.refl H)) a' na⟩
end
end Ev
namespace Ev
open PySem L2 PySem.Spec PyProof.Rows
/-! ### repr of a value that holds nothing but scalars -/
def sclr : V → PyData → Bool
  | .non, .none => true
  | .bl a, .bool b => a == b
  | .int a, .int b => decide (a = b)
  | .str a, .str b => a == b
  | _, _ => false
def keyD : Key → PyData
  | .inl i => .int i
  | .inr x => .str x
inductive Vd (K : PySem.W.Frag) (H : Hp) : V → PyData → Prop
  | plain {v : V} {d : PyData} : Dp K H v d → d.hasDict = false → Vd K H v d
  | dct {a : Addr} {kvs : List (Key × V)} {ds : List (PyData × PyData)} : H a = some (.dK kvs) → ds.map (·.1) = kvs.map (fun p => keyD p.1) → Paired (fun v d => sclr v d = true) (kvs.map (·.2)) (ds.map (·.2)) → Vd K H (.ref a) (.dict ds)
theorem reads_sc {h : Heap} {v : V} {d : PyData} {u : Value} (e : sclr v d = true) (r : RelV v u) : Reads h u d [] := by
  cases v <;> cases d <;> first | cases e | skip
  · cases (show u = Value.none from r); exact .none
  · obtain rfl := beq_iff_eq.mp e
    cases (show u = Value.bool _ from r); exact .bool _
  · obtain rfl := of_decide_eq_true e
    obtain ⟨t, q⟩ := (show ∃ t, u = Value.int _ t from r); cases q; exact .int _ _
  · obtain rfl := beq_iff_eq.mp e
    obtain ⟨t, q⟩ := (show ∃ t, u = Value.str _ t from r); cases q; exact .str _ _
theorem reads_scs {h : Heap} : ∀ {vs : List V} {ds : List PyData} {us : List Value}, Paired (fun v d => sclr v d = true) vs ds → Vals vs us → ReadsAll h us ds []
  | _, _, _, .nil, .nil => .nil
  | _, _, _, .cons e t, .cons r q => .cons (as := []) (bs := []) (reads_sc e r) (reads_scs t q)
theorem pair_vals {P : Program} {w : World} : ∀ {es : List DictEntry} {vs : List (Key × Value)}, Pairs (mixKind P w) es vs → es.map (·.val) = vs.map (·.2)
  | _, _, .nil => rfl
  | _, _, .cons h1 h2 t => by
    rw [List.map_cons, List.map_cons, h2, pair_vals t]
theorem reads_keys {P : Program} {w : World} {h : Heap} : ∀ {es : List DictEntry} {kvs : List (Key × V)} {vs : List (Key × Value)}, Pairs (mixKind P w) es vs → KV kvs vs → ReadsAll h (es.map (·.key)) (kvs.map fun p => keyD p.1) []
  | _, _, _, .nil, .nil => .nil
  | _, _, _, .cons h1 h2 t, .cons r q => by
    refine .cons (as := []) (bs := []) ?_ (reads_keys t q)
    dsimp only
    rw [r.1]
    rcases keyIs_shape (show keyIs _ _ = true from h1) with ⟨i, tk, e1, e2⟩ | ⟨x, tk, e1, e2⟩
    · rw [e1, e2]; exact .int _ _
    · rw [e1, e2]; exact .str _ _
theorem vals_snd : ∀ {kvs : List (Key × V)} {vs : List (Key × Value)}, KV kvs vs → Vals (kvs.map (·.2)) (vs.map (·.2))
  | _, _, .nil => .nil
  | _, _, .cons h t => .cons h.2 (vals_snd t)
section
variable {X : Cx}
/-- repr of such a value, where none is under way -/
def rReprV (K : PySem.W.Frag) : List V → Hp → VK → Prop := fun xs H Q => ∃ (v : V) (d : PyData), xs = [v] ∧ Vd K H v d ∧
  d.showable = true ∧ d.depth ≤ 32 ∧ d.shown.length ≤ sizeLine ∧ Q (.str d.shown) H
theorem call_reprV (gd : X.A.guards = some []) (hu : X.A.units + 64 < cLine) : CallR X (.builtin "repr") (rReprV X.K) := by
  intro pins s σ H xs us Q I r h
  obtain ⟨v, d, rfl, hd, h1, h3, h4, q⟩ := h
  obtain ⟨u, rfl, ru⟩ := vals1 r
  have fin : ∀ (h' : Heap) (t : Tok) (tk : Nat), (∀ b o, s.heap.get? b = some o → h'.get? b = some o) → EP X pins σ Q (.str d.shown t) { s with heap := h', toks := tk } := fun h' t tk hk => ⟨.str d.shown, H, I.kept hk, ⟨t, rfl⟩, q⟩
  have byRef : ∀ (a : Addr) (as : List Addr), u = .ref a → Reads s.heap (.ref a) d as → (d.hasDict = true → sysModules ∉ as) → wpAny (model X.prog X.w) X.A (call (.builtin "repr") [u]) (EP X pins σ Q) X.xe s := by
    intro a as eu rd hm
    subst eu
    exact repr_of_reads' rd h1 hm gd (by omega) (fun _ _ e => e) (fun h' t tk hk => fin h' t tk hk) h4
  cases hd with
  | plain dp nd =>
    cases dp with
    | non => cases ru; exact PySem.P.repr_of_none (fin s.heap _ _ fun _ _ e => e)
    | bl b => cases ru; exact PySem.P.repr_of_bool (fin s.heap _ _ fun _ _ e => e)
    | int i => obtain ⟨t, rfl⟩ := ru; exact PySem.P.repr_of_int (of_decide_eq_true h1) (fin s.heap _ _ fun _ _ e => e)
    | str x => obtain ⟨t, rfl⟩ := ru; exact PySem.P.repr_of_str (fin s.heap _ _ fun _ _ e => e) h4
    | lst sq al =>
      cases ru
      obtain ⟨as, rd⟩ := Dp.reads I _ _ _ (.lst sq al) rfl
      exact byRef _ as rfl rd fun z => by rw [nd] at z; cases z
    | tup sq al =>
      cases ru
      obtain ⟨as, rd⟩ := Dp.reads I _ _ _ (.tup sq al) rfl
      exact byRef _ as rfl rd fun z => by rw [nd] at z; cases z
  | @dct a kvs ds e ek ev =>
    cases ru
    obtain ⟨hz, hs0, vs, kv, hdo⟩ := (show ObjOk X.prog X.w H s.heap a (.dK kvs) from I.hok a _ e)
    obtain ⟨ep, ob, es, ho, ex, hdat, hko, hpr, hnd⟩ := hdo.dictAt
    have e1 : ReadsAll s.heap (es.toList.map (·.key)) (ds.map (·.1)) [] := by
      rw [ek]; exact reads_keys hpr kv
    have e2 : ReadsAll s.heap (es.toList.map (·.val)) (ds.map (·.2)) [] := by
      refine reads_scs ev ?_
      have e3 : es.toList.map (·.val) = vs.map (·.2) := pair_vals hpr
      rw [e3]; exact vals_snd kv
    refine byRef a (a :: [] ++ []) rfl (.dict ho ex.1 hdat e1 e2) fun _ z => ?_
    simp at z
    rw [← z] at hs0
    simp at hs0
end
end Ev
namespace Ev
open PySem L2 PySem.Spec PyProof.Rows
/-! An error that was caught stays in a local behind its suite: its object is told of from then on. -/
def Held (cls : Value) (d : Option Addr) (a : Addr) : HO := .ext fun h => ∃ oe : Obj, h.get? a = some oe ∧ Zc cls d oe ∧ ∃ vs : Array Value, oe.data = .fields vs
theorem held_ok {P : Program} {w : World} {H : Hp} {h : Heap} {a : Addr} {cls : Value} {d : Option Addr} {oe : Obj}
    (e : h.get? a = some oe) (z : Zc cls d oe) (f : ∃ vs : Array Value, oe.data = .fields vs) : ObjOk P w H h a (Held cls d a) :=
  ⟨⟨oe, e, z, f⟩, ⟨oe, e⟩, fun _ _ t k => by obtain ⟨o, q, r⟩ := t; exact ⟨o, k _ q, r⟩⟩
section
variable {X : Cx} {pins : List (Addr × Obj)} {σ : L2.St} {H : Hp} {s : Shared} {a : Addr} {cls : Value} {d : Option Addr} {oe : Obj}
theorem inv_hold (I : Inv X pins σ H s) (e : s.heap.get? a = some oe) (z : Zc cls d oe) (f : ∃ vs : Array Value, oe.data = .fields vs) (n : H a = none)
    (n0 : X.s_0.heap.get? a = none) (nL : a ≠ X.env.locals) (np : ∀ p ∈ X.pn ++ pins, p.1 ≠ a) : Inv X pins σ (upd H a (Held cls d a)) s := by
  have other : ∀ {b : Addr} {o : HO}, H b = some o → upd H a (Held cls d a) b = some o := fun {b o} q => by rw [upd_ne (ne_of_none q n)]; exact q
  constructor
  · exact I.ok
  · exact I.os
  · exact I.bare
  · constructor
    · exact I.base.keep
    · exact I.base.slot
    · intro b o q1 q2 q3
      have nb : b ≠ a := fun t => by rw [t, n0] at q1; cases q1
      rw [upd_ne nb]; exact I.base.free b o q1 q2 q3
    · exact I.base.there
    · exact fun b xs q => other (I.base.tups b xs q)
    · exact fun b o u q => other (I.base.frzs b o u q)
    · intro b ps q
      obtain ⟨more, t⟩ := I.base.tbls b ps q
      exact ⟨more, other t⟩
  · exact I.loc
  · exact I.cell
  · rw [upd_ne nL.symm]; exact I.free
  · intro x c q
    have nb : c ≠ a := fun t => by
      obtain ⟨v, o, q1, q2⟩ := I.cell x c q
      obtain ⟨vs, q3⟩ := f
      rw [t, e] at q1; cases q1
      rw [q3] at q2; cases q2
    rw [upd_ne nb]; exact I.freeC x c q
  · intro p hp
    obtain ⟨q1, q2, q3⟩ := I.pin p hp
    exact ⟨q1, by rw [upd_ne (np p hp)]; exact q2, q3⟩
  · intro b o q
    by_cases nb : b = a
    · subst nb
      rw [upd_same] at q
      cases q
      exact held_ok e z f
    · rw [upd_ne nb] at q
      exact (I.hok b o q).stay (fun _ _ _ t => t) (fun _ t => other t) (fun _ _ t => other t)
  · exact I.len
end
/-- what the clause wishes: the suite reads the error in slot i; behind it the error is told of, slot i is empty -/
def wHeld (K : PySem.W.Frag) (c : Value) (i : Nat) (ts : Addr → Value → Option Addr → TS) (Wout : WX) (n : Nat) (D : Ends) : WX := fun cls d σ H => σ.length = n →
  ∃ b, PySem.W.exmOne K cls c = some b ∧ (b = false → Wout cls d σ H) ∧ (b = true → ∀ a, H a = none →
    ts a cls d { nx := fun τ G => G a = none → D.nx (τ.set i none) (upd G a (Held cls d a)), rt := fun v G => D.rt v G, bk := fun τ G => D.bk (τ.set i none) G, ct := fun τ G => D.ct (τ.set i none) G } (σ.set i (some (.ref a))) H)
section
variable {X : Cx} {x n : Str} {c : Value} {i : Nat} {body suite : List Stmt} {b₀ : Stmt} {np pos pos' : Pos} {tb : WX → TS} {ts : Addr → Value → Option Addr → TS} {Wout : WX}
theorem ps_try_held (hs : X.stack = X.env :: X.outer) (hf : X.env.frame = some X.env.locals) (hex : X.ex = []) (hN : X.N.Nodup) (hi : X.N[i]? = some n) (hln : X.env.kindOf n = some .local) (hc : Names X x c) (tk : Takes X Wout)
    (hb : ∀ (W : WX) (pn : List (Addr × Obj)) (xe : Value → Shared → Prop), Takes (X.tr pn xe) W → PSs (X.tr pn xe) body (tb W))
    (hsu : ∀ (a : Addr) (oe : Obj) (cls : Value) (d : Option Addr) (pn : List (Addr × Obj)), Zc cls d oe → (∃ vs, oe.data = .fields vs) → PSs (X.suite a ((a, oe) :: pn)) (b₀ :: suite) (ts a cls d)) :
    PS X (.Try body [.ExceptHandler (some (.Name x np)) (some n) (b₀ :: suite) pos'] [] [] pos) (fun D σ H => tb (wHeld X.K c i ts Wout X.N.length D) D σ H) := by
  constructor
  intro pins s σ H D I h
  have ok := I.ok
  have frames : X.A.frames = some (X.env :: X.outer) := by rw [ok.frames, hs]
  have isLoc : Loc X.env.scope n := .inl hln
  let hands : List ExceptHandler := [.ExceptHandler (some (.Name x np)) (some n) (b₀ :: suite) pos']
  let land : Value → Shared → Prop := fun e s1 => wpAny (model X.prog X.w) X.A (noteFrame e X.env) (fun _ s2 => wpAny (model X.prog X.w) X.A (setFlight e none)
    (fun _ s3 => wpAny (model X.prog X.w) X.A (handleBy e X.env hands) (SP X pins D) X.xe s3) X.xe s2) X.xe s1
  have caught : Takes (X.tr (X.pn ++ pins) land) (wHeld X.K c i ts Wout X.N.length D) := by
    rintro u s' ⟨a, B, sI, pins', σ', H', cls, d, rfl, J', nb, up, sky, na, os, ag, wish⟩
    obtain ⟨b, hb1, hno, hyes⟩ := wish J'.len
    have J : Inv X pins σ' H' sI := J'.ofTry ok
    have sky2 : Sky B (X.env :: X.outer) a (Zc cls d) X.env.locals s'.heap := by rw [← hs]; exact sky
    refine Sky.land Zc.steady frames hf sky2 fun h3 fl3 up3 => ?_
    have J3 : Inv X pins σ' H' { s' with heap := h3 } := J.landed nb fl3.1 (up.trans up3) os ag
    obtain ⟨oe3, vs3, he3, hz3, hd3⟩ := fl3.there
    have nfr : a ∉ frs (X.env :: X.outer) := by
      intro hm
      obtain ⟨_, o2, e2, nf⟩ := fl3.2.2.1.mem hm
      rw [he3] at e2; cases e2
      exact nf _ hd3
    have nfr2 : a ∉ frs X.stack := by rw [hs]; exact nfr
    have nL : a ≠ X.env.locals := fun z => nfr (List.mem_filterMap.mpr ⟨_, List.mem_cons_self, by rw [hf, z]⟩)
    have nF : a ∉ X.fs := by
      intro hm
      obtain ⟨e, he, q⟩ := List.mem_filterMap.mp hm
      exact nfr (List.mem_filterMap.mpr ⟨e, List.mem_cons_of_mem _ he, q⟩)
    have nI : sI.heap.get? a = none := by
      cases q : sI.heap.get? a with
      | none => rfl
      | some o =>
        have z := nb a o q nfr2
        rw [fl3.2.1] at z; cases z
    have n0 : X.s_0.heap.get? a = none := by
      cases q : X.s_0.heap.get? a with
      | none => rfl
      | some o =>
        obtain ⟨o2, z⟩ := J.base.there a o q (by rw [hex]; simp)
        rw [nI] at z; cases z
    have npin : ∀ p ∈ X.pn ++ pins, p.1 ≠ a := fun p hp z => by
      have q := (J.pin p hp).1
      rw [z, nI] at q; cases q
    have S3 := J3.suite he3 hd3 na nL nF
    refine wpAny_handleBy_cons (codeAny_handlers_test ?_) (fun q => nomatch q)
    have LT : PySem.W.Looks (model X.prog X.w) h3 (typeOf (.ref a)) cls := by
      intro A Q E s k q
      exact wpAny_typeOf_ref (k _ _ he3) (by rw [hz3.1]; exact q)
    have LM := PySem.W.exm_one (M := model X.prog X.w) J3.kIn LT hb1
    have named : ∀ {Q E : Value → Shared → Prop}, Q c { s' with heap := h3 } → wpAny (model X.prog X.w) (X.A.mark (some (.ref a))) (eval (.Name x np) X.env) Q E { s' with heap := h3 } := by
      intro Q E q
      obtain ⟨g1, g2, g3⟩ := hc
      rcases g3 with m | ⟨m, v, nn⟩
      · exact ld_glob (X := X.suite a ((a, oe3) :: (X.pn ++ pins))) S3 g1 m q g2
      · exact ld_blt (X := X.suite a ((a, oe3) :: (X.pn ++ pins))) S3 g1 m v q nn g2
    refine named (LM.here ?_)
    cases b with
    | false =>
      refine wpAny_handleBy_nil (e := .ref a) (env := X.env) ?_
      obtain ⟨k1, k2, k3, oe, vs, T, oT, ts', he, hz, hd, h1, hr⟩ := id fl3
      unfold PySem.passOn
      refine wpAny_bind (wpAny_field he hd h1 ?_)
      rw [if_neg (by simp : ¬ ((Value.ref T == Value.none) = true))]
      have on : wpAny (model X.prog X.w) X.A (setFlight (.ref a) X.env.frame) (fun _ s4 => wpAny (model X.prog X.w) X.A (throw (.ref a) : Sem Flow) (SP X pins D) X.xe s4) X.xe { s' with heap := h3 } := by
        rw [hf]
        refine HandSPX.setFlight_upZ fl3 fun h4 hh4 up4 => ?_
        refine wpAny_throw (tk _ _ ⟨a, B, sI, pins, σ', H', cls, d, rfl, J, nb, (up.trans up3).trans up4, ?_, na, os, ag, hno rfl⟩)
        rw [hs]; exact .inr (.inr hh4)
      first
        | exact wpAny_bind (wpAny_pure (wpAny_bind on))
        | exact wpAny_bind on
    | true =>
      refine codeAny_handlers_suite_as (HandSPX.lands_againZ fl3 fun h4 fl4 up4 => ?_)
      have J4 : Inv X pins σ' H' { s' with heap := h4 } := J.landed nb fl4.1 ((up.trans up3).trans up4) os ag
      obtain ⟨oe4, vs4, he4, hz4, hd4⟩ := fl4.there
      refine store_ok (X := X.suite a ((a, oe4) :: (X.pn ++ pins))) (v := .ref a) (J4.suite he4 hd4 na nL nF) hN hi isLoc rfl (fun s5 S5 => ?_) (.inr hln)
      have suite := (hsu a oe4 cls d (X.pn ++ pins) hz4 ⟨_, hd4⟩).run [] s5 _ H' _ S5 (hyes rfl a na)
      refine wpAny_mono suite (fun f s6 hsp => ?_) (fun _ _ z => False.elim z)
      have gone : ∀ {τ : L2.St} {G : Hp} {Q : Shared → Prop}, Inv X pins τ G s6 → (∀ s7, Inv X pins (τ.set i none) G s7 → Q s7) →
          wpAny (model X.prog X.w) X.A (do bindName X.env n .none; unbindBehindTheSuite X.env n pos') (fun _ s7 => Q s7) X.xe s6 := by
        intro τ G Q S6 hq
        exact gone_ok S6 hN hi hln hq
      cases f with
      | next =>
        obtain ⟨τ, G, S6, q6⟩ := hsp
        obtain ⟨p1, p2, _⟩ := S6.pin (a, oe4) (List.mem_append_left _ List.mem_cons_self)
        exact gone (inv_hold (S6.unsuite ok) p1 hz4 ⟨_, hd4⟩ p2 n0 nL npin) fun s7 J7 => ⟨_, _, J7, q6 p2⟩
      | brk =>
        obtain ⟨τ, G, S6, q6⟩ := hsp
        exact gone (S6.unsuite ok) fun s7 J7 => ⟨_, _, J7, q6⟩
      | cont =>
        obtain ⟨τ, G, S6, q6⟩ := hsp
        exact gone (S6.unsuite ok) fun s7 J7 => ⟨_, _, J7, q6⟩
      | ret u =>
        obtain ⟨v, τ, G, S6, r6, q6⟩ := hsp
        exact gone (S6.unsuite ok) fun s7 J7 => ⟨_, _, _, J7, r6, q6⟩
  refine wpAny_Try_except (wpAny_mono ((hb _ (X.pn ++ pins) land caught).run [] s σ H D (I.toTry _) h) (fun f s1 hsp => ?_) (fun e s1 he => he))
  cases f with
  | next =>
    obtain ⟨τ, G, J, q⟩ := hsp
    exact wpAny_execs_nil ⟨τ, G, J.ofTry ok, q⟩
  | brk =>
    obtain ⟨τ, G, J, q⟩ := hsp
    exact ⟨τ, G, J.ofTry ok, q⟩
  | cont =>
    obtain ⟨τ, G, J, q⟩ := hsp
    exact ⟨τ, G, J.ofTry ok, q⟩
  | ret u =>
    obtain ⟨v, τ, G, J, r, q⟩ := hsp
    exact ⟨v, τ, G, J.ofTry ok, r, q⟩
end
/-- what the class of such an error says -/
structure HeldC (K : PySem.W.Frag) (C : Addr) : Prop where
  cl : (PySem.W.clsIn K C).isSome = true
  ga : PySem.W.findIn K (.ref C) "__getattribute__" = some (some (.builtin "BaseException.__getattribute__"))
  gg : PySem.W.findIn K (.ref C) "__getattr__" = some none
  ex : PySem.W.subIn K (.ref C) (.type "BaseException") = some true
  hd : PySem.W.hasDictIn K C = true
  ca : PySem.W.findIn K (.ref C) "__class__" = some (some (.builtin "object.__class__"))
  sp : PySem.W.specialIn K (.builtin "object.__class__") "__get__" = some (some (.builtin "getset_descriptor.__get__"))
  tk : PySem.W.takesIn K (.builtin "object.__class__") = some true
  mo : PySem.W.mroIn K C (.type "object") = some true
section
variable {X : Cx}
theorem held_at {pins : List (Addr × Obj)} {σ : L2.St} {H : Hp} {s : Shared} {a : Addr} {cls : Value} {d : Option Addr} (I : Inv X pins σ H s) (e : H a = some (Held cls d a)) :
    ∃ oe : Obj, s.heap.get? a = some oe ∧ Zc cls d oe ∧ ∃ vs : Array Value, oe.data = .fields vs := by
  have x : ObjOk X.prog X.w H s.heap a (.ext fun h => ∃ oe : Obj, h.get? a = some oe ∧ Zc cls d oe ∧ ∃ vs : Array Value, oe.data = .fields vs) := I.hok a _ e
  exact x.1
theorem held_inst {pins : List (Addr × Obj)} {σ : L2.St} {H : Hp} {s : Shared} {a C dd : Addr} {fs : List (Str × V)} (I : Inv X pins σ H s) (e : H a = some (Held (.ref C) (some dd) a)) (ed : H dd = some (.xd fs)) :
    ∃ (oe od : Obj) (mA : Str → Option Value), PySem.W.InstAt s.heap a oe C (some od) ∧ (∀ f, RelO (fs.lookup f) (mA f)) ∧ ∀ n, PySem.W.lookIn n od = some (mA n) := by
  obtain ⟨oe, he, hz, vs, hd⟩ := held_at I e
  obtain ⟨mA, hns, hr⟩ := (show ObjOk X.prog X.w H s.heap dd (.xd fs) from I.hok dd _ ed)
  obtain ⟨od, ho, hl⟩ := lookIn_ns hns
  exact ⟨oe, od, mA, ⟨he, hz.1, by unfold PySem.W.notCls; rw [hd] <;> rfl, by rw [hz.2]; exact ho⟩, hr, hl⟩
/-- isinstance(e, c), e such an error -/
def rIsHeld (K : PySem.W.Frag) : List V → Hp → VK → Prop := fun xs H Q => ∃ (a C dd : Addr) (fs : List (Str × V)) (c : V) (u : Value) (b : Bool),
  xs = [.ref a, c] ∧ H a = some (Held (.ref C) (some dd) a) ∧ H dd = some (.xd fs) ∧ HeldC K C ∧ ClsV c u ∧ PySem.W.kitOne K (.ref C) u = some b ∧ Q (.bl b) H
theorem call_isHeld : CallR X (.builtin "isinstance") (rIsHeld X.K) := by
  intro pins s σ H xs us Q I r h
  obtain ⟨a, C, dd, fs, c, u, b, rfl, ea, ed, T, k, e, q⟩ := h
  obtain ⟨u1, u2, rfl, r1, r2⟩ := vals2 r
  have e2 := k.eq r2
  subst e2
  cases r1
  obtain ⟨oe, od, mA, J, _, _⟩ := held_inst I ea ed
  exact PySem.W.kia_one (PySem.W.kitx_exc T.cl T.ga T.gg T.ex T.ca T.sp T.tk T.mo) I.kIn J e (fun z => nomatch z) fun tk => ⟨.bl b, H, I.tok tk, rfl, q⟩
/-- e.n, e such an error -/
def tHeldFld (K : PySem.W.Frag) (n : Str) (te : TE) : TE := fun σ H Q => te σ H fun x H1 => ∃ (a C dd : Addr) (fs : List (Str × V)) (v : V),
  x = .ref a ∧ H1 a = some (Held (.ref C) (some dd) a) ∧ H1 dd = some (.xd fs) ∧ HeldC K C ∧ PySem.W.findIn K (.ref C) n = some none ∧ fs.lookup n = some v ∧ Q v H1
theorem pe_heldFld {e : Expr} {te : TE} {pos : Pos} {n : Str} (he : PE X e te) (hb : attributeBase e n X.env (eval e X.env) = eval e X.env := by rfl) : PE X (.Attribute e n pos) (tHeldFld X.K n te) := by
  constructor
  intro pins s σ H Q I h
  refine attr_of hb (thn (he.run pins s σ H _ I h) fun u s1 hh => ?_)
  obtain ⟨x, H1, I1, rx, a, C, dd, fs, v, rfl, ea, ed, T, hno, l, q⟩ := hh
  obtain rfl : u = Value.ref a := rx
  obtain ⟨oe, od, mA, J, hr, hl⟩ := held_inst I1 ea ed
  obtain ⟨u, hu, ru⟩ := RelO.some_of (v := v) (o := mA n) (by rw [← l]; exact hr n)
  exact HandSPX.exc_get I1.kIn J T.ga T.gg T.ex (PySem.W.findObj_own T.hd hno rfl (by rw [hl, hu])) (handed_of ru) ⟨v, H1, I1.tok _, ru, q⟩
end
end Ev
namespace Ev
open PySem L2 PySem.Spec PyProof.Rows LamX
/-! The law's own call, where the law makes lambdas: the table of its code object is told of. -/
section
variable {P : Program} {w : World} {K : PySem.W.Frag} {mg mb : Str → Option Value}
theorem law_callT {k : Nat} {fa a c T : Addr} {fd : FuncData} {x : Str} {sp : Sp} {s : Shared} {vs : List Value} {ns : List Int}
    (inK : K.In s.heap) (ns1 : s.heap.Ns mainGlobals mg) (ns2 : s.heap.Ns builtinsNs mb) (blt : ∀ x : Str, x ≠ "__name__" → mb x = bootBuiltins x)
    (noLim : s.heap.NoLimit) (hg : s.gens = #[]) (hT : s.heap.get? T = some { cls := .none, data := .fields #[] }) (nT : K.lookup T = none) (hc : PySem.W.CodeHd s.heap c T)
    (hbm : ∃ (bm : Addr) (ob : Obj), mg "__builtins__" = some (.ref bm) ∧ bm ≠ builtinsNs ∧ s.heap.get? bm = some ob ∧ ob.cls = .type "module" ∧ ob.dict = some builtinsNs ∧ ob.data = .plain)
    (ha : s.heap.get? a = some { cls := .type "list", data := .seq vs.toArray }) (hi : IntsAre vs ns) (hl : ns.length ≤ sizeLine) (hr : Room k callerA)
    (F : ∀ base : Heap, K.In base → base.Ns mainGlobals mg → TabB base mg c T → FnG P w K mg base k fa fd [x] sp)
    (bt : ∀ (s : Shared) (u : Value), BindsTo s fd ⟨[u], []⟩ [(x, u)])
    (hsp : ∀ H : Hp, H T = some (.tbl #[]) → SqL K H a (ns.map V.int) → sp [.ref a] H (fun v _ => v = .bl true) fun _ _ _ => False) :
    codeAny (model P w) callerA (.call (.ref fa) ⟨[.ref a], []⟩)
      (fun r s' => r = .ok (.ret (.bool true)) ∧ OldK s.heap s'.heap ∧ s'.os = s.os ∧ AllBare s'.gens) s := by
  have rv := vals_ints hi
  have lv := hi.length
  have aT : a ≠ T := fun z => by
    rw [z, hT] at ha
    cases ha
  have key : ∀ H : Hp, H T = some (.tbl #[]) → (∀ b u, H b = some u → b ≠ T → b = a ∧ K.lookup a = none ∧ u = .frz { cls := .type "list", data := .seq vs.toArray } (.lst (ns.map V.int))) →
      SqL K H a (ns.map V.int) → codeAny (model P w) callerA (.call (.ref fa) ⟨[.ref a], []⟩)
        (fun r s' => r = .ok (.ret (.bool true)) ∧ OldK s.heap s'.heap ∧ s'.os = s.os ∧ AllBare s'.gens) s := by
    intro H eT only sq
    have ok : HOk P w H s.heap := by
      intro b u e
      by_cases zb : b = T
      · subst zb
        rw [eT] at e
        cases e
        exact hT
      · obtain ⟨rfl, _, rfl⟩ := only b u e zb
        exact ⟨ha, by rw [List.length_map]; exact hl, vs, _, rv, ha⟩
    have plain : ∀ {b : Addr} {o : Obj}, s.heap.get? b = some o → (∀ vs n, o.data ≠ .seq vs n) → o.data ≠ .fields #[] → H b = none := by
      intro b o e d1 d2
      cases q : H b with
      | none => rfl
      | some u =>
        by_cases zb : b = T
        · subst zb
          rw [hT] at e
          cases e
          exact absurd rfl d2
        · obtain ⟨rfl, _, _⟩ := only b u q zb
          rw [ha] at e
          cases e
          exact absurd rfl (d1 _ _)
    have names : ∀ {b : Addr} {m : Str → Option Value}, s.heap.Ns b m → (hidT s.heap H).Ns b m := by
      rintro b m ⟨o, es, n, e, d, r⟩
      exact ⟨o, es, n, hidT_get e (plain e (fun _ _ z => by rw [d] at z; cases z) fun z => by rw [d] at z; cases z), d, r⟩
    have inB : K.In (hidT s.heap H) := by
      intro b o e
      refine hidT_get (inK b o e) ?_
      cases q : H b with
      | none => rfl
      | some u =>
        by_cases zb : b = T
        · rw [zb, nT] at e
          cases e
        · obtain ⟨rfl, n, _⟩ := only b u q zb
          rw [n] at e
          cases e
    have tb : TabB (hidT s.heap H) mg c T := by
      obtain ⟨bm, ob, b1, b2, b3, b4, b5, b6⟩ := hbm
      refine ⟨?_, ⟨bm, ob, b1, b2, fun q => ?_, fun q => ?_, hidT_get b3 (plain b3 (fun _ _ z => by rw [b6] at z; cases z) fun z => by rw [b6] at z; cases z), b4, b5, b6⟩, fun z => ?_⟩
      · obtain ⟨o, us, file, tf, flags, tg, inF, text, tt, e1, r1, r2, r3, rest⟩ := hc
        refine ⟨o, us, file, tf, flags, tg, inF, text, tt, hidT_get e1 (plain e1 (fun _ _ z => by rw [r2] at z; cases z) fun z => ?_), r1, r2, r3, rest⟩
        rw [r2] at z
        cases z
        simp at r3
      · obtain ⟨o, es, n, e, d, _⟩ := ns1
        rw [q, e] at b3
        cases b3
        rw [d] at b6
        cases b6
      · rw [q, hT] at b3
        cases b3
        cases b6
      · obtain ⟨o, es, n, e, d, _⟩ := ns1
        rw [z, hT] at e
        cases e
        cases d
    obtain ⟨mc, l1, l2⟩ := noLim
    have md : Mod K mg (hidT s.heap H) := ⟨inB, names ns1, ⟨mb, names ns2, blt⟩, ⟨mc, names l1, l2⟩⟩
    have env : Env0 P w K mg (hidT s.heap H) callerA [] s H :=
      ⟨rfl, md, fun b o e => of_hidT e, Nat.le_of_eq (hidT_size _ _), trivial, (fun b hb => by cases hb), ok, .of_eq hg⟩
    have go := (F _ inB (names ns1) tb).goes callerA [] s H ⟨[.ref a], []⟩ [.ref a] [.ref a] _ _ hr rfl env (bt s (.ref a)) (.cons rfl .nil) (hsp H eT sq)
    refine codeAny_mono go fun r s2 h2 => ?_
    cases r with
    | error e => exact False.elim h2
    | ok fl =>
      cases fl with
      | next => exact False.elim h2
      | brk => exact False.elim h2
      | cont => exact False.elim h2
      | ret u =>
        obtain ⟨v, H2, os, bare, un, ok2, rr, q⟩ := h2
        obtain rfl : v = V.bl true := q
        obtain rfl : u = Value.bool true := rr
        have others : ∀ b o, b ≠ T → s.heap.get? b = some o → s2.heap.get? b = some o := by
          intro b o nb e
          cases q : H b with
          | none => exact un.keep b o e q (by intro z; cases z) (by simp)
          | some u =>
            obtain ⟨rfl, _, rfl⟩ := only b u q nb
            obtain ⟨e1, _⟩ := ok b _ q
            obtain ⟨e2, _⟩ := ok2 b _ (un.frzs b _ _ q)
            rw [e] at e1
            cases e1
            exact e2
        obtain ⟨more, eM⟩ := un.tbls T #[] eT
        have grown : s2.heap.get? T = some { cls := .none, data := .fields (#[] ++ more) } := ok2 T _ eM
        refine ⟨rfl, ⟨fun b o e => ?_, fun b o e => ?_⟩, os, bare⟩
        · by_cases nb : b = T
          · subst nb
            rw [hT] at e
            cases e
            exact .inr (.inl ⟨(hc.tab hT).isCodeTable, rfl, #[], more, rfl, grown⟩)
          · exact .inl (others b o nb e)
        · by_cases nb : b = T
          · subst nb
            exact ⟨_, grown⟩
          · exact ⟨o, others b o nb e⟩
  cases hk : K.lookup a with
  | none =>
    refine key (fun b => if b = T then some (.tbl #[]) else if b = a then some (.frz { cls := .type "list", data := .seq vs.toArray } (.lst (ns.map V.int))) else none) (if_pos rfl) (fun b u e nb => ?_)
      (.inl (.inr ⟨_, (if_neg aT).trans (if_pos rfl)⟩))
    rw [if_neg nb] at e
    by_cases z : b = a
    · rw [if_pos z] at e
      cases e
      exact ⟨z, hk, rfl⟩
    · rw [if_neg z] at e
      cases e
  | some o =>
    have e := inK a o hk
    rw [ha] at e
    cases e
    refine key (fun b => if b = T then some (.tbl #[]) else none) (if_pos rfl) (fun b u e nb => by rw [if_neg nb] at e; cases e) (.inr ⟨_, vs.toArray, _, hk, rfl, rfl, rfl, ?_, by simpa using rv⟩)
    rw [List.size_toArray, lv]
    exact hl
end
/-- the law's call, the table of another def's code object told -/
theorem walk_ofGT {l : PySem.W.OpenLaw} {n k : Nat} {q : Program} {loose : List Str} {XP : (Str → Option Value) → Heap → Prop} {YP : World → Heap → Prop}
    {d : DefRec} {x xr : Str} (hn : l.most = some n) (hn2 : n ≤ sizeLine) (hdf : d.params.defaults = []) (hr : Room k callerA) (hrec : ((recsOf q).any fun e => e.name == xr) = true)
    (F : ∀ (w : World) (mg : Str → Option Value) (fa : Addr) (h : Heap), YP w h → h.Ns mainGlobals mg → mg d.name = some (.ref fa) →
      ∃ (K : PySem.W.Frag) (fd fdr : FuncData) (sp : Sp) (fr c T : Addr) (o : Obj), K.In h ∧ (∀ (s : Shared) (u : Value), BindsTo s fd ⟨[u], []⟩ [(x, u)]) ∧
        mg xr = some (.ref fr) ∧ K.lookup fr = some o ∧ o.data = .func fdr ∧ fdr.code = .ref c ∧ PySem.W.codeHdIn K c T = true ∧ K.lookup T = none ∧
        (∀ (H : Hp) (a : Addr) (ns : List Int), ns.length ≤ n → H T = some (.tbl #[]) → SqL K H a (ns.map V.int) → sp [.ref a] H (fun v _ => v = .bl true) fun _ _ _ => False) ∧
        ∀ base : Heap, K.In base → base.Ns mainGlobals mg → TabB base mg c T → FnG l.prog w K mg base k fa fd [x] sp) :
    PySem.W.WalkO q loose XP YP l.row.toRowW d [] (fun f vs => PySem.call f vs) := by
  refine Att.attach_callB hn hdf fun w s0 s1 mg mb fa o pm cd doc a vs ns G Y h1 h2 h3 h4 h5 h6 h7 hbits h8 => ?_
  obtain ⟨K, fd, fdr, sp, fr, c, T, o1, inK, bt, k0, k1, k2, k3, kc, kT, hsp, hF⟩ := F w mg fa _ Y G.T.g h4
  have hc := PySem.W.codeHd_of_K inK kc
  have hT : s1.heap.get? T = some { cls := .none, data := .fields #[] } := by
    obtain ⟨dL, hm, e1⟩ := List.any_eq_true.mp hrec
    obtain ⟨a2, o2, fd2, c2, P2, g1, g2, g3, g4, g5, g6⟩ := G.T.tab dL hm
    rw [beq_iff_eq.mp e1, k0] at g1
    cases g1
    rw [inK _ _ k1] at g2
    cases g2
    rw [k2] at g3
    cases g3
    rw [k3] at g4
    cases g4
    obtain ⟨⟨oc, vc, e1, _, e3, e4⟩, hP⟩ := g6
    obtain ⟨oc', vs', file, tf, flags, tg, inF, text, tt, f1, f2, f3, f4, _⟩ := id hc
    rw [f1] at e1
    cases e1
    rw [f3] at e3
    cases e3
    rw [f4] at e4
    cases e4
    exact hP
  exact law_callT inK G.T.g G.T.b G.T.builtins G.T.nolimit h8 hT kT hc G.T.bmain h5 h6 (Nat.le_trans h7 hn2) hr hF bt (fun H eT sq => hsp H a ns h7 eT sq)
end Ev
namespace Ev
open PySem L2 PySem.Spec PyProof.Rows
/-- the five fields of a fill rule made of any two parts and two numbers -/
def widV (c j : Int) : Int := if c > j then c else j
def fillV (tv kv : V) (c j : Int) : List (Str × V) := [("times", tv), ("plus", kv), ("cut_of", .int c), ("join_of", .int j), ("width", .int (widV c j))]
theorem lk_hit {k : Str} {v : V} {l : List (Str × V)} : List.lookup k ((k, v) :: l) = some v := by simp [List.lookup]
theorem lk_miss {k k' : Str} {v : V} {l : List (Str × V)} (h : ¬ k = k') : List.lookup k ((k', v) :: l) = List.lookup k l := by
  have : (k == k') = false := by simpa using h
  simp [List.lookup, this]
theorem put_new {k : Str} {v : V} : ∀ {l : List (Str × V)}, (∀ e ∈ l, ¬ e.1 = k) → putF k v l = l ++ [(k, v)]
  | [], _ => rfl
  | (k', v') :: l, h => by
    show (if k' = k then _ else _) = _
    rw [if_neg (h _ List.mem_cons_self)]
    show (k', v') :: putF k v l = _
    rw [put_new (fun e he => h e (List.mem_cons_of_mem _ he))]
    rfl
theorem pf1 {a : V} : putF "times" a [] = ([("times", a)] : List (Str × V)) := rfl
theorem pf2 {a b : V} : putF "plus" b ([("times", a)] : List (Str × V)) = ([("times", a), ("plus", b)] : List (Str × V)) := put_new (by intro e0 he; simp only [List.mem_cons, List.not_mem_nil, or_false] at he; subst he; dsimp only; decide +kernel)
theorem pf3 {a b c : V} : putF "cut_of" c ([("times", a), ("plus", b)] : List (Str × V)) = ([("times", a), ("plus", b), ("cut_of", c)] : List (Str × V)) := put_new (by intro e0 he; simp only [List.mem_cons, List.not_mem_nil, or_false] at he; rcases he with rfl | rfl <;> (dsimp only; decide +kernel))
theorem pf4 {a b c d : V} : putF "join_of" d ([("times", a), ("plus", b), ("cut_of", c)] : List (Str × V)) = ([("times", a), ("plus", b), ("cut_of", c), ("join_of", d)] : List (Str × V)) := put_new (by intro e0 he; simp only [List.mem_cons, List.not_mem_nil, or_false] at he; rcases he with rfl | rfl | rfl <;> (dsimp only; decide +kernel))
theorem pf5 {a b c d e : V} : putF "width" e ([("times", a), ("plus", b), ("cut_of", c), ("join_of", d)] : List (Str × V)) = ([("times", a), ("plus", b), ("cut_of", c), ("join_of", d), ("width", e)] : List (Str × V)) := put_new (by intro e0 he; simp only [List.mem_cons, List.not_mem_nil, or_false] at he; rcases he with rfl | rfl | rfl | rfl <;> (dsimp only; decide +kernel))
/-- the class of fill rules -/
structure FCls (K : PySem.W.Frag) (C : Addr) : Prop where
  cl : Cls K C
  n1 : NoAttr K C "times"
  n2 : NoAttr K C "plus"
  n3 : NoAttr K C "cut_of"
  n4 : NoAttr K C "join_of"
  n5 : NoAttr K C "width"
def parts4 : List V := [.str "times", .str "plus", .str "cut_of", .str "join_of"]
/-- the tables PARTS and BOUNDS -/
structure TabF (K : PySem.W.Frag) (w : World) (mg : Str → Option Value) (TP D D1 D2 D3 : Addr) : Prop where
  gP : mg "PARTS" = some (.ref TP)
  tP : ∀ H : Hp, SqT K H TP parts4
  gB : mg "BOUNDS" = some (.ref D)
  kd : ∃ es n, KDict K w D es n
  l1 : PySem.W.nsIn K D "plus" = some (some (.ref D1))
  l2 : PySem.W.nsIn K D "cut_of" = some (some (.ref D2))
  l3 : PySem.W.nsIn K D "join_of" = some (some (.ref D3))
  t1 : ∀ H : Hp, SqT K H D1 [.int (-12), .int 12]
  t2 : ∀ H : Hp, SqT K H D2 [.int 1, .int 5]
  t3 : ∀ H : Hp, SqT K H D3 [.int 2, .int 6]
def partS (j : Nat) : Str := if j = 1 then "times" else if j = 2 then "plus" else if j = 3 then "cut_of" else "join_of"
/-- whether a value can be a part -/
def canB (j : Nat) (v : V) (o : Option (List V)) : Bool := if j = 1 then pairB 12 o else if j = 2 then inB (-12) 12 v else if j = 3 then inB 1 5 v else inB 2 6 v
def CanQ (j : Nat) (H : Hp) (v : V) (o : Option (List V)) : Prop := if j = 1 then PairQ H v o else IntQ H v
theorem CanQ.keep {j : Nat} {H H' : Hp} {v : V} {o : Option (List V)} (h : CanQ j H v o) (k : Same H H') : CanQ j H' v o := by
  unfold CanQ at h ⊢
  split
  · rw [if_pos (by assumption)] at h; exact PairQ.keep h k
  · rw [if_neg (by assumption)] at h; exact IntQ.keep h k
def spCan : Sp := fun vs H Q _ => ∃ (j : Nat) (v : V) (o : Option (List V)), vs = [.str (partS j), v] ∧ 1 ≤ j ∧ j ≤ 4 ∧ CanQ j H v o ∧ ∀ H', Same H H' → Q (.bl (canB j v o)) H'
section
variable {P : Program} {w : World} {K : PySem.W.Frag} {mg : Str → Option Value} {base : Heap}
theorem scCanBe : FnScope ["part", "value", "low", "high"] ["part", "value"] (defScope sCanBe) := ⟨rfl, rfl, rfl, by decide +kernel, rfl, by decide +kernel, by decide +kernel⟩
theorem ok_canBe {f TP D Da Db Dc : Addr} {fd : FuncData} (F : Fun K "can_be" "can_be" sCanBe f fd) (B : TabF K w mg TP D Da Db Dc) {t : Tok} (gM : mg "MOST_TIMES" = some (.int 12 t)) (D1 : Df P w K mg base 3 "is_pair" ["value", "most"] spPairA) (D2 : Df P w K mg base 2 "is_within" ["value", "least", "most"] spWithinA) : FnOk P w K mg base CX0 4 f fd ["part", "value"] spCan := by
  obtain ⟨f1, fd1, G1, g1, k1, b1⟩ := D1.ex
  obtain ⟨f2, fd2, G2, g2, k2, b2⟩ := D2.ex
  obtain ⟨es, n, kd⟩ := B.kd
  refine F.ok scCanBe (fun vs H Q E h => ?_) (fun cdv A outer s H vs Q E hr h => ?_)
  · obtain ⟨j, v, o, rfl, _⟩ := h
    rfl
  · obtain ⟨j, v, o, rfl, j1, j4, hv, kk⟩ := h
    refine ⟨_, (pss_cons (ps_if (pt_cmpR op_eq (pv 0) pe_str (nomark _))
        (pss_one (ps_ret (pe_call G1 hr (by rfl) g1 k1 b1 .nil pass0 (pa_cons (pv 1) (pa_cons (pe_glob (v := .int 12) rfl gM ⟨_, rfl⟩) pa_nil))))) pss_nil)
      (pss_cons (ps_asg (pe_ix ix_kdict (pe_glob (v := .ref D) (by rfl) B.gB rfl) (pv 0) (fun _ _ => rfl)) (pg_tup (by rfl) (pgs_cons (pg_name (i := 2) scCanBe.nd rfl (.inl rfl)) (pgs_cons (pg_name (i := 3) scCanBe.nd rfl (.inl rfl)) pgs_nil))))
      (pss_one (ps_ret (pe_call G2 (hr.mono (by decide)) (by rfl) g2 k2 b2 .nil pass0 (pa_cons (pv 1) (pa_cons (pv 2) (pa_cons (pv 3) pa_nil)))))))), ?_⟩
    refine ⟨_, rfl, rfl, _, rfl, ?_⟩
    rcases (show j = 1 ∨ j = 2 ∨ j = 3 ∨ j = 4 by omega) with rfl | rfl | rfl | rfl
    · rw [show decide (V.str (partS 1) = V.str "times") = true from decide_eq_true rfl]
      exact iteT ⟨_, rfl, v, _, _, rfl, hv, fun H' s1 => kk H' s1⟩
    · rw [show decide (V.str (partS 2) = V.str "times") = false from decide_eq_false fun z => absurd (V.str.inj z) (by decide +kernel)]
      refine iteF ⟨_, rfl, D, "plus", .ref Da, rfl, rfl, ⟨es, n, .ref Da, kd.at_, kd.lit, B.l1, rfl⟩, Da, _, rfl, B.t1 _, rfl, _, _, rfl, _, _, rfl, rfl, ?_⟩
      refine ⟨_, rfl, _, rfl, _, rfl, v, _, _, rfl, hv, ?_⟩
      exact kk _ (Same.refl _)
    · rw [show decide (V.str (partS 3) = V.str "times") = false from decide_eq_false fun z => absurd (V.str.inj z) (by decide +kernel)]
      refine iteF ⟨_, rfl, D, "cut_of", .ref Db, rfl, rfl, ⟨es, n, .ref Db, kd.at_, kd.lit, B.l2, rfl⟩, Db, _, rfl, B.t2 _, rfl, _, _, rfl, _, _, rfl, rfl, ?_⟩
      refine ⟨_, rfl, _, rfl, _, rfl, v, _, _, rfl, hv, ?_⟩
      exact kk _ (Same.refl _)
    · rw [show decide (V.str (partS 4) = V.str "times") = false from decide_eq_false fun z => absurd (V.str.inj z) (by decide +kernel)]
      refine iteF ⟨_, rfl, D, "join_of", .ref Dc, rfl, rfl, ⟨es, n, .ref Dc, kd.at_, kd.lit, B.l3, rfl⟩, Dc, _, rfl, B.t3 _, rfl, _, _, rfl, _, _, rfl, rfl, ?_⟩
      refine ⟨_, rfl, _, rfl, _, rfl, v, _, _, rfl, hv, ?_⟩
      exact kk _ (Same.refl _)
end
end Ev
namespace Ev
open PySem L2 PySem.Spec PyProof.Rows RZ
/-- which part of a fill rule is told first -/
def outF (o : Option (List V)) (kv cv jv : V) : Out := if pairB 12 o = false then .rule "times" else if inB (-12) 12 kv = false then .rule "plus" else if inB 1 5 cv = false then .rule "cut_of" else if inB 2 6 jv = false then .rule "join_of" else .ok
def valF (tv kv cv jv : V) (j : Nat) : V := if j = 1 then tv else if j = 2 then kv else if j = 3 then cv else jv
theorem outF_at {o : Option (List V)} {tv kv cv jv : V} {j : Nat} (j1 : 1 ≤ j) (j4 : j ≤ 4) (h : ∀ i, 1 ≤ i → i < j → canB i (valF tv kv cv jv i) o = true) (n : canB j (valF tv kv cv jv j) o = false) : outF o kv cv jv = .rule (partS j) := by
  unfold outF
  rcases (show j = 1 ∨ j = 2 ∨ j = 3 ∨ j = 4 by omega) with rfl | rfl | rfl | rfl
  · have n : pairB 12 o = false := n
    rw [if_pos n]; rfl
  · have h1 : pairB 12 o = true := h 1 (by decide) (by decide)
    have n : inB (-12) 12 kv = false := n
    rw [if_neg (by rw [h1]; simp), if_pos n]; rfl
  · have h1 : pairB 12 o = true := h 1 (by decide) (by decide)
    have h2 : inB (-12) 12 kv = true := h 2 (by decide) (by decide)
    have n : inB 1 5 cv = false := n
    rw [if_neg (by rw [h1]; simp), if_neg (by rw [h2]; simp), if_pos n]; rfl
  · have h1 : pairB 12 o = true := h 1 (by decide) (by decide)
    have h2 : inB (-12) 12 kv = true := h 2 (by decide) (by decide)
    have h3 : inB 1 5 cv = true := h 3 (by decide) (by decide)
    have n : inB 2 6 jv = false := n
    rw [if_neg (by rw [h1]; simp), if_neg (by rw [h2]; simp), if_neg (by rw [h3]; simp), if_pos n]; rfl
theorem outF_ok {o : Option (List V)} {tv kv cv jv : V} (h : ∀ i, 1 ≤ i → i ≤ 4 → canB i (valF tv kv cv jv i) o = true) : outF o kv cv jv = .ok ∧ (∃ c, cv = .int c) ∧ ∃ j, jv = .int j := by
  have h1 : pairB 12 o = true := h 1 (by decide) (by decide)
  have h2 : inB (-12) 12 kv = true := h 2 (by decide) (by decide)
  have h3 : inB 1 5 cv = true := h 3 (by decide) (by decide)
  have h4 : inB 2 6 jv = true := h 4 (by decide) (by decide)
  refine ⟨?_, ?_, ?_⟩
  · unfold outF
    rw [if_neg (by rw [h1]; simp), if_neg (by rw [h2]; simp), if_neg (by rw [h3]; simp), if_neg (by rw [h4]; simp)]
  · cases cv <;> first | exact ⟨_, rfl⟩ | (simp [inB] at h3)
  · cases jv <;> first | exact ⟨_, rfl⟩ | (simp [inB] at h4)
def spFillInit (C B N : Addr) : Sp := fun vs H Q E => ∃ (x dx : Addr) (tv kv cv jv : V) (o : Option (List V)), vs = [.ref x, tv, kv, cv, jv] ∧ H x = some (.ins C dx []) ∧ PairQ H tv o ∧ IntQ H kv ∧ IntQ H cv ∧ IntQ H jv ∧
  OutK B N H E (∀ c j, cv = .int c → jv = .int j → ∀ H', But x H H' → H' x = some (.ins C dx (fillV tv kv c j)) → Q .non H') (outF o kv cv jv)
section
variable {P : Program} {w : World} {K : PySem.W.Frag} {mg : Str → Option Value} {base : Heap}
theorem scFillRule_init : FnScope ["self", "times", "plus", "cut_of", "join_of", "part", "value"] ["self", "times", "plus", "cut_of", "join_of"] (defScope sFillRule_init) := ⟨rfl, rfl, rfl, by decide +kernel, rfl, by decide +kernel, by decide +kernel⟩
theorem ok_fillInit {f C B N TP D Da Db Dc : Addr} {fd : FuncData} {dvs : List V} {kws : List (Str × V)} (F : FunD K "__init__" "FillRule.__init__" (defArgs sFillRule_init) (defBody sFillRule_init) (defScope sFillRule_init) dvs kws f fd) (T : FCls K C) (mz : mg "zip" = none) (BT : TabF K w mg TP D Da Db Dc) (D1 : Df P w K mg base 4 "can_be" ["part", "value"] spCan) (EB : ErrC P w K mg base "BadRule" "part" B) : FnOk P w K mg base (L2.CX P w) 5 f fd ["self", "times", "plus", "cut_of", "join_of"] (spFillInit C B N) := by
  obtain ⟨f1, fd1, G1, g1, k1, b1⟩ := D1.ex
  obtain ⟨TC, gC, fi, fdi, iC, tI, GI, bI⟩ := id EB
  refine F.ok scFillRule_init (fun vs H Q E h => ?_) (fun cdv A outer s H vs Q E hr h => ?_)
  · obtain ⟨x, dx, tv, kv, cv, jv, o, rfl, _⟩ := h
    rfl
  · obtain ⟨x, dx, tv, kv, cv, jv, o, rfl, hx, hp, hk, hc, hj, h⟩ := h
    refine ⟨_, (pss_cons (ps_for (passes_of rfl) rfl (pi_zipA (by rfl) mz (pa_cons (pe_glob (v := .ref TP) rfl BT.gP rfl) (pa_cons (pe_tup (pa_cons (pv 1) (pa_cons (pv 2) (pa_cons (pv 3) (pa_cons (pv 4) pa_nil))))) pa_nil))) (pg_tup (by rfl) (pgs_cons (pg_name (i := 5) scFillRule_init.nd rfl (.inl rfl)) (pgs_cons (pg_name (i := 6) scFillRule_init.nd rfl (.inl rfl)) pgs_nil)))
        (pss_one (ps_if (pt_not (pt_val (pe_call G1 hr (by rfl) g1 k1 b1 .nil pass0 (pa_cons (pv 5) (pa_cons (pv 6) pa_nil)))))
          (pss_one (ps_raise rfl (takes_of rfl rfl rfl rfl) (pmk_oex TC iC tI GI (hr.mono (by decide)) bI .nil pass0 (by rfl) gC (pa_cons (pv 5) pa_nil)))) pss_nil)))
      (pss_cons (ps_fld (pv 0) (pv 1) rfl)
      (pss_cons (ps_fld (pv 0) (pv 2) rfl)
      (pss_cons (ps_fld (pv 0) (pv 3) rfl)
      (pss_cons (ps_fld (pv 0) (pv 4) rfl)
      (pss_one (ps_fld (pv 0) (pe_ifExp (pt_cmpR op_gt (pv 3) (pv 4) (nomark _)) (pv 3) (pv 4)) rfl))))))), ?_⟩
    refine ⟨_, rfl, _, rfl, _, rfl, _, rfl, (by show 4 ≤ sizeLine; decide), fun t nt => ⟨TP, t, parts4, [tv, kv, cv, jv], rfl, .inr ⟨BT.tP _, SqT.of upd_same, ?_⟩⟩⟩
    have s1 : Same H (upd H t (.tup [tv, kv, cv, jv])) := same_new nt
    have ht : upd H t (.tup [tv, kv, cv, jv]) t = some (.tup [tv, kv, cv, jv]) := upd_same
    generalize upd H t (.tup [tv, kv, cv, jv]) = H1 at s1 ht ⊢
    refine for_zipT (xs := parts4) (ys := [tv, kv, cv, jv]) rfl (fun m σ H' => (∃ v5 v6 : Option V, σ = [some (.ref x), some tv, some kv, some cv, some jv, v5, v6]) ∧ Same H1 H' ∧ ∀ i, 1 ≤ i → i ≤ m → canB i (valF tv kv cv jv i) o = true) ⟨⟨_, _, rfl⟩, Same.refl _, fun i a b => absurd (Nat.le_trans a b) (by decide)⟩ (fun i σ H' h => ⟨BT.tP _, SqT.of (h.2.1 _ _ ht)⟩) (fun i xv yv Tp σ H' ex ey h nT => ?_) (fun σ H' h => ?_)
    · obtain ⟨⟨v5, v6, rfl⟩, s2, ok⟩ := h
      have s3 : Same H1 (upd H' Tp (.tup [xv, yv])) := s2.trans (same_new nT)
      have hT : upd H' Tp (.tup [xv, yv]) Tp = some (.tup [xv, yv]) := upd_same
      generalize upd H' Tp (.tup [xv, yv]) = H2 at s3 hT ⊢
      have s03 : Same H H2 := s1.trans s3
      have hil : i < 4 := (List.getElem?_eq_some_iff.mp ex).1
      have hq : xv = .str (partS (i + 1)) ∧ yv = valF tv kv cv jv (i + 1) ∧ CanQ (i + 1) H2 yv o := by
        rcases (show i = 0 ∨ i = 1 ∨ i = 2 ∨ i = 3 by omega) with rfl | rfl | rfl | rfl
        · obtain rfl := Option.some.inj ex; obtain rfl := Option.some.inj ey
          exact ⟨rfl, rfl, hp.keep s03⟩
        · obtain rfl := Option.some.inj ex; obtain rfl := Option.some.inj ey
          exact ⟨rfl, rfl, hk.keep s03⟩
        · obtain rfl := Option.some.inj ex; obtain rfl := Option.some.inj ey
          exact ⟨rfl, rfl, hc.keep s03⟩
        · obtain rfl := Option.some.inj ex; obtain rfl := Option.some.inj ey
          exact ⟨rfl, rfl, hj.keep s03⟩
      obtain ⟨rfl, rfl, hq⟩ := hq
      refine ⟨Tp, _, rfl, SqT.of hT, rfl, _, _, rfl, _, _, rfl, rfl, ?_⟩
      refine ⟨_, rfl, _, rfl, i + 1, _, o, rfl, by omega, by omega, hq, fun H3 s4 => ⟨_, rfl, ?_⟩⟩
      cases z : canB (i + 1) (valF tv kv cv jv (i + 1)) o with
      | false =>
        rw [outF_at (by omega) (by omega) (fun m a b => ok m a (by omega)) z] at h
        exact iteT ⟨_, rfl, (by show 1 ≤ 1000; decide), fun a' na => raised (flat_str _) (h H3 (s03.trans s4)) a' na⟩
      | true =>
        refine iteF ⟨⟨_, _, rfl⟩, s3.trans s4, fun m a b => ?_⟩
        by_cases e : m = i + 1
        · rw [e]; exact z
        · exact ok m a (by omega)
    · obtain ⟨⟨v5, v6, rfl⟩, s2, ok⟩ := h
      obtain ⟨ho, ⟨c, rfl⟩, j, rfl⟩ := outF_ok ok
      rw [ho] at h
      have kk := fun H' => h c j rfl rfl H'
      have s3 := s1.trans s2
      refine ⟨_, rfl, _, rfl, x, C, dx, _, rfl, s3 _ _ hx, T.cl, T.n1, (by show 0 < 1000; decide), ?_⟩
      refine ⟨_, rfl, _, rfl, x, C, dx, _, rfl, upd_same, T.cl, T.n2, (by rw [pf1]; show 1 < 1000; decide), ?_⟩
      refine ⟨_, rfl, _, rfl, x, C, dx, _, rfl, upd_same, T.cl, T.n3, (by rw [pf1, pf2]; show 2 < 1000; decide), ?_⟩
      refine ⟨_, rfl, _, rfl, x, C, dx, _, rfl, upd_same, T.cl, T.n4, (by rw [pf1, pf2, pf3]; show 3 < 1000; decide), ?_⟩
      rw [pf1, pf2, pf3, pf4]
      have t4 : ∀ o1 o2 o3 o4 : HO, But x H (upd (upd (upd (upd H' x o1) x o2) x o3) x o4) := fun o1 o2 o3 o4 => (Same.but s3).trans (But.upd_at.trans (But.upd_at.trans (But.upd_at.trans But.upd_at)))
      refine ⟨_, rfl, _, rfl, _, _, rfl, rfl, _, rfl, ite2 (fun e => ?_) (fun e => ?_)⟩
      · have e := of_decide_eq_true e
        refine ⟨_, rfl, _, rfl, x, C, dx, _, rfl, upd_same, T.cl, T.n5, (by show 4 < 1000; decide), kk _ ((t4 _ _ _ _).trans But.upd_at) ?_⟩
        rw [upd_same, pf5]
        unfold fillV widV
        rw [if_pos e]
      · have e : ¬ (c > j) := fun z => e (decide_eq_true z)
        refine ⟨_, rfl, _, rfl, x, C, dx, _, rfl, upd_same, T.cl, T.n5, (by show 4 < 1000; decide), kk _ ((t4 _ _ _ _).trans But.upd_at) ?_⟩
        rw [upd_same, pf5]
        unfold fillV widV
        rw [if_neg e]
end
end Ev
namespace Ev
open PySem L2 PySem.Spec PyProof.Rows RZ
/-! ### list(d.values()) -/
def tListVals (te : TE) : TE := fun σ H Q => te σ H fun x H1 => ∃ (d : Addr) (kvs : List (Key × V)), x = .ref d ∧ H1 d = some (.dK kvs) ∧ ∀ p, H1 p = none → Q (.ref p) (upd H1 p (.lst (kvs.map (·.2))))
section
variable {X : Cx} {e : Expr} {te : TE} {p apos cpos pos : Pos}
theorem pe_listVals (hc : X.calm = true) (he : PE X e te) (hg : Gl X "list") (hm : X.mg "list" = none) (hv : bootBuiltins "list" = some (.type "list")) (hbase : attributeBase e "values" X.env (eval e X.env) = eval e X.env := by rfl) (hline : (apos.endLine == cpos.line) = true := by rfl)
    (hs : starEach [.Call (.Attribute e "values" apos) [] [] cpos] X.env = (false, eval (.Call (.Attribute e "values" apos) [] [] cpos) X.env) :: starEach [] X.env := by rfl) :
    PE X (.Call (.Name "list" p) [.Call (.Attribute e "values" apos) [] [] cpos] [] pos) (tListVals te) := by
  constructor
  intro pins s σ H Q I hq
  refine wpAny_Call_Name_kw (ld_blt I hg hm hv ?_)
  refine PyProof.Rows.callWith_type1 ?_ hs rfl
  rw [hs]
  show wpAny _ _ (spliced ((false, eval (.Call (.Attribute e "values" apos) [] [] cpos) X.env) :: backTo pos (starEach [] X.env))) _ _ s
  refine Calls.spliced_cons ?_
  refine wpAny_Call_method (T := "dict") (id := "dict.values") hbase rfl hline F.plainAttrs_dict F.slot_dict_values F.type_dict_values (thn (he.run pins s σ H _ I hq) fun u s1 hh => ?_)
  obtain ⟨x, H1, I1, rx, d, kvs, rfl, hd, q⟩ := hh
  obtain rfl : u = Value.ref d := rx
  obtain ⟨hz, hs0, vs, kv, hdo⟩ := I1.hok d _ hd
  obtain ⟨ep, hat⟩ := hdo.dictAt
  have lk : kvs.length = vs.length := Paired.length kv
  refine ⟨hdo.typeIs, hdo.mapOf.noDict, ?_⟩
  show wpAny _ _ (callWith cpos (.builtin "dict.values") [.ref d] [] []) _ X.xe s1
  refine method_meetsIn F.slot_dict_values F.entry_dict_values rfl (PySem.evalArgs_none ⟨rfl, hdo.typeIs, F.args_dict_values_1 _, _, meets_dict_values (mixKind X.prog X.w) d hs0, ⟨vs, hdo⟩, ?_⟩)
  refine Calls.spliced_nil ?_
  have I2 : Inv X pins σ H1 { s1 with heap := s1.heap.push { cls := .type "dict_values", data := .fields #[.ref d] } } := I1.kept (t' := s1.toks) fun b ob q => Heap.get?_push_of_some _ q
  refine PySem.W.kdl_call (PySem.W.kdl_values (knd := mixKind X.prog X.w) (kvs := vs) (ep := ep)) (I1.ok.hd hc) ⟨⟨_, Heap.get?_push_size _ rfl, rfl, rfl⟩, hat.push _⟩ (by omega) fun h' tk acc c' hk hD hacc => ?_
  have e2 : acc.toList = vs.map (·.2) := PySem.W.kdl_vals_eq acc.toList (by rw [Array.length_toList]; exact hacc.1) fun j v e => hacc.2 j v (by rw [← Array.getElem?_toList]; exact e)
  refine ⟨.ref _, upd H1 _ (.lst (kvs.map (·.2))), I2.laid (t' := tk) hk (Nat.le_refl _) (show ObjOk X.prog X.w _ _ _ (.lst (kvs.map (·.2))) from ⟨by rw [List.length_map]; exact hz, acc.toList, c', by rw [e2]; exact vals_snd kv, by rw [Array.toArray_toList]; exact hD⟩), rfl, q _ (I2.hok.fresh (Nat.le_refl _))⟩
end
/-! ### what stands in a value -/
def AllFlat (us : List V) : Prop := ∀ u ∈ us, ∃ T, Flat u T
inductive Hold (H : Hp) : V → List V → Bool → Prop
  | flat {v : V} {T : String} : Flat v T → Hold H v [] false
  | tup {a : Addr} {us : List V} : H a = some (.tup us) → AllFlat us → us.length ≤ 900 → Hold H (.ref a) us false
  | lst {a : Addr} {us : List V} : H a = some (.lst us) → AllFlat us → us.length ≤ 900 → Hold H (.ref a) us true
  | dct {a : Addr} {kvs : List (Key × V)} : H a = some (.dK kvs) → AllFlat (kvs.map (·.2)) → kvs.length ≤ 900 → (kvs.map (·.1)).Nodup → Hold H (.ref a) (kvs.map (·.2)) true
/-- the copy of a value -/
inductive Alike (H : Hp) : V → Hp → V → Prop
  | same {v : V} {H' : Hp} : Alike H v H' v
  | lst {a b : Addr} {us : List V} {H' : Hp} : H a = some (.lst us) → H' b = some (.lst us) → Alike H (.ref a) H' (.ref b)
  | dct {a b : Addr} {kvs : List (Key × V)} {H' : Hp} : H a = some (.dK kvs) → H' b = some (.dK kvs) → Alike H (.ref a) H' (.ref b)
theorem Hold.keep {H H' : Hp} {v : V} {us : List V} {b : Bool} (h : Hold H v us b) (k : Same H H') : Hold H' v us b := by
  cases h with
  | flat f => exact .flat f
  | tup e a l => exact .tup (k _ _ e) a l
  | lst e a l => exact .lst (k _ _ e) a l
  | dct e a l n => exact .dct (k _ _ e) a l n
theorem Hold.len {H : Hp} {v : V} {us : List V} {b : Bool} (h : Hold H v us b) : us.length ≤ 900 := by
  cases h with
  | flat f => exact Nat.zero_le _
  | tup e a l => exact l
  | lst e a l => exact l
  | dct e a l n => rw [List.length_map]; exact l
theorem Hold.items {H : Hp} {v : V} {us : List V} {b : Bool} (h : Hold H v us b) : AllFlat us := by
  cases h with
  | flat f => exact fun u z => by cases z
  | tup e a l => exact a
  | lst e a l => exact a
  | dct e a l n => exact a
theorem Hold.ty {H : Hp} {v : V} {us : List V} {b : Bool} (h : Hold H v us b) : ∃ T : String, (∀ (K : PySem.W.Frag) (H' : Hp), Same H H' → TyX K H' v (.type T)) ∧ ∃ b1 b2 b3, kitB T "list" = some b1 ∧ kitB T "tuple" = some b2 ∧ kitB T "dict" = some b3 ∧ b = (b1 || b3) := by
  cases h with
  | @flat v T f => exact ⟨T, fun K H' _ => f.ty K H', false, false, false, f.l, f.t, f.d, rfl⟩
  | tup e a l => exact ⟨"tuple", fun K H' k => .base (.tup (k _ _ e)), false, true, false, by decide +kernel, by decide +kernel, by decide +kernel, rfl⟩
  | lst e a l => exact ⟨"list", fun K H' k => .base (.lst (k _ _ e)), true, false, false, by decide +kernel, by decide +kernel, by decide +kernel, rfl⟩
  | dct e a l n => exact ⟨"dict", fun K H' k => .base (.dK (k _ _ e)), false, false, true, by decide +kernel, by decide +kernel, by decide +kernel, rfl⟩
theorem kit_any2 {K : PySem.W.Frag} {T a b : String} {r1 r2 : Bool} (h1 : kitB T a = some r1) (h2 : kitB T b = some r2) : PySem.W.kitAny K (.type T) [.type a, .type b] = some (r1 || r2) := by
  refine kitAny_cons (kit_ty h1) (fun e => ?_) (fun e => by rw [e]; rfl)
  refine kitAny_cons (kit_ty h2) (fun e2 => ?_) (fun e2 => by rw [e, e2]; rfl)
  rw [e, e2]
  exact kitAny_nil
def spPartsV : Sp := fun vs H Q _ => ∃ (v : V) (us : List V) (b : Bool), vs = [v] ∧ Hold H v us b ∧ ∀ (p : Addr) (H' : Hp), H p = none → Same H H' → H' p = some (.lst us) → Q (.ref p) H'
def spRebuilt : Sp := fun vs H Q _ => ∃ (v : V) (us : List V) (p : Addr), vs = [v, .ref p] ∧ Hold H v us true ∧ H p = some (.lst us) ∧ ∀ (v' : V) (H' : Hp), Same H H' → Alike H v H' v' → Q v' H'
def spKeptV : Sp := fun vs H Q _ => ∃ (v : V) (us : List V) (b : Bool), vs = [v] ∧ Hold H v us b ∧ ∀ (v' : V) (H' : Hp), Same H H' → Alike H v H' v' → Q v' H'
section
variable {P : Program} {w : World} {K : PySem.W.Frag} {mg : Str → Option Value} {base : Heap}
theorem ok_partsV {f : Addr} {fd : FuncData} (F : Fun K "parts_of" "parts_of" sParts f fd) (T : Blt mg) (md : mg "dict" = none) : FnOk P w K mg base CX0 1 f fd ["value"] spPartsV := by
  refine F.ok scParts (fun vs H Q E h => ?_) (fun cdv A outer s H vs Q E hr h => ?_)
  · obtain ⟨v, us, b, rfl, _⟩ := h
    rfl
  · obtain ⟨v, us, b, rfl, hh, kk⟩ := h
    refine ⟨_, pss_cons (ps_if (pt_val (pe_callB call_isiT (by rfl) T.isi (by decide +kernel) (pa_cons (pv 0) (pa_cons (pe_tup (pa_cons (pe_bltn (v := .ty "list") (by rfl) T.list (by decide +kernel) rfl) (pa_cons (pe_bltn (v := .ty "tuple") (by rfl) T.tuple (by decide +kernel) rfl) pa_nil))) pa_nil))))
        (pss_one (ps_ret (pe_callTy call_list_of (by rfl) T.list (by decide +kernel) (pa_cons (pv 0) pa_nil)))) pss_nil)
      (pss_one (ps_ret (pe_ifExp (pt_val (pe_callB call_isi (by rfl) T.isi (by decide +kernel) (pa_cons (pv 0) (pa_cons (pe_bltn (v := .ty "dict") (by rfl) md (by decide +kernel) rfl) pa_nil)))) (pe_listVals rfl (pv 0) (by rfl) T.list (by decide +kernel)) (pe_lst pa_nil)))), ?_⟩
    have fin : ∀ (tp p : Addr) (ntp : H tp = none) (np : upd H tp (.tup [.ty "list", .ty "tuple"]) p = none), Q (.ref p) (upd (upd H tp (.tup [.ty "list", .ty "tuple"])) p (.lst us)) := fun tp p ntp np =>
      kk p _ (Same.gone (same_new ntp) np) ((same_new ntp).trans (same_new np)) upd_same
    cases hh with
    | @flat v TT f =>
      refine ⟨_, rfl, (by show 2 ≤ sizeLine; decide), fun tp ntp => ⟨_, tp, _, _, _, false, rfl, upd_same, .cons (.ty _) (.cons (.ty _) .nil), f.ty _ _, kit_any2 f.l f.t, _, rfl, iteF ?_⟩⟩
      exact ⟨_, rfl, _, _, _, _, false, rfl, .ty _, f.ty _ _, kit_ty f.d, _, rfl, iteF ⟨(by show 0 ≤ sizeLine; decide), fun p np => fin tp p ntp np⟩⟩
    | tup e a l =>
      refine ⟨_, rfl, (by show 2 ≤ sizeLine; decide), fun tp ntp => ⟨_, tp, _, _, _, true, rfl, upd_same, .cons (.ty _) (.cons (.ty _) .nil), .base (.tup (same_new ntp _ _ e)), kit_any2 (r1 := false) (r2 := true) (by decide +kernel) (by decide +kernel), _, rfl, iteT ?_⟩⟩
      exact ⟨_, rfl, _, _, rfl, .inr (SqT.of (same_new ntp _ _ e)), fun p np => fin tp p ntp np⟩
    | lst e a l =>
      refine ⟨_, rfl, (by show 2 ≤ sizeLine; decide), fun tp ntp => ⟨_, tp, _, _, _, true, rfl, upd_same, .cons (.ty _) (.cons (.ty _) .nil), .base (.lst (same_new ntp _ _ e)), kit_any2 (r1 := true) (r2 := false) (by decide +kernel) (by decide +kernel), _, rfl, iteT ?_⟩⟩
      exact ⟨_, rfl, _, _, rfl, .inl (SqL.of (same_new ntp _ _ e)), fun p np => fin tp p ntp np⟩
    | dct e a l n =>
      refine ⟨_, rfl, (by show 2 ≤ sizeLine; decide), fun tp ntp => ⟨_, tp, _, _, _, false, rfl, upd_same, .cons (.ty _) (.cons (.ty _) .nil), .base (.dK (same_new ntp _ _ e)), kit_any2 (r1 := false) (r2 := false) (by decide +kernel) (by decide +kernel), _, rfl, iteF ?_⟩⟩
      exact ⟨_, rfl, _, _, _, _, true, rfl, .ty _, .base (.dK (same_new ntp _ _ e)), kit_ty (by decide +kernel), _, rfl, iteT ⟨_, rfl, _, _, rfl, same_new ntp _ _ e, fun p np => fin tp p ntp np⟩⟩
theorem putK_take {kvs : List (Key × V)} (n : (kvs.map (·.1)).Nodup) {i : Nat} {k : Key} {z : V} (e : kvs[i]? = some (k, z)) : putK (kvs.take i) k z = kvs.take (i + 1) := by
  have hi : i < kvs.length := (List.getElem?_eq_some_iff.mp e).1
  have ei : kvs[i] = (k, z) := (List.getElem?_eq_some_iff.mp e).2
  have new : ((kvs.take i).any fun kv => decide (kv.1 = k)) = false := by
    rw [List.any_eq_false]
    intro p hp hq
    obtain ⟨j, hj, ej⟩ := List.mem_take_iff_getElem.mp hp
    have hq : p.1 = k := of_decide_eq_true hq
    have h1 : (kvs.map (·.1))[j]'(by rw [List.length_map]; omega) = k := by rw [List.getElem_map, ej, hq]
    have h2 : (kvs.map (·.1))[i]'(by rw [List.length_map]; omega) = k := by rw [List.getElem_map, ei]
    have h3 := (List.getElem_inj n).mp (h1.trans h2.symm)
    omega
  unfold putK
  rw [new, if_neg (by decide), List.take_add_one, e]
  rfl
theorem scRebuilt : FnScope ["value", "parts", "key", "part"] ["value", "parts"] (defScope sRebuilt) := ⟨rfl, rfl, rfl, by decide +kernel, rfl, by decide +kernel, by decide +kernel⟩
theorem ok_rebuilt {f : Addr} {fd : FuncData} (F : Fun K "rebuilt" "rebuilt" sRebuilt f fd) (T : Blt mg) (md : mg "dict" = none) (mz : mg "zip" = none) : FnOk P w K mg base CX0 1 f fd ["value", "parts"] spRebuilt := by
  refine F.ok scRebuilt (fun vs H Q E h => ?_) (fun cdv A outer s H vs Q E hr h => ?_)
  · obtain ⟨v, us, p, rfl, _⟩ := h
    rfl
  · obtain ⟨v, us, p, rfl, hh, hp, kk⟩ := h
    refine ⟨_, pss_cons (ps_if (pt_val (pe_callB call_isi (by rfl) T.isi (by decide +kernel) (pa_cons (pv 0) (pa_cons (pe_bltn (v := .ty "dict") (by rfl) md (by decide +kernel) rfl) pa_nil))))
        (pss_one (ps_ret (pe_dc (g := gTup K 2 (gCons (gName 2) (gCons (gName 3) gNil))) (tt := tYes) (tk := tVar 2) (tv := tVar 3) (own := [("key", 2), ("part", 3)]) rfl scRebuilt.nd (pi_zip (by rfl) mz (pa_cons (pe_callTy (call_list_dK rfl) (by rfl) T.list (by decide +kernel) (pa_cons (pv 0) pa_nil)) (pa_cons (pv 1) pa_nil)))
          (blkOk_by (own := [("key", 2), ("part", 3)]) (N := ["value", "parts", "key", "part"]) (sc := defScope sRebuilt) (by decide +kernel))
          (fun _ _ _ _ _ => pg_tup (by rfl) (pgs_cons (pg_name (i := 2) scRebuilt.nd rfl (.inl rfl)) (pgs_cons (pg_name (i := 3) scRebuilt.nd rfl (.inl rfl)) pgs_nil))) (fun _ _ _ _ _ => pts_nil) (fun _ _ _ _ _ => pv 2) (fun _ _ _ _ _ => pv 3)))) pss_nil)
      (pss_one (ps_ret (pe_ifExp (pt_val (pe_callB call_isi (by rfl) T.isi (by decide +kernel) (pa_cons (pv 0) (pa_cons (pe_bltn (v := .ty "tuple") (by rfl) T.tuple (by decide +kernel) rfl) pa_nil)))) pe_never (pv 1)))), ?_⟩
    generalize eb : true = bb at hh
    cases hh with
    | flat f => cases eb
    | tup e a l => cases eb
    | lst e a l =>
      refine ⟨_, rfl, _, _, _, _, false, rfl, .ty _, .base (.lst e), kit_ty (by decide +kernel), _, rfl, iteF ?_⟩
      refine ⟨_, rfl, _, _, _, _, false, rfl, .ty _, .base (.lst e), kit_ty (by decide +kernel), _, rfl, iteF ⟨_, rfl, ?_⟩⟩
      exact kk _ H (Same.refl H) (.lst e hp)
    | @dct a kvs e al l n =>
      refine ⟨_, rfl, _, _, _, _, true, rfl, .ty _, .base (.dK e), kit_ty (by decide +kernel), _, rfl, iteT ?_⟩
      refine ⟨_, rfl, a, kvs, rfl, e, fun q nq => ⟨_, rfl, q, p, _, _, rfl, SqL.of upd_same, SqL.of (same_new nq _ _ hp), fun D nD => ?_⟩⟩
      have hq1 := same_new (o := .dK []) nD _ _ (upd_same (H := H) (a := q) (o := .lst (kvs.map fun kv => kV kv.1)))
      have hp1 := same_new (o := .dK []) nD _ _ (same_new (o := .lst (kvs.map fun kv => kV kv.1)) nq _ _ hp)
      have hD1 : upd (upd H q (.lst (kvs.map fun kv => kV kv.1))) D (.dK []) D = some (.dK []) := upd_same
      have nDp : D ≠ p := fun z => by rw [z, same_new nq _ _ hp] at nD; cases nD
      have nDq : D ≠ q := fun z => by rw [z, upd_same] at nD; cases nD
      have s1 : Same H (upd (upd H q (.lst (kvs.map fun kv => kV kv.1))) D (.dK [])) := (same_new nq).trans (same_new nD)
      have nDH : H D = none := Same.gone (same_new nq) nD
      generalize upd (upd H q (.lst (kvs.map fun kv => kV kv.1))) D (.dK []) = H1 at hq1 hp1 hD1 s1
      refine ⟨fun i m G => m = kvs.length - i ∧ i ≤ kvs.length ∧ But D H1 G ∧ G D = some (.dK (kvs.take i)), ⟨_, rfl, Nat.zero_le _, But.refl _ _, hD1⟩, ?_⟩
      rintro i m G ⟨rfl, hi, bt, gD⟩
      have gq := bt _ _ nDq.symm hq1
      have gp := bt _ _ nDp.symm hp1
      by_cases hlt : i < kvs.length
      · right
        have ek : (kvs.map fun kv => kV kv.1)[i]? = some (kV kvs[i].1) := by rw [List.getElem?_map, List.getElem?_eq_getElem hlt]; rfl
        have ev : (kvs.map (·.2))[i]? = some kvs[i].2 := by rw [List.getElem?_map, List.getElem?_eq_getElem hlt]; rfl
        refine ⟨⟨_, _, _, _, SqL.of gq, SqL.of gp, ek, ev⟩, fun G' => But D H1 G' ∧ G' D = some (.dK (kvs.take (i + 1))), fun G' ⟨b2, d2⟩ => ⟨_, by omega, rfl, hlt, b2, d2⟩, fun x G' y => ?_⟩
        obtain ⟨tp, x1, x2, rfl, nt, rfl, h1, h2⟩ := y
        have e1 := h1 _ (SqL.of gq)
        have e2 := h2 _ (SqL.of gp)
        rw [ek] at e1
        rw [ev] at e2
        obtain rfl := Option.some.inj e1
        obtain rfl := Option.some.inj e2
        have gD2 := same_new (o := .tup [kV kvs[i].1, kvs[i].2]) nt _ _ gD
        refine ⟨_, _, rfl, SqT.of upd_same, rfl, _, _, rfl, _, _, rfl, rfl, rfl, ?_⟩
        refine ⟨_, rfl, _, rfl, _, kvs[i].1, rfl, gD2, ?_, ?_, ?_⟩
        · rw [List.length_take]
          exact Nat.lt_of_le_of_lt (show _ ≤ 900 by omega) (by rw [sizeLine_eq]; decide)
        · exact bt.trans ((Same.but (same_new nt)).trans But.upd_at)
        · rw [upd_same, show putK (kvs.take i) kvs[i].1 kvs[i].2 = kvs.take (i + 1) from putK_take n (by rw [List.getElem?_eq_getElem hlt])]
      · left
        have ei : i = kvs.length := by omega
        refine ⟨⟨_, _, SqL.of gq, SqL.of gp, .inl (by rw [List.length_map]; omega)⟩, ?_⟩
        rw [ei, List.take_length] at gD
        exact kk _ G (fun b o z => bt _ _ (ne_of_none z nDH) (s1 _ _ z)) (.dct e gD)
end
end Ev
namespace Ev
open PySem L2 PySem.Spec PyProof.Rows RZ
theorem Alike.from {H H1 H' : Hp} {v v' : V} (k : Same H H1) (us : List V) (h : Hold H v us true) (a : Alike H1 v H' v') : Alike H v H' v' := by
  cases a with
  | same => exact .same
  | lst e1 e2 =>
    generalize eb : true = bb at h
    cases h with
    | flat f => cases eb
    | tup e a l => cases eb
    | lst e a l => rw [k _ _ e] at e1; cases e1; exact .lst e e2
    | dct e a l n => rw [k _ _ e] at e1; cases e1
  | dct e1 e2 =>
    generalize eb : true = bb at h
    cases h with
    | flat f => cases eb
    | tup e a l => cases eb
    | lst e a l => rw [k _ _ e] at e1; cases e1
    | dct e a l n => rw [k _ _ e] at e1; cases e1; exact .dct e e2
theorem flat_hold {H : Hp} {us : List V} (h : AllFlat us) {j : Nat} {u : V} (e : us[j]? = some u) : Hold H u [] false := by
  obtain ⟨T, f⟩ := h u (List.mem_of_getElem? e)
  exact .flat f
/-- the marks of the things -/
def marks (b : Bool) (n : Nat) : List Bool := b :: List.replicate n false
theorem marks_at {b : Bool} {n j : Nat} (h : j < n) : (marks b n)[j + 1]? = some false := by
  show (List.replicate n false)[j]? = some false
  rw [List.getElem?_replicate, if_pos h]
theorem ends_at {m n j : Nat} (h : j < m) : (List.replicate m (V.int (1 + (n : Int))))[j]? = some (V.int (1 + (n : Int))) := by
  rw [List.getElem?_replicate, if_pos h]
theorem cut_tail {x : V} {ys : List V} : cutV (x :: ys) (some 1) (some (1 + (ys.length : Int))) = ys := by
  unfold cutV
  have h1 : HT.sIx (x :: ys).length 0 (some 1) = 1 := by
    have := HT.sIx_nat (x :: ys).length 0 1
    rw [List.length_cons] at this ⊢
    rw [show ((1 : Nat) : Int) = 1 from rfl] at this
    rw [this]; omega
  have h2 : HT.sIx (x :: ys).length (x :: ys).length (some (1 + (ys.length : Int))) = ys.length + 1 := by
    have := HT.sIx_nat (x :: ys).length (x :: ys).length (ys.length + 1)
    rw [show ((ys.length + 1 : Nat) : Int) = 1 + (ys.length : Int) by omega] at this
    rw [this, List.length_cons]; omega
  rw [h1, h2, show (x :: ys).drop 1 = ys from rfl, show ys.length + 1 - 1 = ys.length by omega, List.take_length]
theorem cut_none {xs : List V} {h : Option Int} : cutV xs h h = [] ∨ h = none := by
  cases h with
  | none => exact .inr rfl
  | some k =>
    left
    unfold cutV
    have e : HT.sIx xs.length xs.length (some k) = HT.sIx xs.length 0 (some k) := rfl
    rw [e, Nat.sub_self, List.take_zero]
theorem cut_void {xs : List V} {k : Int} : cutV xs (some k) (some k) = [] := by
  rcases cut_none (xs := xs) (h := some k) with e | e
  · exact e
  · cases e
theorem ix_first {x : V} {ys : List V} : ixN (x :: ys).length 0 = some 0 := by
  unfold ixN
  rw [List.length_cons]
  simp
theorem any_none (n : Nat) : (List.replicate n false).any id = false := by
  rw [List.any_eq_false]
  intro x hx
  rw [List.eq_of_mem_replicate hx]
  decide
theorem Alike.put {H G : Hp} {v v' : V} {m : Addr} {xs : List V} {us : List V} (h : Alike H v G v') (hv : Hold H v us true) (hm : G m = some (.lst xs)) (nl : xs.length = us.length + 1) {o : HO} : Alike H v (upd G m o) v' := by
  cases h with
  | same => exact .same
  | lst e1 e2 =>
    refine .lst e1 ?_
    rw [upd_ne]
    · exact e2
    · intro z
      rw [z, hm] at e2
      cases e2
      generalize eb : true = bb at hv
      cases hv with
      | flat f => cases eb
      | tup e a l => cases eb
      | lst e a l => rw [e] at e1; cases e1; omega
      | dct e a l n => rw [e] at e1; cases e1
  | dct e1 e2 =>
    refine .dct e1 ?_
    rw [upd_ne]
    · exact e2
    · intro z
      rw [z, hm] at e2
      cases e2
abbrev sFlat : Stmt := sIsFlat
abbrev sCopied : Stmt := sCopiedDeep
theorem scCopied : FnScope ["value", "things", "ends", "at", "made", "loose", "place", "first", "end", "thing"] ["value"] (defScope sCopied) := ⟨rfl, rfl, rfl, by decide +kernel, rfl, by decide +kernel, by decide +kernel⟩
theorem scFlat : FnScope ["value", "part"] ["value"] (defScope sFlat) := ⟨rfl, rfl, rfl, by decide +kernel, rfl, by decide +kernel, by decide +kernel⟩
theorem kit_any3 {K : PySem.W.Frag} {T a b c : String} {r1 r2 r3 : Bool} (h1 : kitB T a = some r1) (h2 : kitB T b = some r2) (h3 : kitB T c = some r3) : PySem.W.kitAny K (.type T) [.type a, .type b, .type c] = some (r1 || (r2 || r3)) := by
  refine kitAny_cons (kit_ty h1) (fun e => ?_) (fun e => by rw [e]; rfl)
  rw [e]
  exact (kit_any2 h2 h3).trans rfl
def spFlat : Sp := fun vs H Q _ => ∃ (a : Addr) (us : List V), vs = [.ref a] ∧ H a = some (.tup us) ∧ AllFlat us ∧ us.length ≤ 900 ∧ ∀ H', Same H H' → Q (.bl true) H'
section
variable {P : Program} {w : World} {K : PySem.W.Frag} {mg : Str → Option Value} {base : Heap}
theorem ok_copied {f : Addr} {fd : FuncData} (F : Fun K "copied_deep" "copied_deep" sCopied f fd) (T : Blt mg) (md : mg "dict" = none) (ma : mg "any" = none) (D : Df P w K mg base 1 "parts_of" ["value"] spPartsV) (D2 : Df P w K mg base 1 "rebuilt" ["value", "parts"] spRebuilt) : FnOk P w K mg base CX0 2 f fd ["value"] spKeptV := by
  obtain ⟨f1, fd1, G1, g1, k1, b1⟩ := D.ex
  obtain ⟨f2, fd2, G2, g2, k2, b2⟩ := D2.ex
  refine F.ok scCopied (fun vs H Q E h => ?_) (fun cdv A outer s H vs Q E hr h => ?_)
  · obtain ⟨v, us, b, rfl, _⟩ := h
    rfl
  · obtain ⟨v, us, b, rfl, hh, kk⟩ := h
    refine ⟨_, pss_cons (ps_set (i := 1) scCopied.nd rfl (.inl rfl) (pe_lst (pa_cons (pv 0) pa_nil)))
      (pss_cons (ps_set (i := 2) scCopied.nd rfl (.inl rfl) (pe_lst pa_nil))
      (pss_cons (ps_set (i := 3) scCopied.nd rfl (.inl rfl) pe_int)
      (pss_cons (ps_while PassesOwn.never (pt_cmpR op_lt (pv 3) (pe_callB call_len_seq (by rfl) T.len PySem.boot_len (pa_cons (pv 1) pa_nil)) (nomark _))
        (pss_cons (ps_expr (pe_bm PySem.F.plainAttrs_list PySem.F.slot_list_extend PySem.F.type_list_extend mt_extend (pv 1) (pa_cons (pe_callTy call_list_of (by rfl) T.list (by decide +kernel) (pa_cons (pe_call G1 hr (by rfl) g1 k1 b1 .nil pass0 (pa_cons (pe_ix ix_list (pv 1) (pv 3) (fun _ _ => rfl)) pa_nil)) pa_nil)) pa_nil)))
        (pss_cons (ps_expr (pe_bm PySem.F.plainAttrs_list PySem.F.slot_list_append PySem.F.type_list_append mt_append (pv 2) (pa_cons (pe_callB call_len_seq (by rfl) T.len PySem.boot_len (pa_cons (pv 1) pa_nil)) pa_nil)))
        (pss_one (ps_aug (i := 3) scCopied.nd rfl (.inl rfl) pe_int ip_add)))))
      (pss_cons (ps_set (i := 4) scCopied.nd rfl (.inl rfl) (pe_callTy call_list_of (by rfl) T.list (by decide +kernel) (pa_cons (pv 1) pa_nil)))
      (pss_cons (ps_setLc (i := 5) (te := tCB (rIsiT K) (tCons (tVar 9) (tCons (tTup (tCons (tC (.ty "list")) (tCons (tC (.ty "dict")) tNil))) tNil))) (own := [("thing", 9)]) (g := gName 9) (by rfl) scCopied.nd rfl rfl (sw_true rfl rfl rfl (by decide +kernel)) (pi_list (pv 1))
          (blkOk_by (own := [("thing", 9)]) (N := ["value", "things", "ends", "at", "made", "loose", "place", "first", "end", "thing"]) (sc := defScope sCopied) (by decide +kernel))
          (fun _ _ _ _ _ => pg_name (i := 9) scCopied.nd rfl (.inl rfl)) (fun _ _ _ _ _ => pts_nil)
          (fun _ _ _ _ _ => pe_callB (id := "isinstance") call_isiT (by rfl) T.isi (by decide +kernel) (pa_cons (pv 9) (pa_cons (pe_tup (pa_cons (pe_bltn (v := .ty "list") (by rfl) T.list (by decide +kernel) rfl) (pa_cons (pe_bltn (v := .ty "dict") (by rfl) md (by decide +kernel) rfl) pa_nil))) pa_nil))))
      (pss_cons (ps_for PassesOwn.never rfl (pi_range3 rfl T.range (pa_cons (pe_op op_sub (pe_callB call_len_seq (by rfl) T.len PySem.boot_len (pa_cons (pv 1) pa_nil)) pe_int) (pa_cons (pe_un un_neg pe_int) (pa_cons (pe_un un_neg pe_int) pa_nil)))) (pg_name (i := 6) scCopied.nd rfl (.inl rfl))
        (pss_cons (ps_par (i := 7) (j := 8) rfl scCopied.nd rfl rfl (by decide) rfl rfl (pa_cons (pe_ifExp (pt_cmpR op_gt (pv 6) pe_int (nomark _)) (pe_ix ix_list (pv 2) (pe_op op_sub (pv 6) pe_int) (fun _ _ => rfl)) pe_int) (pa_cons (pe_ix ix_list (pv 2) (pv 6) (fun _ _ => rfl)) pa_nil)) (by rfl))
        (pss_cons (ps_if (pt_val (pe_callB (cr_any rfl) (by rfl) ma (by decide +kernel) (pa_cons (pe_slice sl_list (pv 5) (po_some (pv 7)) (po_some (pv 8))) pa_nil))) (pss_one ps_never) pss_nil)
        (pss_one (ps_if (pt_val (pe_ix ix_list (pv 5) (pv 6) (fun _ _ => rfl)))
          (pss_one (ps_asg (pe_call G2 hr (by rfl) g2 k2 b2 .nil pass0 (pa_cons (pe_ix ix_list (pv 1) (pv 6) (fun _ _ => rfl)) (pa_cons (pe_slice sl_list (pv 4) (po_some (pv 7)) (po_some (pv 8))) pa_nil))) (pg_sub (pv 4) (pv 6) set_list))) pss_nil)))))
      (pss_one (ps_ret (pe_ix ix_list (pv 4) pe_int (fun _ _ => rfl)))))))))), ?_⟩
    have hlen := hh.len
    have hit := hh.items
    have z1000 : ∀ {n : Nat}, n ≤ 902 → n ≤ sizeLine := fun h => Nat.le_trans h (by rw [sizeLine_eq]; decide)
    refine ⟨_, rfl, (by show 1 ≤ sizeLine; decide), fun t nt => ⟨(by show 0 ≤ sizeLine; decide), fun e ne => ?_⟩⟩
    have te : e ≠ t := fun z => by rw [z, upd_same] at ne; cases ne
    have s2 : Same H (upd (upd H t (.lst [v])) e (.lst [])) := (same_new nt).trans (same_new ne)
    have ht2 : upd (upd H t (.lst [v])) e (.lst []) t = some (.lst [v]) := same_new ne _ _ upd_same
    have he2 : upd (upd H t (.lst [v])) e (.lst []) e = some (.lst []) := upd_same
    have nte : H e = none := Same.gone (same_new nt) ne
    generalize upd (upd H t (.lst [v])) e (.lst []) = H2 at s2 ht2 he2 ⊢
    -- the walk over the things
    refine ⟨fun m σ H' => (m = us.length + 1 ∧ σ = [some v, some (.ref t), some (.ref e), some (.int 0), none, none, none, none, none, none] ∧ H' = H2) ∨
      (∃ k, k ≤ us.length ∧ m = us.length - k ∧ σ = [some v, some (.ref t), some (.ref e), some (.int (1 + (k : Int))), none, none, none, none, none, none] ∧ H' t = some (.lst (v :: us)) ∧ H' e = some (.lst (List.replicate (1 + k) (V.int (1 + (us.length : Int))))) ∧ Same H H'), ⟨_, .inl ⟨rfl, rfl, rfl⟩⟩, fun m σ H' h => ?_⟩
    rcases h with ⟨rfl, rfl, rfl⟩ | ⟨k, hk, rfl, rfl, ht, he, sm⟩
    · refine ⟨_, rfl, _, rfl, t, _, rfl, .inl (SqL.of ht2), _, _, rfl, rfl, _, rfl, ite2 (fun _ => ?_) (fun z => absurd (decide_eq_true (show (0 : Int) < ((1 : Nat) : Int) by decide)) z)⟩
      refine ⟨fun σ H' => σ = [some v, some (.ref t), some (.ref e), some (.int (1 + ((0 : Nat) : Int))), none, none, none, none, none, none] ∧ H' t = some (.lst (v :: us)) ∧ H' e = some (.lst (List.replicate (1 + 0) (V.int (1 + (us.length : Int))))) ∧ Same H H', fun σ' H' q => ⟨us.length, by omega, .inr ⟨0, Nat.zero_le _, rfl, q⟩⟩, ?_⟩
      refine ⟨_, rfl, .inl ⟨rfl, _, SqL.of ht2⟩, _, rfl, _, rfl, t, _, 0, v, rfl, rfl, SqL.of ht2, atI_nat (j := 0) rfl, v, us, b, rfl, hh.keep s2, fun p0 H30 np0 s30 hp0 => ⟨p0, _, rfl, .inl (SqL.of hp0), fun p np => ?_⟩⟩
      have s3 : Same H' (upd H30 p (.lst us)) := s30.trans (same_new np)
      have hp : upd H30 p (.lst us) p = some (.lst us) := upd_same
      generalize upd H30 p (.lst us) = H3 at s3 hp ⊢
      refine ⟨t, p, _, _, rfl, rfl, s3 _ _ ht2, hp, z1000 (by show 1 + us.length ≤ 902; omega), ?_⟩
      have he3 : upd H3 t (.lst ([v] ++ us)) e = some (.lst []) := by rw [upd_ne te]; exact s3 _ _ he2
      refine ⟨_, rfl, .inl ⟨rfl, _, SqL.of he3⟩, _, rfl, t, [v] ++ us, rfl, .inl (SqL.of upd_same), e, _, _, rfl, rfl, he3, (by show 0 < sizeLine; decide), ?_⟩
      refine ⟨_, rfl, _, _, rfl, rfl, rfl, ?_, ?_, fun b o q => ?_⟩
      · rw [upd_ne te.symm]; exact upd_same
      · have e1 : ((([v] ++ us).length : Nat) : Int) = 1 + (us.length : Int) := by rw [List.length_append, List.length_singleton]; omega
        rw [upd_same, e1]; rfl
      · rw [upd_ne (ne_of_none q nte), upd_ne (ne_of_none q nt)]
        exact s3 _ _ (s2 _ _ q)
    · by_cases hlt : k < us.length
      · have hge : (v :: us)[1 + k]? = some us[k] := by rw [Nat.add_comm]; exact List.getElem?_eq_getElem hlt
        have hix : atI (v :: us) (1 + (k : Int)) = some us[k] := by
          have := atI_nat (xs := v :: us) (j := 1 + k) hge
          rw [show ((1 + k : Nat) : Int) = 1 + (k : Int) by omega] at this
          exact this
        refine ⟨_, rfl, _, rfl, t, _, rfl, .inl (SqL.of ht), _, _, rfl, rfl, _, rfl, ite2 (fun _ => ?_) (fun z => absurd (decide_eq_true (show (1 + (k : Int)) < (((v :: us).length : Nat) : Int) by rw [List.length_cons]; omega)) z)⟩
        refine ⟨fun σ H' => σ = [some v, some (.ref t), some (.ref e), some (.int (1 + ((k + 1 : Nat) : Int))), none, none, none, none, none, none] ∧ H' t = some (.lst (v :: us)) ∧ H' e = some (.lst (List.replicate (1 + (k + 1)) (V.int (1 + (us.length : Int))))) ∧ Same H H', fun σ' H' q => ⟨us.length - (k + 1), by omega, .inr ⟨k + 1, hlt, rfl, q⟩⟩, ?_⟩
        refine ⟨_, rfl, .inl ⟨rfl, _, SqL.of ht⟩, _, rfl, _, rfl, t, _, _, us[k], rfl, rfl, SqL.of ht, hix, us[k], [], false, rfl, flat_hold hit (List.getElem?_eq_getElem hlt), fun p0 H30 np0 s30 hp0 => ⟨p0, _, rfl, .inl (SqL.of hp0), fun p np => ?_⟩⟩
        have s3 : Same H' (upd H30 p (.lst [])) := s30.trans (same_new np)
        have hp : upd H30 p (.lst []) p = some (.lst []) := upd_same
        generalize upd H30 p (.lst []) = H3 at s3 hp ⊢
        refine ⟨t, p, _, _, rfl, rfl, s3 _ _ ht, hp, z1000 (by show (v :: us).length + 0 ≤ 902; rw [List.length_cons]; omega), ?_⟩
        have he3 : upd H3 t (.lst ((v :: us) ++ [])) e = some (.lst (List.replicate (1 + k) (V.int (1 + (us.length : Int))))) := by rw [upd_ne te]; exact s3 _ _ he
        refine ⟨_, rfl, .inl ⟨rfl, _, SqL.of he3⟩, _, rfl, t, (v :: us) ++ [], rfl, .inl (SqL.of upd_same), e, _, _, rfl, rfl, he3, Nat.lt_of_lt_of_le (show (List.replicate (1 + k) (V.int (1 + (us.length : Int)))).length < 902 by rw [List.length_replicate]; omega) (z1000 (Nat.le_refl _)), ?_⟩
        refine ⟨_, rfl, _, _, rfl, rfl, ?_, ?_, ?_, fun b o q => ?_⟩
        · have e5 : (1 + (k : Int)) + 1 = 1 + ((k + 1 : Nat) : Int) := by omega
          show List.set _ 3 (some (V.int ((1 + (k : Int)) + 1))) = _
          rw [e5]; rfl
        · rw [upd_ne te.symm, upd_same, List.append_nil]
        · have e1 : ((((v :: us) ++ []).length : Nat) : Int) = 1 + (us.length : Int) := by rw [List.append_nil, List.length_cons]; omega
          rw [upd_same, e1, show 1 + (k + 1) = (1 + k) + 1 by omega, List.replicate_succ' (n := 1 + k)]
        · have e3 := s3 _ _ (sm _ _ q)
          rw [upd_ne (ne_of_none q nte), upd_ne (ne_of_none q nt)]
          exact e3
      · obtain rfl : k = us.length := by omega
        refine ⟨_, rfl, _, rfl, t, _, rfl, .inl (SqL.of ht), _, _, rfl, rfl, _, rfl, ite2 (fun z => absurd (of_decide_eq_true z) (show ¬ ((1 + (us.length : Int)) < (((v :: us).length : Nat) : Int)) by rw [List.length_cons]; omega)) (fun _ => ?_)⟩
        refine ⟨_, rfl, t, _, rfl, .inl (SqL.of ht), fun md nmd => ?_⟩
        have ht3 := same_new (o := .lst (v :: us)) nmd _ _ ht
        have he3 := same_new (o := .lst (v :: us)) nmd _ _ he
        have hm3 : upd H' md (.lst (v :: us)) md = some (.lst (v :: us)) := upd_same
        have sm3 := sm.trans (same_new (o := .lst (v :: us)) nmd)
        have nmH : H md = none := Same.gone sm nmd
        generalize upd H' md (.lst (v :: us)) = H3 at ht3 he3 hm3 sm3 ⊢
        refine ⟨_, rfl, t, rfl, ⟨_, SqL.of ht3⟩, fun D nD => ?_⟩
        refine lc_list (K := K) (a := t) (xs := v :: us) (fun i H' => H' D = some (.lst (((marks b us.length).take i).map V.bl)) ∧ But D H3 H') ⟨upd_same, But.upd_at⟩ (fun i H' _ q => SqL.of (q.2 _ _ (ne_of_none ht3 nD) ht3)) (fun i y H' hi ⟨e1, e2⟩ => ?_) (fun H' ⟨e1, e2⟩ => ?_)
        · have hil : i < us.length + 1 := (List.getElem?_eq_some_iff.mp hi).1
          obtain ⟨TT, r, hr1, ty, kit⟩ : ∃ (TT : String) (r : Bool), (marks b us.length)[i]? = some r ∧ (∀ (K : PySem.W.Frag) (G : Hp), Same H' G → TyX K G y (.type TT)) ∧ PySem.W.kitAny K (.type TT) [.type "list", .type "dict"] = some r := by
            cases i with
            | zero =>
              obtain rfl : v = y := Option.some.inj hi
              obtain ⟨TT, ty, b1, b2, b3, f1, f2, f3, eb⟩ := hh.ty
              refine ⟨TT, b, rfl, fun K G k => ty K G fun c o q => k _ _ (e2 _ _ (ne_of_none (sm3 _ _ q) nD) (sm3 _ _ q)), ?_⟩
              rw [eb]; exact kit_any2 f1 f3
            | succ j =>
              obtain ⟨TT, f⟩ := hit y (List.mem_of_getElem? (show us[j]? = some y from hi))
              exact ⟨TT, false, marks_at (by omega), fun K G _ => f.ty K G, kit_any2 f.l f.d⟩
          refine ⟨rfl, _, rfl, (by show 2 ≤ sizeLine; decide), fun tp ntp => ⟨y, tp, _, _, _, r, rfl, upd_same, .cons (.ty _) (.cons (.ty _) .nil), ty _ _ (same_new ntp), kit, _, same_new ntp _ _ e1, ?_, ?_, ?_⟩⟩
          · refine Nat.lt_of_lt_of_le (show _ < 902 from ?_) (z1000 (Nat.le_refl _))
            rw [List.length_map, List.length_take]; omega
          · rw [upd_same, List.take_add_one, hr1, List.map_append]; rfl
          · exact (e2.trans (Same.but (same_new ntp))).trans But.upd_at
        · have eM : (marks b us.length).take (v :: us).length = marks b us.length := by
            rw [List.take_of_length_le]
            show (List.replicate us.length false).length + 1 ≤ us.length + 1
            rw [List.length_replicate]; exact Nat.le_refl _
          rw [eM] at e1
          have s4 : Same H3 H' := fun b o q => e2 b o (ne_of_none q nD) q
          have ht4 := s4 _ _ ht3
          have he4 := s4 _ _ he3
          have hm4 := s4 _ _ hm3
          have s04 := sm3.trans s4
          have nDH : H D = none := Same.gone sm3 nD
          have lenI : ((((v :: us).length : Nat) : Int)) - 1 = (us.length : Int) := by rw [List.length_cons]; omega
          refine ⟨_, rfl, t, _, rfl, .inl (SqL.of ht4), _, _, rfl, rfl, _, rfl, _, rfl, (us.length : Int), -1, -1, us.length + 1, ?_, ?_, ?_⟩
          · show [V.int (((((v :: us).length : Nat) : Int)) - 1), V.int (-1), V.int (-1)] = _
            rw [lenI]
          · have h := RgC.neg (i := (us.length : Int)) (j := -1) (by omega) (by omega) (by decide) (by decide)
            rw [show ((us.length : Int) - -1).toNat = us.length + 1 by omega] at h
            exact h
          refine for_rangeC (lo := (us.length : Int)) (c := -1) (n := us.length + 1) (fun i σ H5 => (∃ v6 v7 v8 v9 : Option V, σ = [some v, some (.ref t), some (.ref e), some (.int (1 + (us.length : Int))), some (.ref md), some (.ref D), v6, v7, v8, v9]) ∧
            (i ≤ us.length → Same H' H5) ∧ (i = us.length + 1 → Same H H5 ∧ ∃ v', H5 md = some (.lst (v' :: us)) ∧ Alike H v H5 v')) ⟨⟨none, none, none, none, rfl⟩, fun _ => Same.refl _, fun z => by omega⟩ ?_ ?_
          · rintro i σ H5 hi ⟨⟨v6, v7, v8, v9, rfl⟩, u5, _⟩
            have s5 := u5 (by omega)
            clear u5
            have he5 := s5 _ _ he4
            have hD5 := s5 _ _ e1
            by_cases hlast : i = us.length
            · subst hlast
              have e0 : (us.length : Int) + ((us.length : Nat) : Int) * -1 = 0 := by omega
              rw [e0]
              refine ⟨_, rfl, _, _, rfl, rfl, _, rfl, ite2 (fun z => absurd (of_decide_eq_true z) (show ¬ ((0 : Int) < 0) by decide)) (fun _ => ?_)⟩
              refine ⟨_, rfl, _, rfl, e, _, _, _, rfl, rfl, SqL.of he5, atI_nat (j := 0) (ends_at (m := 1 + us.length) (by omega)), _, _, rfl, ?_⟩
              refine ⟨_, rfl, _, rfl, _, rfl, _, rfl, _, rfl, D, _, rfl, SqL.of hD5, fun sl nsl => ?_⟩
              have ecut : cutV ((marks b us.length).map V.bl) (some 1) (some (1 + (us.length : Int))) = (List.replicate us.length false).map V.bl := by
                have := cut_tail (x := V.bl b) (ys := (List.replicate us.length false).map V.bl)
                rw [List.length_map, List.length_replicate] at this
                exact this
              rw [ecut]
              refine ⟨sl, List.replicate us.length false, rfl, SqL.of upd_same, _, rfl, ?_⟩
              rw [any_none]
              refine iteF ?_
              have s6 := s5.trans (same_new (o := .lst ((List.replicate us.length false).map V.bl)) nsl)
              generalize upd H5 sl (.lst ((List.replicate us.length false).map V.bl)) = H6 at s6
              refine ⟨_, rfl, _, rfl, D, _, _, _, rfl, rfl, SqL.of (s6 _ _ e1), atI_nat (j := 0) rfl, _, rfl, ?_⟩
              cases b with
              | false => exact iteF ⟨⟨_, _, _, _, rfl⟩, fun z => by omega, fun _ => ⟨s04.trans s6, v, s6 _ _ hm4, .same⟩⟩
              | true =>
                refine iteT ⟨_, rfl, _, rfl, t, _, _, _, rfl, rfl, SqL.of (s6 _ _ ht4), atI_nat (j := 0) rfl, _, rfl, _, rfl, _, rfl, _, rfl, _, rfl, md, _, rfl, SqL.of (s6 _ _ hm4), fun q nq => ?_⟩
                rw [cut_tail]
                have s7 := s6.trans (same_new (o := .lst us) nq)
                have hq : upd H6 q (.lst us) q = some (.lst us) := upd_same
                generalize upd H6 q (.lst us) = H7 at s7 hq
                refine ⟨v, us, q, rfl, hh.keep (s04.trans s7), hq, fun v' H8 s8 al => ?_⟩
                have hm8 := s8 _ _ (s7 _ _ hm4)
                refine ⟨_, rfl, _, rfl, md, _, _, 0, rfl, rfl, hm8, ix_first, ?_⟩
                refine ⟨⟨_, _, _, _, rfl⟩, fun z => by omega, fun _ => ⟨fun c o z => ?_, v', upd_same, (al.from (s04.trans s7) us hh).put hh hm8 rfl⟩⟩
                rw [upd_ne (ne_of_none z nmH)]
                exact s8 _ _ (s7 _ _ (s04 _ _ z))
            · have hi2 : i < us.length := by omega
              obtain ⟨j, ej⟩ : ∃ j : Nat, us.length = i + j + 1 := ⟨us.length - i - 1, by omega⟩
              have e0 : (us.length : Int) + ((i : Nat) : Int) * -1 = ((j + 1 : Nat) : Int) := by omega
              rw [e0]
              have e9 : ((j + 1 : Nat) : Int) - 1 = ((j : Nat) : Int) := by omega
              refine ⟨_, rfl, _, _, rfl, rfl, _, rfl, ite2 (fun _ => ?_) (fun z => absurd (decide_eq_true (show (0 : Int) < ((j + 1 : Nat) : Int) by omega)) z)⟩
              have hfst : atI (List.replicate (1 + us.length) (V.int (1 + (us.length : Int)))) (((j + 1 : Nat) : Int) - 1) = some (V.int (1 + (us.length : Int))) := by
                rw [e9]
                exact atI_nat (ends_at (m := 1 + us.length) (by omega))
              refine ⟨_, rfl, _, rfl, _, _, rfl, rfl, e, _, _, V.int (1 + (us.length : Int)), rfl, rfl, SqL.of he5, hfst, ?_⟩
              refine ⟨_, rfl, _, rfl, e, _, _, _, rfl, rfl, SqL.of he5, atI_nat (j := j + 1) (ends_at (m := 1 + us.length) (by omega)), _, _, rfl, ?_⟩
              refine ⟨_, rfl, _, rfl, _, rfl, _, rfl, _, rfl, D, _, rfl, SqL.of hD5, fun sl nsl => ?_⟩
              rw [cut_void]
              refine ⟨sl, [], rfl, SqL.of upd_same, _, rfl, iteF ?_⟩
              refine ⟨_, rfl, _, rfl, D, _, _, _, rfl, rfl, SqL.of (same_new nsl _ _ hD5), atI_nat (j := j + 1) (show ((marks b us.length).map V.bl)[j + 1]? = some (V.bl false) by rw [List.getElem?_map, marks_at (by omega)]; rfl), _, rfl, iteF ?_⟩
              exact ⟨⟨_, _, _, _, rfl⟩, fun _ => s5.trans (same_new nsl), fun z => by omega⟩
          · rintro σ H5 ⟨⟨v6, v7, v8, v9, rfl⟩, _, s5⟩
            obtain ⟨s5, v', hm5, al⟩ := s5 rfl
            exact ⟨_, rfl, md, _, 0, v', rfl, rfl, SqL.of hm5, atI_nat (j := 0) rfl, kk _ H5 s5 al⟩
theorem ok_flat {f : Addr} {fd : FuncData} (F : Fun K "is_flat" "is_flat" sFlat f fd) (T : Blt mg) (md : mg "dict" = none) : FnOk P w K mg base CX0 2 f fd ["value"] spFlat := by
  refine F.ok scFlat (fun vs H Q E h => ?_) (fun cdv A outer s H vs Q E hr h => ?_)
  · obtain ⟨a, us, rfl, _⟩ := h
    rfl
  · obtain ⟨a, us, rfl, ha, af, hn, k⟩ := h
    refine ⟨_, pss_cons (ps_for PassesOwn.never rfl (pi_tup (pv 0)) (pg_name (i := 1) scFlat.nd rfl (.inl rfl))
        (pss_one (ps_if (pt_val (pe_callB call_isiT (by rfl) T.isi (by decide +kernel) (pa_cons (pv 1) (pa_cons (pe_tup (pa_cons (pe_bltn (v := .ty "list") (by rfl) T.list (by decide +kernel) rfl) (pa_cons (pe_bltn (v := .ty "tuple") (by rfl) T.tuple (by decide +kernel) rfl) (pa_cons (pe_bltn (v := .ty "dict") (by rfl) md (by decide +kernel) rfl) pa_nil)))) pa_nil)))) (pss_one ps_never) pss_nil)))
      (pss_one (ps_ret pe_bl)), ?_⟩
    refine ⟨_, rfl, a, rfl, ⟨_, SqT.of ha⟩, ?_⟩
    refine for_it (walk_tup (K := K) (a := a) (xs := us)) (fun i σ G => Same H G ∧ ∃ z, σ = [some (.ref a), z]) ⟨Same.refl _, _, rfl⟩ (fun i σ G _ h => SqT.of (h.1 _ _ ha)) (fun i v σ G2 G3 hi h y => ?_) (fun σ G h => ?_)
    · obtain ⟨s2, z, rfl⟩ := h
      obtain ⟨rfl, hx⟩ := y
      obtain ⟨TT, fl⟩ := af v (List.mem_of_getElem? hx)
      exact ⟨_, rfl, (by show 3 ≤ sizeLine; decide), fun tp ntp => ⟨v, tp, _, _, _, false, rfl, upd_same, .cons (.ty _) (.cons (.ty _) (.cons (.ty _) .nil)), fl.ty _ _, kit3 fl.l fl.t fl.d, _, rfl, iteF ⟨s2.trans (same_new ntp), _, rfl⟩⟩⟩
    · obtain ⟨s2, z, rfl⟩ := h
      exact k G s2
theorem ok_keptV {f : Addr} {fd : FuncData} (F : Fun K "kept" "kept" sKept f fd) (T : Blt mg) (md : mg "dict" = none) (D : Df P w K mg base 2 "is_flat" ["value"] spFlat) (D2 : Df P w K mg base 2 "copied_deep" ["value"] spKeptV) : FnOk P w K mg base CX0 3 f fd ["value"] spKeptV := by
  obtain ⟨f1, fd1, G1, g1, k1, b1⟩ := D.ex
  obtain ⟨f2, fd2, G2, g2, k2, b2⟩ := D2.ex
  refine F.ok scKept (fun vs H Q E h => ?_) (fun cdv A outer s H vs Q E hr h => ?_)
  · obtain ⟨v, us, b, rfl, _⟩ := h
    rfl
  · obtain ⟨v, us, b, rfl, hh, kk⟩ := h
    refine ⟨_, pss_cons (ps_if (pt_not (pt_val (pe_callB call_isiT (by rfl) T.isi (by decide +kernel) (pa_cons (pv 0) (pa_cons (pe_tup (pa_cons (pe_bltn (v := .ty "list") (by rfl) T.list (by decide +kernel) rfl) (pa_cons (pe_bltn (v := .ty "tuple") (by rfl) T.tuple (by decide +kernel) rfl) (pa_cons (pe_bltn (v := .ty "dict") (by rfl) md (by decide +kernel) rfl) pa_nil)))) pa_nil))))) (pss_one (ps_ret (pv 0))) pss_nil)
      (pss_cons (ps_if (PW.pt (pw_and (pt_val (pe_callB call_isi (by rfl) T.isi (by decide +kernel) (pa_cons (pv 0) (pa_cons (pe_bltn (v := .ty "tuple") (by rfl) T.tuple (by decide +kernel) rfl) pa_nil)))) (pw_and1 (pt_val (pe_call G1 hr (by rfl) g1 k1 b1 .nil pass0 (pa_cons (pv 0) pa_nil)))))) (pss_one (ps_ret (pv 0))) pss_nil)
      (pss_one (ps_ret (pe_call G2 hr (by rfl) g2 k2 b2 .nil pass0 (pa_cons (pv 0) pa_nil))))), ?_⟩
    cases hh with
    | @flat v TT fl =>
      refine ⟨_, rfl, (by show 3 ≤ sizeLine; decide), fun tp ntp => ⟨v, tp, _, _, _, false, rfl, upd_same, .cons (.ty _) (.cons (.ty _) (.cons (.ty _) .nil)), fl.ty _ _, kit3 fl.l fl.t fl.d, _, rfl, iteT ⟨_, rfl, ?_⟩⟩⟩
      exact kk _ _ (same_new ntp) .same
    | @tup a us e al l =>
      refine ⟨_, rfl, (by show 3 ≤ sizeLine; decide), fun tp ntp => ⟨_, tp, _, _, _, true, rfl, upd_same, .cons (.ty _) (.cons (.ty _) (.cons (.ty _) .nil)), .base (.tup (same_new ntp _ _ e)), kit_any3 (r1 := false) (r2 := true) (r3 := false) (by decide +kernel) (by decide +kernel) (by decide +kernel), _, rfl, iteF ?_⟩⟩
      have e1 := same_new (o := .tup [.ty "list", .ty "tuple", .ty "dict"]) ntp _ _ e
      refine ⟨_, rfl, _, _, _, _, true, rfl, .ty _, .base (.tup e1), kit_ty (by decide +kernel), _, rfl, iteT ?_⟩
      refine ⟨_, rfl, a, us, rfl, e1, al, l, fun H' s' => ⟨_, rfl, iteT ⟨_, rfl, ?_⟩⟩⟩
      exact kk _ _ ((same_new ntp).trans s') .same
    | @lst a us e al l =>
      refine ⟨_, rfl, (by show 3 ≤ sizeLine; decide), fun tp ntp => ⟨_, tp, _, _, _, true, rfl, upd_same, .cons (.ty _) (.cons (.ty _) (.cons (.ty _) .nil)), .base (.lst (same_new ntp _ _ e)), kit_any3 (r1 := true) (r2 := false) (r3 := false) (by decide +kernel) (by decide +kernel) (by decide +kernel), _, rfl, iteF ?_⟩⟩
      have s1 := same_new (H := H) (o := .tup [.ty "list", .ty "tuple", .ty "dict"]) ntp
      have e1 := s1 _ _ e
      refine ⟨_, rfl, _, _, _, _, false, rfl, .ty _, .base (.lst e1), kit_ty (by decide +kernel), _, rfl, iteF ?_⟩
      refine ⟨_, rfl, _, us, true, rfl, (Hold.lst e1 al l), fun v' H' s' al' => ?_⟩
      exact kk _ _ (s1.trans s') (al'.from s1 us (.lst e al l))
    | @dct a kvs e al l nd =>
      refine ⟨_, rfl, (by show 3 ≤ sizeLine; decide), fun tp ntp => ⟨_, tp, _, _, _, true, rfl, upd_same, .cons (.ty _) (.cons (.ty _) (.cons (.ty _) .nil)), .base (.dK (same_new ntp _ _ e)), kit_any3 (r1 := false) (r2 := false) (r3 := true) (by decide +kernel) (by decide +kernel) (by decide +kernel), _, rfl, iteF ?_⟩⟩
      have s1 := same_new (H := H) (o := .tup [.ty "list", .ty "tuple", .ty "dict"]) ntp
      have e1 := s1 _ _ e
      refine ⟨_, rfl, _, _, _, _, false, rfl, .ty _, .base (.dK e1), kit_ty (by decide +kernel), _, rfl, iteF ?_⟩
      refine ⟨_, rfl, _, _, true, rfl, (Hold.dct e1 al l nd), fun v' H' s' al' => ?_⟩
      exact kk _ _ (s1.trans s') (al'.from s1 _ (.dct e al l nd))
end
end Ev
namespace Ev
open PySem L2 PySem.Spec PyProof.Rows RZ
abbrev sBNInit : Stmt := sBadNumber_init
/-- a contract with a lesser promise -/
theorem FnOk.less {P : Program} {w : World} {K : PySem.W.Frag} {mg : Str → Option Value} {base : Heap} {CX : CXT} {k : Nat} {f : Addr} {fd : FuncData} {ps : List Str} {sp sp' : Sp}
    (F : FnOk P w K mg base CX k f fd ps sp) (h : ∀ vs H Q E, sp' vs H Q E → sp vs H Q E) : FnOk P w K mg base CX k f fd ps sp' :=
  ⟨fun vs H Q E t => F.len vs H Q E (h _ _ _ _ t), fun A above s H args us vs Q E hr env bt rv t => F.run A above s H args us vs Q E hr env bt rv (h _ _ _ _ t)⟩
/-- .. of a call that raises nothing -/
theorem FnOk.calm {P : Program} {w : World} {K : PySem.W.Frag} {mg : Str → Option Value} {base : Heap} {k : Nat} {f : Addr} {fd : FuncData} {ps : List Str} {sp sp' : Sp}
    (F : FnOk P w K mg base (L2.CX P w) k f fd ps sp) (h : ∀ vs H Q E, sp' vs H Q E → sp vs H Q fun _ _ _ => False) : FnOk P w K mg base CX0 k f fd ps sp' := by
  constructor
  · exact fun vs H Q E t => F.len vs H Q _ (h _ _ _ _ t)
  · intro A above s H args us vs Q E hr env bt rv t
    refine codeAny_mono (F.run A above s H args us vs Q _ hr env bt rv (h _ _ _ _ t)) fun r s2 q => ?_
    cases r with
    | error e =>
      obtain ⟨_, _, _, _, _, _, _, _, _, _, _, _, z⟩ := q
      exact z.elim
    | ok fl =>
      cases fl with
      | ret u => exact q
      | next => exact q
      | brk => exact q
      | cont => exact q
/-- an error's field -/
def Told (C : Addr) (n : Str) (H : Hp) (v : V) (E : XK) : Prop := ∀ (d : Addr) (v' : V) (H' : Hp), Same H H' → H d = none → H' d = some (.xd [(n, v')]) → Alike H v H' v' → E (.ref C) (some d) H'
def spExInit (C : Addr) (n : Str) : Sp := fun vs H Q _ => ∃ (a : Addr) (v : V) (us : List V) (b : Bool), vs = [.ref a, v] ∧ H a = some (exo a C none) ∧ Hold H v us b ∧
  ∀ (d : Addr) (v' : V) (H' : Hp), H d = none → H' a = some (exo a C (some d)) → H' d = some (exd d [(n, v')]) → (∀ b o, b ≠ a → H b = some o → H' b = some o) → Alike H v H' v' → Q .non H'
theorem Alike.on {H G G' : Hp} {v v' : V} (h : Alike H v G v') (k1 : ∀ b xs, G b = some (.lst xs) → G' b = some (.lst xs)) (k2 : ∀ b kvs, G b = some (.dK kvs) → G' b = some (.dK kvs)) : Alike H v G' v' := by
  cases h with
  | same => exact .same
  | lst e1 e2 => exact .lst e1 (k1 _ _ e2)
  | dct e1 e2 => exact .dct e1 (k2 _ _ e2)
theorem exo_lst {a C : Addr} {d : Option Addr} {xs : List V} : exo a C d ≠ .lst xs := fun z => by
  have z : HO.ext _ = HO.lst xs := z
  cases z
theorem exo_dK {a C : Addr} {d : Option Addr} {xs : List (Key × V)} : exo a C d ≠ .dK xs := fun z => by
  have z : HO.ext _ = HO.dK xs := z
  cases z
theorem exd_lst {a : Addr} {d : List (Str × V)} {xs : List V} : exd a d ≠ .lst xs := fun z => by
  have z : HO.ext _ = HO.lst xs := z
  cases z
theorem exd_dK {a : Addr} {d : List (Str × V)} {xs : List (Key × V)} : exd a d ≠ .dK xs := fun z => by
  have z : HO.ext _ = HO.dK xs := z
  cases z
/-- an error class of the package with one field n -/
structure ErrV (P : Program) (w : World) (K : PySem.W.Frag) (mg : Str → Option Value) (base : Heap) (x n : Str) (C : Addr) : Prop where
  cl : OexC K C
  g : mg x = some (.ref C)
  ex : ∃ (f : Addr) (fd : FuncData), PySem.W.findIn K (.ref C) "__init__" = some (some (.ref f)) ∧ PySem.W.typeIn K (.ref f) = some (.type "function") ∧ FnOk P w K mg base CX0 4 f fd ["self", n] (spExInit C n) ∧ Binds K fd ["self", n] []
section
variable {P : Program} {w : World} {K : PySem.W.Frag} {mg : Str → Option Value} {base : Heap}
theorem scBN : FnScope ["self", "value"] ["self", "value"] (defScope sBNInit) := ⟨rfl, rfl, rfl, by decide +kernel, rfl, by decide +kernel, by decide +kernel⟩
theorem ok_bn {f C : Addr} {fd : FuncData} (F : Fun K "__init__" "BadNumber.__init__" sBNInit f fd) (T : OexC K C) (no : PySem.W.findIn K (.ref C) "value" = some none) (D : Df P w K mg base 3 "kept" ["value"] spKeptV) : FnOk P w K mg base CX0 4 f fd ["self", "value"] (spExInit C "value") := by
  obtain ⟨f1, fd1, G1, g1, k1, b1⟩ := D.ex
  refine F.ok scBN (fun vs H Q E h => ?_) (fun cdv A outer s H vs Q E hr h => ?_)
  · obtain ⟨a, v, us, b, rfl, _⟩ := h
    rfl
  · obtain ⟨a, v, us, b, rfl, ha, hv, kk⟩ := h
    refine ⟨_, pss_one (ps_ost (pv 0) (pe_call G1 hr (by rfl) g1 k1 b1 .nil pass0 (pa_cons (pv 1) pa_nil))), ?_⟩
    refine ⟨_, rfl, v, us, b, rfl, hv, fun v' H1 s1 al => ⟨_, rfl, a, C, rfl, T, no, .inl ⟨s1 _ _ ha, fun dx nd dne => ?_⟩⟩⟩
    refine kk dx v' _ (s1.free nd) upd_same (by rw [upd_ne dne]; exact upd_same) (fun b o nb e => ?_) (al.on (fun b xs e => ?_) (fun b xs e => ?_))
    · rw [upd_ne nb, upd_ne (ne_of_none (s1 _ _ e) nd)]
      exact s1 _ _ e
    · have nb : b ≠ a := fun z => by rw [z, s1 _ _ ha] at e; exact exo_lst (Option.some.inj e)
      rw [upd_ne nb, upd_ne (ne_of_none e nd)]; exact e
    · have nb : b ≠ a := fun z => by rw [z, s1 _ _ ha] at e; exact exo_dK (Option.some.inj e)
      rw [upd_ne nb, upd_ne (ne_of_none e nd)]; exact e
/-- what the raising of such an error comes to -/
theorem raisedV {C : Addr} {n : Str} {H : Hp} {v : V} {E : XK} (hv : ∃ us b, Hold H v us b) (k : Told C n H v E) (a' : Addr) (na : H a' = none) :
    spExInit C n [.ref a', v] (upd H a' (exo a' C none)) (fun v' H2 => v' = .non ∧ ∃ (d : Addr) (fs : List (Str × V)), H2 a' = some (exo a' C (some d)) ∧ H2 d = some (exd d fs) ∧ H d = none ∧ E (.ref C) (some d) (upd (del H2 a') d (.xd fs))) (fun _ _ _ => False) := by
  obtain ⟨us, b, hv⟩ := hv
  refine ⟨a', v, us, b, rfl, upd_same, hv.keep (same_new na), fun d v' H' nd ha' hd bt al => ⟨rfl, d, _, ha', hd, ?_, ?_⟩⟩
  · have dne : d ≠ a' := fun z => by rw [z, upd_same] at nd; cases nd
    rw [upd_ne dne] at nd
    exact nd
  · have dne : d ≠ a' := fun z => by rw [z, upd_same] at nd; cases nd
    rw [upd_ne dne] at nd
    have hkeep : ∀ b o, H b = some o → upd (del H' a') d (.xd [(n, v')]) b = some o := fun b o e => by
      rw [upd_ne (ne_of_none e nd), del_ne (ne_of_none e na)]
      exact bt b o (ne_of_none e na) (by rw [upd_ne (ne_of_none e na)]; exact e)
    refine k d v' _ hkeep nd upd_same ?_
    have al2 : Alike H v H' v' := by
      cases al with
      | same => exact .same
      | lst e1 e2 =>
        rename_i a b us
        refine .lst ?_ e2
        have nb : a ≠ a' := fun z => by rw [z, upd_same] at e1; exact exo_lst (Option.some.inj e1)
        rw [upd_ne nb] at e1; exact e1
      | dct e1 e2 =>
        rename_i a b us
        refine .dct ?_ e2
        have nb : a ≠ a' := fun z => by rw [z, upd_same] at e1; exact exo_dK (Option.some.inj e1)
        rw [upd_ne nb] at e1; exact e1
    refine al2.on (fun b xs e => ?_) (fun b xs e => ?_)
    · have n1 : b ≠ a' := fun z => by rw [z, ha'] at e; exact exo_lst (Option.some.inj e)
      have n2 : b ≠ d := fun z => by rw [z, hd] at e; exact exd_lst (Option.some.inj e)
      rw [upd_ne n2, del_ne n1]; exact e
    · have n1 : b ≠ a' := fun z => by rw [z, ha'] at e; exact exo_dK (Option.some.inj e)
      have n2 : b ≠ d := fun z => by rw [z, hd] at e; exact exd_dK (Option.some.inj e)
      rw [upd_ne n2, del_ne n1]; exact e
def spNeedSize (C : Addr) : Sp := fun vs H Q E => ∃ v : V, vs = [v] ∧ IntQ H v ∧ ((inB 2 (10 ^ 12) v = true ∧ Q .non H) ∨ (inB 2 (10 ^ 12) v = false ∧ (∃ us b, Hold H v us b) ∧ Told C "value" H v E))
theorem scNeedSize : FnScope ["value"] ["value"] (defScope sNeedSize) := ⟨rfl, rfl, rfl, by decide +kernel, rfl, by decide +kernel, by decide +kernel⟩
theorem ok_needSize {f C : Addr} {fd : FuncData} (F : Fun K "need_size" "need_size" sNeedSize f fd) (D : Df P w K mg base 2 "is_within" ["value", "least", "most"] spWithinA) {t1 t2 : Tok} (gL : mg "LEAST_SIZE" = some (.int 2 t1)) (gM : mg "MOST_SIZE" = some (.int (10 ^ 12) t2)) (B : ErrV P w K mg base "BadNumber" "value" C) :
    FnOk P w K mg base (L2.CX P w) 6 f fd ["value"] (spNeedSize C) := by
  obtain ⟨fW, fdW, GW, gW, kW, bW⟩ := D.ex
  obtain ⟨TC, gC, fi, fdi, iC, tI, GI, bI⟩ := id B
  refine F.okX scNeedSize (fun vs H Q E h => ?_) (fun cdv A outer s H vs Q E hr h => ?_)
  · obtain ⟨v, rfl, _⟩ := h
    rfl
  · obtain ⟨v, rfl, hq, h⟩ := h
    refine ⟨_, pss_one (ps_if (pt_not (pt_val (pe_call GW (hr.mono (by decide)) (by rfl) gW kW bW .nil pass0 (pa_cons (pv 0) (pa_cons (pe_glob (v := .int 2) rfl gL ⟨_, rfl⟩) (pa_cons (pe_glob (v := .int (10 ^ 12)) rfl gM ⟨_, rfl⟩) pa_nil))))))
      (pss_one (ps_raise rfl (takes_of rfl rfl rfl rfl) (pmk_oex TC iC tI GI (hr.mono (by decide)) bI .nil pass0 (by rfl) gC (pa_cons (pv 0) pa_nil)))) pss_nil), ?_⟩
    rcases h with ⟨z, k⟩ | ⟨z, hv, k⟩
    · refine ⟨_, rfl, _, _, _, rfl, hq, _, rfl, ?_⟩
      rw [z]
      exact iteF k
    · have out : tMkO C (spExInit C "value") [] (tCons (tVar 0) tNil) [some v] H E := ⟨_, rfl, (by show 1 ≤ 1000; decide), fun a' na => raisedV hv k a' na⟩
      refine ⟨_, rfl, _, _, _, rfl, hq, _, rfl, ?_⟩
      rw [z]
      exact iteT out
end
end Ev
namespace Ev
open PySem L2 PySem.Spec PyProof.Rows RZ
/-! Fill rules. -/
structure Fr where
  p : Int
  q : Int
  k : Int
  c : Int
  j : Int
structure Fr.ok (r : Fr) : Prop where
  p1 : 1 ≤ r.p
  p2 : r.p ≤ 12
  q1 : 1 ≤ r.q
  q2 : r.q ≤ 12
  k1 : -12 ≤ r.k
  k2 : r.k ≤ 12
  c1 : 1 ≤ r.c
  c2 : r.c ≤ 5
  j1 : 2 ≤ r.j
  j2 : r.j ≤ 6
def Fr.wd (r : Fr) : Int := if r.c > r.j then r.c else r.j
def Fr.least (r : Fr) (m : Int) : Int := (r.p * m + r.k).fdiv r.q
def Fr.many (r : Fr) : Int := if r.c + 1 < r.j then r.c + 1 else r.j
def Fr.right (r : Fr) (m : Int) : Bool := decide (1 ≤ r.least m) && decide (r.many * r.least m ≤ (r.many - 1) * m + 1)
def fillF (a : Addr) (r : Fr) : List (Str × V) := [("times", .ref a), ("plus", .int r.k), ("cut_of", .int r.c), ("join_of", .int r.j), ("width", .int r.wd)]
def FAt (C : Addr) (H : Hp) (x : Addr) (r : Fr) : Prop := ∃ dx a, H x = some (.ins C dx (fillF a r)) ∧ H a = some (.tup [.int r.p, .int r.q])
theorem FAt.keep {C x : Addr} {H H' : Hp} {r : Fr} (h : FAt C H x r) (k : Same H H') : FAt C H' x r := by
  obtain ⟨dx, a, h1, h2⟩ := h
  exact ⟨dx, a, k _ _ h1, k _ _ h2⟩
theorem FAt.but {C x p : Addr} {H H' : Hp} {r : Fr} {xs : List V} (h : FAt C H x r) (hp : H p = some (.lst xs)) (k : But p H H') : FAt C H' x r := by
  obtain ⟨dx, a, h1, h2⟩ := h
  exact ⟨dx, a, k _ _ (ne_of h1 hp (by intro z; cases z)) h1, k _ _ (ne_of h2 hp (by intro z; cases z)) h2⟩
theorem fill_times (a : Addr) (r : Fr) : (fillF a r).lookup ("times" : Str) = some (.ref a) := lk_hit
theorem fill_plus (a : Addr) (r : Fr) : (fillF a r).lookup ("plus" : Str) = some (.int r.k) := (lk_miss (by decide +kernel)).trans lk_hit
theorem fill_cut (a : Addr) (r : Fr) : (fillF a r).lookup ("cut_of" : Str) = some (.int r.c) := (lk_miss (by decide +kernel)).trans ((lk_miss (by decide +kernel)).trans lk_hit)
theorem fill_join (a : Addr) (r : Fr) : (fillF a r).lookup ("join_of" : Str) = some (.int r.j) := (lk_miss (by decide +kernel)).trans ((lk_miss (by decide +kernel)).trans ((lk_miss (by decide +kernel)).trans lk_hit))
theorem fill_width (a : Addr) (r : Fr) : (fillF a r).lookup ("width" : Str) = some (.int r.wd) := (lk_miss (by decide +kernel)).trans ((lk_miss (by decide +kernel)).trans ((lk_miss (by decide +kernel)).trans ((lk_miss (by decide +kernel)).trans lk_hit)))
theorem fill_no (a : Addr) (r : Fr) {m : Str} (h1 : ¬ m = "times") (h2 : ¬ m = "plus") (h3 : ¬ m = "cut_of") (h4 : ¬ m = "join_of") (h5 : ¬ m = "width") : (fillF a r).lookup m = none := (lk_miss h1).trans ((lk_miss h2).trans ((lk_miss h3).trans ((lk_miss h4).trans ((lk_miss h5).trans rfl))))
def spLeastOf (C : Addr) : Sp := fun vs H Q _ => ∃ (x : Addr) (r : Fr) (m : Int), vs = [.ref x, .int m] ∧ FAt C H x r ∧ r.ok ∧ Q (.int (r.least m)) H
/-- a size asked of a rule: an answer, or an error with that value -/
def SizeK (N : Addr) (H : Hp) (E : XK) (v : V) (good : Int → Prop) : Prop := IntQ H v ∧ ((∃ m, v = .int m ∧ 2 ≤ m ∧ m ≤ 10 ^ 12 ∧ good m) ∨ (inB 2 (10 ^ 12) v = false ∧ (∃ us b, Hold H v us b) ∧ Told N "value" H v E))
theorem mw {q b : Int} (h1 : -b ≤ q) (h2 : q ≤ b) (hb : b ≤ 10 ^ 19) : -(2 ^ 64) < q ∧ q < 2 ^ 64 := ⟨by omega, by omega⟩
theorem inB_in {l m i : Int} (h1 : l ≤ i) (h2 : i ≤ m) : inB l m (.int i) = true := by
  show (decide (l ≤ i) && decide (i ≤ m)) = true
  rw [decide_eq_true h1, decide_eq_true h2]; rfl
section
variable {P : Program} {w : World} {K : PySem.W.Frag} {mg : Str → Option Value} {base : Heap}
theorem scLeastOf : FnScope ["rule", "most", "over", "under"] ["rule", "most"] (defScope sLeastOf) := ⟨rfl, rfl, rfl, by decide +kernel, rfl, by decide +kernel, by decide +kernel⟩
theorem ok_leastOf {f C : Addr} {fd : FuncData} (F : Fun K "least_of" "least_of" sLeastOf f fd) (T : FCls K C) : FnOk P w K mg base CX0 1 f fd ["rule", "most"] (spLeastOf C) := by
  refine F.ok scLeastOf (fun vs H Q E h => ?_) (fun cdv A outer s H vs Q E hr h => ?_)
  · obtain ⟨x, r, m, rfl, _⟩ := h
    rfl
  · obtain ⟨x, r, m, rfl, ⟨dx, a, hx, ha⟩, o, kk⟩ := h
    have o1 := o.q1; have o2 := o.q2
    refine ⟨_, (pss_cons (ps_asg (pe_fld (pv 0) rfl) (pg_tup (by rfl) (pgs_cons (pg_name (i := 2) scLeastOf.nd rfl (.inl rfl)) (pgs_cons (pg_name (i := 3) scLeastOf.nd rfl (.inl rfl)) pgs_nil))))
      (pss_one (ps_ret (pe_op op_fdivN (pe_op op_add (pe_op op_mul (pv 2) (pv 1)) (pe_fld (pv 0) rfl)) (pv 3))))), ?_⟩
    refine ⟨_, rfl, x, C, dx, _, _, rfl, hx, T.cl, T.n1, fill_times _ _, a, _, rfl, SqT.of ha, rfl, _, _, rfl, _, _, rfl, rfl, ?_⟩
    exact ⟨_, rfl, _, rfl, _, _, rfl, rfl, .inl (mw (b := 12) (by have := o.p1; omega) o.p2 (by decide)), _, rfl, x, C, dx, _, _, rfl, hx, T.cl, T.n2, fill_plus _ _, _, _, rfl, rfl, _, rfl, _, _, rfl, rfl, ⟨by omega, by omega⟩, kk⟩
end
end Ev
namespace Ev
open PySem L2 PySem.Spec PyProof.Rows RZ LamX
/-- an instance's kind -/
structure InsT (K : PySem.W.Frag) (C : Addr) : Prop where
  ha : PySem.W.findIn K (.ref C) "__class__" = some (some (.builtin "object.__class__"))
  hn : PySem.W.specialIn K (.builtin "object.__class__") "__get__" = some (some (.builtin "getset_descriptor.__get__"))
  htk : PySem.W.takesIn K (.builtin "object.__class__") = some true
  hm : PySem.W.mroIn K C (.type "object") = some true
  ic : PySem.W.isClsIn K C = true
  tt : PySem.W.typeIn K (.ref C) = some (.type "type")
theorem sub_no {K : PySem.W.Frag} {C : Addr} {T : String} {l : List String} (h : fastBuiltinMro T = some (l.map Value.type)) : PySem.W.subIn K (.type T) (.ref C) = some false := by
  show (fastBuiltinMro T).map (·.contains (.ref C)) = some false
  rw [h]
  have z : (l.map Value.type).contains (.ref C) = false := by
    rw [Bool.eq_false_iff]
    intro z
    have m := List.contains_iff_mem.mp z
    simp at m
  exact congrArg some z
theorem kit_self {K : PySem.W.Frag} {C : Addr} : PySem.W.kitOne K (.ref C) (.ref C) = some true := by
  unfold PySem.W.kitOne
  rw [if_pos (by simp)]
/-- v shows as x -/
def Shows (K : PySem.W.Frag) (H : Hp) (v : V) (x : Str) : Prop := ∃ d : PyData, Vd K H v d ∧ d.showable = true ∧ d.depth ≤ 32 ∧ d.shown.length ≤ sizeLine ∧ d.shown = x
theorem held_lst {cls : Value} {d : Option Addr} {a : Addr} {xs : List V} : HO.lst xs ≠ Held cls d a := fun z => by
  have z : HO.lst xs = HO.ext _ := z
  cases z
theorem sqL_keep {K : PySem.W.Frag} {H H' : Hp} {a : Addr} {xs : List V} (k : Same H H') (h : SqL K H a xs) : SqL K H' a xs := by
  rcases h with (e | ⟨o, e⟩) | e
  · exact .inl (.inl (k _ _ e))
  · exact .inl (.inr ⟨o, k _ _ e⟩)
  · exact .inr e
theorem sqT_keep {K : PySem.W.Frag} {H H' : Hp} {a : Addr} {xs : List V} (k : Same H H') (h : SqT K H a xs) : SqT K H' a xs := by
  rcases h with (e | ⟨o, e⟩) | e
  · exact .inl (.inl (k _ _ e))
  · exact .inl (.inr ⟨o, k _ _ e⟩)
  · exact .inr e
mutual
theorem dp_keep {K : PySem.W.Frag} {H H' : Hp} (k : Same H H') : ∀ (v : V) (d : PyData), Dp K H v d → Dp K H' v d
  | _, _, .non => .non
  | _, _, .bl b => .bl b
  | _, _, .int i => .int i
  | _, _, .str x => .str x
  | _, _, .lst s a => .lst (sqL_keep k s) (dps_keep k _ _ a)
  | _, _, .tup s a => .tup (sqT_keep k s) (dps_keep k _ _ a)
theorem dps_keep {K : PySem.W.Frag} {H H' : Hp} (k : Same H H') : ∀ (vs : List V) (ds : List PyData), DpAll K H vs ds → DpAll K H' vs ds
  | _, _, .nil => .nil
  | _, _, .cons h t => .cons (dp_keep k _ _ h) (dps_keep k _ _ t)
end
theorem Shows.keep {K : PySem.W.Frag} {H H' : Hp} {v : V} {x : Str} (h : Shows K H v x) (k : Same H H') : Shows K H' v x := by
  obtain ⟨d, hd, sh⟩ := h
  refine ⟨d, ?_, sh⟩
  cases hd with
  | plain dp nd => exact .plain (dp_keep k _ _ dp) nd
  | dct e ek ev => exact .dct (k _ _ e) ek ev
/-- isinstance(e, c), e a caught error with or without fields -/
def rIsHeldA (K : PySem.W.Frag) : List V → Hp → VK → Prop := fun xs H Q => ∃ (a C : Addr) (d : Option Addr) (c : V) (u : Value) (b : Bool),
  xs = [.ref a, c] ∧ H a = some (Held (.ref C) d a) ∧ (d = none ∨ ∃ dd fs, d = some dd ∧ H dd = some (.xd fs)) ∧ HeldC K C ∧ ClsV c u ∧ PySem.W.kitOne K (.ref C) u = some b ∧ Q (.bl b) H
section
variable {X : Cx}
theorem call_isHeldA : CallR X (.builtin "isinstance") (rIsHeldA X.K) := by
  intro pins s σ H xs us Q I r h
  obtain ⟨a, C, d, c, u, b, rfl, ea, hd, T, k, e, q⟩ := h
  rcases hd with rfl | ⟨dd, fs, rfl, ed⟩
  · obtain ⟨u1, u2, rfl, r1, r2⟩ := vals2 r
    have e2 := k.eq r2
    subst e2
    cases r1
    obtain ⟨oe, he, hz, vs, hdt⟩ := held_at I ea
    have J : PySem.W.InstAt s.heap a oe C none := ⟨he, hz.1, by unfold PySem.W.notCls; rw [hdt] <;> rfl, by rw [hz.2]; trivial⟩
    exact PySem.W.kia_one (PySem.W.kitx_exc T.cl T.ga T.gg T.ex T.ca T.sp T.tk T.mo) I.kIn J e (fun z => nomatch z) fun tk => ⟨.bl b, H, I.tok tk, rfl, q⟩
  · exact call_isHeld pins s σ H _ us Q I r ⟨a, C, dd, fs, c, u, b, rfl, ea, ed, T, k, e, q⟩
end
/-- what is heard of a call: what it returns, or the word and the field of its error -/
def EHeard (K : PySem.W.Frag) (B N Z : Addr) (QQ : Addr → Hp → Prop) : XK := fun cls d H' => (∃ (dd : Addr) (v : V) (n w x : Str), d = some dd ∧ H' dd = some (.xd [(n, v)]) ∧ ((cls = .ref B ∧ n = "part" ∧ w = "rule" ∧ v = .str x) ∨ (cls = .ref N ∧ n = "value" ∧ w = "number" ∧ Shows K H' v x)) ∧
    ∀ (r : Addr) (G : Hp), Same H' G → H' r = none → G r = some (.tup [.str w, .str x]) → QQ r G) ∨
  (cls = .ref Z ∧ d = none ∧ ∀ (r : Addr) (G : Hp), Same H' G → H' r = none → G r = some (.tup [.str "nothing", .str ""]) → QQ r G)
def THeard (K : PySem.W.Frag) (B N Z : Addr) : (XK → Hp → VK → Prop) → Hp → VK → Prop := fun tl H Q => tl (EHeard K B N Z fun r G => Q (.ref r) G) H fun v H' => [v].length ≤ sizeLine ∧ ∀ r, H' r = none → Q (.ref r) (upd H' r (.lst [v]))
theorem four {σ : L2.St} (h : σ.length = 4) : ∃ x0 x1 x2 x3, σ = [x0, x1, x2, x3] := by
  match σ, h with
  | [x0, x1, x2, x3], _ => exact ⟨x0, x1, x2, x3, rfl⟩
theorem scHeard : FnScope ["_law_ask", "_law_caught", "error", "_law_found"] ["_law_ask"] (defScope sHeard) := ⟨rfl, rfl, rfl, by decide +kernel, rfl, by decide +kernel, by decide +kernel⟩
section
variable {X : Cx}
theorem heard_gives {B N Z FE : Addr} {q : Str} {g : Addr} {cdg : Value} (gd : X.A.guards = some []) {k : Nat} (hr : Room (k + 1) X.A) (T : Blt X.mg) (mr : X.mg "repr" = none) (gF : X.mg "FairError" = some (.ref FE)) (gB : X.mg "BadRule" = some (.ref B)) (gN : X.mg "BadNumber" = some (.ref N)) (HB' : HeldC X.K B) (HN : HeldC X.K N) (HZ : HeldC X.K Z) (gZ : X.mg "Nothing" = some (.ref Z))
    (noB : PySem.W.findIn X.K (.ref B) "part" = some none) (noN : PySem.W.findIn X.K (.ref N) "value" = some none) (teB : PySem.W.exmOne X.K (.ref B) (.ref FE) = some true) (teN : PySem.W.exmOne X.K (.ref N) (.ref FE) = some true) (teZ : PySem.W.exmOne X.K (.ref Z) (.ref FE) = some true)
    (iBB : PySem.W.kitOne X.K (.ref B) (.ref B) = some true) (iBN : PySem.W.kitOne X.K (.ref B) (.ref N) = some false) (iNB : PySem.W.kitOne X.K (.ref N) (.ref B) = some false) (iNN : PySem.W.kitOne X.K (.ref N) (.ref N) = some true) (iBZ : PySem.W.kitOne X.K (.ref B) (.ref Z) = some false) (iNZ : PySem.W.kitOne X.K (.ref N) (.ref Z) = some false) (iZB : PySem.W.kitOne X.K (.ref Z) (.ref B) = some false) (iZN : PySem.W.kitOne X.K (.ref Z) (.ref N) = some false) (iZZ : PySem.W.kitOne X.K (.ref Z) (.ref Z) = some true) :
    GivesTo X ["_law_ask", "_law_caught", "error", "_law_found"] "_law_heard" (defScope sHeard) g cdg (defBody sHeard) "_law_ask" q (THeard X.K B N Z) := by
  intro f c' s H Q tl act hc h
  refine ⟨_, pss_cons (ps_set (i := 1) scHeard.nd rfl (.inl rfl) pe_non)
    (pss_cons (ps_try_held (X := (cxOf C8.CX0 X.prog X.w X.K X.mg X.base ["_law_ask", "_law_caught", "error", "_law_found"] "_law_heard" (defScope sHeard) g cdg X.A X.stack s H C8.E0).nox) (c := .ref FE) (i := 2) (Wout := fun _ _ _ _ => False)
      (tb := fun W D σ H => ∃ Ech : XK, (∀ cls d σ' H', Ech cls d H' → W cls d σ' H') ∧ σ[0]? = some (some (.ref f)) ∧ H c' = some (CodeO c' q) ∧ tl Ech H fun v H' => [v].length ≤ sizeLine ∧ ∀ r, H' r = none → D.rt (.ref r) (upd H' r (.lst [v])))
      (ts := fun a cls d => tAsg (tVar 2) (gName 1)) rfl rfl rfl scHeard.nd rfl rfl ⟨rfl, by decide, .inl gF⟩ L2.takes0 (fun W pn xe tk => ?_) (fun a oe cls d pn _ _ => pss_one (ps_set (i := 1) scHeard.nd rfl (.inl rfl) (pv 2))))
    (pss_cons (ps_set (i := 3) scHeard.nd rfl (.inl rfl) (pe_lst pa_nil))
    (pss_cons (ps_if (pt_val (pe_callB call_isHeldA (by rfl) T.isi (by decide +kernel) (pa_cons (pv 1) (pa_cons (pe_glob (v := .ref B) rfl gB rfl) pa_nil))))
      (pss_one (ps_expr (pe_bm PySem.F.plainAttrs_list PySem.F.slot_list_append PySem.F.type_list_append mt_append (pv 3) (pa_cons (pe_tup (pa_cons pe_str (pa_cons (pe_heldFld (pv 1)) pa_nil))) pa_nil)))) pss_nil)
    (pss_cons (ps_if (pt_val (pe_callB call_isHeldA (by rfl) T.isi (by decide +kernel) (pa_cons (pv 1) (pa_cons (pe_glob (v := .ref N) rfl gN rfl) pa_nil))))
      (pss_one (ps_expr (pe_bm PySem.F.plainAttrs_list PySem.F.slot_list_append PySem.F.type_list_append mt_append (pv 3) (pa_cons (pe_tup (pa_cons pe_str (pa_cons (pe_callB (call_reprV gd (Room.units (hr.deeper _))) (by rfl) mr (by decide +kernel) (pa_cons (pe_heldFld (pv 1)) pa_nil)) pa_nil))) pa_nil)))) pss_nil)
    (pss_cons (ps_if (pt_val (pe_callB call_isHeldA (by rfl) T.isi (by decide +kernel) (pa_cons (pv 1) (pa_cons (pe_glob (v := .ref Z) rfl gZ rfl) pa_nil))))
      (pss_one (ps_expr (pe_bm PySem.F.plainAttrs_list PySem.F.slot_list_append PySem.F.type_list_append mt_append (pv 3) (pa_cons (pe_tup (pa_cons pe_str (pa_cons pe_str pa_nil))) pa_nil)))) pss_nil)
    (pss_one (ps_ret (pe_ifExp (pt_cmpR op_eq (pe_callB call_len_seq (by rfl) T.len PySem.boot_len (pa_cons (pv 3) pa_nil)) pe_int (nomark _))
      (pe_ix ix_list (pv 3) pe_int (fun _ _ => rfl)) pe_never)))))))), ?_⟩
  · refine ⟨fun pins s' σ H' D I h' => ?_⟩
    obtain ⟨Ech, hW, h1, h2, h3⟩ := h'
    exact (pss_one (ps_ret (pe_lst (pa_cons (act W pn xe Ech _ _ tk hW) pa_nil)))).run pins s' σ H' D I ⟨h1, h2, h3⟩
  · refine ⟨_, fun cls d σ' H' z hlen => ?_, rfl, hc, h⟩
    have te : PySem.W.exmOne X.K cls (.ref FE) = some true := by
      rcases z with ⟨dd, v, n, w, x, rfl, ed, hcls, fin⟩ | ⟨rfl, rfl, fin⟩
      · rcases hcls with ⟨rfl, _⟩ | ⟨rfl, _⟩ <;> assumption
      · exact teZ
    obtain ⟨x0, x1, x2, x3, rfl⟩ := four hlen
    rcases z with ⟨dd, v, n, w, x, rfl, ed, hcls, fin⟩ | ⟨rfl, rfl, fin⟩
    · refine ⟨true, te, (fun z => by cases z), fun _ a na => ⟨_, rfl, fun _ => ?_⟩⟩
      have sA : Same H' (upd H' a (Held cls (some dd) a)) := same_new na
      have hA : upd H' a (Held cls (some dd) a) a = some (Held cls (some dd) a) := upd_same
      have hD := sA _ _ ed
      generalize upd H' a (Held cls (some dd) a) = HA at sA hA hD
      refine ⟨(by show 0 ≤ sizeLine; decide), fun l nl => ?_⟩
      have hA1 := same_new (o := .lst []) nl _ _ hA
      have hD1 := same_new (o := .lst []) nl _ _ hD
      have sB := sA.trans (same_new (o := .lst []) nl)
      have hl : upd HA l (.lst []) l = some (.lst []) := upd_same
      generalize upd HA l (.lst []) = HB at hA1 hD1 sB hl
      have nlH : H' l = none := Same.gone sA nl
      have tail : ∀ (tq : Addr), HB tq = none →
          upd (upd HB tq (.tup [.str w, .str x])) l (.lst [.ref tq]) a = some (Held cls (some dd) a) ∧ upd (upd HB tq (.tup [.str w, .str x])) l (.lst [.ref tq]) dd = some (.xd [(n, v)]) ∧ upd (upd HB tq (.tup [.str w, .str x])) l (.lst [.ref tq]) l = some (.lst [.ref tq]) ∧
          Q (.ref tq) (upd (upd HB tq (.tup [.str w, .str x])) l (.lst [.ref tq])) := by
        intro tq ntq
        have ltq : l ≠ tq := ne_of_none hl ntq
        have hq : upd (upd HB tq (.tup [.str w, .str x])) l (.lst [.ref tq]) tq = some (.tup [.str w, .str x]) := by rw [upd_ne ltq.symm]; exact upd_same
        refine ⟨?_, ?_, upd_same, ?_⟩
        · rw [upd_ne (fun z => by rw [z, hl] at hA1; exact held_lst (Option.some.inj hA1)), upd_ne (ne_of_none hA1 ntq)]; exact hA1
        · rw [upd_ne (fun z => by rw [z, hl] at hD1; cases hD1), upd_ne (ne_of_none hD1 ntq)]; exact hD1
        · refine fin tq _ (fun b o e => ?_) (Same.gone sB ntq) hq
          rw [upd_ne (ne_of_none e nlH), upd_ne (ne_of_none (sB _ _ e) ntq)]; exact sB _ _ e
      rcases hcls with ⟨rfl, rfl, rfl, rfl⟩ | ⟨rfl, rfl, rfl, sh⟩
      · refine ⟨_, rfl, a, B, some dd, _, _, true, rfl, hA1, .inr ⟨dd, _, rfl, hD1⟩, HB', .own B, iBB, _, rfl, iteT ?_⟩
        refine ⟨_, rfl, .inl ⟨rfl, _, SqL.of hl⟩, _, rfl, a, B, dd, _, .str x, rfl, hA1, hD1, HB', noB, rfl, (by show 2 ≤ sizeLine; decide), fun tq ntq => ?_⟩
        obtain ⟨hA3, hD3, hl3, hQ⟩ := tail tq ntq
        refine ⟨l, _, _, rfl, rfl, same_new ntq _ _ hl, (by show 0 < sizeLine; decide), ?_⟩
        refine ⟨_, rfl, a, B, some dd, _, _, false, rfl, hA3, .inr ⟨dd, _, rfl, hD3⟩, HB', .own N, iBN, _, rfl, iteF ?_⟩
        refine ⟨_, rfl, a, B, some dd, _, _, false, rfl, hA3, .inr ⟨dd, _, rfl, hD3⟩, HB', .own Z, iBZ, _, rfl, iteF ?_⟩
        refine ⟨_, rfl, l, _, rfl, .inl (SqL.of hl3), rfl, _, rfl, iteT ?_⟩
        exact ⟨_, rfl, l, _, 0, _, rfl, rfl, SqL.of hl3, atI_nat (j := 0) rfl, hQ⟩
      · obtain ⟨d, vd, v1, v2, v3, v4⟩ := sh.keep sB
        refine ⟨_, rfl, a, N, some dd, _, _, false, rfl, hA1, .inr ⟨dd, _, rfl, hD1⟩, HN, .own B, iNB, _, rfl, iteF ?_⟩
        refine ⟨_, rfl, a, N, some dd, _, _, true, rfl, hA1, .inr ⟨dd, _, rfl, hD1⟩, HN, .own N, iNN, _, rfl, iteT ?_⟩
        refine ⟨_, rfl, .inl ⟨rfl, _, SqL.of hl⟩, _, rfl, a, N, dd, _, v, rfl, hA1, hD1, HN, noN, rfl, v, d, rfl, vd, v1, v2, v3, (by show 2 ≤ sizeLine; decide), fun tq ntq => ?_⟩
        rw [v4]
        obtain ⟨hA3, hD3, hl3, hQ⟩ := tail tq ntq
        refine ⟨l, _, _, rfl, rfl, same_new ntq _ _ hl, (by show 0 < sizeLine; decide), ?_⟩
        refine ⟨_, rfl, a, N, some dd, _, _, false, rfl, hA3, .inr ⟨dd, _, rfl, hD3⟩, HN, .own Z, iNZ, _, rfl, iteF ?_⟩
        refine ⟨_, rfl, l, _, rfl, .inl (SqL.of hl3), rfl, _, rfl, iteT ?_⟩
        exact ⟨_, rfl, l, _, 0, _, rfl, rfl, SqL.of hl3, atI_nat (j := 0) rfl, hQ⟩
    · refine ⟨true, te, (fun z => by cases z), fun _ a na => ⟨_, rfl, fun _ => ?_⟩⟩
      have sA : Same H' (upd H' a (Held (.ref Z) none a)) := same_new na
      have hA : upd H' a (Held (.ref Z) none a) a = some (Held (.ref Z) none a) := upd_same
      generalize upd H' a (Held (.ref Z) none a) = HA at sA hA
      refine ⟨(by show 0 ≤ sizeLine; decide), fun l nl => ?_⟩
      have hA1 := same_new (o := .lst []) nl _ _ hA
      have sB := sA.trans (same_new (o := .lst []) nl)
      have hl : upd HA l (.lst []) l = some (.lst []) := upd_same
      generalize upd HA l (.lst []) = HB at hA1 sB hl
      have nlH : H' l = none := Same.gone sA nl
      refine ⟨_, rfl, a, Z, none, _, _, false, rfl, hA1, .inl rfl, HZ, .own B, iZB, _, rfl, iteF ?_⟩
      refine ⟨_, rfl, a, Z, none, _, _, false, rfl, hA1, .inl rfl, HZ, .own N, iZN, _, rfl, iteF ?_⟩
      refine ⟨_, rfl, a, Z, none, _, _, true, rfl, hA1, .inl rfl, HZ, .own Z, iZZ, _, rfl, iteT ?_⟩
      refine ⟨_, rfl, .inl ⟨rfl, _, SqL.of hl⟩, (by show 2 ≤ sizeLine; decide), fun tq ntq => ?_⟩
      refine ⟨l, _, _, rfl, rfl, same_new ntq _ _ hl, (by show 0 < sizeLine; decide), ?_⟩
      have ltq : l ≠ tq := ne_of_none hl ntq
      have hl3 : upd (upd HB tq (.tup [.str "nothing", .str ""])) l (.lst ([] ++ [.ref tq])) l = some (.lst [.ref tq]) := upd_same
      have hq : upd (upd HB tq (.tup [.str "nothing", .str ""])) l (.lst ([] ++ [.ref tq])) tq = some (.tup [.str "nothing", .str ""]) := by rw [upd_ne ltq.symm]; exact upd_same
      refine ⟨_, rfl, l, _, rfl, .inl (SqL.of hl3), rfl, _, rfl, iteT ?_⟩
      refine ⟨_, rfl, l, _, 0, _, rfl, rfl, SqL.of hl3, atI_nat (j := 0) rfl, fin tq _ (fun b o e => ?_) (Same.gone sB ntq) hq⟩
      rw [upd_ne (ne_of_none e nlH), upd_ne (ne_of_none (sB _ _ e) ntq)]; exact sB _ _ e
end
end Ev
namespace Ev
open PySem L2 PySem.Spec PyProof.Rows
theorem Pen.new {L : Addr} {H : Hp} {p q : Addr} {B : Int} {o : HO} (h : Pen L H p B) (n : H q = none) : Pen L (upd H q o) p B := h.keep (fun b u e => by rw [upd_ne (ne_of_none e n)]; exact e)
theorem Pen.some {L : Addr} {H : Hp} {p : Addr} {B : Int} (h : Pen L H p B) : ∃ xs, H p = some (.lst xs) := by
  obtain ⟨ns, t, c, h1, _⟩ := h
  exact ⟨_, h1⟩
theorem Pen.ne {L : Addr} {H : Hp} {p q : Addr} {B : Int} (h : Pen L H p B) (n : H q = none) : q ≠ p := by
  obtain ⟨xs, e⟩ := h.some
  exact (ne_of_none e n).symm
theorem But.free {L p a : Addr} {H H' : Hp} {B : Int} (t : But p H H') (h : Pen L H' p B) (n : H' a = none) : H a = none := by
  cases e : H a with
  | none => rfl
  | some o =>
    have := t a o (h.ne n) e
    rw [n] at this
    cases this
def spPick : Sp := fun vs H Q _ => ∃ (p l L : Addr) (xs : List V) (B : Int), vs = [.ref p, .ref l] ∧ H l = some (.lst xs) ∧ l ≠ p ∧ 1 ≤ xs.length ∧ xs.length ≤ 1000 ∧ B ≤ 1000000 ∧ Pen L H p B ∧
  ∀ (d : V) (H' : Hp), d ∈ xs → But p H H' → Pen L H' p (B + 1) → Q d H'
def spPen (K : PySem.W.Frag) : Sp := fun vs H Q _ => ∃ (a : Addr) (ns : List Int), vs = [.ref a] ∧ SqL K H a (ns.map V.int) ∧ ns.length ≤ 63 ∧
  ∀ (p L : Addr) (H' : Hp), H p = none → Same H H' → Pen L H' p 0 → Q (.ref p) H'
def spLaw (K : PySem.W.Frag) : Sp := fun vs H Q _ => ∃ (a : Addr) (ns : List Int), vs = [.ref a] ∧ SqL K H a (ns.map V.int) ∧ ns.length ≤ 63 ∧ ∀ H', Q (.bl true) H'
theorem But.tup {L p a : Addr} {H H' : Hp} {B : Int} {xs : List V} (h : H a = some (.tup xs)) (pn : Pen L H p B) (t : But p H H') : H' a = some (.tup xs) := by
  obtain ⟨ys, e⟩ := pn.some
  exact t _ _ (ne_of h e (by intro z; cases z)) h
theorem Pen.put {L p D : Addr} {H : Hp} {B : Int} {o : HO} (h : Pen L H p B) (d1 : D ≠ p) (d2 : D ≠ L) : Pen L (upd H D o) p B := by
  obtain ⟨ns, t, c, h1, h2, h3⟩ := h
  exact ⟨ns, t, c, by rw [upd_ne d1.symm]; exact h1, by rw [upd_ne d2.symm]; exact h2, h3⟩
theorem Pen.neL {L p D : Addr} {H : Hp} {B : Int} (h : Pen L H p B) (n : H D = none) : D ≠ L := by
  obtain ⟨ns, t, c, h1, h2, h3⟩ := h
  exact (ne_of_none h2 n).symm
theorem cut_ints (ns : List Int) (h : Int) : ∃ ms : List Int, cutV (ns.map V.int) none (some h) = ms.map V.int ∧ ms.length ≤ ns.length := by
  unfold cutV
  generalize HT.sIx (ns.map V.int).length 0 none = x
  generalize HT.sIx (ns.map V.int).length (ns.map V.int).length (some h) - x = y
  refine ⟨(ns.drop x).take y, ?_, ?_⟩
  · rw [List.map_take, List.map_drop]
  · rw [List.length_take, List.length_drop]; omega
theorem int_at {ns : List Int} {i : Nat} {x : V} (h : (ns.map V.int)[i]? = some x) : ∃ n, ns[i]? = some n ∧ x = .int n := by
  rw [List.getElem?_map] at h
  cases z : ns[i]? with
  | none => rw [z] at h; cases h
  | some n => rw [z] at h; exact ⟨n, rfl, (Option.some.inj h).symm⟩
theorem m64 {q : Int} (h1 : 1 ≤ q) (h2 : q ≤ 8) : -(2 ^ 64) < q ∧ q < 2 ^ 64 := ⟨by omega, by omega⟩
section
variable {P : Program} {w : World} {K : PySem.W.Frag} {mg : Str → Option Value} {base : Heap}
theorem scPick : FnScope ["_law_pen_here", "_law_some"] ["_law_pen_here", "_law_some"] (defScope sPick) := ⟨rfl, rfl, rfl, by decide +kernel, rfl, by decide +kernel, by decide +kernel⟩
theorem ok_pick {f : Addr} {fd : FuncData} (F : Fun K "_law_pick" "_law_pick" sPick f fd) (T : Blt mg) (D : Df P w K mg base 1 "_law_draw" ["_law_pen_here", "_law_many"] spDraw) : FnOk P w K mg base CX0 2 f fd ["_law_pen_here", "_law_some"] spPick := by
  obtain ⟨f1, fd1, G1, g1, k1, b1⟩ := D.ex
  refine F.ok scPick (fun vs H Q E h => ?_) (fun cdv A outer s H vs Q E hr h => ?_)
  · obtain ⟨p, l, L, xs, B, rfl, _⟩ := h
    rfl
  · obtain ⟨p, l, L, xs, B, rfl, hl, hne, x1, x2, hB, hp, kk⟩ := h
    refine ⟨_, pss_one (ps_ret (pe_ix ix_list (pv 1) (pe_call G1 hr (by rfl) g1 k1 b1 .nil pass0 (pa_cons (pv 0) (pa_cons (pe_callB call_len_seq (by rfl) T.len PySem.boot_len (pa_cons (pv 1) pa_nil)) pa_nil))) (fun _ _ => rfl))), ?_⟩
    refine ⟨_, rfl, _, rfl, _, rfl, l, _, rfl, .inl (SqL.of hl), p, L, _, B, rfl, by omega, by omega, hB, hp, fun d H1 bt pn d0 d1 => ?_⟩
    obtain ⟨j, rfl⟩ := Int.eq_ofNat_of_zero_le d0
    have hj : j < xs.length := by omega
    refine ⟨l, xs, _, xs[j], rfl, rfl, SqL.of (bt _ _ hne hl), atI_nat (List.getElem?_eq_getElem hj), ?_⟩
    exact kk _ _ (List.getElem_mem hj) bt pn
theorem scPen : FnScope ["_law_script"] ["_law_script"] (defScope sPen) := ⟨rfl, rfl, rfl, by decide +kernel, rfl, by decide +kernel, by decide +kernel⟩
theorem ok_pen {f : Addr} {fd : FuncData} (F : Fun K "_law_pen" "_law_pen" sPen f fd) (T : Blt mg) : FnOk P w K mg base CX0 1 f fd ["_law_script"] (spPen K) := by
  refine F.ok scPen (fun vs H Q E h => ?_) (fun cdv A outer s H vs Q E hr h => ?_)
  · obtain ⟨a, ns, rfl, _⟩ := h
    rfl
  · obtain ⟨a, ns, rfl, hS, hlen, kk⟩ := h
    refine ⟨_, pss_one (ps_ret (pe_lst (pa_cons (pe_callTy call_list_of (by rfl) T.list (by decide +kernel) (pa_cons (pe_slice sl_list (pv 0) po_none (po_some pe_int)) pa_nil)) (pa_cons pe_int (pa_cons pe_int pa_nil))))), ?_⟩
    refine ⟨_, rfl, _, rfl, a, _, rfl, hS, fun l1 nl1 => ⟨l1, _, rfl, .inl (SqL.of upd_same), fun l2 nl2 => ⟨(by show 3 ≤ sizeLine; decide), fun p np => ?_⟩⟩⟩
    obtain ⟨ms, e1, e2⟩ := cut_ints ns 63
    rw [e1] at nl2 np ⊢
    have s1 : Same H (upd (upd H l1 (.lst (ms.map V.int))) l2 (.lst (ms.map V.int))) := (same_new nl1).trans (same_new nl2)
    have s2 := s1.trans (same_new (o := .lst [.ref l2, .int 0, .int 0]) np)
    refine kk p l2 _ ?_ s2 ⟨ms, 0, 0, upd_same, by rw [upd_ne (ne_of_none upd_same np)]; exact upd_same, ne_of_none upd_same np, by omega, by decide, by decide, by decide⟩
    cases z : H p with
    | none => rfl
    | some o => rw [s1 _ _ z] at np; cases np
end
end Ev
namespace Ev
open PySem L2 PySem.Spec PyProof.Rows RZ
def tupR (r : Fr) : List V := [.int r.p, .int r.q, .int r.k, .int r.c, .int r.j]
def spLNums : Sp := fun vs H Q _ => ∃ (p L : Addr) (B : Int), vs = [.ref p] ∧ B ≤ 900000 ∧ Pen L H p B ∧
  ∀ (a : Addr) (r : Fr) (H' : Hp), r.ok → H a = none → H' a = some (.tup (tupR r)) → But p H H' → Pen L H' p (B + 10) → Q (.ref a) H'
def spLRule (C : Addr) : Sp := fun vs H Q _ => ∃ (a : Addr) (r : Fr), vs = [.ref a] ∧ H a = some (.tup (tupR r)) ∧ r.ok ∧ ∀ x H', Same H H' → FAt C H' x r → Q (.ref x) H'
theorem i5_0 {a b c d e : V} : atI [a, b, c, d, e] 0 = some a := atI_nat (j := 0) rfl
theorem i5_1 {a b c d e : V} : atI [a, b, c, d, e] 1 = some b := atI_nat (j := 1) rfl
theorem i5_2 {a b c d e : V} : atI [a, b, c, d, e] 2 = some c := atI_nat (j := 2) rfl
theorem i5_3 {a b c d e : V} : atI [a, b, c, d, e] 3 = some d := atI_nat (j := 3) rfl
theorem i5_4 {a b c d e : V} : atI [a, b, c, d, e] 4 = some e := atI_nat (j := 4) rfl
section
variable {P : Program} {w : World} {K : PySem.W.Frag} {mg : Str → Option Value} {base : Heap}
theorem scLNumbers : FnScope ["_law_pen_here", "_law_kind", "_law_pair", "_law_extra"] ["_law_pen_here"] (defScope sLNumbers) := ⟨rfl, rfl, rfl, by decide +kernel, rfl, by decide +kernel, by decide +kernel⟩
theorem ok_lnums {f : Addr} {fd : FuncData} (F : Fun K "_law_numbers" "_law_numbers" sLNumbers f fd) (T : Blt mg) (D1 : Df P w K mg base 1 "_law_draw" ["_law_pen_here", "_law_many"] spDraw) : FnOk P w K mg base CX0 2 f fd ["_law_pen_here"] spLNums := by
  obtain ⟨f1, fd1, G1, g1, k1, b1⟩ := D1.ex
  refine F.ok scLNumbers (fun vs H Q E h => ?_) (fun cdv A outer s H vs Q E hr h => ?_)
  · obtain ⟨p, L, B, rfl, _⟩ := h
    rfl
  · obtain ⟨p, L, B, rfl, hB, pn, kk⟩ := h
    -- from the pair on
    obtain ⟨tR, hR, qR⟩ : ∃ t : TS, PSs (cxOf CX0 P w K mg base ["_law_pen_here", "_law_kind", "_law_pair", "_law_extra"] "_law_numbers" (defScope sLNumbers) f cdv A outer s H E).nox ((defBody sLNumbers).drop 3) t ∧ ∀ (G : Hp) (a : Addr) (u v kd : Int), G a = some (.tup [.int u, .int v]) → 1 ≤ u ∧ u ≤ 12 → 1 ≤ v ∧ v ≤ 12 → But p H G → Pen L G p (B + 4) →
        t { nx := fun _ H' => Q .non H', rt := Q } [some (.ref p), some (.int kd), some (.ref a), none] G := by
      refine ⟨_, (pss_cons (ps_set (i := 3) scLNumbers.nd rfl (.inl rfl) (pe_ifExp (pt_cmpR op_eq (pe_call G1 hr (by rfl) g1 k1 b1 .nil pass0 (pa_cons (pv 0) (pa_cons pe_int pa_nil))) pe_int (nomark _)) (pe_op op_sub (pe_call G1 hr (by rfl) g1 k1 b1 .nil pass0 (pa_cons (pv 0) (pa_cons pe_int pa_nil))) pe_int) pe_int))
        (pss_one (ps_ret (pe_tup (pa_cons (pe_ix ix_tup (pv 2) pe_int (fun _ _ => rfl)) (pa_cons (pe_ix ix_tup (pv 2) pe_int (fun _ _ => rfl)) (pa_cons (pv 3) (pa_cons (pe_op op_add pe_int (pe_call G1 hr (by rfl) g1 k1 b1 .nil pass0 (pa_cons (pv 0) (pa_cons pe_int pa_nil)))) (pa_cons (pe_op op_add pe_int (pe_call G1 hr (by rfl) g1 k1 b1 .nil pass0 (pa_cons (pv 0) (pa_cons pe_int pa_nil)))) pa_nil))))))))), ?_⟩
      intro G a u v kd ha hu hv bt pn
      have fin : ∀ (G2 : Hp) (e : Int), -12 ≤ e → e ≤ 12 → But p H G2 → G2 a = some (.tup [.int u, .int v]) → Pen L G2 p (B + 6) → ∀ (d1 d2 : Int) (G3 G4 : Hp), 0 ≤ d1 → d1 < 5 → 0 ≤ d2 → d2 < 5 → But p G2 G3 → But p G3 G4 → Pen L G4 p (B + 8) → ∀ t, G4 t = none → Q (.ref t) (upd G4 t (.tup [.int u, .int v, .int e, .int (1 + d1), .int (2 + d2)])) := by
        intro G2 e e1 e2 bt2 ha2 pn2 d1 d2 G3 G4 h1 h2 h3 h4 bt3 bt4 pn4 t nt
        have b4 : But p H G4 := bt2.trans (bt3.trans bt4)
        exact kk t ⟨u, v, e, 1 + d1, 2 + d2⟩ _ ⟨hu.1, hu.2, hv.1, hv.2, e1, e2, by show 1 ≤ 1 + d1; omega, by show 1 + d1 ≤ 5; omega, by show 2 ≤ 2 + d2; omega, by show 2 + d2 ≤ 6; omega⟩ (b4.free pn4 nt) upd_same (b4.trans (But.upd_new nt)) ((pn4.new nt).mono (by omega))
      refine ⟨_, rfl, p, L, _, _, rfl, by decide, by decide, by omega, pn, fun d G1 t1 p1 a1 c1 => ⟨rfl, _, rfl, ite2 (fun e => ?_) (fun e => ?_)⟩⟩
      · refine ⟨_, rfl, p, L, _, _, rfl, by decide, by decide, by omega, p1, fun d2 G2 t2 p2 a2 c2 => ⟨_, _, rfl, rfl, ?_⟩⟩
        have bt2 := bt.trans (t1.trans t2)
        have ha2 : G2 a = some (.tup [.int u, .int v]) := But.tup ha pn (t1.trans t2)
        refine ⟨_, rfl, a, _, _, _, rfl, rfl, SqT.of ha2, tup0, _, rfl, a, _, _, _, rfl, rfl, SqT.of ha2, tup1, _, rfl, _, rfl, p, L, _, _, rfl, by decide, by decide, by omega, p2, fun d3 G3 t3 p3 a3 c3 => ⟨_, _, rfl, rfl, ?_⟩⟩
        refine ⟨_, rfl, p, L, _, _, rfl, by decide, by decide, by omega, p3, fun d4 G4 t4 p4 a4 c4 => ⟨_, _, rfl, rfl, (by show 5 ≤ sizeLine; decide), fun t nt => ?_⟩⟩
        exact fin G2 (d2 - 12) (by omega) (by omega) bt2 ha2 (p2.mono (by omega)) d3 d4 G3 G4 a3 c3 a4 c4 t3 t4 (p4.mono (by omega)) t nt
      · have bt2 := bt.trans t1
        have ha2 : G1 a = some (.tup [.int u, .int v]) := But.tup ha pn t1
        refine ⟨_, rfl, a, _, _, _, rfl, rfl, SqT.of ha2, tup0, _, rfl, a, _, _, _, rfl, rfl, SqT.of ha2, tup1, _, rfl, _, rfl, p, L, _, _, rfl, by decide, by decide, by omega, p1, fun d3 G3 t3 p3 a3 c3 => ⟨_, _, rfl, rfl, ?_⟩⟩
        refine ⟨_, rfl, p, L, _, _, rfl, by decide, by decide, by omega, p3, fun d4 G4 t4 p4 a4 c4 => ⟨_, _, rfl, rfl, (by show 5 ≤ sizeLine; decide), fun t nt => ?_⟩⟩
        exact fin G1 0 (by omega) (by omega) bt2 ha2 (p1.mono (by omega)) d3 d4 G3 G4 a3 c3 a4 c4 t3 t4 (p4.mono (by omega)) t nt
    refine ⟨_, (pss_cons (ps_set (i := 1) scLNumbers.nd rfl (.inl rfl) (pe_call G1 hr (by rfl) g1 k1 b1 .nil pass0 (pa_cons (pv 0) (pa_cons pe_int pa_nil))))
      (pss_cons (ps_set (i := 2) scLNumbers.nd rfl (.inl rfl) (pe_ix ix_list (pe_lst (pa_cons (pe_tup (pa_cons pe_int (pa_cons pe_int pa_nil))) (pa_cons (pe_tup (pa_cons pe_int (pa_cons pe_int pa_nil))) (pa_cons (pe_tup (pa_cons pe_int (pa_cons pe_int pa_nil))) (pa_cons (pe_tup (pa_cons pe_int (pa_cons pe_int pa_nil))) (pa_cons (pe_tup (pa_cons pe_int (pa_cons pe_int pa_nil))) pa_nil)))))) (pv 1) (fun _ _ => rfl)))
      (pss_cons (ps_if (pt_cmpR op_gt (pv 1) pe_int (nomark _))
        (pss_one (ps_set (i := 2) scLNumbers.nd rfl (.inl rfl) (pe_tup (pa_cons (pe_op op_add pe_int (pe_call G1 hr (by rfl) g1 k1 b1 .nil pass0 (pa_cons (pv 0) (pa_cons pe_int pa_nil)))) (pa_cons (pe_op op_add pe_int (pe_call G1 hr (by rfl) g1 k1 b1 .nil pass0 (pa_cons (pv 0) (pa_cons pe_int pa_nil)))) pa_nil))))) pss_nil)
      hR))), ?_⟩
    refine ⟨_, rfl, p, L, _, _, rfl, by decide, by decide, by omega, pn, fun d H1 t1 p1 a1 c1 => ?_⟩
    refine ⟨(by show 2 ≤ sizeLine; decide), fun x1 n1 => ⟨(by show 2 ≤ sizeLine; decide), fun x2 n2 => ⟨(by show 2 ≤ sizeLine; decide), fun x3 n3 => ⟨(by show 2 ≤ sizeLine; decide), fun x4 n4 => ⟨(by show 2 ≤ sizeLine; decide), fun x5 n5 => ⟨(by show 5 ≤ sizeLine; decide), fun l nl => ?_⟩⟩⟩⟩⟩⟩
    -- five pairs
    have e1 : upd H1 x1 (.tup [.int 1, .int 2]) x1 = some (.tup [.int 1, .int 2]) := upd_same
    have s1 : Same H1 (upd H1 x1 (.tup [.int 1, .int 2])) := same_new n1
    generalize upd H1 x1 (.tup [.int 1, .int 2]) = G1 at e1 s1 n2 n3 n4 n5 nl ⊢
    have e2 : upd G1 x2 (.tup [.int 2, .int 3]) x2 = some (.tup [.int 2, .int 3]) := upd_same
    have s2 : Same G1 (upd G1 x2 (.tup [.int 2, .int 3])) := same_new n2
    generalize upd G1 x2 (.tup [.int 2, .int 3]) = G2 at e2 s2 n3 n4 n5 nl ⊢
    have e3 : upd G2 x3 (.tup [.int 3, .int 4]) x3 = some (.tup [.int 3, .int 4]) := upd_same
    have s3 : Same G2 (upd G2 x3 (.tup [.int 3, .int 4])) := same_new n3
    generalize upd G2 x3 (.tup [.int 3, .int 4]) = G3 at e3 s3 n4 n5 nl ⊢
    have e4 : upd G3 x4 (.tup [.int 1, .int 1]) x4 = some (.tup [.int 1, .int 1]) := upd_same
    have s4 : Same G3 (upd G3 x4 (.tup [.int 1, .int 1])) := same_new n4
    generalize upd G3 x4 (.tup [.int 1, .int 1]) = G4 at e4 s4 n5 nl ⊢
    have e5 : upd G4 x5 (.tup [.int 1, .int 1]) x5 = some (.tup [.int 1, .int 1]) := upd_same
    have s5 : Same G4 (upd G4 x5 (.tup [.int 1, .int 1])) := same_new n5
    generalize upd G4 x5 (.tup [.int 1, .int 1]) = G5 at e5 s5 nl ⊢
    have s6 : Same G5 (upd G5 l (.lst [.ref x1, .ref x2, .ref x3, .ref x4, .ref x5])) := same_new nl
    have hl : upd G5 l (.lst [.ref x1, .ref x2, .ref x3, .ref x4, .ref x5]) l = some (.lst [.ref x1, .ref x2, .ref x3, .ref x4, .ref x5]) := upd_same
    generalize upd G5 l (.lst [.ref x1, .ref x2, .ref x3, .ref x4, .ref x5]) = G6 at s6 hl ⊢
    have sa : Same H1 G6 := s1.trans (s2.trans (s3.trans (s4.trans (s5.trans s6))))
    obtain ⟨xa, u, v, hx, ha, hu, hv⟩ : ∃ (xa : Addr) (u v : Int), atI [V.ref x1, .ref x2, .ref x3, .ref x4, .ref x5] d = some (.ref xa) ∧ G6 xa = some (.tup [.int u, .int v]) ∧ (1 ≤ u ∧ u ≤ 12) ∧ (1 ≤ v ∧ v ≤ 12) := by
      rcases (show d = 0 ∨ d = 1 ∨ d = 2 ∨ d = 3 ∨ d = 4 by omega) with rfl | rfl | rfl | rfl | rfl
      · exact ⟨x1, 1, 2, i5_0, (s2.trans (s3.trans (s4.trans (s5.trans s6)))) _ _ e1, by decide, by decide⟩
      · exact ⟨x2, 2, 3, i5_1, (s3.trans (s4.trans (s5.trans s6))) _ _ e2, by decide, by decide⟩
      · exact ⟨x3, 3, 4, i5_2, (s4.trans (s5.trans s6)) _ _ e3, by decide, by decide⟩
      · exact ⟨x4, 1, 1, i5_3, (s5.trans s6) _ _ e4, by decide, by decide⟩
      · exact ⟨x5, 1, 1, i5_4, s6 _ _ e5, by decide, by decide⟩
    have p6 := p1.keep sa
    have b6 := t1.trans (Same.but sa)
    refine ⟨_, rfl, l, _, _, _, rfl, rfl, SqL.of hl, hx, ?_⟩
    refine ⟨_, rfl, _, _, rfl, rfl, _, rfl, ite2 (fun e => ?_) (fun e => ?_)⟩
    · refine ⟨_, rfl, p, L, _, _, rfl, by decide, by decide, by omega, p6, fun d3 G7 t3 p3 a3 c3 => ⟨_, _, rfl, rfl, ?_⟩⟩
      refine ⟨_, rfl, p, L, _, _, rfl, by decide, by decide, by omega, p3, fun d4 G8 t4 p4 a4 c4 => ⟨_, _, rfl, rfl, (by show 2 ≤ sizeLine; decide), fun t nt => ?_⟩⟩
      exact qR _ t (1 + d3) (1 + d4) d upd_same ⟨by omega, by omega⟩ ⟨by omega, by omega⟩ (b6.trans (t3.trans (t4.trans (But.upd_new nt)))) ((p4.new nt).mono (by omega))
    · exact qR G6 xa u v d ha hu hv b6 (p6.mono (by omega))
end
end Ev
namespace Ev
open PySem L2 PySem.Spec PyProof.Rows RZ
def spFillOk (C : Addr) : Sp := fun vs H Q _ => ∃ (x dx a : Addr) (r : Fr), vs = [.ref x, .ref a, .int r.k, .int r.c, .int r.j] ∧ H x = some (.ins C dx []) ∧ H a = some (.tup [.int r.p, .int r.q]) ∧ r.ok ∧
  ∀ H', But x H H' → H' x = some (.ins C dx (fillF a r)) → Q .non H'
theorem pairQ_int {H : Hp} {a : Addr} {i j : Int} (h : H a = some (.tup [.int i, .int j])) : PairQ H (.ref a) (some [.int i, .int j]) := ⟨a, rfl, h, (by show 2 ≤ 1000; decide), fun x m => by
  simp only [List.mem_cons, List.not_mem_nil, or_false] at m
  rcases m with rfl | rfl <;> exact .inl ⟨_, rfl⟩⟩
theorem outF_fr {r : Fr} (o : r.ok) : outF (some [.int r.p, .int r.q]) (.int r.k) (.int r.c) (.int r.j) = .ok := by
  unfold outF
  rw [if_neg (by show ¬ (inB 1 12 (.int r.p) && inB 1 12 (.int r.q)) = false; rw [inB_in o.p1 o.p2, inB_in o.q1 o.q2]; simp), if_neg (by rw [inB_in o.k1 o.k2]; simp), if_neg (by rw [inB_in o.c1 o.c2]; simp), if_neg (by rw [inB_in o.j1 o.j2]; simp)]
theorem fill_ok {C B N : Addr} {vs : List V} {H : Hp} {Q : VK} {E E' : XK} (h : spFillOk C vs H Q E) : spFillInit C B N vs H Q E' := by
  obtain ⟨x, dx, a, r, rfl, hx, ha, o, kk⟩ := h
  refine ⟨x, dx, _, _, _, _, _, rfl, hx, pairQ_int ha, .inl ⟨_, rfl⟩, .inl ⟨_, rfl⟩, .inl ⟨_, rfl⟩, ?_⟩
  rw [outF_fr o]
  intro c j ec ej H' b e
  obtain rfl := V.int.inj ec
  obtain rfl := V.int.inj ej
  exact kk H' b e
section
variable {P : Program} {w : World} {K : PySem.W.Frag} {mg : Str → Option Value} {base : Heap}
theorem scLRule : FnScope ["_law_told"] ["_law_told"] (defScope sLRule) := ⟨rfl, rfl, rfl, by decide +kernel, rfl, by decide +kernel, by decide +kernel⟩
theorem ok_lrule {f C fI : Addr} {fd fdI : FuncData} {g : List Value → List Value → List Value} (F : Fun K "_law_rule" "_law_rule" sLRule f fd) (gC : mg "FillRule" = some (.ref C)) (M : Mk K C fI)
    (GI : FnOk P w K mg base CX0 5 fI fdI ["self", "times", "plus", "cut_of", "join_of"] (spFillOk C)) (bI : KBn K fdI ["self", "times", "plus", "cut_of", "join_of"] 3 ["cut_of", "join_of"] g (fun vs zs => vs ++ zs)) :
    FnOk P w K mg base CX0 7 f fd ["_law_told"] (spLRule C) := by
  refine F.ok scLRule (fun vs H Q E h => ?_) (fun cdv A outer s H vs Q E hr h => ?_)
  · obtain ⟨a, r, rfl, _⟩ := h
    rfl
  · obtain ⟨a, r, rfl, ha, o, kk⟩ := h
    refine ⟨_, (pss_one (ps_ret (pe_makeN (n := 2) M GI hr (by rfl) gC bI pass0 (pa_cons (pe_tup (pa_cons (pe_ix ix_tup (pv 0) pe_int (fun _ _ => rfl)) (pa_cons (pe_ix ix_tup (pv 0) pe_int (fun _ _ => rfl)) pa_nil))) (pa_cons (pe_ix ix_tup (pv 0) pe_int (fun _ _ => rfl)) pa_nil)) (pk_cons (pe_ix ix_tup (pv 0) pe_int (fun _ _ => rfl)) (pk_cons (pe_ix ix_tup (pv 0) pe_int (fun _ _ => rfl)) pk_nil))))), ?_⟩
    refine ⟨_, rfl, a, _, _, _, rfl, rfl, SqT.of ha, i5_0, _, rfl, a, _, _, _, rfl, rfl, SqT.of ha, i5_1, (by show 2 ≤ sizeLine; decide), fun t nt => ?_⟩
    have s1 : Same H (upd H t (.tup [.int r.p, .int r.q])) := same_new nt
    have ht : upd H t (.tup [.int r.p, .int r.q]) t = some (.tup [.int r.p, .int r.q]) := upd_same
    generalize upd H t (.tup [.int r.p, .int r.q]) = H1 at s1 ht ⊢
    have ha1 := s1 _ _ ha
    refine ⟨_, rfl, a, _, _, _, rfl, rfl, SqT.of ha1, i5_2, _, rfl, a, _, _, _, rfl, rfl, SqT.of ha1, i5_3, _, rfl, a, _, _, _, rfl, rfl, SqT.of ha1, i5_4, rfl, rfl, fun x dx nx ndx nex => ?_⟩
    have keep : ∀ (o1 o2 : HO) (b : Addr) (u : HO), H1 b = some u → upd (upd H1 dx o1) x o2 b = some u := fun o1 o2 b u e => by
      rw [upd_ne (ne_of_none e nx), upd_ne (ne_of_none e ndx)]; exact e
    refine ⟨x, dx, t, r, rfl, upd_same, keep _ _ _ _ ht, o, fun H3 t3 hx3 => ⟨rfl, ?_⟩⟩
    have s3 : ∀ b u, H1 b = some u → H3 b = some u := fun b u e => t3 _ _ (ne_of_none e nx) (keep _ _ _ _ e)
    exact kk x H3 (fun b u e => s3 _ _ (s1 _ _ e)) ⟨dx, t, hx3, s3 _ _ ht⟩
end
end Ev
namespace Ev
open PySem L2 PySem.Spec PyProof.Rows
theorem try_times (t k : V) : (tryV t k).lookup ("times" : Str) = some t := lk_hit
theorem try_plus (t k : V) : (tryV t k).lookup ("plus" : Str) = some k := (lk_miss (by decide +kernel)).trans lk_hit
theorem turn_times (t k u c : V) : (turnV t k u c).lookup ("times" : Str) = some t := lk_hit
theorem turn_plus (t k u c : V) : (turnV t k u c).lookup ("plus" : Str) = some k := (lk_miss (by decide +kernel)).trans lk_hit
theorem turn_turn (t k u c : V) : (turnV t k u c).lookup ("turn" : Str) = some u := (lk_miss (by decide +kernel)).trans ((lk_miss (by decide +kernel)).trans lk_hit)
theorem turn_tp (t k u c : V) : (turnV t k u c).lookup ("turn_plus" : Str) = some c := (lk_miss (by decide +kernel)).trans ((lk_miss (by decide +kernel)).trans ((lk_miss (by decide +kernel)).trans lk_hit))
theorem put_try (t k : V) : putF "plus" k (putF "times" t []) = tryV t k := by
  show (if ("times" : Str) = "plus" then _ else _) = _
  rw [if_neg (by decide +kernel)]
  rfl
theorem put_turn1 (t k u : V) : putF "turn" u (tryV t k) = ([("times", t), ("plus", k), ("turn", u)] : List (Str × V)) := by
  show (if ("times" : Str) = "turn" then _ else _ :: (if ("plus" : Str) = "turn" then _ else _)) = _
  rw [if_neg (by decide +kernel), if_neg (by decide +kernel)]
  rfl
theorem put_turn2 (t k u c : V) : putF "turn_plus" c (putF "turn" u (tryV t k)) = turnV t k u c := by
  rw [put_turn1]
  show (if ("times" : Str) = "turn_plus" then _ else _ :: (if ("plus" : Str) = "turn_plus" then _ else _ :: (if ("turn" : Str) = "turn_plus" then _ else _))) = _
  rw [if_neg (by decide +kernel), if_neg (by decide +kernel), if_neg (by decide +kernel)]
  rfl
/-- a class of rules -/
structure RCls (K : PySem.W.Frag) (C : Addr) : Prop where
  cl : Cls K C
  n1 : NoAttr K C "times"
  n2 : NoAttr K C "plus"
  n3 : NoAttr K C "turn"
  n4 : NoAttr K C "turn_plus"
theorem times_is {o : Option (List V)} (h : timesB o = true) : ∃ p q : Int, o = some [.int p, .int q] ∧ 1 ≤ q ∧ q ≤ p ∧ p ≤ 6 := by
  rcases pair_cases 6 o with ⟨i, j, rfl, h1, h2, e⟩ | e
  · have h : ((inB 1 6 (.int i) && inB 1 6 (.int j)) && decide (j ≤ i)) = true := h
    have e : (inB 1 6 (.int i) && inB 1 6 (.int j)) = true := e
    rw [e, Bool.true_and] at h
    exact ⟨i, j, rfl, h2.1, of_decide_eq_true h, h1.2⟩
  · rw [times_no e] at h
    cases h
/-- numbers that passed the first checks -/
theorem outP_ok {o : Option (List V)} {k : V} (h : outP o k = .ok) : (∃ p q : Int, o = some [.int p, .int q] ∧ 1 ≤ q ∧ q ≤ p ∧ p ≤ 6) ∧ ∃ i, k = .int i ∧ -6 ≤ i ∧ i ≤ 6 := by
  unfold outP at h
  cases z : timesB o with
  | false => rw [if_pos z] at h; cases h
  | true =>
    rw [if_neg (by rw [z]; simp)] at h
    cases z2 : inB (-6) 6 k with
    | false => rw [if_pos z2] at h; cases h
    | true => exact ⟨times_is z, inB_int z2⟩
section
variable {P : Program} {w : World} {K : PySem.W.Frag} {mg : Str → Option Value} {base : Heap}
theorem scTryInit : FnScope ["self", "times", "plus"] ["self", "times", "plus"] (defScope sTryInit) := ⟨rfl, rfl, rfl, by decide +kernel, rfl, by decide +kernel, by decide +kernel⟩
theorem ok_tryInit {f C B N : Addr} {fd : FuncData} {dvs : List V} {kws : List (Str × V)} (F : FunD K "__init__" "TryRule.__init__" (defArgs sTryInit) (defBody sTryInit) (defScope sTryInit) dvs kws f fd) (T : RCls K C) (D1 : DfX P w K mg base 5 "need_times" ["times", "plus"] (spNeedT B))
    (D2 : DfX P w K mg base 5 "need_halves" ["times", "plus"] (spNeedH N)) : FnOk P w K mg base (L2.CX P w) 6 f fd ["self", "times", "plus"] (spTryInit C B N) := by
  obtain ⟨f1, fd1, G1, g1, k1, bb1⟩ := D1.ex
  obtain ⟨f2, fd2, G2, g2, k2, bb2⟩ := D2.ex
  refine F.ok scTryInit (fun vs H Q E h => ?_) (fun cdv A outer s H vs Q E hr h => ?_)
  · obtain ⟨x, dx, tv, kv, o, rfl, _⟩ := h
    rfl
  · obtain ⟨x, dx, tv, kv, o, rfl, hx, hp, hk, h⟩ := h
    refine ⟨_, pss_cons (ps_expr (pe_callS G1 hr (by rfl) g1 k1 bb1 (fun σ => passAt (takes_of rfl rfl rfl rfl) σ) (pa_cons (pv 1) (pa_cons (pv 2) pa_nil))))
      (pss_cons (ps_expr (pe_callS G2 hr (by rfl) g2 k2 bb2 (fun σ => passAt (takes_of rfl rfl rfl rfl) σ) (pa_cons (pv 1) (pa_cons (pv 2) pa_nil))))
      (pss_cons (ps_fld (pv 0) (pv 1) rfl) (pss_one (ps_fld (pv 0) (pv 2) rfl)))), ?_⟩
    refine ⟨_, rfl, _, rfl, tv, kv, o, N, rfl, hp, hk, ?_⟩
    unfold outT at h
    cases z : outP o kv with
    | rule m => rw [z] at h; exact h
    | halves m => rw [z] at h; exact h
    | ok =>
      rw [z] at h
      obtain ⟨⟨p, q, rfl, q1, q2, q3⟩, k, rfl, k1, k2⟩ := outP_ok z
      obtain ⟨a, rfl, ha, _⟩ := hp
      have h : OutK B N H E (∀ H', But x H H' → H' x = some (.ins C dx (tryV (.ref a) (.int k))) → Q .non H') (halvesO p q k) := h
      intro H1 s1
      refine ⟨_, rfl, _, rfl, a, p, q, k, B, rfl, s1 _ _ ha, h.mono s1 fun kk => ?_⟩
      refine ⟨_, rfl, _, rfl, x, C, dx, _, rfl, s1 _ _ hx, T.cl, T.n1, (by show 0 < 1000; decide), _, rfl, _, rfl, x, C, dx, _, rfl, upd_same, T.cl, T.n2, (by show 1 < 1000; decide), ?_⟩
      refine kk _ ((Same.but s1).trans (But.upd_at.trans But.upd_at)) ?_
      rw [upd_same, put_try]
theorem scTurnInit : FnScope ["self", "times", "plus", "turn", "turn_plus"] ["self", "times", "plus", "turn", "turn_plus"] (defScope sTurnInit) := ⟨rfl, rfl, rfl, by decide +kernel, rfl, by decide +kernel, by decide +kernel⟩
theorem ok_turnInit {f C B N : Addr} {fd : FuncData} {dvs : List V} {kws : List (Str × V)} (F : FunD K "__init__" "TurnRule.__init__" (defArgs sTurnInit) (defBody sTurnInit) (defScope sTurnInit) dvs kws f fd) (T : RCls K C) (D1 : DfX P w K mg base 5 "need_times" ["times", "plus"] (spNeedT B))
    (D2 : DfX P w K mg base 5 "need_halves" ["times", "plus"] (spNeedH N)) (D3 : Df P w K mg base 4 "is_turn" ["value"] spTurnA) (D4 : Df P w K mg base 3 "is_plus" ["value"] spPlusA) (EB : ErrC P w K mg base "BadRule" "part" B) : FnOk P w K mg base (L2.CX P w) 6 f fd ["self", "times", "plus", "turn", "turn_plus"] (spTurnInit C B N) := by
  obtain ⟨f1, fd1, G1, g1, k1, bb1⟩ := D1.ex
  obtain ⟨f2, fd2, G2, g2, k2, bb2⟩ := D2.ex
  obtain ⟨f3, fd3, G3, g3, k3, bb3⟩ := D3.ex
  obtain ⟨f4, fd4, G4, g4, k4, bb4⟩ := D4.ex
  obtain ⟨TC, gC, fi, fdi, iC, tI, GI, bI⟩ := id EB
  refine F.ok scTurnInit (fun vs H Q E h => ?_) (fun cdv A outer s H vs Q E hr h => ?_)
  · obtain ⟨x, dx, tv, kv, uv, cv, o, o2, rfl, _⟩ := h
    rfl
  · obtain ⟨x, dx, tv, kv, uv, cv, o, o2, rfl, hx, hp, hk, hu, hc, h⟩ := h
    refine ⟨_, pss_cons (ps_expr (pe_callS G1 hr (by rfl) g1 k1 bb1 (fun σ => passAt (takes_of rfl rfl rfl rfl) σ) (pa_cons (pv 1) (pa_cons (pv 2) pa_nil))))
      (pss_cons (ps_if (pt_not (pt_val (pe_call G3 (hr.mono (by decide)) (by rfl) g3 k3 bb3 .nil pass0 (pa_cons (pv 3) pa_nil)))) (pss_one (ps_raise rfl (takes_of rfl rfl rfl rfl) (pmk_oex TC iC tI GI (hr.mono (by decide)) bI .nil pass0 (by rfl) gC (pa_cons pe_str pa_nil)))) pss_nil)
      (pss_cons (ps_if (pt_not (pt_val (pe_call G4 (hr.mono (by decide)) (by rfl) g4 k4 bb4 .nil pass0 (pa_cons (pv 4) pa_nil)))) (pss_one (ps_raise rfl (takes_of rfl rfl rfl rfl) (pmk_oex TC iC tI GI (hr.mono (by decide)) bI .nil pass0 (by rfl) gC (pa_cons pe_str pa_nil)))) pss_nil)
      (pss_cons (ps_expr (pe_callS G2 hr (by rfl) g2 k2 bb2 (fun σ => passAt (takes_of rfl rfl rfl rfl) σ) (pa_cons (pv 1) (pa_cons (pv 2) pa_nil))))
      (pss_cons (ps_fld (pv 0) (pv 1) rfl) (pss_cons (ps_fld (pv 0) (pv 2) rfl) (pss_cons (ps_fld (pv 0) (pv 3) rfl) (pss_one (ps_fld (pv 0) (pv 4) rfl)))))))), ?_⟩
    refine ⟨_, rfl, _, rfl, tv, kv, o, N, rfl, hp, hk, ?_⟩
    unfold outN at h
    cases z : outP o kv with
    | rule m => rw [z] at h; exact h
    | halves m => rw [z] at h; exact h
    | ok =>
      rw [z] at h
      obtain ⟨⟨p, q, rfl, q1, q2, q3⟩, k, rfl, k1, k2⟩ := outP_ok z
      obtain ⟨a, rfl, ha, _⟩ := hp
      have h : OutK B N H E (∀ H', But x H H' → H' x = some (.ins C dx (turnV (.ref a) (.int k) uv cv)) → Q .non H') ((outQ o2 cv).then (halvesO p q k)) := h
      intro H1 s1
      unfold outQ at h
      refine ⟨_, rfl, uv, o2, rfl, hu.keep s1, fun H2 s2 => ?_⟩
      have s2 := s1.trans s2
      cases z : pairB 8 o2 with
      | false =>
        rw [if_pos z] at h
        exact ⟨false, rfl, iteT ⟨(by show 1 ≤ 1000; decide), fun a' na => raised (flat_str "turn") (h H2 s2) a' na⟩⟩
      | true =>
        rw [if_neg (by rw [z]; simp)] at h
        refine ⟨true, rfl, iteF ⟨_, rfl, cv, rfl, hc.keep s2, ?_⟩⟩
        cases z2 : inB (-6) 6 cv with
        | false =>
          rw [if_pos z2] at h
          exact ⟨false, rfl, iteT ⟨(by show 1 ≤ 1000; decide), fun a' na => raised (flat_str "turn_plus") (h H2 s2) a' na⟩⟩
        | true =>
          rw [if_neg (by rw [z2]; simp)] at h
          have h : OutK B N H E (∀ H', But x H H' → H' x = some (.ins C dx (turnV (.ref a) (.int k) uv cv)) → Q .non H') (halvesO p q k) := h
          refine ⟨true, rfl, iteF ?_⟩
          refine ⟨_, rfl, _, rfl, a, p, q, k, B, rfl, s2 _ _ ha, h.mono s2 fun kk => ?_⟩
          refine ⟨_, rfl, _, rfl, x, C, dx, _, rfl, s2 _ _ hx, T.cl, T.n1, (by show 0 < 1000; decide), _, rfl, _, rfl, x, C, dx, _, rfl, upd_same, T.cl, T.n2, (by show 1 < 1000; decide), ?_⟩
          refine ⟨_, rfl, _, rfl, x, C, dx, _, rfl, upd_same, T.cl, T.n3, (by rw [put_try]; show 2 < 1000; decide), _, rfl, _, rfl, x, C, dx, _, rfl, upd_same, T.cl, T.n4, (by rw [put_try, put_turn1]; show 3 < 1000; decide), ?_⟩
          refine kk _ ((Same.but s2).trans (But.upd_at.trans (But.upd_at.trans (But.upd_at.trans But.upd_at)))) ?_
          rw [upd_same, put_try, put_turn2]
end
end Ev
namespace Ev
open PySem L2 PySem.Spec PyProof.Rows LamX
theorem passX0 {P : Program} {w : World} {X : Cx} : Passes (L2.CX P w) X E0 := fun _ _ _ _ _ _ _ h => by
  obtain ⟨a, B, H', cls, d, _, _, _, _, _, _, _, z⟩ := h
  exact z.elim
/-- all is kept but the list at p and tables -/
def ExtP (p : Addr) (H H' : Hp) : Prop := ∀ b o, b ≠ p → H b = some o → (∀ ps : Array Value, o ≠ HO.tbl ps) → H' b = some o
theorem ExtP.refl (p : Addr) (H : Hp) : ExtP p H H := fun _ _ _ e _ => e
theorem ExtP.trans {p : Addr} {H H1 H2 : Hp} (a : ExtP p H H1) (b : ExtP p H1 H2) : ExtP p H H2 := fun c o n e t => b c o n (a c o n e t) t
theorem ExtN.p {p : Addr} {H H' : Hp} (h : ExtN H H') : ExtP p H H' := fun b o _ e t => h b o e t
theorem But.p {p : Addr} {H H' : Hp} (h : But p H H') : ExtP p H H' := fun b o n e _ => h b o n e
theorem Same.p {p : Addr} {H H' : Hp} (h : Same H H') : ExtP p H H' := fun b o _ e _ => h b o e
theorem Same.extN {H H' : Hp} (k : Same H H') : ExtN H H' := fun b o e _ => k b o e
theorem Tabs.but {T : List (Addr × Str)} {p : Addr} {H H' : Hp} {xs : List V} (t : Tabs T H) (hp : H p = some (.lst xs)) (k : But p H H') : Tabs T H' := by
  intro q hq
  obtain ⟨ps, h1, h2, h3⟩ := t q hq
  refine ⟨ps, k _ _ (fun z => by rw [z, hp] at h1; cases h1) h1, h2, fun pos cv hc => ?_⟩
  obtain ⟨c, e1, e2⟩ := h3 pos cv hc
  refine ⟨c, e1, k _ _ (fun z => ?_) e2⟩
  rw [z, hp] at e2
  have e3 : HO.lst xs = HO.ext _ := Option.some.inj e2
  cases e3
theorem Pen.ext {L : Addr} {H H' : Hp} {p : Addr} {B : Int} (h : Pen L H p B) (k : ExtN H H') : Pen L H' p B := by
  obtain ⟨ns, t, c, h1, h2, r⟩ := h
  exact ⟨ns, t, c, k _ _ h1 (fun _ z => by cases z), k _ _ h2 (fun _ z => by cases z), r⟩
theorem FAt.ext {C : Addr} {H H' : Hp} {x : Addr} {r : Fr} (h : FAt C H x r) (k : ExtN H H') : FAt C H' x r := by
  obtain ⟨dx, a, h1, h2⟩ := h
  exact ⟨dx, a, k _ _ h1 (fun _ z => by cases z), k _ _ h2 (fun _ z => by cases z)⟩
end Ev
namespace Ev
open PySem L2 PySem.Spec PyProof.Rows LamX
theorem tiny_log {n : Int} (h : n.natAbs ≤ 99) : n.natAbs.log2 < 1920 := by
  by_cases z : n.natAbs = 0
  · rw [z]; decide
  · exact (Nat.log2_lt z).mpr (Nat.lt_of_le_of_lt h (by decide +kernel))
structure FTwo (K : PySem.W.Frag) (C : Addr) : Prop where
  cl : FCls K C
  it : InsT K C
theorem tyF {K : PySem.W.Frag} {C : Addr} {H : Hp} {x dx : Addr} {fs : List (Str × V)} (R : FTwo K C) (h : H x = some (.ins C dx fs)) : TyX K H (.ref x) (.ref C) := .base (.ins h R.cl.cl R.it.ha R.it.hn R.it.htk R.it.hm)
theorem tiny_show {n : Int} (h : n.natAbs ≤ 99) : (PyData.int n).showable = true := decide_eq_true (tiny_log h)
theorem tiny_weight {n : Int} (h : n.natAbs ≤ 99) : (PyData.int n).weight ≤ 1002 := by
  have e : n = 0 ∨ n.natAbs.log2 < 1000 := by
    by_cases z : n.natAbs = 0
    · exact .inl (Int.natAbs_eq_zero.mp z)
    · exact .inr ((Nat.log2_lt z).mpr (Nat.lt_of_le_of_lt h (by decide +kernel)))
  simp only [PyData.weight]
  split
  · omega
  · rename_i z
    have : ¬ n = 0 := by simpa using z
    omega
theorem tiny_leaf {n : Int} (h : n.natAbs ≤ 99) : (PyData.int n).leavesShort 2000 = true := by
  have e := int_text_length_le (k := 1920) (by decide) (tiny_log h)
  refine decide_eq_true ?_
  show (Str.ofString (toString n)).length ≤ 2000
  rw [PySem.ofString_length]
  omega
theorem show_len {d : PyData} (h : d.leavesShort 2000 = true) (hw : d.weight ≤ 8000) : d.shown.length ≤ sizeLine := by
  have := PyData.shown_le 2000 (by decide) d h
  rw [sizeLine_eq]
  omega
def frD (r : Fr) (v : Int) : PyData := .list [.tuple [.int r.p, .int r.q], .int r.k, .int r.c, .int r.j, .int v]
theorem fr_show {r : Fr} (o : r.ok) {v : Int} (hv : v.natAbs ≤ 99) : (frD r v).showable = true ∧ (frD r v).depth ≤ 32 ∧ (frD r v).shown.length ≤ sizeLine := by
  have hp : r.p.natAbs ≤ 99 := by have := o.p1; have := o.p2; omega
  have hq : r.q.natAbs ≤ 99 := by have := o.q1; have := o.q2; omega
  have hk : r.k.natAbs ≤ 99 := by have := o.k1; have := o.k2; omega
  have hc : r.c.natAbs ≤ 99 := by have := o.c1; have := o.c2; omega
  have hj : r.j.natAbs ≤ 99 := by have := o.j1; have := o.j2; omega
  refine ⟨?_, by simp [frD, PyData.depth, PyData.depthAll], show_len ?_ ?_⟩
  · have a1 := tiny_show hp; have a2 := tiny_show hq; have a3 := tiny_show hk; have a4 := tiny_show hc; have a5 := tiny_show hj; have a6 := tiny_show hv
    simp only [frD, PyData.showable, PyData.showableAll] at a1 a2 a3 a4 a5 a6 ⊢
    simp [a1, a2, a3, a4, a5, a6]
  · have a1 := tiny_leaf hp; have a2 := tiny_leaf hq; have a3 := tiny_leaf hk; have a4 := tiny_leaf hc; have a5 := tiny_leaf hj; have a6 := tiny_leaf hv
    simp only [frD, PyData.leavesShort, PyData.leavesShortAll] at a1 a2 a3 a4 a5 a6 ⊢
    simp [a1, a2, a3, a4, a5, a6]
  · have a1 := tiny_weight hp; have a2 := tiny_weight hq; have a3 := tiny_weight hk; have a4 := tiny_weight hc; have a5 := tiny_weight hj; have a6 := tiny_weight hv
    simp only [frD, PyData.weight, PyData.weightAll] at a1 a2 a3 a4 a5 a6 ⊢
    omega
theorem fr_dp {K : PySem.W.Frag} {H : Hp} {l t : Addr} {r : Fr} {v : Int} (h : H l = some (.lst [.ref t, .int r.k, .int r.c, .int r.j, .int v])) (ht : H t = some (.tup [.int r.p, .int r.q])) : Dp K H (.ref l) (frD r v) :=
  .lst (SqL.of h) (.cons (.tup (SqT.of ht) (.cons (.int _) (.cons (.int _) .nil))) (.cons (.int _) (.cons (.int _) (.cons (.int _) (.cons (.int _) .nil)))))
theorem Fr.wd_le {r : Fr} (o : r.ok) : r.wd.natAbs ≤ 99 := by
  have := o.c1; have := o.c2; have := o.j1; have := o.j2
  unfold Fr.wd
  split <;> omega
/-- a fill rule made -/
theorem mk_fill {C x dx t : Addr} {r : Fr} {H : Hp} {Q : VK} {E : XK} (nx : H x = none) (ndx : H dx = none) (ht : H t = some (.tup [.int r.p, .int r.q])) (o : r.ok) (k : ∀ H', Same H H' → FAt C H' x r → Q .non H') :
    spFillOk C [.ref x, .ref t, .int r.k, .int r.c, .int r.j] (upd (upd H dx (.own x)) x (.ins C dx [])) Q E := by
  have keep : ∀ (b : Addr) (u : HO), H b = some u → upd (upd H dx (.own x)) x (.ins C dx []) b = some u := fun b u e => by
    rw [upd_ne (ne_of_none e nx), upd_ne (ne_of_none e ndx)]; exact e
  refine ⟨x, dx, t, r, rfl, upd_same, keep _ _ ht, o, fun H3 t3 hx3 => ?_⟩
  have s3 : Same H H3 := fun b u e => t3 _ _ (ne_of_none e nx) (keep _ _ e)
  exact k H3 s3 ⟨dx, t, hx3, s3 _ _ ht⟩
/-- the turn rule of the law -/
theorem mk_turnX {Cn B N : Addr} {H : Hp} {tp tq : Addr} {Q : VK} {E : XK} {x dx : Addr} (nx : H x = none) (ndx : H dx = none) (hp : H tp = some (.tup [.int 3, .int 1])) (hq : H tq = some (.tup [.int 2, .int 1])) (kk : ∀ H', Same H H' → (∃ fs, H' x = some (.ins Cn dx fs)) → Q .non H') :
    spTurnInit Cn B N [.ref x, .ref tp, .int 0, .ref tq, .int 0] (upd (upd H dx (.own x)) x (.ins Cn dx [])) Q E := by
  have keep : Same H (upd (upd H dx (.own x)) x (.ins Cn dx [])) := fun b u e => by rw [upd_ne (ne_of_none e nx), upd_ne (ne_of_none e ndx)]; exact e
  refine ⟨x, dx, .ref tp, .int 0, .ref tq, .int 0, _, _, rfl, upd_same, (pairQ_int hp).keep keep, .inl ⟨0, rfl⟩, (pairQ_int hq).keep keep, .inl ⟨0, rfl⟩, ?_⟩
  have ho : outN (some [.int 3, .int 1]) (.int 0) (some [.int 2, .int 1]) (.int 0) = .ok := by rfl
  rw [ho]
  intro H2 t2 hx2
  exact kk H2 (fun b u e => t2 _ _ (ne_of_none e nx) (keep _ _ e)) ⟨_, hx2⟩
end Ev
namespace Ev
open PySem L2 PySem.Spec PyProof.Rows RZ LamX
/-- the heard call, the def that makes the lambda apart -/
structure HeardB (P : Program) (w : World) (K : PySem.W.Frag) (mg : Str → Option Value) (B N Z FE fh : Addr) (fdh : FuncData) : Prop where
  F : Fun K "_law_heard" "_law_heard" sHeard fh fdh
  g : mg "_law_heard" = some (.ref fh)
  b : Binds K fdh ["_law_ask"] []
  mr : mg "repr" = none
  gF : mg "FairError" = some (.ref FE)
  gB : mg "BadRule" = some (.ref B)
  gN : mg "BadNumber" = some (.ref N)
  gZ : mg "Nothing" = some (.ref Z)
  HB : HeldC K B
  HN : HeldC K N
  HZ : HeldC K Z
  noB : PySem.W.findIn K (.ref B) "part" = some none
  noN : PySem.W.findIn K (.ref N) "value" = some none
  teB : PySem.W.exmOne K (.ref B) (.ref FE) = some true
  teN : PySem.W.exmOne K (.ref N) (.ref FE) = some true
  teZ : PySem.W.exmOne K (.ref Z) (.ref FE) = some true
  iBN : PySem.W.kitOne K (.ref B) (.ref N) = some false
  iNB : PySem.W.kitOne K (.ref N) (.ref B) = some false
  iBZ : PySem.W.kitOne K (.ref B) (.ref Z) = some false
  iNZ : PySem.W.kitOne K (.ref N) (.ref Z) = some false
  iZB : PySem.W.kitOne K (.ref Z) (.ref B) = some false
  iZN : PySem.W.kitOne K (.ref Z) (.ref N) = some false
/-- a wrong part is heard -/
theorem lam_rule {TL : List (Addr × Str)} {K : PySem.W.Frag} {B N Z : Addr} {t : XK → TE} {σ : L2.St} {H : Hp} {Q : VK} (m : Str) (hT : Tabs TL H)
    (ht : ∀ (H1 : Hp) (E' : XK) (Q' : VK), ExtN H H1 → (∀ (g : Prop) Hx, Same H1 Hx → OutK B N Hx E' g (.rule m)) → t E' σ H1 Q')
    (k : ∀ (r : Addr) (H1 G : Hp), ExtN H H1 → Tabs TL H1 → Same H1 G → G r = some (.tup [.str "rule", .str m]) → Q (.ref r) G) : tLam TL (THeard K B N Z) t σ H Q := by
  refine ⟨hT, fun H1 e1 T1 => ht H1 _ _ e1 fun g Hx sx => ?_⟩
  intro H2 s2 d H' s' nd hd
  exact .inl ⟨d, .str m, "part", "rule", m, rfl, hd, .inl ⟨rfl, rfl, rfl, rfl⟩, fun r G sG nr hr => k r H1 G e1 T1 (sx.trans (s2.trans (s'.trans sG))) hr⟩
/-- a value that is no size, and how it shows -/
inductive OddV (lo hi : Int) (H : Hp) : V → PyData → Prop
  | non : OddV lo hi H .non .none
  | int (i : Int) : ¬ (lo ≤ i ∧ i ≤ hi) → i.natAbs.log2 < 1920 → (PyData.int i).shown.length ≤ sizeLine → (PyData.str (PyData.int i).shown).canLay0 = true → OddV lo hi H (.int i) (.int i)
  | bl (b : Bool) : OddV lo hi H (.bl b) (.bool b)
  | str (x : Str) : (PyData.str x).shown.length ≤ sizeLine → (PyData.str (PyData.str x).shown).canLay0 = true → OddV lo hi H (.str x) (.str x)
  | tup {a : Addr} : H a = some (.tup [.int 6]) → OddV lo hi H (.ref a) (.tuple [.int 6])
  | lst {a : Addr} : H a = some (.lst []) → OddV lo hi H (.ref a) (.list [])
  | dct {a : Addr} : H a = some (.dK []) → OddV lo hi H (.ref a) (.dict [])
theorem OddV.ext {lo hi : Int} {H H' : Hp} {v : V} {d : PyData} (h : OddV lo hi H v d) (k : ExtN H H') : OddV lo hi H' v d := by
  cases h with
  | non => exact .non
  | int i a b c e => exact .int i a b c e
  | bl b => exact .bl b
  | str x a e => exact .str x a e
  | tup e => exact .tup (k _ _ e (fun _ z => by cases z))
  | lst e => exact .lst (k _ _ e (fun _ z => by cases z))
  | dct e => exact .dct (k _ _ e (fun _ z => by cases z))
theorem flat_non : Flat .non "NoneType" := ⟨fun _ _ => .base .non, by decide +kernel, by decide +kernel, by decide +kernel⟩
theorem flat_bl (b : Bool) : Flat (.bl b) "bool" := ⟨fun _ _ => .base (.bl b), by decide +kernel, by decide +kernel, by decide +kernel⟩
theorem OddV.hold {lo hi : Int} {H : Hp} {v : V} {d : PyData} (h : OddV lo hi H v d) : ∃ us b, Hold H v us b := by
  cases h with
  | non => exact ⟨_, _, .flat flat_non⟩
  | int i a b c _ => exact ⟨_, _, .flat (flat_int i)⟩
  | bl b => exact ⟨_, _, .flat (flat_bl b)⟩
  | str x a _ => exact ⟨_, _, .flat (flat_str x)⟩
  | tup e => exact ⟨_, _, .tup e (fun u z => by obtain rfl := List.mem_singleton.mp z; exact ⟨_, flat_int 6⟩) (by decide)⟩
  | lst e => exact ⟨_, _, .lst e (fun u z => nomatch z) (by decide)⟩
  | dct e => exact ⟨_, _, .dct e (fun u z => nomatch z) (by decide) (by simp)⟩
theorem noInt_tup {H : Hp} {a : Addr} {xs : List V} (h : H a = some (.tup xs)) : NoInt H (.ref a) := ⟨fun i z => (by cases z), "tuple", false, false, fun _ _ k => .base (.tup (k _ _ h (fun _ z => by cases z))), by decide +kernel, by decide +kernel, fun z => z⟩
theorem noInt_lst {H : Hp} {a : Addr} {xs : List V} (h : H a = some (.lst xs)) : NoInt H (.ref a) := ⟨fun i z => (by cases z), "list", false, false, fun _ _ k => .base (.lst (k _ _ h (fun _ z => by cases z))), by decide +kernel, by decide +kernel, fun z => z⟩
theorem noInt_dct {H : Hp} {a : Addr} {xs : List (Key × V)} (h : H a = some (.dK xs)) : NoInt H (.ref a) := ⟨fun i z => (by cases z), "dict", false, false, fun _ _ k => .base (.dK (k _ _ h (fun _ z => by cases z))), by decide +kernel, by decide +kernel, fun z => z⟩
theorem OddV.bad {lo hi : Int} {H : Hp} {v : V} {d : PyData} (h : OddV lo hi H v d) : IntQ H v ∧ inB lo hi v = false := by
  cases h with
  | non => exact ⟨.inr (noInt_non H), rfl⟩
  | int i a b c _ =>
    refine ⟨.inl ⟨i, rfl⟩, ?_⟩
    rw [Bool.eq_false_iff]
    intro z
    have z : (decide (lo ≤ i) && decide (i ≤ hi)) = true := z
    rw [Bool.and_eq_true] at z
    exact a ⟨of_decide_eq_true z.1, of_decide_eq_true z.2⟩
  | bl b => exact ⟨.inr (noInt_bl H b), rfl⟩
  | str x a _ => exact ⟨.inr (noInt_str H x), rfl⟩
  | tup e => exact ⟨.inr (noInt_tup e), rfl⟩
  | lst e => exact ⟨.inr (noInt_lst e), rfl⟩
  | dct e => exact ⟨.inr (noInt_dct e), rfl⟩
theorem OddV.alike {lo hi : Int} {H H' : Hp} {v v' : V} {d : PyData} (h : OddV lo hi H v d) (k : Same H H') (a : Alike H v H' v') : OddV lo hi H' v' d := by
  cases a with
  | same => exact h.ext (Same.extN k)
  | lst e1 e2 =>
    cases h with
    | tup e => rw [e] at e1; cases e1
    | lst e => rw [e] at e1; cases e1; exact .lst e2
    | dct e => rw [e] at e1; cases e1
  | dct e1 e2 =>
    cases h with
    | tup e => rw [e] at e1; cases e1
    | lst e => rw [e] at e1; cases e1
    | dct e => rw [e] at e1; cases e1; exact .dct e2
theorem OddV.vd {lo hi : Int} {K : PySem.W.Frag} {H : Hp} {v : V} {d : PyData} (h : OddV lo hi H v d) : Vd K H v d ∧ d.showable = true ∧ d.depth ≤ 32 ∧ d.shown.length ≤ sizeLine := by
  cases h with
  | non => exact ⟨.plain .non rfl, rfl, by decide, by decide +kernel⟩
  | int i a b c _ => exact ⟨.plain (.int i) rfl, decide_eq_true b, by show 0 ≤ 32; decide, c⟩
  | bl b => exact ⟨.plain (.bl b) rfl, rfl, by show 0 ≤ 32; decide, by cases b <;> decide +kernel⟩
  | str x a _ => exact ⟨.plain (.str x) rfl, rfl, by show 0 ≤ 32; decide, a⟩
  | tup e => exact ⟨.plain (.tup (SqT.of e) (.cons (.int 6) .nil)) rfl, by decide +kernel, by decide, by decide +kernel⟩
  | lst e => exact ⟨.plain (.lst (SqL.of e) .nil) rfl, rfl, by decide, by decide +kernel⟩
  | dct e => exact ⟨.dct e rfl .nil, rfl, by decide, by decide +kernel⟩
theorem OddV.lay {lo hi : Int} {H : Hp} {v : V} {d : PyData} (h : OddV lo hi H v d) : (PyData.str d.shown).canLay0 = true := by
  cases h with
  | non => decide +kernel
  | int i a b c e => exact e
  | bl b => cases b <;> decide +kernel
  | str x a e => exact e
  | tup e => decide +kernel
  | lst e => decide +kernel
  | dct e => decide +kernel
/-- what is heard, as data -/
def heardD (x : Str) : PyData := .tuple [.str "number", .str x]
theorem heard_shaped {x : Str} (h : (PyData.str x).canLay0 = true) : SeqAt.shaped (.list [heardD x, heardD x]) = true := by
  have e : (PyData.str ("number" : Str)).canLay0 = true := by decide +kernel
  unfold SeqAt.shaped
  rw [Bool.and_eq_true]
  refine ⟨?_, by simp [PyData.depth, PyData.depthAll, heardD]⟩
  simp only [heardD, PyData.canLay0, PyData.canLayAll0, Bool.and_true, Bool.and_eq_true] at h e ⊢
  exact ⟨⟨e, h⟩, e, h⟩
theorem heard_dp {K : PySem.W.Frag} {G : Hp} {r : Addr} {x : Str} (e : G r = some (.tup [.str "number", .str x])) : Dp K G (.ref r) (heardD x) := .tup (SqT.of e) (.cons (.str _) (.cons (.str _) .nil))
/-- a wrong size is heard -/
theorem lam_num {lo hi : Int} {TL : List (Addr × Str)} {K : PySem.W.Frag} {B N Z : Addr} {t : XK → TE} {σ : L2.St} {H : Hp} {Q : VK} {v : V} {d : PyData} (hv : OddV lo hi H v d) (hT : Tabs TL H)
    (ht : ∀ (H1 : Hp) (E' : XK) (Q' : VK), ExtN H H1 → OddV lo hi H1 v d → Told N "value" H1 v E' → t E' σ H1 Q')
    (k : ∀ (r : Addr) (H1 G : Hp), ExtN H H1 → Tabs TL H1 → Same H1 G → G r = some (.tup [.str "number", .str d.shown]) → Q (.ref r) G) : tLam TL (THeard K B N Z) t σ H Q := by
  refine ⟨hT, fun H1 e1 T1 => ht H1 _ _ e1 (hv.ext e1) ?_⟩
  intro a v' H' s' nd hd al
  have h' := (hv.ext e1).alike s' al
  obtain ⟨v1, v2, v3, v4⟩ := h'.vd (K := K)
  exact .inl ⟨a, v', "value", "number", d.shown, rfl, hd, .inr ⟨rfl, rfl, rfl, d, v1, v2, v3, v4, rfl⟩, fun r G sG nr hr => k r H1 G e1 T1 (s'.trans sG) hr⟩
/-- nothing is heard -/
theorem lam_none {TL : List (Addr × Str)} {K : PySem.W.Frag} {B N Z : Addr} {t : XK → TE} {σ : L2.St} {H : Hp} {Q : VK} (hT : Tabs TL H)
    (ht : ∀ (H1 : Hp) (E' : XK) (Q' : VK), ExtN H H1 → (∀ Hx, Same H1 Hx → E' (.ref Z) none Hx) → t E' σ H1 Q')
    (k : ∀ (r : Addr) (H1 G : Hp), ExtN H H1 → Tabs TL H1 → Same H1 G → G r = some (.tup [.str "nothing", .str ""]) → Q (.ref r) G) : tLam TL (THeard K B N Z) t σ H Q := by
  refine ⟨hT, fun H1 e1 T1 => ht H1 _ _ e1 fun Hx sx => ?_⟩
  exact .inr ⟨rfl, rfl, fun r G sG nr hr => k r H1 G e1 T1 (sx.trans sG) hr⟩
/-- a value is heard -/
theorem lam_val {TL : List (Addr × Str)} {K : PySem.W.Frag} {B N Z : Addr} {t : XK → TE} {σ : L2.St} {H : Hp} {Q : VK} {ex : Addr → Hp → Prop} (hT : Tabs TL H)
    (ht : ∀ (H1 : Hp) (E' : XK) (Q' : VK), ExtN H H1 → (∀ x G, Same H1 G → ex x G → Q' (.ref x) G) → t E' σ H1 Q') (hex : ∀ x G G', Same G G' → ex x G → ex x G')
    (k : ∀ (r x : Addr) (H1 G : Hp), ExtN H H1 → Tabs TL H1 → Same H1 G → G r = some (.lst [.ref x]) → ex x G → Q (.ref r) G) : tLam TL (THeard K B N Z) t σ H Q := by
  refine ⟨hT, fun H1 e1 T1 => ht H1 _ _ e1 fun x G sG ex1 => ⟨(by show 1 ≤ sizeLine; decide), fun r nr => ?_⟩⟩
  exact k r x H1 _ e1 T1 (sG.trans (same_new nr)) upd_same (hex _ _ _ (same_new nr) ex1)
end Ev
namespace Ev
open PySem L2 PySem.Spec PyProof.Rows RZ
def spNeedF (K : PySem.W.Frag) (C B N : Addr) : Sp := fun vs H Q E => ∃ rv : V, vs = [rv] ∧ ((∃ t : Value, TyX K H rv t ∧ PySem.W.kitOne K t (.ref C) = some false ∧ ∀ g : Prop, OutK B N H E g (.rule "rule")) ∨ (∃ (x : Addr) (r : Fr), rv = .ref x ∧ FAt C H x r ∧ Q .non H))
def spNeedP (C N : Addr) : Sp := fun vs H Q E => ∃ (x : Addr) (r : Fr) (mv : V), vs = [.ref x, mv] ∧ FAt C H x r ∧ r.ok ∧ IntQ H mv ∧ ((inB 2 (10 ^ 12) mv = false ∧ (∃ us b, Hold H mv us b) ∧ Told N "value" H mv E) ∨
    (∃ m : Int, mv = .int m ∧ 2 ≤ m ∧ m ≤ 10 ^ 12 ∧ ((¬ (1 ≤ r.least m ∧ r.least m ≤ m) ∧ Told N "value" H (.int m) E) ∨ (1 ≤ r.least m ∧ r.least m ≤ m ∧ Q .non H))))
section
variable {P : Program} {w : World} {K : PySem.W.Frag} {mg : Str → Option Value} {base : Heap}
theorem scNeedF : FnScope ["value"] ["value"] (defScope sNeedFillRule) := ⟨rfl, rfl, rfl, by decide +kernel, rfl, by decide +kernel, by decide +kernel⟩
theorem ok_needF {f C B N : Addr} {fd : FuncData} (F : Fun K "need_fill_rule" "need_fill_rule" sNeedFillRule f fd) (T : Blt mg) (R : FTwo K C) (gC : mg "FillRule" = some (.ref C)) (EB : ErrC P w K mg base "BadRule" "part" B) : FnOk P w K mg base (L2.CX P w) 5 f fd ["value"] (spNeedF K C B N) := by
  obtain ⟨TC, gB, fi, fdi, iC, tI, GI, bI⟩ := id EB
  refine F.okX scNeedF (fun vs H Q E h => ?_) (fun cdv A outer s H vs Q E hr h => ?_)
  · obtain ⟨rv, rfl, _⟩ := h
    rfl
  · obtain ⟨rv, rfl, h⟩ := h
    refine ⟨_, (pss_one (ps_if (pt_not (pt_val (pe_callB call_isi (by rfl) T.isi (by decide +kernel) (pa_cons (pv 0) (pa_cons (pe_glob (v := .ref C) rfl gC rfl) pa_nil)))))
      (pss_one (ps_raise rfl (takes_of rfl rfl rfl rfl) (pmk_oex TC iC tI GI (hr.mono (by decide)) bI .nil pass0 (by rfl) gB (pa_cons pe_str pa_nil)))) pss_nil)), ?_⟩
    rcases h with ⟨t, ty, kt, ho⟩ | ⟨x, r, rfl, ⟨dx, a, hx, ha⟩, k⟩
    · refine ⟨_, rfl, _, _, _, _, false, rfl, .own C, ty, kt, _, rfl, ?_⟩
      exact iteT ⟨(by show 1 ≤ 1000; decide), fun a' na => raised (flat_str "rule") (ho True H (Same.refl H)) a' na⟩
    · exact ⟨_, rfl, _, _, _, _, true, rfl, .own C, tyF R hx, kit_self, _, rfl, iteF k⟩
theorem scNeedP : FnScope ["rule", "most"] ["rule", "most"] (defScope sNeedPageSize) := ⟨rfl, rfl, rfl, by decide +kernel, rfl, by decide +kernel, by decide +kernel⟩
theorem ok_needP {f C N : Addr} {fd : FuncData} (F : Fun K "need_page_size" "need_page_size" sNeedPageSize f fd) (D1 : DfX P w K mg base 6 "need_size" ["value"] (spNeedSize N)) (D2 : Df P w K mg base 1 "least_of" ["rule", "most"] (spLeastOf C)) (B : ErrV P w K mg base "BadNumber" "value" N) : FnOk P w K mg base (L2.CX P w) 7 f fd ["rule", "most"] (spNeedP C N) := by
  obtain ⟨f1, fd1, G1, g1, k1, b1⟩ := D1.ex
  obtain ⟨f2, fd2, G2, g2, k2, b2⟩ := D2.ex
  obtain ⟨TC, gC, fi, fdi, iC, tI, GI, bI⟩ := id B
  refine F.okX scNeedP (fun vs H Q E h => ?_) (fun cdv A outer s H vs Q E hr h => ?_)
  · obtain ⟨x, r, mv, rfl, _⟩ := h
    rfl
  · obtain ⟨x, r, mv, rfl, fa, o, hq, h⟩ := h
    refine ⟨_, (pss_cons (ps_expr (pe_callS G1 hr (by rfl) g1 k1 b1 (fun σ => passAt (takes_of rfl rfl rfl rfl) σ) (pa_cons (pv 1) pa_nil)))
      (pss_one (ps_if (pt_not (pt_chain op_le op_le pe_int (pe_call G2 (hr.mono (by decide)) (by rfl) g2 k2 b2 .nil pass0 (pa_cons (pv 0) (pa_cons (pv 1) pa_nil))) (pv 1)))
        (pss_one (ps_raise rfl (takes_of rfl rfl rfl rfl) (pmk_oex TC iC tI GI (hr.mono (by decide)) bI .nil pass0 (by rfl) gC (pa_cons (pv 1) pa_nil)))) pss_nil))), ?_⟩
    rcases h with ⟨z, hv, k⟩ | ⟨m, rfl, m1, m2, h⟩
    · exact ⟨_, rfl, _, rfl, hq, .inr ⟨z, hv, k⟩⟩
    · refine ⟨_, rfl, _, rfl, hq, .inl ⟨inB_in m1 m2, _, rfl, _, rfl, x, r, m, rfl, fa, o, _, _, rfl, rfl, _, rfl, ?_⟩⟩
      have out : ∀ k : Told N "value" H (.int m) E, tMkO N (spExInit N "value") [] (tCons (tVar 1) tNil) [some (.ref x), some (.int m)] H E := fun k => ⟨_, rfl, (by show 1 ≤ 1000; decide), fun a' na => raisedV ⟨_, _, .flat (flat_int m)⟩ k a' na⟩
      by_cases q1 : 1 ≤ r.least m
      · rw [decide_eq_true q1]
        refine iteT ⟨_, rfl, _, _, rfl, rfl, _, rfl, ?_⟩
        by_cases q2 : r.least m ≤ m
        · rw [decide_eq_true q2]
          rcases h with ⟨n, _⟩ | ⟨_, _, k⟩
          · exact absurd ⟨q1, q2⟩ n
          · exact iteF k
        · rw [decide_eq_false q2]
          rcases h with ⟨_, k⟩ | ⟨_, z, _⟩
          · exact iteT (out k)
          · exact absurd z q2
      · rw [decide_eq_false q1]
        rcases h with ⟨_, k⟩ | ⟨z, _⟩
        · exact iteF ⟨_, rfl, iteT (out k)⟩
        · exact absurd z q1
end
end Ev
namespace Ev
open PySem L2 PySem.Spec PyProof.Rows RZ
def spCrucial (C : Addr) : Sp := fun vs H Q _ => ∃ (x : Addr) (r : Fr), vs = [.ref x] ∧ FAt C H x r ∧ Q (.int r.many) H
def spRightFor (C : Addr) : Sp := fun vs H Q _ => ∃ (x : Addr) (r : Fr) (m : Int), vs = [.ref x, .int m] ∧ FAt C H x r ∧ r.ok ∧ Q (.bl (r.right m)) H
theorem Fr.many_le {r : Fr} (o : r.ok) : 2 ≤ r.many ∧ r.many ≤ 6 := by
  have := o.c1; have := o.j1; have := o.j2
  unfold Fr.many
  by_cases z : r.c + 1 < r.j
  · rw [if_pos z]; omega
  · rw [if_neg z]; omega
section
variable {P : Program} {w : World} {K : PySem.W.Frag} {mg : Str → Option Value} {base : Heap}
theorem scCrucialOf : FnScope ["rule"] ["rule"] (defScope sCrucialOf) := ⟨rfl, rfl, rfl, by decide +kernel, rfl, by decide +kernel, by decide +kernel⟩
theorem ok_crucial {f C : Addr} {fd : FuncData} (F : Fun K "crucial_of" "crucial_of" sCrucialOf f fd) (T : FCls K C) : FnOk P w K mg base CX0 1 f fd ["rule"] (spCrucial C) := by
  refine F.ok scCrucialOf (fun vs H Q E h => ?_) (fun cdv A outer s H vs Q E hr h => ?_)
  · obtain ⟨x, r, rfl, _⟩ := h
    rfl
  · obtain ⟨x, r, rfl, ⟨dx, a, hx, ha⟩, kk⟩ := h
    refine ⟨_, (pss_one (ps_ret (pe_ifExp (pt_cmpR op_lt (pe_op op_add (pe_fld (pv 0) rfl) pe_int) (pe_fld (pv 0) rfl) (nomark _)) (pe_op op_add (pe_fld (pv 0) rfl) pe_int) (pe_fld (pv 0) rfl)))), ?_⟩
    refine ⟨_, rfl, x, C, dx, _, _, rfl, hx, T.cl, T.n3, fill_cut _ _, _, _, rfl, rfl, _, rfl, x, C, dx, _, _, rfl, hx, T.cl, T.n4, fill_join _ _, _, _, rfl, rfl, _, rfl, ite2 (fun e => ?_) (fun e => ?_)⟩
    · have e := of_decide_eq_true e
      unfold Fr.many at kk
      rw [if_pos e] at kk
      exact ⟨_, rfl, x, C, dx, _, _, rfl, hx, T.cl, T.n3, fill_cut _ _, _, _, rfl, rfl, kk⟩
    · have e : ¬ (r.c + 1 < r.j) := fun z => e (decide_eq_true z)
      unfold Fr.many at kk
      rw [if_neg e] at kk
      exact ⟨_, rfl, x, C, dx, _, _, rfl, hx, T.cl, T.n4, fill_join _ _, kk⟩
theorem scIsRightFor : FnScope ["rule", "most", "least", "many"] ["rule", "most"] (defScope sIsRightFor) := ⟨rfl, rfl, rfl, by decide +kernel, rfl, by decide +kernel, by decide +kernel⟩
theorem ok_rightFor {f C : Addr} {fd : FuncData} (F : Fun K "is_right_for" "is_right_for" sIsRightFor f fd) (D1 : Df P w K mg base 1 "least_of" ["rule", "most"] (spLeastOf C)) (D2 : Df P w K mg base 1 "crucial_of" ["rule"] (spCrucial C)) : FnOk P w K mg base CX0 2 f fd ["rule", "most"] (spRightFor C) := by
  obtain ⟨f1, fd1, G1, g1, k1, b1⟩ := D1.ex
  obtain ⟨f2, fd2, G2, g2, k2, b2⟩ := D2.ex
  refine F.ok scIsRightFor (fun vs H Q E h => ?_) (fun cdv A outer s H vs Q E hr h => ?_)
  · obtain ⟨x, r, m, rfl, _⟩ := h
    rfl
  · obtain ⟨x, r, m, rfl, fa, o, kk⟩ := h
    refine ⟨_, (pss_cons (ps_par (i := 2) (j := 3) (by rfl) scIsRightFor.nd rfl rfl (by decide) rfl rfl (pa_cons (pe_call G1 hr (by rfl) g1 k1 b1 .nil pass0 (pa_cons (pv 0) (pa_cons (pv 1) pa_nil))) (pa_cons (pe_call G2 hr (by rfl) g2 k2 b2 .nil pass0 (pa_cons (pv 0) pa_nil)) pa_nil)) (by rfl))
      (pss_one (ps_ret (pe_and (pe_cmpR op_le pe_int (pv 2) (nomark _)) (pe_one (pe_cmpR op_le (pe_op op_mul (pv 3) (pv 2)) (pe_op op_add (pe_op op_mul (pe_op op_sub (pv 3) pe_int) (pv 1)) pe_int) (nomark _))))))), ?_⟩
    refine ⟨_, rfl, _, rfl, x, r, m, rfl, fa, o, _, rfl, x, r, rfl, fa, _, _, rfl, ?_⟩
    have ⟨m1, m2⟩ := Fr.many_le o
    refine ⟨_, rfl, _, _, rfl, rfl, _, rfl, ite2 (fun e => ?_) (fun e => ?_)⟩
    · refine ⟨_, rfl, _, rfl, _, _, rfl, rfl, .inl (mw (b := 12) (by omega) (by omega) (by decide)), _, rfl, _, _, rfl, rfl, _, rfl, _, _, rfl, rfl, .inl (mw (b := 12) (by omega) (by omega) (by decide)), _, _, rfl, rfl, _, _, rfl, rfl, ?_⟩
      unfold Fr.right at kk
      rw [show decide (1 ≤ r.least m) = true from e, Bool.true_and] at kk
      exact kk
    · unfold Fr.right at kk
      rw [show decide (1 ≤ r.least m) = false from Bool.eq_false_iff.mpr e, Bool.false_and] at kk
      exact kk
end
end Ev
namespace Ev
open PySem L2 PySem.Spec PyProof.Rows RZ
/-- the fills of pages to which entries are dealt -/
def dealtL (t p : Int) : List Int := List.replicate (t % p).toNat (t / p + 1) ++ List.replicate (p - t % p).toNat (t / p)
theorem dealtL_len {t p : Int} (h : 1 ≤ p) : (dealtL t p).length = p.toNat := by
  have h1 := Int.emod_nonneg t (by omega : p ≠ 0)
  have h2 := Int.emod_lt_of_pos t (by omega : 0 < p)
  simp only [dealtL, List.length_append, List.length_replicate]
  omega
theorem cut_to {xs : List Int} {e : Int} (h0 : 0 ≤ e) (h1 : e ≤ xs.length) : cutV (xs.map V.int) (some 0) (some e) = (xs.take e.toNat).map V.int := by
  obtain ⟨k, rfl⟩ := Int.eq_ofNat_of_zero_le h0
  unfold cutV
  rw [show (some (0 : Int)) = some ((0 : Nat) : Int) from rfl, HT.sIx_nat, HT.sIx_nat, List.length_map, Int.toNat_natCast, Nat.zero_min, List.drop_zero, Nat.sub_zero, Nat.min_eq_left (by omega), List.map_take]
theorem cut_nil {xs : List Int} : cutV (xs.map V.int) none (some 0) = [] := by
  unfold cutV
  rw [show (some (0 : Int)) = some ((0 : Nat) : Int) from rfl, HT.sIx_nat, HT.sIx_none]
  simp
theorem cut_from {xs : List Int} {e : Int} (h0 : 0 ≤ e) (h1 : e ≤ xs.length) : cutV (xs.map V.int) (some e) none = (xs.drop e.toNat).map V.int := by
  obtain ⟨k, rfl⟩ := Int.eq_ofNat_of_zero_le h0
  unfold cutV
  rw [HT.sIx_nat, HT.sIx_none, List.length_map, Int.toNat_natCast, Nat.min_eq_left (by omega), ← List.map_drop, List.take_of_length_le (by rw [List.length_map, List.length_drop]; omega)]
/-- the item of a list by an index that is not negative, by values -/
def rIxL0 (K : PySem.W.Frag) : V → V → Hp → VK → Prop := fun x y H Q => ∃ p xs i v, x = .ref p ∧ y = .int i ∧ 0 ≤ i ∧ SqL K H p xs ∧ atI xs i = some v ∧ Q v H
theorem get_list {X : Cx} : PGet X (rIxL0 X.K) := by
  intro pins s σ H o i ov iv Q I ro ri h
  obtain ⟨p, xs, i, z, rfl, rfl, h0, hq, he, q⟩ := h
  cases ro
  obtain ⟨t, rfl⟩ := ri
  obtain ⟨its, r, pl, hz⟩ := I.list hq
  obtain ⟨j, h1, h2, h3, h4, h5⟩ := atI_get he
  obtain ⟨w, ew, rw'⟩ := r.get h2
  have hl := r.length
  have hn := line63
  have hj : i.toNat = j := by
    rw [seqIndex_of h0 h5] at h1
    exact Option.some.inj h1
  exact wpAny_getItem_list pl.isList h0 (by omega) (by rw [hj]; simpa using ew) ⟨z, H, I, rw', q⟩
def spDealt : Sp := fun vs H Q _ => ∃ t p : Int, vs = [.int t, .int p] ∧ 1 ≤ p ∧ p ≤ 12 ∧ ∀ q H', Same H H' → H' q = some (.lst ((dealtL t p).map V.int)) → Q (.ref q) H'
def spGroup : Sp := fun vs H Q _ => ∃ at' many : Int, vs = [.int at', .int many] ∧ ∀ t H', Same H H' → H' t = some (.tup [.int (if at' ≥ many then at' - many + 1 else 0), .int ((if at' ≥ many then at' - many + 1 else 0) + many)]) → Q (.ref t) H'
def spPage0 : Sp := fun vs H Q _ => ∃ (l : Addr) (x : Int) (xs : List V), vs = [.ref l, .int 0] ∧ H l = some (.lst (.int x :: xs)) ∧ 1 ≤ x ∧ Q (.int 0) H
def spPageF : Sp := fun vs H Q _ => ∃ (l : Addr), vs = [.ref l, .int 0] ∧ Q (.int 0) H
def spAnew : Sp := fun vs H Q _ => ∃ (l : Addr) (xs : List Int) (e p : Int), vs = [.ref l, .int 0, .int e, .int p] ∧ H l = some (.lst (xs.map V.int)) ∧ 0 ≤ e ∧ e ≤ xs.length ∧ xs.length ≤ 12 ∧ 1 ≤ p ∧ p ≤ 12 ∧
  ∀ t q v H', Same H H' → H' t = some (.tup [.ref q, v]) → H' q = some (.lst ((dealtL (xs.take e.toNat).sum p ++ xs.drop e.toNat).map V.int)) → Q (.ref t) H'
section
variable {P : Program} {w : World} {K : PySem.W.Frag} {mg : Str → Option Value} {base : Heap}
theorem scDealt : FnScope ["total", "pages", "each", "rest"] ["total", "pages"] (defScope sDealt) := ⟨rfl, rfl, rfl, by decide +kernel, rfl, by decide +kernel, by decide +kernel⟩
theorem ok_dealt {f : Addr} {fd : FuncData} (F : Fun K "dealt" "dealt" sDealt f fd) (md : mg "divmod" = none) : FnOk P w K mg base CX0 1 f fd ["total", "pages"] spDealt := by
  refine F.ok scDealt (fun vs H Q E h => ?_) (fun cdv A outer s H vs Q E hr h => ?_)
  · obtain ⟨t, p, rfl, _⟩ := h
    rfl
  · obtain ⟨t, p, rfl, p1, p2, kk⟩ := h
    refine ⟨_, (pss_cons (ps_if (pt_cmpR op_eq (pv 1) pe_int (nomark _))
      (pss_one (ps_ret (pe_lst pa_nil))) pss_nil)
    (pss_cons (ps_asg (pe_callB call_divmod (by rfl) md (by decide +kernel) (pa_cons (pv 0) (pa_cons (pv 1) pa_nil))) (pg_tup (by rfl) (pgs_cons (pg_name (i := 2) scDealt.nd rfl (.inl rfl)) (pgs_cons (pg_name (i := 3) scDealt.nd rfl (.inl rfl)) pgs_nil))))
    (pss_one (ps_ret (pe_op op_cat (pe_op op_rep (pe_lst (pa_cons (pe_op op_add (pv 2) pe_int) pa_nil)) (pv 3)) (pe_op op_rep (pe_lst (pa_cons (pv 2) pa_nil)) (pe_op op_sub (pv 1) (pv 3)))))))), ?_⟩
    refine ⟨_, rfl, rfl, _, rfl, ?_⟩
    rw [show decide (V.int p = V.int 0) = false from decide_eq_false fun z => by have := V.int.inj z; omega]
    refine iteF ⟨_, rfl, _, rfl, t, p, rfl, ⟨by omega, by omega⟩, fun a na => ?_⟩
    have h1 := Int.emod_nonneg t (by omega : p ≠ 0)
    have h2 := Int.emod_lt_of_pos t (by omega : 0 < p)
    refine ⟨a, _, rfl, SqT.of upd_same, rfl, _, _, rfl, _, _, rfl, rfl, ?_⟩
    have s1 : Same H (upd H a (.tup [.int (t / p), .int (t % p)])) := same_new na
    generalize upd H a (.tup [.int (t / p), .int (t % p)]) = H1 at s1 ⊢
    refine ⟨_, rfl, _, _, rfl, rfl, (by show 1 ≤ sizeLine; decide), fun l1 n1 => ?_⟩
    refine ⟨_, rfl, l1, _, _, rfl, rfl, upd_same, by omega, by omega, ?_, fun l2 n2 => ?_⟩
    · have : 1 * (t % p).toNat ≤ 12 := by omega
      exact Nat.le_trans this (by decide)
    have s2 := s1.trans (same_new (o := .lst [.int (t / p + 1)]) n1)
    generalize upd H1 l1 (.lst [.int (t / p + 1)]) = H2 at s2 n2 ⊢
    have s3 := s2.trans (same_new (o := .lst (List.replicate (t % p).toNat [V.int (t / p + 1)]).flatten) n2)
    have u3 : upd H2 l2 (.lst (List.replicate (t % p).toNat [V.int (t / p + 1)]).flatten) l2 = some (.lst (List.replicate (t % p).toNat (V.int (t / p + 1)))) := by rw [upd_same, List.flatten_replicate_singleton]
    generalize upd H2 l2 (.lst (List.replicate (t % p).toNat [V.int (t / p + 1)]).flatten) = H3 at s3 u3 ⊢
    refine ⟨_, rfl, (by show 1 ≤ sizeLine; decide), fun l3 n3 => ?_⟩
    have u4 := same_new (o := .lst [V.int (t / p)]) n3 _ _ u3
    have s4 := s3.trans (same_new (o := .lst [V.int (t / p)]) n3)
    have v4 : upd H3 l3 (.lst [V.int (t / p)]) l3 = some (.lst [V.int (t / p)]) := upd_same
    generalize upd H3 l3 (.lst [V.int (t / p)]) = H4 at s4 u4 v4 ⊢
    refine ⟨_, rfl, _, rfl, _, _, rfl, rfl, l3, p - t % p, _, rfl, rfl, v4, by omega, by omega, ?_, fun l4 n4 => ?_⟩
    · have : 1 * (p - t % p).toNat ≤ 12 := by omega
      exact Nat.le_trans this (by decide)
    rw [List.flatten_replicate_singleton]
    have u5 := same_new (o := .lst (List.replicate (p - t % p).toNat (V.int (t / p)))) n4 _ _ u4
    have s5 := s4.trans (same_new (o := .lst (List.replicate (p - t % p).toNat (V.int (t / p)))) n4)
    have v5 : upd H4 l4 (.lst (List.replicate (p - t % p).toNat (V.int (t / p)))) l4 = some (.lst (List.replicate (p - t % p).toNat (V.int (t / p)))) := upd_same
    generalize upd H4 l4 (.lst (List.replicate (p - t % p).toNat (V.int (t / p)))) = H5 at s5 u5 v5 ⊢
    refine ⟨l2, l4, _, _, rfl, rfl, u5, v5, ?_, fun l5 n5 => ?_⟩
    · rw [List.length_replicate, List.length_replicate]
      exact Nat.le_trans (show _ ≤ 12 by omega) (by decide)
    · refine kk l5 _ (s5.trans (same_new n5)) ?_
      rw [upd_same, dealtL, List.map_append, List.map_replicate, List.map_replicate]
theorem scGroupOf : FnScope ["at", "many", "start"] ["at", "many"] (defScope sGroupOf) := ⟨rfl, rfl, rfl, by decide +kernel, rfl, by decide +kernel, by decide +kernel⟩
theorem ok_group {f : Addr} {fd : FuncData} (F : Fun K "group_of" "group_of" sGroupOf f fd) : FnOk P w K mg base CX0 1 f fd ["at", "many"] spGroup := by
  refine F.ok scGroupOf (fun vs H Q E h => ?_) (fun cdv A outer s H vs Q E hr h => ?_)
  · obtain ⟨t, p, rfl, _⟩ := h
    rfl
  · obtain ⟨a, m, rfl, kk⟩ := h
    refine ⟨_, (pss_cons (ps_set (i := 2) scGroupOf.nd rfl (.inl rfl) (pe_ifExp (pt_cmpR op_ge (pv 0) (pv 1) (nomark _)) (pe_op op_add (pe_op op_sub (pv 0) (pv 1)) pe_int) pe_int))
    (pss_one (ps_ret (pe_tup (pa_cons (pv 2) (pa_cons (pe_op op_add (pv 2) (pv 1)) pa_nil)))))), ?_⟩
    refine ⟨_, rfl, _, rfl, _, _, rfl, rfl, _, rfl, ite2 (fun e => ?_) (fun e => ?_)⟩
    · have e : a ≥ m := of_decide_eq_true e
      rw [if_pos e] at kk
      exact ⟨_, rfl, _, rfl, _, _, rfl, rfl, _, _, rfl, rfl, _, rfl, _, rfl, _, rfl, _, _, rfl, rfl, (by show 2 ≤ sizeLine; decide), fun t nt => kk t _ (same_new nt) upd_same⟩
    · have e : ¬ a ≥ m := fun z => e (decide_eq_true z)
      rw [if_neg e] at kk
      exact ⟨_, rfl, _, rfl, _, rfl, _, _, rfl, rfl, (by show 2 ≤ sizeLine; decide), fun t nt => kk t _ (same_new nt) upd_same⟩
theorem scPageAt : FnScope ["fills", "index", "at"] ["fills", "index"] (defScope sPageAt) := ⟨rfl, rfl, rfl, by decide +kernel, rfl, by decide +kernel, by decide +kernel⟩
theorem ok_pageAt {f : Addr} {fd : FuncData} (F : Fun K "page_at" "page_at" sPageAt f fd) : FnOk P w K mg base CX0 1 f fd ["fills", "index"] spPage0 := by
  refine F.ok scPageAt (fun vs H Q E h => ?_) (fun cdv A outer s H vs Q E hr h => ?_)
  · obtain ⟨l, x, xs, rfl, _⟩ := h
    rfl
  · obtain ⟨l, x, xs, rfl, hl, x1, kk⟩ := h
    refine ⟨_, (pss_cons (ps_set (i := 2) scPageAt.nd rfl (.inl rfl) pe_int)
    (pss_cons (ps_while PassesOwn.never (pt_cmpR op_ge (pv 1) (pe_ix ix_list (pv 0) (pv 2) (fun _ _ => rfl)) (nomark _))
      (pss_cons (ps_set (i := 1) scPageAt.nd rfl (.inl rfl) (pe_op op_sub (pv 1) (pe_ix ix_list (pv 0) (pv 2) (fun _ _ => rfl))))
      (pss_one (ps_aug (i := 2) scPageAt.nd rfl (.inl rfl) pe_int ip_add))))
    (pss_one (ps_ret (pv 2))))), ?_⟩
    have a0 : atI (V.int x :: xs) 0 = some (V.int x) := atI_nat (j := 0) rfl
    refine ⟨fun _ σ H' => σ = [some (.ref l), some (.int 0), some (.int 0)] ∧ H' = H, ⟨0, rfl, rfl⟩, ?_⟩
    rintro μ σ H' ⟨rfl, rfl⟩
    refine ⟨_, rfl, _, rfl, _, rfl, l, _, _, _, rfl, rfl, SqL.of hl, a0, _, _, rfl, rfl, _, rfl, ?_⟩
    rw [show decide ((0 : Int) ≥ x) = false from decide_eq_false (by omega)]
    exact iteF ⟨_, rfl, kk⟩
theorem scPageFor : FnScope ["fills", "ahead"] ["fills", "ahead"] (defScope sPageFor) := ⟨rfl, rfl, rfl, by decide +kernel, rfl, by decide +kernel, by decide +kernel⟩
theorem ok_pageFor {f : Addr} {fd : FuncData} (F : Fun K "page_for" "page_for" sPageFor f fd) (D1 : Df P w K mg base 1 "page_at" ["fills", "index"] spPage0) : FnOk P w K mg base CX0 2 f fd ["fills", "ahead"] spPageF := by
  obtain ⟨f1, fd1, G1, g1, k1, b1⟩ := D1.ex
  refine F.ok scPageFor (fun vs H Q E h => ?_) (fun cdv A outer s H vs Q E hr h => ?_)
  · obtain ⟨l, rfl, _⟩ := h
    rfl
  · obtain ⟨l, rfl, kk⟩ := h
    refine ⟨_, (pss_one (ps_ret (pe_ifExp (pt_cmpR op_gt (pv 1) pe_int (nomark _)) (pe_call G1 hr (by rfl) g1 k1 b1 .nil pass0 (pa_cons (pv 0) (pa_cons (pe_op op_sub (pv 1) pe_int) pa_nil))) pe_int))), ?_⟩
    exact ⟨_, rfl, _, _, rfl, rfl, _, rfl, iteF kk⟩
theorem scDealtAnew : FnScope ["row", "start", "end", "pages", "fills"] ["row", "start", "end", "pages"] (defScope sDealtAnew) := ⟨rfl, rfl, rfl, by decide +kernel, rfl, by decide +kernel, by decide +kernel⟩
theorem ok_anew {f : Addr} {fd : FuncData} (F : Fun K "dealt_anew" "dealt_anew" sDealtAnew f fd) (ms : mg "sum" = none) {t1 t2 : Tok} {x1 x2 : Str} (gM : mg "MORE" = some (.str x1 t1)) (gF : mg "FEWER" = some (.str x2 t2)) (D1 : Df P w K mg base 1 "dealt" ["total", "pages"] spDealt) : FnOk P w K mg base CX0 2 f fd ["row", "start", "end", "pages"] spAnew := by
  obtain ⟨f1, fd1, G1, g1, k1, b1⟩ := D1.ex
  refine F.ok scDealtAnew (fun vs H Q E h => ?_) (fun cdv A outer s H vs Q E hr h => ?_)
  · obtain ⟨l, xs, e, p, rfl, _⟩ := h
    rfl
  · obtain ⟨l, xs, e, p, rfl, hl, e0, e1, xz, p1, p2, kk⟩ := h
    refine ⟨_, (pss_cons (ps_set (i := 4) scDealtAnew.nd rfl (.inl rfl) (pe_lst (StX.pa_star (pe_slice sl_list (pv 0) po_none (po_some (pv 1))) (StX.pa_star (pe_call G1 hr (by rfl) g1 k1 b1 .nil pass0 (pa_cons (pe_callB (cr_sum rfl) (by rfl) ms (by decide +kernel) (pa_cons (pe_slice sl_list (pv 0) (po_some (pv 1)) (po_some (pv 2))) pa_nil)) (pa_cons (pv 3) pa_nil))) (StX.pa_star (pe_slice sl_list (pv 0) (po_some (pv 2)) po_none) pa_nil)))))
    (pss_cons (ps_if (pt_cmpR op_gt (pv 3) (pe_op op_sub (pv 2) (pv 1)) (nomark _))
      (pss_one (ps_ret (pe_tup (pa_cons (pv 4) (pa_cons (pe_tup (pa_cons (pe_glob (v := .str x1) rfl gM ⟨_, rfl⟩) (pa_cons (pv 2) pa_nil))) pa_nil))))) pss_nil)
    (pss_one (ps_ret (pe_tup (pa_cons (pv 4) (pa_cons (pe_ifExp (pt_cmpR op_lt (pv 3) (pe_op op_sub (pv 2) (pv 1)) (nomark _)) (pe_tup (pa_cons (pe_glob (v := .str x2) rfl gF ⟨_, rfl⟩) (pa_cons (pe_op op_sub (pv 2) pe_int) pa_nil))) pe_non) pa_nil))))))), ?_⟩
    refine ⟨_, rfl, _, rfl, _, rfl, l, _, rfl, SqL.of hl, fun a1 n1 => ?_⟩
    rw [cut_nil]
    refine ⟨a1, _, rfl, .inr (SqL.of upd_same), ?_⟩
    have s1 : Same H (upd H a1 (.lst [])) := same_new n1
    have hl1 := s1 _ _ hl
    generalize upd H a1 (.lst []) = H1 at s1 hl1 ⊢
    refine ⟨_, rfl, _, rfl, _, rfl, _, rfl, _, rfl, l, _, rfl, SqL.of hl1, fun a2 n2 => ?_⟩
    rw [cut_to e0 e1]
    refine ⟨a2, _, rfl, SqL.of upd_same, ?_⟩
    have s2 := s1.trans (same_new (o := .lst ((xs.take e.toNat).map V.int)) n2)
    have hl2 := s2 _ _ hl
    generalize upd H1 a2 (.lst ((xs.take e.toNat).map V.int)) = H2 at s2 hl2 ⊢
    refine ⟨_, rfl, _, p, rfl, p1, p2, fun a3 H3 s3 h3 => ?_⟩
    refine ⟨a3, _, rfl, .inr (SqL.of h3), ?_⟩
    have s3 := s2.trans s3
    have hl3 := s3 _ _ hl
    refine ⟨_, rfl, _, rfl, _, rfl, l, _, rfl, SqL.of hl3, fun a4 n4 => ?_⟩
    rw [cut_from e0 e1]
    refine ⟨a4, _, rfl, .inr (SqL.of upd_same), ?_⟩
    have s4 := s3.trans (same_new (o := .lst ((xs.drop e.toNat).map V.int)) n4)
    generalize upd H3 a4 (.lst ((xs.drop e.toNat).map V.int)) = H4 at s4 ⊢
    refine ⟨?_, fun q nq => ?_⟩
    · rw [List.nil_append, List.append_nil, List.length_append, List.length_map, List.length_map, dealtL_len p1, List.length_drop]
      exact Nat.le_trans (show _ ≤ 24 by omega) (by decide)
    rw [List.nil_append, List.append_nil, ← List.map_append]
    have s5 := s4.trans (same_new (o := .lst ((dealtL (xs.take e.toNat).sum p ++ xs.drop e.toNat).map V.int)) nq)
    have h5 : upd H4 q (.lst ((dealtL (xs.take e.toNat).sum p ++ xs.drop e.toNat).map V.int)) q = some (.lst ((dealtL (xs.take e.toNat).sum p ++ xs.drop e.toNat).map V.int)) := upd_same
    generalize upd H4 q (.lst ((dealtL (xs.take e.toNat).sum p ++ xs.drop e.toNat).map V.int)) = H5 at s5 h5 ⊢
    refine ⟨_, rfl, _, rfl, _, rfl, _, _, rfl, rfl, _, _, rfl, rfl, _, rfl, ite2 (fun g => ?_) (fun g => ?_)⟩
    · refine ⟨_, rfl, _, rfl, (by show 2 ≤ sizeLine; decide), fun t nt => ⟨(by show 2 ≤ sizeLine; decide), fun t' nt' => ?_⟩⟩
      have s6 := same_new (o := .tup [V.str x1, V.int e]) nt
      exact kk t' q _ _ ((s5.trans s6).trans (same_new nt')) upd_same (same_new nt' _ _ (s6 _ _ h5))
    · refine ⟨_, rfl, _, rfl, _, rfl, _, rfl, _, _, rfl, rfl, _, _, rfl, rfl, _, rfl, ite2 (fun g2 => ?_) (fun g2 => ?_)⟩
      · refine ⟨_, rfl, _, _, rfl, rfl, (by show 2 ≤ sizeLine; decide), fun t nt => ⟨(by show 2 ≤ sizeLine; decide), fun t' nt' => ?_⟩⟩
        have s6 := same_new (o := .tup [V.str x2, V.int (e - 1)]) nt
        exact kk t' q _ _ ((s5.trans s6).trans (same_new nt')) upd_same (same_new nt' _ _ (s6 _ _ h5))
      · exact ⟨(by show 2 ≤ sizeLine; decide), fun t nt => kk t q _ _ (s5.trans (same_new nt)) upd_same (same_new nt _ _ h5)⟩
end
end Ev
namespace Ev
open PySem L2 PySem.Spec PyProof.Rows RZ
theorem sum_rep (n : Nat) (m : Int) : (List.replicate n m).sum = n * m := by
  induction n with
  | zero => simp
  | succ n ih => rw [List.replicate_succ, List.sum_cons, ih, Int.natCast_succ, Int.add_mul, Int.one_mul, Int.add_comm]
theorem same_new2 {H : Hp} {q : Addr} {o o2 : HO} (n : H q = none) : Same H (upd (upd H q o) q o2) := fun b u e => by rw [upd_ne (ne_of_none e n), upd_ne (ne_of_none e n)]; exact e
def Fr.putL (r : Fr) (m : Int) : List Int := dealtL (r.c * m + 1) (r.c + 1) ++ List.replicate (r.wd.toNat + 1 - r.c.toNat) m
def Fr.takeL (r : Fr) (m : Int) : List Int := dealtL (r.j * r.least m - 1) (r.j - 1) ++ List.replicate (r.wd.toNat + 2 - r.j.toNat) (r.least m)
theorem Fr.wd_bd {r : Fr} (o : r.ok) : 2 ≤ r.wd ∧ r.wd ≤ 6 ∧ r.c ≤ r.wd ∧ r.j ≤ r.wd := by
  have := o.c1; have := o.c2; have := o.j1; have := o.j2
  unfold Fr.wd
  split <;> omega
def spBPut (C : Addr) : Sp := fun vs H Q _ => ∃ (x l : Addr) (r : Fr) (m : Int), vs = [.ref x, .int m, .ref l, .int 0] ∧ FAt C H x r ∧ r.ok ∧ 2 ≤ m ∧ m ≤ 10 ^ 12 ∧ H l = some (.lst ((List.replicate (r.wd.toNat + 1) m).map V.int)) ∧
  ∀ t q v H', Same H H' → H' t = some (.tup [.ref q, v]) → H' q = some (.lst ((r.putL m).map V.int)) → Q (.ref t) H'
def spBTake (C : Addr) : Sp := fun vs H Q _ => ∃ (x l : Addr) (r : Fr) (m : Int), vs = [.ref x, .int m, .ref l, .int 0] ∧ FAt C H x r ∧ r.ok ∧ 2 ≤ m ∧ m ≤ 10 ^ 12 ∧ 1 ≤ r.least m ∧ r.least m ≤ m ∧ H l = some (.lst ((List.replicate (r.wd.toNat + 2) (r.least m)).map V.int)) ∧
  ∀ t q v H', Same H H' → H' t = some (.tup [.ref q, v]) → H' q = some (.lst ((r.takeL m).map V.int)) → Q (.ref t) H'
/-- a row whose first page has another fill: what a group at its beginning holds -/
theorem row_sum {n k : Nat} {x m : Int} (h : 1 ≤ k) (h2 : k ≤ n + 1) : ((x :: List.replicate n m).take k).sum = x + (k - 1 : Int) * m := by
  obtain ⟨k, rfl⟩ : ∃ j, k = j + 1 := ⟨k - 1, by omega⟩
  rw [List.take_succ_cons, List.sum_cons, List.take_replicate, Nat.min_eq_left (by omega), sum_rep]
  congr 2
  omega
theorem row_drop {n k : Nat} {x m : Int} (h : 1 ≤ k) : (x :: List.replicate n m).drop k = List.replicate (n + 1 - k) m := by
  obtain ⟨k, rfl⟩ : ∃ j, k = j + 1 := ⟨k - 1, by omega⟩
  rw [List.drop_succ_cons, List.drop_replicate]
  congr 1
  omega
section
variable {P : Program} {w : World} {K : PySem.W.Frag} {mg : Str → Option Value} {base : Heap}
abbrev nBp : List Str := ["rule", "most", "fills", "ahead", "at", "row", "start", "end", "pages"]
theorem scBPut : FnScope nBp ["rule", "most", "fills", "ahead"] (defScope sBehindPut) := ⟨rfl, rfl, rfl, by decide +kernel, rfl, by decide +kernel, by decide +kernel⟩
theorem ok_bput {f C : Addr} {fd : FuncData} (F : Fun K "behind_put" "behind_put" sBehindPut f fd) (T : Blt mg) (TC : FCls K C) (ms : mg "sum" = none) {t1 : Tok} {x1 : Str} (gM : mg "MORE" = some (.str x1 t1)) (D1 : Df P w K mg base 2 "page_for" ["fills", "ahead"] spPageF) (D2 : Df P w K mg base 1 "group_of" ["at", "many"] spGroup) (D3 : Df P w K mg base 2 "dealt_anew" ["row", "start", "end", "pages"] spAnew) : FnOk P w K mg base CX0 3 f fd ["rule", "most", "fills", "ahead"] (spBPut C) := by
  obtain ⟨f1, fd1, G1, g1, k1, b1⟩ := D1.ex
  obtain ⟨f2, fd2, G2, g2, k2, b2⟩ := D2.ex
  obtain ⟨f3, fd3, G3, g3, k3, b3⟩ := D3.ex
  refine F.ok scBPut (fun vs H Q E h => ?_) (fun cdv A outer s H vs Q E hr h => ?_)
  · obtain ⟨x, l, r, m, rfl, _⟩ := h
    rfl
  · obtain ⟨x, l, r, m, rfl, fa, o, m1, m2, hl, kk⟩ := h
    have hr1 := hr.mono (show 1 ≤ 2 by decide)
    refine ⟨_, (pss_cons (ps_if (pt_cmpR op_eq (pe_callB call_len_seq (by rfl) T.len PySem.boot_len (pa_cons (pv 2) pa_nil)) pe_int (nomark _))
        (pss_one (ps_ret (pe_tup (pa_cons (pe_lst (pa_cons pe_int pa_nil)) (pa_cons (pe_tup (pa_cons (pe_glob (v := .str x1) rfl gM ⟨_, rfl⟩) (pa_cons pe_int pa_nil))) pa_nil))))) pss_nil)
      (pss_cons (ps_set (i := 4) scBPut.nd rfl (.inl rfl) (pe_call G1 hr (by rfl) g1 k1 b1 .nil pass0 (pa_cons (pv 2) (pa_cons (pv 3) pa_nil))))
      (pss_cons (ps_set (i := 5) scBPut.nd rfl (.inl rfl) (pe_callTy call_list_of (by rfl) T.list (by decide +kernel) (pa_cons (pv 2) pa_nil)))
      (pss_cons (ps_augS (pv 5) (pv 4) get_list pe_int ip_add set_list)
      (pss_cons (ps_par (i := 6) (j := 7) (by rfl) scBPut.nd rfl rfl (by decide) rfl rfl (pa_cons pe_int (pa_cons (pe_callB call_len_seq (by rfl) T.len PySem.boot_len (pa_cons (pv 5) pa_nil)) pa_nil)) (by rfl))
      (pss_cons (ps_if (pt_cmpR op_gt (pe_callB call_len_seq (by rfl) T.len PySem.boot_len (pa_cons (pv 5) pa_nil)) (pe_fld (pv 0) rfl) (nomark _))
        (pss_cons (ps_if (pt_cmpR op_le (pe_ix ix_list (pv 5) (pv 4) (fun _ _ => rfl)) (pv 1) (nomark _))
          (pss_one (ps_ret (pe_tup (pa_cons (pv 5) (pa_cons pe_non pa_nil))))) pss_nil)
        (pss_one (ps_asg (pe_call G2 hr1 (by rfl) g2 k2 b2 .nil pass0 (pa_cons (pv 4) (pa_cons (pe_fld (pv 0) rfl) pa_nil))) (pg_tup (by rfl) (pgs_cons (pg_name (i := 6) scBPut.nd rfl (.inl rfl)) (pgs_cons (pg_name (i := 7) scBPut.nd rfl (.inl rfl)) pgs_nil)))))) pss_nil)
      (pss_cons (ps_set (i := 8) scBPut.nd rfl (.inl rfl) (pe_op op_sub (pv 7) (pv 6)))
      (pss_cons (ps_if (pt_cmpR op_gt (pe_callB (cr_sum rfl) (by rfl) ms (by decide +kernel) (pa_cons (pe_slice sl_list (pv 5) (po_some (pv 6)) (po_some (pv 7))) pa_nil)) (pe_op op_mul (pv 8) (pv 1)) (nomark _))
        (pss_one (ps_aug (i := 8) scBPut.nd rfl (.inl rfl) pe_int ip_add)) pss_nil)
      (pss_one (ps_ret (pe_call G3 hr (by rfl) g3 k3 b3 .nil pass0 (pa_cons (pv 5) (pa_cons (pv 6) (pa_cons (pv 7) (pa_cons (pv 8) pa_nil))))))))))))))), ?_⟩
    obtain ⟨dx, ta, hx, ha⟩ := id fa
    obtain ⟨w1, w2, w3, w4⟩ := Fr.wd_bd o
    have c1 := o.c1
    obtain ⟨W, hW⟩ := Int.eq_ofNat_of_zero_le (show 0 ≤ r.wd by omega)
    obtain ⟨c, hc⟩ := Int.eq_ofNat_of_zero_le (show 0 ≤ r.c by omega)
    rw [show r.wd.toNat = W by omega] at hl
    have fl : ((List.replicate (W + 1) m).map V.int).length = W + 1 := by rw [List.length_map, List.length_replicate]
    refine ⟨_, rfl, l, _, rfl, .inl (SqL.of hl), rfl, _, rfl, ?_⟩
    rw [show decide (V.int ((((List.replicate (W + 1) m).map V.int).length : Nat) : Int) = V.int 0) = false from decide_eq_false fun z => by have := V.int.inj z; rw [fl] at this; omega]
    refine iteF ⟨_, rfl, _, rfl, l, rfl, _, rfl, l, _, rfl, .inl (SqL.of hl), fun a na => ?_⟩
    refine ⟨_, rfl, _, rfl, a, _, 0, .int m, rfl, rfl, by decide, SqL.of upd_same, (by rw [List.replicate_succ, List.map_cons]; exact atI_nat (j := 0) rfl), _, _, rfl, rfl, a, _, 0, 0, rfl, rfl, upd_same, (by rw [fl]; unfold ixN; rw [if_pos (by decide), if_pos (by omega)]; rfl), ?_⟩
    have er : ((List.replicate (W + 1) m).map V.int).set 0 (.int (m + 1)) = ((m + 1) :: List.replicate W m).map V.int := by rw [List.replicate_succ]; rfl
    rw [er]
    have s1 : Same H (upd (upd H a (.lst ((List.replicate (W + 1) m).map V.int))) a (.lst (((m + 1) :: List.replicate W m).map V.int))) := same_new2 na
    have h1 : upd (upd H a (.lst ((List.replicate (W + 1) m).map V.int))) a (.lst (((m + 1) :: List.replicate W m).map V.int)) a = some (.lst (((m + 1) :: List.replicate W m).map V.int)) := upd_same
    generalize upd (upd H a (.lst ((List.replicate (W + 1) m).map V.int))) a (.lst (((m + 1) :: List.replicate W m).map V.int)) = H1 at s1 h1 ⊢
    have rl : (((m + 1) :: List.replicate W m).map V.int).length = W + 1 := by rw [List.length_map, List.length_cons, List.length_replicate]
    have rl' : ((m + 1) :: List.replicate W m).length = W + 1 := by rw [List.length_cons, List.length_replicate]
    refine ⟨_, rfl, a, _, rfl, .inl (SqL.of h1), ?_⟩
    rw [rl]
    refine ⟨_, _, rfl, _, rfl, a, _, rfl, .inl (SqL.of h1), _, rfl, x, C, dx, _, _, rfl, s1 _ _ hx, TC.cl, TC.n5, fill_width _ _, _, _, rfl, rfl, _, rfl, ?_⟩
    rw [rl]
    rw [show decide (r.wd < ((W + 1 : Nat) : Int)) = true from decide_eq_true (by omega)]
    refine iteT ⟨_, rfl, _, rfl, a, _, 0, .int (m + 1), rfl, rfl, SqL.of h1, (by rw [List.map_cons]; exact atI_nat (j := 0) rfl), _, rfl, _, _, rfl, rfl, _, rfl, ?_⟩
    rw [show decide (m + 1 ≤ m) = false from decide_eq_false (by omega)]
    refine iteF ⟨_, rfl, _, rfl, x, C, dx, _, _, rfl, s1 _ _ hx, TC.cl, TC.n3, fill_cut _ _, 0, r.c, rfl, fun t H2 s2 ht => ?_⟩
    rw [if_neg (by omega), Int.zero_add] at ht
    have s3 := s1.trans s2
    have h2 := s2 _ _ h1
    refine ⟨t, _, rfl, SqT.of ht, rfl, _, _, rfl, _, _, rfl, rfl, ?_⟩
    refine ⟨_, rfl, _, rfl, _, _, rfl, rfl, ?_⟩
    refine ⟨_, rfl, _, rfl, _, rfl, _, rfl, _, rfl, a, _, rfl, SqL.of h2, fun q nq => ?_⟩
    have tk : (((m + 1) :: List.replicate W m).take r.c.toNat).sum = r.c * m + 1 := by
      rw [row_sum (by omega) (by omega), hc, Int.toNat_natCast, Int.sub_mul, Int.one_mul]
      omega
    rw [cut_to (by omega) (by rw [rl']; omega)]
    refine ⟨q, _, rfl, SqL.of upd_same, ?_⟩
    have s4 := s3.trans (same_new (o := .lst ((((m + 1) :: List.replicate W m).take r.c.toNat).map V.int)) nq)
    have h3 := same_new (o := .lst ((((m + 1) :: List.replicate W m).take r.c.toNat).map V.int)) nq _ _ h2
    generalize upd H2 q (.lst ((((m + 1) :: List.replicate W m).take r.c.toNat).map V.int)) = H3 at s4 h3 ⊢
    have e : r.c - 0 = r.c := Int.sub_zero _
    rw [tk]
    refine ⟨_, rfl, _, rfl, r.c - 0, _, rfl, rfl, .inl (mw (b := 12) (by omega) (by omega) (by decide)), _, _, rfl, rfl, _, rfl, ?_⟩
    rw [e, show decide (r.c * m < r.c * m + 1) = true from decide_eq_true (by omega)]
    refine iteT ⟨_, rfl, r.c, _, congrArg V.int e, rfl, ?_⟩
    refine ⟨_, rfl, _, rfl, _, rfl, _, rfl, a, _, r.c, r.c + 1, rfl, h3, by omega, by rw [rl']; omega, by rw [rl']; omega, by omega, by omega, fun t' q' v H4 s5 ht' hq' => ?_⟩
    rw [tk, row_drop (by omega)] at hq'
    refine kk t' q' v H4 (s4.trans s5) ht' ?_
    rw [hq', Fr.putL]
    rw [show r.wd.toNat = W by omega]
end
end Ev
namespace Ev
open PySem L2 PySem.Spec PyProof.Rows RZ
section
variable {P : Program} {w : World} {K : PySem.W.Frag} {mg : Str → Option Value} {base : Heap}
abbrev nBt : List Str := ["rule", "most", "fills", "index", "at", "row", "start", "end", "is_fewer", "least"]
theorem scBTake : FnScope nBt ["rule", "most", "fills", "index"] (defScope sBehindTake) := ⟨rfl, rfl, rfl, by decide +kernel, rfl, by decide +kernel, by decide +kernel⟩
theorem ok_btake {f C : Addr} {fd : FuncData} (F : Fun K "behind_take" "behind_take" sBehindTake f fd) (T : Blt mg) (TC : FCls K C) (ms : mg "sum" = none) (D0 : Df P w K mg base 1 "least_of" ["rule", "most"] (spLeastOf C)) (D1 : Df P w K mg base 1 "page_at" ["fills", "index"] spPage0) (D2 : Df P w K mg base 1 "group_of" ["at", "many"] spGroup) (D3 : Df P w K mg base 2 "dealt_anew" ["row", "start", "end", "pages"] spAnew) : FnOk P w K mg base CX0 3 f fd ["rule", "most", "fills", "index"] (spBTake C) := by
  obtain ⟨f0, fd0, G0, g0, k0, b0⟩ := D0.ex
  obtain ⟨f1, fd1, G1, g1, k1, b1⟩ := D1.ex
  obtain ⟨f2, fd2, G2, g2, k2, b2⟩ := D2.ex
  obtain ⟨f3, fd3, G3, g3, k3, b3⟩ := D3.ex
  refine F.ok scBTake (fun vs H Q E h => ?_) (fun cdv A outer s H vs Q E hr h => ?_)
  · obtain ⟨x, l, r, m, rfl, _⟩ := h
    rfl
  · obtain ⟨x, l, r, m, rfl, fa, o, m1, m2, l1, l2, hl, kk⟩ := h
    have hr1 := hr.mono (show 1 ≤ 2 by decide)
    refine ⟨_, (pss_cons (ps_set (i := 4) scBTake.nd rfl (.inl rfl) (pe_call G1 hr1 (by rfl) g1 k1 b1 .nil pass0 (pa_cons (pv 2) (pa_cons (pv 3) pa_nil))))
      (pss_cons (ps_set (i := 5) scBTake.nd rfl (.inl rfl) (pe_callTy call_list_of (by rfl) T.list (by decide +kernel) (pa_cons (pv 2) pa_nil)))
      (pss_cons (ps_augS (pv 5) (pv 4) get_list pe_int ip_sub set_list)
      (pss_cons (ps_par (i := 6) (j := 7) (by rfl) scBTake.nd rfl rfl (by decide) rfl rfl (pa_cons pe_int (pa_cons (pe_callB call_len_seq (by rfl) T.len PySem.boot_len (pa_cons (pv 5) pa_nil)) pa_nil)) (by rfl))
      (pss_cons (ps_if (pt_cmpR op_le (pe_callB call_len_seq (by rfl) T.len PySem.boot_len (pa_cons (pv 5) pa_nil)) (pe_fld (pv 0) rfl) (nomark _))
        (pss_one (ps_set (i := 8) scBTake.nd rfl (.inl rfl) (pe_cmpR op_le (pe_callB (cr_sum rfl) (by rfl) ms (by decide +kernel) (pa_cons (pv 5) pa_nil)) (pe_op op_mul (pe_op op_sub (pv 7) pe_int) (pv 1)) (nomark _))))
        (pss_cons (ps_set (i := 9) scBTake.nd rfl (.inl rfl) (pe_call G0 hr1 (by rfl) g0 k0 b0 .nil pass0 (pa_cons (pv 0) (pa_cons (pv 1) pa_nil))))
        (pss_cons (ps_if (pt_cmpR op_ge (pe_ix ix_list (pv 5) (pv 4) (fun _ _ => rfl)) (pv 9) (nomark _))
          (pss_one (ps_ret (pe_tup (pa_cons (pv 5) (pa_cons pe_non pa_nil))))) pss_nil)
        (pss_cons (ps_asg (pe_call G2 hr1 (by rfl) g2 k2 b2 .nil pass0 (pa_cons (pv 4) (pa_cons (pe_fld (pv 0) rfl) pa_nil))) (pg_tup (by rfl) (pgs_cons (pg_name (i := 6) scBTake.nd rfl (.inl rfl)) (pgs_cons (pg_name (i := 7) scBTake.nd rfl (.inl rfl)) pgs_nil))))
        (pss_one (ps_set (i := 8) scBTake.nd rfl (.inl rfl) (pe_cmpR op_lt (pe_callB (cr_sum rfl) (by rfl) ms (by decide +kernel) (pa_cons (pe_slice sl_list (pv 5) (po_some (pv 6)) (po_some (pv 7))) pa_nil)) (pe_op op_mul (pe_fld (pv 0) rfl) (pv 9)) (nomark _))))))))
      (pss_one (ps_ret (pe_call G3 hr (by rfl) g3 k3 b3 .nil pass0 (pa_cons (pv 5) (pa_cons (pv 6) (pa_cons (pv 7) (pa_cons (pe_op op_sub (pe_op op_sub (pv 7) (pv 6)) (pe_ifExp (pt_val (pv 8)) pe_int pe_int)) pa_nil)))))))))))), ?_⟩
    obtain ⟨dx, ta, hx, ha⟩ := id fa
    obtain ⟨w1, w2, w3, w4⟩ := Fr.wd_bd o
    have c1 := o.j1; have c2 := o.j2
    obtain ⟨W, hW⟩ := Int.eq_ofNat_of_zero_le (show 0 ≤ r.wd by omega)
    obtain ⟨c, hc⟩ := Int.eq_ofNat_of_zero_le (show 0 ≤ r.j by omega)
    rw [show r.wd.toNat + 2 = (W + 1) + 1 by omega] at hl
    generalize hz : r.least m = z at *
    have fl : ((List.replicate ((W + 1) + 1) z).map V.int).length = W + 2 := by rw [List.length_map, List.length_replicate]
    have hl0 : H l = some (.lst (.int z :: (List.replicate (W + 1) z).map V.int)) := hl
    refine ⟨_, rfl, _, rfl, l, z, _, rfl, hl0, l1, _, rfl, l, _, rfl, .inl (SqL.of hl), fun a na => ?_⟩
    refine ⟨_, rfl, _, rfl, a, _, 0, .int z, rfl, rfl, by decide, SqL.of upd_same, (by rw [List.replicate_succ, List.map_cons]; exact atI_nat (j := 0) rfl), _, _, rfl, rfl, a, _, 0, 0, rfl, rfl, upd_same, (by rw [fl]; unfold ixN; rw [if_pos (by decide), if_pos (by omega)]; rfl), ?_⟩
    have er : ((List.replicate ((W + 1) + 1) z).map V.int).set 0 (.int (z - 1)) = ((z - 1) :: List.replicate (W + 1) z).map V.int := by rw [List.replicate_succ]; rfl
    rw [er]
    have s1 : Same H (upd (upd H a (.lst ((List.replicate ((W + 1) + 1) z).map V.int))) a (.lst (((z - 1) :: List.replicate (W + 1) z).map V.int))) := same_new2 na
    have h1 : upd (upd H a (.lst ((List.replicate ((W + 1) + 1) z).map V.int))) a (.lst (((z - 1) :: List.replicate (W + 1) z).map V.int)) a = some (.lst (((z - 1) :: List.replicate (W + 1) z).map V.int)) := upd_same
    generalize upd (upd H a (.lst ((List.replicate ((W + 1) + 1) z).map V.int))) a (.lst (((z - 1) :: List.replicate (W + 1) z).map V.int)) = H1 at s1 h1 ⊢
    have rl : (((z - 1) :: List.replicate (W + 1) z).map V.int).length = W + 2 := by rw [List.length_map, List.length_cons, List.length_replicate]
    have rl' : ((z - 1) :: List.replicate (W + 1) z).length = W + 2 := by rw [List.length_cons, List.length_replicate]
    refine ⟨_, rfl, a, _, rfl, .inl (SqL.of h1), ?_⟩
    rw [rl]
    refine ⟨_, _, rfl, _, rfl, a, _, rfl, .inl (SqL.of h1), _, rfl, x, C, dx, _, _, rfl, s1 _ _ hx, TC.cl, TC.n5, fill_width _ _, _, _, rfl, rfl, _, rfl, ?_⟩
    rw [rl]
    rw [show decide (((W + 2 : Nat) : Int) ≤ r.wd) = false from decide_eq_false (by omega)]
    refine iteF ⟨_, rfl, _, rfl, x, r, m, rfl, fa.keep s1, o, ?_⟩
    rw [hz]
    refine ⟨_, rfl, _, rfl, a, _, 0, .int (z - 1), rfl, rfl, SqL.of h1, (by rw [List.map_cons]; exact atI_nat (j := 0) rfl), _, rfl, _, _, rfl, rfl, _, rfl, ?_⟩
    rw [show decide (z - 1 ≥ z) = false from decide_eq_false (by omega)]
    refine iteF ⟨_, rfl, _, rfl, x, C, dx, _, _, rfl, s1 _ _ hx, TC.cl, TC.n4, fill_join _ _, 0, r.j, rfl, fun t H2 s2 ht => ?_⟩
    rw [if_neg (by omega), Int.zero_add] at ht
    have s3 := s1.trans s2
    have h2 := s2 _ _ h1
    refine ⟨t, _, rfl, SqT.of ht, rfl, _, _, rfl, _, _, rfl, rfl, ?_⟩
    refine ⟨_, rfl, _, rfl, _, rfl, _, rfl, _, rfl, a, _, rfl, SqL.of h2, fun q nq => ?_⟩
    have tk : (((z - 1) :: List.replicate (W + 1) z).take r.j.toNat).sum = r.j * z - 1 := by
      rw [row_sum (by omega) (by omega), hc, Int.toNat_natCast, Int.sub_mul, Int.one_mul]
      omega
    rw [cut_to (by omega) (by rw [rl']; omega)]
    refine ⟨q, _, rfl, SqL.of upd_same, ?_⟩
    have s4 := s3.trans (same_new (o := .lst ((((z - 1) :: List.replicate (W + 1) z).take r.j.toNat).map V.int)) nq)
    have h3 := same_new (o := .lst ((((z - 1) :: List.replicate (W + 1) z).take r.j.toNat).map V.int)) nq _ _ h2
    generalize upd H2 q (.lst ((((z - 1) :: List.replicate (W + 1) z).take r.j.toNat).map V.int)) = H3 at s4 h3 ⊢
    rw [tk]
    refine ⟨_, rfl, x, C, dx, _, _, rfl, s4 _ _ hx, TC.cl, TC.n4, fill_join _ _, _, rfl, _, _, rfl, rfl, .inl (mw (b := 12) (by omega) (by omega) (by decide)), _, _, rfl, rfl, ?_⟩
    dsimp only
    rw [show decide (r.j * z - 1 < r.j * z) = true from decide_eq_true (by omega)]
    refine ⟨_, rfl, _, rfl, _, rfl, _, rfl, _, rfl, _, _, rfl, rfl, _, rfl, _, rfl, ?_⟩
    refine iteT ⟨_, _, rfl, rfl, a, _, r.j, r.j - 0 - 1, rfl, h3, by omega, by rw [rl']; omega, by rw [rl']; omega, by omega, by omega, fun t' q' v H4 s5 ht' hq' => ?_⟩
    rw [tk, row_drop (by omega)] at hq'
    refine kk t' q' v H4 (s4.trans s5) ht' ?_
    rw [hq', Fr.takeL, hz]
    rw [show r.wd.toNat + 2 = (W + 1) + 1 by omega, Int.sub_zero]
end
end Ev
namespace Ev
open PySem L2 PySem.Spec PyProof.Rows RZ LamX
section
variable {X : Cx}
/-- C() raised, of an own error class without an __init__ of its own -/
theorem pmk_own0 {C : Addr} {bmB : List Value} {B newId initId : String} {x : Str} {p pos : Pos} (F : ExcBaseFacts B newId initId bmB) (q : PySem.W.excIn X.K C bmB newId = true) (gC : X.mg x = some (.ref C)) (kC : PySem.W.keepIn X.K (.ref C) = true) (r : Raises X (.ref C)) (hg : Gl X x)
    (hdb : (x == ("__debug__" : Str)) = false := by decide) : PMk X (.Call (.Name x p) [] [] pos) (fun _ H Q => Q (.ref C) none H) := by
  intro pins s σ H Q I h
  refine wpAny_Call_Name_kw (ld_glob I hg gC ?_ hdb)
  refine PySem.W.callWith_K0 I.kIn kC ?_
  show wpAny _ _ (call (.ref C) []) _ _ _
  obtain ⟨bm, N, nm, qn, bs, hdct, sn, sub, ab, col, dd, k0, k1, k2, k3, k5, mN, hC, hN, hni, T⟩ := exc_obj I.kIn q
  refine wpAny_call_exc_subT F T hC hN hni (fun h' a hm => ?_) (by show 0 ≤ sizeLine; exact Nat.zero_le _)
  exact mk_of I hm r h (I.hok.gone hm.new)
end
abbrev veTail : List Value := [.type "ValueError", .type "Exception", .type "BaseException", .type "object"]
/-- the class of what is refused without a field -/
structure NoneC (K : PySem.W.Frag) (mg : Str → Option Value) (Z : Addr) : Prop where
  ex : PySem.W.excIn K Z veTail "ValueError.__new__" = true
  g : mg "Nothing" = some (.ref Z)
  kp : PySem.W.keepIn K (.ref Z) = true
  s1 : PySem.W.subIn K (.ref Z) (.type "BaseException") = some true
  s2 : PySem.W.typeIn K (.ref Z) = some (.type "type")
theorem sh_intsT (ns : List Int) : SeqAt.shaped (.tuple (ns.map PyData.int)) = true := by
  have h := sh_ints ns
  unfold SeqAt.shaped at h ⊢
  simpa [PyData.canLay0, PyData.depth] using h
theorem eqv_tupS (ps : List Int) : PyData.eqv (.tuple (ps.map PyData.int)) (.tuple (ps.map PyData.int)) = true := by
  have h : ∀ ps : List Int, PyData.eqvAll (ps.map PyData.int) (ps.map PyData.int) = true := by
    intro ps
    induction ps with
    | nil => simp [PyData.eqvAll]
    | cons a r ih => simp only [List.map_cons, PyData.eqvAll, ih, PyData.eqv]; simp
  simp only [PyData.eqv, h]
/-- the class of rows that are spilt -/
structure SCls (K : PySem.W.Frag) (C : Addr) : Prop where
  cl : Cls K C
  n1 : NoAttr K C "most"
  n2 : NoAttr K C "fills"
  n3 : NoAttr K C "deed"
  n4 : NoAttr K C "behind"
def spF (m : Int) (a : Addr) (d : Str) (b : Addr) : List (Str × V) := [("most", .int m), ("fills", .ref a), ("deed", .str d), ("behind", .ref b)]
def SAt (C : Addr) (H : Hp) (x : Addr) (m : Int) (fs : List Int) (d : Str) (bs : List Int) : Prop := ∃ dx a b, H x = some (.ins C dx (spF m a d b)) ∧ H a = some (.tup (fs.map V.int)) ∧ H b = some (.tup (bs.map V.int))
theorem SAt.keep {C x : Addr} {H H' : Hp} {m : Int} {fs bs : List Int} {d : Str} (h : SAt C H x m fs d bs) (k : Same H H') : SAt C H' x m fs d bs := by
  obtain ⟨dx, a, b, h1, h2, h3⟩ := h
  exact ⟨dx, a, b, k _ _ h1, k _ _ h2, k _ _ h3⟩
theorem SAt.ext {C x : Addr} {H H' : Hp} {m : Int} {fs bs : List Int} {d : Str} (h : SAt C H x m fs d bs) (k : ExtN H H') : SAt C H' x m fs d bs := by
  obtain ⟨dx, a, b, h1, h2, h3⟩ := h
  exact ⟨dx, a, b, k _ _ h1 (fun _ z => by cases z), k _ _ h2 (fun _ z => by cases z), k _ _ h3 (fun _ z => by cases z)⟩
theorem sf_most (m : Int) (a : Addr) (d : Str) (b : Addr) : (spF m a d b).lookup ("most" : Str) = some (.int m) := lk_hit
theorem sf_fills (m : Int) (a : Addr) (d : Str) (b : Addr) : (spF m a d b).lookup ("fills" : Str) = some (.ref a) := (lk_miss (by decide +kernel)).trans lk_hit
theorem sf_deed (m : Int) (a : Addr) (d : Str) (b : Addr) : (spF m a d b).lookup ("deed" : Str) = some (.str d) := (lk_miss (by decide +kernel)).trans ((lk_miss (by decide +kernel)).trans lk_hit)
theorem sf_behind (m : Int) (a : Addr) (d : Str) (b : Addr) : (spF m a d b).lookup ("behind" : Str) = some (.ref b) := (lk_miss (by decide +kernel)).trans ((lk_miss (by decide +kernel)).trans ((lk_miss (by decide +kernel)).trans lk_hit))
theorem sp1 {a : V} : putF "most" a [] = ([("most", a)] : List (Str × V)) := rfl
theorem sp2 {a b : V} : putF "fills" b [("most", a)] = ([("most", a), ("fills", b)] : List (Str × V)) := by
  show (if ("most" : Str) = "fills" then _ else _) = _
  rw [if_neg (by decide +kernel)]; rfl
theorem sp3 {a b c : V} : putF "deed" c [("most", a), ("fills", b)] = ([("most", a), ("fills", b), ("deed", c)] : List (Str × V)) := by
  show (if ("most" : Str) = "deed" then _ else _) = _
  rw [if_neg (by decide +kernel)]
  show _ :: (if ("fills" : Str) = "deed" then _ else _) = _
  rw [if_neg (by decide +kernel)]; rfl
theorem sp4 {a b c d : V} : putF "behind" d [("most", a), ("fills", b), ("deed", c)] = ([("most", a), ("fills", b), ("deed", c), ("behind", d)] : List (Str × V)) := by
  show (if ("most" : Str) = "behind" then _ else _) = _
  rw [if_neg (by decide +kernel)]
  show _ :: (if ("fills" : Str) = "behind" then _ else _) = _
  rw [if_neg (by decide +kernel)]
  show _ :: _ :: (if ("deed" : Str) = "behind" then _ else _) = _
  rw [if_neg (by decide +kernel)]; rfl
theorem hold_ints {H : Hp} {a : Addr} {ns : List Int} (h : H a = some (.tup (ns.map V.int))) (hl : ns.length ≤ 900) : Hold H (.ref a) (ns.map V.int) false :=
  .tup h (fun u z => by obtain ⟨n, _, rfl⟩ := List.mem_map.mp z; exact ⟨_, flat_int n⟩) (by rw [List.length_map]; exact hl)
theorem alike_flat {H H' : Hp} {v v' : V} (hv : ∀ a, v ≠ .ref a) (al : Alike H v H' v') : v' = v := by
  cases al with
  | same => rfl
  | lst => exact absurd rfl (hv _)
  | dct => exact absurd rfl (hv _)
theorem alike_tup {H H' : Hp} {a : Addr} {xs : List V} {v' : V} (h : H a = some (.tup xs)) (al : Alike H (.ref a) H' v') : v' = .ref a := by
  cases al with
  | same => rfl
  | lst e => rw [e] at h; cases h
  | dct e => rw [e] at h; cases h
def spSpInit (C : Addr) : Sp := fun vs H Q _ => ∃ (x dx a b : Addr) (m : Int) (d : Str) (fs bs : List Int), vs = [.ref x, .int m, .ref a, .str d, .ref b] ∧ H x = some (.ins C dx []) ∧ H a = some (.tup (fs.map V.int)) ∧ H b = some (.tup (bs.map V.int)) ∧ fs.length ≤ 900 ∧ bs.length ≤ 900 ∧
  ∀ H', But x H H' → H' x = some (.ins C dx (spF m a d b)) → Q .non H'
def spEqS (C : Addr) : Sp := fun vs H Q _ => ∃ (x y : Addr) (m : Int) (d : Str) (fs bs : List Int), vs = [.ref x, .ref y] ∧ SAt C H x m fs d bs ∧ SAt C H y m fs d bs ∧ Q (.bl true) H
section
variable {P : Program} {w : World} {K : PySem.W.Frag} {mg : Str → Option Value} {base : Heap}
theorem scSpInit : FnScope ["self", "most", "fills", "deed", "behind"] ["self", "most", "fills", "deed", "behind"] (defScope sSpill_init) := ⟨rfl, rfl, rfl, by decide +kernel, rfl, by decide +kernel, by decide +kernel⟩
theorem ok_spInit {f C : Addr} {fd : FuncData} (F : Fun K "__init__" "Spill.__init__" sSpill_init f fd) (T : SCls K C) (D : Df P w K mg base 3 "kept" ["value"] spKeptV) : FnOk P w K mg base CX0 4 f fd ["self", "most", "fills", "deed", "behind"] (spSpInit C) := by
  obtain ⟨f1, fd1, G1, g1, k1, b1⟩ := D.ex
  refine F.ok scSpInit (fun vs H Q E h => ?_) (fun cdv A outer s H vs Q E hr h => ?_)
  · obtain ⟨x, dx, a, b, m, d, fs, bs, rfl, _⟩ := h
    rfl
  · obtain ⟨x, dx, a, b, m, d, fs, bs, rfl, hx, ha, hb, fl, bl, kk⟩ := h
    refine ⟨_, (pss_cons (ps_fld (pv 0) (pe_call G1 hr (by rfl) g1 k1 b1 .nil pass0 (pa_cons (pv 1) pa_nil)) rfl)
      (pss_cons (ps_fld (pv 0) (pe_call G1 hr (by rfl) g1 k1 b1 .nil pass0 (pa_cons (pv 2) pa_nil)) rfl)
      (pss_cons (ps_fld (pv 0) (pe_call G1 hr (by rfl) g1 k1 b1 .nil pass0 (pa_cons (pv 3) pa_nil)) rfl)
      (pss_one (ps_fld (pv 0) (pe_call G1 hr (by rfl) g1 k1 b1 .nil pass0 (pa_cons (pv 4) pa_nil)) rfl))))), ?_⟩
    have ax : a ≠ x := fun z => by rw [z, hx] at ha; cases ha
    have bx : b ≠ x := fun z => by rw [z, hx] at hb; cases hb
    refine ⟨_, rfl, .int m, [], false, rfl, .flat (flat_int m), fun v1 H1 s1 al => ?_⟩
    obtain rfl := alike_flat (fun a z => by cases z) al
    refine ⟨_, rfl, x, C, dx, _, rfl, s1 _ _ hx, T.cl, T.n1, (by show 0 < 1000; decide), ?_⟩
    rw [sp1]
    have x1 : upd H1 x (.ins C dx [("most", .int m)]) x = some (.ins C dx [("most", .int m)]) := upd_same
    have t1 : But x H (upd H1 x (.ins C dx [("most", .int m)])) := (Same.but s1).trans But.upd_at
    generalize upd H1 x (.ins C dx [("most", .int m)]) = G1' at x1 t1 ⊢
    refine ⟨_, rfl, .ref a, _, _, rfl, hold_ints (t1 _ _ ax ha) fl, fun v2 H2 s2 al => ?_⟩
    obtain rfl := alike_tup (t1 _ _ ax ha) al
    refine ⟨_, rfl, x, C, dx, _, rfl, s2 _ _ x1, T.cl, T.n2, (by show 1 < 1000; decide), ?_⟩
    rw [sp2]
    have x2 : upd H2 x (.ins C dx [("most", .int m), ("fills", .ref a)]) x = some (.ins C dx [("most", .int m), ("fills", .ref a)]) := upd_same
    have t2 : But x H (upd H2 x (.ins C dx [("most", .int m), ("fills", .ref a)])) := t1.trans ((Same.but s2).trans But.upd_at)
    generalize upd H2 x (.ins C dx [("most", .int m), ("fills", .ref a)]) = G2' at x2 t2 ⊢
    refine ⟨_, rfl, .str d, [], false, rfl, .flat (flat_str d), fun v3 H3 s3 al => ?_⟩
    obtain rfl := alike_flat (fun a z => by cases z) al
    refine ⟨_, rfl, x, C, dx, _, rfl, s3 _ _ x2, T.cl, T.n3, (by show 2 < 1000; decide), ?_⟩
    rw [sp3]
    have x3 : upd H3 x (.ins C dx [("most", .int m), ("fills", .ref a), ("deed", .str d)]) x = some (.ins C dx [("most", .int m), ("fills", .ref a), ("deed", .str d)]) := upd_same
    have t3 : But x H (upd H3 x (.ins C dx [("most", .int m), ("fills", .ref a), ("deed", .str d)])) := t2.trans ((Same.but s3).trans But.upd_at)
    generalize upd H3 x (.ins C dx [("most", .int m), ("fills", .ref a), ("deed", .str d)]) = G3' at x3 t3 ⊢
    refine ⟨_, rfl, .ref b, _, _, rfl, hold_ints (t3 _ _ bx hb) bl, fun v4 H4 s4 al => ?_⟩
    obtain rfl := alike_tup (t3 _ _ bx hb) al
    refine ⟨_, rfl, x, C, dx, _, rfl, s4 _ _ x3, T.cl, T.n4, (by show 3 < 1000; decide), ?_⟩
    rw [sp4]
    exact kk _ (t3.trans ((Same.but s4).trans But.upd_at)) upd_same
theorem scSpEq : FnScope ["self", "other"] ["self", "other"] (defScope sSpill_eq) := ⟨rfl, rfl, rfl, by decide +kernel, rfl, by decide +kernel, by decide +kernel⟩
theorem ok_spEq {f C : Addr} {fd : FuncData} (F : Fun K "__eq__" "Spill.__eq__" sSpill_eq f fd) (T : Blt mg) (TC : SCls K C) (IT : InsT K C) (gC : mg "Spill" = some (.ref C)) : FnOk P w K mg base CX0 1 f fd ["self", "other"] (spEqS C) := by
  refine F.ok scSpEq (fun vs H Q E h => ?_) (fun cdv A outer s H vs Q E hr h => ?_)
  · obtain ⟨x, y, m, d, fs, bs, rfl, _⟩ := h
    rfl
  · obtain ⟨x, y, m, d, fs, bs, rfl, ⟨dx, a, b, hx, ha, hb⟩, ⟨dy, a2, b2, hy, ha2, hb2⟩, kk⟩ := h
    refine ⟨_, pss_one (ps_ret (pe_and (pe_callB call_isi (by rfl) T.isi (by decide +kernel) (pa_cons (pv 1) (pa_cons (pe_glob (v := .ref C) rfl gC rfl) pa_nil)))
      (pe_and (pe_cmpR op_eq (pe_fld (pv 0) rfl) (pe_fld (pv 1) rfl) (nomark _)) (pe_and (pe_cmpR (op_eqD (Room.units hr)) (pe_fld (pv 0) rfl) (pe_fld (pv 1) rfl) (nomark _))
      (pe_and (pe_cmpR op_eq (pe_fld (pv 0) rfl) (pe_fld (pv 1) rfl) (nomark _)) (pe_one (pe_cmpR (op_eqD (Room.units hr)) (pe_fld (pv 0) rfl) (pe_fld (pv 1) rfl) (nomark _)))))))), ?_⟩
    refine ⟨_, rfl, _, _, _, _, true, rfl, .own C, .base (.ins hy TC.cl IT.ha IT.hn IT.htk IT.hm), kit_self, true, rfl, iteT ?_⟩
    refine ⟨_, rfl, x, C, dx, _, _, rfl, hx, TC.cl, TC.n1, sf_most _ _ _ _, _, rfl, y, C, dy, _, _, rfl, hy, TC.cl, TC.n1, sf_most _ _ _ _, rfl, _, rfl, ?_⟩
    rw [decide_eq_true rfl]
    refine iteT ⟨_, rfl, x, C, dx, _, _, rfl, hx, TC.cl, TC.n2, sf_fills _ _ _ _, _, rfl, y, C, dy, _, _, rfl, hy, TC.cl, TC.n2, sf_fills _ _ _ _, _, _, .tup (SqT.of ha) (dpInts fs), .tup (SqT.of ha2) (dpInts fs), sh_intsT _, sh_intsT _, _, rfl, ?_⟩
    rw [eqv_tupS]
    refine iteT ⟨_, rfl, x, C, dx, _, _, rfl, hx, TC.cl, TC.n3, sf_deed _ _ _ _, _, rfl, y, C, dy, _, _, rfl, hy, TC.cl, TC.n3, sf_deed _ _ _ _, rfl, _, rfl, ?_⟩
    rw [decide_eq_true rfl]
    refine iteT ⟨_, rfl, x, C, dx, _, _, rfl, hx, TC.cl, TC.n4, sf_behind _ _ _ _, _, rfl, y, C, dy, _, _, rfl, hy, TC.cl, TC.n4, sf_behind _ _ _ _, _, _, .tup (SqT.of hb) (dpInts bs), .tup (SqT.of hb2) (dpInts bs), sh_intsT _, sh_intsT _, ?_⟩
    rw [eqv_tupS]
    exact kk
end
end Ev
namespace Ev
open PySem L2 PySem.Spec PyProof.Rows RZ LamX
def Fr.byPut (r : Fr) : Bool := decide (r.c + 1 ≤ r.j)
def Fr.spFills (r : Fr) (m : Int) : List Int := if r.byPut then List.replicate (r.wd.toNat + 1) m else List.replicate (r.wd.toNat + 2) (r.least m)
def Fr.spDeed (r : Fr) : Str := if r.byPut then "put" else "take"
def Fr.spBehind (r : Fr) (m : Int) : List Int := if r.byPut then r.putL m else r.takeL m
theorem Fr.putL_len {r : Fr} (o : r.ok) (m : Int) : (r.putL m).length = r.wd.toNat + 2 := by
  obtain ⟨w1, w2, w3, w4⟩ := Fr.wd_bd o
  have := o.c1
  rw [Fr.putL, List.length_append, List.length_replicate, dealtL_len (by omega)]
  omega
theorem Fr.takeL_len {r : Fr} (o : r.ok) (m : Int) : (r.takeL m).length = r.wd.toNat + 1 := by
  obtain ⟨w1, w2, w3, w4⟩ := Fr.wd_bd o
  have := o.j1
  rw [Fr.takeL, List.length_append, List.length_replicate, dealtL_len (by omega)]
  omega
/-- a row that is spilt is told -/
def spSpill (K : PySem.W.Frag) (C B N Z S : Addr) : Sp := fun vs H Q E => ∃ (rv mv : V), vs = [rv, mv] ∧
  ((∃ t : Value, TyX K H rv t ∧ PySem.W.kitOne K t (.ref C) = some false ∧ ∀ g : Prop, OutK B N H E g (.rule "rule")) ∨
   (∃ (x : Addr) (r : Fr), rv = .ref x ∧ FAt C H x r ∧ r.ok ∧ IntQ H mv ∧ ((inB 2 (10 ^ 12) mv = false ∧ (∃ us b, Hold H mv us b) ∧ Told N "value" H mv E) ∨
    (∃ m : Int, mv = .int m ∧ 2 ≤ m ∧ m ≤ 10 ^ 12 ∧ ((¬ (1 ≤ r.least m ∧ r.least m ≤ m) ∧ Told N "value" H (.int m) E) ∨
      (1 ≤ r.least m ∧ r.least m ≤ m ∧ ((r.right m = true ∧ ∀ Hx, Same H Hx → E (.ref Z) none Hx) ∨ (r.right m = false ∧ ∀ y G, Same H G → SAt S G y m (r.spFills m) r.spDeed (r.spBehind m) → Q (.ref y) G))))))))
/-- the class of spilt rows, made -/
structure SMk (P : Program) (w : World) (K : PySem.W.Frag) (mg : Str → Option Value) (base : Heap) (S : Addr) : Prop where
  cl : SCls K S
  it : InsT K S
  g : mg "Spill" = some (.ref S)
  mkr : ∃ (f : Addr) (fd : FuncData), Mk K S f ∧ FnOk P w K mg base CX0 4 f fd ["self", "most", "fills", "deed", "behind"] (spSpInit S) ∧ Binds K fd ["self", "most", "fills", "deed", "behind"] []
section
variable {P : Program} {w : World} {K : PySem.W.Frag} {mg : Str → Option Value} {base : Heap}
/-- what is made of four parts -/
theorem mk_spill {S : Addr} {H : Hp} {m : Int} {a b : Addr} {d : Str} {fs bs : List Int} {E : XK} {Q : VK} (ha : H a = some (.tup (fs.map V.int))) (hb : H b = some (.tup (bs.map V.int))) (fl : fs.length ≤ 900) (bl : bs.length ≤ 900) (k : ∀ y G, Same H G → SAt S G y m fs d bs → Q (.ref y) G) :
    ∀ x dx, H x = none → H dx = none → dx ≠ x → spSpInit S (.ref x :: ([.int m, .ref a, .str d, .ref b] ++ [])) (upd (upd H dx (.own x)) x (.ins S dx [])) (fun v H2 => v = .non ∧ Q (.ref x) H2) E := by
  intro x dx nx nd ne
  have n2 : (upd H dx (.own x)) x = none := by rw [upd_ne (fun z => ne z.symm)]; exact nx
  have s1 : Same H (upd (upd H dx (.own x)) x (.ins S dx [])) := (same_new nd).trans (same_new n2)
  refine ⟨x, dx, a, b, m, d, fs, bs, rfl, upd_same, s1 _ _ ha, s1 _ _ hb, fl, bl, fun H' bt hx => ⟨rfl, k x H' (fun c o e => ?_) ⟨dx, a, b, hx, bt _ _ (ne_of_none ha nx) (s1 _ _ ha), bt _ _ (ne_of_none hb nx) (s1 _ _ hb)⟩⟩⟩
  exact bt c o (ne_of_none e nx) (s1 _ _ e)
theorem scSpillOf : FnScope ["rule", "most", "fills"] ["rule", "most"] (defScope sSpillOf) := ⟨rfl, rfl, rfl, by decide +kernel, rfl, by decide +kernel, by decide +kernel⟩
theorem ok_spillOf {f C B N Z S : Addr} {fd : FuncData} (F : Fun K "spill_of" "spill_of" sSpillOf f fd) (T : Blt mg) (R : FTwo K C) (NC : NoneC K mg Z) (SM : SMk P w K mg base S) (D1 : DfX P w K mg base 5 "need_fill_rule" ["value"] (spNeedF K C B N)) (D2 : DfX P w K mg base 7 "need_page_size" ["rule", "most"] (spNeedP C N)) (D3 : Df P w K mg base 2 "is_right_for" ["rule", "most"] (spRightFor C)) (D4 : Df P w K mg base 3 "behind_put" ["rule", "most", "fills", "ahead"] (spBPut C)) (D5 : Df P w K mg base 3 "behind_take" ["rule", "most", "fills", "index"] (spBTake C)) (D6 : Df P w K mg base 1 "least_of" ["rule", "most"] (spLeastOf C)) : FnOk P w K mg base (L2.CX P w) 8 f fd ["rule", "most"] (spSpill K C B N Z S) := by
  obtain ⟨f1, fd1, G1, g1, k1, b1⟩ := D1.ex
  obtain ⟨f2, fd2, G2, g2, k2, b2⟩ := D2.ex
  obtain ⟨f3, fd3, G3, g3, k3, b3⟩ := D3.ex
  obtain ⟨f4, fd4, G4, g4, k4, b4⟩ := D4.ex
  obtain ⟨f5, fd5, G5, g5, k5, b5⟩ := D5.ex
  obtain ⟨f6, fd6, G6, g6, k6, b6⟩ := D6.ex
  obtain ⟨TS, IS, gS, fm, fdm, MM, GM, bM⟩ := id SM
  refine F.okX scSpillOf (fun vs H Q E h => ?_) (fun cdv A outer s H vs Q E hr h => ?_)
  · obtain ⟨rv, mv, rfl, _⟩ := h
    rfl
  · obtain ⟨rv, mv, rfl, h⟩ := h
    have TC := R.cl
    refine ⟨_, (pss_cons (ps_expr (pe_callS G1 (hr.mono (by decide)) (by rfl) g1 k1 b1 (fun σ => passAt (takes_of rfl rfl rfl rfl) σ) (pa_cons (pv 0) pa_nil)))
      (pss_cons (ps_expr (pe_callS G2 (hr.mono (by decide)) (by rfl) g2 k2 b2 (fun σ => passAt (takes_of rfl rfl rfl rfl) σ) (pa_cons (pv 0) (pa_cons (pv 1) pa_nil))))
      (pss_cons (ps_if (pt_val (pe_call G3 (hr.mono (by decide)) (by rfl) g3 k3 b3 .nil pass0 (pa_cons (pv 0) (pa_cons (pv 1) pa_nil))))
        (pss_one (ps_raise rfl (takes_of rfl rfl rfl rfl) (pmk_own0 PySem.F.excBase_ValueError NC.ex NC.g NC.kp (raises_own NC.s1 NC.s2) (by rfl)))) pss_nil)
      (pss_cons (ps_if (pt_cmpR op_le (pe_op op_add (pe_fld (pv 0) rfl) pe_int) (pe_fld (pv 0) rfl) (nomark _))
        (pss_cons (ps_set (i := 2) scSpillOf.nd rfl (.inl rfl) (pe_op op_rep (pe_lst (pa_cons (pv 1) pa_nil)) (pe_op op_add (pe_fld (pv 0) rfl) pe_int)))
        (pss_one (ps_ret (pe_make MM GM (hr.mono (by decide)) (by rfl) gS bM .nil pass0 (pa_cons (pv 1) (pa_cons (pe_callTy call_tuple_of (by rfl) T.tuple (by decide +kernel) (pa_cons (pv 2) pa_nil)) (pa_cons pe_str (pa_cons (pe_callTy call_tuple_of (by rfl) T.tuple (by decide +kernel) (pa_cons (pe_ix ix_tup (pe_call G4 (hr.mono (by decide)) (by rfl) g4 k4 b4 .nil pass0 (pa_cons (pv 0) (pa_cons (pv 1) (pa_cons (pv 2) (pa_cons pe_int pa_nil))))) pe_int (fun _ _ => rfl)) pa_nil)) pa_nil)))))))) pss_nil)
      (pss_cons (ps_set (i := 2) scSpillOf.nd rfl (.inl rfl) (pe_op op_rep (pe_lst (pa_cons (pe_call G6 (hr.mono (by decide)) (by rfl) g6 k6 b6 .nil pass0 (pa_cons (pv 0) (pa_cons (pv 1) pa_nil))) pa_nil)) (pe_op op_add (pe_fld (pv 0) rfl) pe_int)))
      (pss_one (ps_ret (pe_make MM GM (hr.mono (by decide)) (by rfl) gS bM .nil pass0 (pa_cons (pv 1) (pa_cons (pe_callTy call_tuple_of (by rfl) T.tuple (by decide +kernel) (pa_cons (pv 2) pa_nil)) (pa_cons pe_str (pa_cons (pe_callTy call_tuple_of (by rfl) T.tuple (by decide +kernel) (pa_cons (pe_ix ix_tup (pe_call G5 (hr.mono (by decide)) (by rfl) g5 k5 b5 .nil pass0 (pa_cons (pv 0) (pa_cons (pv 1) (pa_cons (pv 2) (pa_cons pe_int pa_nil))))) pe_int (fun _ _ => rfl)) pa_nil)) pa_nil)))))))))))), ?_⟩
    rcases h with ⟨t, ty, kt, ho⟩ | ⟨x, r, rfl, fa, o, hq, h⟩
    · exact ⟨_, rfl, rv, rfl, .inl ⟨t, ty, kt, ho⟩⟩
    obtain ⟨w1, w2, w3, w4⟩ := Fr.wd_bd o
    refine ⟨_, rfl, .ref x, rfl, .inr ⟨x, r, rfl, fa, ?_⟩⟩
    rcases h with ⟨z, hv, k⟩ | ⟨m, rfl, m1, m2, h⟩
    · exact ⟨_, rfl, _, rfl, x, r, mv, rfl, fa, o, hq, .inl ⟨z, hv, k⟩⟩
    rcases h with ⟨n, k⟩ | ⟨l1, l2, h⟩
    · exact ⟨_, rfl, _, rfl, x, r, .int m, rfl, fa, o, hq, .inr ⟨m, rfl, m1, m2, .inl ⟨n, k⟩⟩⟩
    refine ⟨_, rfl, _, rfl, x, r, .int m, rfl, fa, o, hq, .inr ⟨m, rfl, m1, m2, .inr ⟨l1, l2, ?_⟩⟩⟩
    obtain ⟨dx, ta, hx, ha⟩ := id fa
    rcases h with ⟨ri, k⟩ | ⟨ri, k⟩
    · refine ⟨_, rfl, _, rfl, x, r, m, rfl, fa, o, _, rfl, ?_⟩
      rw [ri]
      exact iteT (k H (Same.refl H))
    · refine ⟨_, rfl, _, rfl, x, r, m, rfl, fa, o, _, rfl, ?_⟩
      rw [ri]
      refine iteF ⟨_, rfl, x, C, dx, _, _, rfl, hx, TC.cl, TC.n3, fill_cut _ _, _, _, rfl, rfl, _, rfl, x, C, dx, _, _, rfl, hx, TC.cl, TC.n4, fill_join _ _, _, _, rfl, rfl, _, rfl, ite2 (fun e => ?_) (fun e => ?_)⟩
      · have bp : r.byPut = true := e
        rw [Fr.spFills, Fr.spDeed, Fr.spBehind, bp, if_pos rfl, if_pos rfl, if_pos rfl] at k
        refine ⟨_, rfl, (by show 1 ≤ sizeLine; decide), fun l1 n1 => ?_⟩
        have s1 := same_new (o := .lst [V.int m]) n1
        have hl1 : upd H l1 (.lst [V.int m]) l1 = some (.lst [V.int m]) := upd_same
        generalize upd H l1 (.lst [V.int m]) = H1 at s1 hl1 ⊢
        refine ⟨_, rfl, x, C, dx, _, _, rfl, s1 _ _ hx, TC.cl, TC.n5, fill_width _ _, _, _, rfl, rfl, l1, r.wd + 1, _, rfl, rfl, hl1, by omega, by omega, ?_, fun l2 n2 => ?_⟩
        · have : 1 * (r.wd + 1).toNat ≤ 12 := by omega
          exact Nat.le_trans this (by decide)
        rw [List.flatten_replicate_singleton, show (r.wd + 1).toNat = r.wd.toNat + 1 by omega, ← List.map_replicate]
        have s2 := s1.trans (same_new (o := .lst ((List.replicate (r.wd.toNat + 1) m).map V.int)) n2)
        have hl2 : upd H1 l2 (.lst ((List.replicate (r.wd.toNat + 1) m).map V.int)) l2 = some (.lst ((List.replicate (r.wd.toNat + 1) m).map V.int)) := upd_same
        generalize upd H1 l2 (.lst ((List.replicate (r.wd.toNat + 1) m).map V.int)) = H2 at s2 hl2 ⊢
        refine ⟨_, rfl, _, rfl, l2, _, rfl, .inl ⟨SqL.of hl2, fun t1 nt1 => ?_⟩⟩
        have s3 := s2.trans (same_new (o := .tup ((List.replicate (r.wd.toNat + 1) m).map V.int)) nt1)
        have hl3 := same_new (o := .tup ((List.replicate (r.wd.toNat + 1) m).map V.int)) nt1 _ _ hl2
        have ht1 : upd H2 t1 (.tup ((List.replicate (r.wd.toNat + 1) m).map V.int)) t1 = some (.tup ((List.replicate (r.wd.toNat + 1) m).map V.int)) := upd_same
        generalize upd H2 t1 (.tup ((List.replicate (r.wd.toNat + 1) m).map V.int)) = H3 at s3 hl3 ht1 ⊢
        refine ⟨_, rfl, _, rfl, _, rfl, x, l2, r, m, rfl, fa.keep s3, o, m1, m2, hl3, fun t2 q v H4 s4 ht2 hq2 => ?_⟩
        refine ⟨t2, _, 0, _, rfl, rfl, SqT.of ht2, rfl, q, _, rfl, .inl ⟨SqL.of hq2, fun t3 nt3 => ?_⟩⟩
        have s5 := s4.trans (same_new (o := .tup ((r.putL m).map V.int)) nt3)
        refine mk_spill (s5 _ _ ht1) upd_same (by rw [List.length_replicate]; omega) (by rw [Fr.putL_len o]; omega) fun y G s6 sy => k y G ((s3.trans s5).trans s6) sy
      · have bp : r.byPut = false := Bool.eq_false_iff.mpr e
        rw [Fr.spFills, Fr.spDeed, Fr.spBehind, bp, if_neg (by decide), if_neg (by decide), if_neg (by decide)] at k
        refine ⟨_, rfl, _, rfl, x, r, m, rfl, fa, o, ?_⟩
        refine ⟨(by show 1 ≤ sizeLine; decide), fun l1' n1 => ?_⟩
        have s1 := same_new (o := .lst [V.int (r.least m)]) n1
        have hl1 : upd H l1' (.lst [V.int (r.least m)]) l1' = some (.lst [V.int (r.least m)]) := upd_same
        generalize upd H l1' (.lst [V.int (r.least m)]) = H1 at s1 hl1 ⊢
        refine ⟨_, rfl, x, C, dx, _, _, rfl, s1 _ _ hx, TC.cl, TC.n5, fill_width _ _, _, _, rfl, rfl, l1', r.wd + 2, _, rfl, rfl, hl1, by omega, by omega, ?_, fun l2' n2 => ?_⟩
        · have : 1 * (r.wd + 2).toNat ≤ 12 := by omega
          exact Nat.le_trans this (by decide)
        rw [List.flatten_replicate_singleton, show (r.wd + 2).toNat = r.wd.toNat + 2 by omega, ← List.map_replicate]
        have s2 := s1.trans (same_new (o := .lst ((List.replicate (r.wd.toNat + 2) (r.least m)).map V.int)) n2)
        have hl2 : upd H1 l2' (.lst ((List.replicate (r.wd.toNat + 2) (r.least m)).map V.int)) l2' = some (.lst ((List.replicate (r.wd.toNat + 2) (r.least m)).map V.int)) := upd_same
        generalize upd H1 l2' (.lst ((List.replicate (r.wd.toNat + 2) (r.least m)).map V.int)) = H2 at s2 hl2 ⊢
        refine ⟨_, rfl, _, rfl, l2', _, rfl, .inl ⟨SqL.of hl2, fun t1 nt1 => ?_⟩⟩
        have s3 := s2.trans (same_new (o := .tup ((List.replicate (r.wd.toNat + 2) (r.least m)).map V.int)) nt1)
        have hl3 := same_new (o := .tup ((List.replicate (r.wd.toNat + 2) (r.least m)).map V.int)) nt1 _ _ hl2
        have ht1 : upd H2 t1 (.tup ((List.replicate (r.wd.toNat + 2) (r.least m)).map V.int)) t1 = some (.tup ((List.replicate (r.wd.toNat + 2) (r.least m)).map V.int)) := upd_same
        generalize upd H2 t1 (.tup ((List.replicate (r.wd.toNat + 2) (r.least m)).map V.int)) = H3 at s3 hl3 ht1 ⊢
        refine ⟨_, rfl, _, rfl, _, rfl, x, l2', r, m, rfl, fa.keep s3, o, m1, m2, l1, l2, hl3, fun t2 q v H4 s4 ht2 hq2 => ?_⟩
        refine ⟨t2, _, 0, _, rfl, rfl, SqT.of ht2, rfl, q, _, rfl, .inl ⟨SqL.of hq2, fun t3 nt3 => ?_⟩⟩
        have s5 := s4.trans (same_new (o := .tup ((r.takeL m).map V.int)) nt3)
        refine mk_spill (s5 _ _ ht1) upd_same (by rw [List.length_replicate]; omega) (by rw [Fr.takeL_len o]; omega) fun y G s6 sy => k y G ((s3.trans s5).trans s6) sy
end
end Ev
namespace Ev
open PySem L2 PySem.Spec PyProof.Rows RZ
def spLLeast : Sp := fun vs H Q _ => ∃ (l : Addr) (r : Fr) (m : Int), vs = [.ref l, .int m] ∧ H l = some (.tup (tupR r)) ∧ r.ok ∧ Q (.int (r.least m)) H
def spLIsR : Sp := fun vs H Q _ => ∃ (l : Addr) (r : Fr) (m : Int), vs = [.ref l, .int m] ∧ H l = some (.tup (tupR r)) ∧ r.ok ∧ 2 ≤ m ∧ m ≤ 10 ^ 12 ∧ 1 ≤ r.least m ∧ r.least m ≤ m ∧ Q (.bl (r.right m)) H
theorem right_fine {r : Fr} (o : r.ok) {m : Int} (hm : 2 ≤ m) (l1 : 1 ≤ r.least m) (l2 : r.least m ≤ m) : r.right m = true ↔ (r.c + 1) * r.least m ≤ r.c * m + 1 ∧ r.j * r.least m ≤ (r.j - 1) * m + 1 := by
  have c1 := o.c1; have c2 := o.c2; have j1 := o.j1; have j2 := o.j2
  unfold Fr.right Fr.many
  generalize r.least m = a at *
  rw [decide_eq_true l1, Bool.true_and, decide_eq_true_iff]
  generalize r.c = c at *
  generalize r.j = j at *
  obtain rfl | rfl | rfl | rfl | rfl : c = 1 ∨ c = 2 ∨ c = 3 ∨ c = 4 ∨ c = 5 := by omega
  all_goals (obtain rfl | rfl | rfl | rfl | rfl : j = 2 ∨ j = 3 ∨ j = 4 ∨ j = 5 ∨ j = 6 := by omega) <;> first | rw [if_pos (by decide)] | rw [if_neg (by decide)]
  all_goals constructor <;> intro h <;> omega
theorem fine_iff {r : Fr} (o : r.ok) {m : Int} : (¬ (r.c * m + 1).fdiv (r.c + 1) < r.least m ∧ (r.j * r.least m - 1 + r.j - 2).fdiv (r.j - 1) ≤ m) ↔ (r.c + 1) * r.least m ≤ r.c * m + 1 ∧ r.j * r.least m ≤ (r.j - 1) * m + 1 := by
  have := o.c1; have := o.j1
  rw [Int.fdiv_eq_ediv_of_nonneg _ (by omega), Int.fdiv_eq_ediv_of_nonneg _ (by omega)]
  have a1 := Int.le_ediv_iff_mul_le (a := r.least m) (b := r.c * m + 1) (c := r.c + 1) (by omega)
  have a2 : (r.j * r.least m - 1 + r.j - 2) / (r.j - 1) < m + 1 ↔ r.j * r.least m - 1 + r.j - 2 < (m + 1) * (r.j - 1) := Int.ediv_lt_iff_lt_mul (by omega)
  rw [Int.add_mul, Int.one_mul, Int.mul_comm m (r.j - 1)] at a2
  rw [Int.mul_comm (r.least m)] at a1
  omega
theorem wd_max (r : Fr) : (if r.j > r.c then r.j else r.c) = r.wd := by
  unfold Fr.wd
  split <;> split <;> omega
def spLDealt : Sp := fun vs H Q _ => ∃ t p : Int, vs = [.int t, .int p] ∧ 1 ≤ p ∧ p ≤ 12 ∧ ∀ q H', Same H H' → H' q = some (.lst ((dealtL t p).map V.int)) → Q (.ref q) H'
def spLPage : Sp := fun vs H Q _ => ∃ (l : Addr) (x i : Int) (xs : List V), vs = [.ref l, .int i] ∧ H l = some (.lst (.int x :: xs)) ∧ xs.length ≤ 900 ∧ i < x ∧ Q (.int 0) H
def spLGroup : Sp := fun vs H Q _ => ∃ (l : V) (at' many : Int), vs = [l, .int at', .int many] ∧ ∀ t H', Same H H' → H' t = some (.tup [.int (if at' ≥ many then at' - many + 1 else 0), .int ((if at' ≥ many then at' - many + 1 else 0) + many)]) → Q (.ref t) H'
theorem dealt_at (t : Int) {p : Int} (hp : 1 ≤ p) {i : Nat} (hi : i < p.toNat) : ((dealtL t p).map V.int).take i ++ [.int (t / p + (if decide ((i : Int) < t - p * (t / p)) then 1 else 0))] = ((dealtL t p).map V.int).take (i + 1) := by
  have h1 := Int.emod_nonneg t (by omega : p ≠ 0)
  have h2 := Int.emod_lt_of_pos t (by omega : 0 < p)
  have e : t - p * (t / p) = t % p := by have := Int.emod_def t p; omega
  have hl : i < ((dealtL t p).map V.int).length := by rw [List.length_map, dealtL_len hp]; exact hi
  rw [List.take_succ_eq_append_getElem hl]
  congr 1
  rw [List.getElem_map]
  congr 2
  rw [e]
  unfold dealtL
  by_cases z : (i : Int) < t % p
  · rw [if_pos (decide_eq_true z), List.getElem_append_left (by rw [List.length_replicate]; omega), List.getElem_replicate]
  · rw [if_neg (by simpa using z), List.getElem_append_right (by rw [List.length_replicate]; omega), List.getElem_replicate, Int.add_zero]
section
variable {P : Program} {w : World} {K : PySem.W.Frag} {mg : Str → Option Value} {base : Heap}
theorem scLLeast : FnScope ["_law_told", "_law_top"] ["_law_told", "_law_top"] (defScope sLLeast) := ⟨rfl, rfl, rfl, by decide +kernel, rfl, by decide +kernel, by decide +kernel⟩
theorem ok_lleast {f : Addr} {fd : FuncData} (F : Fun K "_law_least" "_law_least" sLLeast f fd) : FnOk P w K mg base CX0 1 f fd ["_law_told", "_law_top"] spLLeast := by
  refine F.ok scLLeast (fun vs H Q E h => ?_) (fun cdv A outer s H vs Q E hr h => ?_)
  · obtain ⟨l, r, m, rfl, _⟩ := h
    rfl
  · obtain ⟨l, r, m, rfl, hl, o, k⟩ := h
    have := o.q1; have := o.q2
    refine ⟨_, (pss_one (ps_ret (pe_op op_fdivN (pe_op op_add (pe_op op_mul (pe_ix ix_tup (pv 0) pe_int (fun _ _ => rfl)) (pv 1)) (pe_ix ix_tup (pv 0) pe_int (fun _ _ => rfl))) (pe_ix ix_tup (pv 0) pe_int (fun _ _ => rfl))))), ?_⟩
    exact ⟨_, rfl, l, _, _, _, rfl, rfl, SqT.of hl, i5_0, _, rfl, _, _, rfl, rfl, .inl (mw (b := 12) (by have := o.p1; omega) o.p2 (by decide)), _, rfl, l, _, _, _, rfl, rfl, SqT.of hl, i5_2, _, _, rfl, rfl, _, rfl, l, _, _, _, rfl, rfl, SqT.of hl, i5_1, _, _, rfl, rfl, ⟨by omega, by omega⟩, k⟩
theorem scLIsR : FnScope ["_law_told", "_law_top", "_law_low", "_law_many", "_law_some"] ["_law_told", "_law_top"] (defScope sLIsRight) := ⟨rfl, rfl, rfl, by decide +kernel, rfl, by decide +kernel, by decide +kernel⟩
theorem ok_lisr {f : Addr} {fd : FuncData} (F : Fun K "_law_is_right" "_law_is_right" sLIsRight f fd) (D1 : Df P w K mg base 1 "_law_least" ["_law_told", "_law_top"] spLLeast) : FnOk P w K mg base CX0 2 f fd ["_law_told", "_law_top"] spLIsR := by
  obtain ⟨f1, fd1, G1, g1, k1, b1⟩ := D1.ex
  refine F.ok scLIsR (fun vs H Q E h => ?_) (fun cdv A outer s H vs Q E hr h => ?_)
  · obtain ⟨l, r, m, rfl, _⟩ := h
    rfl
  · obtain ⟨l, r, m, rfl, hl, o, m1, m2, l1, l2, k⟩ := h
    have := o.c1; have := o.c2; have := o.j1; have := o.j2
    have rf := right_fine o m1 l1 l2
    have fi := fine_iff o (m := m)
    refine ⟨_, (pss_cons (ps_par3 (i := 2) (j := 3) (l := 4) (by rfl) scLIsR.nd rfl rfl rfl (by decide) (by decide) (by decide) rfl rfl rfl (pa_cons (pe_call G1 hr (by rfl) g1 k1 b1 .nil pass0 (pa_cons (pv 0) (pa_cons (pv 1) pa_nil))) (pa_cons (pe_ix ix_tup (pv 0) pe_int (fun _ _ => rfl)) (pa_cons (pe_ix ix_tup (pv 0) pe_int (fun _ _ => rfl)) pa_nil))) (by rfl))
      (pss_cons (ps_if (PW.pt (pw_or (pt_cmpR op_lt (pv 2) pe_int (nomark _)) (pw_or1 (pt_cmpR op_lt (pe_op op_fdivN (pe_op op_add (pe_op op_mul (pv 3) (pv 1)) pe_int) (pe_op op_add (pv 3) pe_int)) (pv 2) (nomark _)))))
        (pss_one (ps_ret pe_bl)) pss_nil)
      (pss_one (ps_ret (pe_cmpR op_le (pe_op op_fdivN (pe_op op_sub (pe_op op_add (pe_op op_sub (pe_op op_mul (pv 4) (pv 2)) pe_int) (pv 4)) pe_int) (pe_op op_sub (pv 4) pe_int)) (pv 1) (nomark _)))))), ?_⟩
    refine ⟨_, rfl, _, rfl, l, r, m, rfl, hl, o, _, rfl, l, _, _, _, rfl, rfl, SqT.of hl, i5_3, _, rfl, l, _, _, _, rfl, rfl, SqT.of hl, i5_4, _, _, _, rfl, ?_⟩
    refine ⟨_, rfl, _, _, rfl, rfl, _, rfl, ite2 (fun e => ?_) (fun e => ?_)⟩
    · have e := of_decide_eq_true e
      omega
    · refine ⟨_, rfl, _, rfl, _, _, rfl, rfl, .inl (mw (b := 12) (by omega) (by omega) (by decide)), _, _, rfl, rfl, _, rfl, _, _, rfl, rfl, _, _, rfl, rfl, ⟨by omega, by omega⟩, _, rfl, _, _, rfl, rfl, _, rfl, ite2 (fun e2 => ?_) (fun e2 => ?_)⟩
      · have e2 : (r.c * m + 1).fdiv (r.c + 1) < r.least m := of_decide_eq_true e2
        have : r.right m = false := Bool.eq_false_iff.mpr fun z => (fi.mpr (rf.mp z)).1 e2
        rw [this] at k
        exact k
      · have e2 : ¬ (r.c * m + 1).fdiv (r.c + 1) < r.least m := fun z => e2 (decide_eq_true z)
        refine ⟨_, rfl, _, rfl, _, _, rfl, rfl, .inl (mw (b := 12) (by omega) (by omega) (by decide)), _, _, rfl, rfl, _, rfl, _, _, rfl, rfl, _, _, rfl, rfl, _, rfl, _, _, rfl, rfl, _, _, rfl, rfl, ⟨by omega, by omega⟩, _, rfl, _, _, rfl, rfl, ?_⟩
        have : decide ((r.j * r.least m - 1 + r.j - 2).fdiv (r.j - 1) ≤ m) = r.right m := by
          rw [Bool.eq_iff_iff, decide_eq_true_iff]
          exact ⟨fun z => rf.mpr (fi.mp ⟨e2, z⟩), fun z => (fi.mpr (rf.mp z)).2⟩
        rw [← this] at k
        exact k
theorem scLDealt : FnScope ["_law_total", "_law_pages", "_law_at"] ["_law_total", "_law_pages"] (defScope sLDealt) := ⟨rfl, rfl, rfl, by decide +kernel, rfl, by decide +kernel, by decide +kernel⟩
theorem ok_ldealt {f : Addr} {fd : FuncData} (F : Fun K "_law_dealt" "_law_dealt" sLDealt f fd) (T : Blt mg) : FnOk P w K mg base CX0 1 f fd ["_law_total", "_law_pages"] spLDealt := by
  refine F.ok scLDealt (fun vs H Q E h => ?_) (fun cdv A outer s H vs Q E hr h => ?_)
  · obtain ⟨t, p, rfl, _⟩ := h
    rfl
  · obtain ⟨t, p, rfl, p1, p2, kk⟩ := h
    refine ⟨_, (pss_cons (ps_if (pt_cmpR op_eq (pv 1) pe_int (nomark _))
      (pss_one (ps_ret (pe_lst pa_nil))) pss_nil)
    (pss_one (ps_ret (pe_lc (own := [("_law_at", 2)]) (g := gName 2) (by rfl) scLDealt.nd (pi_range1 (by rfl) T.range (pa_cons (pv 1) pa_nil)) (blkOk_by (own := [("_law_at", 2)]) (N := ["_law_total", "_law_pages", "_law_at"]) (sc := defScope sLDealt) (by decide +kernel)) (fun _ _ _ _ _ => pg_name (i := 2) scLDealt.nd rfl (.inl rfl)) (fun _ _ _ _ _ => pts_nil) (fun _ _ _ _ _ => (pe_op op_add (pe_op op_fdivW (pv 0) (pv 1)) (pe_callTy call_int1 (by rfl) T.int (by decide +kernel) (pa_cons (pe_cmpR op_lt (pv 2) (pe_op op_sub (pv 0) (pe_op op_mul (pv 1) (pe_op op_fdivW (pv 0) (pv 1)))) (nomark _)) pa_nil)))))))), ?_⟩
    refine ⟨_, rfl, rfl, _, rfl, ?_⟩
    rw [show decide (V.int p = V.int 0) = false from decide_eq_false fun z => by have := V.int.inj z; omega]
    have dp : CDivW t p := divW (by omega) (by omega)
    refine iteF ⟨_, rfl, p, rfl, by omega, by omega, fun D nD => lc_range (lo := 0) (n := p.toNat) (fun i H' => H' D = some (.lst (((dealtL t p).map V.int).take i)) ∧ Same H H') ⟨by rw [List.take_zero]; exact upd_same, same_new nD⟩ (fun i H' hi h => ?_) (fun H' h => ?_)⟩
    · obtain ⟨hD, s1⟩ := h
      have e0 : (0 : Int) + (i : Int) = (i : Int) := by omega
      refine ⟨rfl, ?_⟩
      unfold tYes
      refine iteT ?_
      refine ⟨_, rfl, _, rfl, _, _, rfl, rfl, dp, _, rfl, _, rfl, _, rfl, _, rfl, _, rfl, _, _, rfl, rfl, dp, _, _, rfl, rfl, .inl (mw (b := 12) (by omega) (by omega) (by decide)), _, _, rfl, rfl, _, _, rfl, rfl, .inr ⟨_, rfl, _, _, rfl, rfl, ?_⟩⟩
      refine ⟨_, hD, ?_, ?_, fun b u q => by rw [upd_ne (ne_of_none q nD)]; exact s1 _ _ q⟩
      · rw [List.length_take]
        exact Nat.lt_of_le_of_lt (show _ ≤ 12 by omega) (by decide)
      · rw [upd_same, ← dealt_at t p1 hi, e0]
    · obtain ⟨hD, s1⟩ := h
      refine kk D H' s1 ?_
      rw [hD, List.take_of_length_le (by rw [List.length_map, dealtL_len p1]; exact Nat.le_refl _)]
theorem scLPage : FnScope ["_law_fills", "_law_index", "_law_left", "_law_page_here"] ["_law_fills", "_law_index"] (defScope sLPage) := ⟨rfl, rfl, rfl, by decide +kernel, rfl, by decide +kernel, by decide +kernel⟩
theorem ok_lpage {f : Addr} {fd : FuncData} (F : Fun K "_law_page" "_law_page" sLPage f fd) (T : Blt mg) : FnOk P w K mg base CX0 1 f fd ["_law_fills", "_law_index"] spLPage := by
  refine F.ok scLPage (fun vs H Q E h => ?_) (fun cdv A outer s H vs Q E hr h => ?_)
  · obtain ⟨l, x, i, xs, rfl, _⟩ := h
    rfl
  · obtain ⟨l, x, i, xs, rfl, hl, hz, hi, kk⟩ := h
    refine ⟨_, (pss_cons (ps_set (i := 2) scLPage.nd rfl (.inl rfl) (pv 1))
    (pss_cons (ps_for PassesOwn.never rfl (pi_range1 (by rfl) T.range (pa_cons (pe_callB call_len_seq (by rfl) T.len PySem.boot_len (pa_cons (pv 0) pa_nil)) pa_nil)) (pg_name (i := 3) scLPage.nd rfl (.inl rfl))
      (pss_cons (ps_if (pt_cmpR op_lt (pv 2) (pe_ix ix_list (pv 0) (pv 3) (fun _ _ => rfl)) (nomark _))
        (pss_one (ps_ret (pv 3))) pss_nil)
      (pss_one (ps_set (i := 2) scLPage.nd rfl (.inl rfl) (pe_op op_sub (pv 2) (pe_ix ix_list (pv 0) (pv 3) (fun _ _ => rfl)))))))
    (pss_one (ps_ret (pe_op op_sub (pe_callB call_len_seq (by rfl) T.len PySem.boot_len (pa_cons (pv 0) pa_nil)) pe_int))))), ?_⟩
    have a0 : atI (V.int x :: xs) 0 = some (V.int x) := atI_nat (j := 0) rfl
    refine ⟨_, rfl, _, rfl, l, _, rfl, .inl (SqL.of hl), _, rfl, by omega, ?_, for_range (n := ((V.int x :: xs).length : Int).toNat) (fun i' σ H2 => i' = 0 ∧ σ = [some (.ref l), some (.int i), some (.int i), none] ∧ H2 = H) ⟨rfl, rfl, rfl⟩ (fun i' σ H2 hi' h => ?_) (fun σ H2 h => ?_)⟩
    · rw [List.length_cons]; omega
    · obtain ⟨rfl, rfl, rfl⟩ := h
      refine ⟨_, rfl, _, rfl, _, rfl, l, _, _, _, rfl, rfl, SqL.of hl, a0, _, _, rfl, rfl, _, rfl, ?_⟩
      rw [decide_eq_true hi]
      exact iteT ⟨_, rfl, kk⟩
    · obtain ⟨h, _⟩ := h
      rw [List.length_cons] at h
      omega
theorem scLGrouped : FnScope ["_law_fills", "_law_page_here", "_law_many", "_law_begin"] ["_law_fills", "_law_page_here", "_law_many"] (defScope sLGrouped) := ⟨rfl, rfl, rfl, by decide +kernel, rfl, by decide +kernel, by decide +kernel⟩
theorem ok_lgroup {f : Addr} {fd : FuncData} (F : Fun K "_law_grouped" "_law_grouped" sLGrouped f fd) : FnOk P w K mg base CX0 1 f fd ["_law_fills", "_law_page_here", "_law_many"] spLGroup := by
  refine F.ok scLGrouped (fun vs H Q E h => ?_) (fun cdv A outer s H vs Q E hr h => ?_)
  · obtain ⟨l, a, m, rfl, _⟩ := h
    rfl
  · obtain ⟨l, a, m, rfl, kk⟩ := h
    refine ⟨_, (pss_cons (ps_set (i := 3) scLGrouped.nd rfl (.inl rfl) (pe_ifExp (pt_cmpR op_ge (pv 1) (pv 2) (nomark _)) (pe_op op_add (pe_op op_sub (pv 1) (pv 2)) pe_int) pe_int))
    (pss_one (ps_ret (pe_tup (pa_cons (pv 3) (pa_cons (pe_op op_add (pv 3) (pv 2)) pa_nil)))))), ?_⟩
    refine ⟨_, rfl, _, rfl, _, _, rfl, rfl, _, rfl, ite2 (fun e => ?_) (fun e => ?_)⟩
    · have e : a ≥ m := of_decide_eq_true e
      rw [if_pos e] at kk
      exact ⟨_, rfl, _, rfl, _, _, rfl, rfl, _, _, rfl, rfl, _, rfl, _, rfl, _, rfl, _, _, rfl, rfl, (by show 2 ≤ sizeLine; decide), fun t nt => kk t _ (same_new nt) upd_same⟩
    · have e : ¬ a ≥ m := fun z => e (decide_eq_true z)
      rw [if_neg e] at kk
      exact ⟨_, rfl, _, rfl, _, rfl, _, _, rfl, rfl, (by show 2 ≤ sizeLine; decide), fun t nt => kk t _ (same_new nt) upd_same⟩
end
end Ev
namespace Ev
open PySem L2 PySem.Spec PyProof.Rows RZ
def spLPut : Sp := fun vs H Q _ => ∃ (l f : Addr) (r : Fr) (m : Int), vs = [.ref l, .int m, .ref f, .int 0] ∧ H l = some (.tup (tupR r)) ∧ r.ok ∧ 2 ≤ m ∧ m ≤ 10 ^ 12 ∧ H f = some (.lst ((List.replicate (r.wd.toNat + 1) m).map V.int)) ∧
  ∀ t q v H', Same H H' → H' t = some (.tup [.ref q, v]) → H' q = some (.lst ((r.putL m).map V.int)) → Q (.ref t) H'
def spLTake : Sp := fun vs H Q _ => ∃ (l f : Addr) (r : Fr) (m : Int), vs = [.ref l, .int m, .ref f, .int 0] ∧ H l = some (.tup (tupR r)) ∧ r.ok ∧ 2 ≤ m ∧ m ≤ 10 ^ 12 ∧ 1 ≤ r.least m ∧ r.least m ≤ m ∧ H f = some (.lst ((List.replicate (r.wd.toNat + 2) (r.least m)).map V.int)) ∧
  ∀ t q v H', Same H H' → H' t = some (.tup [.ref q, v]) → H' q = some (.lst ((r.takeL m).map V.int)) → Q (.ref t) H'
/-- xs + ys, of lists -/
theorem catL {a b : Addr} {xs ys : List V} {H : Hp} {Q : VK} (h1 : H a = some (.lst xs)) (h2 : H b = some (.lst ys)) (hl : xs.length + ys.length ≤ 1000) (k : ∀ (r : Addr) (H' : Hp), Same H H' → H' r = some (.lst (xs ++ ys)) → Q (.ref r) H') : rCat (.ref a) (.ref b) H Q :=
  ⟨a, b, xs, ys, rfl, rfl, h1, h2, Nat.le_trans hl (by decide), fun p np => k p _ (same_new np) upd_same⟩
/-- xs[lo:hi] of a list -/
theorem slL {K : PySem.W.Frag} {l : Addr} {xs : List V} {lo hi : Option Int} {H : Hp} {Q : VK} (h : H l = some (.lst xs)) (k : ∀ (a : Addr) (H' : Hp), Same H H' → H' a = some (.lst (cutV xs lo hi)) → Q (.ref a) H') : rSlL K (.ref l) lo hi H Q :=
  ⟨l, xs, rfl, SqL.of h, fun p np => k p _ (same_new np) upd_same⟩
section
variable {P : Program} {w : World} {K : PySem.W.Frag} {mg : Str → Option Value} {base : Heap}
abbrev nLpu : List Str := ["_law_told", "_law_top", "_law_fills", "_law_ahead", "_law_many", "_law_wide", "_law_total", "_law_page_here", "_law_later", "_law_begin", "_law_end", "_law_extra", "_law_behind_so"]
theorem scLPut : FnScope nLpu ["_law_told", "_law_top", "_law_fills", "_law_ahead"] (defScope sLPut) := ⟨rfl, rfl, rfl, by decide +kernel, rfl, by decide +kernel, by decide +kernel⟩
theorem ok_lput {f : Addr} {fd : FuncData} (F : Fun K "_law_put" "_law_put" sLPut f fd) (T : Blt mg) (ms : mg "sum" = none) (D1 : Df P w K mg base 1 "_law_page" ["_law_fills", "_law_index"] spLPage) (D2 : Df P w K mg base 1 "_law_grouped" ["_law_fills", "_law_page_here", "_law_many"] spLGroup) (D3 : Df P w K mg base 1 "_law_dealt" ["_law_total", "_law_pages"] spLDealt) : FnOk P w K mg base CX0 2 f fd ["_law_told", "_law_top", "_law_fills", "_law_ahead"] spLPut := by
  obtain ⟨f1, fd1, G1, g1, k1, b1⟩ := D1.ex
  obtain ⟨f2, fd2, G2, g2, k2, b2⟩ := D2.ex
  obtain ⟨f3, fd3, G3, g3, k3, b3⟩ := D3.ex
  refine F.ok scLPut (fun vs H Q E h => ?_) (fun cdv A outer s H vs Q E hr h => ?_)
  · obtain ⟨l, f, r, m, rfl, _⟩ := h
    rfl
  · obtain ⟨l, f, r, m, rfl, hl, o, m1, m2, hf, kk⟩ := h
    obtain ⟨w1, w2, w3, w4⟩ := Fr.wd_bd o
    have c1 := o.c1; have c2 := o.c2
    obtain ⟨W, hW⟩ := Int.eq_ofNat_of_zero_le (show 0 ≤ r.wd by omega)
    obtain ⟨c, hc⟩ := Int.eq_ofNat_of_zero_le (show 0 ≤ r.c by omega)
    rw [show r.wd.toNat = W by omega] at hf
    have fl : ((List.replicate (W + 1) m).map V.int).length = W + 1 := by rw [List.length_map, List.length_replicate]
    have fl' : (List.replicate (W + 1) m).length = W + 1 := List.length_replicate ..
    have hf0 : H f = some (.lst (.int m :: (List.replicate W m).map V.int)) := hf
    have rl' : ((m + 1) :: List.replicate W m).length = W + 1 := by rw [List.length_cons, List.length_replicate]
    have tk : (((m + 1) :: List.replicate W m).take r.c.toNat).sum = r.c * m + 1 := by
      rw [row_sum (by omega) (by omega), hc, Int.toNat_natCast, Int.sub_mul, Int.one_mul]
      omega
    refine ⟨_, (pss_cons (ps_par (i := 4) (j := 5) (by rfl) scLPut.nd rfl rfl (by decide) rfl rfl (pa_cons (pe_callB call_len_seq (by rfl) T.len PySem.boot_len (pa_cons (pv 2) pa_nil)) (pa_cons (pe_callB (call_max2 rfl) (by rfl) T.max (by decide +kernel) (pa_cons (pe_callTy call_int1 (by rfl) T.int (by decide +kernel) (pa_cons (pe_ix ix_tup (pv 0) pe_int (fun _ _ => rfl)) pa_nil)) (pa_cons (pe_callTy call_int1 (by rfl) T.int (by decide +kernel) (pa_cons (pe_ix ix_tup (pv 0) pe_int (fun _ _ => rfl)) pa_nil)) pa_nil))) pa_nil)) (by rfl))
    (pss_cons (ps_if (pt_cmpR op_le (pv 4) (pv 5) (nomark _))
      (pss_cons (ps_set (i := 6) scLPut.nd rfl (.inl rfl) (pe_op op_add (pe_callB (cr_sum rfl) (by rfl) ms (by decide +kernel) (pa_cons (pv 2) pa_nil)) pe_int))
      (pss_cons (ps_if (pt_cmpR op_le (pv 6) (pe_op op_mul (pv 4) (pv 1)) (nomark _))
        (pss_one (ps_ret (pe_tup (pa_cons (pe_call G3 hr (by rfl) g3 k3 b3 .nil pass0 (pa_cons (pv 6) (pa_cons (pv 4) pa_nil))) (pa_cons pe_non pa_nil))))) pss_nil)
      (pss_one (ps_ret (pe_tup (pa_cons (pe_call G3 hr (by rfl) g3 k3 b3 .nil pass0 (pa_cons (pv 6) (pa_cons (pe_op op_add (pv 4) pe_int) pa_nil))) (pa_cons (pe_tup (pa_cons pe_str (pa_cons (pv 4) pa_nil))) pa_nil))))))) pss_nil)
    (pss_cons (ps_set (i := 7) scLPut.nd rfl (.inl rfl) (pe_call G1 hr (by rfl) g1 k1 b1 .nil pass0 (pa_cons (pv 2) (pa_cons (pe_op op_sub (pv 3) pe_int) pa_nil))))
    (pss_cons (ps_set (i := 8) scLPut.nd rfl (.inl rfl) (pe_op op_cat (pe_op op_cat (pe_slice sl_list (pv 2) po_none (po_some (pv 7))) (pe_lst (pa_cons (pe_op op_add (pe_ix ix_list (pv 2) (pv 7) (fun _ _ => rfl)) pe_int) pa_nil))) (pe_slice sl_list (pv 2) (po_some (pe_op op_add (pv 7) pe_int)) po_none)))
    (pss_cons (ps_if (pt_cmpR op_le (pe_ix ix_list (pv 8) (pv 7) (fun _ _ => rfl)) (pv 1) (nomark _))
      (pss_one (ps_ret (pe_tup (pa_cons (pv 8) (pa_cons pe_non pa_nil))))) pss_nil)
    (pss_cons (ps_asg (pe_call G2 hr (by rfl) g2 k2 b2 .nil pass0 (pa_cons (pv 2) (pa_cons (pv 7) (pa_cons (pe_ix ix_tup (pv 0) pe_int (fun _ _ => rfl)) pa_nil)))) (pg_tup (by rfl) (pgs_cons (pg_name (i := 9) scLPut.nd rfl (.inl rfl)) (pgs_cons (pg_name (i := 10) scLPut.nd rfl (.inl rfl)) pgs_nil))))
    (pss_cons (ps_set (i := 6) scLPut.nd rfl (.inl rfl) (pe_callB (cr_sum rfl) (by rfl) ms (by decide +kernel) (pa_cons (pe_slice sl_list (pv 8) (po_some (pv 9)) (po_some (pv 10))) pa_nil)))
    (pss_cons (ps_set (i := 11) scLPut.nd rfl (.inl rfl) (pe_callTy call_int1 (by rfl) T.int (by decide +kernel) (pa_cons (pe_cmpR op_gt (pv 6) (pe_op op_mul (pe_ix ix_tup (pv 0) pe_int (fun _ _ => rfl)) (pv 1)) (nomark _)) pa_nil)))
    (pss_cons (ps_set (i := 12) scLPut.nd rfl (.inl rfl) (pe_op op_cat (pe_op op_cat (pe_slice sl_list (pv 8) po_none (po_some (pv 9))) (pe_call G3 hr (by rfl) g3 k3 b3 .nil pass0 (pa_cons (pv 6) (pa_cons (pe_op op_add (pe_ix ix_tup (pv 0) pe_int (fun _ _ => rfl)) (pv 11)) pa_nil)))) (pe_slice sl_list (pv 8) (po_some (pv 10)) po_none)))
    (pss_one (ps_ret (pe_tup (pa_cons (pv 12) (pa_cons (pe_ifExp (pt_cmpR op_eq (pv 11) pe_int (nomark _)) (pe_tup (pa_cons pe_str (pa_cons (pv 10) pa_nil))) pe_non) pa_nil)))))))))))))), ?_⟩
    refine ⟨_, rfl, f, _, rfl, .inl (SqL.of hf), ?_⟩
    rw [fl]
    refine ⟨_, rfl, l, _, _, _, rfl, rfl, SqT.of hl, i5_3, .inl ⟨_, rfl, _, rfl, l, _, _, _, rfl, rfl, SqT.of hl, i5_4, .inl ⟨_, rfl, _, _, rfl, _, _, rfl, ?_⟩⟩⟩
    rw [wd_max]
    refine ⟨_, rfl, _, rfl, _, _, rfl, rfl, _, rfl, ?_⟩
    rw [show decide (((W + 1 : Nat) : Int) ≤ r.wd) = false from decide_eq_false (by omega)]
    refine iteF ⟨_, rfl, _, rfl, _, _, rfl, rfl, f, m, 0 - 1, _, rfl, hf0, by rw [List.length_map, List.length_replicate]; omega, by omega, ?_⟩
    refine ⟨_, rfl, _, rfl, _, rfl, slL hf fun a1 H1 s1 h1 => ?_⟩
    rw [cut_nil] at h1
    refine ⟨_, rfl, _, rfl, f, _, _, .int m, rfl, rfl, SqL.of (s1 _ _ hf), atI_nat (j := 0) rfl, _, _, rfl, rfl, (by show 1 ≤ sizeLine; decide), fun a2 n2 => ?_⟩
    have s2 := s1.trans (same_new (o := .lst [V.int (m + 1)]) n2)
    refine catL (same_new n2 _ _ h1) upd_same (by show 0 + 1 ≤ 1000; decide) fun a3 H3 s3 h3 => ?_
    have s3 := s2.trans s3
    rw [List.nil_append] at h3
    refine ⟨_, rfl, _, rfl, _, _, rfl, rfl, 1, rfl, f, _, rfl, SqL.of (s3 _ _ hf), fun a4 n4 => ?_⟩
    rw [cut_from (by decide) (by rw [fl']; omega)]
    have s4 := same_new (o := .lst (((List.replicate (W + 1) m).drop (1 : Int).toNat).map V.int)) n4
    have h4 : upd H3 a4 (.lst (((List.replicate (W + 1) m).drop (1 : Int).toNat).map V.int)) a4 = some (.lst (((List.replicate (W + 1) m).drop (1 : Int).toNat).map V.int)) := upd_same
    generalize upd H3 a4 (.lst (((List.replicate (W + 1) m).drop (1 : Int).toNat).map V.int)) = H4 at s4 h4 ⊢
    have h3 := s4 _ _ h3
    have s4 := s3.trans s4
    refine catL h3 h4 ?_ fun a5 H5 s5 h5 => ?_
    · rw [List.length_map, List.length_drop, fl']
      show 1 + _ ≤ 1000
      omega
    have s5 := s4.trans s5
    have e5 : [V.int (m + 1)] ++ ((List.replicate (W + 1) m).drop (1 : Int).toNat).map V.int = ((m + 1) :: List.replicate W m).map V.int := rfl
    rw [e5] at h5
    refine ⟨_, rfl, _, rfl, a5, _, 0, .int (m + 1), rfl, rfl, SqL.of h5, atI_nat (j := 0) rfl, _, rfl, _, _, rfl, rfl, _, rfl, ?_⟩
    rw [show decide (m + 1 ≤ m) = false from decide_eq_false (by omega)]
    refine iteF ⟨_, rfl, _, rfl, _, rfl, l, _, _, _, rfl, rfl, SqT.of (s5 _ _ hl), i5_3, .ref f, 0, r.c, rfl, fun t H6 s6 ht => ?_⟩
    rw [if_neg (by omega), Int.zero_add] at ht
    have h5 := s6 _ _ h5
    have s6 := s5.trans s6
    refine ⟨t, _, rfl, SqT.of ht, rfl, _, _, rfl, _, _, rfl, rfl, ?_⟩
    refine ⟨_, rfl, _, rfl, _, rfl, _, rfl, _, rfl, slL h5 fun a7 H7 s7 h7 => ?_⟩
    rw [cut_to (by omega) (by rw [rl']; omega)] at h7
    have h5 := s7 _ _ h5
    have s7 := s6.trans s7
    refine ⟨a7, _, rfl, SqL.of h7, ?_⟩
    rw [tk]
    refine ⟨_, rfl, _, rfl, l, _, _, _, rfl, rfl, SqT.of (s7 _ _ hl), i5_3, _, rfl, _, _, rfl, rfl, .inl (mw (b := 12) (by omega) (by omega) (by decide)), _, _, rfl, rfl, .inr ⟨_, rfl, ?_⟩⟩
    rw [show decide (r.c * m + 1 > r.c * m) = true from decide_eq_true (by omega), if_pos rfl]
    refine ⟨_, rfl, _, rfl, _, rfl, slL h5 fun a8 H8 s8 h8 => ?_⟩
    rw [cut_nil] at h8
    have h5 := s8 _ _ h5
    have s8 := s7.trans s8
    refine ⟨_, rfl, _, rfl, l, _, _, _, rfl, rfl, SqT.of (s8 _ _ hl), i5_3, _, rfl, _, _, rfl, rfl, _, r.c + 1, rfl, by omega, by omega, fun a9 H9 s9 h9 => ?_⟩
    have h5 := s9 _ _ h5
    have h8 := s9 _ _ h8
    have s9 := s8.trans s9
    refine catL h8 h9 ?_ fun a10 H10 s10 h10 => ?_
    · rw [List.length_map, dealtL_len (by omega)]
      show 0 + _ ≤ 1000
      omega
    rw [List.nil_append] at h10
    have h5 := s10 _ _ h5
    have s10 := s9.trans s10
    refine ⟨_, rfl, _, rfl, _, rfl, a5, _, rfl, SqL.of h5, fun a11 n11 => ?_⟩
    rw [cut_from (by omega) (by rw [rl']; omega), row_drop (by omega)]
    have s11 := same_new (o := .lst ((List.replicate (W + 1 - r.c.toNat) m).map V.int)) n11
    have h11 : upd H10 a11 (.lst ((List.replicate (W + 1 - r.c.toNat) m).map V.int)) a11 = some (.lst ((List.replicate (W + 1 - r.c.toNat) m).map V.int)) := upd_same
    generalize upd H10 a11 (.lst ((List.replicate (W + 1 - r.c.toNat) m).map V.int)) = H11 at s11 h11 ⊢
    have h10 := s11 _ _ h10
    have s11 := s10.trans s11
    refine catL h10 h11 ?_ fun a12 H12 s12 h12 => ?_
    · rw [List.length_map, List.length_map, List.length_replicate, dealtL_len (by omega)]
      omega
    rw [← List.map_append] at h12
    have s12 := s11.trans s12
    have e12 : dealtL (r.c * m + 1) (r.c + 1) ++ List.replicate (W + 1 - r.c.toNat) m = r.putL m := by
      rw [Fr.putL, show r.wd.toNat = W by omega]
    rw [e12] at h12
    refine ⟨_, rfl, _, rfl, rfl, _, rfl, ?_⟩
    rw [decide_eq_true rfl]
    refine iteT ⟨_, rfl, (by show 2 ≤ sizeLine; decide), fun t1 nt1 => ⟨(by show 2 ≤ sizeLine; decide), fun t2 nt2 => ?_⟩⟩
    have s13 := same_new (o := .tup [V.str "more", V.int r.c]) nt1
    exact kk t2 a12 _ _ ((s12.trans s13).trans (same_new nt2)) upd_same (same_new nt2 _ _ (s13 _ _ h12))
end
end Ev
namespace Ev
open PySem L2 PySem.Spec PyProof.Rows RZ
section
variable {P : Program} {w : World} {K : PySem.W.Frag} {mg : Str → Option Value} {base : Heap}
abbrev nLta : List Str := ["_law_told", "_law_top", "_law_fills", "_law_index", "_law_many", "_law_wide", "_law_total", "_law_page_here", "_law_low", "_law_later", "_law_begin", "_law_end", "_law_extra", "_law_behind_so"]
theorem scLTake : FnScope nLta ["_law_told", "_law_top", "_law_fills", "_law_index"] (defScope sLTake) := ⟨rfl, rfl, rfl, by decide +kernel, rfl, by decide +kernel, by decide +kernel⟩
theorem ok_ltake {f : Addr} {fd : FuncData} (F : Fun K "_law_take" "_law_take" sLTake f fd) (T : Blt mg) (ms : mg "sum" = none) (D0 : Df P w K mg base 1 "_law_least" ["_law_told", "_law_top"] spLLeast) (D1 : Df P w K mg base 1 "_law_page" ["_law_fills", "_law_index"] spLPage) (D2 : Df P w K mg base 1 "_law_grouped" ["_law_fills", "_law_page_here", "_law_many"] spLGroup) (D3 : Df P w K mg base 1 "_law_dealt" ["_law_total", "_law_pages"] spLDealt) : FnOk P w K mg base CX0 2 f fd ["_law_told", "_law_top", "_law_fills", "_law_index"] spLTake := by
  obtain ⟨f0, fd0, G0, g0, k0, b0⟩ := D0.ex
  obtain ⟨f1, fd1, G1, g1, k1, b1⟩ := D1.ex
  obtain ⟨f2, fd2, G2, g2, k2, b2⟩ := D2.ex
  obtain ⟨f3, fd3, G3, g3, k3, b3⟩ := D3.ex
  refine F.ok scLTake (fun vs H Q E h => ?_) (fun cdv A outer s H vs Q E hr h => ?_)
  · obtain ⟨l, f, r, m, rfl, _⟩ := h
    rfl
  · obtain ⟨l, f, r, m, rfl, hl, o, m1, m2, l1, l2, hf, kk⟩ := h
    obtain ⟨w1, w2, w3, w4⟩ := Fr.wd_bd o
    have c1 := o.j1; have c2 := o.j2
    obtain ⟨W, hW⟩ := Int.eq_ofNat_of_zero_le (show 0 ≤ r.wd by omega)
    obtain ⟨c, hc⟩ := Int.eq_ofNat_of_zero_le (show 0 ≤ r.j by omega)
    rw [show r.wd.toNat + 2 = (W + 1) + 1 by omega] at hf
    have ez : r.takeL m = dealtL (r.j * r.least m - 1) (r.j - 1) ++ List.replicate (W + 1 + 1 - r.j.toNat) (r.least m) := by rw [Fr.takeL, show r.wd.toNat + 2 = W + 1 + 1 by omega]
    rw [ez] at kk
    generalize hz : r.least m = z at *
    have fl : ((List.replicate (W + 1 + 1) z).map V.int).length = W + 2 := by rw [List.length_map, List.length_replicate]
    have fl' : (List.replicate (W + 1 + 1) z).length = W + 2 := List.length_replicate ..
    have hf0 : H f = some (.lst (.int z :: (List.replicate (W + 1) z).map V.int)) := hf
    have rl' : ((z - 1) :: List.replicate (W + 1) z).length = W + 2 := by rw [List.length_cons, List.length_replicate]
    have tk : (((z - 1) :: List.replicate (W + 1) z).take r.j.toNat).sum = r.j * z - 1 := by
      rw [row_sum (by omega) (by omega), hc, Int.toNat_natCast, Int.sub_mul, Int.one_mul]
      omega
    refine ⟨_, (pss_cons (ps_par (i := 4) (j := 5) (by rfl) scLTake.nd rfl rfl (by decide) rfl rfl (pa_cons (pe_callB call_len_seq (by rfl) T.len PySem.boot_len (pa_cons (pv 2) pa_nil)) (pa_cons (pe_callB (call_max2 rfl) (by rfl) T.max (by decide +kernel) (pa_cons (pe_callTy call_int1 (by rfl) T.int (by decide +kernel) (pa_cons (pe_ix ix_tup (pv 0) pe_int (fun _ _ => rfl)) pa_nil)) (pa_cons (pe_callTy call_int1 (by rfl) T.int (by decide +kernel) (pa_cons (pe_ix ix_tup (pv 0) pe_int (fun _ _ => rfl)) pa_nil)) pa_nil))) pa_nil)) (by rfl))
    (pss_cons (ps_if (pt_cmpR op_le (pv 4) (pv 5) (nomark _))
      (pss_cons (ps_set (i := 6) scLTake.nd rfl (.inl rfl) (pe_op op_sub (pe_callB (cr_sum rfl) (by rfl) ms (by decide +kernel) (pa_cons (pv 2) pa_nil)) pe_int))
      (pss_cons (ps_if (pt_cmpR op_le (pv 6) (pe_op op_mul (pe_op op_sub (pv 4) pe_int) (pv 1)) (nomark _))
        (pss_one (ps_ret (pe_tup (pa_cons (pe_call G3 hr (by rfl) g3 k3 b3 .nil pass0 (pa_cons (pv 6) (pa_cons (pe_op op_sub (pv 4) pe_int) pa_nil))) (pa_cons (pe_tup (pa_cons pe_str (pa_cons (pe_op op_sub (pv 4) pe_int) pa_nil))) pa_nil))))) pss_nil)
      (pss_one (ps_ret (pe_tup (pa_cons (pe_call G3 hr (by rfl) g3 k3 b3 .nil pass0 (pa_cons (pv 6) (pa_cons (pv 4) pa_nil))) (pa_cons pe_non pa_nil))))))) pss_nil)
    (pss_cons (ps_par (i := 7) (j := 8) (by rfl) scLTake.nd rfl rfl (by decide) rfl rfl (pa_cons (pe_call G1 hr (by rfl) g1 k1 b1 .nil pass0 (pa_cons (pv 2) (pa_cons (pv 3) pa_nil))) (pa_cons (pe_call G0 hr (by rfl) g0 k0 b0 .nil pass0 (pa_cons (pv 0) (pa_cons (pv 1) pa_nil))) pa_nil)) (by rfl))
    (pss_cons (ps_set (i := 9) scLTake.nd rfl (.inl rfl) (pe_op op_cat (pe_op op_cat (pe_slice sl_list (pv 2) po_none (po_some (pv 7))) (pe_lst (pa_cons (pe_op op_sub (pe_ix ix_list (pv 2) (pv 7) (fun _ _ => rfl)) pe_int) pa_nil))) (pe_slice sl_list (pv 2) (po_some (pe_op op_add (pv 7) pe_int)) po_none)))
    (pss_cons (ps_if (pt_cmpR op_ge (pe_ix ix_list (pv 9) (pv 7) (fun _ _ => rfl)) (pv 8) (nomark _))
      (pss_one (ps_ret (pe_tup (pa_cons (pv 9) (pa_cons pe_non pa_nil))))) pss_nil)
    (pss_cons (ps_asg (pe_call G2 hr (by rfl) g2 k2 b2 .nil pass0 (pa_cons (pv 2) (pa_cons (pv 7) (pa_cons (pe_ix ix_tup (pv 0) pe_int (fun _ _ => rfl)) pa_nil)))) (pg_tup (by rfl) (pgs_cons (pg_name (i := 10) scLTake.nd rfl (.inl rfl)) (pgs_cons (pg_name (i := 11) scLTake.nd rfl (.inl rfl)) pgs_nil))))
    (pss_cons (ps_set (i := 6) scLTake.nd rfl (.inl rfl) (pe_callB (cr_sum rfl) (by rfl) ms (by decide +kernel) (pa_cons (pe_slice sl_list (pv 9) (po_some (pv 10)) (po_some (pv 11))) pa_nil)))
    (pss_cons (ps_set (i := 12) scLTake.nd rfl (.inl rfl) (pe_callTy call_int1 (by rfl) T.int (by decide +kernel) (pa_cons (pe_cmpR op_lt (pv 6) (pe_op op_mul (pe_ix ix_tup (pv 0) pe_int (fun _ _ => rfl)) (pv 8)) (nomark _)) pa_nil)))
    (pss_cons (ps_set (i := 13) scLTake.nd rfl (.inl rfl) (pe_op op_cat (pe_op op_cat (pe_slice sl_list (pv 9) po_none (po_some (pv 10))) (pe_call G3 hr (by rfl) g3 k3 b3 .nil pass0 (pa_cons (pv 6) (pa_cons (pe_op op_sub (pe_ix ix_tup (pv 0) pe_int (fun _ _ => rfl)) (pv 12)) pa_nil)))) (pe_slice sl_list (pv 9) (po_some (pv 11)) po_none)))
    (pss_one (ps_ret (pe_tup (pa_cons (pv 13) (pa_cons (pe_ifExp (pt_cmpR op_eq (pv 12) pe_int (nomark _)) (pe_tup (pa_cons pe_str (pa_cons (pe_op op_sub (pv 11) pe_int) pa_nil))) pe_non) pa_nil)))))))))))))), ?_⟩
    refine ⟨_, rfl, f, _, rfl, .inl (SqL.of hf), ?_⟩
    rw [fl]
    refine ⟨_, rfl, l, _, _, _, rfl, rfl, SqT.of hl, i5_3, .inl ⟨_, rfl, _, rfl, l, _, _, _, rfl, rfl, SqT.of hl, i5_4, .inl ⟨_, rfl, _, _, rfl, _, _, rfl, ?_⟩⟩⟩
    rw [wd_max]
    refine ⟨_, rfl, _, rfl, _, _, rfl, rfl, _, rfl, ?_⟩
    rw [show decide (((W + 2 : Nat) : Int) ≤ r.wd) = false from decide_eq_false (by omega)]
    refine iteF ⟨_, rfl, _, rfl, f, z, 0, _, rfl, hf0, by rw [List.length_map, List.length_replicate]; omega, by omega, _, rfl, _, rfl, l, r, m, rfl, hl, o, ?_⟩
    rw [hz]
    refine ⟨_, _, rfl, _, rfl, _, rfl, _, rfl, slL hf fun a1 H1 s1 h1 => ?_⟩
    rw [cut_nil] at h1
    refine ⟨_, rfl, _, rfl, f, _, _, .int z, rfl, rfl, SqL.of (s1 _ _ hf), atI_nat (j := 0) rfl, _, _, rfl, rfl, (by show 1 ≤ sizeLine; decide), fun a2 n2 => ?_⟩
    have s2 := s1.trans (same_new (o := .lst [V.int (z - 1)]) n2)
    refine catL (same_new n2 _ _ h1) upd_same (by show 0 + 1 ≤ 1000; decide) fun a3 H3 s3 h3 => ?_
    have s3 := s2.trans s3
    rw [List.nil_append] at h3
    refine ⟨_, rfl, _, rfl, _, _, rfl, rfl, 1, rfl, f, _, rfl, SqL.of (s3 _ _ hf), fun a4 n4 => ?_⟩
    rw [cut_from (by decide) (by rw [fl']; omega)]
    have s4 := same_new (o := .lst (((List.replicate (W + 1 + 1) z).drop (1 : Int).toNat).map V.int)) n4
    have h4 : upd H3 a4 (.lst (((List.replicate (W + 1 + 1) z).drop (1 : Int).toNat).map V.int)) a4 = some (.lst (((List.replicate (W + 1 + 1) z).drop (1 : Int).toNat).map V.int)) := upd_same
    generalize upd H3 a4 (.lst (((List.replicate (W + 1 + 1) z).drop (1 : Int).toNat).map V.int)) = H4 at s4 h4 ⊢
    have h3 := s4 _ _ h3
    have s4 := s3.trans s4
    refine catL h3 h4 ?_ fun a5 H5 s5 h5 => ?_
    · rw [List.length_map, List.length_drop, fl']
      show 1 + _ ≤ 1000
      omega
    have s5 := s4.trans s5
    have e5 : [V.int (z - 1)] ++ ((List.replicate (W + 1 + 1) z).drop (1 : Int).toNat).map V.int = ((z - 1) :: List.replicate (W + 1) z).map V.int := rfl
    rw [e5] at h5
    refine ⟨_, rfl, _, rfl, a5, _, 0, .int (z - 1), rfl, rfl, SqL.of h5, atI_nat (j := 0) rfl, _, rfl, _, _, rfl, rfl, _, rfl, ?_⟩
    rw [show decide (z - 1 ≥ z) = false from decide_eq_false (by omega)]
    refine iteF ⟨_, rfl, _, rfl, _, rfl, l, _, _, _, rfl, rfl, SqT.of (s5 _ _ hl), i5_4, .ref f, 0, r.j, rfl, fun t H6 s6 ht => ?_⟩
    rw [if_neg (by omega), Int.zero_add] at ht
    have h5 := s6 _ _ h5
    have s6 := s5.trans s6
    refine ⟨t, _, rfl, SqT.of ht, rfl, _, _, rfl, _, _, rfl, rfl, ?_⟩
    refine ⟨_, rfl, _, rfl, _, rfl, _, rfl, _, rfl, slL h5 fun a7 H7 s7 h7 => ?_⟩
    rw [cut_to (by omega) (by rw [rl']; omega)] at h7
    have h5 := s7 _ _ h5
    have s7 := s6.trans s7
    refine ⟨a7, _, rfl, SqL.of h7, ?_⟩
    rw [tk]
    refine ⟨_, rfl, _, rfl, l, _, _, _, rfl, rfl, SqT.of (s7 _ _ hl), i5_4, _, rfl, _, _, rfl, rfl, .inl (mw (b := 12) (by omega) (by omega) (by decide)), _, _, rfl, rfl, .inr ⟨_, rfl, ?_⟩⟩
    rw [show decide (r.j * z - 1 < r.j * z) = true from decide_eq_true (by omega), if_pos rfl]
    refine ⟨_, rfl, _, rfl, _, rfl, slL h5 fun a8 H8 s8 h8 => ?_⟩
    rw [cut_nil] at h8
    have h5 := s8 _ _ h5
    have s8 := s7.trans s8
    refine ⟨_, rfl, _, rfl, l, _, _, _, rfl, rfl, SqT.of (s8 _ _ hl), i5_4, _, rfl, _, _, rfl, rfl, _, r.j - 1, rfl, by omega, by omega, fun a9 H9 s9 h9 => ?_⟩
    have h5 := s9 _ _ h5
    have h8 := s9 _ _ h8
    have s9 := s8.trans s9
    refine catL h8 h9 ?_ fun a10 H10 s10 h10 => ?_
    · rw [List.length_map, dealtL_len (by omega)]
      show 0 + _ ≤ 1000
      omega
    rw [List.nil_append] at h10
    have h5 := s10 _ _ h5
    have s10 := s9.trans s10
    refine ⟨_, rfl, _, rfl, _, rfl, a5, _, rfl, SqL.of h5, fun a11 n11 => ?_⟩
    rw [cut_from (by omega) (by rw [rl']; omega), row_drop (by omega)]
    have s11 := same_new (o := .lst ((List.replicate (W + 1 + 1 - r.j.toNat) z).map V.int)) n11
    have h11 : upd H10 a11 (.lst ((List.replicate (W + 1 + 1 - r.j.toNat) z).map V.int)) a11 = some (.lst ((List.replicate (W + 1 + 1 - r.j.toNat) z).map V.int)) := upd_same
    generalize upd H10 a11 (.lst ((List.replicate (W + 1 + 1 - r.j.toNat) z).map V.int)) = H11 at s11 h11 ⊢
    have h10 := s11 _ _ h10
    have s11 := s10.trans s11
    refine catL h10 h11 ?_ fun a12 H12 s12 h12 => ?_
    · rw [List.length_map, List.length_map, List.length_replicate, dealtL_len (by omega)]
      omega
    rw [← List.map_append] at h12
    have s12 := s11.trans s12
    refine ⟨_, rfl, _, rfl, rfl, _, rfl, ?_⟩
    rw [decide_eq_true rfl]
    refine iteT ⟨_, rfl, _, _, rfl, rfl, (by show 2 ≤ sizeLine; decide), fun t1 nt1 => ⟨(by show 2 ≤ sizeLine; decide), fun t2 nt2 => ?_⟩⟩
    have s13 := same_new (o := .tup [V.str "fewer", V.int (r.j - 1)]) nt1
    exact kk t2 a12 _ _ ((s12.trans s13).trans (same_new nt2)) upd_same (same_new nt2 _ _ (s13 _ _ h12))
end
end Ev
namespace Ev
open PySem L2 PySem.Spec PyProof.Rows RZ
/-- a fill that a page must not have -/
def Fr.badFill (r : Fr) (m x : Int) : Bool := !(decide (r.least m ≤ x) && decide (x ≤ m))
def Fr.keepB (r : Fr) (m : Int) (fs : List Int) : Bool := (fs.filter (r.badFill m)).isEmpty
theorem take_filter {fs : List Int} {p : Int → Bool} {i : Nat} {x : Int} (h : fs[i]? = some x) : (fs.take (i + 1)).filter p = (fs.take i).filter p ++ (if p x then [x] else []) := by
  obtain ⟨hi, e⟩ := List.getElem?_eq_some_iff.mp h
  rw [List.take_succ_eq_append_getElem hi, List.filter_append, e]
  cases q : p x <;> simp [q]
theorem keep_rep {r : Fr} {m x : Int} (n : Nat) (h1 : r.least m ≤ x) (h2 : x ≤ m) : r.keepB m (List.replicate n x) = true := by
  have : r.badFill m x = false := by unfold Fr.badFill; rw [decide_eq_true h1, decide_eq_true h2]; rfl
  unfold Fr.keepB
  rw [List.isEmpty_iff, List.filter_eq_nil_iff]
  intro y hy
  rw [(List.mem_replicate.mp hy).2, this]
  decide
theorem keep_no {r : Fr} {m x : Int} {fs : List Int} (h : x ∈ fs) (b : ¬ (r.least m ≤ x ∧ x ≤ m)) : r.keepB m fs = false := by
  have hb : r.badFill m x = true := by
    unfold Fr.badFill
    rw [Bool.not_eq_true', Bool.eq_false_iff]
    intro z
    rw [Bool.and_eq_true, decide_eq_true_iff, decide_eq_true_iff] at z
    exact b z
  unfold Fr.keepB
  rw [Bool.eq_false_iff]
  intro z
  rw [List.isEmpty_iff, List.filter_eq_nil_iff] at z
  exact z x h hb
theorem keep_fills {r : Fr} {m : Int} (l2 : r.least m ≤ m) : r.keepB m (r.spFills m) = true := by
  unfold Fr.spFills
  split
  · exact keep_rep _ l2 (Int.le_refl _)
  · exact keep_rep _ (Int.le_refl _) l2
theorem keep_behind {r : Fr} (o : r.ok) {m : Int} (hm : 2 ≤ m) (l1 : 1 ≤ r.least m) (l2 : r.least m ≤ m) (h : r.right m = false) : r.keepB m (r.spBehind m) = false := by
  have c1 := o.c1; have c2 := o.c2; have j1 := o.j1; have j2 := o.j2
  have rf : ¬ (r.many * r.least m ≤ (r.many - 1) * m + 1) := by
    intro z
    unfold Fr.right at h
    rw [decide_eq_true l1, decide_eq_true z] at h
    cases h
  unfold Fr.spBehind
  by_cases q : r.c + 1 ≤ r.j
  · have bp : r.byPut = true := decide_eq_true q
    rw [bp, if_pos rfl]
    have em : r.many = r.c + 1 := by
      unfold Fr.many
      split <;> omega
    rw [em, Int.add_sub_cancel] at rf
    have p0 : 0 < r.c + 1 := by omega
    have a1 := Int.emod_lt_of_pos (r.c * m + 1) p0
    have a2 : (r.c * m + 1) / (r.c + 1) < r.least m := by
      rw [Int.ediv_lt_iff_lt_mul p0, Int.mul_comm (r.least m)]
      omega
    refine keep_no (x := (r.c * m + 1) / (r.c + 1)) ?_ (by omega)
    unfold Fr.putL dealtL
    refine List.mem_append_left _ (List.mem_append_right _ (List.mem_replicate.mpr ⟨by omega, rfl⟩))
  · have bp : r.byPut = false := decide_eq_false q
    rw [bp, if_neg (by decide)]
    have em : r.many = r.j := by
      unfold Fr.many
      split <;> omega
    rw [em] at rf
    have p0 : 0 < r.j - 1 := by omega
    have a0 := Int.emod_nonneg (r.j * r.least m - 1) (by omega : r.j - 1 ≠ 0)
    have a1 := Int.emod_lt_of_pos (r.j * r.least m - 1) p0
    have a2 : m ≤ (r.j * r.least m - 1) / (r.j - 1) := by
      rw [Int.le_ediv_iff_mul_le p0, Int.mul_comm m]
      omega
    unfold Fr.takeL dealtL
    by_cases z : (r.j * r.least m - 1) % (r.j - 1) = 0
    · refine keep_no (x := (r.j * r.least m - 1) / (r.j - 1)) (List.mem_append_left _ (List.mem_append_right _ (List.mem_replicate.mpr ⟨by omega, rfl⟩))) ?_
      intro y
      have e := Int.mul_ediv_add_emod (r.j * r.least m - 1) (r.j - 1)
      rw [z, show (r.j * r.least m - 1) / (r.j - 1) = m by omega] at e
      omega
    · refine keep_no (x := (r.j * r.least m - 1) / (r.j - 1) + 1) (List.mem_append_left _ (List.mem_append_left _ (List.mem_replicate.mpr ⟨by omega, rfl⟩))) (by omega)
theorem spFills_len {r : Fr} (o : r.ok) (m : Int) : r.wd < (r.spFills m).length ∧ (r.spFills m).length ≤ 9 := by
  obtain ⟨w1, w2, w3, w4⟩ := Fr.wd_bd o
  unfold Fr.spFills
  split <;> rw [List.length_replicate] <;> omega
theorem spBehind_len {r : Fr} (o : r.ok) (m : Int) : r.wd < (r.spBehind m).length ∧ (r.spBehind m).length ≤ 9 := by
  obtain ⟨w1, w2, w3, w4⟩ := Fr.wd_bd o
  unfold Fr.spBehind
  split
  · rw [Fr.putL_len o]; omega
  · rw [Fr.takeL_len o]; omega
def spLKeeps : Sp := fun vs H Q _ => ∃ (l a : Addr) (r : Fr) (m : Int) (fs : List Int), vs = [.ref l, .int m, .ref a] ∧ H l = some (.tup (tupR r)) ∧ r.ok ∧ H a = some (.tup (fs.map V.int)) ∧ r.wd < fs.length ∧ fs.length ≤ 900 ∧ ∀ H', Same H H' → Q (.bl (r.keepB m fs)) H'
def spLDue : Sp := fun vs H Q _ => ∃ (l : Addr) (r : Fr) (m : Int), vs = [.ref l, .int m] ∧ H l = some (.tup (tupR r)) ∧ r.ok ∧ 2 ≤ m ∧ m ≤ 10 ^ 12 ∧ 1 ≤ r.least m ∧ r.least m ≤ m ∧
  ∀ t a b H', Same H H' → H' t = some (.tup [.ref a, .str r.spDeed, .ref b]) → H' a = some (.tup ((r.spFills m).map V.int)) → H' b = some (.tup ((r.spBehind m).map V.int)) → Q (.ref t) H'
section
variable {P : Program} {w : World} {K : PySem.W.Frag} {mg : Str → Option Value} {base : Heap}
abbrev nLke : List Str := ["_law_told", "_law_top", "_law_fills", "_law_low", "_law_fill"]
theorem scLKeeps : FnScope nLke ["_law_told", "_law_top", "_law_fills"] (defScope sLKeeps) := ⟨rfl, rfl, rfl, by decide +kernel, rfl, by decide +kernel, by decide +kernel⟩
theorem ok_lkeeps {f : Addr} {fd : FuncData} (F : Fun K "_law_keeps" "_law_keeps" sLKeeps f fd) (T : Blt mg) (D0 : Df P w K mg base 1 "_law_least" ["_law_told", "_law_top"] spLLeast) : FnOk P w K mg base CX0 2 f fd ["_law_told", "_law_top", "_law_fills"] spLKeeps := by
  obtain ⟨f0, fd0, G0, g0, k0, b0⟩ := D0.ex
  refine F.ok scLKeeps (fun vs H Q E h => ?_) (fun cdv A outer s H vs Q E hr h => ?_)
  · obtain ⟨l, a, r, m, fs, rfl, _⟩ := h
    rfl
  · obtain ⟨l, a, r, m, fs, rfl, hl, o, ha, z1, z2, kk⟩ := h
    refine ⟨_, (pss_cons (ps_set (i := 3) scLKeeps.nd rfl (by first | exact .inl rfl | exact .inr rfl) (pe_call G0 hr (by rfl) g0 k0 b0 .nil pass0 (pa_cons (pv 0) (pa_cons (pv 1) pa_nil))))
    (pss_cons (ps_if (pt_cmpR op_le (pe_callB call_len_seq (by rfl) T.len PySem.boot_len (pa_cons (pv 2) pa_nil)) (pe_callB (call_max2 rfl) (by rfl) T.max (by decide +kernel) (pa_cons (pe_callTy call_int1 (by rfl) T.int (by decide +kernel) (pa_cons (pe_ix ix_tup (pv 0) pe_int (fun _ _ => rfl)) pa_nil)) (pa_cons (pe_callTy call_int1 (by rfl) T.int (by decide +kernel) (pa_cons (pe_ix ix_tup (pv 0) pe_int (fun _ _ => rfl)) pa_nil)) pa_nil))) (nomark _))
      (pss_one (ps_set (i := 3) scLKeeps.nd rfl (by first | exact .inl rfl | exact .inr rfl) (pe_ifExp (pt_cmpR op_gt (pe_callB call_len_seq (by rfl) T.len PySem.boot_len (pa_cons (pv 2) pa_nil)) pe_int (nomark _)) (pe_callB (call_min2 rfl) (by rfl) T.min (by decide +kernel) (pa_cons (pe_callTy call_int1 (by rfl) T.int (by decide +kernel) (pa_cons (pv 3) pa_nil)) (pa_cons (pe_op op_fdivN (pe_op op_add (pv 1) pe_int) pe_int) pa_nil))) pe_int))) pss_nil)
    (pss_one (ps_ret (pe_cmpR (op_eqD (Room.units hr)) (pe_lc (own := [("_law_fill", 4)]) (g := gName 4) (by rfl) scLKeeps.nd (pi_tup (pv 2)) (blkOk_by (own := [("_law_fill", 4)]) (N := nLke) (sc := defScope sLKeeps) (by decide +kernel)) (fun _ _ _ _ _ => pg_name (i := 4) scLKeeps.nd rfl (.inl rfl)) (fun _ _ _ _ _ => pts_one (pt_not (pt_chain op_le op_le (pv 3) (pv 4) (pv 1)))) (fun _ _ _ _ _ => (pv 4))) (pe_lst pa_nil) (nomark _)))))), ?_⟩
    refine ⟨_, rfl, _, rfl, l, r, m, rfl, hl, o, ?_⟩
    refine ⟨_, rfl, a, _, rfl, .inr (SqT.of ha), ?_⟩
    rw [List.length_map]
    refine ⟨_, rfl, l, _, _, _, rfl, rfl, SqT.of hl, i5_3, .inl ⟨_, rfl, _, rfl, l, _, _, _, rfl, rfl, SqT.of hl, i5_4, .inl ⟨_, rfl, _, _, rfl, ?_⟩⟩⟩
    rw [wd_max]
    refine ⟨_, _, rfl, rfl, _, rfl, ?_⟩
    rw [show decide ((fs.length : Int) ≤ r.wd) = false from decide_eq_false (by omega)]
    refine iteF ⟨_, rfl, a, rfl, ⟨_, SqT.of ha⟩, fun D nD => lc_tup (K := K) (a := a) (xs := fs.map V.int) (fun i H' => H' D = some (.lst (((fs.take i).filter (r.badFill m)).map V.int)) ∧ Same H H') ⟨by rw [List.take_zero]; exact upd_same, same_new nD⟩ (fun i H' _ q => SqT.of (q.2 _ _ ha)) (fun i v H' hi h => ?_) (fun H' h => ?_)⟩
    · obtain ⟨hD, s1⟩ := h
      obtain ⟨x, hx, rfl⟩ := int_at hi
      have tf := take_filter (p := r.badFill m) hx
      have fin1 : r.badFill m x = false → (H' D = some (.lst (((fs.take (i + 1)).filter (r.badFill m)).map V.int)) ∧ Same H H') := fun q => ⟨by rw [tf, q, hD]; simp, s1⟩
      have fin2 : r.badFill m x = true → (∃ acc, H' D = some (.lst acc) ∧ acc.length < sizeLine ∧ upd H' D (.lst (acc ++ [V.int x])) D = some (.lst (((fs.take (i + 1)).filter (r.badFill m)).map V.int)) ∧ Same H (upd H' D (.lst (acc ++ [V.int x])))) := fun q => by
        refine ⟨_, hD, ?_, ?_, fun b u e => by rw [upd_ne (ne_of_none e nD)]; exact s1 _ _ e⟩
        · have a1 := List.length_filter_le (r.badFill m) (fs.take i)
          have a2 : (fs.take i).length ≤ fs.length := by rw [List.length_take]; omega
          rw [List.length_map]
          exact Nat.lt_of_le_of_lt (show _ ≤ 900 by omega) (by decide)
        · rw [upd_same, tf, q, List.map_append]
          rfl
      refine ⟨rfl, _, rfl, _, rfl, _, _, rfl, rfl, _, rfl, ?_⟩
      by_cases q1 : r.least m ≤ x
      · rw [decide_eq_true q1]
        refine iteT ⟨_, rfl, _, _, rfl, rfl, _, rfl, ?_⟩
        by_cases q2 : x ≤ m
        · rw [decide_eq_true q2]
          exact iteF (fin1 (by unfold Fr.badFill; rw [decide_eq_true q1, decide_eq_true q2]; rfl))
        · rw [decide_eq_false q2]
          exact iteT ⟨_, rfl, fin2 (by unfold Fr.badFill; rw [decide_eq_false q2, Bool.and_false]; rfl)⟩
      · rw [decide_eq_false q1]
        exact iteF ⟨_, rfl, iteT ⟨_, rfl, fin2 (by unfold Fr.badFill; rw [decide_eq_false q1]; rfl)⟩⟩
    · obtain ⟨hD, s1⟩ := h
      rw [List.length_map, List.take_length] at hD
      refine ⟨(by show 0 ≤ sizeLine; decide), fun q nq => ?_⟩
      have sq : Same H' (upd H' q (.lst [])) := same_new nq
      refine ⟨_, .list [], .lst (SqL.of (sq _ _ hD)) (dpInts _), .lst (SqL.of upd_same) .nil, sh_ints _, sh_ints [], ?_⟩
      rw [eqv_nil]
      exact kk _ (s1.trans sq)
theorem scLDue : FnScope ["_law_told", "_law_top", "_law_wide", "_law_row"] ["_law_told", "_law_top"] (defScope sLDue) := ⟨rfl, rfl, rfl, by decide +kernel, rfl, by decide +kernel, by decide +kernel⟩
theorem ok_ldue {f : Addr} {fd : FuncData} (F : Fun K "_law_due" "_law_due" sLDue f fd) (T : Blt mg) (D0 : Df P w K mg base 1 "_law_least" ["_law_told", "_law_top"] spLLeast) (D1 : Df P w K mg base 2 "_law_put" ["_law_told", "_law_top", "_law_fills", "_law_ahead"] spLPut) (D2 : Df P w K mg base 2 "_law_take" ["_law_told", "_law_top", "_law_fills", "_law_index"] spLTake) : FnOk P w K mg base CX0 3 f fd ["_law_told", "_law_top"] spLDue := by
  obtain ⟨f0, fd0, G0, g0, k0, b0⟩ := D0.ex
  obtain ⟨f1, fd1, G1, g1, k1, b1⟩ := D1.ex
  obtain ⟨f2, fd2, G2, g2, k2, b2⟩ := D2.ex
  refine F.ok scLDue (fun vs H Q E h => ?_) (fun cdv A outer s H vs Q E hr h => ?_)
  · obtain ⟨l, r, m, rfl, _⟩ := h
    rfl
  · obtain ⟨l, r, m, rfl, hl, o, m1, m2, l1, l2, kk⟩ := h
    obtain ⟨w1, w2, w3, w4⟩ := Fr.wd_bd o
    refine ⟨_, (pss_cons (ps_set (i := 2) scLDue.nd rfl (.inl rfl) (pe_callB (call_max2 rfl) (by rfl) T.max (by decide +kernel) (pa_cons (pe_callTy call_int1 (by rfl) T.int (by decide +kernel) (pa_cons (pe_ix ix_tup (pv 0) pe_int (fun _ _ => rfl)) pa_nil)) (pa_cons (pe_callTy call_int1 (by rfl) T.int (by decide +kernel) (pa_cons (pe_ix ix_tup (pv 0) pe_int (fun _ _ => rfl)) pa_nil)) pa_nil))))
    (pss_cons (ps_if (pt_cmpR op_le (pe_op op_add (pe_ix ix_tup (pv 0) pe_int (fun _ _ => rfl)) pe_int) (pe_ix ix_tup (pv 0) pe_int (fun _ _ => rfl)) (nomark _))
      (pss_cons (ps_set (i := 3) scLDue.nd rfl (.inl rfl) (pe_op op_rep (pe_lst (pa_cons (pv 1) pa_nil)) (pe_op op_add (pv 2) pe_int)))
      (pss_one (ps_ret (pe_tup (pa_cons (pe_callTy call_tuple_of (by rfl) T.tuple (by decide +kernel) (pa_cons (pv 3) pa_nil)) (pa_cons pe_str (pa_cons (pe_callTy call_tuple_of (by rfl) T.tuple (by decide +kernel) (pa_cons (pe_ix ix_tup (pe_call G1 hr (by rfl) g1 k1 b1 .nil pass0 (pa_cons (pv 0) (pa_cons (pv 1) (pa_cons (pv 3) (pa_cons pe_int pa_nil))))) pe_int (fun _ _ => rfl)) pa_nil)) pa_nil))))))) pss_nil)
    (pss_cons (ps_set (i := 3) scLDue.nd rfl (.inl rfl) (pe_op op_rep (pe_lst (pa_cons (pe_call G0 (hr.mono (by decide)) (by rfl) g0 k0 b0 .nil pass0 (pa_cons (pv 0) (pa_cons (pv 1) pa_nil))) pa_nil)) (pe_op op_add (pv 2) pe_int)))
    (pss_one (ps_ret (pe_tup (pa_cons (pe_callTy call_tuple_of (by rfl) T.tuple (by decide +kernel) (pa_cons (pv 3) pa_nil)) (pa_cons pe_str (pa_cons (pe_callTy call_tuple_of (by rfl) T.tuple (by decide +kernel) (pa_cons (pe_ix ix_tup (pe_call G2 hr (by rfl) g2 k2 b2 .nil pass0 (pa_cons (pv 0) (pa_cons (pv 1) (pa_cons (pv 3) (pa_cons pe_int pa_nil))))) pe_int (fun _ _ => rfl)) pa_nil)) pa_nil))))))))), ?_⟩
    refine ⟨_, rfl, l, _, _, _, rfl, rfl, SqT.of hl, i5_3, .inl ⟨_, rfl, _, rfl, l, _, _, _, rfl, rfl, SqT.of hl, i5_4, .inl ⟨_, rfl, _, _, rfl, ?_⟩⟩⟩
    rw [wd_max]
    refine ⟨_, rfl, l, _, _, _, rfl, rfl, SqT.of hl, i5_3, _, _, rfl, rfl, _, rfl, l, _, _, _, rfl, rfl, SqT.of hl, i5_4, _, _, rfl, rfl, _, rfl, ite2 (fun e => ?_) (fun e => ?_)⟩
    · have bp : r.byPut = true := e
      rw [Fr.spFills, Fr.spDeed, Fr.spBehind, bp, if_pos rfl, if_pos rfl, if_pos rfl] at kk
      refine ⟨_, rfl, (by show 1 ≤ sizeLine; decide), fun a1 n1 => ?_⟩
      have s1 := same_new (o := .lst [V.int m]) n1
      have hl1 : upd H a1 (.lst [V.int m]) a1 = some (.lst [V.int m]) := upd_same
      generalize upd H a1 (.lst [V.int m]) = H1 at s1 hl1 ⊢
      refine ⟨_, rfl, _, _, rfl, rfl, a1, r.wd + 1, _, rfl, rfl, hl1, by omega, by omega, ?_, fun a2 n2 => ?_⟩
      · have : 1 * (r.wd + 1).toNat ≤ 12 := by omega
        exact Nat.le_trans this (by decide)
      rw [List.flatten_replicate_singleton, show (r.wd + 1).toNat = r.wd.toNat + 1 by omega, ← List.map_replicate]
      have s2 := s1.trans (same_new (o := .lst ((List.replicate (r.wd.toNat + 1) m).map V.int)) n2)
      have hl2 : upd H1 a2 (.lst ((List.replicate (r.wd.toNat + 1) m).map V.int)) a2 = some (.lst ((List.replicate (r.wd.toNat + 1) m).map V.int)) := upd_same
      generalize upd H1 a2 (.lst ((List.replicate (r.wd.toNat + 1) m).map V.int)) = H2 at s2 hl2 ⊢
      refine ⟨_, rfl, a2, _, rfl, .inl ⟨SqL.of hl2, fun t1 nt1 => ?_⟩⟩
      have s3 := s2.trans (same_new (o := .tup ((List.replicate (r.wd.toNat + 1) m).map V.int)) nt1)
      have hl3 := same_new (o := .tup ((List.replicate (r.wd.toNat + 1) m).map V.int)) nt1 _ _ hl2
      have ht1 : upd H2 t1 (.tup ((List.replicate (r.wd.toNat + 1) m).map V.int)) t1 = some (.tup ((List.replicate (r.wd.toNat + 1) m).map V.int)) := upd_same
      generalize upd H2 t1 (.tup ((List.replicate (r.wd.toNat + 1) m).map V.int)) = H3 at s3 hl3 ht1 ⊢
      refine ⟨_, rfl, _, rfl, _, rfl, l, a2, r, m, rfl, s3 _ _ hl, o, m1, m2, hl3, fun t2 q v H4 s4 ht2 hq2 => ?_⟩
      refine ⟨t2, _, 0, _, rfl, rfl, SqT.of ht2, rfl, q, _, rfl, .inl ⟨SqL.of hq2, fun t3 nt3 => ?_⟩⟩
      have s5 := s4.trans (same_new (o := .tup ((r.putL m).map V.int)) nt3)
      have ht3 : upd H4 t3 (.tup ((r.putL m).map V.int)) t3 = some (.tup ((r.putL m).map V.int)) := upd_same
      have ht1 := s5 _ _ ht1
      generalize upd H4 t3 (.tup ((r.putL m).map V.int)) = H5 at s5 ht3 ht1 ⊢
      refine ⟨(by show 3 ≤ sizeLine; decide), fun t4 nt4 => ?_⟩
      have s6 := same_new (o := .tup [V.ref t1, V.str "put", V.ref t3]) nt4
      exact kk t4 t1 t3 _ ((s3.trans s5).trans s6) upd_same (s6 _ _ ht1) (s6 _ _ ht3)
    · have bp : r.byPut = false := Bool.eq_false_iff.mpr e
      rw [Fr.spFills, Fr.spDeed, Fr.spBehind, bp, if_neg (by decide), if_neg (by decide), if_neg (by decide)] at kk
      refine ⟨_, rfl, _, rfl, l, r, m, rfl, hl, o, ?_⟩
      refine ⟨(by show 1 ≤ sizeLine; decide), fun a1 n1 => ?_⟩
      have s1 := same_new (o := .lst [V.int (r.least m)]) n1
      have hl1 : upd H a1 (.lst [V.int (r.least m)]) a1 = some (.lst [V.int (r.least m)]) := upd_same
      generalize upd H a1 (.lst [V.int (r.least m)]) = H1 at s1 hl1 ⊢
      refine ⟨_, rfl, _, _, rfl, rfl, a1, r.wd + 2, _, rfl, rfl, hl1, by omega, by omega, ?_, fun a2 n2 => ?_⟩
      · have : 1 * (r.wd + 2).toNat ≤ 12 := by omega
        exact Nat.le_trans this (by decide)
      rw [List.flatten_replicate_singleton, show (r.wd + 2).toNat = r.wd.toNat + 2 by omega, ← List.map_replicate]
      have s2 := s1.trans (same_new (o := .lst ((List.replicate (r.wd.toNat + 2) (r.least m)).map V.int)) n2)
      have hl2 : upd H1 a2 (.lst ((List.replicate (r.wd.toNat + 2) (r.least m)).map V.int)) a2 = some (.lst ((List.replicate (r.wd.toNat + 2) (r.least m)).map V.int)) := upd_same
      generalize upd H1 a2 (.lst ((List.replicate (r.wd.toNat + 2) (r.least m)).map V.int)) = H2 at s2 hl2 ⊢
      refine ⟨_, rfl, a2, _, rfl, .inl ⟨SqL.of hl2, fun t1 nt1 => ?_⟩⟩
      have s3 := s2.trans (same_new (o := .tup ((List.replicate (r.wd.toNat + 2) (r.least m)).map V.int)) nt1)
      have hl3 := same_new (o := .tup ((List.replicate (r.wd.toNat + 2) (r.least m)).map V.int)) nt1 _ _ hl2
      have ht1 : upd H2 t1 (.tup ((List.replicate (r.wd.toNat + 2) (r.least m)).map V.int)) t1 = some (.tup ((List.replicate (r.wd.toNat + 2) (r.least m)).map V.int)) := upd_same
      generalize upd H2 t1 (.tup ((List.replicate (r.wd.toNat + 2) (r.least m)).map V.int)) = H3 at s3 hl3 ht1 ⊢
      refine ⟨_, rfl, _, rfl, _, rfl, l, a2, r, m, rfl, s3 _ _ hl, o, m1, m2, l1, l2, hl3, fun t2 q v H4 s4 ht2 hq2 => ?_⟩
      refine ⟨t2, _, 0, _, rfl, rfl, SqT.of ht2, rfl, q, _, rfl, .inl ⟨SqL.of hq2, fun t3 nt3 => ?_⟩⟩
      have s5 := s4.trans (same_new (o := .tup ((r.takeL m).map V.int)) nt3)
      have ht3 : upd H4 t3 (.tup ((r.takeL m).map V.int)) t3 = some (.tup ((r.takeL m).map V.int)) := upd_same
      have ht1 := s5 _ _ ht1
      generalize upd H4 t3 (.tup ((r.takeL m).map V.int)) = H5 at s5 ht3 ht1 ⊢
      refine ⟨(by show 3 ≤ sizeLine; decide), fun t4 nt4 => ?_⟩
      have s6 := same_new (o := .tup [V.ref t1, V.str "take", V.ref t3]) nt4
      exact kk t4 t1 t3 _ ((s3.trans s5).trans s6) upd_same (s6 _ _ ht1) (s6 _ _ ht3)
end
end Ev
namespace Ev
open PySem L2 PySem.Spec PyProof.Rows RZ LamX
def ruleD (m : Str) : PyData := .tuple [.str "rule", .str m]
theorem rule_dp {K : PySem.W.Frag} {G : Hp} {r : Addr} {m : Str} (e : G r = some (.tup [.str "rule", .str m])) : Dp K G (.ref r) (ruleD m) := .tup (SqT.of e) (.cons (.str _) (.cons (.str _) .nil))
theorem kit_clsC {K : PySem.W.Frag} {t : Value} {C : Addr} {b : Bool} (h1 : PySem.W.isClsIn K C = true) (h2 : PySem.W.typeIn K (.ref C) = some (.type "type")) (h3 : PySem.W.subIn K t (.ref C) = some b) : PySem.W.kitCls K t (.ref C) = some b := by
  have h1 : (PySem.W.clsIn K C).isSome = true := h1
  unfold PySem.W.kitCls
  simp only [h1, h2, h3]
  cases b <;> decide
theorem kit_no_ty {K : PySem.W.Frag} {C : Addr} {T : String} {l : List String} (I : InsT K C) (h : fastBuiltinMro T = some (l.map Value.type)) : PySem.W.kitOne K (.type T) (.ref C) = some false := by
  unfold PySem.W.kitOne
  split
  · rename_i z
    simp at z
  · exact kit_clsC I.ic I.tt (sub_no h)
/-- what is no fill rule -/
inductive OddR (K : PySem.W.Frag) (C Cn p : Addr) (H : Hp) : V → Prop
  | any {v : V} {T : String} {l : List String} : (∀ H', TyX K H' v (.type T)) → fastBuiltinMro T = some (l.map Value.type) → OddR K C Cn p H v
  | tup {a : Addr} {xs : List V} : a ≠ p → H a = some (.tup xs) → OddR K C Cn p H (.ref a)
  | lst {a : Addr} {xs : List V} : a ≠ p → H a = some (.lst xs) → OddR K C Cn p H (.ref a)
  | ins {a dx : Addr} {fs : List (Str × V)} : a ≠ p → H a = some (.ins Cn dx fs) → OddR K C Cn p H (.ref a)
theorem OddR.ext {K : PySem.W.Frag} {C Cn p : Addr} {H H' : Hp} {v : V} (h : OddR K C Cn p H v) (k : ExtP p H H') : OddR K C Cn p H' v := by
  cases h with
  | any e n => exact .any e n
  | tup n e => exact .tup n (k _ _ n e (fun _ z => by cases z))
  | lst n e => exact .lst n (k _ _ n e (fun _ z => by cases z))
  | ins n e => exact .ins n (k _ _ n e (fun _ z => by cases z))
theorem OddR.ty {K : PySem.W.Frag} {C Cn p : Addr} {H : Hp} {v : V} (I : InsT K C) (In : InsT K Cn) (cl : Cls K Cn) (sn : PySem.W.kitOne K (.ref Cn) (.ref C) = some false) (h : OddR K C Cn p H v) : ∃ t, TyX K H v t ∧ PySem.W.kitOne K t (.ref C) = some false := by
  cases h with
  | any e n => exact ⟨_, e H, kit_no_ty I n⟩
  | tup n e => exact ⟨_, .base (.tup e), kit_no_ty (l := ["tuple", "object"]) I (by decide +kernel)⟩
  | lst n e => exact ⟨_, .base (.lst e), kit_no_ty (l := ["list", "object"]) I (by decide +kernel)⟩
  | ins n e => exact ⟨_, .base (.ins e cl In.ha In.hn In.htk In.hm), sn⟩
/-- the list of what was heard -/
def HdL (G : Hp) : List V → List PyData → Prop
  | [], [] => True
  | v :: vs, d :: ds => (∃ (r : Addr) (w x : Str), v = .ref r ∧ G r = some (.tup [.str w, .str x]) ∧ d = .tuple [.str w, .str x]) ∧ HdL G vs ds
  | _, _ => False
theorem HdL.to {G G' : Hp} (k : ∀ r ys, G r = some (.tup ys) → G' r = some (.tup ys)) : ∀ {vs : List V} {ds : List PyData}, HdL G vs ds → HdL G' vs ds
  | [], [], _ => trivial
  | _ :: _, _ :: _, ⟨⟨r, w, x, e1, e2, e3⟩, t⟩ => ⟨⟨r, w, x, e1, k _ _ e2, e3⟩, HdL.to k t⟩
theorem HdL.dp {K : PySem.W.Frag} {G : Hp} : ∀ {vs : List V} {ds : List PyData}, HdL G vs ds → DpAll K G vs ds
  | [], [], _ => .nil
  | _ :: _, _ :: _, ⟨⟨r, w, x, e1, e2, e3⟩, t⟩ => by
    subst e1 e3
    exact .cons (.tup (SqT.of e2) (.cons (.str _) (.cons (.str _) .nil))) (HdL.dp t)
theorem HdL.snoc {G : Hp} {r : Addr} {w x : Str} (h : G r = some (.tup [.str w, .str x])) : ∀ {vs : List V} {ds : List PyData}, HdL G vs ds → HdL G (vs ++ [.ref r]) (ds ++ [.tuple [.str w, .str x]])
  | [], [], _ => ⟨⟨r, w, x, rfl, h, rfl⟩, trivial⟩
  | _ :: _, _ :: _, ⟨a, t⟩ => ⟨a, HdL.snoc h t⟩
structure Iv (p m L : Addr) (b : Int) (TL : List (Addr × Str)) (G0 G : Hp) (rs : List V) (ds : List PyData) : Prop where
  x : ExtP p G0 G
  nm : ∀ b o, b ≠ p → G0 b = some o → (∀ ps : Array Value, o ≠ HO.tbl ps) → b ≠ m
  dp : m ≠ p
  dL : m ≠ L
  pn : Pen L G p b
  T : Tabs TL G
  hm : G m = some (.lst rs)
  hl : HdL G rs ds
theorem Iv.next {p m L r : Addr} {b : Int} {TL : List (Addr × Str)} {G0 G H1 G' : Hp} {rs : List V} {ds : List PyData} {w x : Str} (I : Iv p m L b TL G0 G rs ds) (e1 : ExtN G H1) (T1 : Tabs TL H1) (s1 : Same H1 G') (hr : G' r = some (.tup [.str w, .str x])) :
    G' m = some (.lst rs) ∧ Iv p m L b TL G0 (upd G' m (.lst (rs ++ [.ref r]))) (rs ++ [.ref r]) (ds ++ [.tuple [.str w, .str x]]) := by
  have hm' := s1 _ _ (e1 _ _ I.hm (fun _ z => by cases z))
  refine ⟨hm', fun b u nb e t => ?_, I.nm, I.dp, I.dL, Pen.put ((I.pn.ext e1).keep s1) I.dp I.dL, Ev.Tabs.but (T1.ext s1) hm' But.upd_at, upd_same, HdL.snoc ?_ (I.hl.to fun a ys e => ?_)⟩
  · rw [upd_ne (I.nm b u nb e t)]
    exact s1 _ _ (e1 _ _ (I.x b u nb e t) t)
  · rw [upd_ne (ne_of hr hm' (by intro z; cases z))]
    exact hr
  · rw [upd_ne (ne_of e I.hm (by intro z; cases z))]
    exact s1 _ _ (e1 _ _ e (fun _ z => by cases z))
theorem Iv.first {p m L r : Addr} {b : Int} {TL : List (Addr × Str)} {G0 H1 G' : Hp} {w x : Str} (pn : Pen L G0 p b) (e1 : ExtN G0 H1) (T1 : Tabs TL H1) (s1 : Same H1 G') (hr : G' r = some (.tup [.str w, .str x])) (nm : G' m = none) :
    Iv p m L b TL G0 (upd G' m (.lst [.ref r])) [.ref r] [.tuple [.str w, .str x]] := by
  have x1 : ExtP p G0 G' := (ExtN.p e1).trans (Ev.Same.p s1)
  have pn1 := (pn.ext e1).keep s1
  have sm : Same G' (upd G' m (.lst [.ref r])) := same_new nm
  exact ⟨x1.trans (Ev.Same.p sm), fun b o nb e t => ne_of_none (x1 b o nb e t) nm, pn1.ne nm, pn1.neL nm, pn1.keep sm, (T1.ext s1).ext sm, upd_same, ⟨⟨r, w, x, rfl, sm _ _ hr, rfl⟩, trivial⟩⟩
/-- one more is heard -/
theorem app_step {K : PySem.W.Frag} {B N Z p m L : Addr} {b : Int} {TL : List (Addr × Str)} {G0 G : Hp} {rs : List V} {ds : List PyData} {w x : Str} {t : XK → TE} {σ : L2.St} {i : Nat} {D : Ends} (I : Iv p m L b TL G0 G rs ds) (hlen : rs.length < 1000) (hσ : σ[i]? = some (some (.ref m)))
    (hl : ∀ Q : VK, (∀ (r : Addr) (H1 G' : Hp), ExtN G H1 → Tabs TL H1 → Same H1 G' → G' r = some (.tup [.str w, .str x]) → Q (.ref r) G') → tLam TL (THeard K B N Z) t σ G Q)
    (k : ∀ (r : Addr) (G2 : Hp), Iv p m L b TL G0 G2 (rs ++ [.ref r]) (ds ++ [.tuple [.str w, .str x]]) → D.nx σ G2) :
    tDrop (tBM K "list" rAppend (tVar i) (tCons (tLam TL (THeard K B N Z) t) tNil)) D σ G := by
  refine ⟨_, hσ, .inl ⟨rfl, _, SqL.of I.hm⟩, hl _ fun r H1 G' e1 T1 s1 hr => ?_⟩
  obtain ⟨hm', I2⟩ := I.next e1 T1 s1 hr
  exact ⟨m, _, _, rfl, rfl, hm', Nat.lt_of_lt_of_le hlen (by decide), k r _ I2⟩
end Ev
namespace Ev
open PySem L2 PySem.Spec PyProof.Rows RZ LamX
theorem lay_int (i : Int) : (PyData.str (PyData.int i).shown).canLay0 = true := by
  show PyData.strOk (Str.ofString (toString i)) = true
  rw [PyData.strOk, Str.ofString_eq_toList, List.all_toArray, List.all_eq_true]
  intro n hn
  obtain ⟨c, hc, rfl⟩ := List.mem_map.mp hn
  have := int_ascii i c hc
  exact decide_eq_true (by omega)
theorem len_int {i : Int} (h : i.natAbs < 10 ^ 40) : i.natAbs.log2 < 1920 ∧ (PyData.int i).showable = true ∧ (PyData.int i).shown.length ≤ sizeLine := by
  have e : i.natAbs.log2 < 1920 := by
    by_cases z : i.natAbs = 0
    · rw [z]; decide
    · exact (Nat.log2_lt z).mpr (Nat.lt_of_lt_of_le h (by decide +kernel))
  exact ⟨e, decide_eq_true e, int_text_fits e⟩
/-- ints that show shortly -/
def Mids (ns : List Int) : Prop := ∀ n ∈ ns, n.natAbs ≤ 10 ^ 15
theorem mid_log {n : Int} (h : n.natAbs ≤ 10 ^ 15) : n.natAbs.log2 < 50 := by
  by_cases z : n.natAbs = 0
  · rw [z]; decide
  · exact (Nat.log2_lt z).mpr (Nat.lt_of_le_of_lt h (by decide +kernel))
theorem mid_weight {n : Int} (h : n.natAbs ≤ 10 ^ 15) : (PyData.int n).weight ≤ 50 := by
  have := mid_log h
  simp only [PyData.weight]
  split <;> omega
theorem mid_leaf {n : Int} (h : n.natAbs ≤ 10 ^ 15) : (PyData.int n).leavesShort 2000 = true := by
  have e := int_text_length_le (k := 1920) (by decide) (Nat.lt_of_lt_of_le (mid_log h) (by decide))
  refine decide_eq_true ?_
  show (Str.ofString (toString n)).length ≤ 2000
  rw [PySem.ofString_length]
  omega
theorem Mids.show {ns : List Int} (h : Mids ns) : PyData.showableAll (ns.map PyData.int) = true ∧ PyData.leavesShortAll 2000 (ns.map PyData.int) = true ∧ PyData.weightAll (ns.map PyData.int) ≤ 51 * ns.length ∧ PyData.hasDictAll (ns.map PyData.int) = false ∧ PyData.depthAll (ns.map PyData.int) = 0 := by
  induction ns with
  | nil => exact ⟨rfl, rfl, Nat.le_refl _, rfl, rfl⟩
  | cons n r ih =>
    obtain ⟨a, b, c, d, e⟩ := ih fun x hx => h x (List.mem_cons_of_mem _ hx)
    have hn := h n List.mem_cons_self
    have s1 : (PyData.int n).showable = true := decide_eq_true (Nat.lt_trans (mid_log hn) (by decide))
    have w1 := mid_weight hn
    have l1 := mid_leaf hn
    refine ⟨?_, ?_, ?_, ?_, ?_⟩
    · rw [List.map_cons, PyData.showableAll, s1, a]; rfl
    · rw [List.map_cons, PyData.leavesShortAll, l1, b]; rfl
    · rw [List.map_cons, PyData.weightAll, List.length_cons]; omega
    · rw [List.map_cons, PyData.hasDictAll, d]; rfl
    · rw [List.map_cons, PyData.depthAll, e]; rfl
/-- what is told of a spilt row, as data -/
def spillD (m : Int) (fs : List Int) (d : Str) (bs : List Int) : PyData := .list [.int m, .tuple (fs.map PyData.int), .str d, .tuple (bs.map PyData.int)]
theorem spill_show {m : Int} {fs bs : List Int} {d : Str} (hm : m.natAbs ≤ 10 ^ 15) (h1 : Mids fs) (h2 : Mids bs) (z1 : fs.length ≤ 9) (z2 : bs.length ≤ 9) (hd : (PyData.str d).leavesShort 2000 = true) (wd : (PyData.str d).weight ≤ 10) :
    (spillD m fs d bs).hasDict = false ∧ (spillD m fs d bs).showable = true ∧ (spillD m fs d bs).depth ≤ 32 ∧ (spillD m fs d bs).shown.length ≤ sizeLine := by
  obtain ⟨a1, a2, a3, a4, a5⟩ := h1.show
  obtain ⟨b1, b2, b3, b4, b5⟩ := h2.show
  have s1 : (PyData.int m).showable = true := decide_eq_true (Nat.lt_trans (mid_log hm) (by decide))
  have w1 := mid_weight hm
  have l1 := mid_leaf hm
  refine ⟨?_, ?_, ?_, show_len ?_ ?_⟩
  · simp only [spillD, PyData.hasDict, PyData.hasDictAll, a4, b4, Bool.or_false]
  · simp only [spillD, PyData.showable, PyData.showableAll, a1, b1, Bool.and_true, Bool.true_and] at s1 ⊢
    exact s1
  · simp only [spillD, PyData.depth, PyData.depthAll, a5, b5]; decide
  · simp only [spillD, PyData.leavesShort, PyData.leavesShortAll, a2, b2, Bool.and_true, Bool.true_and] at l1 hd ⊢
    rw [Bool.and_eq_true]
    exact ⟨l1, hd⟩
  · simp only [spillD, PyData.weight, PyData.weightAll] at w1 wd ⊢
    omega
theorem dealt_mids {t p : Int} (h0 : 0 ≤ t) (h1 : t ≤ 10 ^ 14) (hp : 1 ≤ p) : Mids (dealtL t p) := by
  have a := Int.ediv_nonneg h0 (by omega : 0 ≤ p)
  have b := Int.ediv_le_self p h0
  have e14 : (10 : Int) ^ 14 = 100000000000000 := by decide
  have e15 : (10 : Nat) ^ 15 = 1000000000000000 := by decide
  intro n hn
  unfold dealtL at hn
  rcases List.mem_append.mp hn with z | z
  · have := (List.mem_replicate.mp z).2
    omega
  · have := (List.mem_replicate.mp z).2
    omega
theorem rep_mids {n : Nat} {m : Int} (h : m.natAbs ≤ 10 ^ 15) : Mids (List.replicate n m) := fun x hx => by rw [(List.mem_replicate.mp hx).2]; exact h
theorem Mids.app {a b : List Int} (h1 : Mids a) (h2 : Mids b) : Mids (a ++ b) := fun x hx => (List.mem_append.mp hx).elim (h1 x) (h2 x)
theorem mid_of {m : Int} (h0 : 0 ≤ m) (h1 : m ≤ 10 ^ 12) : m.natAbs ≤ 10 ^ 15 := by
  have e12 : (10 : Int) ^ 12 = 1000000000000 := by decide
  have e15 : (10 : Nat) ^ 15 = 1000000000000000 := by decide
  omega
theorem row_shows {r : Fr} (o : r.ok) {m : Int} (m1 : 2 ≤ m) (m2 : m ≤ 10 ^ 12) (l1 : 1 ≤ r.least m) (l2 : r.least m ≤ m) :
    (spillD m (r.spFills m) r.spDeed (r.spBehind m)).hasDict = false ∧ (spillD m (r.spFills m) r.spDeed (r.spBehind m)).showable = true ∧ (spillD m (r.spFills m) r.spDeed (r.spBehind m)).depth ≤ 32 ∧ (spillD m (r.spFills m) r.spDeed (r.spBehind m)).shown.length ≤ sizeLine := by
  have c1 := o.c1; have c2 := o.c2; have j1 := o.j1; have j2 := o.j2
  have e12 : (10 : Int) ^ 12 = 1000000000000 := by decide
  have e14 : (10 : Int) ^ 14 = 100000000000000 := by decide
  have mm := mid_of (by omega : 0 ≤ m) m2
  have ml := mid_of (by omega : 0 ≤ r.least m) (by omega)
  have p1 : 0 ≤ r.c * m := Int.mul_nonneg (by omega) (by omega)
  have p2 : r.c * m ≤ 6 * m := Int.mul_le_mul_of_nonneg_right (by omega) (by omega)
  have p3 : 1 * r.least m ≤ r.j * r.least m := Int.mul_le_mul_of_nonneg_right (by omega) (by omega)
  have p4 : r.j * r.least m ≤ 6 * r.least m := Int.mul_le_mul_of_nonneg_right (by omega) (by omega)
  refine spill_show mm ?_ ?_ (spFills_len o m).2 (spBehind_len o m).2 ?_ ?_
  · unfold Fr.spFills
    split
    · exact rep_mids mm
    · exact rep_mids ml
  · unfold Fr.spBehind
    split
    · exact (dealt_mids (by omega) (by omega) (by omega)).app (rep_mids mm)
    · exact (dealt_mids (by omega) (by omega) (by omega)).app (rep_mids ml)
  · unfold Fr.spDeed
    split <;> decide +kernel
  · unfold Fr.spDeed
    split <;> decide +kernel
end Ev
namespace Ev
open PySem L2 PySem.Spec PyProof.Rows
/-! == and != by an own __eq__, both answers, beside values of other types. -/
/-- which types come behind an own class -/
theorem nf_own {K : PySem.W.Frag} {C : Addr} : PySem.W.notFirst K C (.ref C) = true := by
  unfold PySem.W.notFirst
  simp
theorem nf_sub {K : PySem.W.Frag} {C : Addr} {t : Value} (h : PySem.W.subIn K t (.ref C) = some false) : PySem.W.notFirst K C t = true := by
  unfold PySem.W.notFirst
  rw [h]
  simp
theorem nf_ty {K : PySem.W.Frag} {C : Addr} {T : String} {l : List String} (h : fastBuiltinMro T = some (l.map Value.type)) : PySem.W.notFirst K C (.type T) = true := by
  refine nf_sub ?_
  show (fastBuiltinMro T).map (·.contains (.ref C)) = some false
  rw [h]
  have z : (l.map Value.type).contains (.ref C) = false := by
    rw [Bool.eq_false_iff]
    intro z
    have m := List.contains_iff_mem.mp z
    simp at m
  exact congrArg some z
section
variable {X : Cx} {CX : CXT} {C g : Addr} {n : Nat} {sp : Sp} {E : XK}
/-- what an own == promises for such values: a truth -/
def rOwnB (K : PySem.W.Frag) (C : Addr) (sp : Sp) (E : XK) (neg : Bool) : R2 := fun x y H Q => ∃ (a dx : Addr) (fs : List (Str × V)) (t : Value), x = .ref a ∧ H a = some (.ins C dx fs) ∧ TyX K H y t ∧ PySem.W.notFirst K C t = true ∧ sp [x, y] H (fun z H' => ∃ b, z = .bl b ∧ Q (.bl (neg ^^ b)) H') E
theorem op_eqO (he : PySem.W.findIn X.K (.ref C) "__eq__" = some (some (.ref g))) (hf : PySem.W.isFn X.K (.ref g) = true) (F : FnR X.prog X.w X.K X.mg X.base CX n g sp) (hr : Room n X.A) (hx : Passes CX X E) : OpR X (compareOp .Eq) (rOwnB X.K C sp E false) := by
  intro pins s σ H x y v u Q I rx ry h
  obtain ⟨a, dx, fs, t, rfl, ha, ty, nf, q⟩ := h
  cases (show v = Value.ref a from rx)
  obtain ⟨mA, J, _⟩ := ins_get I.hok ha
  obtain ⟨od, J, _⟩ := J.look
  obtain ⟨m, hF⟩ := I.fr
  obtain ⟨P, Z, hP, _⟩ := kit_of I ry ty
  show wpAny _ _ (richCompare .Eq (.ref a) u) _ _ s
  refine PySem.W.cmp_K (op := .Eq) hr.units0 hF I.ok.mod.kin J (Z.ty _ _ I.kIn hP) nf he hf ?_
  refine wpAny_mono (wpAny_call (SlX.run_at (us := [.ref a, u]) (ws := [.ref a, y]) F hr I.env0 hx I (.cons rfl (.cons ry .nil)) q)) (fun w' s' z => ?_) fun _ _ z => z
  obtain ⟨z', H', I', rz, b, rfl, q'⟩ := z
  cases (show w' = Value.bool b from rz)
  have q' : Q (.bl b) H' := by simpa using q'
  exact ⟨.bl b, H', I', rfl, q'⟩
end
end Ev
namespace Ev
open PySem L2 PySem.Spec PyProof.Rows RZ LamX
/-! ### a def called by keywords alone -/
section
variable {X : Cx}
def tCallK0 (sp : Sp) (gV : List V → List V → List V) (E : XK) (tk : TA) : TE := fun σ H Q => tk σ H fun zs H2 => sp (gV [] zs) H2 Q E
theorem pe_callK0 {CX : CXT} {k : Nat} {f : Addr} {fd : FuncData} {ps ks : List Str} {sp : Sp} {E : XK} {x : Str} {p pos : Pos} {kws : List Keyword} {tk : TA} {g : List Value → List Value → List Value} {gV : List V → List V → List V}
    (F : FnOk X.prog X.w X.K X.mg X.base CX k f fd ps sp) (hr : Room k X.A) (hg : Gl X x) (hm : X.mg x = some (.ref f)) (hk : PySem.W.keepIn X.K (.ref f) = true) (hb : KBinds X.K fd ps ks g gV) (hx : Passes CX X E)
    (hkw : PK X kws tk) (hall : (backToKw pos (keywordEach kws X.env)).all (·.1.isSome) = true := by rfl) (hks : (backToKw pos (keywordEach kws X.env)).filterMap (·.1) = ks := by rfl)
    (hdb : (x == ("__debug__" : Str)) = false := by decide)
    (hpl : ((backTo pos (starEach [] X.env)).any (·.1) || (backToKw pos (keywordEach kws X.env)).any (·.1.isNone)) = false := by rfl) :
    PE X (.Call (.Name x p) [] kws pos) (tCallK0 sp gV E tk) := by
  refine ⟨fun pins s σ H Q I h => ?_⟩
  refine wpAny_Call_Name_kw (ld_glob I hg hm ?_ hdb)
  refine PySem.W.callWith_KW0 (first := []) (h₀ := X.base) I.ok.mod.kin hk hall ?_ hpl
  refine thn (hkw.run pos pins s σ H _ I h) fun ws s2 ⟨zs, H2, I2, rz, q2⟩ => ⟨I2.kIn, ?_⟩
  rw [hks]
  exact run_fnk (us := []) (vs := []) F hr hb hx I2 .nil rz q2
end
def gMR {α : Type} : List α → List α → List α
  | [], [a, b] => [b, a]
  | _, _ => []
theorem gMR_rel {vs zs : List V} {us ws : List Value} (r1 : Vals vs us) (r2 : Vals zs ws) : Vals (gMR vs zs) (gMR us ws) := by
  rcases r1 with _ | ⟨a, _⟩ <;> rcases r2 with _ | ⟨b, _ | ⟨c, _ | ⟨_, _⟩⟩⟩ <;> first | exact .nil | exact .cons c (.cons b .nil)
theorem gMR_len {α : Type} {us ws : List α} (h : (gMR us ws).length = 2) : ∃ a b, us = [] ∧ ws = [a, b] := by
  match us, ws, h with
  | [], [a, b], _ => exact ⟨a, b, rfl, rfl⟩
/-- what tells a spilt row, and how such rows are compared -/
structure SpAsk (P : Program) (w : World) (K : PySem.W.Frag) (mg : Str → Option Value) (base : Heap) (C B N Z S : Addr) : Prop where
  sp : ∃ f fd, FnOk P w K mg base (L2.CX P w) 8 f fd ["rule", "most"] (spSpill K C B N Z S) ∧ mg "spill_of" = some (.ref f) ∧ PySem.W.keepIn K (.ref f) = true ∧ Binds K fd ["rule", "most"] [] ∧ KBinds K fd ["rule", "most"] ["most", "rule"] gMR gMR
  cl : SCls K S
  it : InsT K S
  g : mg "Spill" = some (.ref S)
  e : ∃ f, FnR P w K mg base CX0 1 f (spEqS S) ∧ PySem.W.findIn K (.ref S) "__eq__" = some (some (.ref f)) ∧ PySem.W.isFn K (.ref f) = true
def spRi (TL : List (Addr × Str)) : Sp := fun vs H Q _ => ∃ (l : Addr) (r : Fr) (m : Int), vs = [.ref l, .int m] ∧ H l = some (.tup (tupR r)) ∧ r.ok ∧ 2 ≤ m ∧ m ≤ 10 ^ 12 ∧ Tabs TL H ∧ ∀ H', ExtN H H' → Tabs TL H' → Q (.bl true) H'
theorem two_sh {a b : Str} (h1 : (PyData.str a).canLay0 = true) (h2 : (PyData.str b).canLay0 = true) : SeqAt.shaped (.tuple [.str a, .str b]) = true := by
  unfold SeqAt.shaped
  rw [Bool.and_eq_true]
  refine ⟨?_, by simp [PyData.depth, PyData.depthAll]⟩
  simp only [PyData.canLay0, PyData.canLayAll0, Bool.and_true, Bool.and_eq_true] at h1 h2 ⊢
  exact ⟨h1, h2⟩
theorem two_dp {K : PySem.W.Frag} {G : Hp} {r : Addr} {a b : Str} (e : G r = some (.tup [.str a, .str b])) : Dp K G (.ref r) (.tuple [.str a, .str b]) := .tup (SqT.of e) (.cons (.str _) (.cons (.str _) .nil))
theorem spill_dp {K : PySem.W.Frag} {G : Hp} {z a b : Addr} {m : Int} {fs bs : List Int} {d : Str} (hz : G z = some (.lst [.int m, .ref a, .str d, .ref b])) (ha : G a = some (.tup (fs.map V.int))) (hb : G b = some (.tup (bs.map V.int))) : Dp K G (.ref z) (spillD m fs d bs) :=
  .lst (SqL.of hz) (.cons (.int m) (.cons (.tup (SqT.of ha) (dpInts _)) (.cons (.str d) (.cons (.tup (SqT.of hb) (dpInts _)) .nil))))
theorem at0 {a b c : V} : atI [a, b, c] 0 = some a := atI_nat (j := 0) rfl
theorem at1 {a b c : V} : atI [a, b, c] 1 = some b := atI_nat (j := 1) rfl
theorem at2 {a b c : V} : atI [a, b, c] 2 = some c := atI_nat (j := 2) rfl
section
variable {P : Program} {w : World} {K : PySem.W.Frag} {mg : Str → Option Value} {base : Heap}
abbrev nRi : List Str := ["_law_told", "_law_top", "_law_made", "_law_heard_here", "_law_found", "_law_due_here"]
theorem scRi : FnScope nRi ["_law_told", "_law_top"] (defScope sLRight) := ⟨rfl, rfl, rfl, by decide +kernel, rfl, by decide +kernel, by decide +kernel⟩
theorem ri_lam {f B N Z FE cc TT fh : Addr} {TL : List (Addr × Str)} {fdh : FuncData} {q : Str} {A : Around} {outer : List Env} {s : Shared} {H : Hp} {E : XK} (T : Blt mg) (TB : TabB base mg cc TT) (hTL : (TT, q) ∈ TL) (hTL2 : ∀ p ∈ TL, p.1 = TT → p.2 = q)
    (hq : q = (envOfC "_law_right" (defScope sLRight) 0 f (.ref cc)).qual ++ ("<lambda>" : Str)) (HH : HeardB P w K mg B N Z FE fh fdh)
    (hr : Room 10 (cxOf CX0 P w K mg base nRi "_law_right" (defScope sLRight) f (.ref cc) A outer s H E).nox.A) (gd : (cxOf CX0 P w K mg base nRi "_law_right" (defScope sLRight) f (.ref cc) A outer s H E).nox.A.guards = some [])
    {params : Arguments} {body : Expr} {scope : Scope} {lpos pos p : Pos} {t : XK → TE} (LS : LamS (defScope sLRight) scope) (hdef : defaultsOf params (cxOf CX0 P w K mg base nRi "_law_right" (defScope sLRight) f (.ref cc) A outer s H E).env = ([], []))
    (hbind : ∀ (q : Str) (cl : List (Str × Addr)) (pm cv ctv : Value), bindArgs (PySem.W.kla_fn "<lambda>" q params body scope cl pm cv ctv) ⟨[], []⟩ = pure [])
    (hbody : ∀ (A' : Around) (outer' : List Env) (s' : Shared) (H' : Hp) (E' : XK) (f' c' : Addr), Room 8 (A'.deeper (lamEnv (cxOf CX0 P w K mg base nRi "_law_right" (defScope sLRight) f (.ref cc) A outer s H E).nox scope s'.heap.objs.size f' c')) →
      PE (lamCx (cxOf CX0 P w K mg base nRi "_law_right" (defScope sLRight) f (.ref cc) A outer s H E).nox A' outer' s' H' E' scope f' c') body (t E')) :
    PE (cxOf CX0 P w K mg base nRi "_law_right" (defScope sLRight) f (.ref cc) A outer s H E).nox (.Call (.Name "_law_heard" p) [.Lambda params body scope lpos] [] pos) (tLam TL (THeard K B N Z) t) := by
  have kh := HH.F.kp
  obtain ⟨och, odh, kVh, doch, pmh, anh, cdvh, cth, oslh, rfl, lkh, hcdh⟩ := HH.F.ex
  have hq' : q = (cxOf CX0 P w K mg base nRi "_law_right" (defScope sLRight) f (.ref cc) A outer s H E).nox.env.qual ++ ("<lambda>" : Str) := hq
  subst hq'
  have h4 : Gl (cxOf CX0 P w K mg base nRi "_law_right" (defScope sLRight) f (.ref cc) A outer s H E).nox "_law_heard" := by rfl
  refine pe_lamcall (X := (cxOf CX0 P w K mg base nRi "_law_right" (defScope sLRight) f (.ref cc) A outer s H E).nox) (k := 8) (T := TL) (TT := THeard K B N Z) (x := "_law_heard") (a := "_law_ask") (g := fh) (c := cc) (P := TT) (pg := defArgs sHeard) (bg := defBody sHeard) (sg := defScope sHeard)
    (Ng := ["_law_ask", "_law_caught", "error", "_law_found"]) h4 HH.g kh lkh hcdh HH.b scHeard ?_ ?_ ?_ ?_ ?_ ?_ ?_ ?_ ?_ ?_ ?_ ?_ ?_ ?_ ?_
  · rfl
  · exact .inl rfl
  · exact heard_gives gd hr T HH.mr HH.gF HH.gB HH.gN HH.HB HH.HN HH.HZ HH.gZ HH.noB HH.noN HH.teB HH.teN HH.teZ kit_self HH.iBN HH.iNB kit_self HH.iBZ HH.iNZ HH.iZB HH.iZN kit_self
  · exact TB
  · rfl
  · exact hTL
  · exact hTL2
  · exact hr
  · exact LS
  · exact hdef
  · exact hbind
  · exact hbody
  · decide
  · decide
  · decide
theorem ok_right {f C B N Z S FE cc TT fh : Addr} {TL : List (Addr × Str)} {fd fdh : FuncData} {q : Str} (F : Fun K "_law_right" "_law_right" sLRight f fd) (T : Blt mg) (hc : fd.code = .ref cc) (TB : TabB base mg cc TT) (hTL : (TT, q) ∈ TL) (hTL2 : ∀ p ∈ TL, p.1 = TT → p.2 = q)
    (hq : q = (envOfC "_law_right" (defScope sLRight) 0 f (.ref cc)).qual ++ ("<lambda>" : Str)) (HH : HeardB P w K mg B N Z FE fh fdh) (AS : SpAsk P w K mg base C B N Z S)
    (D1 : Df P w K mg base 7 "_law_rule" ["_law_told"] (spLRule C)) (D2 : Df P w K mg base 1 "_law_least" ["_law_told", "_law_top"] spLLeast) (D3 : Df P w K mg base 2 "_law_is_right" ["_law_told", "_law_top"] spLIsR) (D4 : Df P w K mg base 3 "_law_due" ["_law_told", "_law_top"] spLDue) (D5 : Df P w K mg base 2 "_law_keeps" ["_law_told", "_law_top", "_law_fills"] spLKeeps) : FnG P w K mg base 11 f fd ["_law_told", "_law_top"] (spRi TL) := by
  obtain ⟨f1, fd1, G1, g1, k1, b1⟩ := D1.ex
  obtain ⟨f2, fd2, G2, g2, k2, b2⟩ := D2.ex
  obtain ⟨f3, fd3, G3, g3, k3, b3⟩ := D3.ex
  obtain ⟨f4, fd4, G4, g4, k4, b4⟩ := D4.ex
  obtain ⟨f5, fd5, G5, g5, k5, b5⟩ := D5.ex
  obtain ⟨f6, fd6, G6, g6, k6, b6, kb6⟩ := AS.sp
  obtain ⟨f7, G7, m7, i7⟩ := AS.e
  have mr := HH.mr
  refine fng_code F scRi (fun vs H Q E h => ?_) (fun cdv ecd A outer s H vs Q E hr gd h => ?_)
  · obtain ⟨l, r, m, rfl, _⟩ := h
    rfl
  · obtain ⟨l, r, m, rfl, hl, o, m1, m2, hT, kk⟩ := h
    obtain rfl : cdv = .ref cc := ecd.symm.trans hc
    have hu : (cxOf CX0 P w K mg base nRi "_law_right" (defScope sLRight) f (.ref cc) A outer s H E).nox.A.units + 64 < cLine := Room.units hr
    have e12 : (10 : Int) ^ 12 = 1000000000000 := by decide
    refine ⟨_, (pss_cons (ps_set (i := 2) scRi.nd rfl (.inr rfl) (pe_call G1 (hr.mono (by decide)) (by rfl) g1 k1 b1 .nil pass0 (pa_cons (pv 0) pa_nil)))
    (pss_cons (ps_set (i := 3) scRi.nd rfl (.inl rfl) (ri_lam T TB hTL hTL2 hq HH hr gd (lamS_by (by decide +kernel)) rfl (fun _ _ _ _ _ => rfl) (fun _ _ _ _ E' _ _ hrL => pe_call G6 hrL (by rfl) g6 k6 b6 .nil (E := E') (passes_call (takes_of rfl rfl rfl rfl) (fun _ _ _ _ h => h)) (pa_cons (pv 2) (pa_cons (pv 1) pa_nil)))))
    (pss_cons (ps_if (pt_not (pt_chain op_le op_le pe_int (pe_call G2 (hr.mono (by decide)) (by rfl) g2 k2 b2 .nil pass0 (pa_cons (pv 0) (pa_cons (pv 1) pa_nil))) (pv 1)))
      (pss_one (ps_ret (pe_cmpR (op_eqD hu) (pv 3) (pe_tup (pa_cons pe_str (pa_cons (pe_callB (call_reprV gd hu) (by rfl) mr (by decide +kernel) (pa_cons (pv 1) pa_nil)) pa_nil))) (nomark _)))) pss_nil)
    (pss_cons (ps_if (pt_val (pe_call G3 (hr.mono (by decide)) (by rfl) g3 k3 b3 .nil pass0 (pa_cons (pv 0) (pa_cons (pv 1) pa_nil))))
      (pss_one (ps_ret (pe_cmpR (op_eqD hu) (pv 3) (pe_tup (pa_cons pe_str (pa_cons pe_str pa_nil))) (nomark _)))) pss_nil)
    (pss_cons (ps_if (PW.pt (pw_or (pt_not (pt_val (pe_callB call_isi (by rfl) T.isi (by decide +kernel) (pa_cons (pv 3) (pa_cons (pe_bltn (v := .ty "list") (by rfl) T.list (by decide +kernel) rfl) pa_nil))))) (pw_or1 (pt_not (pt_val (pe_callB call_isi (by rfl) T.isi (by decide +kernel) (pa_cons (pe_ix ix_list (pv 3) pe_int (fun _ _ => rfl)) (pa_cons (pe_glob (v := .ref S) rfl AS.g rfl) pa_nil))))))))
      (pss_one (ps_ret pe_bl)) pss_nil)
    (pss_cons (ps_par (i := 4) (j := 5) (by rfl) scRi.nd rfl rfl (by decide) rfl rfl (pa_cons (pe_ix ix_list (pv 3) pe_int (fun _ _ => rfl)) (pa_cons (pe_call G4 (hr.mono (by decide)) (by rfl) g4 k4 b4 .nil pass0 (pa_cons (pv 0) (pa_cons (pv 1) pa_nil))) pa_nil)) (by rfl))
    (pss_cons (ps_if (pt_cmpR op_ne (pe_callB (call_reprV gd hu) (by rfl) mr (by decide +kernel) (pa_cons (pe_lst (pa_cons (pe_fld (pv 4) rfl) (pa_cons (pe_fld (pv 4) rfl) (pa_cons (pe_fld (pv 4) rfl) (pa_cons (pe_fld (pv 4) rfl) pa_nil))))) pa_nil)) (pe_callB (call_reprV gd hu) (by rfl) mr (by decide +kernel) (pa_cons (pe_lst (pa_cons (pv 1) (pa_cons (pe_ix ix_tup (pv 5) pe_int (fun _ _ => rfl)) (pa_cons (pe_ix ix_tup (pv 5) pe_int (fun _ _ => rfl)) (pa_cons (pe_ix ix_tup (pv 5) pe_int (fun _ _ => rfl)) pa_nil))))) pa_nil)) (nomark _))
      (pss_one (ps_ret pe_bl)) pss_nil)
    (pss_cons (ps_if (PW.pt (pw_or (pt_not (pt_val (pe_call G5 (hr.mono (by decide)) (by rfl) g5 k5 b5 .nil pass0 (pa_cons (pv 0) (pa_cons (pv 1) (pa_cons (pe_fld (pv 4) rfl) pa_nil)))))) (pw_or1 (pt_val (pe_call G5 (hr.mono (by decide)) (by rfl) g5 k5 b5 .nil pass0 (pa_cons (pv 0) (pa_cons (pv 1) (pa_cons (pe_fld (pv 4) rfl) pa_nil))))))))
      (pss_one (ps_ret pe_bl)) pss_nil)
    (pss_one (ps_ret (pe_and (pe_cmpR op_gt (pe_callB call_len_seq (by rfl) T.len PySem.boot_len (pa_cons (pe_fld (pv 4) rfl) pa_nil)) (pe_callB (call_max2 rfl) (by rfl) T.max (by decide +kernel) (pa_cons (pe_callTy call_int1 (by rfl) T.int (by decide +kernel) (pa_cons (pe_ix ix_tup (pv 0) pe_int (fun _ _ => rfl)) pa_nil)) (pa_cons (pe_callTy call_int1 (by rfl) T.int (by decide +kernel) (pa_cons (pe_ix ix_tup (pv 0) pe_int (fun _ _ => rfl)) pa_nil)) pa_nil))) (nomark _))
      (pe_one (pe_cmpR (op_eqO (E := E0) m7 i7 G7 (hr.mono (by decide)) pass0) (pe_callK0 G6 (hr.mono (by decide)) (by rfl) g6 k6 kb6 (E := E0) passX0 (pk_cons (pv 1) (pk_cons (pv 2) pk_nil))) (pv 4) (nomark _)))))))))))))), ?_⟩
    refine ⟨_, rfl, l, r, rfl, hl, o, fun x H1 s1 fa => ?_⟩
    have T1 := hT.ext s1
    have hl1 := s1 _ _ hl
    by_cases lw : 1 ≤ r.least m ∧ r.least m ≤ m
    · obtain ⟨l1, l2⟩ := lw
      cases ri : r.right m with
      | true =>
        refine lam_none T1 (fun H2 E' Q' e2 hO => ⟨_, rfl, _, rfl, .ref x, .int m, rfl, .inr ⟨x, r, rfl, fa.ext e2, o, .inl ⟨m, rfl⟩, .inr ⟨m, rfl, m1, m2, .inr ⟨l1, l2, .inl ⟨ri, hO⟩⟩⟩⟩⟩) fun r1 H2 H3 e2 T2 s3 hr1 => ?_
        have x3 : ExtN H H3 := (Ev.Same.extN s1).trans (e2.trans (Ev.Same.extN s3))
        have hl3 := x3 _ _ hl (fun _ z => by cases z)
        refine ⟨_, rfl, _, rfl, l, r, m, rfl, hl3, o, _, _, rfl, rfl, _, rfl, ?_⟩
        rw [decide_eq_true l1]
        refine iteT ⟨_, rfl, _, _, rfl, rfl, _, rfl, ?_⟩
        rw [decide_eq_true l2]
        refine iteF ⟨_, rfl, _, rfl, l, r, m, rfl, hl3, o, m1, m2, l1, l2, _, rfl, ?_⟩
        rw [ri]
        refine iteT ⟨_, rfl, (by show 2 ≤ sizeLine; decide), fun t nt => ?_⟩
        have st := same_new (o := .tup [V.str "nothing", V.str ""]) nt
        refine ⟨_, _, two_dp (st _ _ hr1), two_dp upd_same, by decide +kernel, by decide +kernel, ?_⟩
        rw [SeqAt.eqv_refl_plain _ (by rfl)]
        exact kk _ (x3.trans (Ev.Same.extN st)) ((T2.ext s3).ext st)
      | false =>
        refine lam_val (ex := fun y G => SAt S G y m (r.spFills m) r.spDeed (r.spBehind m)) T1 (fun H2 E' Q' e2 hO => ⟨_, rfl, _, rfl, .ref x, .int m, rfl, .inr ⟨x, r, rfl, fa.ext e2, o, .inl ⟨m, rfl⟩, .inr ⟨m, rfl, m1, m2, .inr ⟨l1, l2, .inr ⟨ri, hO⟩⟩⟩⟩⟩) (fun y G G' s h => h.keep s) fun r1 y H2 H3 e2 T2 s3 hr1 sy => ?_
        have x3 : ExtN H H3 := (Ev.Same.extN s1).trans (e2.trans (Ev.Same.extN s3))
        have hl3 := x3 _ _ hl (fun _ z => by cases z)
        have fa3 := (fa.ext e2).keep s3
        have T3 := T2.ext s3
        obtain ⟨dy, ya, yb, hy, hya, hyb⟩ := id sy
        refine ⟨_, rfl, _, rfl, l, r, m, rfl, hl3, o, _, _, rfl, rfl, _, rfl, ?_⟩
        rw [decide_eq_true l1]
        refine iteT ⟨_, rfl, _, _, rfl, rfl, _, rfl, ?_⟩
        rw [decide_eq_true l2]
        refine iteF ⟨_, rfl, _, rfl, l, r, m, rfl, hl3, o, m1, m2, l1, l2, _, rfl, ?_⟩
        rw [ri]
        have a0 : atI [V.ref y] 0 = some (.ref y) := atI_nat (j := 0) rfl
        refine iteF ⟨_, rfl, _, _, _, _, true, rfl, .ty _, .base (.lst hr1), kit_ty (by decide +kernel), _, rfl, iteF ?_⟩
        refine ⟨_, rfl, r1, _, 0, _, rfl, rfl, SqL.of hr1, a0, _, _, _, _, true, rfl, .own S, .base (.ins hy AS.cl.cl AS.it.ha AS.it.hn AS.it.htk AS.it.hm), kit_self, _, rfl, iteF ?_⟩
        refine ⟨_, rfl, r1, _, 0, _, rfl, rfl, SqL.of hr1, a0, _, rfl, _, rfl, l, r, m, rfl, hl3, o, m1, m2, l1, l2, fun td ta tb H4 s4 htd hta htb => ⟨_, _, rfl, ?_⟩⟩
        have hl4 := s4 _ _ hl3
        have hy4 := s4 _ _ hy
        have hya4 := s4 _ _ hya
        have hyb4 := s4 _ _ hyb
        obtain ⟨nd, sh1, sh2, sh3⟩ := row_shows o m1 m2 l1 l2
        refine ⟨_, rfl, y, S, dy, _, _, rfl, hy4, AS.cl.cl, AS.cl.n1, sf_most _ _ _ _, _, rfl, y, S, dy, _, _, rfl, hy4, AS.cl.cl, AS.cl.n2, sf_fills _ _ _ _, _, rfl, y, S, dy, _, _, rfl, hy4, AS.cl.cl, AS.cl.n3, sf_deed _ _ _ _, _, rfl, y, S, dy, _, _, rfl, hy4, AS.cl.cl, AS.cl.n4, sf_behind _ _ _ _, (by show 4 ≤ sizeLine; decide), fun z1 nz1 => ?_⟩
        have s5 := same_new (o := .lst [V.int m, .ref ya, .str r.spDeed, .ref yb]) nz1
        have hz1 : upd H4 z1 (.lst [V.int m, .ref ya, .str r.spDeed, .ref yb]) z1 = some (.lst [V.int m, .ref ya, .str r.spDeed, .ref yb]) := upd_same
        generalize upd H4 z1 (.lst [V.int m, .ref ya, .str r.spDeed, .ref yb]) = H5 at s5 hz1 ⊢
        refine ⟨_, _, rfl, .plain (spill_dp hz1 (s5 _ _ hya4) (s5 _ _ hyb4)) nd, sh1, sh2, sh3, ?_⟩
        have htd5 := s5 _ _ htd
        refine ⟨_, rfl, _, rfl, td, _, _, _, rfl, rfl, SqT.of htd5, at0, _, rfl, td, _, _, _, rfl, rfl, SqT.of htd5, at1, _, rfl, td, _, _, _, rfl, rfl, SqT.of htd5, at2, (by show 4 ≤ sizeLine; decide), fun z2 nz2 => ?_⟩
        have s6 := s5.trans (same_new (o := .lst [V.int m, .ref ta, .str r.spDeed, .ref tb]) nz2)
        have hz2 : upd H5 z2 (.lst [V.int m, .ref ta, .str r.spDeed, .ref tb]) z2 = some (.lst [V.int m, .ref ta, .str r.spDeed, .ref tb]) := upd_same
        generalize upd H5 z2 (.lst [V.int m, .ref ta, .str r.spDeed, .ref tb]) = H6 at s6 hz2 ⊢
        refine ⟨_, _, rfl, .plain (spill_dp hz2 (s6 _ _ hta) (s6 _ _ htb)) nd, sh1, sh2, sh3, ?_⟩
        refine ⟨rfl, _, rfl, iteNS rfl ?_⟩
        have hy6 := s6 _ _ hy4
        have fl := spFills_len o m
        have bl := spBehind_len o m
        refine ⟨_, rfl, _, rfl, _, rfl, y, S, dy, _, _, rfl, hy6, AS.cl.cl, AS.cl.n2, sf_fills _ _ _ _, l, ya, r, m, _, rfl, s6 _ _ hl4, o, s6 _ _ hya4, fl.1, by omega, fun H7 s7 => ⟨_, rfl, ?_⟩⟩
        rw [keep_fills l2]
        have hy7 := s7 _ _ hy6
        refine iteF ⟨_, rfl, _, rfl, _, rfl, y, S, dy, _, _, rfl, hy7, AS.cl.cl, AS.cl.n4, sf_behind _ _ _ _, l, yb, r, m, _, rfl, s7 _ _ (s6 _ _ hl4), o, s7 _ _ (s6 _ _ hyb4), bl.1, by omega, fun H8 s8 => ⟨_, rfl, ?_⟩⟩
        rw [keep_behind o m1 l1 l2 ri]
        have hy8 := s8 _ _ hy7
        have s48 : Same H4 H8 := s6.trans (s7.trans s8)
        have hl8 := s48 _ _ hl4
        refine iteF ⟨_, rfl, y, S, dy, _, _, rfl, hy8, AS.cl.cl, AS.cl.n4, sf_behind _ _ _ _, yb, _, rfl, .inr (SqT.of (s48 _ _ hyb4)), ?_⟩
        rw [List.length_map]
        refine ⟨_, rfl, l, _, _, _, rfl, rfl, SqT.of hl8, i5_3, .inl ⟨_, rfl, _, rfl, l, _, _, _, rfl, rfl, SqT.of hl8, i5_4, .inl ⟨_, rfl, _, _, rfl, ?_⟩⟩⟩
        rw [wd_max]
        refine ⟨_, _, rfl, rfl, _, rfl, ?_⟩
        rw [show decide (((r.spBehind m).length : Int) > r.wd) = true from decide_eq_true bl.1]
        have fa8 := (fa3.keep s4).keep s48
        refine iteT ⟨_, rfl, _, rfl, .ref x, .int m, rfl, .inr ⟨x, r, rfl, fa8, o, .inl ⟨m, rfl⟩, .inr ⟨m, rfl, m1, m2, .inr ⟨l1, l2, .inr ⟨ri, fun y2 H9 s9 sy2 => ?_⟩⟩⟩⟩⟩
        obtain ⟨dy2, _, _, hy2, _, _⟩ := id sy2
        have sy9 : SAt S H9 y m (r.spFills m) r.spDeed (r.spBehind m) := ((sy.keep s4).keep s48).keep s9
        obtain ⟨dy9, _, _, hy9, _, _⟩ := id sy9
        refine ⟨_, rfl, y2, dy2, _, _, rfl, hy2, .base (.ins hy9 AS.cl.cl AS.it.ha AS.it.hn AS.it.htk AS.it.hm), nf_own, y2, y, m, _, _, _, rfl, sy2, sy9, true, rfl, ?_⟩
        exact kk _ (x3.trans (Ev.Same.extN (s4.trans (s48.trans s9)))) (T3.ext (s4.trans (s48.trans s9)))
    · have big : m.natAbs < 10 ^ 40 := by
        have e40 : (10 : Nat) ^ 15 ≤ 10 ^ 40 := by decide +kernel
        have := mid_of (by omega : 0 ≤ m) m2
        have e15 : (10 : Nat) ^ 15 < 10 ^ 40 := by decide +kernel
        omega
      obtain ⟨b1', b2', b3'⟩ := len_int big
      refine lam_num (lo := 1) (hi := 0) (.int m (by omega) b1' b3' (lay_int m)) T1 (fun H2 E' Q' e2 hv told => ⟨_, rfl, _, rfl, .ref x, .int m, rfl, .inr ⟨x, r, rfl, fa.ext e2, o, .inl ⟨m, rfl⟩, .inr ⟨m, rfl, m1, m2, .inl ⟨lw, told⟩⟩⟩⟩) fun r1 H2 H3 e2 T2 s3 hr1 => ?_
      have x3 : ExtN H H3 := (Ev.Same.extN s1).trans (e2.trans (Ev.Same.extN s3))
      have hl3 := x3 _ _ hl (fun _ z => by cases z)
      refine ⟨_, rfl, _, rfl, l, r, m, rfl, hl3, o, _, _, rfl, rfl, _, rfl, ?_⟩
      by_cases q1 : 1 ≤ r.least m
      · rw [decide_eq_true q1]
        refine iteT ⟨_, rfl, _, _, rfl, rfl, _, rfl, ?_⟩
        rw [decide_eq_false (fun z => lw ⟨q1, z⟩)]
        refine iteT ?_
        refine ⟨_, rfl, _, rfl, .int m, .int m, rfl, .plain (.int m) rfl, b2', (by show 0 ≤ 32; decide), b3', (by show 2 ≤ sizeLine; decide), fun t nt => ?_⟩
        have st := same_new (o := .tup [V.str "number", V.str (PyData.int m).shown]) nt
        refine ⟨_, _, two_dp (st _ _ hr1), two_dp upd_same, two_sh (by decide +kernel) (lay_int m), two_sh (by decide +kernel) (lay_int m), ?_⟩
        rw [SeqAt.eqv_refl_plain _ (by rfl)]
        exact kk _ (x3.trans (Ev.Same.extN st)) ((T2.ext s3).ext st)
      · rw [decide_eq_false q1]
        refine iteF ⟨_, rfl, iteT ?_⟩
        refine ⟨_, rfl, _, rfl, .int m, .int m, rfl, .plain (.int m) rfl, b2', (by show 0 ≤ 32; decide), b3', (by show 2 ≤ sizeLine; decide), fun t nt => ?_⟩
        have st := same_new (o := .tup [V.str "number", V.str (PyData.int m).shown]) nt
        refine ⟨_, _, two_dp (st _ _ hr1), two_dp upd_same, two_sh (by decide +kernel) (lay_int m), two_sh (by decide +kernel) (lay_int m), ?_⟩
        rw [SeqAt.eqv_refl_plain _ (by rfl)]
        exact kk _ (x3.trans (Ev.Same.extN st)) ((T2.ext s3).ext st)
end
end Ev
namespace Ev
open PySem L2 PySem.Spec PyProof.Rows RZ LamX
def loopBody : Stmt → List Stmt
  | .For _ _ b _ _ => b
  | _ => []
abbrev lapBody : List Stmt := loopBody ((defBody sLaw).getD 1 (.Pass ⟨0, 0, 0, 0⟩))
abbrev nLaw : List Str := ["_law_script", "_law_pen_here", "_law_turn", "_law_told", "_law_kind", "_law_top", "_law_odd", "_law_wrong", "_law_heard_here", "_law_found"]
theorem scLaw : FnScope nLaw ["_law_script"] (defScope sLaw) := ⟨rfl, rfl, rfl, by decide +kernel, rfl, by decide +kernel, by decide +kernel⟩
abbrev numD (x : Str) : PyData := .tuple [.str "number", .str x]
theorem str_lay {w x : Str} (hw : (PyData.str w).canLay0 = true) (hx : (PyData.str x).canLay0 = true) : (PyData.tuple [.str w, .str x]).canLay0 = true := by
  simp only [PyData.canLay0, PyData.canLayAll0, Bool.and_true, Bool.and_eq_true] at hw hx ⊢
  exact ⟨hw, hx⟩
def twoD (x : Str) : PyData := .list [ruleD "rule", numD x]
theorem two_shaped {x : Str} (hx : (PyData.str x).canLay0 = true) : SeqAt.shaped (twoD x) = true := by
  have r1 : (ruleD "rule").canLay0 = true := by decide +kernel
  have a1 := str_lay (w := "number") (by decide +kernel) hx
  unfold SeqAt.shaped
  rw [Bool.and_eq_true]
  refine ⟨?_, by simp [twoD, ruleD, PyData.depth, PyData.depthAll]⟩
  rw [twoD, PyData.canLay0, PyData.canLayAll0, r1, PyData.canLayAll0, a1]
  rfl
theorem OddV.extP {lo hi : Int} {p L : Addr} {b : Int} {H H' : Hp} {v : V} {d : PyData} (h : OddV lo hi H v d) (pn : Pen L H p b) (k : ExtP p H H') : OddV lo hi H' v d := by
  obtain ⟨ns, t, c, hp, _⟩ := pn
  cases h with
  | non => exact .non
  | int i a b c e => exact .int i a b c e
  | bl b => exact .bl b
  | str x a e => exact .str x a e
  | tup e => exact .tup (k _ _ (ne_of e hp (by intro z; cases z)) e (fun _ z => by cases z))
  | lst e => exact .lst (k _ _ (ne_of e hp (by intro z; cases z)) e (fun _ z => by cases z))
  | dct e => exact .dct (k _ _ (ne_of e hp (by intro z; cases z)) e (fun _ z => by cases z))
theorem FAt.extP {C p L x : Addr} {b : Int} {H H' : Hp} {r : Fr} (h : FAt C H x r) (pn : Pen L H p b) (k : ExtP p H H') : FAt C H' x r := by
  obtain ⟨ns, t, c, hp, _⟩ := pn
  obtain ⟨dx, a, h1, h2⟩ := h
  exact ⟨dx, a, k _ _ (ne_of h1 hp (by intro z; cases z)) h1 (fun _ z => by cases z), k _ _ (ne_of h2 hp (by intro z; cases z)) h2 (fun _ z => by cases z)⟩
theorem told_keep {lo hi : Int} {N : Addr} {n : Str} {H1 H2 : Hp} {v : V} {d : PyData} {E : XK} (hv : OddV lo hi H1 v d) (k : Same H1 H2) (t : Told N n H1 v E) : Told N n H2 v E := by
  intro a v' H' s nd hd al
  refine t a v' H' (k.trans s) (Same.gone k nd) hd ?_
  cases al with
  | same => exact .same
  | lst e1 e2 =>
    cases hv with
    | tup e => rw [k _ _ e] at e1; cases e1
    | lst e => rw [k _ _ e] at e1; cases e1; exact .lst e e2
    | dct e => rw [k _ _ e] at e1; cases e1
  | dct e1 e2 =>
    cases hv with
    | tup e => rw [k _ _ e] at e1; cases e1
    | lst e => rw [k _ _ e] at e1; cases e1
    | dct e => rw [k _ _ e] at e1; cases e1; exact .dct e e2
section
variable {P : Program} {w : World} {K : PySem.W.Frag} {mg : Str → Option Value} {base : Heap}
theorem law_lam {f B N Z FE cc TT fh : Addr} {TL : List (Addr × Str)} {fdh : FuncData} {q : Str} {A : Around} {outer : List Env} {s : Shared} {H : Hp} {E : XK} (T : Blt mg) (TB : TabB base mg cc TT) (hTL : (TT, q) ∈ TL) (hTL2 : ∀ p ∈ TL, p.1 = TT → p.2 = q)
    (hq : q = (envOfC "law" (defScope sLaw) 0 f (.ref cc)).qual ++ ("<lambda>" : Str)) (HH : HeardB P w K mg B N Z FE fh fdh)
    (hr : Room 11 (cxOf CX0 P w K mg base nLaw "law" (defScope sLaw) f (.ref cc) A outer s H E).nox.A) (gd : (cxOf CX0 P w K mg base nLaw "law" (defScope sLaw) f (.ref cc) A outer s H E).nox.A.guards = some [])
    {params : Arguments} {body : Expr} {scope : Scope} {lpos pos p : Pos} {t : XK → TE} (LS : LamS (defScope sLaw) scope) (hdef : defaultsOf params (cxOf CX0 P w K mg base nLaw "law" (defScope sLaw) f (.ref cc) A outer s H E).env = ([], []))
    (hbind : ∀ (q : Str) (cl : List (Str × Addr)) (pm cv ctv : Value), bindArgs (PySem.W.kla_fn "<lambda>" q params body scope cl pm cv ctv) ⟨[], []⟩ = pure [])
    (hbody : ∀ (A' : Around) (outer' : List Env) (s' : Shared) (H' : Hp) (E' : XK) (f' c' : Addr), Room 9 (A'.deeper (lamEnv (cxOf CX0 P w K mg base nLaw "law" (defScope sLaw) f (.ref cc) A outer s H E).nox scope s'.heap.objs.size f' c')) →
      PE (lamCx (cxOf CX0 P w K mg base nLaw "law" (defScope sLaw) f (.ref cc) A outer s H E).nox A' outer' s' H' E' scope f' c') body (t E')) :
    PE (cxOf CX0 P w K mg base nLaw "law" (defScope sLaw) f (.ref cc) A outer s H E).nox (.Call (.Name "_law_heard" p) [.Lambda params body scope lpos] [] pos) (tLam TL (THeard K B N Z) t) := by
  have kh := HH.F.kp
  obtain ⟨och, odh, kVh, doch, pmh, anh, cdvh, cth, oslh, rfl, lkh, hcdh⟩ := HH.F.ex
  have hq' : q = (cxOf CX0 P w K mg base nLaw "law" (defScope sLaw) f (.ref cc) A outer s H E).nox.env.qual ++ ("<lambda>" : Str) := hq
  subst hq'
  have h4 : Gl (cxOf CX0 P w K mg base nLaw "law" (defScope sLaw) f (.ref cc) A outer s H E).nox "_law_heard" := by rfl
  refine pe_lamcall (X := (cxOf CX0 P w K mg base nLaw "law" (defScope sLaw) f (.ref cc) A outer s H E).nox) (k := 9) (T := TL) (TT := THeard K B N Z) (x := "_law_heard") (a := "_law_ask") (g := fh) (c := cc) (P := TT) (pg := defArgs sHeard) (bg := defBody sHeard) (sg := defScope sHeard)
    (Ng := ["_law_ask", "_law_caught", "error", "_law_found"]) h4 HH.g kh lkh hcdh HH.b scHeard ?_ ?_ ?_ ?_ ?_ ?_ ?_ ?_ ?_ ?_ ?_ ?_ ?_ ?_ ?_
  · rfl
  · exact .inl rfl
  · exact heard_gives gd hr T HH.mr HH.gF HH.gB HH.gN HH.HB HH.HN HH.HZ HH.gZ HH.noB HH.noN HH.teB HH.teN HH.teZ kit_self HH.iBN HH.iNB kit_self HH.iBZ HH.iNZ HH.iZB HH.iZN kit_self
  · exact TB
  · rfl
  · exact hTL
  · exact hTL2
  · exact hr
  · exact LS
  · exact hdef
  · exact hbind
  · exact hbody
  · decide
  · decide
  · decide
/-- the two refusals of a turn -/
theorem lap_heard {f C Cn B N Z S FE cc TT fh : Addr} {TL : List (Addr × Str)} {fdh : FuncData} {q : Str} {A : Around} {outer : List Env} {s : Shared} {H : Hp} {E : XK} (T : Blt mg) (TB : TabB base mg cc TT) (hTL : (TT, q) ∈ TL) (hTL2 : ∀ p ∈ TL, p.1 = TT → p.2 = q)
    (hq : q = (envOfC "law" (defScope sLaw) 0 f (.ref cc)).qual ++ ("<lambda>" : Str)) (HH : HeardB P w K mg B N Z FE fh fdh) (AS : SpAsk P w K mg base C B N Z S) (It : InsT K C) (In : InsT K Cn) (cln : Cls K Cn) (sn : PySem.W.kitOne K (.ref Cn) (.ref C) = some false)
    (D2 : Df P w K mg base 7 "_law_rule" ["_law_told"] (spLRule C))
    (hr : Room 11 (cxOf CX0 P w K mg base nLaw "law" (defScope sLaw) f (.ref cc) A outer s H E).nox.A) (gd : (cxOf CX0 P w K mg base nLaw "law" (defScope sLaw) f (.ref cc) A outer s H E).nox.A.guards = some []) :
    ∃ t : TS, PSs (cxOf CX0 P w K mg base nLaw "law" (defScope sLaw) f (.ref cc) A outer s H E).nox (lapBody.drop 5) t ∧ ∀ (D : Ends) (G : Hp) (p L l : Addr) (b : Int) (r : Fr) (v0 v2 v4 v5 v8 v9 : Option V) (od wr : V) (dw : PyData),
      OddR K C Cn p G od → OddV 2 (10 ^ 12) G wr dw → G l = some (.tup (tupR r)) → r.ok → Pen L G p b → Tabs TL G →
      (∀ (G' : Hp) (u8 : Option V), ExtP p G G' → Pen L G' p b → Tabs TL G' → D.nx [v0, some (.ref p), v2, some (.ref l), v4, v5, some od, some wr, u8, v9] G') →
      t D [v0, some (.ref p), v2, some (.ref l), v4, v5, some od, some wr, v8, v9] G := by
  obtain ⟨f6, fd6, G6, g6, k6, b6, kb6⟩ := AS.sp
  obtain ⟨f2, fd2, G2, g2, k2, b2⟩ := D2.ex
  have mr := HH.mr
  have hu : (cxOf CX0 P w K mg base nLaw "law" (defScope sLaw) f (.ref cc) A outer s H E).nox.A.units + 64 < cLine := Room.units hr
  refine ⟨_, (pss_cons (ps_set (i := 8) scLaw.nd rfl (.inl rfl) (pe_lst (pa_cons (law_lam T TB hTL hTL2 hq HH hr gd (lamS_by (by decide +kernel)) rfl (fun _ _ _ _ _ => rfl) (fun _ _ _ _ E' _ _ hrL => pe_call G6 (hrL.mono (by decide)) (by rfl) g6 k6 b6 .nil (E := E') (passes_call (takes_of rfl rfl rfl rfl) (fun _ _ _ _ h => h)) (pa_cons (pv 6) (pa_cons (pv 7) pa_nil)))) pa_nil)))
    (pss_cons (ps_expr (pe_bm PySem.F.plainAttrs_list PySem.F.slot_list_append PySem.F.type_list_append mt_append (pv 8) (pa_cons (law_lam T TB hTL hTL2 hq HH hr gd (lamS_by (by decide +kernel)) rfl (fun _ _ _ _ _ => rfl) (fun _ _ _ _ E' _ _ hrL => pe_call G6 (hrL.mono (by decide)) (by rfl) g6 k6 b6 .nil (E := E') (passes_call (takes_of rfl rfl rfl rfl) (fun _ _ _ _ h => h)) (pa_cons (pe_call G2 (hrL.mono (by decide)) (by rfl) g2 k2 b2 .nil pass0 (pa_cons (pv 3) pa_nil)) (pa_cons (pv 7) pa_nil)))) pa_nil)))
    (pss_one (ps_if (pt_cmpR (op_neD hu) (pv 8) (pe_lst (pa_cons (pe_tup (pa_cons pe_str (pa_cons pe_str pa_nil))) (pa_cons (pe_tup (pa_cons pe_str (pa_cons (pe_callB (call_reprV gd hu) (by rfl) mr (by decide +kernel) (pa_cons (pv 7) pa_nil)) pa_nil))) pa_nil))) (nomark _))
      (pss_one (ps_ret pe_bl)) pss_nil)))), ?_⟩
  intro D G p L l b r v0 v2 v4 v5 v8 v9 od wr dw hod hwr hl o pn hT fin
  refine lam_rule "rule" hT (fun H1 E' Q' e1 hO => ?_) fun r1 H1 G1 e1 T1 s1 hr1 => ⟨(by show 1 ≤ sizeLine; decide), fun mm nm => ?_⟩
  · obtain ⟨t, ty, kt⟩ := (hod.ext (ExtN.p e1)).ty It In cln sn
    exact ⟨_, rfl, _, rfl, od, wr, rfl, .inl ⟨t, ty, kt, fun g => hO g _ (Same.refl _)⟩⟩
  have I1 := Iv.first pn e1 T1 s1 hr1 nm
  generalize upd G1 mm (.lst [.ref r1]) = G2' at I1 ⊢
  clear e1 T1 s1 hr1 nm
  have lk : ∀ {H' : Hp}, ExtP p G H' → H' l = some (.tup (tupR r)) := fun x => by
    obtain ⟨ns, t, c, hp, _⟩ := pn
    exact x _ _ (ne_of hl hp (by intro z; cases z)) hl (fun _ z => by cases z)
  refine app_step I1 (by simp) rfl (fun Q k => lam_num (hwr.extP pn I1.x) I1.T (fun H1 E' Q' e1 hv1 told => ⟨_, rfl, l, r, rfl, lk (I1.x.trans (ExtN.p e1)), o, fun x H2 s2 fa => ⟨_, rfl, .ref x, wr, rfl, .inr ⟨x, r, rfl, fa, o, (hv1.ext (Ev.Same.extN s2)).bad.1, .inl ⟨hv1.bad.2, (hv1.ext (Ev.Same.extN s2)).hold, told_keep hv1 s2 told⟩⟩⟩⟩) k) fun r2 G3 I2 => ?_
  have hm := I2.hm
  have hlL := I2.hl
  have x2 := I2.x
  have pn2 := I2.pn
  have T2 := I2.T
  have w2 := hwr.extP pn x2
  clear I1 I2
  refine ⟨_, rfl, (by show 2 ≤ sizeLine; decide), fun a1 n1 => ?_⟩
  have f1 : upd G3 a1 (.tup [.str "rule", .str "rule"]) a1 = some (.tup [.str "rule", .str "rule"]) := upd_same
  have g1 : Same G3 (upd G3 a1 (.tup [.str "rule", .str "rule"])) := same_new n1
  generalize upd G3 a1 (.tup [.str "rule", .str "rule"]) = J1 at f1 g1 ⊢
  obtain ⟨u1, u2, u3, u4⟩ := (w2.ext (Ev.Same.extN g1)).vd (K := K)
  refine ⟨_, rfl, wr, dw, rfl, u1, u2, u3, u4, (by show 2 ≤ sizeLine; decide), fun a2 n2 => ⟨(by show 2 ≤ sizeLine; decide), fun a3 n3 => ?_⟩⟩
  have f2 : upd J1 a2 (.tup [.str "number", .str dw.shown]) a2 = some (.tup [.str "number", .str dw.shown]) := upd_same
  have g2' : Same J1 (upd J1 a2 (.tup [.str "number", .str dw.shown])) := same_new n2
  generalize upd J1 a2 (.tup [.str "number", .str dw.shown]) = J2 at f2 g2' n3 ⊢
  have f3 : upd J2 a3 (.lst [.ref a1, .ref a2]) a3 = some (.lst [.ref a1, .ref a2]) := upd_same
  have g3 : Same J2 (upd J2 a3 (.lst [.ref a1, .ref a2])) := same_new n3
  generalize upd J2 a3 (.lst [.ref a1, .ref a2]) = J3 at f3 g3 ⊢
  have k3 : Same G3 J3 := g1.trans (g2'.trans g3)
  have hl3 : HdL J3 _ _ := hlL.to fun a ys e => k3 _ _ e
  have hr3 : HdL J3 [.ref a1, .ref a2] [ruleD "rule", numD dw.shown] := ⟨⟨a1, "rule", "rule", rfl, g3 _ _ (g2' _ _ f1), rfl⟩, ⟨a2, "number", dw.shown, rfl, g3 _ _ f2, rfl⟩, trivial⟩
  refine ⟨twoD dw.shown, twoD dw.shown, .lst (SqL.of (k3 _ _ hm)) hl3.dp, .lst (SqL.of f3) hr3.dp, two_shaped w2.lay, two_shaped w2.lay, ?_⟩
  rw [SeqAt.eqv_refl_plain _ (by rfl)]
  exact ⟨_, rfl, iteF (fin J3 _ (x2.trans (Ev.Same.p k3)) (pn2.keep k3) (T2.ext k3))⟩
end
end Ev
namespace Ev
open PySem L2 PySem.Spec PyProof.Rows RZ LamX
/-- a rule of this law: how it is made -/
structure FlB (P : Program) (w : World) (K : PySem.W.Frag) (mg : Str → Option Value) (base : Heap) (C Cn BB NN : Addr) : Prop where
  gC : mg "FillRule" = some (.ref C)
  gN : mg "TurnRule" = some (.ref Cn)
  two : FTwo K C
  fs : ∃ (f : Addr) (fd : FuncData) (g1 : List Value → List Value → List Value), Mk K C f ∧ FnOk P w K mg base CX0 5 f fd ["self", "times", "plus", "cut_of", "join_of"] (spFillOk C) ∧
    KBn K fd ["self", "times", "plus", "cut_of", "join_of"] 2 ["cut_of"] g1 (fun vs zs => vs ++ ([.int 0] ++ (zs ++ [.int 2])))
  ts : ∃ (f : Addr) (fd : FuncData) (g : List Value → List Value → List Value), Mk K Cn f ∧ FnOk P w K mg base (L2.CX P w) 6 f fd ["self", "times", "plus", "turn", "turn_plus"] (spTurnInit Cn BB NN) ∧ KBn K fd ["self", "times", "plus", "turn", "turn_plus"] 2 ["turn"] g (fun vs zs => vs ++ ([.int 0] ++ (zs ++ [.int 0])))
  tn : InsT K Cn
  clN : Cls K Cn
  sN : PySem.W.kitOne K (.ref Cn) (.ref C) = some false
section
variable {P : Program} {w : World} {K : PySem.W.Frag} {mg : Str → Option Value} {base : Heap}
/-- a turn of the law -/
theorem lap_all {f C Cn B N Z S BB NN FE cc TT fh : Addr} {TL : List (Addr × Str)} {fdh : FuncData} {q : Str} {A : Around} {outer : List Env} {s : Shared} {H : Hp} {E : XK} (T : Blt mg) (TB : TabB base mg cc TT) (hTL : (TT, q) ∈ TL) (hTL2 : ∀ p ∈ TL, p.1 = TT → p.2 = q)
    (hq : q = (envOfC "law" (defScope sLaw) 0 f (.ref cc)).qual ++ ("<lambda>" : Str)) (HH : HeardB P w K mg B N Z FE fh fdh) (AS : SpAsk P w K mg base C B N Z S) (FB : FlB P w K mg base C Cn BB NN)
    (D0 : Df P w K mg base 1 "_law_draw" ["_law_pen_here", "_law_many"] spDraw) (D1 : Df P w K mg base 2 "_law_pick" ["_law_pen_here", "_law_some"] spPick) (D2 : Df P w K mg base 7 "_law_rule" ["_law_told"] (spLRule C)) (D3 : Df P w K mg base 2 "_law_numbers" ["_law_pen_here"] spLNums)
    {f9 : Addr} {fd9 : FuncData} (G9 : FnG P w K mg base 11 f9 fd9 ["_law_told", "_law_top"] (spRi TL)) (g9 : mg "_law_right" = some (.ref f9)) (k9 : PySem.W.keepIn K (.ref f9) = true) (b9 : Binds K fd9 ["_law_told", "_law_top"] [])
    (hr : Room 11 (cxOf CX0 P w K mg base nLaw "law" (defScope sLaw) f (.ref cc) A outer s H E).nox.A) (gd : (cxOf CX0 P w K mg base nLaw "law" (defScope sLaw) f (.ref cc) A outer s H E).nox.A.guards = some []) :
    ∃ t : TS, PSs (cxOf CX0 P w K mg base nLaw "law" (defScope sLaw) f (.ref cc) A outer s H E).nox lapBody t ∧ ∀ (D : Ends) (G : Hp) (p L : Addr) (b : Int) (v0 v2 v3 v4 v5 v6 v7 v8 v9 : Option V), b ≤ 800000 → Pen L G p b → Tabs TL G →
      (∀ (G' : Hp) (u3 u4 u5 u6 u7 u8 : Option V), Pen L G' p (b + 50) → Tabs TL G' → D.nx [v0, some (.ref p), v2, u3, u4, u5, u6, u7, u8, v9] G') →
      t D [v0, some (.ref p), v2, v3, v4, v5, v6, v7, v8, v9] G := by
  obtain ⟨gC, gN, two, _, ⟨fT, fdT, gt, M, GI, bt⟩, tn, clN, sN⟩ := id FB
  obtain ⟨f0, fd0, G0, g0, k0, b0⟩ := D0.ex
  obtain ⟨f1, fd1, G1, g1, k1, b1⟩ := D1.ex
  obtain ⟨f3, fd3, G3, g3', k3, b3⟩ := D3.ex
  obtain ⟨tH, hH, qH⟩ := lap_heard (outer := outer) (s := s) (H := H) (E := E) T TB hTL hTL2 hq HH AS two.it tn clN sN D2 hr gd
  have hr1 := hr.mono (show 1 ≤ 11 by decide)
  have hr2 := hr.mono (show 2 ≤ 11 by decide)
  have hr7 := hr.mono (show 7 ≤ 11 by decide)
  have e12 : (10 : Int) ^ Int.toNat 12 = 1000000000000 := by decide
  have e12' : (10 : Int) ^ 12 = 1000000000000 := by decide
  obtain ⟨tP, hP, qP⟩ : ∃ t : TS, PSs (cxOf CX0 P w K mg base nLaw "law" (defScope sLaw) f (.ref cc) A outer s H E).nox (lapBody.drop 3) t ∧ ∀ (D : Ends) (Ga : Hp) (p L l : Addr) (b : Int) (r : Fr) (v0 v2 v4 v5 v6 v7 v8 v9 : Option V), b ≤ 800040 → Ga l = some (.tup (tupR r)) → r.ok → Pen L Ga p b → Tabs TL Ga →
      (∀ (G' : Hp) (u6 u7 u8 : Option V), Pen L G' p (b + 2) → Tabs TL G' → D.nx [v0, some (.ref p), v2, some (.ref l), v4, v5, u6, u7, u8, v9] G') →
      t D [v0, some (.ref p), v2, some (.ref l), v4, v5, v6, v7, v8, v9] Ga := by
    refine ⟨_, (pss_cons (ps_set (i := 6) scLaw.nd rfl (.inr rfl) (pe_call G1 hr2 (by rfl) g1 k1 b1 .nil pass0 (pa_cons (pv 1) (pa_cons (pe_lst (pa_cons pe_non (pa_cons pe_int (pa_cons pe_str (pa_cons (pe_tup (pa_cons pe_int (pa_cons pe_int pa_nil))) (pa_cons (pe_lst pa_nil) (pa_cons pe_bl (pa_cons (pe_makeN (n := 1) M GI hr7 (by rfl) gN bt (E := E0) passX0 (pa_cons (pe_tup (pa_cons pe_int (pa_cons pe_int pa_nil))) pa_nil) (pk_cons (pe_tup (pa_cons pe_int (pa_cons pe_int pa_nil))) pk_nil)) pa_nil)))))))) pa_nil))))
      (pss_cons (ps_set (i := 7) scLaw.nd rfl (.inr rfl) (pe_call G1 hr2 (by rfl) g1 k1 b1 .nil pass0 (pa_cons (pv 1) (pa_cons (pe_lst (pa_cons pe_non (pa_cons pe_int (pa_cons pe_int (pa_cons (pe_un un_neg pe_int) (pa_cons pe_bl (pa_cons pe_str (pa_cons (pe_op op_add (pe_op op_pow pe_int pe_int) pe_int) (pa_cons (pe_op op_pow pe_int pe_int) (pa_cons (pe_tup (pa_cons pe_int pa_nil)) (pa_cons (pe_lst pa_nil) pa_nil))))))))))) pa_nil))))
      hH)), ?_⟩
    intro D Ga p L l b r v0 v2 v4 v5 v6 v7 v8 v9 hb hl o pa Ta fin
    refine ⟨_, rfl, (by show 2 ≤ sizeLine; decide), fun ua1 nua1 => ?_⟩
    have sua1 : Same Ga (upd Ga ua1 (.tup [.int 1, .int 2])) := same_new nua1
    have hua1 : upd Ga ua1 (.tup [.int 1, .int 2]) ua1 = some (.tup [.int 1, .int 2]) := upd_same
    have pua1 : ua1 ≠ p := pa.ne nua1
    generalize upd Ga ua1 (.tup [.int 1, .int 2]) = uHua1 at sua1 hua1 ⊢
    have tua1 : Same Ga uHua1 := sua1
    refine ⟨(by show 0 ≤ sizeLine; decide), fun ua2 nua2 => ?_⟩
    have sua2 : Same uHua1 (upd uHua1 ua2 (.lst [])) := same_new nua2
    have hua2 : upd uHua1 ua2 (.lst []) ua2 = some (.lst []) := upd_same
    have pua2 : ua2 ≠ p := (pa.keep tua1).ne nua2
    generalize upd uHua1 ua2 (.lst []) = uHua2 at sua2 hua2 ⊢
    have tua2 : Same Ga uHua2 := tua1.trans sua2
    refine ⟨(by show 2 ≤ sizeLine; decide), fun uq1 nuq1 => ?_⟩
    have suq1 : Same uHua2 (upd uHua2 uq1 (.tup [.int 3, .int 1])) := same_new nuq1
    have huq1 : upd uHua2 uq1 (.tup [.int 3, .int 1]) uq1 = some (.tup [.int 3, .int 1]) := upd_same
    have puq1 : uq1 ≠ p := (pa.keep tua2).ne nuq1
    generalize upd uHua2 uq1 (.tup [.int 3, .int 1]) = uHuq1 at suq1 huq1 ⊢
    have tuq1 : Same Ga uHuq1 := tua2.trans suq1
    refine ⟨(by show 2 ≤ sizeLine; decide), fun uq2 nuq2 => ?_⟩
    have suq2 : Same uHuq1 (upd uHuq1 uq2 (.tup [.int 2, .int 1])) := same_new nuq2
    have huq2 : upd uHuq1 uq2 (.tup [.int 2, .int 1]) uq2 = some (.tup [.int 2, .int 1]) := upd_same
    have puq2 : uq2 ≠ p := (pa.keep tuq1).ne nuq2
    generalize upd uHuq1 uq2 (.tup [.int 2, .int 1]) = uHuq2 at suq2 huq2 ⊢
    have tuq2 : Same Ga uHuq2 := tuq1.trans suq2
    refine ⟨rfl, rfl, fun uy uyd nuy nuyd nuye => mk_turnX (B := BB) (N := NN) nuy nuyd (suq2 _ _ huq1) huq2 fun uHuy suy huy' => ⟨rfl, ?_⟩⟩
    obtain ⟨fsuy, huy⟩ := huy'
    have puy : uy ≠ p := (pa.keep tuq2).ne nuy
    have tuy : Same Ga uHuy := tuq2.trans suy
    refine ⟨(by show 7 ≤ sizeLine; decide), fun uz un => ?_⟩
    try dsimp only
    have us : Same uHuy (upd uHuy uz (.lst [.non, .int 0, .str "fill 1/2 0 1 2", .ref ua1, .ref ua2, .bl true, .ref uy])) := same_new un
    have uh : upd uHuy uz (.lst [.non, .int 0, .str "fill 1/2 0 1 2", .ref ua1, .ref ua2, .bl true, .ref uy]) uz = some (.lst [.non, .int 0, .str "fill 1/2 0 1 2", .ref ua1, .ref ua2, .bl true, .ref uy]) := upd_same
    have up : uz ≠ p := (pa.keep tuy).ne un
    generalize upd uHuy uz (.lst [.non, .int 0, .str "fill 1/2 0 1 2", .ref ua1, .ref ua2, .bl true, .ref uy]) = uZ at us uh ⊢
    have ut : Same Ga uZ := tuy.trans us
    have uSua1 : Same uHua1 uZ := (sua2.trans (suq1.trans (suq2.trans (suy.trans us))))
    have uSua2 : Same uHua2 uZ := (suq1.trans (suq2.trans (suy.trans us)))
    have uSuq1 : Same uHuq1 uZ := (suq2.trans (suy.trans us))
    have uSuq2 : Same uHuq2 uZ := (suy.trans us)
    have uSuy : Same uHuy uZ := us
    have uq := pa.keep ut
    obtain ⟨uy', ue⟩ := uq.some
    refine ⟨p, uz, L, _, b, rfl, uh, up, (by show 1 ≤ 7; decide), (by show 7 ≤ 1000; decide), by omega, uq, fun od Gb ud uB pb => ?_⟩
    have ux : ExtP p Ga Gb := (Ev.Same.p ut).trans (But.p uB)
    have Tb := Ev.Tabs.but (Ta.ext ut) ue uB
    have hod : OddR K C Cn p Gb od := by
      simp only [List.mem_cons, List.not_mem_nil, or_false] at ud
      rcases ud with rfl | rfl | rfl | rfl | rfl | rfl | rfl
      · exact .any (T := "NoneType") (l := ["NoneType", "object"]) (fun _ => .base .non) (by decide +kernel)
      · exact .any (T := "int") (l := ["int", "object"]) (fun _ => .base (.int 0)) (by decide +kernel)
      · exact .any (T := "str") (l := ["str", "object"]) (fun _ => .base (.str _)) (by decide +kernel)
      · exact .tup pua1 (uB _ _ pua1 (uSua1 _ _ hua1))
      · exact .lst pua2 (uB _ _ pua2 (uSua2 _ _ hua2))
      · exact .any (T := "bool") (l := ["bool", "int", "object"]) (fun _ => .base (.bl true)) (by decide +kernel)
      · exact .ins puy (uB _ _ puy (uSuy _ _ huy))
    have Gc0 : True := trivial
    have hlb : Gb l = some (.tup (tupR r)) := by
      obtain ⟨ns, t, c, hp, _⟩ := id pa
      exact ux _ _ (ne_of hl hp (by intro z; cases z)) hl (fun _ z => by cases z)
    refine ⟨_, rfl, _, rfl, _, _, rfl, rfl, ⟨by decide, by decide, by decide⟩, _, _, rfl, rfl, _, _, rfl, rfl, ⟨by decide, by decide, by decide⟩, (by show 1 ≤ sizeLine; decide), fun va1 nva1 => ?_⟩
    have sva1 : Same Gb (upd Gb va1 (.tup [.int 6])) := same_new nva1
    have hva1 : upd Gb va1 (.tup [.int 6]) va1 = some (.tup [.int 6]) := upd_same
    have pva1 : va1 ≠ p := pb.ne nva1
    generalize upd Gb va1 (.tup [.int 6]) = vHva1 at sva1 hva1 ⊢
    have tva1 : Same Gb vHva1 := sva1
    refine ⟨(by show 0 ≤ sizeLine; decide), fun va2 nva2 => ?_⟩
    have sva2 : Same vHva1 (upd vHva1 va2 (.lst [])) := same_new nva2
    have hva2 : upd vHva1 va2 (.lst []) va2 = some (.lst []) := upd_same
    have pva2 : va2 ≠ p := (pb.keep tva1).ne nva2
    generalize upd vHva1 va2 (.lst []) = vHva2 at sva2 hva2 ⊢
    have tva2 : Same Gb vHva2 := tva1.trans sva2
    refine ⟨(by show 10 ≤ sizeLine; decide), fun vz vn => ?_⟩
    try dsimp only
    have vs : Same vHva2 (upd vHva2 vz (.lst [.non, .int 1, .int 0, .int (-3), .bl true, .str "6", .int (10 ^ Int.toNat 12 + 1), .int (10 ^ Int.toNat 40), .ref va1, .ref va2])) := same_new vn
    have vh : upd vHva2 vz (.lst [.non, .int 1, .int 0, .int (-3), .bl true, .str "6", .int (10 ^ Int.toNat 12 + 1), .int (10 ^ Int.toNat 40), .ref va1, .ref va2]) vz = some (.lst [.non, .int 1, .int 0, .int (-3), .bl true, .str "6", .int (10 ^ Int.toNat 12 + 1), .int (10 ^ Int.toNat 40), .ref va1, .ref va2]) := upd_same
    have vp : vz ≠ p := (pb.keep tva2).ne vn
    generalize upd vHva2 vz (.lst [.non, .int 1, .int 0, .int (-3), .bl true, .str "6", .int (10 ^ Int.toNat 12 + 1), .int (10 ^ Int.toNat 40), .ref va1, .ref va2]) = vZ at vs vh ⊢
    have vt : Same Gb vZ := tva2.trans vs
    have vSva1 : Same vHva1 vZ := (sva2.trans vs)
    have vSva2 : Same vHva2 vZ := vs
    have vq := pb.keep vt
    obtain ⟨vy', ve⟩ := vq.some
    refine ⟨p, vz, L, _, (b + 1), rfl, vh, vp, (by show 1 ≤ 10; decide), (by show 10 ≤ 1000; decide), by omega, vq, fun wr Gd vd vB pd => ?_⟩
    have vx : ExtP p Gb Gd := (Ev.Same.p vt).trans (But.p vB)
    have Td := Ev.Tabs.but (Tb.ext vt) ve vB
    have hwr : ∃ d, OddV 2 (10 ^ 12) Gd wr d := by
      simp only [List.mem_cons, List.not_mem_nil, or_false] at vd
      rcases vd with rfl | rfl | rfl | rfl | rfl | rfl | rfl | rfl | rfl | rfl
      · exact ⟨_, .non⟩
      · exact ⟨_, .int 1 (by decide +kernel) (by decide +kernel) (by decide +kernel) (by decide +kernel)⟩
      · exact ⟨_, .int 0 (by decide +kernel) (by decide +kernel) (by decide +kernel) (by decide +kernel)⟩
      · exact ⟨_, .int (-3) (by decide +kernel) (by decide +kernel) (by decide +kernel) (by decide +kernel)⟩
      · exact ⟨_, .bl true⟩
      · exact ⟨_, .str "6" (by decide +kernel) (by decide +kernel)⟩
      · exact ⟨_, .int (10 ^ Int.toNat 12 + 1) (by decide +kernel) (by decide +kernel) (by decide +kernel) (by decide +kernel)⟩
      · exact ⟨_, .int (10 ^ Int.toNat 40) (by decide +kernel) (by decide +kernel) (by decide +kernel) (by decide +kernel)⟩
      · exact ⟨_, .tup (vB _ _ pva1 (vSva1 _ _ hva1))⟩
      · exact ⟨_, .lst (vB _ _ pva2 (vSva2 _ _ hva2))⟩
    obtain ⟨dw, hwr⟩ := hwr
    replace hod := hod.ext vx
    have hld : Gd l = some (.tup (tupR r)) := by
      obtain ⟨ns, t, c, hp, _⟩ := id pb
      exact vx _ _ (ne_of hlb hp (by intro z; cases z)) hlb (fun _ z => by cases z)
    exact qH D Gd p L l _ r _ _ _ _ _ _ od wr dw hod hwr hld o pd Td fun G' u8 _ p' T' => fin G' _ _ _ (p'.mono (by omega)) T'
  refine ⟨_, (pss_cons (ps_asg (pe_tup (pa_cons (pe_call G3 hr2 (by rfl) g3' k3 b3 .nil pass0 (pa_cons (pv 1) pa_nil)) (pa_cons (pe_call G0 hr1 (by rfl) g0 k0 b0 .nil pass0 (pa_cons (pv 1) (pa_cons pe_int pa_nil))) pa_nil)))
      (pg_tup (by rfl) (pgs_cons (pg_name (i := 3) scLaw.nd rfl (.inr rfl)) (pgs_cons (pg_name (i := 4) scLaw.nd rfl (.inl rfl)) pgs_nil))))
    (pss_cons (ps_set (i := 5) scLaw.nd rfl (.inl rfl) (pe_op op_add pe_int (pe_call G0 hr1 (by rfl) g0 k0 b0 .nil pass0 (pa_cons (pv 1) (pa_cons (pe_ix ix_list (pe_lst (pa_cons pe_int (pa_cons pe_int (pa_cons pe_int (pa_cons (pe_op op_sub (pe_op op_pow pe_int pe_int) pe_int) pa_nil))))) (pv 4) (fun _ _ => rfl)) pa_nil)))))
    (pss_cons (ps_if (PW.pt (pw_or (pt_not (pt_val (pe_callG (E := E0) G9 hr gd (by rfl) g9 k9 b9 (pa_cons (pv 3) (pa_cons (pv 5) pa_nil))))) (pw_or1 (pt_not (pt_val (pe_callG (E := E0) G9 hr gd (by rfl) g9 k9 b9 (pa_cons (pv 3) (pa_cons (pe_callB (call_min2 rfl) (by rfl) T.min (by decide +kernel) (pa_cons (pe_op op_pow pe_int pe_int) (pa_cons (pe_callTy call_int1 (by rfl) T.int (by decide +kernel) (pa_cons (pe_op op_add (pv 5) pe_int) pa_nil)) pa_nil))) pa_nil))))))))
      (pss_one (ps_ret pe_bl)) pss_nil)
    hP))), ?_⟩
  intro D G p L b v0 v2 v3 v4 v5 v6 v7 v8 v9 hb pn hT fin
  refine ⟨_, rfl, p, L, _, rfl, by omega, pn, fun l r H1 o nl hl bt1 p1 => ?_⟩
  obtain ⟨ys, hys⟩ := pn.some
  have T1 := Ev.Tabs.but hT hys bt1
  refine ⟨_, rfl, p, L, _, _, rfl, by decide, by decide, by omega, p1, fun d H2 bt2 p2 d1 d2 => ?_⟩
  obtain ⟨zs, hzs⟩ := p1.some
  have T2 := Ev.Tabs.but T1 hzs bt2
  have hl2 : H2 l = some (.tup (tupR r)) := But.tup hl p1 bt2
  refine ⟨(by show 2 ≤ sizeLine; decide), fun tt ntt => ⟨tt, _, rfl, SqT.of upd_same, rfl, _, _, rfl, _, _, rfl, rfl, ?_⟩⟩
  have st := same_new (o := .tup [V.ref l, .int d]) ntt
  have hl3 := st _ _ hl2
  have p3 := p2.keep st
  have T3 := T2.ext st
  generalize upd H2 tt (.tup [V.ref l, .int d]) = H3 at st hl3 p3 T3 ⊢
  refine ⟨_, rfl, _, _, rfl, rfl, ⟨by decide, by decide, by decide⟩, _, _, rfl, rfl, (by show 4 ≤ sizeLine; decide), fun z nz => ?_⟩
  dsimp only
  have f1 : upd H3 z (.lst [.int 20, .int 60, .int 400, .int (10 ^ Int.toNat 12 - 1)]) z = some (.lst [.int 20, .int 60, .int 400, .int (10 ^ Int.toNat 12 - 1)]) := upd_same
  have sz := same_new (o := .lst [V.int 20, .int 60, .int 400, .int (10 ^ Int.toNat 12 - 1)]) nz
  have hl4 := sz _ _ hl3
  have p4 := p3.keep sz
  have T4 := T3.ext sz
  generalize upd H3 z (.lst [V.int 20, .int 60, .int 400, .int (10 ^ Int.toNat 12 - 1)]) = H4 at f1 sz hl4 p4 T4 ⊢
  obtain ⟨t, ht, t1, t2⟩ : ∃ t : Int, atI [V.int 20, .int 60, .int 400, .int (10 ^ Int.toNat 12 - 1)] d = some (.int t) ∧ 1 ≤ t ∧ t ≤ 10 ^ 12 - 1 := by
    rcases (show d = 0 ∨ d = 1 ∨ d = 2 ∨ d = 3 by omega) with rfl | rfl | rfl | rfl
    · exact ⟨_, atI_nat (j := 0) rfl, by decide, by decide⟩
    · exact ⟨_, atI_nat (j := 1) rfl, by decide, by decide⟩
    · exact ⟨_, atI_nat (j := 2) rfl, by decide, by decide⟩
    · exact ⟨_, atI_nat (j := 3) rfl, by decide, by decide⟩
  refine ⟨_, rfl, z, _, _, _, rfl, rfl, SqL.of f1, ht, p, L, _, _, rfl, by omega, by omega, by omega, p4, fun n H5 bt5 p5 n1 n2 => ?_⟩
  obtain ⟨us, hus⟩ := p4.some
  have T5 := Ev.Tabs.but T4 hus bt5
  have hl5 : H5 l = some (.tup (tupR r)) := But.tup hl4 p4 bt5
  refine ⟨_, _, rfl, rfl, ?_⟩
  refine ⟨_, rfl, _, rfl, l, r, 2 + n, rfl, hl5, o, by omega, by omega, T5, fun H6 x6 T6 => ⟨_, rfl, iteF ?_⟩⟩
  have hl6 := x6 _ _ hl5 (fun _ z => by cases z)
  have p6 := p5.ext x6
  refine ⟨_, rfl, _, _, rfl, rfl, ⟨by decide, by decide, by decide⟩, _, rfl, _, _, rfl, rfl, .inl ⟨_, rfl, _, _, rfl, ?_⟩⟩
  refine ⟨l, r, _, rfl, hl6, o, by split <;> omega, by split <;> omega, T6, fun H7 x7 T7 => ⟨_, rfl, iteF ?_⟩⟩
  have hl7 := x7 _ _ hl6 (fun _ z => by cases z)
  have p7 := p6.ext x7
  exact qP D H7 p L l _ r _ _ _ _ _ _ _ _ (by omega) hl7 o p7 T7 fun G' u6 u7 u8 p' T' => fin G' _ _ _ _ _ _ (p'.mono (by omega)) T'
end
end Ev
namespace Ev
open PySem L2 PySem.Spec PyProof.Rows RZ LamX
def rEnd : Fr := ⟨2, 3, 0, 2, 2⟩
theorem rEnd_ok : rEnd.ok := ⟨by decide, by decide, by decide, by decide, by decide, by decide, by decide, by decide, by decide, by decide⟩
theorem end_fills : rEnd.spFills 6 = [4, 4, 4, 4] := by decide +kernel
theorem end_deed : rEnd.spDeed = "take" := by decide +kernel
theorem end_behind : rEnd.spBehind 6 = [7, 4, 4] := by decide +kernel
def endD : PyData := .tuple [.tuple [.int 4, .int 4, .int 4, .int 4], .str "take", .tuple [.int 7, .int 4, .int 4]]
theorem end_shaped : SeqAt.shaped endD = true := by decide +kernel
theorem end_eqv : PyData.eqv endD endD = true := by decide +kernel
theorem end_dp {K : PySem.W.Frag} {G : Hp} {t a b : Addr} (ht : G t = some (.tup [.ref a, .str "take", .ref b])) (ha : G a = some (.tup [.int 4, .int 4, .int 4, .int 4])) (hb : G b = some (.tup [.int 7, .int 4, .int 4])) : Dp K G (.ref t) endD :=
  .tup (SqT.of ht) (.cons (.tup (SqT.of ha) (dpInts [4, 4, 4, 4])) (.cons (.str _) (.cons (.tup (SqT.of hb) (dpInts [7, 4, 4])) .nil)))
def spLawT (K : PySem.W.Frag) (T1 T2 : Addr) : Sp := fun vs H Q _ => ∃ (a : Addr) (ns : List Int), vs = [.ref a] ∧ SqL K H a (ns.map V.int) ∧ ns.length ≤ 63 ∧ H T1 = some (.tbl #[]) ∧ H T2 = some (.tbl #[]) ∧ ∀ H', Q (.bl true) H'
section
variable {P : Program} {w : World} {K : PySem.W.Frag} {mg : Str → Option Value} {base : Heap}
theorem law_last {f C Cn B N Z S BB NN cc : Addr} {A : Around} {outer : List Env} {s : Shared} {H : Hp} {E : XK} (AS : SpAsk P w K mg base C B N Z S) (FB : FlB P w K mg base C Cn BB NN) (hr : Room 11 (cxOf CX0 P w K mg base nLaw "law" (defScope sLaw) f (.ref cc) A outer s H E).nox.A) :
    ∃ t : TS, PSs (cxOf CX0 P w K mg base nLaw "law" (defScope sLaw) f (.ref cc) A outer s H E).nox ((defBody sLaw).drop 2) t ∧ ∀ (D : Ends) (G : Hp) (v0 v1 v2 v3 v4 v5 v6 v7 v8 v9 : Option V), (∀ G', D.rt (.bl true) G') → t D [v0, v1, v2, v3, v4, v5, v6, v7, v8, v9] G := by
  obtain ⟨f6, fd6, G6, g6, k6, b6, kb6⟩ := AS.sp
  obtain ⟨gC, gN, two, ⟨fI, fdI, gI, M, GI, bI⟩, _⟩ := id FB
  have hr6 := hr.mono (show 6 ≤ 11 by decide)
  have hr8 := hr.mono (show 8 ≤ 11 by decide)
  refine ⟨_, (pss_cons (ps_set (i := 9) scLaw.nd rfl (.inl rfl) (pe_call G6 hr8 (by rfl) g6 k6 b6 .nil (E := E0) passX0 (pa_cons (pe_makeN (n := 1) M GI hr6 (by rfl) gC bI pass0 (pa_cons (pe_tup (pa_cons pe_int (pa_cons pe_int pa_nil))) pa_nil) (pk_cons pe_int pk_nil)) (pa_cons pe_int pa_nil))))
    (pss_one (ps_ret (pe_cmpR (op_eqD (Room.units hr)) (pe_tup (pa_cons (pe_fld (pv 9) rfl) (pa_cons (pe_fld (pv 9) rfl) (pa_cons (pe_fld (pv 9) rfl) pa_nil)))) (pe_tup (pa_cons (pe_tup (pa_cons pe_int (pa_cons pe_int (pa_cons pe_int (pa_cons pe_int pa_nil))))) (pa_cons pe_str (pa_cons (pe_tup (pa_cons pe_int (pa_cons pe_int (pa_cons pe_int pa_nil)))) pa_nil)))) (nomark _))))), ?_⟩
  intro D G v0 v1 v2 v3 v4 v5 v6 v7 v8 v9 fin
  refine ⟨(by show 2 ≤ sizeLine; decide), fun t nt => ?_⟩
  have ht : upd G t (.tup [.int 2, .int 3]) t = some (.tup [.int 2, .int 3]) := upd_same
  generalize upd G t (.tup [.int 2, .int 3]) = H1 at ht ⊢
  refine ⟨rfl, rfl, fun x dx nx ndx nex => mk_fill (r := rEnd) nx ndx ht rEnd_ok fun H2 s2 fa => ⟨rfl, ?_⟩⟩
  refine ⟨.ref x, .int 6, rfl, .inr ⟨x, rEnd, rfl, fa, rEnd_ok, .inl ⟨6, rfl⟩, .inr ⟨6, rfl, by decide, by decide, .inr ⟨by decide +kernel, by decide +kernel, .inr ⟨by decide +kernel, fun y H3 s3 sy => ?_⟩⟩⟩⟩⟩
  obtain ⟨dy, ya, yb, hy, hya, hyb⟩ := sy
  rw [end_fills] at hya
  rw [end_behind] at hyb
  rw [end_deed] at hy
  refine ⟨_, rfl, y, S, dy, _, _, rfl, hy, AS.cl.cl, AS.cl.n2, sf_fills _ _ _ _, _, rfl, y, S, dy, _, _, rfl, hy, AS.cl.cl, AS.cl.n3, sf_deed _ _ _ _, _, rfl, y, S, dy, _, _, rfl, hy, AS.cl.cl, AS.cl.n4, sf_behind _ _ _ _, (by show 3 ≤ sizeLine; decide), fun z nz => ?_⟩
  have hz : upd H3 z (.tup [.ref ya, .str "take", .ref yb]) z = some (.tup [.ref ya, .str "take", .ref yb]) := upd_same
  have s4 : Same H3 (upd H3 z (.tup [.ref ya, .str "take", .ref yb])) := same_new nz
  have hya := s4 _ _ hya
  have hyb := s4 _ _ hyb
  generalize upd H3 z (.tup [.ref ya, .str "take", .ref yb]) = H4 at hz s4 hya hyb ⊢
  refine ⟨(by show 4 ≤ sizeLine; decide), fun a1 n1 => ?_⟩
  have e1 : upd H4 a1 (.tup [.int 4, .int 4, .int 4, .int 4]) a1 = some (.tup [.int 4, .int 4, .int 4, .int 4]) := upd_same
  have g1 : Same H4 (upd H4 a1 (.tup [.int 4, .int 4, .int 4, .int 4])) := same_new n1
  generalize upd H4 a1 (.tup [.int 4, .int 4, .int 4, .int 4]) = H5 at e1 g1 ⊢
  refine ⟨(by show 3 ≤ sizeLine; decide), fun a2 n2 => ?_⟩
  have e2 : upd H5 a2 (.tup [.int 7, .int 4, .int 4]) a2 = some (.tup [.int 7, .int 4, .int 4]) := upd_same
  have g2 : Same H5 (upd H5 a2 (.tup [.int 7, .int 4, .int 4])) := same_new n2
  generalize upd H5 a2 (.tup [.int 7, .int 4, .int 4]) = H6 at e2 g2 ⊢
  refine ⟨(by show 3 ≤ sizeLine; decide), fun a3 n3 => ?_⟩
  have g3 : Same H6 (upd H6 a3 (.tup [.ref a1, .str "take", .ref a2])) := same_new n3
  have gg := g1.trans (g2.trans g3)
  refine ⟨endD, endD, end_dp (gg _ _ hz) (gg _ _ hya) (gg _ _ hyb), end_dp upd_same (g3 _ _ (g2 _ _ e1)) (g3 _ _ e2), end_shaped, end_shaped, ?_⟩
  rw [end_eqv]
  exact fin _
theorem ok_law {f C Cn B N Z S BB NN FE cc fh T1 T2 TT : Addr} {fd fdh : FuncData} {q q1 q2 : Str} (F : Fun K "law" "law" sLaw f fd) (T : Blt mg) (hc : fd.code = .ref cc) (TB : TabB base mg cc TT) (hTL : (TT, q) ∈ [(T1, q1), (T2, q2)]) (hTL2 : ∀ p ∈ [(T1, q1), (T2, q2)], p.1 = TT → p.2 = q)
    (hq : q = (envOfC "law" (defScope sLaw) 0 f (.ref cc)).qual ++ ("<lambda>" : Str)) (HH : HeardB P w K mg B N Z FE fh fdh) (AS : SpAsk P w K mg base C B N Z S) (FB : FlB P w K mg base C Cn BB NN)
    (D : Df P w K mg base 1 "_law_pen" ["_law_script"] (spPen K)) (D0 : Df P w K mg base 1 "_law_draw" ["_law_pen_here", "_law_many"] spDraw) (D1 : Df P w K mg base 2 "_law_pick" ["_law_pen_here", "_law_some"] spPick) (D2 : Df P w K mg base 7 "_law_rule" ["_law_told"] (spLRule C)) (D3 : Df P w K mg base 2 "_law_numbers" ["_law_pen_here"] spLNums)
    {f9 : Addr} {fd9 : FuncData} (G9 : FnG P w K mg base 11 f9 fd9 ["_law_told", "_law_top"] (spRi [(T1, q1), (T2, q2)])) (g9 : mg "_law_right" = some (.ref f9)) (k9 : PySem.W.keepIn K (.ref f9) = true) (b9 : Binds K fd9 ["_law_told", "_law_top"] []) :
    FnG P w K mg base 12 f fd ["_law_script"] (spLawT K T1 T2) := by
  obtain ⟨fp, fdp, Gp, gp, kp, bp⟩ := D.ex
  refine fng_code F scLaw (fun vs H Q E h => ?_) (fun cdv ecd A outer s H vs Q E hr gd h => ?_)
  · obtain ⟨a, ns, rfl, _⟩ := h
    rfl
  · obtain ⟨a, ns, rfl, hS, hlen, hT1, hT2, kk⟩ := h
    obtain rfl : cdv = .ref cc := ecd.symm.trans hc
    have hr1 : Room 1 _ := hr.mono (show 1 ≤ 11 by decide)
    obtain ⟨tB, hB, qB⟩ := lap_all (outer := outer) (s := s) (H := H) (E := E) T TB hTL hTL2 hq HH AS FB D0 D1 D2 D3 G9 g9 k9 b9 hr gd
    obtain ⟨tE, hE, qE⟩ := law_last (outer := outer) (s := s) (H := H) (E := E) AS FB hr
    refine ⟨_, (pss_cons (ps_set (i := 1) scLaw.nd rfl (.inl rfl) (pe_call Gp hr1 (by rfl) gp kp bp .nil pass0 (pa_cons (pv 0) pa_nil)))
      (pss_cons (ps_for PassesOwn.never rfl (pi_range1 (by rfl) T.range (pa_cons pe_int pa_nil)) (pg_name (i := 2) scLaw.nd rfl (.inl rfl)) hB)
      hE)), ?_⟩
    refine ⟨_, rfl, a, ns, rfl, hS, hlen, fun p L H1 np s1 pn0 => ?_⟩
    have tb0 : Tabs [(T1, q1), (T2, q2)] H1 := fun z hz => by
      simp only [List.mem_cons, List.not_mem_nil, or_false] at hz
      rcases hz with rfl | rfl
      · exact TabS.nil (s1 _ _ hT1)
      · exact TabS.nil (s1 _ _ hT2)
    refine ⟨8, rfl, by decide, by decide, for_range (n := 8) (fun i σ H2 => (∃ v2 v3 v4 v5 v6 v7 v8 : Option V, σ = [some (.ref a), some (.ref p), v2, v3, v4, v5, v6, v7, v8, none]) ∧ Pen L H2 p (60 * (i : Int)) ∧ Tabs [(T1, q1), (T2, q2)] H2) ⟨⟨_, _, _, _, _, _, _, rfl⟩, pn0.mono (by decide), tb0⟩ (fun i σ H2 hi h => ?_) (fun σ H2 h => ?_)⟩
    · obtain ⟨⟨v2, v3, v4, v5, v6, v7, v8, rfl⟩, pn, tb⟩ := h
      exact qB _ H2 p L _ _ _ _ _ _ _ _ _ _ (by omega) pn tb fun G' u3 u4 u5 u6 u7 u8 p' T' => ⟨⟨_, _, _, _, _, _, _, rfl⟩, p'.mono (by omega), T'⟩
    · obtain ⟨⟨v2, v3, v4, v5, v6, v7, v8, rfl⟩, pn, tb⟩ := h
      exact qE _ H2 _ _ _ _ _ _ _ _ _ _ fun G' => kk G'
end
end Ev
namespace Ev
open PySem L2 PySem.Spec PyProof.Rows LamX
/-- the table of a code object -/
def tabAt (K : PySem.W.Frag) (c : Addr) : Addr := match K.lookup c with
  | some ⟨_, _, .fields vs, _⟩ => (match (vs[11]? : Option Value) with | some (.ref T) => T | _ => 0)
  | _ => 0
/-! The law's own call, where two other defs make lambdas: the tables of both code objects are told of. -/
section
variable {P : Program} {w : World} {K : PySem.W.Frag} {mg mb : Str → Option Value}
theorem law_callT2 {k : Nat} {fa a c c2 T T2 : Addr} {fd : FuncData} {x : Str} {sp : Sp} {s : Shared} {vs : List Value} {ns : List Int}
    (inK : K.In s.heap) (ns1 : s.heap.Ns mainGlobals mg) (ns2 : s.heap.Ns builtinsNs mb) (blt : ∀ x : Str, x ≠ "__name__" → mb x = bootBuiltins x)
    (noLim : s.heap.NoLimit) (hg : s.gens = #[]) (hT : s.heap.get? T = some { cls := .none, data := .fields #[] }) (nT : K.lookup T = none) (hc : PySem.W.CodeHd s.heap c T)
    (hT2 : s.heap.get? T2 = some { cls := .none, data := .fields #[] }) (nT2 : K.lookup T2 = none) (hc2 : PySem.W.CodeHd s.heap c2 T2) (TT : T ≠ T2)
    (hbm : ∃ (bm : Addr) (ob : Obj), mg "__builtins__" = some (.ref bm) ∧ bm ≠ builtinsNs ∧ s.heap.get? bm = some ob ∧ ob.cls = .type "module" ∧ ob.dict = some builtinsNs ∧ ob.data = .plain)
    (ha : s.heap.get? a = some { cls := .type "list", data := .seq vs.toArray }) (hi : IntsAre vs ns) (hl : ns.length ≤ sizeLine) (hr : Room k callerA)
    (F : ∀ base : Heap, K.In base → base.Ns mainGlobals mg → TabB base mg c T → TabB base mg c2 T2 → FnG P w K mg base k fa fd [x] sp)
    (bt : ∀ (s : Shared) (u : Value), BindsTo s fd ⟨[u], []⟩ [(x, u)])
    (hsp : ∀ H : Hp, H T = some (.tbl #[]) → H T2 = some (.tbl #[]) → SqL K H a (ns.map V.int) → sp [.ref a] H (fun v _ => v = .bl true) fun _ _ _ => False) :
    codeAny (model P w) callerA (.call (.ref fa) ⟨[.ref a], []⟩)
      (fun r s' => r = .ok (.ret (.bool true)) ∧ OldK s.heap s'.heap ∧ s'.os = s.os ∧ AllBare s'.gens) s := by
  have rv := vals_ints hi
  have lv := hi.length
  have aT : a ≠ T := fun z => by
    rw [z, hT] at ha
    cases ha
  have aT2 : a ≠ T2 := fun z => by
    rw [z, hT2] at ha
    cases ha
  have key : ∀ H : Hp, H T = some (.tbl #[]) → H T2 = some (.tbl #[]) → (∀ b u, H b = some u → b ≠ T → b ≠ T2 → b = a ∧ K.lookup a = none ∧ u = .frz { cls := .type "list", data := .seq vs.toArray } (.lst (ns.map V.int))) →
      SqL K H a (ns.map V.int) → codeAny (model P w) callerA (.call (.ref fa) ⟨[.ref a], []⟩)
        (fun r s' => r = .ok (.ret (.bool true)) ∧ OldK s.heap s'.heap ∧ s'.os = s.os ∧ AllBare s'.gens) s := by
    intro H eT eT2 only sq
    have ok : HOk P w H s.heap := by
      intro b u e
      by_cases zb : b = T
      · subst zb
        rw [eT] at e
        cases e
        exact hT
      · by_cases zb2 : b = T2
        · subst zb2
          rw [eT2] at e
          cases e
          exact hT2
        · obtain ⟨rfl, _, rfl⟩ := only b u e zb zb2
          exact ⟨ha, by rw [List.length_map]; exact hl, vs, _, rv, ha⟩
    have plain : ∀ {b : Addr} {o : Obj}, s.heap.get? b = some o → (∀ vs n, o.data ≠ .seq vs n) → o.data ≠ .fields #[] → H b = none := by
      intro b o e d1 d2
      cases q : H b with
      | none => rfl
      | some u =>
        by_cases zb : b = T
        · subst zb
          rw [hT] at e
          cases e
          exact absurd rfl d2
        · by_cases zb2 : b = T2
          · subst zb2
            rw [hT2] at e
            cases e
            exact absurd rfl d2
          · obtain ⟨rfl, _, _⟩ := only b u q zb zb2
            rw [ha] at e
            cases e
            exact absurd rfl (d1 _ _)
    have names : ∀ {b : Addr} {m : Str → Option Value}, s.heap.Ns b m → (hidT s.heap H).Ns b m := by
      rintro b m ⟨o, es, n, e, d, r⟩
      exact ⟨o, es, n, hidT_get e (plain e (fun _ _ z => by rw [d] at z; cases z) fun z => by rw [d] at z; cases z), d, r⟩
    have inB : K.In (hidT s.heap H) := by
      intro b o e
      refine hidT_get (inK b o e) ?_
      cases q : H b with
      | none => rfl
      | some u =>
        by_cases zb : b = T
        · rw [zb, nT] at e
          cases e
        · by_cases zb2 : b = T2
          · rw [zb2, nT2] at e
            cases e
          · obtain ⟨rfl, n, _⟩ := only b u q zb zb2
            rw [n] at e
            cases e
    have tab : ∀ {c T : Addr}, PySem.W.CodeHd s.heap c T → s.heap.get? T = some { cls := .none, data := .fields #[] } → TabB (hidT s.heap H) mg c T := by
      intro c T hc hT
      obtain ⟨bm, ob, b1, b2, b3, b4, b5, b6⟩ := hbm
      refine ⟨?_, ⟨bm, ob, b1, b2, fun q => ?_, fun q => ?_, hidT_get b3 (plain b3 (fun _ _ z => by rw [b6] at z; cases z) fun z => by rw [b6] at z; cases z), b4, b5, b6⟩, fun z => ?_⟩
      · obtain ⟨o, us, file, tf, flags, tg, inF, text, tt, e1, r1, r2, r3, rest⟩ := hc
        refine ⟨o, us, file, tf, flags, tg, inF, text, tt, hidT_get e1 (plain e1 (fun _ _ z => by rw [r2] at z; cases z) fun z => ?_), r1, r2, r3, rest⟩
        rw [r2] at z
        cases z
        simp at r3
      · obtain ⟨o, es, n, e, d, _⟩ := ns1
        rw [q, e] at b3
        cases b3
        rw [d] at b6
        cases b6
      · rw [q, hT] at b3
        cases b3
        cases b6
      · obtain ⟨o, es, n, e, d, _⟩ := ns1
        rw [z, hT] at e
        cases e
        cases d
    obtain ⟨mc, l1, l2⟩ := noLim
    have md : Mod K mg (hidT s.heap H) := ⟨inB, names ns1, ⟨mb, names ns2, blt⟩, ⟨mc, names l1, l2⟩⟩
    have env : Env0 P w K mg (hidT s.heap H) callerA [] s H :=
      ⟨rfl, md, fun b o e => of_hidT e, Nat.le_of_eq (hidT_size _ _), trivial, (fun b hb => by cases hb), ok, .of_eq hg⟩
    have go := (F _ inB (names ns1) (tab hc hT) (tab hc2 hT2)).goes callerA [] s H ⟨[.ref a], []⟩ [.ref a] [.ref a] _ _ hr rfl env (bt s (.ref a)) (.cons rfl .nil) (hsp H eT eT2 sq)
    refine codeAny_mono go fun r s2 h2 => ?_
    cases r with
    | error e => exact False.elim h2
    | ok fl =>
      cases fl with
      | next => exact False.elim h2
      | brk => exact False.elim h2
      | cont => exact False.elim h2
      | ret u =>
        obtain ⟨v, H2, os, bare, un, ok2, rr, q⟩ := h2
        obtain rfl : v = V.bl true := q
        obtain rfl : u = Value.bool true := rr
        have others : ∀ b o, b ≠ T → b ≠ T2 → s.heap.get? b = some o → s2.heap.get? b = some o := by
          intro b o nb nb2 e
          cases q : H b with
          | none => exact un.keep b o e q (by intro z; cases z) (by simp)
          | some u =>
            obtain ⟨rfl, _, rfl⟩ := only b u q nb nb2
            obtain ⟨e1, _⟩ := ok b _ q
            obtain ⟨e2, _⟩ := ok2 b _ (un.frzs b _ _ q)
            rw [e] at e1
            cases e1
            exact e2
        obtain ⟨more, eM⟩ := un.tbls T #[] eT
        have grown : s2.heap.get? T = some { cls := .none, data := .fields (#[] ++ more) } := ok2 T _ eM
        obtain ⟨more2, eM2⟩ := un.tbls T2 #[] eT2
        have grown2 : s2.heap.get? T2 = some { cls := .none, data := .fields (#[] ++ more2) } := ok2 T2 _ eM2
        refine ⟨rfl, ⟨fun b o e => ?_, fun b o e => ?_⟩, os, bare⟩
        · by_cases nb : b = T
          · subst nb
            rw [hT] at e
            cases e
            exact .inr (.inl ⟨(hc.tab hT).isCodeTable, rfl, #[], more, rfl, grown⟩)
          · by_cases nb2 : b = T2
            · subst nb2
              rw [hT2] at e
              cases e
              exact .inr (.inl ⟨(hc2.tab hT2).isCodeTable, rfl, #[], more2, rfl, grown2⟩)
            · exact .inl (others b o nb nb2 e)
        · by_cases nb : b = T
          · subst nb
            exact ⟨_, grown⟩
          · by_cases nb2 : b = T2
            · subst nb2
              exact ⟨_, grown2⟩
            · exact ⟨o, others b o nb nb2 e⟩
  cases hk : K.lookup a with
  | none =>
    refine key (fun b => if b = T then some (.tbl #[]) else if b = T2 then some (.tbl #[]) else if b = a then some (.frz { cls := .type "list", data := .seq vs.toArray } (.lst (ns.map V.int))) else none) (if_pos rfl) ((if_neg TT.symm).trans (if_pos rfl)) (fun b u e nb nb2 => ?_)
      (.inl (.inr ⟨_, (if_neg aT).trans ((if_neg aT2).trans (if_pos rfl))⟩))
    rw [if_neg nb, if_neg nb2] at e
    by_cases z : b = a
    · rw [if_pos z] at e
      cases e
      exact ⟨z, hk, rfl⟩
    · rw [if_neg z] at e
      cases e
  | some o =>
    have e := inK a o hk
    rw [ha] at e
    cases e
    refine key (fun b => if b = T then some (.tbl #[]) else if b = T2 then some (.tbl #[]) else none) (if_pos rfl) ((if_neg TT.symm).trans (if_pos rfl)) (fun b u e nb nb2 => by rw [if_neg nb, if_neg nb2] at e; cases e) (.inr ⟨_, vs.toArray, _, hk, rfl, rfl, rfl, ?_, by simpa using rv⟩)
    rw [List.size_toArray, lv]
    exact hl
end
/-- the law's call, the tables of two other defs' code objects told -/
theorem walk_ofGT2 {l : PySem.W.OpenLaw} {n k : Nat} {q : Program} {loose : List Str} {XP : (Str → Option Value) → Heap → Prop} {YP : World → Heap → Prop}
    {d : DefRec} {x xr xs : Str} (hn : l.most = some n) (hn2 : n ≤ sizeLine) (hdf : d.params.defaults = []) (hr : Room k callerA) (hrec : ((recsOf q).any fun e => e.name == xr) = true) (hrec2 : ((recsOf q).any fun e => e.name == xs) = true)
    (F : ∀ (w : World) (mg : Str → Option Value) (fa : Addr) (h : Heap), YP w h → h.Ns mainGlobals mg → mg d.name = some (.ref fa) →
      ∃ (K : PySem.W.Frag) (fd fdr fds : FuncData) (sp : Sp) (fr c T fs c2 T2 : Addr) (o o2 : Obj), K.In h ∧ (∀ (s : Shared) (u : Value), BindsTo s fd ⟨[u], []⟩ [(x, u)]) ∧
        (mg xr = some (.ref fr) ∧ K.lookup fr = some o ∧ o.data = .func fdr ∧ fdr.code = .ref c ∧ PySem.W.codeHdIn K c T = true ∧ K.lookup T = none) ∧
        (mg xs = some (.ref fs) ∧ K.lookup fs = some o2 ∧ o2.data = .func fds ∧ fds.code = .ref c2 ∧ PySem.W.codeHdIn K c2 T2 = true ∧ K.lookup T2 = none) ∧ T ≠ T2 ∧
        (∀ (H : Hp) (a : Addr) (ns : List Int), ns.length ≤ n → H T = some (.tbl #[]) → H T2 = some (.tbl #[]) → SqL K H a (ns.map V.int) → sp [.ref a] H (fun v _ => v = .bl true) fun _ _ _ => False) ∧
        ∀ base : Heap, K.In base → base.Ns mainGlobals mg → TabB base mg c T → TabB base mg c2 T2 → FnG l.prog w K mg base k fa fd [x] sp) :
    PySem.W.WalkO q loose XP YP l.row.toRowW d [] (fun f vs => PySem.call f vs) := by
  refine Att.attach_callB hn hdf fun w s0 s1 mg mb fa o pm cd doc a vs ns G Y h1 h2 h3 h4 h5 h6 h7 hbits h8 => ?_
  obtain ⟨K, fd, fdr, fds, sp, fr, c, T, fs, c2, T2, o1, o2, inK, bt, ⟨k0, k1, k2, k3, kc, kT⟩, ⟨m0, m1, m2, m3, mc, mT⟩, TT, hsp, hF⟩ := F w mg fa _ Y G.T.g h4
  have get : ∀ {xr : Str} {fr c T : Addr} {o1 : Obj} {fdr : FuncData}, ((recsOf q).any fun e => e.name == xr) = true → mg xr = some (.ref fr) → K.lookup fr = some o1 → o1.data = .func fdr → fdr.code = .ref c → PySem.W.CodeHd s1.heap c T → s1.heap.get? T = some { cls := .none, data := .fields #[] } := by
    intro xr fr c T o1 fdr hrec k0 k1 k2 k3 hc
    obtain ⟨dL, hm, e1⟩ := List.any_eq_true.mp hrec
    obtain ⟨a2, o2, fd2, c2, P2, g1, g2, g3, g4, g5, g6⟩ := G.T.tab dL hm
    rw [beq_iff_eq.mp e1, k0] at g1
    cases g1
    rw [inK _ _ k1] at g2
    cases g2
    rw [k2] at g3
    cases g3
    rw [k3] at g4
    cases g4
    obtain ⟨⟨oc, vc, e1, _, e3, e4⟩, hP⟩ := g6
    obtain ⟨oc', vs', file, tf, flags, tg, inF, text, tt, f1, f2, f3, f4, _⟩ := id hc
    rw [f1] at e1
    cases e1
    rw [f3] at e3
    cases e3
    rw [f4] at e4
    cases e4
    exact hP
  have hc := PySem.W.codeHd_of_K inK kc
  have hc2 := PySem.W.codeHd_of_K inK mc
  exact law_callT2 inK G.T.g G.T.b G.T.builtins G.T.nolimit h8 (get hrec k0 k1 k2 k3 hc) kT hc (get hrec2 m0 m1 m2 m3 hc2) mT hc2 TT G.T.bmain h5 h6 (Nat.le_trans h7 hn2) hr hF bt (fun H eT eT2 sq => hsp H a ns h7 eT eT2 sq)
theorem kit_bty {K : PySem.W.Frag} {t : Value} (h : PySem.W.subIn K t (.type "ValueError") = some true) : PySem.W.kitOne K t (.type "ValueError") = some true := by
  unfold PySem.W.kitOne
  split
  · rfl
  · unfold PySem.W.kitCls
    simp only
    rw [if_pos (by decide +kernel)]
    exact h
theorem walk_ofGTK2 {l : PySem.W.OpenLaw} {n k : Nat} {q : Program} {loose : List Str} {XP : (Str → Option Value) → Heap → Prop} {YP : World → Heap → Prop}
    {d : DefRec} {K : Params → PySem.W.Frag} {x xr xs : Str} (hn : l.most = some n) (hn2 : n ≤ sizeLine) (hdf : d.params.defaults = []) (hr : Room k callerA) (hrec : ((recsOf q).any fun e => e.name == xr) = true) (hrec2 : ((recsOf q).any fun e => e.name == xs) = true)
    (hY : ∀ (w : World) (h : Heap), YP w h → (K w.params).In h)
    (F : ∀ (w : World) (mg : Str → Option Value) (fa : Addr) (h : Heap), (K w.params).In h → h.Ns mainGlobals mg → mg d.name = some (.ref fa) →
      ∃ (fd fdr fds : FuncData) (sp : Sp) (fr c T fs c2 T2 : Addr) (o o2 : Obj), (∀ (s : Shared) (u : Value), BindsTo s fd ⟨[u], []⟩ [(x, u)]) ∧
        (mg xr = some (.ref fr) ∧ (K w.params).lookup fr = some o ∧ o.data = .func fdr ∧ fdr.code = .ref c ∧ PySem.W.codeHdIn (K w.params) c T = true ∧ (K w.params).lookup T = none) ∧
        (mg xs = some (.ref fs) ∧ (K w.params).lookup fs = some o2 ∧ o2.data = .func fds ∧ fds.code = .ref c2 ∧ PySem.W.codeHdIn (K w.params) c2 T2 = true ∧ (K w.params).lookup T2 = none) ∧ T ≠ T2 ∧
        (∀ (H : Hp) (a : Addr) (ns : List Int), ns.length ≤ n → H T = some (.tbl #[]) → H T2 = some (.tbl #[]) → SqL (K w.params) H a (ns.map V.int) → sp [.ref a] H (fun v _ => v = .bl true) fun _ _ _ => False) ∧
        ∀ base : Heap, (K w.params).In base → base.Ns mainGlobals mg → TabB base mg c T → TabB base mg c2 T2 → FnG l.prog w (K w.params) mg base k fa fd [x] sp) :
    PySem.W.WalkO q loose XP YP l.row.toRowW d [] (fun f vs => PySem.call f vs) :=
  walk_ofGT2 hn hn2 hdf hr hrec hrec2 fun w mg fa h Y ns hm => by
    obtain ⟨fd, fdr, fds, sp, fr, c, T, fs, c2, T2, o, o2, r⟩ := F w mg fa h (hY w h Y) ns hm
    exact ⟨K w.params, fd, fdr, fds, sp, fr, c, T, fs, c2, T2, o, o2, hY w h Y, r⟩
theorem kit_clsB {K : PySem.W.Frag} {t : Value} {C : Addr} {b : Bool} (h1 : PySem.W.isClsIn K C = true) (h2 : PySem.W.typeIn K (.ref C) = some (.type "type")) (h3 : PySem.W.subIn K t (.ref C) = some b) : PySem.W.kitCls K t (.ref C) = some b := by
  have h1 : (PySem.W.clsIn K C).isSome = true := h1
  unfold PySem.W.kitCls
  simp only [h1, h2, h3]
  cases b <;> decide
theorem kit_own {K : PySem.W.Frag} {t : Value} {C : Addr} (h1 : PySem.W.isClsIn K C = true) (h2 : PySem.W.typeIn K (.ref C) = some (.type "type")) (h3 : PySem.W.subIn K t (.ref C) = some true) : PySem.W.kitOne K t (.ref C) = some true := by
  unfold PySem.W.kitOne
  split
  · rfl
  · exact kit_clsB h1 h2 h3
theorem kit_not {K : PySem.W.Frag} {D C : Addr} (h1 : PySem.W.isClsIn K C = true) (h2 : PySem.W.typeIn K (.ref C) = some (.type "type")) (h3 : PySem.W.subIn K (.ref D) (.ref C) = some false) (h4 : PySem.W.subIn K (.ref C) (.ref C) = some true) : PySem.W.kitOne K (.ref D) (.ref C) = some false := by
  unfold PySem.W.kitOne
  split
  · rename_i z
    by_cases e : D = C
    · rw [e, h4] at h3
      cases h3
    · have n : ((Value.ref D) == (Value.ref C)) = false := by simp [e]
      rw [n] at z
      cases z
  · exact kit_clsB h1 h2 h3
theorem exm_own {K : PySem.W.Frag} {t : Value} {C : Addr} (h1 : PySem.W.isClsIn K C = true) (h2 : PySem.W.typeIn K (.ref C) = some (.type "type")) (h3 : PySem.W.subIn K t (.ref C) = some true) (h4 : PySem.W.subIn K (.ref C) (.type "BaseException") = some true) : PySem.W.exmOne K t (.ref C) = some true := by
  unfold PySem.W.exmOne
  rw [h4, if_pos (by decide)]
  exact kit_clsB h1 h2 h3
theorem sqT_K {K : PySem.W.Frag} {H : Hp} {a : Addr} {od : Option Addr} {us : List Value} {n : Nat} {sl : Array (Option Value)} {xs : List V} (h : K.lookup a = some ⟨.type "tuple", od, .seq us.toArray n, sl⟩) (hl : xs.length ≤ 1000) (r : Vals xs us) : SqT K H a xs := by
  have hl2 : us.length ≤ 1000 := by rw [← r.length]; exact hl
  exact .inr ⟨_, us.toArray, n, h, rfl, rfl, by rw [List.size_toArray]; exact Nat.le_trans hl2 (by decide), by simpa using r⟩
theorem kb_gMR {K : PySem.W.Frag} {x qual : Str} {st : Stmt} {f : Addr} {fd : FuncData} (F : Fun K x qual st f fd)
    (h : ∀ (kV doc pm : Value) (an : Option Addr) (cdv ct a b : Value), bindArgs (PySem.W.fnOf x qual (defArgs st) (defBody st) (defScope st) .none kV doc pm an cdv ct) ⟨[], (["most", "rule"] : List Str).zip [a, b]⟩ = pure ((["rule", "most"] : List Str).zip [b, a])) : KBinds K fd ["rule", "most"] ["most", "rule"] gMR gMR := by
  obtain ⟨oc, od, kV, doc, pm, an, cdv, ct, osl, rfl, lk, hcd⟩ := F.ex
  refine ⟨fun s us ws _ hl => ?_, gMR_rel⟩
  obtain ⟨a, b, rfl, rfl⟩ := gMR_len hl
  exact .of_eq (h _ _ _ _ _ _ _ _)
theorem fnr_of {P : Program} {w : World} {K : PySem.W.Frag} {mg : Str → Option Value} {base : Heap} {CX : CXT} {k : Nat} {f : Addr} {fd : FuncData} {ps : List Str} {sp : Sp} (F : FnOk P w K mg base CX k f fd ps sp) (b : Binds K fd ps []) : FnR P w K mg base CX k f sp := by
  intro A above s H us vs Q E room env rv hs
  have hl : us.length = ps.length := rv.length.symm.trans (F.len _ _ _ _ hs)
  have bt := b s us (env.mod.kin.keeps fun b o e => (env.bs b o e).1) (by rw [List.append_nil]; exact hl)
  rw [List.append_nil] at bt
  exact F.run A above s H ⟨us, []⟩ us vs Q E room env bt rv hs
set_option maxHeartbeats 4000000 in
theorem all_mk {l : PySem.W.OpenLaw} {w : World} {K : PySem.W.Frag} {h : Heap} {mg : Str → Option Value} {f0 f1 f2 f3 f4 f5 f6 f7 f8 f9 f10 f11 f12 f13 f14 f15 f16 f17 f18 f19 f20 f21 f22 f23 f24 f25 f26 f27 f28 f29 f30 f31 f32 f33 f34 f35 f36 f37 f38 f39 f40 f41 f42 f43 f44 cR f45 cL C Cn S T50 KD50 f50 T55 KD55 f55 f56 f57 CW BR f61 BN f62 NH f63 FE Z TP DB D1 D2 D3 fa : Addr} {od0 an0 od1 an1 od2 an2 od3 an3 od4 an4 od5 an5 od6 an6 od7 an7 od8 an8 od9 an9 od10 an10 od11 an11 od12 an12 od13 an13 od14 an14 od15 an15 od16 an16 od17 an17 od18 an18 od19 an19 od20 an20 od21 an21 od22 an22 od23 an23 od24 an24 od25 an25 od26 an26 od27 an27 od28 an28 od29 an29 od30 an30 od31 an31 od32 an32 od33 an33 od34 an34 od35 an35 od36 an36 od37 an37 od38 an38 od39 an39 od40 an40 od41 an41 od42 an42 od43 an43 od44 an44 od45 an45 td50 od50 an50 td55 od55 an55 od56 an56 od57 an57 od61 an61 od62 an62 od63 an63 odTP odD1 odD2 odD3 : Option Addr} {sl0 sl1 sl2 sl3 sl4 sl5 sl6 sl7 sl8 sl9 sl10 sl11 sl12 sl13 sl14 sl15 sl16 sl17 sl18 sl19 sl20 sl21 sl22 sl23 sl24 sl25 sl26 sl27 sl28 sl29 sl30 sl31 sl32 sl33 sl34 sl35 sl36 sl37 sl38 sl39 sl40 sl41 sl42 sl43 sl44 sl45 ts50 sl50 ts55 sl55 sl56 sl57 sl61 sl62 sl63 slTP slD1 slD2 slD3 : Array (Option Value)} {oc0 dc0 pm0 cd0 ct0 kV0 oc1 dc1 pm1 cd1 ct1 kV1 oc2 dc2 pm2 cd2 ct2 kV2 oc3 dc3 pm3 cd3 ct3 kV3 oc4 dc4 pm4 cd4 ct4 kV4 oc5 dc5 pm5 cd5 ct5 kV5 oc6 dc6 pm6 cd6 ct6 kV6 oc7 dc7 pm7 cd7 ct7 kV7 oc8 dc8 pm8 cd8 ct8 kV8 oc9 dc9 pm9 cd9 ct9 kV9 oc10 dc10 pm10 cd10 ct10 kV10 oc11 dc11 pm11 cd11 ct11 kV11 oc12 dc12 pm12 cd12 ct12 kV12 oc13 dc13 pm13 cd13 ct13 kV13 oc14 dc14 pm14 cd14 ct14 kV14 oc15 dc15 pm15 cd15 ct15 kV15 oc16 dc16 pm16 cd16 ct16 kV16 oc17 dc17 pm17 cd17 ct17 kV17 oc18 dc18 pm18 cd18 ct18 kV18 oc19 dc19 pm19 cd19 ct19 kV19 oc20 dc20 pm20 cd20 ct20 kV20 oc21 dc21 pm21 cd21 ct21 kV21 oc22 dc22 pm22 cd22 ct22 kV22 oc23 dc23 pm23 cd23 ct23 kV23 oc24 dc24 pm24 cd24 ct24 kV24 oc25 dc25 pm25 cd25 ct25 kV25 oc26 dc26 pm26 cd26 ct26 kV26 oc27 dc27 pm27 cd27 ct27 kV27 oc28 dc28 pm28 cd28 ct28 kV28 oc29 dc29 pm29 cd29 ct29 kV29 oc30 dc30 pm30 cd30 ct30 kV30 oc31 dc31 pm31 cd31 ct31 kV31 oc32 dc32 pm32 cd32 ct32 kV32 oc33 dc33 pm33 cd33 ct33 kV33 oc34 dc34 pm34 cd34 ct34 kV34 oc35 dc35 pm35 cd35 ct35 kV35 oc36 dc36 pm36 cd36 ct36 kV36 oc37 dc37 pm37 cd37 ct37 kV37 oc38 dc38 pm38 cd38 ct38 kV38 oc39 dc39 pm39 cd39 ct39 kV39 oc40 dc40 pm40 cd40 ct40 kV40 oc41 dc41 pm41 cd41 ct41 kV41 oc42 dc42 pm42 cd42 ct42 kV42 oc43 dc43 pm43 cd43 ct43 kV43 oc44 dc44 pm44 ct44 kV44 oc45 dc45 pm45 ct45 kV45 tc50 oc50 dc50 pm50 cd50 ct50 tc55 oc55 dc55 pm55 cd55 ct55 oc56 dc56 pm56 cd56 ct56 kV56 oc57 dc57 pm57 cd57 ct57 kV57 oc61 dc61 pm61 cd61 ct61 kV61 oc62 dc62 pm62 cd62 ct62 kV62 oc63 dc63 pm63 cd63 ct63 kV63 : Value} {tt500 tk500 tk501 tt550 tk550 tW tgT tgL tgM tgP tgU tgO tgW uTP0 uTP1 uTP2 uTP3 tkDB0 tkDB1 tkDB2 uD10 uD11 uD20 uD21 uD30 uD31 : Tok} {tn50 tn55 nTP nDB nD1 nD2 nD3 : Nat} {hDB0 hDB1 hDB2 : Int} {nmBR qBR nsBR bsBR bmBR snBR subBR abBR colBR ddBR k0BR k1BR k2BR k3BR k5BR nmBN qBN nsBN bsBN bmBN snBN subBN abBN colBN ddBN k0BN k1BN k2BN k3BN k5BN nmNH qNH nsNH bsNH bmNH snNH subNH abNH colNH ddNH k0NH k1NH k2NH k3NH k5NH : _} (X : K.In h) (G : h.Ns mainGlobals mg) (hfa : mg "law" = some (.ref fa))
    (a0 : PySem.W.nsIn K mainGlobals "is_integer" = some (some (.ref f0)))
    (l0 : K.lookup f0 = some ⟨oc0, od0, .func (PySem.W.fnOf "is_integer" "is_integer" (defArgs sIsInt) (defBody sIsInt) (defScope sIsInt) .none kV0 dc0 pm0 an0 cd0 ct0), sl0⟩)
    (c0 : PySem.W.codeIn K cd0 "is_integer" = true)
    (k0 : PySem.W.keepIn K (.ref f0) = true)
    (a1 : PySem.W.nsIn K mainGlobals "is_within" = some (some (.ref f1)))
    (l1 : K.lookup f1 = some ⟨oc1, od1, .func (PySem.W.fnOf "is_within" "is_within" (defArgs sWithin) (defBody sWithin) (defScope sWithin) .none kV1 dc1 pm1 an1 cd1 ct1), sl1⟩)
    (c1 : PySem.W.codeIn K cd1 "is_within" = true)
    (k1 : PySem.W.keepIn K (.ref f1) = true)
    (a2 : PySem.W.nsIn K mainGlobals "is_pair" = some (some (.ref f2)))
    (l2 : K.lookup f2 = some ⟨oc2, od2, .func (PySem.W.fnOf "is_pair" "is_pair" (defArgs sPair) (defBody sPair) (defScope sPair) .none kV2 dc2 pm2 an2 cd2 ct2), sl2⟩)
    (c2 : PySem.W.codeIn K cd2 "is_pair" = true)
    (k2 : PySem.W.keepIn K (.ref f2) = true)
    (a3 : PySem.W.nsIn K mainGlobals "can_be" = some (some (.ref f3)))
    (l3 : K.lookup f3 = some ⟨oc3, od3, .func (PySem.W.fnOf "can_be" "can_be" (defArgs sCanBe) (defBody sCanBe) (defScope sCanBe) .none kV3 dc3 pm3 an3 cd3 ct3), sl3⟩)
    (c3 : PySem.W.codeIn K cd3 "can_be" = true)
    (k3 : PySem.W.keepIn K (.ref f3) = true)
    (a4 : PySem.W.nsIn K mainGlobals "least_of" = some (some (.ref f4)))
    (l4 : K.lookup f4 = some ⟨oc4, od4, .func (PySem.W.fnOf "least_of" "least_of" (defArgs sLeastOf) (defBody sLeastOf) (defScope sLeastOf) .none kV4 dc4 pm4 an4 cd4 ct4), sl4⟩)
    (c4 : PySem.W.codeIn K cd4 "least_of" = true)
    (k4 : PySem.W.keepIn K (.ref f4) = true)
    (a5 : PySem.W.nsIn K mainGlobals "crucial_of" = some (some (.ref f5)))
    (l5 : K.lookup f5 = some ⟨oc5, od5, .func (PySem.W.fnOf "crucial_of" "crucial_of" (defArgs sCrucialOf) (defBody sCrucialOf) (defScope sCrucialOf) .none kV5 dc5 pm5 an5 cd5 ct5), sl5⟩)
    (c5 : PySem.W.codeIn K cd5 "crucial_of" = true)
    (k5 : PySem.W.keepIn K (.ref f5) = true)
    (a6 : PySem.W.nsIn K mainGlobals "is_right_for" = some (some (.ref f6)))
    (l6 : K.lookup f6 = some ⟨oc6, od6, .func (PySem.W.fnOf "is_right_for" "is_right_for" (defArgs sIsRightFor) (defBody sIsRightFor) (defScope sIsRightFor) .none kV6 dc6 pm6 an6 cd6 ct6), sl6⟩)
    (c6 : PySem.W.codeIn K cd6 "is_right_for" = true)
    (k6 : PySem.W.keepIn K (.ref f6) = true)
    (a7 : PySem.W.nsIn K mainGlobals "dealt" = some (some (.ref f7)))
    (l7 : K.lookup f7 = some ⟨oc7, od7, .func (PySem.W.fnOf "dealt" "dealt" (defArgs sDealt) (defBody sDealt) (defScope sDealt) .none kV7 dc7 pm7 an7 cd7 ct7), sl7⟩)
    (c7 : PySem.W.codeIn K cd7 "dealt" = true)
    (k7 : PySem.W.keepIn K (.ref f7) = true)
    (a8 : PySem.W.nsIn K mainGlobals "page_at" = some (some (.ref f8)))
    (l8 : K.lookup f8 = some ⟨oc8, od8, .func (PySem.W.fnOf "page_at" "page_at" (defArgs sPageAt) (defBody sPageAt) (defScope sPageAt) .none kV8 dc8 pm8 an8 cd8 ct8), sl8⟩)
    (c8 : PySem.W.codeIn K cd8 "page_at" = true)
    (k8 : PySem.W.keepIn K (.ref f8) = true)
    (a9 : PySem.W.nsIn K mainGlobals "page_for" = some (some (.ref f9)))
    (l9 : K.lookup f9 = some ⟨oc9, od9, .func (PySem.W.fnOf "page_for" "page_for" (defArgs sPageFor) (defBody sPageFor) (defScope sPageFor) .none kV9 dc9 pm9 an9 cd9 ct9), sl9⟩)
    (c9 : PySem.W.codeIn K cd9 "page_for" = true)
    (k9 : PySem.W.keepIn K (.ref f9) = true)
    (a10 : PySem.W.nsIn K mainGlobals "behind_put" = some (some (.ref f10)))
    (l10 : K.lookup f10 = some ⟨oc10, od10, .func (PySem.W.fnOf "behind_put" "behind_put" (defArgs sBehindPut) (defBody sBehindPut) (defScope sBehindPut) .none kV10 dc10 pm10 an10 cd10 ct10), sl10⟩)
    (c10 : PySem.W.codeIn K cd10 "behind_put" = true)
    (k10 : PySem.W.keepIn K (.ref f10) = true)
    (a11 : PySem.W.nsIn K mainGlobals "behind_take" = some (some (.ref f11)))
    (l11 : K.lookup f11 = some ⟨oc11, od11, .func (PySem.W.fnOf "behind_take" "behind_take" (defArgs sBehindTake) (defBody sBehindTake) (defScope sBehindTake) .none kV11 dc11 pm11 an11 cd11 ct11), sl11⟩)
    (c11 : PySem.W.codeIn K cd11 "behind_take" = true)
    (k11 : PySem.W.keepIn K (.ref f11) = true)
    (a12 : PySem.W.nsIn K mainGlobals "group_of" = some (some (.ref f12)))
    (l12 : K.lookup f12 = some ⟨oc12, od12, .func (PySem.W.fnOf "group_of" "group_of" (defArgs sGroupOf) (defBody sGroupOf) (defScope sGroupOf) .none kV12 dc12 pm12 an12 cd12 ct12), sl12⟩)
    (c12 : PySem.W.codeIn K cd12 "group_of" = true)
    (k12 : PySem.W.keepIn K (.ref f12) = true)
    (a13 : PySem.W.nsIn K mainGlobals "dealt_anew" = some (some (.ref f13)))
    (l13 : K.lookup f13 = some ⟨oc13, od13, .func (PySem.W.fnOf "dealt_anew" "dealt_anew" (defArgs sDealtAnew) (defBody sDealtAnew) (defScope sDealtAnew) .none kV13 dc13 pm13 an13 cd13 ct13), sl13⟩)
    (c13 : PySem.W.codeIn K cd13 "dealt_anew" = true)
    (k13 : PySem.W.keepIn K (.ref f13) = true)
    (a14 : PySem.W.nsIn K mainGlobals "need_fill_rule" = some (some (.ref f14)))
    (l14 : K.lookup f14 = some ⟨oc14, od14, .func (PySem.W.fnOf "need_fill_rule" "need_fill_rule" (defArgs sNeedFillRule) (defBody sNeedFillRule) (defScope sNeedFillRule) .none kV14 dc14 pm14 an14 cd14 ct14), sl14⟩)
    (c14 : PySem.W.codeIn K cd14 "need_fill_rule" = true)
    (k14 : PySem.W.keepIn K (.ref f14) = true)
    (a15 : PySem.W.nsIn K mainGlobals "need_size" = some (some (.ref f15)))
    (l15 : K.lookup f15 = some ⟨oc15, od15, .func (PySem.W.fnOf "need_size" "need_size" (defArgs sNeedSize) (defBody sNeedSize) (defScope sNeedSize) .none kV15 dc15 pm15 an15 cd15 ct15), sl15⟩)
    (c15 : PySem.W.codeIn K cd15 "need_size" = true)
    (k15 : PySem.W.keepIn K (.ref f15) = true)
    (a16 : PySem.W.nsIn K mainGlobals "need_page_size" = some (some (.ref f16)))
    (l16 : K.lookup f16 = some ⟨oc16, od16, .func (PySem.W.fnOf "need_page_size" "need_page_size" (defArgs sNeedPageSize) (defBody sNeedPageSize) (defScope sNeedPageSize) .none kV16 dc16 pm16 an16 cd16 ct16), sl16⟩)
    (c16 : PySem.W.codeIn K cd16 "need_page_size" = true)
    (k16 : PySem.W.keepIn K (.ref f16) = true)
    (a17 : PySem.W.nsIn K mainGlobals "spill_of" = some (some (.ref f17)))
    (l17 : K.lookup f17 = some ⟨oc17, od17, .func (PySem.W.fnOf "spill_of" "spill_of" (defArgs sSpillOf) (defBody sSpillOf) (defScope sSpillOf) .none kV17 dc17 pm17 an17 cd17 ct17), sl17⟩)
    (c17 : PySem.W.codeIn K cd17 "spill_of" = true)
    (k17 : PySem.W.keepIn K (.ref f17) = true)
    (a18 : PySem.W.nsIn K mainGlobals "kept" = some (some (.ref f18)))
    (l18 : K.lookup f18 = some ⟨oc18, od18, .func (PySem.W.fnOf "kept" "kept" (defArgs sKept) (defBody sKept) (defScope sKept) .none kV18 dc18 pm18 an18 cd18 ct18), sl18⟩)
    (c18 : PySem.W.codeIn K cd18 "kept" = true)
    (k18 : PySem.W.keepIn K (.ref f18) = true)
    (a19 : PySem.W.nsIn K mainGlobals "parts_of" = some (some (.ref f19)))
    (l19 : K.lookup f19 = some ⟨oc19, od19, .func (PySem.W.fnOf "parts_of" "parts_of" (defArgs sParts) (defBody sParts) (defScope sParts) .none kV19 dc19 pm19 an19 cd19 ct19), sl19⟩)
    (c19 : PySem.W.codeIn K cd19 "parts_of" = true)
    (k19 : PySem.W.keepIn K (.ref f19) = true)
    (a20 : PySem.W.nsIn K mainGlobals "is_flat" = some (some (.ref f20)))
    (l20 : K.lookup f20 = some ⟨oc20, od20, .func (PySem.W.fnOf "is_flat" "is_flat" (defArgs sFlat) (defBody sFlat) (defScope sFlat) .none kV20 dc20 pm20 an20 cd20 ct20), sl20⟩)
    (c20 : PySem.W.codeIn K cd20 "is_flat" = true)
    (k20 : PySem.W.keepIn K (.ref f20) = true)
    (a21 : PySem.W.nsIn K mainGlobals "copied_deep" = some (some (.ref f21)))
    (l21 : K.lookup f21 = some ⟨oc21, od21, .func (PySem.W.fnOf "copied_deep" "copied_deep" (defArgs sCopied) (defBody sCopied) (defScope sCopied) .none kV21 dc21 pm21 an21 cd21 ct21), sl21⟩)
    (c21 : PySem.W.codeIn K cd21 "copied_deep" = true)
    (k21 : PySem.W.keepIn K (.ref f21) = true)
    (a22 : PySem.W.nsIn K mainGlobals "rebuilt" = some (some (.ref f22)))
    (l22 : K.lookup f22 = some ⟨oc22, od22, .func (PySem.W.fnOf "rebuilt" "rebuilt" (defArgs sRebuilt) (defBody sRebuilt) (defScope sRebuilt) .none kV22 dc22 pm22 an22 cd22 ct22), sl22⟩)
    (c22 : PySem.W.codeIn K cd22 "rebuilt" = true)
    (k22 : PySem.W.keepIn K (.ref f22) = true)
    (a23 : PySem.W.nsIn K mainGlobals "is_times" = some (some (.ref f23)))
    (l23 : K.lookup f23 = some ⟨oc23, od23, .func (PySem.W.fnOf "is_times" "is_times" (defArgs sTimes) (defBody sTimes) (defScope sTimes) .none kV23 dc23 pm23 an23 cd23 ct23), sl23⟩)
    (c23 : PySem.W.codeIn K cd23 "is_times" = true)
    (k23 : PySem.W.keepIn K (.ref f23) = true)
    (a24 : PySem.W.nsIn K mainGlobals "is_plus" = some (some (.ref f24)))
    (l24 : K.lookup f24 = some ⟨oc24, od24, .func (PySem.W.fnOf "is_plus" "is_plus" (defArgs sPlus) (defBody sPlus) (defScope sPlus) .none kV24 dc24 pm24 an24 cd24 ct24), sl24⟩)
    (c24 : PySem.W.codeIn K cd24 "is_plus" = true)
    (k24 : PySem.W.keepIn K (.ref f24) = true)
    (a25 : PySem.W.nsIn K mainGlobals "is_turn" = some (some (.ref f25)))
    (l25 : K.lookup f25 = some ⟨oc25, od25, .func (PySem.W.fnOf "is_turn" "is_turn" (defArgs sTurn) (defBody sTurn) (defScope sTurn) .none kV25 dc25 pm25 an25 cd25 ct25), sl25⟩)
    (c25 : PySem.W.codeIn K cd25 "is_turn" = true)
    (k25 : PySem.W.keepIn K (.ref f25) = true)
    (a26 : PySem.W.nsIn K mainGlobals "need_times" = some (some (.ref f26)))
    (l26 : K.lookup f26 = some ⟨oc26, od26, .func (PySem.W.fnOf "need_times" "need_times" (defArgs sNeedT) (defBody sNeedT) (defScope sNeedT) .none kV26 dc26 pm26 an26 cd26 ct26), sl26⟩)
    (c26 : PySem.W.codeIn K cd26 "need_times" = true)
    (k26 : PySem.W.keepIn K (.ref f26) = true)
    (a27 : PySem.W.nsIn K mainGlobals "has_halves" = some (some (.ref f27)))
    (l27 : K.lookup f27 = some ⟨oc27, od27, .func (PySem.W.fnOf "has_halves" "has_halves" (defArgs sHalves) (defBody sHalves) (defScope sHalves) .none kV27 dc27 pm27 an27 cd27 ct27), sl27⟩)
    (c27 : PySem.W.codeIn K cd27 "has_halves" = true)
    (k27 : PySem.W.keepIn K (.ref f27) = true)
    (a28 : PySem.W.nsIn K mainGlobals "need_halves" = some (some (.ref f28)))
    (l28 : K.lookup f28 = some ⟨oc28, od28, .func (PySem.W.fnOf "need_halves" "need_halves" (defArgs sNeedH) (defBody sNeedH) (defScope sNeedH) .none kV28 dc28 pm28 an28 cd28 ct28), sl28⟩)
    (c28 : PySem.W.codeIn K cd28 "need_halves" = true)
    (k28 : PySem.W.keepIn K (.ref f28) = true)
    (a29 : PySem.W.nsIn K mainGlobals "_law_pen" = some (some (.ref f29)))
    (l29 : K.lookup f29 = some ⟨oc29, od29, .func (PySem.W.fnOf "_law_pen" "_law_pen" (defArgs sPen) (defBody sPen) (defScope sPen) .none kV29 dc29 pm29 an29 cd29 ct29), sl29⟩)
    (c29 : PySem.W.codeIn K cd29 "_law_pen" = true)
    (k29 : PySem.W.keepIn K (.ref f29) = true)
    (a30 : PySem.W.nsIn K mainGlobals "_law_draw" = some (some (.ref f30)))
    (l30 : K.lookup f30 = some ⟨oc30, od30, .func (PySem.W.fnOf "_law_draw" "_law_draw" (defArgs sDraw) (defBody sDraw) (defScope sDraw) .none kV30 dc30 pm30 an30 cd30 ct30), sl30⟩)
    (c30 : PySem.W.codeIn K cd30 "_law_draw" = true)
    (k30 : PySem.W.keepIn K (.ref f30) = true)
    (a31 : PySem.W.nsIn K mainGlobals "_law_pick" = some (some (.ref f31)))
    (l31 : K.lookup f31 = some ⟨oc31, od31, .func (PySem.W.fnOf "_law_pick" "_law_pick" (defArgs sPick) (defBody sPick) (defScope sPick) .none kV31 dc31 pm31 an31 cd31 ct31), sl31⟩)
    (c31 : PySem.W.codeIn K cd31 "_law_pick" = true)
    (k31 : PySem.W.keepIn K (.ref f31) = true)
    (a32 : PySem.W.nsIn K mainGlobals "_law_numbers" = some (some (.ref f32)))
    (l32 : K.lookup f32 = some ⟨oc32, od32, .func (PySem.W.fnOf "_law_numbers" "_law_numbers" (defArgs sLNumbers) (defBody sLNumbers) (defScope sLNumbers) .none kV32 dc32 pm32 an32 cd32 ct32), sl32⟩)
    (c32 : PySem.W.codeIn K cd32 "_law_numbers" = true)
    (k32 : PySem.W.keepIn K (.ref f32) = true)
    (a33 : PySem.W.nsIn K mainGlobals "_law_rule" = some (some (.ref f33)))
    (l33 : K.lookup f33 = some ⟨oc33, od33, .func (PySem.W.fnOf "_law_rule" "_law_rule" (defArgs sLRule) (defBody sLRule) (defScope sLRule) .none kV33 dc33 pm33 an33 cd33 ct33), sl33⟩)
    (c33 : PySem.W.codeIn K cd33 "_law_rule" = true)
    (k33 : PySem.W.keepIn K (.ref f33) = true)
    (a34 : PySem.W.nsIn K mainGlobals "_law_heard" = some (some (.ref f34)))
    (l34 : K.lookup f34 = some ⟨oc34, od34, .func (PySem.W.fnOf "_law_heard" "_law_heard" (defArgs sHeard) (defBody sHeard) (defScope sHeard) .none kV34 dc34 pm34 an34 cd34 ct34), sl34⟩)
    (c34 : PySem.W.codeIn K cd34 "_law_heard" = true)
    (k34 : PySem.W.keepIn K (.ref f34) = true)
    (a35 : PySem.W.nsIn K mainGlobals "_law_least" = some (some (.ref f35)))
    (l35 : K.lookup f35 = some ⟨oc35, od35, .func (PySem.W.fnOf "_law_least" "_law_least" (defArgs sLLeast) (defBody sLLeast) (defScope sLLeast) .none kV35 dc35 pm35 an35 cd35 ct35), sl35⟩)
    (c35 : PySem.W.codeIn K cd35 "_law_least" = true)
    (k35 : PySem.W.keepIn K (.ref f35) = true)
    (a36 : PySem.W.nsIn K mainGlobals "_law_is_right" = some (some (.ref f36)))
    (l36 : K.lookup f36 = some ⟨oc36, od36, .func (PySem.W.fnOf "_law_is_right" "_law_is_right" (defArgs sLIsRight) (defBody sLIsRight) (defScope sLIsRight) .none kV36 dc36 pm36 an36 cd36 ct36), sl36⟩)
    (c36 : PySem.W.codeIn K cd36 "_law_is_right" = true)
    (k36 : PySem.W.keepIn K (.ref f36) = true)
    (a37 : PySem.W.nsIn K mainGlobals "_law_dealt" = some (some (.ref f37)))
    (l37 : K.lookup f37 = some ⟨oc37, od37, .func (PySem.W.fnOf "_law_dealt" "_law_dealt" (defArgs sLDealt) (defBody sLDealt) (defScope sLDealt) .none kV37 dc37 pm37 an37 cd37 ct37), sl37⟩)
    (c37 : PySem.W.codeIn K cd37 "_law_dealt" = true)
    (k37 : PySem.W.keepIn K (.ref f37) = true)
    (a38 : PySem.W.nsIn K mainGlobals "_law_page" = some (some (.ref f38)))
    (l38 : K.lookup f38 = some ⟨oc38, od38, .func (PySem.W.fnOf "_law_page" "_law_page" (defArgs sLPage) (defBody sLPage) (defScope sLPage) .none kV38 dc38 pm38 an38 cd38 ct38), sl38⟩)
    (c38 : PySem.W.codeIn K cd38 "_law_page" = true)
    (k38 : PySem.W.keepIn K (.ref f38) = true)
    (a39 : PySem.W.nsIn K mainGlobals "_law_grouped" = some (some (.ref f39)))
    (l39 : K.lookup f39 = some ⟨oc39, od39, .func (PySem.W.fnOf "_law_grouped" "_law_grouped" (defArgs sLGrouped) (defBody sLGrouped) (defScope sLGrouped) .none kV39 dc39 pm39 an39 cd39 ct39), sl39⟩)
    (c39 : PySem.W.codeIn K cd39 "_law_grouped" = true)
    (k39 : PySem.W.keepIn K (.ref f39) = true)
    (a40 : PySem.W.nsIn K mainGlobals "_law_put" = some (some (.ref f40)))
    (l40 : K.lookup f40 = some ⟨oc40, od40, .func (PySem.W.fnOf "_law_put" "_law_put" (defArgs sLPut) (defBody sLPut) (defScope sLPut) .none kV40 dc40 pm40 an40 cd40 ct40), sl40⟩)
    (c40 : PySem.W.codeIn K cd40 "_law_put" = true)
    (k40 : PySem.W.keepIn K (.ref f40) = true)
    (a41 : PySem.W.nsIn K mainGlobals "_law_take" = some (some (.ref f41)))
    (l41 : K.lookup f41 = some ⟨oc41, od41, .func (PySem.W.fnOf "_law_take" "_law_take" (defArgs sLTake) (defBody sLTake) (defScope sLTake) .none kV41 dc41 pm41 an41 cd41 ct41), sl41⟩)
    (c41 : PySem.W.codeIn K cd41 "_law_take" = true)
    (k41 : PySem.W.keepIn K (.ref f41) = true)
    (a42 : PySem.W.nsIn K mainGlobals "_law_keeps" = some (some (.ref f42)))
    (l42 : K.lookup f42 = some ⟨oc42, od42, .func (PySem.W.fnOf "_law_keeps" "_law_keeps" (defArgs sLKeeps) (defBody sLKeeps) (defScope sLKeeps) .none kV42 dc42 pm42 an42 cd42 ct42), sl42⟩)
    (c42 : PySem.W.codeIn K cd42 "_law_keeps" = true)
    (k42 : PySem.W.keepIn K (.ref f42) = true)
    (a43 : PySem.W.nsIn K mainGlobals "_law_due" = some (some (.ref f43)))
    (l43 : K.lookup f43 = some ⟨oc43, od43, .func (PySem.W.fnOf "_law_due" "_law_due" (defArgs sLDue) (defBody sLDue) (defScope sLDue) .none kV43 dc43 pm43 an43 cd43 ct43), sl43⟩)
    (c43 : PySem.W.codeIn K cd43 "_law_due" = true)
    (k43 : PySem.W.keepIn K (.ref f43) = true)
    (a44 : PySem.W.nsIn K mainGlobals "_law_right" = some (some (.ref f44)))
    (l44 : K.lookup f44 = some ⟨oc44, od44, .func (PySem.W.fnOf "_law_right" "_law_right" (defArgs sLRight) (defBody sLRight) (defScope sLRight) .none kV44 dc44 pm44 an44 (.ref cR) ct44), sl44⟩)
    (c44 : PySem.W.codeIn K (.ref cR) "_law_right" = true)
    (k44 : PySem.W.keepIn K (.ref f44) = true)
    (a45 : PySem.W.nsIn K mainGlobals "law" = some (some (.ref f45)))
    (l45 : K.lookup f45 = some ⟨oc45, od45, .func (PySem.W.fnOf "law" "law" (defArgs sLaw) (defBody sLaw) (defScope sLaw) .none kV45 dc45 pm45 an45 (.ref cL) ct45), sl45⟩)
    (c45 : PySem.W.codeIn K (.ref cL) "law" = true)
    (k45 : PySem.W.keepIn K (.ref f45) = true)
    (aC : PySem.W.nsIn K mainGlobals "FillRule" = some (some (.ref C)))
    (pgC : PySem.W.plainGet K C Str.empty = true)
    (hdC : PySem.W.hasDictIn K C = true)
    (poC : PySem.W.plainOver K C = true)
    (saC : PySem.W.findIn K (.ref C) "__setattr__" = some (some (.builtin "object.__setattr__")))
    (mkC : PySem.W.makesIn K C = true)
    (kcC : PySem.W.keepIn K (.ref C) = true)
    (n0C : PySem.W.findIn K (.ref C) "times" = some none)
    (n1C : PySem.W.findIn K (.ref C) "plus" = some none)
    (n2C : PySem.W.findIn K (.ref C) "cut_of" = some none)
    (n3C : PySem.W.findIn K (.ref C) "join_of" = some none)
    (n4C : PySem.W.findIn K (.ref C) "width" = some none)
    (aCn : PySem.W.nsIn K mainGlobals "TurnRule" = some (some (.ref Cn)))
    (pgCn : PySem.W.plainGet K Cn Str.empty = true)
    (hdCn : PySem.W.hasDictIn K Cn = true)
    (poCn : PySem.W.plainOver K Cn = true)
    (saCn : PySem.W.findIn K (.ref Cn) "__setattr__" = some (some (.builtin "object.__setattr__")))
    (mkCn : PySem.W.makesIn K Cn = true)
    (kcCn : PySem.W.keepIn K (.ref Cn) = true)
    (n0Cn : PySem.W.findIn K (.ref Cn) "times" = some none)
    (n1Cn : PySem.W.findIn K (.ref Cn) "plus" = some none)
    (n2Cn : PySem.W.findIn K (.ref Cn) "turn" = some none)
    (n3Cn : PySem.W.findIn K (.ref Cn) "turn_plus" = some none)
    (aS : PySem.W.nsIn K mainGlobals "Spill" = some (some (.ref S)))
    (pgS : PySem.W.plainGet K S Str.empty = true)
    (hdS : PySem.W.hasDictIn K S = true)
    (poS : PySem.W.plainOver K S = true)
    (saS : PySem.W.findIn K (.ref S) "__setattr__" = some (some (.builtin "object.__setattr__")))
    (mkS : PySem.W.makesIn K S = true)
    (kcS : PySem.W.keepIn K (.ref S) = true)
    (n0S : PySem.W.findIn K (.ref S) "most" = some none)
    (n1S : PySem.W.findIn K (.ref S) "fills" = some none)
    (n2S : PySem.W.findIn K (.ref S) "deed" = some none)
    (n3S : PySem.W.findIn K (.ref S) "behind" = some none)
    (hcC : PySem.W.findIn K (.ref C) "__class__" = some (some (.builtin "object.__class__")))
    (moC : PySem.W.mroIn K C (.type "object") = some true)
    (icC : PySem.W.isClsIn K C = true)
    (ttC : PySem.W.typeIn K (.ref C) = some (.type "type"))
    (hcCn : PySem.W.findIn K (.ref Cn) "__class__" = some (some (.builtin "object.__class__")))
    (moCn : PySem.W.mroIn K Cn (.type "object") = some true)
    (icCn : PySem.W.isClsIn K Cn = true)
    (ttCn : PySem.W.typeIn K (.ref Cn) = some (.type "type"))
    (hcS : PySem.W.findIn K (.ref S) "__class__" = some (some (.builtin "object.__class__")))
    (moS : PySem.W.mroIn K S (.type "object") = some true)
    (icS : PySem.W.isClsIn K S = true)
    (ttS : PySem.W.typeIn K (.ref S) = some (.type "type"))
    (snC : PySem.W.subIn K (.ref Cn) (.ref C) = some false)
    (ssC : PySem.W.subIn K (.ref C) (.ref C) = some true)
    (ikn : PySem.W.specialIn K (.builtin "object.__class__") "__get__" = some (some (.builtin "getset_descriptor.__get__")))
    (ikt : PySem.W.takesIn K (.builtin "object.__class__") = some true)
    (m50 : PySem.W.findIn K (.ref C) "__init__" = some (some (.ref f50)))
    (i50 : PySem.W.isFn K (.ref f50) = true)
    (l50 : K.lookup f50 = some ⟨oc50, od50, .func (PySem.W.fnOf "__init__" "FillRule.__init__" (defArgs sFillRule_init) (defBody sFillRule_init) (defScope sFillRule_init) (.ref T50) (.ref KD50) dc50 pm50 an50 cd50 ct50), sl50⟩)
    (c50 : PySem.W.codeIn K cd50 "FillRule.__init__" = true)
    (k50 : PySem.W.keepIn K (.ref f50) = true)
    (t50 : K.lookup T50 = some ⟨tc50, td50, .seq #[Value.int 0 tt500] tn50, ts50⟩)
    (kd500 : PySem.W.nsIn K KD50 "cut_of" = some (some (.int 1 tk500)))
    (kd501 : PySem.W.nsIn K KD50 "join_of" = some (some (.int 2 tk501)))
    (m55 : PySem.W.findIn K (.ref Cn) "__init__" = some (some (.ref f55)))
    (i55 : PySem.W.isFn K (.ref f55) = true)
    (l55 : K.lookup f55 = some ⟨oc55, od55, .func (PySem.W.fnOf "__init__" "TurnRule.__init__" (defArgs sTurnInit) (defBody sTurnInit) (defScope sTurnInit) (.ref T55) (.ref KD55) dc55 pm55 an55 cd55 ct55), sl55⟩)
    (c55 : PySem.W.codeIn K cd55 "TurnRule.__init__" = true)
    (k55 : PySem.W.keepIn K (.ref f55) = true)
    (t55 : K.lookup T55 = some ⟨tc55, td55, .seq #[Value.int 0 tt550] tn55, ts55⟩)
    (kd550 : PySem.W.nsIn K KD55 "turn_plus" = some (some (.int 0 tk550)))
    (m56 : PySem.W.findIn K (.ref S) "__init__" = some (some (.ref f56)))
    (i56 : PySem.W.isFn K (.ref f56) = true)
    (l56 : K.lookup f56 = some ⟨oc56, od56, .func (PySem.W.fnOf "__init__" "Spill.__init__" (defArgs sSpill_init) (defBody sSpill_init) (defScope sSpill_init) .none kV56 dc56 pm56 an56 cd56 ct56), sl56⟩)
    (c56 : PySem.W.codeIn K cd56 "Spill.__init__" = true)
    (k56 : PySem.W.keepIn K (.ref f56) = true)
    (m57 : PySem.W.findIn K (.ref S) "__eq__" = some (some (.ref f57)))
    (i57 : PySem.W.isFn K (.ref f57) = true)
    (l57 : K.lookup f57 = some ⟨oc57, od57, .func (PySem.W.fnOf "__eq__" "Spill.__eq__" (defArgs sSpill_eq) (defBody sSpill_eq) (defScope sSpill_eq) .none kV57 dc57 pm57 an57 cd57 ct57), sl57⟩)
    (c57 : PySem.W.codeIn K cd57 "Spill.__eq__" = true)
    (k57 : PySem.W.keepIn K (.ref f57) = true)
    (aCW : PySem.W.nsIn K mainGlobals "WeightRule" = some (some (.ref CW)))
    (rdW : PySem.W.readsIn K CW (.type "type") = true)
    (gaW : PySem.W.specialIn K (.ref CW) "__getattribute__" = some (some (.builtin "type.__getattribute__")))
    (cvW : PySem.W.findCls K (.ref CW) (.type "type") "MOST" = some (.val (.int 6 tW)))
    (aBR : PySem.W.nsIn K mainGlobals "BadRule" = some (some (.ref BR)))
    (icBR : PySem.W.isClsIn K BR = true)
    (ttBR : PySem.W.typeIn K (.ref BR) = some (.type "type"))
    (gaBR : PySem.W.findIn K (.ref BR) "__getattribute__" = some (some (.builtin "BaseException.__getattribute__")))
    (ggBR : PySem.W.findIn K (.ref BR) "__getattr__" = some none)
    (hdBR : PySem.W.hasDictIn K BR = true)
    (hcBR : PySem.W.findIn K (.ref BR) "__class__" = some (some (.builtin "object.__class__")))
    (moBR : PySem.W.mroIn K BR (.type "object") = some true)
    (saBR : PySem.W.findIn K (.ref BR) "__setattr__" = some (some (.builtin "object.__setattr__")))
    (exBR : PySem.W.subIn K (.ref BR) (.type "BaseException") = some true)
    (keBR : PySem.W.keepIn K (.ref BR) = true)
    (vEBR : PySem.W.subIn K (.ref BR) (.type "ValueError") = some true)
    (sSBR : PySem.W.subIn K (.ref BR) (.ref BR) = some true)
    (no0BR : PySem.W.findIn K (.ref BR) "part" = some none)
    (lxBR : K.lookup BR = some (excClassObj nmBR qBR BR nsBR bsBR bmBR true snBR subBR abBR colBR ddBR k0BR k1BR k2BR k3BR k5BR "ValueError.__new__"))
    (rxBR : PySem.HandSPX.refsVE bmBR = true)
    (m61 : PySem.W.findIn K (.ref BR) "__init__" = some (some (.ref f61)))
    (l61 : K.lookup f61 = some ⟨oc61, od61, .func (PySem.W.fnOf "__init__" "BadRule.__init__" (defArgs sBRInit) (defBody sBRInit) (defScope sBRInit) .none kV61 dc61 pm61 an61 cd61 ct61), sl61⟩)
    (c61 : PySem.W.codeIn K cd61 "BadRule.__init__" = true)
    (k61 : PySem.W.keepIn K (.ref f61) = true)
    (ty61 : PySem.W.typeIn K (.ref f61) = some (.type "function"))
    (aBN : PySem.W.nsIn K mainGlobals "BadNumber" = some (some (.ref BN)))
    (icBN : PySem.W.isClsIn K BN = true)
    (ttBN : PySem.W.typeIn K (.ref BN) = some (.type "type"))
    (gaBN : PySem.W.findIn K (.ref BN) "__getattribute__" = some (some (.builtin "BaseException.__getattribute__")))
    (ggBN : PySem.W.findIn K (.ref BN) "__getattr__" = some none)
    (hdBN : PySem.W.hasDictIn K BN = true)
    (hcBN : PySem.W.findIn K (.ref BN) "__class__" = some (some (.builtin "object.__class__")))
    (moBN : PySem.W.mroIn K BN (.type "object") = some true)
    (saBN : PySem.W.findIn K (.ref BN) "__setattr__" = some (some (.builtin "object.__setattr__")))
    (exBN : PySem.W.subIn K (.ref BN) (.type "BaseException") = some true)
    (keBN : PySem.W.keepIn K (.ref BN) = true)
    (vEBN : PySem.W.subIn K (.ref BN) (.type "ValueError") = some true)
    (sSBN : PySem.W.subIn K (.ref BN) (.ref BN) = some true)
    (no0BN : PySem.W.findIn K (.ref BN) "value" = some none)
    (lxBN : K.lookup BN = some (excClassObj nmBN qBN BN nsBN bsBN bmBN true snBN subBN abBN colBN ddBN k0BN k1BN k2BN k3BN k5BN "ValueError.__new__"))
    (rxBN : PySem.HandSPX.refsVE bmBN = true)
    (m62 : PySem.W.findIn K (.ref BN) "__init__" = some (some (.ref f62)))
    (l62 : K.lookup f62 = some ⟨oc62, od62, .func (PySem.W.fnOf "__init__" "BadNumber.__init__" (defArgs sBNInit) (defBody sBNInit) (defScope sBNInit) .none kV62 dc62 pm62 an62 cd62 ct62), sl62⟩)
    (c62 : PySem.W.codeIn K cd62 "BadNumber.__init__" = true)
    (k62 : PySem.W.keepIn K (.ref f62) = true)
    (ty62 : PySem.W.typeIn K (.ref f62) = some (.type "function"))
    (aNH : PySem.W.nsIn K mainGlobals "NoHalves" = some (some (.ref NH)))
    (icNH : PySem.W.isClsIn K NH = true)
    (ttNH : PySem.W.typeIn K (.ref NH) = some (.type "type"))
    (gaNH : PySem.W.findIn K (.ref NH) "__getattribute__" = some (some (.builtin "BaseException.__getattribute__")))
    (ggNH : PySem.W.findIn K (.ref NH) "__getattr__" = some none)
    (hdNH : PySem.W.hasDictIn K NH = true)
    (hcNH : PySem.W.findIn K (.ref NH) "__class__" = some (some (.builtin "object.__class__")))
    (moNH : PySem.W.mroIn K NH (.type "object") = some true)
    (saNH : PySem.W.findIn K (.ref NH) "__setattr__" = some (some (.builtin "object.__setattr__")))
    (exNH : PySem.W.subIn K (.ref NH) (.type "BaseException") = some true)
    (keNH : PySem.W.keepIn K (.ref NH) = true)
    (vENH : PySem.W.subIn K (.ref NH) (.type "ValueError") = some true)
    (sSNH : PySem.W.subIn K (.ref NH) (.ref NH) = some true)
    (no0NH : PySem.W.findIn K (.ref NH) "weight" = some none)
    (lxNH : K.lookup NH = some (excClassObj nmNH qNH NH nsNH bsNH bmNH true snNH subNH abNH colNH ddNH k0NH k1NH k2NH k3NH k5NH "ValueError.__new__"))
    (rxNH : PySem.HandSPX.refsVE bmNH = true)
    (m63 : PySem.W.findIn K (.ref NH) "__init__" = some (some (.ref f63)))
    (l63 : K.lookup f63 = some ⟨oc63, od63, .func (PySem.W.fnOf "__init__" "NoHalves.__init__" (defArgs sNHInit) (defBody sNHInit) (defScope sNHInit) .none kV63 dc63 pm63 an63 cd63 ct63), sl63⟩)
    (c63 : PySem.W.codeIn K cd63 "NoHalves.__init__" = true)
    (k63 : PySem.W.keepIn K (.ref f63) = true)
    (ty63 : PySem.W.typeIn K (.ref f63) = some (.type "function"))
    (aFE : PySem.W.nsIn K mainGlobals "FairError" = some (some (.ref FE)))
    (icFE : PySem.W.isClsIn K FE = true)
    (ttFE : PySem.W.typeIn K (.ref FE) = some (.type "type"))
    (suRF : PySem.W.subIn K (.ref BR) (.ref FE) = some true)
    (suNF : PySem.W.subIn K (.ref BN) (.ref FE) = some true)
    (suFX : PySem.W.subIn K (.ref FE) (.type "BaseException") = some true)
    (aZ : PySem.W.nsIn K mainGlobals "Nothing" = some (some (.ref Z)))
    (icZ : PySem.W.isClsIn K Z = true)
    (ttZ : PySem.W.typeIn K (.ref Z) = some (.type "type"))
    (gaZ : PySem.W.findIn K (.ref Z) "__getattribute__" = some (some (.builtin "BaseException.__getattribute__")))
    (ggZ : PySem.W.findIn K (.ref Z) "__getattr__" = some none)
    (hdZ : PySem.W.hasDictIn K Z = true)
    (hcZ : PySem.W.findIn K (.ref Z) "__class__" = some (some (.builtin "object.__class__")))
    (moZ : PySem.W.mroIn K Z (.type "object") = some true)
    (exZ : PySem.W.subIn K (.ref Z) (.type "BaseException") = some true)
    (keZ : PySem.W.keepIn K (.ref Z) = true)
    (sSZ : PySem.W.subIn K (.ref Z) (.ref Z) = some true)
    (qZ : PySem.W.excIn K Z veTail "ValueError.__new__" = true)
    (suZF : PySem.W.subIn K (.ref Z) (.ref FE) = some true)
    (nRZ : PySem.W.subIn K (.ref BR) (.ref Z) = some false)
    (nZR : PySem.W.subIn K (.ref Z) (.ref BR) = some false)
    (nNZ : PySem.W.subIn K (.ref BN) (.ref Z) = some false)
    (nZN : PySem.W.subIn K (.ref Z) (.ref BN) = some false)
    (nRN : PySem.W.subIn K (.ref BR) (.ref BN) = some false)
    (nNR : PySem.W.subIn K (.ref BN) (.ref BR) = some false)
    (hgT : PySem.W.nsIn K mainGlobals "MOST_TIMES" = some (some (.int 12 tgT)))
    (hgL : PySem.W.nsIn K mainGlobals "LEAST_SIZE" = some (some (.int 2 tgL)))
    (hgM : PySem.W.nsIn K mainGlobals "MOST_SIZE" = some (some (.int 1000000000000 tgM)))
    (hgP : PySem.W.nsIn K mainGlobals "MOST_PLUS" = some (some (.int 6 tgP)))
    (hgU : PySem.W.nsIn K mainGlobals "MOST_TURN" = some (some (.int 8 tgU)))
    (hgO : PySem.W.nsIn K mainGlobals "MORE" = some (some (.str "more" tgO)))
    (hgW : PySem.W.nsIn K mainGlobals "FEWER" = some (some (.str "fewer" tgW)))
    (aTP : PySem.W.nsIn K mainGlobals "PARTS" = some (some (.ref TP)))
    (lTP : K.lookup TP = some ⟨.type "tuple", odTP, .seq #[.str "times" uTP0, .str "plus" uTP1, .str "cut_of" uTP2, .str "join_of" uTP3] nTP, slTP⟩)
    (aDB : PySem.W.nsIn K mainGlobals "BOUNDS" = some (some (.ref DB)))
    (lDB : K.lookup DB = some ⟨.type "dict", none, .dict #[⟨hDB0, .str "plus" tkDB0, .ref D1⟩, ⟨hDB1, .str "cut_of" tkDB1, .ref D2⟩, ⟨hDB2, .str "join_of" tkDB2, .ref D3⟩] nDB, #[]⟩)
    (hkDB0 : hDB0 = PyData.keyHash w.params "plus")
    (nsDB0 : PySem.W.nsIn K DB "plus" = some (some (.ref D1)))
    (hkDB1 : hDB1 = PyData.keyHash w.params "cut_of")
    (nsDB1 : PySem.W.nsIn K DB "cut_of" = some (some (.ref D2)))
    (hkDB2 : hDB2 = PyData.keyHash w.params "join_of")
    (nsDB2 : PySem.W.nsIn K DB "join_of" = some (some (.ref D3)))
    (lowDB : (DB == sysModules) = false)
    (lD1 : K.lookup D1 = some ⟨.type "tuple", odD1, .seq #[.int (-12) uD10, .int 12 uD11] nD1, slD1⟩)
    (lD2 : K.lookup D2 = some ⟨.type "tuple", odD2, .seq #[.int 1 uD20, .int 5 uD21] nD2, slD2⟩)
    (lD3 : K.lookup D3 = some ⟨.type "tuple", odD3, .seq #[.int 2 uD30, .int 6 uD31] nD3, slD3⟩)
    (hdcR : PySem.W.codeHdIn K cR (tabAt K cR) = true)
    (nocR : K.lookup (tabAt K cR) = none)
    (neqT : (tabAt K cR == tabAt K cL) = false)
    (hdcL : PySem.W.codeHdIn K cL (tabAt K cL) = true)
    (nocL : K.lookup (tabAt K cL) = none)
    (zint : PySem.W.nsIn K mainGlobals "int" = some none)
    (zlen : PySem.W.nsIn K mainGlobals "len" = some none)
    (zabs : PySem.W.nsIn K mainGlobals "abs" = some none)
    (zlist : PySem.W.nsIn K mainGlobals "list" = some none)
    (zmin : PySem.W.nsIn K mainGlobals "min" = some none)
    (zmax : PySem.W.nsIn K mainGlobals "max" = some none)
    (zisinstance : PySem.W.nsIn K mainGlobals "isinstance" = some none)
    (zbool : PySem.W.nsIn K mainGlobals "bool" = some none)
    (ztuple : PySem.W.nsIn K mainGlobals "tuple" = some none)
    (zall : PySem.W.nsIn K mainGlobals "all" = some none)
    (zrange : PySem.W.nsIn K mainGlobals "range" = some none)
    (zrepr : PySem.W.nsIn K mainGlobals "repr" = some none)
    (zany : PySem.W.nsIn K mainGlobals "any" = some none)
    (zdict : PySem.W.nsIn K mainGlobals "dict" = some none)
    (zzip : PySem.W.nsIn K mainGlobals "zip" = some none)
    (zsum : PySem.W.nsIn K mainGlobals "sum" = some none)
    (zdivmod : PySem.W.nsIn K mainGlobals "divmod" = some none) :
    ∃ (fd fdr fds : FuncData) (sp : Sp) (fr c T fs c2 T2 : Addr) (o o2 : Obj), (∀ (s : Shared) (u : Value), BindsTo s fd ⟨[u], []⟩ [("_law_script", u)]) ∧
      (mg "_law_right" = some (.ref fr) ∧ K.lookup fr = some o ∧ o.data = .func fdr ∧ fdr.code = .ref c ∧ PySem.W.codeHdIn K c T = true ∧ K.lookup T = none) ∧
      (mg "law" = some (.ref fs) ∧ K.lookup fs = some o2 ∧ o2.data = .func fds ∧ fds.code = .ref c2 ∧ PySem.W.codeHdIn K c2 T2 = true ∧ K.lookup T2 = none) ∧ T ≠ T2 ∧
      (∀ (H : Hp) (a : Addr) (ns : List Int), ns.length ≤ 63 → H T = some (.tbl #[]) → H T2 = some (.tbl #[]) → SqL K H a (ns.map V.int) → sp [.ref a] H (fun v _ => v = .bl true) fun _ _ _ => False) ∧
      ∀ base : Heap, K.In base → base.Ns mainGlobals mg → TabB base mg c T → TabB base mg c2 T2 → FnG l.prog w K mg base 12 fa fd ["_law_script"] sp := by
  have e := hfa.symm.trans (PySem.W.mg_of X G a45)
  cases e
  have F0 := fun_mk (st := sIsInt) l0 c0 k0
  have b0 := F0.binds (ps := ["value"]) fun _ _ _ _ _ _ us hl => match us, hl with | [_], _ => rfl
  have F1 := fun_mk (st := sWithin) l1 c1 k1
  have b1 := F1.binds (ps := ["value", "least", "most"]) fun _ _ _ _ _ _ us hl => match us, hl with | [_, _, _], _ => rfl
  have F2 := fun_mk (st := sPair) l2 c2 k2
  have b2 := F2.binds (ps := ["value", "most"]) fun _ _ _ _ _ _ us hl => match us, hl with | [_, _], _ => rfl
  have F3 := fun_mk (st := sCanBe) l3 c3 k3
  have b3 := F3.binds (ps := ["part", "value"]) fun _ _ _ _ _ _ us hl => match us, hl with | [_, _], _ => rfl
  have F4 := fun_mk (st := sLeastOf) l4 c4 k4
  have b4 := F4.binds (ps := ["rule", "most"]) fun _ _ _ _ _ _ us hl => match us, hl with | [_, _], _ => rfl
  have F5 := fun_mk (st := sCrucialOf) l5 c5 k5
  have b5 := F5.binds (ps := ["rule"]) fun _ _ _ _ _ _ us hl => match us, hl with | [_], _ => rfl
  have F6 := fun_mk (st := sIsRightFor) l6 c6 k6
  have b6 := F6.binds (ps := ["rule", "most"]) fun _ _ _ _ _ _ us hl => match us, hl with | [_, _], _ => rfl
  have F7 := fun_mk (st := sDealt) l7 c7 k7
  have b7 := F7.binds (ps := ["total", "pages"]) fun _ _ _ _ _ _ us hl => match us, hl with | [_, _], _ => rfl
  have F8 := fun_mk (st := sPageAt) l8 c8 k8
  have b8 := F8.binds (ps := ["fills", "index"]) fun _ _ _ _ _ _ us hl => match us, hl with | [_, _], _ => rfl
  have F9 := fun_mk (st := sPageFor) l9 c9 k9
  have b9 := F9.binds (ps := ["fills", "ahead"]) fun _ _ _ _ _ _ us hl => match us, hl with | [_, _], _ => rfl
  have F10 := fun_mk (st := sBehindPut) l10 c10 k10
  have b10 := F10.binds (ps := ["rule", "most", "fills", "ahead"]) fun _ _ _ _ _ _ us hl => match us, hl with | [_, _, _, _], _ => rfl
  have F11 := fun_mk (st := sBehindTake) l11 c11 k11
  have b11 := F11.binds (ps := ["rule", "most", "fills", "index"]) fun _ _ _ _ _ _ us hl => match us, hl with | [_, _, _, _], _ => rfl
  have F12 := fun_mk (st := sGroupOf) l12 c12 k12
  have b12 := F12.binds (ps := ["at", "many"]) fun _ _ _ _ _ _ us hl => match us, hl with | [_, _], _ => rfl
  have F13 := fun_mk (st := sDealtAnew) l13 c13 k13
  have b13 := F13.binds (ps := ["row", "start", "end", "pages"]) fun _ _ _ _ _ _ us hl => match us, hl with | [_, _, _, _], _ => rfl
  have F14 := fun_mk (st := sNeedFillRule) l14 c14 k14
  have b14 := F14.binds (ps := ["value"]) fun _ _ _ _ _ _ us hl => match us, hl with | [_], _ => rfl
  have F15 := fun_mk (st := sNeedSize) l15 c15 k15
  have b15 := F15.binds (ps := ["value"]) fun _ _ _ _ _ _ us hl => match us, hl with | [_], _ => rfl
  have F16 := fun_mk (st := sNeedPageSize) l16 c16 k16
  have b16 := F16.binds (ps := ["rule", "most"]) fun _ _ _ _ _ _ us hl => match us, hl with | [_, _], _ => rfl
  have F17 := fun_mk (st := sSpillOf) l17 c17 k17
  have b17 := F17.binds (ps := ["rule", "most"]) fun _ _ _ _ _ _ us hl => match us, hl with | [_, _], _ => rfl
  have F18 := fun_mk (st := sKept) l18 c18 k18
  have b18 := F18.binds (ps := ["value"]) fun _ _ _ _ _ _ us hl => match us, hl with | [_], _ => rfl
  have F19 := fun_mk (st := sParts) l19 c19 k19
  have b19 := F19.binds (ps := ["value"]) fun _ _ _ _ _ _ us hl => match us, hl with | [_], _ => rfl
  have F20 := fun_mk (st := sFlat) l20 c20 k20
  have b20 := F20.binds (ps := ["value"]) fun _ _ _ _ _ _ us hl => match us, hl with | [_], _ => rfl
  have F21 := fun_mk (st := sCopied) l21 c21 k21
  have b21 := F21.binds (ps := ["value"]) fun _ _ _ _ _ _ us hl => match us, hl with | [_], _ => rfl
  have F22 := fun_mk (st := sRebuilt) l22 c22 k22
  have b22 := F22.binds (ps := ["value", "parts"]) fun _ _ _ _ _ _ us hl => match us, hl with | [_, _], _ => rfl
  have F23 := fun_mk (st := sTimes) l23 c23 k23
  have b23 := F23.binds (ps := ["value"]) fun _ _ _ _ _ _ us hl => match us, hl with | [_], _ => rfl
  have F24 := fun_mk (st := sPlus) l24 c24 k24
  have b24 := F24.binds (ps := ["value"]) fun _ _ _ _ _ _ us hl => match us, hl with | [_], _ => rfl
  have F25 := fun_mk (st := sTurn) l25 c25 k25
  have b25 := F25.binds (ps := ["value"]) fun _ _ _ _ _ _ us hl => match us, hl with | [_], _ => rfl
  have F26 := fun_mk (st := sNeedT) l26 c26 k26
  have b26 := F26.binds (ps := ["times", "plus"]) fun _ _ _ _ _ _ us hl => match us, hl with | [_, _], _ => rfl
  have F27 := fun_mk (st := sHalves) l27 c27 k27
  have b27 := F27.binds (ps := ["times", "plus"]) fun _ _ _ _ _ _ us hl => match us, hl with | [_, _], _ => rfl
  have F28 := fun_mk (st := sNeedH) l28 c28 k28
  have b28 := F28.binds (ps := ["times", "plus"]) fun _ _ _ _ _ _ us hl => match us, hl with | [_, _], _ => rfl
  have F29 := fun_mk (st := sPen) l29 c29 k29
  have b29 := F29.binds (ps := ["_law_script"]) fun _ _ _ _ _ _ us hl => match us, hl with | [_], _ => rfl
  have F30 := fun_mk (st := sDraw) l30 c30 k30
  have b30 := F30.binds (ps := ["_law_pen_here", "_law_many"]) fun _ _ _ _ _ _ us hl => match us, hl with | [_, _], _ => rfl
  have F31 := fun_mk (st := sPick) l31 c31 k31
  have b31 := F31.binds (ps := ["_law_pen_here", "_law_some"]) fun _ _ _ _ _ _ us hl => match us, hl with | [_, _], _ => rfl
  have F32 := fun_mk (st := sLNumbers) l32 c32 k32
  have b32 := F32.binds (ps := ["_law_pen_here"]) fun _ _ _ _ _ _ us hl => match us, hl with | [_], _ => rfl
  have F33 := fun_mk (st := sLRule) l33 c33 k33
  have b33 := F33.binds (ps := ["_law_told"]) fun _ _ _ _ _ _ us hl => match us, hl with | [_], _ => rfl
  have F34 := fun_mk (st := sHeard) l34 c34 k34
  have b34 := F34.binds (ps := ["_law_ask"]) fun _ _ _ _ _ _ us hl => match us, hl with | [_], _ => rfl
  have F35 := fun_mk (st := sLLeast) l35 c35 k35
  have b35 := F35.binds (ps := ["_law_told", "_law_top"]) fun _ _ _ _ _ _ us hl => match us, hl with | [_, _], _ => rfl
  have F36 := fun_mk (st := sLIsRight) l36 c36 k36
  have b36 := F36.binds (ps := ["_law_told", "_law_top"]) fun _ _ _ _ _ _ us hl => match us, hl with | [_, _], _ => rfl
  have F37 := fun_mk (st := sLDealt) l37 c37 k37
  have b37 := F37.binds (ps := ["_law_total", "_law_pages"]) fun _ _ _ _ _ _ us hl => match us, hl with | [_, _], _ => rfl
  have F38 := fun_mk (st := sLPage) l38 c38 k38
  have b38 := F38.binds (ps := ["_law_fills", "_law_index"]) fun _ _ _ _ _ _ us hl => match us, hl with | [_, _], _ => rfl
  have F39 := fun_mk (st := sLGrouped) l39 c39 k39
  have b39 := F39.binds (ps := ["_law_fills", "_law_page_here", "_law_many"]) fun _ _ _ _ _ _ us hl => match us, hl with | [_, _, _], _ => rfl
  have F40 := fun_mk (st := sLPut) l40 c40 k40
  have b40 := F40.binds (ps := ["_law_told", "_law_top", "_law_fills", "_law_ahead"]) fun _ _ _ _ _ _ us hl => match us, hl with | [_, _, _, _], _ => rfl
  have F41 := fun_mk (st := sLTake) l41 c41 k41
  have b41 := F41.binds (ps := ["_law_told", "_law_top", "_law_fills", "_law_index"]) fun _ _ _ _ _ _ us hl => match us, hl with | [_, _, _, _], _ => rfl
  have F42 := fun_mk (st := sLKeeps) l42 c42 k42
  have b42 := F42.binds (ps := ["_law_told", "_law_top", "_law_fills"]) fun _ _ _ _ _ _ us hl => match us, hl with | [_, _, _], _ => rfl
  have F43 := fun_mk (st := sLDue) l43 c43 k43
  have b43 := F43.binds (ps := ["_law_told", "_law_top"]) fun _ _ _ _ _ _ us hl => match us, hl with | [_, _], _ => rfl
  have F44 := fun_mk (st := sLRight) l44 c44 k44
  have b44 := F44.binds (ps := ["_law_told", "_law_top"]) fun _ _ _ _ _ _ us hl => match us, hl with | [_, _], _ => rfl
  have F45 := fun_mk (st := sLaw) l45 c45 k45
  have b45 := F45.binds (ps := ["_law_script"]) fun _ _ _ _ _ _ us hl => match us, hl with | [_], _ => rfl
  have F56 := fun_mk (st := sSpill_init) l56 c56 k56
  have b56 := F56.binds (ps := ["self", "most", "fills", "deed", "behind"]) fun _ _ _ _ _ _ us hl => match us, hl with | [_, _, _, _, _], _ => rfl
  have F57 := fun_mk (st := sSpill_eq) l57 c57 k57
  have b57 := F57.binds (ps := ["self", "other"]) fun _ _ _ _ _ _ us hl => match us, hl with | [_, _], _ => rfl
  have F61 := fun_mk (st := sBRInit) l61 c61 k61
  have b61 := F61.binds (ps := ["self", "part"]) fun _ _ _ _ _ _ us hl => match us, hl with | [_, _], _ => rfl
  have F62 := fun_mk (st := sBNInit) l62 c62 k62
  have b62 := F62.binds (ps := ["self", "value"]) fun _ _ _ _ _ _ us hl => match us, hl with | [_, _], _ => rfl
  have F63 := fun_mk (st := sNHInit) l63 c63 k63
  have b63 := F63.binds (ps := ["self", "weight"]) fun _ _ _ _ _ _ us hl => match us, hl with | [_, _], _ => rfl
  have T : Blt mg := ⟨PySem.W.mg_none_of X G zint, PySem.W.mg_none_of X G zlen, PySem.W.mg_none_of X G zabs, PySem.W.mg_none_of X G zlist, PySem.W.mg_none_of X G zmin, PySem.W.mg_none_of X G zmax, PySem.W.mg_none_of X G zisinstance, PySem.W.mg_none_of X G zbool, PySem.W.mg_none_of X G ztuple, PySem.W.mg_none_of X G zall, PySem.W.mg_none_of X G zrange, PySem.W.mg_none_of X G zrepr⟩
  have TTn : tabAt K cR ≠ tabAt K cL := fun e => by rw [e] at neqT; simp at neqT
  refine ⟨PySem.W.fnOf "law" "law" (defArgs sLaw) (defBody sLaw) (defScope sLaw) .none kV45 dc45 pm45 an45 (.ref cL) ct45, PySem.W.fnOf "_law_right" "_law_right" (defArgs sLRight) (defBody sLRight) (defScope sLRight) .none kV44 dc44 pm44 an44 (.ref cR) ct44, PySem.W.fnOf "law" "law" (defArgs sLaw) (defBody sLaw) (defScope sLaw) .none kV45 dc45 pm45 an45 (.ref cL) ct45, spLawT K (tabAt K cR) (tabAt K cL), f44, cR, tabAt K cR, f45, cL, tabAt K cL, _, _, fun s v => .of_eq rfl, ⟨PySem.W.mg_of X G a44, l44, rfl, rfl, hdcR, nocR⟩, ⟨PySem.W.mg_of X G a45, l45, rfl, rfl, hdcL, nocL⟩, TTn, fun H a ns hl hT hT2 hS => ⟨a, ns, rfl, hS, hl, hT, hT2, fun _ => rfl⟩, fun base _ _ TB TB2 => ?_⟩
  have FC : FCls K C := ⟨⟨pgC, hdC, poC, saC⟩, n0C, n1C, n2C, n3C, n4C⟩
  have IT : InsT K C := ⟨hcC, ikn, ikt, moC, icC, ttC⟩
  have ITn : InsT K Cn := ⟨hcCn, ikn, ikt, moCn, icCn, ttCn⟩
  have RN : RCls K Cn := ⟨⟨pgCn, hdCn, poCn, saCn⟩, n0Cn, n1Cn, n2Cn, n3Cn⟩
  have R2 : FTwo K C := ⟨FC, IT⟩
  have TS : SCls K S := ⟨⟨pgS, hdS, poS, saS⟩, n0S, n1S, n2S, n3S⟩
  have ITS : InsT K S := ⟨hcS, ikn, ikt, moS, icS, ttS⟩
  have NCZ : NoneC K mg Z := ⟨qZ, (PySem.W.mg_of X G aZ), keZ, exZ, ttZ⟩
  have TBF : TabF K w mg TP DB D1 D2 D3 := ⟨PySem.W.mg_of X G aTP, fun _ => sqT_K lTP (by decide) (.cons ⟨_, rfl⟩ ( .cons ⟨_, rfl⟩ ( .cons ⟨_, rfl⟩ (.cons ⟨_, rfl⟩ .nil)))), PySem.W.mg_of X G aDB, ⟨_, _, ⟨lDB, ⟨⟨_, _, rfl, hkDB0⟩, ⟨_, _, rfl, hkDB1⟩, ⟨_, _, rfl, hkDB2⟩, trivial⟩, lowDB⟩⟩, nsDB0, nsDB1, nsDB2, fun _ => sqT_K lD1 (by decide) (.cons ⟨_, rfl⟩ (.cons ⟨_, rfl⟩ .nil)), fun _ => sqT_K lD2 (by decide) (.cons ⟨_, rfl⟩ (.cons ⟨_, rfl⟩ .nil)), fun _ => sqT_K lD3 (by decide) (.cons ⟨_, rfl⟩ (.cons ⟨_, rfl⟩ .nil))⟩
  have D50 : FunD K "__init__" "FillRule.__init__" (defArgs sFillRule_init) (defBody sFillRule_init) (defScope sFillRule_init) [.int 0] [("cut_of", .int 1), ("join_of", .int 2)] f50 _ := ⟨⟨_, _, _, _, _, _, _, _, _, _, rfl, l50, c50, .inr ⟨by simp, T50, _, [Value.int 0 tt500], tn50, rfl, t50, rfl, .cons ⟨_, rfl⟩ .nil⟩, .inr ⟨KD50, rfl, fun z hz => by
    rcases List.mem_cons.mp hz with rfl | hz
    · exact ⟨_, kd500, ⟨_, rfl⟩⟩
    · rw [List.mem_singleton.mp hz]; exact ⟨_, kd501, ⟨_, rfl⟩⟩⟩⟩, k50⟩
  have D55 : FunD K "__init__" "TurnRule.__init__" (defArgs sTurnInit) (defBody sTurnInit) (defScope sTurnInit) [.int 0] [("turn_plus", .int 0)] f55 _ := ⟨⟨_, _, _, _, _, _, _, _, _, _, rfl, l55, c55, .inr ⟨by simp, T55, _, [Value.int 0 tt550], tn55, rfl, t55, rfl, .cons ⟨_, rfl⟩ .nil⟩, .inr ⟨KD55, rfl, fun z hz => by rw [List.mem_singleton.mp hz]; exact ⟨_, kd550, ⟨_, rfl⟩⟩⟩⟩, k55⟩
  obtain ⟨its50, b50⟩ := FunD.kbindsD (ps := ["self", "times", "plus", "cut_of", "join_of"]) D50 3 ["cut_of", "join_of"] (fun us _ ws => us ++ ws) (by simp) (fun r1 _ r2 => r1.append r2)
    (fun _ _ _ _ _ _ _ us its ws h1 h2 h3 => match us, its, ws, h1, h2, h3 with | [_, _, _], [_], [_, _], _, _, _ => ⟨_, rfl, rfl⟩)
  obtain ⟨its50b, mv50b, b50b⟩ := FunD.kbinds (ps := ["self", "times", "plus", "cut_of", "join_of"]) D50 2 ["cut_of"] [("join_of", .int 2)] (fun us its mv ws => us ++ (its ++ (ws ++ mv))) (by simp) (by simp) (fun q hq => by rw [List.mem_singleton.mp hq]; exact List.mem_cons_of_mem _ (List.mem_cons_self ..)) (fun r1 r2 r3 r4 => r1.append (r2.append (r4.append r3)))
    (fun _ _ _ _ _ _ _ us its mv ws h1 h2 h3 h4 => match us, its, mv, ws, h1, h2, h3, h4 with | [_, _], [_], [_], [_], _, _, _, _ => ⟨_, rfl, ⟨_, _, _, _, _, _, rfl, rfl, rfl⟩⟩)
  obtain ⟨its55, mv55, b55⟩ := FunD.kbinds (ps := ["self", "times", "plus", "turn", "turn_plus"]) D55 2 ["turn"] [("turn_plus", .int 0)] (fun us its mv ws => us ++ (its ++ (ws ++ mv))) (by simp) (by simp) (fun _ h => h) (fun r1 r2 r3 r4 => r1.append (r2.append (r4.append r3)))
    (fun _ _ _ _ _ _ _ us its mv ws h1 h2 h3 h4 => match us, its, mv, ws, h1, h2, h3, h4 with | [_, _], [_], [_], [_], _, _, _, _ => ⟨_, rfl, ⟨_, _, _, _, _, _, rfl, rfl, rfl⟩⟩)
  have d0 : Df l.prog w K mg base 1 "is_integer" ["value"] _ := ⟨f0, _, ok_isInt F0 T, PySem.W.mg_of X G a0, F0.kp, b0⟩
  have d1 : Df l.prog w K mg base 2 "is_within" ["value", "least", "most"] _ := ⟨f1, _, ok_within F1 d0, PySem.W.mg_of X G a1, F1.kp, b1⟩
  have d2 : Df l.prog w K mg base 3 "is_pair" ["value", "most"] _ := ⟨f2, _, ok_pair F2 T d1, PySem.W.mg_of X G a2, F2.kp, b2⟩
  have d3 : Df l.prog w K mg base 4 "can_be" ["part", "value"] _ := ⟨f3, _, ok_canBe F3 TBF (PySem.W.mg_of X G hgT) d2 d1, PySem.W.mg_of X G a3, F3.kp, b3⟩
  have d19 : Df l.prog w K mg base 1 "parts_of" ["value"] _ := ⟨f19, _, ok_parts F19 T (PySem.W.mg_none_of X G zdict), PySem.W.mg_of X G a19, F19.kp, b19⟩
  have d18 : Df l.prog w K mg base 2 "kept" ["value"] _ := ⟨f18, _, ok_kept F18 T (PySem.W.mg_none_of X G zdict) (PySem.W.mg_none_of X G zany) d19, PySem.W.mg_of X G a18, F18.kp, b18⟩
  have dPV : Df l.prog w K mg base 1 "parts_of" ["value"] _ := ⟨f19, _, ok_partsV F19 T (PySem.W.mg_none_of X G zdict), PySem.W.mg_of X G a19, F19.kp, b19⟩
  have d22 : Df l.prog w K mg base 1 "rebuilt" ["value", "parts"] _ := ⟨f22, _, ok_rebuilt F22 T (PySem.W.mg_none_of X G zdict) (PySem.W.mg_none_of X G zzip), PySem.W.mg_of X G a22, F22.kp, b22⟩
  have d20 : Df l.prog w K mg base 2 "is_flat" ["value"] _ := ⟨f20, _, ok_flat F20 T (PySem.W.mg_none_of X G zdict), PySem.W.mg_of X G a20, F20.kp, b20⟩
  have d21 : Df l.prog w K mg base 2 "copied_deep" ["value"] _ := ⟨f21, _, ok_copied F21 T (PySem.W.mg_none_of X G zdict) (PySem.W.mg_none_of X G zany) dPV d22, PySem.W.mg_of X G a21, F21.kp, b21⟩
  have dKV : Df l.prog w K mg base 3 "kept" ["value"] _ := ⟨f18, _, ok_keptV F18 T (PySem.W.mg_none_of X G zdict) d20 d21, PySem.W.mg_of X G a18, F18.kp, b18⟩
  have d4 : Df l.prog w K mg base 1 "least_of" ["rule", "most"] _ := ⟨f4, _, ok_leastOf F4 FC, PySem.W.mg_of X G a4, F4.kp, b4⟩
  have d5 : Df l.prog w K mg base 1 "crucial_of" ["rule"] _ := ⟨f5, _, ok_crucial F5 FC, PySem.W.mg_of X G a5, F5.kp, b5⟩
  have d6 : Df l.prog w K mg base 2 "is_right_for" ["rule", "most"] _ := ⟨f6, _, ok_rightFor F6 d4 d5, PySem.W.mg_of X G a6, F6.kp, b6⟩
  have d7 : Df l.prog w K mg base 1 "dealt" ["total", "pages"] _ := ⟨f7, _, ok_dealt F7 (PySem.W.mg_none_of X G zdivmod), PySem.W.mg_of X G a7, F7.kp, b7⟩
  have d12 : Df l.prog w K mg base 1 "group_of" ["at", "many"] _ := ⟨f12, _, ok_group F12, PySem.W.mg_of X G a12, F12.kp, b12⟩
  have d8 : Df l.prog w K mg base 1 "page_at" ["fills", "index"] _ := ⟨f8, _, ok_pageAt F8, PySem.W.mg_of X G a8, F8.kp, b8⟩
  have d9 : Df l.prog w K mg base 2 "page_for" ["fills", "ahead"] _ := ⟨f9, _, ok_pageFor F9 d8, PySem.W.mg_of X G a9, F9.kp, b9⟩
  have d13 : Df l.prog w K mg base 2 "dealt_anew" ["row", "start", "end", "pages"] _ := ⟨f13, _, ok_anew F13 (PySem.W.mg_none_of X G zsum) (PySem.W.mg_of X G hgO) (PySem.W.mg_of X G hgW) d7, PySem.W.mg_of X G a13, F13.kp, b13⟩
  have d10 : Df l.prog w K mg base 3 "behind_put" ["rule", "most", "fills", "ahead"] _ := ⟨f10, _, ok_bput F10 T FC (PySem.W.mg_none_of X G zsum) (PySem.W.mg_of X G hgO) d9 d12 d13, PySem.W.mg_of X G a10, F10.kp, b10⟩
  have d11 : Df l.prog w K mg base 3 "behind_take" ["rule", "most", "fills", "index"] _ := ⟨f11, _, ok_btake F11 T FC (PySem.W.mg_none_of X G zsum) d4 d8 d12 d13, PySem.W.mg_of X G a11, F11.kp, b11⟩
  have d23 : Df l.prog w K mg base 4 "is_times" ["value"] _ := ⟨f23, _, ok_times F23 d2 (PySem.W.mg_of X G aCW) ⟨rdW, gaW⟩ ⟨cvW, ⟨_, rfl⟩⟩, PySem.W.mg_of X G a23, F23.kp, b23⟩
  have d24 : Df l.prog w K mg base 3 "is_plus" ["value"] _ := ⟨f24, _, ok_plus F24 d1 (PySem.W.mg_of X G hgP), PySem.W.mg_of X G a24, F24.kp, b24⟩
  have d25 : Df l.prog w K mg base 4 "is_turn" ["value"] _ := ⟨f25, _, ok_turn F25 d2 (PySem.W.mg_of X G hgU), PySem.W.mg_of X G a25, F25.kp, b25⟩
  have d27 : Df l.prog w K mg base 1 "has_halves" ["times", "plus"] _ := ⟨f27, _, ok_halves F27, PySem.W.mg_of X G a27, F27.kp, b27⟩
  have oR : OexC K BR := ⟨⟨_, _, _, _, _, _, _, _, _, _, _, _, _, _, _, lxBR, rxBR⟩, saBR, exBR, ttBR, keBR⟩
  have oN : OexC K BN := ⟨⟨_, _, _, _, _, _, _, _, _, _, _, _, _, _, _, lxBN, rxBN⟩, saBN, exBN, ttBN, keBN⟩
  have oH : OexC K NH := ⟨⟨_, _, _, _, _, _, _, _, _, _, _, _, _, _, _, lxNH, rxNH⟩, saNH, exNH, ttNH, keNH⟩
  have G61 := ok_br (P := l.prog) (w := w) (mg := mg) (base := base) F61 oR no0BR d18
  have G62 := ok_bn (P := l.prog) (w := w) (mg := mg) (base := base) F62 oN no0BN dKV
  have G63 := ok_nh (P := l.prog) (w := w) (mg := mg) (base := base) F63 oH no0NH d18
  have EB : ErrC l.prog w K mg base "BadRule" "part" BR := ⟨oR, (PySem.W.mg_of X G aBR), _, _, m61, ty61, G61, b61⟩
  have EV : ErrV l.prog w K mg base "BadNumber" "value" BN := ⟨oN, (PySem.W.mg_of X G aBN), _, _, m62, ty62, G62, b62⟩
  have EN : ErrC l.prog w K mg base "NoHalves" "weight" NH := ⟨oH, (PySem.W.mg_of X G aNH), _, _, m63, ty63, G63, b63⟩
  have d26 : DfX l.prog w K mg base 5 "need_times" ["times", "plus"] _ := ⟨f26, _, ok_needT F26 d23 d24 EB, PySem.W.mg_of X G a26, F26.kp, b26⟩
  have d28 : DfX l.prog w K mg base 5 "need_halves" ["times", "plus"] _ := ⟨f28, _, ok_needH F28 d27 EN, PySem.W.mg_of X G a28, F28.kp, b28⟩
  have d15 : DfX l.prog w K mg base 6 "need_size" ["value"] _ := ⟨f15, _, ok_needSize F15 d1 (PySem.W.mg_of X G hgL) (PySem.W.mg_of X G hgM) EV, PySem.W.mg_of X G a15, F15.kp, b15⟩
  have d14 : DfX l.prog w K mg base 5 "need_fill_rule" ["value"] _ := ⟨f14, _, ok_needF (N := BN) F14 T R2 (PySem.W.mg_of X G aC) EB, PySem.W.mg_of X G a14, F14.kp, b14⟩
  have d16 : DfX l.prog w K mg base 7 "need_page_size" ["rule", "most"] _ := ⟨f16, _, ok_needP F16 d15 d4 EV, PySem.W.mg_of X G a16, F16.kp, b16⟩
  have G56 := ok_spInit (P := l.prog) (w := w) (mg := mg) (base := base) F56 TS dKV
  have G57 := ok_spEq (P := l.prog) (w := w) (mg := mg) (base := base) F57 T TS ITS (PySem.W.mg_of X G aS)
  have SM : SMk l.prog w K mg base S := ⟨TS, ITS, (PySem.W.mg_of X G aS), ⟨f56, _, ⟨mkS, m56, i56, kcS⟩, G56, b56⟩⟩
  have AS : SpAsk l.prog w K mg base C BR BN Z S := ⟨⟨f17, _, ok_spillOf F17 T R2 NCZ SM d14 d16 d6 d10 d11 d4, PySem.W.mg_of X G a17, F17.kp, b17, kb_gMR F17 (fun _ _ _ _ _ _ _ _ => rfl)⟩, TS, ITS, (PySem.W.mg_of X G aS), ⟨f57, fnr_of G57 b57, m57, i57⟩⟩
  have GN := ok_turnInit (P := l.prog) (w := w) (mg := mg) (base := base) D55 RN d26 d28 d25 d24 EB
  have GF := ok_fillInit (P := l.prog) (w := w) (mg := mg) (base := base) (N := BN) D50 FC (PySem.W.mg_none_of X G zzip) TBF d3 EB
  have GO : FnOk l.prog w K mg base CX0 5 f50 _ ["self", "times", "plus", "cut_of", "join_of"] (spFillOk C) := FnOk.calm GF fun vs H Q E h => fill_ok h
  have MK : Mk K C f50 := ⟨mkC, m50, i50, kcC⟩
  have MN : Mk K Cn f55 := ⟨mkCn, m55, i55, kcCn⟩
  have FB : FlB l.prog w K mg base C Cn BR NH := ⟨(PySem.W.mg_of X G aC), (PySem.W.mg_of X G aCn), R2, ⟨f50, _, _, MK, GO, b50b⟩, ⟨f55, _, _, MN, GN, b55⟩, ITn, RN.cl, kit_not icC ttC snC ssC⟩
  have d29 : Df l.prog w K mg base 1 "_law_pen" ["_law_script"] _ := ⟨f29, _, ok_pen F29 T, PySem.W.mg_of X G a29, F29.kp, b29⟩
  have d30 : Df l.prog w K mg base 1 "_law_draw" ["_law_pen_here", "_law_many"] _ := ⟨f30, _, ok_draw F30 T, PySem.W.mg_of X G a30, F30.kp, b30⟩
  have d31 : Df l.prog w K mg base 2 "_law_pick" ["_law_pen_here", "_law_some"] _ := ⟨f31, _, ok_pick F31 T d30, PySem.W.mg_of X G a31, F31.kp, b31⟩
  have d32 : Df l.prog w K mg base 2 "_law_numbers" ["_law_pen_here"] _ := ⟨f32, _, ok_lnums F32 T d30, PySem.W.mg_of X G a32, F32.kp, b32⟩
  have d33 : Df l.prog w K mg base 7 "_law_rule" ["_law_told"] _ := ⟨f33, _, ok_lrule F33 (PySem.W.mg_of X G aC) MK GO b50, PySem.W.mg_of X G a33, F33.kp, b33⟩
  have d35 : Df l.prog w K mg base 1 "_law_least" ["_law_told", "_law_top"] _ := ⟨f35, _, ok_lleast F35, PySem.W.mg_of X G a35, F35.kp, b35⟩
  have d36 : Df l.prog w K mg base 2 "_law_is_right" ["_law_told", "_law_top"] _ := ⟨f36, _, ok_lisr F36 d35, PySem.W.mg_of X G a36, F36.kp, b36⟩
  have d37 : Df l.prog w K mg base 1 "_law_dealt" ["_law_total", "_law_pages"] _ := ⟨f37, _, ok_ldealt F37 T, PySem.W.mg_of X G a37, F37.kp, b37⟩
  have d38 : Df l.prog w K mg base 1 "_law_page" ["_law_fills", "_law_index"] _ := ⟨f38, _, ok_lpage F38 T, PySem.W.mg_of X G a38, F38.kp, b38⟩
  have d39 : Df l.prog w K mg base 1 "_law_grouped" ["_law_fills", "_law_page_here", "_law_many"] _ := ⟨f39, _, ok_lgroup F39, PySem.W.mg_of X G a39, F39.kp, b39⟩
  have d40 : Df l.prog w K mg base 2 "_law_put" ["_law_told", "_law_top", "_law_fills", "_law_ahead"] _ := ⟨f40, _, ok_lput F40 T (PySem.W.mg_none_of X G zsum) d38 d39 d37, PySem.W.mg_of X G a40, F40.kp, b40⟩
  have d41 : Df l.prog w K mg base 2 "_law_take" ["_law_told", "_law_top", "_law_fills", "_law_index"] _ := ⟨f41, _, ok_ltake F41 T (PySem.W.mg_none_of X G zsum) d35 d38 d39 d37, PySem.W.mg_of X G a41, F41.kp, b41⟩
  have d42 : Df l.prog w K mg base 2 "_law_keeps" ["_law_told", "_law_top", "_law_fills"] _ := ⟨f42, _, ok_lkeeps F42 T d35, PySem.W.mg_of X G a42, F42.kp, b42⟩
  have d43 : Df l.prog w K mg base 3 "_law_due" ["_law_told", "_law_top"] _ := ⟨f43, _, ok_ldue F43 T d35 d40 d41, PySem.W.mg_of X G a43, F43.kp, b43⟩
  have HBR : HeldC K BR := ⟨icBR, gaBR, ggBR, exBR, hdBR, hcBR, ikn, ikt, moBR⟩
  have HBN : HeldC K BN := ⟨icBN, gaBN, ggBN, exBN, hdBN, hcBN, ikn, ikt, moBN⟩
  have HZZ : HeldC K Z := ⟨icZ, gaZ, ggZ, exZ, hdZ, hcZ, ikn, ikt, moZ⟩
  have HH : HeardB l.prog w K mg BR BN Z FE f34 _ := ⟨F34, PySem.W.mg_of X G a34, b34, PySem.W.mg_none_of X G zrepr, (PySem.W.mg_of X G aFE), (PySem.W.mg_of X G aBR), (PySem.W.mg_of X G aBN), (PySem.W.mg_of X G aZ), HBR, HBN, HZZ, no0BR, no0BN, exm_own icFE ttFE suRF suFX, exm_own icFE ttFE suNF suFX, exm_own icFE ttFE suZF suFX, kit_not icBN ttBN nRN sSBN, kit_not icBR ttBR nNR sSBR, kit_not icZ ttZ nRZ sSZ, kit_not icZ ttZ nNZ sSZ, kit_not icBR ttBR nZR sSBR, kit_not icBN ttBN nZN sSBN⟩
  have GRt := ok_right (P := l.prog) (w := w) (mg := mg) (base := base) (TT := tabAt K cR) (TL := [(tabAt K cR, (envOfC "_law_right" (defScope sLRight) 0 f44 (.ref cR)).qual ++ ("<lambda>" : Str)), (tabAt K cL, (envOfC "law" (defScope sLaw) 0 f45 (.ref cL)).qual ++ ("<lambda>" : Str))]) F44 T rfl TB (List.mem_cons_self ..)
    (fun p hp e => by
      rcases List.mem_cons.mp hp with rfl | hp
      · rfl
      · rw [List.mem_singleton.mp hp] at e
        exact absurd e.symm TTn) rfl HH AS d33 d35 d36 d43 d42
  exact ok_law (TT := tabAt K cL) F45 T rfl TB2 (List.mem_cons_of_mem _ (List.mem_cons_self ..))
    (fun p hp e => by
      rcases List.mem_cons.mp hp with rfl | hp
      · exact absurd e TTn
      · rw [List.mem_singleton.mp hp]) rfl HH AS FB d29 d30 d31 d33 d32 GRt (PySem.W.mg_of X G a44) F44.kp b44
end Ev
open PySem PySem.W PyProof.Rows
set_option maxRecDepth 100000 in
set_option maxHeartbeats 0 in
theorem PySem.Challenge.cw_evenrules_k75_whole_rows_that_are_spilt_holds : PySem.Challenge.rw_evenrules_k75_whole_rows_that_are_spilt.Holds := by
  exact hd (by
    k_fill
    refine Ev.walk_ofGTK2 (l := PySem.Challenge.rw_evenrules_k75_whole_rows_that_are_spilt) (n := 63) (k := 12) (x := "_law_script") (xr := "_law_right") (xs := "law") rfl (by decide) rfl ⟨rfl, by decide, by decide⟩ (by kernel_rfl) (by kernel_rfl) (fun w h Y => PySem.W.km_in_of Y) ?F
    case F =>
      intro w mg fa h KX G hmg
      refine' Ev.all_mk KX G hmg ?a0 ?l0 ?c0 ?k0 ?a1 ?l1 ?c1 ?k1 ?a2 ?l2 ?c2 ?k2 ?a3 ?l3 ?c3 ?k3 ?a4 ?l4 ?c4 ?k4 ?a5 ?l5 ?c5 ?k5 ?a6 ?l6 ?c6 ?k6 ?a7 ?l7 ?c7 ?k7 ?a8 ?l8 ?c8 ?k8 ?a9 ?l9 ?c9 ?k9 ?a10 ?l10 ?c10 ?k10 ?a11 ?l11 ?c11 ?k11 ?a12 ?l12 ?c12 ?k12 ?a13 ?l13 ?c13 ?k13 ?a14 ?l14 ?c14 ?k14 ?a15 ?l15 ?c15 ?k15 ?a16 ?l16 ?c16 ?k16 ?a17 ?l17 ?c17 ?k17 ?a18 ?l18 ?c18 ?k18 ?a19 ?l19 ?c19 ?k19 ?a20 ?l20 ?c20 ?k20 ?a21 ?l21 ?c21 ?k21 ?a22 ?l22 ?c22 ?k22 ?a23 ?l23 ?c23 ?k23 ?a24 ?l24 ?c24 ?k24 ?a25 ?l25 ?c25 ?k25 ?a26 ?l26 ?c26 ?k26 ?a27 ?l27 ?c27 ?k27 ?a28 ?l28 ?c28 ?k28 ?a29 ?l29 ?c29 ?k29 ?a30 ?l30 ?c30 ?k30 ?a31 ?l31 ?c31 ?k31 ?a32 ?l32 ?c32 ?k32 ?a33 ?l33 ?c33 ?k33 ?a34 ?l34 ?c34 ?k34 ?a35 ?l35 ?c35 ?k35 ?a36 ?l36 ?c36 ?k36 ?a37 ?l37 ?c37 ?k37 ?a38 ?l38 ?c38 ?k38 ?a39 ?l39 ?c39 ?k39 ?a40 ?l40 ?c40 ?k40 ?a41 ?l41 ?c41 ?k41 ?a42 ?l42 ?c42 ?k42 ?a43 ?l43 ?c43 ?k43 ?a44 ?l44 ?c44 ?k44 ?a45 ?l45 ?c45 ?k45 ?aC ?pgC ?hdC ?poC ?saC ?mkC ?kcC ?n0C ?n1C ?n2C ?n3C ?n4C ?aCn ?pgCn ?hdCn ?poCn ?saCn ?mkCn ?kcCn ?n0Cn ?n1Cn ?n2Cn ?n3Cn ?aS ?pgS ?hdS ?poS ?saS ?mkS ?kcS ?n0S ?n1S ?n2S ?n3S ?hcC ?moC ?icC ?ttC ?hcCn ?moCn ?icCn ?ttCn ?hcS ?moS ?icS ?ttS ?snC ?ssC ?ikn ?ikt ?m50 ?i50 ?l50 ?c50 ?k50 ?t50 ?kd500 ?kd501 ?m55 ?i55 ?l55 ?c55 ?k55 ?t55 ?kd550 ?m56 ?i56 ?l56 ?c56 ?k56 ?m57 ?i57 ?l57 ?c57 ?k57 ?aCW ?rdW ?gaW ?cvW ?aBR ?icBR ?ttBR ?gaBR ?ggBR ?hdBR ?hcBR ?moBR ?saBR ?exBR ?keBR ?vEBR ?sSBR ?no0BR ?lxBR ?rxBR ?m61 ?l61 ?c61 ?k61 ?ty61 ?aBN ?icBN ?ttBN ?gaBN ?ggBN ?hdBN ?hcBN ?moBN ?saBN ?exBN ?keBN ?vEBN ?sSBN ?no0BN ?lxBN ?rxBN ?m62 ?l62 ?c62 ?k62 ?ty62 ?aNH ?icNH ?ttNH ?gaNH ?ggNH ?hdNH ?hcNH ?moNH ?saNH ?exNH ?keNH ?vENH ?sSNH ?no0NH ?lxNH ?rxNH ?m63 ?l63 ?c63 ?k63 ?ty63 ?aFE ?icFE ?ttFE ?suRF ?suNF ?suFX ?aZ ?icZ ?ttZ ?gaZ ?ggZ ?hdZ ?hcZ ?moZ ?exZ ?keZ ?sSZ ?qZ ?suZF ?nRZ ?nZR ?nNZ ?nZN ?nRN ?nNR ?hgT ?hgL ?hgM ?hgP ?hgU ?hgO ?hgW ?aTP ?lTP ?aDB ?lDB ?hkDB0 ?nsDB0 ?hkDB1 ?nsDB1 ?hkDB2 ?nsDB2 ?lowDB ?lD1 ?lD2 ?lD3 ?hdcR ?nocR ?neqT ?hdcL ?nocL ?zint ?zlen ?zabs ?zlist ?zmin ?zmax ?zisinstance ?zbool ?ztuple ?zall ?zrange ?zrepr ?zany ?zdict ?zzip ?zsum ?zdivmod
      (case a0 => k_is)
      (case l0 => k_is)
      (case c0 => k_is)
      (case k0 => k_is)
      (case a1 => k_is)
      (case l1 => k_is)
      (case c1 => k_is)
      (case k1 => k_is)
      (case a2 => k_is)
      (case l2 => k_is)
      (case c2 => k_is)
      (case k2 => k_is)
      (case a3 => k_is)
      (case l3 => k_is)
      (case c3 => k_is)
      (case k3 => k_is)
      (case a4 => k_is)
      (case l4 => k_is)
      (case c4 => k_is)
      (case k4 => k_is)
      (case a5 => k_is)
      (case l5 => k_is)
      (case c5 => k_is)
      (case k5 => k_is)
      (case a6 => k_is)
      (case l6 => k_is)
      (case c6 => k_is)
      (case k6 => k_is)
      (case a7 => k_is)
      (case l7 => k_is)
      (case c7 => k_is)
      (case k7 => k_is)
      (case a8 => k_is)
      (case l8 => k_is)
      (case c8 => k_is)
      (case k8 => k_is)
      (case a9 => k_is)
      (case l9 => k_is)
      (case c9 => k_is)
      (case k9 => k_is)
      (case a10 => k_is)
      (case l10 => k_is)
      (case c10 => k_is)
      (case k10 => k_is)
      (case a11 => k_is)
      (case l11 => k_is)
      (case c11 => k_is)
      (case k11 => k_is)
      (case a12 => k_is)
      (case l12 => k_is)
      (case c12 => k_is)
      (case k12 => k_is)
      (case a13 => k_is)
      (case l13 => k_is)
      (case c13 => k_is)
      (case k13 => k_is)
      (case a14 => k_is)
      (case l14 => k_is)
      (case c14 => k_is)
      (case k14 => k_is)
      (case a15 => k_is)
      (case l15 => k_is)
      (case c15 => k_is)
      (case k15 => k_is)
      (case a16 => k_is)
      (case l16 => k_is)
      (case c16 => k_is)
      (case k16 => k_is)
      (case a17 => k_is)
      (case l17 => k_is)
      (case c17 => k_is)
      (case k17 => k_is)
      (case a18 => k_is)
      (case l18 => k_is)
      (case c18 => k_is)
      (case k18 => k_is)
      (case a19 => k_is)
      (case l19 => k_is)
      (case c19 => k_is)
      (case k19 => k_is)
      (case a20 => k_is)
      (case l20 => k_is)
      (case c20 => k_is)
      (case k20 => k_is)
      (case a21 => k_is)
      (case l21 => k_is)
      (case c21 => k_is)
      (case k21 => k_is)
      (case a22 => k_is)
      (case l22 => k_is)
      (case c22 => k_is)
      (case k22 => k_is)
      (case a23 => k_is)
      (case l23 => k_is)
      (case c23 => k_is)
      (case k23 => k_is)
      (case a24 => k_is)
      (case l24 => k_is)
      (case c24 => k_is)
      (case k24 => k_is)
      (case a25 => k_is)
      (case l25 => k_is)
      (case c25 => k_is)
      (case k25 => k_is)
      (case a26 => k_is)
      (case l26 => k_is)
      (case c26 => k_is)
      (case k26 => k_is)
      (case a27 => k_is)
      (case l27 => k_is)
      (case c27 => k_is)
      (case k27 => k_is)
      (case a28 => k_is)
      (case l28 => k_is)
      (case c28 => k_is)
      (case k28 => k_is)
      (case a29 => k_is)
      (case l29 => k_is)
      (case c29 => k_is)
      (case k29 => k_is)
      (case a30 => k_is)
      (case l30 => k_is)
      (case c30 => k_is)
      (case k30 => k_is)
      (case a31 => k_is)
      (case l31 => k_is)
      (case c31 => k_is)
      (case k31 => k_is)
      (case a32 => k_is)
      (case l32 => k_is)
      (case c32 => k_is)
      (case k32 => k_is)
      (case a33 => k_is)
      (case l33 => k_is)
      (case c33 => k_is)
      (case k33 => k_is)
      (case a34 => k_is)
      (case l34 => k_is)
      (case c34 => k_is)
      (case k34 => k_is)
      (case a35 => k_is)
      (case l35 => k_is)
      (case c35 => k_is)
      (case k35 => k_is)
      (case a36 => k_is)
      (case l36 => k_is)
      (case c36 => k_is)
      (case k36 => k_is)
      (case a37 => k_is)
      (case l37 => k_is)
      (case c37 => k_is)
      (case k37 => k_is)
      (case a38 => k_is)
      (case l38 => k_is)
      (case c38 => k_is)
      (case k38 => k_is)
      (case a39 => k_is)
      (case l39 => k_is)
      (case c39 => k_is)
      (case k39 => k_is)
      (case a40 => k_is)
      (case l40 => k_is)
      (case c40 => k_is)
      (case k40 => k_is)
      (case a41 => k_is)
      (case l41 => k_is)
      (case c41 => k_is)
      (case k41 => k_is)
      (case a42 => k_is)
      (case l42 => k_is)
      (case c42 => k_is)
      (case k42 => k_is)
      (case a43 => k_is)
      (case l43 => k_is)
      (case c43 => k_is)
      (case k43 => k_is)
      (case a44 => k_is)
      (case l44 => k_is)
      (case c44 => k_is)
      (case k44 => k_is)
      (case a45 => k_is)
      (case l45 => k_is)
      (case c45 => k_is)
      (case k45 => k_is)
      (case aC => k_is)
      (case pgC => k_is)
      (case hdC => k_is)
      (case poC => k_is)
      (case saC => k_is)
      (case mkC => k_is)
      (case kcC => k_is)
      (case n0C => k_is)
      (case n1C => k_is)
      (case n2C => k_is)
      (case n3C => k_is)
      (case n4C => k_is)
      (case aCn => k_is)
      (case pgCn => k_is)
      (case hdCn => k_is)
      (case poCn => k_is)
      (case saCn => k_is)
      (case mkCn => k_is)
      (case kcCn => k_is)
      (case n0Cn => k_is)
      (case n1Cn => k_is)
      (case n2Cn => k_is)
      (case n3Cn => k_is)
      (case aS => k_is)
      (case pgS => k_is)
      (case hdS => k_is)
      (case poS => k_is)
      (case saS => k_is)
      (case mkS => k_is)
      (case kcS => k_is)
      (case n0S => k_is)
      (case n1S => k_is)
      (case n2S => k_is)
      (case n3S => k_is)
      (case hcC => k_is)
      (case moC => k_is)
      (case icC => k_is)
      (case ttC => k_is)
      (case hcCn => k_is)
      (case moCn => k_is)
      (case icCn => k_is)
      (case ttCn => k_is)
      (case hcS => k_is)
      (case moS => k_is)
      (case icS => k_is)
      (case ttS => k_is)
      (case snC => k_is)
      (case ssC => k_is)
      (case ikn => k_is)
      (case ikt => k_is)
      (case m50 => k_is)
      (case i50 => k_is)
      (case l50 => k_is)
      (case c50 => k_is)
      (case k50 => k_is)
      (case t50 => k_is)
      (case kd500 => k_is)
      (case kd501 => k_is)
      (case m55 => k_is)
      (case i55 => k_is)
      (case l55 => k_is)
      (case c55 => k_is)
      (case k55 => k_is)
      (case t55 => k_is)
      (case kd550 => k_is)
      (case m56 => k_is)
      (case i56 => k_is)
      (case l56 => k_is)
      (case c56 => k_is)
      (case k56 => k_is)
      (case m57 => k_is)
      (case i57 => k_is)
      (case l57 => k_is)
      (case c57 => k_is)
      (case k57 => k_is)
      (case aCW => k_is)
      (case rdW => k_is)
      (case gaW => k_is)
      (case cvW => k_is)
      (case aBR => k_is)
      (case icBR => k_is)
      (case ttBR => k_is)
      (case gaBR => k_is)
      (case ggBR => k_is)
      (case hdBR => k_is)
      (case hcBR => k_is)
      (case moBR => k_is)
      (case saBR => k_is)
      (case exBR => k_is)
      (case keBR => k_is)
      (case vEBR => k_is)
      (case sSBR => k_is)
      (case no0BR => k_is)
      (case lxBR => k_is)
      (case rxBR => decide +kernel)
      (case m61 => k_is)
      (case l61 => k_is)
      (case c61 => k_is)
      (case k61 => k_is)
      (case ty61 => k_is)
      (case aBN => k_is)
      (case icBN => k_is)
      (case ttBN => k_is)
      (case gaBN => k_is)
      (case ggBN => k_is)
      (case hdBN => k_is)
      (case hcBN => k_is)
      (case moBN => k_is)
      (case saBN => k_is)
      (case exBN => k_is)
      (case keBN => k_is)
      (case vEBN => k_is)
      (case sSBN => k_is)
      (case no0BN => k_is)
      (case lxBN => k_is)
      (case rxBN => decide +kernel)
      (case m62 => k_is)
      (case l62 => k_is)
      (case c62 => k_is)
      (case k62 => k_is)
      (case ty62 => k_is)
      (case aNH => k_is)
      (case icNH => k_is)
      (case ttNH => k_is)
      (case gaNH => k_is)
      (case ggNH => k_is)
      (case hdNH => k_is)
      (case hcNH => k_is)
      (case moNH => k_is)
      (case saNH => k_is)
      (case exNH => k_is)
      (case keNH => k_is)
      (case vENH => k_is)
      (case sSNH => k_is)
      (case no0NH => k_is)
      (case lxNH => k_is)
      (case rxNH => decide +kernel)
      (case m63 => k_is)
      (case l63 => k_is)
      (case c63 => k_is)
      (case k63 => k_is)
      (case ty63 => k_is)
      (case aFE => k_is)
      (case icFE => k_is)
      (case ttFE => k_is)
      (case suRF => k_is)
      (case suNF => k_is)
      (case suFX => k_is)
      (case aZ => k_is)
      (case icZ => k_is)
      (case ttZ => k_is)
      (case gaZ => k_is)
      (case ggZ => k_is)
      (case hdZ => k_is)
      (case hcZ => k_is)
      (case moZ => k_is)
      (case exZ => k_is)
      (case keZ => k_is)
      (case sSZ => k_is)
      (case qZ => k_exc)
      (case suZF => k_is)
      (case nRZ => k_is)
      (case nZR => k_is)
      (case nNZ => k_is)
      (case nZN => k_is)
      (case nRN => k_is)
      (case nNR => k_is)
      (case hgT => k_is)
      (case hgL => k_is)
      (case hgM => k_is)
      (case hgP => k_is)
      (case hgU => k_is)
      (case hgO => k_is)
      (case hgW => k_is)
      (case aTP => k_is)
      (case lTP => k_is)
      (case aDB => k_is)
      (case lDB => k_is)
      (case hkDB0 => rfl)
      (case nsDB0 => first | k_is | kernel_rfl)
      (case hkDB1 => rfl)
      (case nsDB1 => first | k_is | kernel_rfl)
      (case hkDB2 => rfl)
      (case nsDB2 => first | k_is | kernel_rfl)
      (case lowDB => kernel_rfl)
      (case lD1 => k_is)
      (case lD2 => k_is)
      (case lD3 => k_is)
      (case hdcR => kernel_rfl)
      (case nocR => kernel_rfl)
      (case neqT => kernel_rfl)
      (case hdcL => kernel_rfl)
      (case nocL => kernel_rfl)
      (case zint => k_is)
      (case zlen => k_is)
      (case zabs => k_is)
      (case zlist => k_is)
      (case zmin => k_is)
      (case zmax => k_is)
      (case zisinstance => k_is)
      (case zbool => k_is)
      (case ztuple => k_is)
      (case zall => k_is)
      (case zrange => k_is)
      (case zrepr => k_is)
      (case zany => k_is)
      (case zdict => k_is)
      (case zzip => k_is)
      (case zsum => k_is)
      (case zdivmod => k_is))
