import PyProof.Rows.All
import Wide.All
import OpenK.AllK
import Wide.FinOn
import HandS.ForMost
import HandS.Wide
import HandS.Codes
import HandS.IsInst
import HandS.Defaults
import HandS.MakeKw
import HandS.MakeKwOnly
import HandS.ClsMeth
import HandS.TupAny
import HandS.Style
import HandS.Zip
import HandS.Deep
import HandS.Conv
import HandS.WideBits
import HandS.Iter
import HandS.Walk
import HandS.ExcInit
import KE.KRevSl
import KE.GoesZip
import KE.GoesMore
import KE.KTupSum
import PySem.Challenge.RW_evenrules_k64_whole_try_rules_and_turn_r
open PySem PySem.W PyProof.Rows
set_option Elab.async false
set_option linter.all false
set_option maxRecDepth 100000 in
set_option maxHeartbeats 0 in
open_top hd for PySem.Challenge.rw_evenrules_k64_whole_try_rules_and_turn_r
set_option maxRecDepth 100000
set_option maxHeartbeats 4000000
namespace Ev
open PySem L2
def top (i : Nat) : Stmt := PySem.Challenge.pw_evenrules_k64_whole_try_rules_and_turn_r.main.body.getD i (.Pass ⟨0, 0, 0, 0⟩)
abbrev sKept : Stmt := top 1
abbrev sIsFlat : Stmt := top 2
abbrev sCopiedDeep : Stmt := top 3
abbrev sPartsOf : Stmt := top 4
abbrev sRebuilt : Stmt := top 5
abbrev sBadRule_init : Stmt := inClass (top 8) 0
abbrev sNoHalves_init : Stmt := inClass (top 9) 0
abbrev sBadNumber_init : Stmt := inClass (top 10) 0
abbrev sBadOther_init : Stmt := inClass (top 11) 0
abbrev sBadDeeds_init : Stmt := inClass (top 12) 0
abbrev sBadText_init : Stmt := inClass (top 13) 0
abbrev sIsInt : Stmt := top 15
abbrev sWithin : Stmt := top 16
abbrev sNumberWord : Stmt := top 20
abbrev sPairWord : Stmt := top 21
abbrev sReadNumber : Stmt := top 22
abbrev sReadPair : Stmt := top 23
abbrev sWeightRule_call : Stmt := inClass (top 30) 1
abbrev sWeightRule_greatest : Stmt := inClass (top 30) 2
abbrev sWeightRule_least : Stmt := inClass (top 30) 3
abbrev sWeightRule_read : Stmt := inClass (top 30) 4
abbrev sTurnRule_init : Stmt := inClass (top 31) 0
abbrev sTurnRule_turns : Stmt := inClass (top 31) 1
abbrev sTurnRule_eq : Stmt := inClass (top 31) 2
abbrev sTurnRule_str : Stmt := inClass (top 31) 3
abbrev sTryRule_init : Stmt := inClass (top 32) 0
abbrev sTryRule_turns : Stmt := inClass (top 32) 1
abbrev sTryRule_twice_is_fair : Stmt := inClass (top 32) 2
abbrev sTryRule_eq : Stmt := inClass (top 32) 3
abbrev sTryRule_str : Stmt := inClass (top 32) 4
abbrev sAreFair : Stmt := top 33
abbrev sGreatestBeside : Stmt := top 34
abbrev sLeastBeside : Stmt := top 35
abbrev sLeastPart : Stmt := top 36
abbrev sNeedRule : Stmt := top 37
abbrev sNeedWeight : Stmt := top 38
abbrev sPair : Stmt := top 39
abbrev sIsTimes : Stmt := top 40
abbrev sIsPlus : Stmt := top 41
abbrev sIsTurn : Stmt := top 42
abbrev sNeedTimes : Stmt := top 43
abbrev sHasHalves : Stmt := top 44
abbrev sNeedHalves : Stmt := top 45
abbrev sWrongRuleWord : Stmt := top 46
abbrev sWordValue : Stmt := top 47
abbrev sCanStand : Stmt := top 48
abbrev sIsListOfIntegers : Stmt := top 50
abbrev sCase_init : Stmt := inClass (top 59) 0
abbrev sCase_eq : Stmt := inClass (top 59) 1
abbrev sIsDeed : Stmt := top 60
abbrev sIsCase : Stmt := top 61
abbrev sCaseRows : Stmt := top 62
abbrev sShortRows : Stmt := top 63
abbrev sLongRows : Stmt := top 64
abbrev sTurnRow : Stmt := top 65
abbrev sTooHeavy : Stmt := top 66
abbrev sNumbersBreak : Stmt := top 67
abbrev sKeepShort : Stmt := top 68
abbrev sKeepLong : Stmt := top 69
abbrev sGrip_init : Stmt := inClass (top 71) 0
abbrev sGrip_first_break : Stmt := inClass (top 71) 1
abbrev sGrip_first_of : Stmt := inClass (top 71) 2
abbrev sGrip_once_ends : Stmt := inClass (top 71) 3
abbrev sGrip_numbers_of : Stmt := inClass (top 71) 4
abbrev sGrip_near_ends : Stmt := inClass (top 71) 5
abbrev sGrip_with_near : Stmt := inClass (top 71) 6
abbrev sTurnEnds : Stmt := top 72
abbrev sHeavyEnds : Stmt := top 73
abbrev sWrong_init : Stmt := inClass (top 78) 0
abbrev sWrong_eq : Stmt := inClass (top 78) 1
abbrev sWrong_bool : Stmt := inClass (top 78) 2
abbrev sBreaks : Stmt := top 79
abbrev sPen : Stmt := top 81
abbrev sDraw : Stmt := top 82
abbrev sPick : Stmt := top 83
abbrev sLNumbers : Stmt := top 84
abbrev sLRule : Stmt := top 85
abbrev sLCarried : Stmt := top 86
abbrev sLPairRight : Stmt := top 87
abbrev sLaw : Stmt := top 88
end Ev
namespace Ev
open PySem L2
/-- all that was tracked is as it was, but at p -/
def But (p : Addr) (H H' : Hp) : Prop := ∀ b o, b ≠ p → H b = some o → H' b = some o
theorem But.refl (p : Addr) (H : Hp) : But p H H := fun _ _ _ e => e
theorem But.trans {p : Addr} {H H1 H2 : Hp} (a : But p H H1) (b : But p H1 H2) : But p H H2 := fun c o n e => b c o n (a c o n e)
theorem Same.but {p : Addr} {H H' : Hp} (a : Same H H') : But p H H' := fun c o _ e => a c o e
theorem But.upd_new {p q : Addr} {H : Hp} {o : HO} (h : H q = none) : But p H (upd H q o) := fun b u _ e => by
  rw [upd_ne (ne_of_none e h)]; exact e
theorem But.upd_at {p : Addr} {H : Hp} {o : HO} : But p H (upd H p o) := fun b u n e => by
  rw [upd_ne n]; exact e
/-- the pen: a list of a list of ints, how often it was asked, and a rest -/
def Pen (L : Addr) (H : Hp) (p : Addr) (B : Int) : Prop := ∃ (ns : List Int) (turn carry : Int),
  H p = some (.lst [.ref L, .int turn, .int carry]) ∧ H L = some (.lst (ns.map V.int)) ∧ L ≠ p ∧ ns.length ≤ 63 ∧ 0 ≤ turn ∧ turn ≤ B ∧ 0 ≤ carry
theorem Pen.keep {L : Addr} {H H' : Hp} {p : Addr} {B : Int} (h : Pen L H p B) (k : Same H H') : Pen L H' p B := by
  obtain ⟨ns, t, c, h1, h2, h3, h4, h5, h6, h7⟩ := h
  exact ⟨ns, t, c, k _ _ h1, k _ _ h2, h3, h4, h5, h6, h7⟩
theorem Pen.mono {L : Addr} {H : Hp} {p : Addr} {B B' : Int} (h : Pen L H p B) (k : B ≤ B') : Pen L H p B' := by
  obtain ⟨ns, t, c, h1, h2, h3, h4, h5, h6, h7⟩ := h
  exact ⟨ns, t, c, h1, h2, h3, h4, h5, by omega, h7⟩
def spDraw : Sp := fun vs H Q _ => ∃ (p L : Addr) (m B : Int), vs = [.ref p, .int m] ∧ 1 ≤ m ∧ m ≤ 100000000000000000000000000000 ∧ B ≤ 1000000 ∧ Pen L H p B ∧
  ∀ (d : Int) (H' : Hp), But p H H' → Pen L H' p (B + 1) → 0 ≤ d → d < m → Q (.int d) H'
theorem dpInts {K : PySem.W.Frag} {H : Hp} : ∀ ns : List Int, DpAll K H (ns.map V.int) (ns.map PyData.int)
  | [] => .nil
  | n :: r => .cons (.int n) (dpInts r)
theorem sh_ints (ns : List Int) : SeqAt.shaped (.list (ns.map PyData.int)) = true := by
  have h1 : ∀ ns : List Int, PyData.canLayAll0 (ns.map PyData.int) = true := by
    intro ns
    induction ns with
    | nil => rfl
    | cons n r ih => simp [PyData.canLayAll0, PyData.canLay0, ih]
  have h2 : ∀ ns : List Int, PyData.depthAll (ns.map PyData.int) ≤ 1 := by
    intro ns
    induction ns with
    | nil => simp [PyData.depthAll]
    | cons n r ih => simp [PyData.depthAll, PyData.depth]; omega
  unfold SeqAt.shaped
  rw [Bool.and_eq_true]
  refine ⟨by simp [PyData.canLay0, h1], decide_eq_true ?_⟩
  have := h2 ns
  simp [PyData.depth]; omega
theorem eqv_nil (ns : List Int) : PyData.eqv (.list (ns.map PyData.int)) (.list []) = ns.isEmpty := by
  cases ns <;> simp [PyData.eqv, PyData.eqvAll]
section
variable {P : Program} {w : World} {K : PySem.W.Frag} {mg : Str → Option Value} {base : Heap}
/-- built-ins that the program does not cover -/
structure Blt (mg : Str → Option Value) : Prop where
  int : mg "int" = none
  len : mg "len" = none
  abs : mg "abs" = none
  list : mg "list" = none
  min : mg "min" = none
  max : mg "max" = none
  isi : mg "isinstance" = none
  bool : mg "bool" = none
  tuple : mg "tuple" = none
  all : mg "all" = none
  range : mg "range" = none
  repr : mg "repr" = none
theorem scD : FnScope ["_law_pen_here", "_law_many", "_law_digit", "_law_at", "_law_cell", "_law_great", "_law_mixed"] ["_law_pen_here", "_law_many"] (defScope sDraw) := ⟨rfl, rfl, rfl, by decide +kernel, rfl, by decide +kernel, by decide +kernel⟩
theorem fmod_lo (a : Int) {m : Int} (h : 1 ≤ m) : 0 ≤ a.fmod m := by rw [Int.fmod_eq_emod_of_nonneg a (by omega)]; exact Int.emod_nonneg a (by omega)
theorem fmod_hi (a : Int) {m : Int} (h : 1 ≤ m) : a.fmod m < m := by rw [Int.fmod_eq_emod_of_nonneg a (by omega)]; exact Int.emod_lt_of_pos a (by omega)
theorem fdiv_lo {a m : Int} (h : 1 ≤ m) (h0 : 0 ≤ a) : 0 ≤ a.fdiv m := by rw [Int.fdiv_eq_ediv_of_nonneg a (by omega)]; exact Int.ediv_nonneg h0 (by omega)
theorem cell_at {ns : List Int} (h : ns ≠ []) (t : Int) : ∃ c : Int, atI (ns.map V.int) (t.fmod (((ns.map V.int).length : Nat) : Int)) = some (V.int c) := by
  rw [List.length_map]
  have l : 0 < ns.length := List.length_pos_iff.mpr h
  have h1 : 0 ≤ t.fmod (ns.length : Int) := fmod_lo t (by omega)
  have h2 : t.fmod (ns.length : Int) < ns.length := fmod_hi t (by omega)
  generalize t.fmod (ns.length : Int) = i at h1 h2
  obtain ⟨j, rfl⟩ := Int.eq_ofNat_of_zero_le h1
  have hj : j < ns.length := by omega
  exact ⟨ns[j], atI_nat (by rw [List.getElem?_map, List.getElem?_eq_getElem hj]; rfl)⟩
theorem mul_le_of {a b A B : Int} (a0 : 0 ≤ a) (b0 : 0 ≤ b) (ha : a ≤ A) (hb : b ≤ B) : 0 ≤ a * b ∧ a * b ≤ A * B :=
  ⟨Int.mul_nonneg a0 b0, Int.mul_le_mul ha hb b0 (by omega)⟩
theorem bound1 (c : Int) {M C D t : Int} (hM : 1 ≤ M) (hM2 : M ≤ 4294967296) (hC : 0 ≤ C ∧ C ≤ 1000000) (hD : 0 ≤ D ∧ D ≤ 1000000) (h0 : 0 ≤ t) (h1 : t ≤ 1000000) : (c.fmod M + C * t + D).natAbs < 2 ^ 64 := by
  have a1 := fmod_lo c hM
  have a2 := fmod_hi c hM
  have ⟨a3, a4⟩ := mul_le_of hC.1 h0 hC.2 h1
  omega
theorem bound2 {x C5 C6 C7 t : Int} (hx : 0 ≤ x ∧ x < 4294967296) (h5 : 0 ≤ C5 ∧ C5 ≤ 1000000) (h6 : 0 ≤ C6 ∧ C6 ≤ 1000000) (h7 : 0 ≤ C7 ∧ C7 ≤ 1000000) (h0 : 0 ≤ t) (h1 : t ≤ 1000000) :
    (x * (2 * t + C5) + C6 * t * t + C7).natAbs < 2 ^ 64 := by
  have ⟨a1, a2⟩ := mul_le_of (b := 2 * t + C5) (A := 4294967296) (B := 3000000) hx.1 (by omega) (by omega) (by omega)
  have ⟨a3, a4⟩ := mul_le_of h6.1 h0 h6.2 h1
  have ⟨a5, a6⟩ := mul_le_of a3 h0 a4 h1
  omega
theorem great_nn {c e : Int} (h : e ≤ (if c < 0 then -c else c)) (b : Bool) : 0 ≤ 2 * ((if c < 0 then -c else c) - e) + (if b = true then 1 else 0) := by
  cases b
  · rw [if_neg Bool.false_ne_true]; omega
  · rw [if_pos rfl]; omega
theorem lt64 {x : Int} (h : 0 ≤ x ∧ x < 4294967296) : -(2 ^ 64) < x ∧ x < 2 ^ 64 := ⟨by omega, by omega⟩
theorem nz {M : Int} (h : 0 < M) : M ≠ 0 := by omega
theorem divW {i m : Int} (h : 1 ≤ m) (h2 : m ≤ 100000000000000000000000000000) : CDivW i m := wide_div (b := 97) (by omega) (by omega) (by decide) (by decide)
theorem ediv_lo {a m : Int} (h : 1 ≤ m) (h0 : 0 ≤ a) : 0 ≤ a / m := Int.ediv_nonneg h0 (by omega)
theorem ok_draw {f : Addr} {fd : FuncData} (F : Fun K "_law_draw" "_law_draw" sDraw f fd) (T : Blt mg) : FnOk P w K mg base CX0 1 f fd ["_law_pen_here", "_law_many"] spDraw := by
  refine F.ok scD (fun vs H Q E h => ?_) (fun cdv A outer s H vs Q E hr h => ?_)
  · obtain ⟨p, L, m, B, rfl, _⟩ := h
    rfl
  · obtain ⟨p, L, m, B, rfl, hm, hm2, hB, ⟨ns, tn, ca, hp, hL, Lp, hlen, t0, tB, c0⟩, k⟩ := h
    have hu := hu_of hr
    refine ⟨_, pss_cons (ps_if (pt_cmpR op_gt (pe_ix ix_list (pv 0) pe_int (fun _ _ => rfl)) pe_int (nomark _))
        (pss_cons (ps_set (i := 2) scD.nd rfl (.inl rfl) (pe_op op_modN (pe_callTy call_int1 (by rfl) T.int (by decide +kernel) (pa_cons (pe_ix ix_list (pv 0) pe_int (fun _ _ => rfl)) pa_nil)) (pv 1)))
        (pss_cons (ps_asg (pe_op op_fdivW (pe_callTy call_int1 (by rfl) T.int (by decide +kernel) (pa_cons (pe_ix ix_list (pv 0) pe_int (fun _ _ => rfl)) pa_nil)) (pv 1)) (pg_sub (pv 0) pe_int set_list))
        (pss_one (ps_ret (pv 2))))) pss_nil)
      (pss_cons (ps_set (i := 3) scD.nd rfl (.inl rfl) (pe_ix ix_list (pv 0) pe_int (fun _ _ => rfl)))
      (pss_cons (ps_asg (pe_op op_add (pv 3) pe_int) (pg_sub (pv 0) pe_int set_list))
      (pss_cons (ps_set (i := 4) scD.nd rfl (.inl rfl) (pe_op op_add (pe_op op_mul pe_int (pv 3)) pe_int))
      (pss_cons (ps_if (pt_cmpR (op_neD hr.units) (pe_ix ix_list (pv 0) pe_int (fun _ _ => rfl)) (pe_lst pa_nil) (nomark _))
        (pss_one (ps_set (i := 4) scD.nd rfl (.inl rfl) (pe_ix ix_list (pe_ix ix_list (pv 0) pe_int (fun _ _ => rfl))
          (pe_op op_modN (pe_callTy call_int1 (by rfl) T.int (by decide +kernel) (pa_cons (pv 3) pa_nil)) (pe_callB call_len_seq (by rfl) T.len PySem.boot_len (pa_cons (pe_ix ix_list (pv 0) pe_int (fun _ _ => rfl)) pa_nil))) (fun _ _ => rfl)))) pss_nil)
      (pss_cons (ps_if (PW.pt (pw_and (pt_cmpR op_lt (pv 3) (pe_callB call_len_seq (by rfl) T.len PySem.boot_len (pa_cons (pe_ix ix_list (pv 0) pe_int (fun _ _ => rfl)) pa_nil)) (nomark _))
          (pw_and1 (pt_cmpR op_ge (pe_callB call_abs (by rfl) T.abs (by decide +kernel) (pa_cons (pv 4) pa_nil)) (pe_op op_pow pe_int pe_int) (nomark _)))))
        (pss_cons (ps_set (i := 5) scD.nd rfl (.inl rfl) (pe_op op_add (pe_op op_mul pe_int (pe_op op_sub (pe_callB call_abs (by rfl) T.abs (by decide +kernel) (pa_cons (pv 4) pa_nil)) (pe_op op_pow pe_int pe_int)))
            (pe_callTy call_int1 (by rfl) T.int (by decide +kernel) (pa_cons (pe_cmpR op_lt (pv 4) pe_int (nomark _)) pa_nil))))
        (pss_cons (ps_asg (pe_op op_fdivW (pe_callTy call_int1 (by rfl) T.int (by decide +kernel) (pa_cons (pv 5) pa_nil)) (pv 1)) (pg_sub (pv 0) pe_int set_list))
        (pss_one (ps_ret (pe_op op_modN (pe_callTy call_int1 (by rfl) T.int (by decide +kernel) (pa_cons (pv 5) pa_nil)) (pv 1)))))) pss_nil)
      (pss_cons (ps_set (i := 6) scD.nd rfl (.inl rfl) (pe_op op_modN (pe_callTy call_int1 (by rfl) T.int (by decide +kernel) (pa_cons (pe_op op_pow (pe_op op_add (pe_op op_add
          (pe_op op_modN (pe_callTy call_int1 (by rfl) T.int (by decide +kernel) (pa_cons (pv 4) pa_nil)) pe_int) (pe_op op_mul pe_int (pv 3))) pe_int) pe_int) pa_nil)) pe_int))
      (pss_cons (ps_set (i := 6) scD.nd rfl (.inl rfl) (pe_op op_modN (pe_callTy call_int1 (by rfl) T.int (by decide +kernel) (pa_cons (pe_op op_pow (pe_op op_add (pe_op op_add
          (pe_op op_mul (pv 6) (pe_op op_add (pe_op op_mul pe_int (pv 3)) pe_int)) (pe_op op_mul (pe_op op_mul pe_int (pv 3)) (pv 3))) pe_int) pe_int) pa_nil)) pe_int))
      (pss_one (ps_ret (pe_op op_modN (pe_callTy call_int1 (by rfl) T.int (by decide +kernel) (pa_cons (pe_op op_fdivN (pv 6) pe_int) pa_nil)) (pv 1))))))))))), ?_⟩
    have i2 : ∀ {a b c : V}, atI [a, b, c] 2 = some c := fun {a b c} => atI_nat (j := 2) rfl
    have i1 : ∀ {a b c : V}, atI [a, b, c] 1 = some b := fun {a b c} => atI_nat (j := 1) rfl
    have i0 : ∀ {a b c : V}, atI [a, b, c] 0 = some a := fun {a b c} => atI_nat (j := 0) rfl
    -- if pen[2] > 0
    refine ⟨_, rfl, p, _, 2, _, rfl, rfl, SqL.of hp, i2, _, _, rfl, rfl, _, rfl, ite2 (fun e => ?_) (fun e => ?_)⟩
    · -- digit
      refine ⟨_, rfl, p, _, 2, _, rfl, rfl, SqL.of hp, i2, .inl ⟨_, rfl, _, rfl, _, _, rfl, rfl, (by omega), ?_⟩⟩
      refine ⟨_, rfl, p, _, 2, _, rfl, rfl, SqL.of hp, i2, .inl ⟨_, rfl, _, rfl, _, _, rfl, rfl, divW hm hm2, _, rfl, p, _, _, 2, rfl, rfl, hp, rfl, ?_⟩⟩
      refine ⟨_, rfl, ?_⟩
      exact k _ _ But.upd_at ⟨ns, tn, _, upd_same, by rw [upd_ne Lp]; exact hL, Lp, hlen, t0, by omega, ediv_lo hm c0⟩ (fmod_lo _ hm) (fmod_hi _ hm)
    · -- turn
      refine ⟨_, rfl, p, _, 1, _, rfl, rfl, SqL.of hp, i1, ?_⟩
      refine ⟨_, rfl, _, _, rfl, rfl, _, rfl, p, _, _, 1, rfl, rfl, hp, rfl, ?_⟩
      have hp1 : upd H p (.lst ([V.ref L, V.int tn, V.int ca].set 1 (V.int (tn + 1)))) p = some (.lst [.ref L, .int (tn + 1), .int ca]) := upd_same
      have hL1 : upd H p (.lst ([V.ref L, V.int tn, V.int ca].set 1 (V.int (tn + 1)))) L = some (.lst (ns.map V.int)) := by rw [upd_ne Lp]; exact hL
      have b1 : But p H (upd H p (.lst ([V.ref L, V.int tn, V.int ca].set 1 (V.int (tn + 1))))) := But.upd_at
      generalize upd H p (.lst ([V.ref L, V.int tn, V.int ca].set 1 (V.int (tn + 1)))) = H1 at hp1 hL1 b1 ⊢
      -- cell = c * turn + c'
      refine ⟨_, rfl, _, _, rfl, rfl, .inl ⟨by decide, by decide⟩, _, _, rfl, rfl, ?_⟩
      -- if pen[0] != []
      refine ⟨_, rfl, p, _, 0, _, rfl, rfl, SqL.of hp1, i0, by decide, fun l hl => ?_⟩
      have n1 : p ≠ l := ne_of_none hp1 hl
      have n2 : L ≠ l := ne_of_none hL1 hl
      have hp2 : upd H1 l (.lst []) p = some (.lst [.ref L, .int (tn + 1), .int ca]) := by rw [upd_ne n1]; exact hp1
      have hL2 : upd H1 l (.lst []) L = some (.lst (ns.map V.int)) := by rw [upd_ne n2]; exact hL1
      have hl2 : upd H1 l (.lst []) l = some (.lst []) := upd_same
      have b2 : But p H (upd H1 l (.lst [])) := b1.trans (But.upd_new hl)
      clear b1 hp1 hL1
      generalize upd H1 l (.lst []) = H2 at hp2 hL2 hl2 b2
      refine ⟨_, _, .lst (SqL.of hL2) (dpInts ns), .lst (SqL.of hl2) .nil, sh_ints ns, sh_ints [], _, rfl, ?_⟩
      rw [eqv_nil]
      -- the rest, for any cell
      have hcell : ∀ c : Int, ∃ j : Int, (if c < 0 then -c else c) = j ∧ 0 ≤ j := fun c => by
        by_cases z : c < 0
        · exact ⟨_, rfl, by rw [if_pos z]; omega⟩
        · exact ⟨_, rfl, by rw [if_neg z]; omega⟩
      have fin : ∀ H' : Hp, H' p = some (.lst [.ref L, .int (tn + 1), .int ca]) → H' L = some (.lst (ns.map V.int)) → But p H H' → Pen L H' p (B + 1) := fun H' e1 e2 _ =>
        ⟨ns, tn + 1, ca, e1, e2, Lp, hlen, by omega, by omega, c0⟩
      have ht : tn ≤ 1000000 := by omega
      have hm6 : 0 ≤ 72035 * tn ∧ 72035 * tn ≤ 72035 * 1000000 := mul_le_of (by decide) t0 (Int.le_refl _) ht
      have hq : ∀ {x m : Int}, 1 ≤ m → m ≤ 4294967296 → 0 ≤ x.fmod m ∧ x.fmod m < 4294967296 := fun {x m} h1 h2 => ⟨fmod_lo x h1, by have := fmod_hi x h1; omega⟩
      cases hn : ns with
      | nil =>
        refine iteF ?_
        refine ⟨_, rfl, _, rfl, p, _, 0, _, rfl, rfl, SqL.of hp2, i0, L, _, rfl, .inl (SqL.of hL2), _, _, rfl, rfl, _, rfl, ite2 (fun e1 => ?_) (fun e1 => ?_)⟩
        · refine ⟨_, rfl, _, rfl, _, _, rfl, rfl, ⟨by decide, by decide, by decide⟩, _, _, rfl, rfl, _, rfl, ite2 (fun e2 => ?_) (fun e2 => ?_)⟩
          · refine ⟨_, rfl, _, rfl, _, _, rfl, rfl, ⟨by decide, by decide, by decide⟩, _, _, rfl, rfl, _, _, rfl, rfl, .inl ⟨by decide, by decide⟩, _, rfl, _, _, rfl, rfl, .inr ⟨_, rfl, _, _, rfl, rfl, ?_⟩⟩
            refine ⟨_, rfl, .inl ⟨_, rfl, _, rfl, _, _, rfl, rfl, divW hm hm2, _, rfl, p, _, _, 2, rfl, rfl, hp2, rfl, ?_⟩⟩
            refine ⟨_, rfl, .inl ⟨_, rfl, _, rfl, _, _, rfl, rfl, (by omega), ?_⟩⟩
            refine k _ _ (b2.trans But.upd_at) ⟨_, tn + 1, _, upd_same, by rw [upd_ne Lp]; exact hL2, Lp, hlen, by omega, by omega, ediv_lo hm ?_⟩ (fmod_lo _ hm) (fmod_hi _ hm)
            have e3 := of_decide_eq_true e2
            exact great_nn e3 _
          · skip
            refine ⟨_, rfl, .inl ⟨_, rfl, _, _, rfl, rfl, nz (by decide), _, rfl, _, _, rfl, rfl, .inl ⟨by decide, by decide⟩, _, _, rfl, rfl, _, _, rfl, rfl, _, _, rfl, rfl, ⟨by decide, by decide, bound1 _ (by decide) (by decide) (by decide) (by decide) t0 ht⟩, .inl ⟨_, rfl, _, _, rfl, rfl, nz (by decide), ?_⟩⟩⟩
            refine ⟨_, rfl, _, rfl, _, _, rfl, rfl, .inl ⟨by decide, by decide⟩, _, _, rfl, rfl, _, _, rfl, rfl, .inl ?_, _, rfl, _, _, rfl, rfl, .inl ⟨by decide, by decide⟩, _, rfl, _, _, rfl, rfl, .inl ?_, _, _, rfl, rfl, _, _, rfl, rfl, _, _, rfl, rfl, ⟨by decide, by decide, ?_⟩, .inl ⟨_, rfl, _, _, rfl, rfl, nz (by decide), ?_⟩⟩
            · exact lt64 (hq (by decide) (by decide))
            · exact ⟨by omega, by omega⟩
            · exact bound2 (hq (by decide) (by decide)) (by decide) (by decide) (by decide) t0 ht
            · refine ⟨_, rfl, _, _, rfl, rfl, ⟨by decide, by decide⟩, .inl ⟨_, rfl, _, rfl, _, _, rfl, rfl, (by omega), ?_⟩⟩
              exact k _ _ b2 (fin _ hp2 hL2 b2) (fmod_lo _ hm) (fmod_hi _ hm)
        · skip
          refine ⟨_, rfl, .inl ⟨_, rfl, _, _, rfl, rfl, nz (by decide), _, rfl, _, _, rfl, rfl, .inl ⟨by decide, by decide⟩, _, _, rfl, rfl, _, _, rfl, rfl, _, _, rfl, rfl, ⟨by decide, by decide, bound1 _ (by decide) (by decide) (by decide) (by decide) t0 ht⟩, .inl ⟨_, rfl, _, _, rfl, rfl, nz (by decide), ?_⟩⟩⟩
          refine ⟨_, rfl, _, rfl, _, _, rfl, rfl, .inl ⟨by decide, by decide⟩, _, _, rfl, rfl, _, _, rfl, rfl, .inl ?_, _, rfl, _, _, rfl, rfl, .inl ⟨by decide, by decide⟩, _, rfl, _, _, rfl, rfl, .inl ?_, _, _, rfl, rfl, _, _, rfl, rfl, _, _, rfl, rfl, ⟨by decide, by decide, ?_⟩, .inl ⟨_, rfl, _, _, rfl, rfl, nz (by decide), ?_⟩⟩
          · exact lt64 (hq (by decide) (by decide))
          · exact ⟨by omega, by omega⟩
          · exact bound2 (hq (by decide) (by decide)) (by decide) (by decide) (by decide) t0 ht
          · refine ⟨_, rfl, _, _, rfl, rfl, ⟨by decide, by decide⟩, .inl ⟨_, rfl, _, rfl, _, _, rfl, rfl, (by omega), ?_⟩⟩
            exact k _ _ b2 (fin _ hp2 hL2 b2) (fmod_lo _ hm) (fmod_hi _ hm)
      | cons n0 nr =>
        refine iteT ?_
        obtain ⟨c, hc⟩ := cell_at (ns := ns) (by rw [hn]; exact List.cons_ne_nil _ _) tn
        refine ⟨_, rfl, p, _, 0, _, rfl, rfl, SqL.of hp2, i0, _, rfl, .inl ⟨_, rfl, _, rfl, p, _, 0, _, rfl, rfl, SqL.of hp2, i0, L, _, rfl, .inl (SqL.of hL2), _, _, rfl, rfl, (by rw [List.length_map, hn, List.length_cons]; omega), L, _, _, _, rfl, rfl, SqL.of hL2, hc, ?_⟩⟩
        refine ⟨_, rfl, _, rfl, p, _, 0, _, rfl, rfl, SqL.of hp2, i0, L, _, rfl, .inl (SqL.of hL2), _, _, rfl, rfl, _, rfl, ite2 (fun e1 => ?_) (fun e1 => ?_)⟩
        · refine ⟨_, rfl, _, rfl, _, _, rfl, rfl, ⟨by decide, by decide, by decide⟩, _, _, rfl, rfl, _, rfl, ite2 (fun e2 => ?_) (fun e2 => ?_)⟩
          · refine ⟨_, rfl, _, rfl, _, _, rfl, rfl, ⟨by decide, by decide, by decide⟩, _, _, rfl, rfl, _, _, rfl, rfl, .inl ⟨by decide, by decide⟩, _, rfl, _, _, rfl, rfl, .inr ⟨_, rfl, _, _, rfl, rfl, ?_⟩⟩
            refine ⟨_, rfl, .inl ⟨_, rfl, _, rfl, _, _, rfl, rfl, divW hm hm2, _, rfl, p, _, _, 2, rfl, rfl, hp2, rfl, ?_⟩⟩
            refine ⟨_, rfl, .inl ⟨_, rfl, _, rfl, _, _, rfl, rfl, (by omega), ?_⟩⟩
            refine k _ _ (b2.trans But.upd_at) ⟨_, tn + 1, _, upd_same, by rw [upd_ne Lp]; exact hL2, Lp, hlen, by omega, by omega, ediv_lo hm ?_⟩ (fmod_lo _ hm) (fmod_hi _ hm)
            have e3 := of_decide_eq_true e2
            exact great_nn e3 _
          · skip
            refine ⟨_, rfl, .inl ⟨_, rfl, _, _, rfl, rfl, nz (by decide), _, rfl, _, _, rfl, rfl, .inl ⟨by decide, by decide⟩, _, _, rfl, rfl, _, _, rfl, rfl, _, _, rfl, rfl, ⟨by decide, by decide, bound1 _ (by decide) (by decide) (by decide) (by decide) t0 ht⟩, .inl ⟨_, rfl, _, _, rfl, rfl, nz (by decide), ?_⟩⟩⟩
            refine ⟨_, rfl, _, rfl, _, _, rfl, rfl, .inl ⟨by decide, by decide⟩, _, _, rfl, rfl, _, _, rfl, rfl, .inl ?_, _, rfl, _, _, rfl, rfl, .inl ⟨by decide, by decide⟩, _, rfl, _, _, rfl, rfl, .inl ?_, _, _, rfl, rfl, _, _, rfl, rfl, _, _, rfl, rfl, ⟨by decide, by decide, ?_⟩, .inl ⟨_, rfl, _, _, rfl, rfl, nz (by decide), ?_⟩⟩
            · exact lt64 (hq (by decide) (by decide))
            · exact ⟨by omega, by omega⟩
            · exact bound2 (hq (by decide) (by decide)) (by decide) (by decide) (by decide) t0 ht
            · refine ⟨_, rfl, _, _, rfl, rfl, ⟨by decide, by decide⟩, .inl ⟨_, rfl, _, rfl, _, _, rfl, rfl, (by omega), ?_⟩⟩
              exact k _ _ b2 (fin _ hp2 hL2 b2) (fmod_lo _ hm) (fmod_hi _ hm)
        · skip
          refine ⟨_, rfl, .inl ⟨_, rfl, _, _, rfl, rfl, nz (by decide), _, rfl, _, _, rfl, rfl, .inl ⟨by decide, by decide⟩, _, _, rfl, rfl, _, _, rfl, rfl, _, _, rfl, rfl, ⟨by decide, by decide, bound1 _ (by decide) (by decide) (by decide) (by decide) t0 ht⟩, .inl ⟨_, rfl, _, _, rfl, rfl, nz (by decide), ?_⟩⟩⟩
          refine ⟨_, rfl, _, rfl, _, _, rfl, rfl, .inl ⟨by decide, by decide⟩, _, _, rfl, rfl, _, _, rfl, rfl, .inl ?_, _, rfl, _, _, rfl, rfl, .inl ⟨by decide, by decide⟩, _, rfl, _, _, rfl, rfl, .inl ?_, _, _, rfl, rfl, _, _, rfl, rfl, _, _, rfl, rfl, ⟨by decide, by decide, ?_⟩, .inl ⟨_, rfl, _, _, rfl, rfl, nz (by decide), ?_⟩⟩
          · exact lt64 (hq (by decide) (by decide))
          · exact ⟨by omega, by omega⟩
          · exact bound2 (hq (by decide) (by decide)) (by decide) (by decide) (by decide) t0 ht
          · refine ⟨_, rfl, _, _, rfl, rfl, ⟨by decide, by decide⟩, .inl ⟨_, rfl, _, rfl, _, _, rfl, rfl, (by omega), ?_⟩⟩
            exact k _ _ b2 (fin _ hp2 hL2 b2) (fmod_lo _ hm) (fmod_hi _ hm)
end
end Ev
namespace Ev
open PySem L2
abbrev sTryInit : Stmt := inClass (top 32) 0
abbrev sTryTurns : Stmt := inClass (top 32) 1
abbrev sTwice : Stmt := inClass (top 32) 2
abbrev sTurnInit : Stmt := inClass (top 31) 0
abbrev sTurnTurns : Stmt := inClass (top 31) 1
abbrev sGreatest : Stmt := inClass (top 30) 2
abbrev sFair : Stmt := top 33
abbrev sNeedW : Stmt := top 38
abbrev sTimes : Stmt := top 40
abbrev sPlus : Stmt := top 41
abbrev sTurn : Stmt := top 42
abbrev sNeedT : Stmt := top 43
abbrev sHalves : Stmt := top 44
abbrev sNeedH : Stmt := top 45
def fairB (p q k x y : Int) : Bool := decide (q * y ≤ p * x + k) && decide (q * x ≤ p * y + k)
def spIsInt : Sp := fun vs H Q _ => ∃ i : Int, vs = [.int i] ∧ Q (.bl true) H
def spWithin : Sp := fun vs H Q _ => ∃ v l m : Int, vs = [.int v, .int l, .int m] ∧ l ≤ v ∧ v ≤ m ∧ Q (.bl true) H
def spNeedW : Sp := fun vs H Q _ => ∃ v : Int, vs = [.int v] ∧ 1 ≤ v ∧ v ≤ 10 ^ 60 ∧ Q .non H
def spPair (_K : PySem.W.Frag) : Sp := fun vs H Q _ => ∃ (a : Addr) (x y m : Int), vs = [.ref a, .int m] ∧ H a = some (.tup [.int x, .int y]) ∧ (1 ≤ x ∧ x ≤ m) ∧ (1 ≤ y ∧ y ≤ m) ∧ ∀ H', Same H H' → Q (.bl true) H'
def spTimes (_K : PySem.W.Frag) : Sp := fun vs H Q _ => ∃ (a : Addr) (p q : Int), vs = [.ref a] ∧ H a = some (.tup [.int p, .int q]) ∧ 1 ≤ q ∧ q ≤ p ∧ p ≤ 6 ∧ ∀ H', Same H H' → Q (.bl true) H'
def spPlus : Sp := fun vs H Q _ => ∃ k : Int, vs = [.int k] ∧ -6 ≤ k ∧ k ≤ 6 ∧ Q (.bl true) H
def spTurn (_K : PySem.W.Frag) : Sp := fun vs H Q _ => ∃ (a : Addr) (p q : Int), vs = [.ref a] ∧ H a = some (.tup [.int p, .int q]) ∧ (1 ≤ p ∧ p ≤ 8) ∧ (1 ≤ q ∧ q ≤ 8) ∧ ∀ H', Same H H' → Q (.bl true) H'
def spNeedT (_K : PySem.W.Frag) : Sp := fun vs H Q _ => ∃ (a : Addr) (p q k : Int), vs = [.ref a, .int k] ∧ H a = some (.tup [.int p, .int q]) ∧ 1 ≤ q ∧ q ≤ p ∧ p ≤ 6 ∧ -6 ≤ k ∧ k ≤ 6 ∧ ∀ H', Same H H' → Q .non H'
def spHalves (_K : PySem.W.Frag) : Sp := fun vs H Q _ => ∃ (a : Addr) (p q k : Int), vs = [.ref a, .int k] ∧ H a = some (.tup [.int p, .int q]) ∧ 2 * q ≤ p + k ∧ Q (.bl true) H
def spNeedH (_K : PySem.W.Frag) : Sp := fun vs H Q _ => ∃ (a : Addr) (p q k : Int), vs = [.ref a, .int k] ∧ H a = some (.tup [.int p, .int q]) ∧ 0 ≤ q ∧ 2 * q ≤ p + k ∧ Q .non H
section
variable {P : Program} {w : World} {K : PySem.W.Frag} {mg : Str → Option Value} {base : Heap}
theorem scIsInt : FnScope ["value"] ["value"] (defScope sIsInt) := ⟨rfl, rfl, rfl, by decide +kernel, rfl, by decide +kernel, by decide +kernel⟩
theorem ok_isInt {f : Addr} {fd : FuncData} (F : Fun K "is_integer" "is_integer" sIsInt f fd) (T : Blt mg) : FnOk P w K mg base CX0 1 f fd ["value"] spIsInt := by
  refine F.ok scIsInt (fun vs H Q E h => ?_) (fun cdv A outer s H vs Q E hr h => ?_)
  · obtain ⟨i, rfl, _⟩ := h
    rfl
  · obtain ⟨i, rfl, k⟩ := h
    refine ⟨_, pss_one (ps_ret (pe_and (pe_callB call_isi (by rfl) T.isi (by decide +kernel) (pa_cons (pv 0) (pa_cons (pe_bltn (v := .ty "int") (by rfl) T.int (by decide +kernel) rfl) pa_nil)))
      (pe_one (pe_not (pe_callB call_isi (by rfl) T.isi (by decide +kernel) (pa_cons (pv 0) (pa_cons (pe_bltn (v := .ty "bool") (by rfl) T.bool (by decide +kernel) rfl) pa_nil))))))), ?_⟩
    refine ⟨_, rfl, _, _, _, _, true, rfl, .ty _, .base (.int i), kit_ty (by decide +kernel), true, rfl, iteT ⟨_, rfl, _, _, _, _, false, rfl, .ty _, .base (.int i), kit_ty (by decide +kernel), _, rfl, ?_⟩⟩
    exact k
theorem scWithin : FnScope ["value", "least", "most"] ["value", "least", "most"] (defScope sWithin) := ⟨rfl, rfl, rfl, by decide +kernel, rfl, by decide +kernel, by decide +kernel⟩
theorem ok_within {f fI : Addr} {fd fdI : FuncData} (F : Fun K "is_within" "is_within" sWithin f fd) (T : Blt mg)
    (GI : FnOk P w K mg base CX0 1 fI fdI ["value"] spIsInt) (gI : mg "is_integer" = some (.ref fI)) (kI : PySem.W.keepIn K (.ref fI) = true) (bI : Binds K fdI ["value"] []) : FnOk P w K mg base CX0 2 f fd ["value", "least", "most"] spWithin := by
  refine F.ok scWithin (fun vs H Q E h => ?_) (fun cdv A outer s H vs Q E hr h => ?_)
  · obtain ⟨v, l, m, rfl, _⟩ := h
    rfl
  · obtain ⟨v, l, m, rfl, h1, h2, k⟩ := h
    refine ⟨_, pss_one (ps_ret (pe_and (pe_call GI hr (by rfl) gI kI bI .nil pass0 (pa_cons (pv 0) pa_nil)) (pe_one (pe_chain op_le op_le (pv 1) (pv 0) (pv 2))))), ?_⟩
    refine ⟨_, rfl, v, rfl, true, rfl, iteT ⟨_, rfl, _, rfl, _, _, rfl, rfl, true, congrArg V.bl (decide_eq_true h1), iteT ⟨_, rfl, _, _, rfl, rfl, ?_⟩⟩⟩
    show Q (.bl (decide (v ≤ m))) H
    rw [decide_eq_true h2]
    exact k

/-- a def that stands under its name -/
structure Df (P : Program) (w : World) (K : PySem.W.Frag) (mg : Str → Option Value) (base : Heap) (k : Nat) (x : Str) (ps : List Str) (sp : Sp) : Prop where
  ex : ∃ (f : Addr) (fd : FuncData), FnOk P w K mg base CX0 k f fd ps sp ∧ mg x = some (.ref f) ∧ PySem.W.keepIn K (.ref f) = true ∧ Binds K fd ps []
theorem scNeedW : FnScope ["value"] ["value"] (defScope sNeedW) := ⟨rfl, rfl, rfl, by decide +kernel, rfl, by decide +kernel, by decide +kernel⟩
theorem ok_needW {f : Addr} {fd : FuncData} (F : Fun K "need_weight" "need_weight" sNeedW f fd) (D : Df P w K mg base 2 "is_within" ["value", "least", "most"] spWithin) {t : Tok} (gM : mg "MOST_WEIGHT" = some (.int (10 ^ 60) t)) :
    FnOk P w K mg base CX0 3 f fd ["value"] spNeedW := by
  obtain ⟨fW, fdW, GW, gW, kW, bW⟩ := D.ex
  refine F.ok scNeedW (fun vs H Q E h => ?_) (fun cdv A outer s H vs Q E hr h => ?_)
  · obtain ⟨i, rfl, _⟩ := h
    rfl
  · obtain ⟨i, rfl, h1, h2, k⟩ := h
    refine ⟨_, pss_one (ps_if (pt_not (pt_val (pe_call GW hr (by rfl) gW kW bW .nil pass0 (pa_cons (pv 0) (pa_cons pe_int (pa_cons (pe_glob (v := .int (10 ^ 60)) rfl gM ⟨_, rfl⟩) pa_nil)))))) (pss_one ps_never) pss_nil), ?_⟩
    exact ⟨_, rfl, _, _, _, rfl, h1, h2, true, rfl, iteF k⟩
theorem scPair : FnScope ["value", "most", "item"] ["value", "most"] (defScope sPair) := ⟨rfl, rfl, rfl, by decide +kernel, rfl, by decide +kernel, by decide +kernel⟩
theorem ok_pair {f : Addr} {fd : FuncData} (F : Fun K "is_pair" "is_pair" sPair f fd) (T : Blt mg) (D : Df P w K mg base 2 "is_within" ["value", "least", "most"] spWithin) :
    FnOk P w K mg base CX0 3 f fd ["value", "most"] (spPair K) := by
  obtain ⟨fW, fdW, GW, gW, kW, bW⟩ := D.ex
  refine F.ok scPair (fun vs H Q E h => ?_) (fun cdv A outer s H vs Q E hr h => ?_)
  · obtain ⟨a, x, y, m, rfl, _⟩ := h
    rfl
  · obtain ⟨a, x, y, m, rfl, ha, hx, hy, k⟩ := h
    refine ⟨_, pss_one (ps_ret (pe_and (pe_callB call_isi (by rfl) T.isi (by decide +kernel) (pa_cons (pv 0) (pa_cons (pe_bltn (v := .ty "tuple") (by rfl) T.tuple (by decide +kernel) rfl) pa_nil)))
      (pe_and (pe_cmpR op_eq (pe_callB call_len_seq (by rfl) T.len PySem.boot_len (pa_cons (pv 0) pa_nil)) pe_int (nomark _))
      (pe_one (pe_callB (cr_all rfl) (by rfl) T.all (by decide +kernel) (pa_cons (pe_lc (own := [("item", 2)]) (g := gName 2) (by rfl) scPair.nd (pi_tup (pv 0)) (blkOk_by (own := [("item", 2)]) (N := ["value", "most", "item"]) (sc := defScope sPair) (by decide +kernel))
          (fun _ _ _ _ _ => pg_name (i := 2) scPair.nd rfl (.inl rfl)) (fun _ _ _ _ _ => pts_nil) (fun _ _ _ _ _ => pe_call GW hr (by rfl) gW kW bW .nil pass0 (pa_cons (pv 2) (pa_cons pe_int (pa_cons (pv 1) pa_nil))))) pa_nil)))))), ?_⟩
    refine ⟨_, rfl, _, _, _, _, true, rfl, .ty _, .base (.tup ha), kit_ty (by decide +kernel), true, rfl, iteT ⟨_, rfl, a, _, rfl, .inr (SqT.of ha), rfl, true, congrArg V.bl (decide_eq_true rfl), iteT ⟨_, rfl, a, rfl, ⟨_, SqT.of ha⟩, fun D nD => ?_⟩⟩⟩
    have naD : a ≠ D := ne_of_none ha nD
    refine lc_tup (xs := [V.int x, V.int y]) (fun i H' => H' D = some (.lst ((List.replicate i true).map V.bl)) ∧ But D H H') ⟨upd_same, But.upd_at⟩ (fun i H' _ h => SqT.of (h.2 _ _ naD ha)) (fun i v H' hi ⟨e1, e2⟩ => ?_) (fun H' ⟨e1, e2⟩ => ?_)
    · obtain ⟨z, rfl, z1, z2⟩ : ∃ z : Int, v = .int z ∧ 1 ≤ z ∧ z ≤ m := by
        match i, hi with
        | 0, hi => exact ⟨x, (Option.some.inj hi).symm, hx.1, hx.2⟩
        | 1, hi => exact ⟨y, (Option.some.inj hi).symm, hy.1, hy.2⟩
        | n + 2, hi => cases hi
      have hil : i < 2 := (List.getElem?_eq_some_iff.mp hi).1
      refine ⟨rfl, _, rfl, _, rfl, _, _, _, rfl, z1, z2, _, e1, ?_, ?_, ?_⟩
      · rw [List.length_map, List.length_replicate]; exact small1000 (by omega)
      · rw [List.replicate_succ', List.map_append]
        exact upd_same
      · exact e2.trans But.upd_at
    · refine ⟨D, [true, true], rfl, SqL.of e1, ?_⟩
      exact k H' fun b o e => e2 b o (ne_of_none e nD) e
end
end Ev
namespace Ev
open PySem L2
section
variable {P : Program} {w : World} {K : PySem.W.Frag} {mg : Str → Option Value} {base : Heap}
theorem tup1 {a b : V} : atI [a, b] 1 = some b := atI_nat (j := 1) rfl
theorem tup0 {a b : V} : atI [a, b] 0 = some a := atI_nat (j := 0) rfl
theorem scTimes : FnScope ["value"] ["value"] (defScope sTimes) := ⟨rfl, rfl, rfl, by decide +kernel, rfl, by decide +kernel, by decide +kernel⟩
theorem ok_times {f : Addr} {fd : FuncData} (F : Fun K "is_times" "is_times" sTimes f fd) (D : Df P w K mg base 3 "is_pair" ["value", "most"] (spPair K)) {CW : Addr} {mc u : Value} (gW : mg "WeightRule" = some (.ref CW)) (cr : ClX.CRead K CW mc) (cv : ClX.CVal K CW mc "MOST" (.int 6) u) :
    FnOk P w K mg base CX0 4 f fd ["value"] (spTimes K) := by
  obtain ⟨fP, fdP, GP, gP, kP, bP⟩ := D.ex
  refine F.ok scTimes (fun vs H Q E h => ?_) (fun cdv A outer s H vs Q E hr h => ?_)
  · obtain ⟨a, p, q, rfl, _⟩ := h
    rfl
  · obtain ⟨a, p, q, rfl, ha, h1, h2, h3, k⟩ := h
    refine ⟨_, pss_one (ps_ret (pe_and (pe_call GP hr (by rfl) gP kP bP .nil pass0 (pa_cons (pv 0) (pa_cons (ClX.pe_cval (pe_glob (v := .ref CW) rfl gW rfl)) pa_nil)))
      (pe_one (pe_cmpR op_le (pe_ix ix_tup (pv 0) pe_int (fun _ _ => rfl)) (pe_ix ix_tup (pv 0) pe_int (fun _ _ => rfl)) (nomark _))))), ?_⟩
    refine ⟨_, rfl, CW, mc, _, u, rfl, cr, cv, a, p, q, _, rfl, ha, ⟨by omega, by omega⟩, ⟨by omega, by omega⟩, fun H' s => ⟨true, rfl, ?_⟩⟩
    refine ⟨_, rfl, a, _, 1, _, rfl, rfl, SqT.of (s _ _ ha), tup1, _, rfl, a, _, 0, _, rfl, rfl, SqT.of (s _ _ ha), tup0, _, _, rfl, rfl, ?_⟩
    show Q (.bl (decide (q ≤ p))) H'
    rw [decide_eq_true h2]
    exact k H' s
theorem scPlus : FnScope ["value"] ["value"] (defScope sPlus) := ⟨rfl, rfl, rfl, by decide +kernel, rfl, by decide +kernel, by decide +kernel⟩
theorem ok_plus {f : Addr} {fd : FuncData} (F : Fun K "is_plus" "is_plus" sPlus f fd) (D : Df P w K mg base 2 "is_within" ["value", "least", "most"] spWithin) {t : Tok} (gM : mg "MOST_PLUS" = some (.int 6 t)) : FnOk P w K mg base CX0 3 f fd ["value"] spPlus := by
  obtain ⟨fW, fdW, GW, gW, kW, bW⟩ := D.ex
  refine F.ok scPlus (fun vs H Q E h => ?_) (fun cdv A outer s H vs Q E hr h => ?_)
  · obtain ⟨i, rfl, _⟩ := h
    rfl
  · obtain ⟨i, rfl, h1, h2, k⟩ := h
    refine ⟨_, pss_one (ps_ret (pe_call GW hr (by rfl) gW kW bW .nil pass0 (pa_cons (pv 0) (pa_cons (pe_un un_neg (pe_glob (v := .int 6) rfl gM ⟨_, rfl⟩)) (pa_cons (pe_glob (v := .int 6) rfl gM ⟨_, rfl⟩) pa_nil))))), ?_⟩
    exact ⟨_, rfl, _, rfl, _, _, _, rfl, h1, h2, k⟩
theorem scTurn : FnScope ["value"] ["value"] (defScope sTurn) := ⟨rfl, rfl, rfl, by decide +kernel, rfl, by decide +kernel, by decide +kernel⟩
theorem ok_turn {f : Addr} {fd : FuncData} (F : Fun K "is_turn" "is_turn" sTurn f fd) (D : Df P w K mg base 3 "is_pair" ["value", "most"] (spPair K)) {t : Tok} (gM : mg "MOST_TURN" = some (.int 8 t)) : FnOk P w K mg base CX0 4 f fd ["value"] (spTurn K) := by
  obtain ⟨fP, fdP, GP, gP, kP, bP⟩ := D.ex
  refine F.ok scTurn (fun vs H Q E h => ?_) (fun cdv A outer s H vs Q E hr h => ?_)
  · obtain ⟨a, p, q, rfl, _⟩ := h
    rfl
  · obtain ⟨a, p, q, rfl, ha, h1, h2, k⟩ := h
    refine ⟨_, pss_one (ps_ret (pe_call GP hr (by rfl) gP kP bP .nil pass0 (pa_cons (pv 0) (pa_cons (pe_glob (v := .int 8) rfl gM ⟨_, rfl⟩) pa_nil)))), ?_⟩
    exact ⟨_, rfl, a, p, q, _, rfl, ha, h1, h2, k⟩
theorem scNeedT : FnScope ["times", "plus"] ["times", "plus"] (defScope sNeedT) := ⟨rfl, rfl, rfl, by decide +kernel, rfl, by decide +kernel, by decide +kernel⟩
theorem ok_needT {f : Addr} {fd : FuncData} (F : Fun K "need_times" "need_times" sNeedT f fd) (D1 : Df P w K mg base 4 "is_times" ["value"] (spTimes K)) (D2 : Df P w K mg base 3 "is_plus" ["value"] spPlus) : FnOk P w K mg base CX0 5 f fd ["times", "plus"] (spNeedT K) := by
  obtain ⟨f1, fd1, G1, g1, k1, b1⟩ := D1.ex
  obtain ⟨f2, fd2, G2, g2, k2, b2⟩ := D2.ex
  refine F.ok scNeedT (fun vs H Q E h => ?_) (fun cdv A outer s H vs Q E hr h => ?_)
  · obtain ⟨a, p, q, k, rfl, _⟩ := h
    rfl
  · obtain ⟨a, p, q, k, rfl, ha, h1, h2, h3, h4, h5, kk⟩ := h
    refine ⟨_, pss_cons (ps_if (pt_not (pt_val (pe_call G1 hr (by rfl) g1 k1 b1 .nil pass0 (pa_cons (pv 0) pa_nil)))) (pss_one ps_never) pss_nil)
      (pss_one (ps_if (pt_not (pt_val (pe_call G2 (hr.mono (by decide)) (by rfl) g2 k2 b2 .nil pass0 (pa_cons (pv 1) pa_nil)))) (pss_one ps_never) pss_nil)), ?_⟩
    exact ⟨_, rfl, a, p, q, rfl, ha, h1, h2, h3, fun H' s => ⟨true, rfl, iteF ⟨_, rfl, k, rfl, h4, h5, true, rfl, iteF (kk H' s)⟩⟩⟩
theorem scHalves : FnScope ["times", "plus", "over", "under"] ["times", "plus"] (defScope sHalves) := ⟨rfl, rfl, rfl, by decide +kernel, rfl, by decide +kernel, by decide +kernel⟩
theorem ok_halves {f : Addr} {fd : FuncData} (F : Fun K "has_halves" "has_halves" sHalves f fd) : FnOk P w K mg base CX0 1 f fd ["times", "plus"] (spHalves K) := by
  refine F.ok scHalves (fun vs H Q E h => ?_) (fun cdv A outer s H vs Q E hr h => ?_)
  · obtain ⟨a, p, q, k, rfl, _⟩ := h
    rfl
  · obtain ⟨a, p, q, k, rfl, ha, h1, kk⟩ := h
    refine ⟨_, pss_cons (ps_asg (pv 0) (pg_tup (by rfl) (pgs_cons (pg_name (i := 2) scHalves.nd rfl (.inl rfl)) (pgs_cons (pg_name (i := 3) scHalves.nd rfl (.inl rfl)) pgs_nil))))
      (pss_one (ps_ret (pe_cmpR op_ge (pe_op op_add (pv 2) (pv 1)) (pe_op op_mul pe_int (pv 3)) (nomark _)))), ?_⟩
    refine ⟨_, rfl, a, _, rfl, SqT.of ha, rfl, _, _, rfl, _, _, rfl, rfl, ?_⟩
    refine ⟨_, rfl, _, rfl, _, _, rfl, rfl, _, rfl, _, _, rfl, rfl, .inl ⟨by decide, by decide⟩, _, _, rfl, rfl, ?_⟩
    show Q (.bl (decide (2 * q ≤ p + k))) H
    rw [decide_eq_true h1]
    exact kk
theorem scNeedH : FnScope ["times", "plus", "over", "under"] ["times", "plus"] (defScope sNeedH) := ⟨rfl, rfl, rfl, by decide +kernel, rfl, by decide +kernel, by decide +kernel⟩
theorem ok_needH {f : Addr} {fd : FuncData} (F : Fun K "need_halves" "need_halves" sNeedH f fd) (D : Df P w K mg base 1 "has_halves" ["times", "plus"] (spHalves K)) : FnOk P w K mg base CX0 2 f fd ["times", "plus"] (spNeedH K) := by
  obtain ⟨f1, fd1, G1, g1, k1, b1⟩ := D.ex
  refine F.ok scNeedH (fun vs H Q E h => ?_) (fun cdv A outer s H vs Q E hr h => ?_)
  · obtain ⟨a, p, q, k, rfl, _⟩ := h
    rfl
  · obtain ⟨a, p, q, k, rfl, ha, h0, h1, kk⟩ := h
    refine ⟨_, pss_cons (ps_asg (pv 0) (pg_tup (by rfl) (pgs_cons (pg_name (i := 2) scNeedH.nd rfl (.inl rfl)) (pgs_cons (pg_name (i := 3) scNeedH.nd rfl (.inl rfl)) pgs_nil))))
      (pss_cons (ps_if (pt_cmpR op_lt (pe_op op_add (pv 2) (pv 1)) (pv 3) (nomark _)) (pss_one ps_never) pss_nil)
      (pss_one (ps_if (pt_not (pt_val (pe_call G1 hr (by rfl) g1 k1 b1 .nil pass0 (pa_cons (pv 0) (pa_cons (pv 1) pa_nil))))) (pss_one ps_never) pss_nil))), ?_⟩
    refine ⟨_, rfl, a, _, rfl, SqT.of ha, rfl, _, _, rfl, _, _, rfl, rfl, ?_⟩
    refine ⟨_, rfl, _, rfl, _, _, rfl, rfl, _, rfl, _, _, rfl, rfl, _, rfl, ite2 (fun e => ?_) (fun _ => ?_)⟩
    · have := of_decide_eq_true e; omega
    · exact ⟨_, rfl, _, rfl, a, p, q, k, rfl, ha, h1, true, rfl, iteF kk⟩
end
end Ev
namespace Ev
open PySem L2
/-- the part of a rule object that every rule has -/
structure RB (K : PySem.W.Frag) (H : Hp) (r : Addr) (p q k : Int) : Prop where
  ex : ∃ (C dx : Addr) (fs : List (Str × V)) (a : Addr), H r = some (.ins C dx fs) ∧ Cls K C ∧ NoAttr K C "times" ∧ NoAttr K C "plus" ∧ fs.lookup ("times" : Str) = some (.ref a) ∧ fs.lookup ("plus" : Str) = some (.int k) ∧ H a = some (.tup [.int p, .int q])
  b1 : 1 ≤ q
  b2 : q ≤ p
  b3 : p ≤ 6
  b4 : -6 ≤ k
  b5 : k ≤ 6
def tryF (a : Addr) (k : Int) : List (Str × V) := [("times", .ref a), ("plus", .int k)]
def turnF (a : Addr) (k : Int) (b : Addr) (r : Int) : List (Str × V) := [("times", .ref a), ("plus", .int k), ("turn", .ref b), ("turn_plus", .int r)]
def tryT (p q k l i o : Int) (n : Option Int) : Int :=
  if (fairB p q k l i && fairB p q k (l + i) o) = true then 1 else
    match n with
    | none => 1
    | some n => if (decide (1 < i) && (fairB p q k l n && (fairB p q k (i - n) o && fairB p q k (l + n) (i - n + o)))) = true then 2 else 1
def turnT (t s r i o : Int) : Int := if s * i ≤ t * o + r then 1 else if 1 < i then 2 else 0
def spFair (K : PySem.W.Frag) : Sp := fun vs H Q _ => ∃ (r : Addr) (p q k x y : Int), vs = [.ref r, .int x, .int y] ∧ RB K H r p q k ∧ Q (.bl (fairB p q k x y)) H
def spGreatest (K : PySem.W.Frag) : Sp := fun vs H Q _ => ∃ (r : Addr) (p q k x : Int), vs = [.ref r, .int x] ∧ RB K H r p q k ∧ 1 ≤ x ∧ x ≤ 10 ^ 60 ∧ Q (.int ((p * x + k).fdiv q)) H
def spTwice (K : PySem.W.Frag) : Sp := fun vs H Q _ => ∃ (r : Addr) (p q k l i o n : Int), vs = [.ref r, .int l, .int i, .int o, .int n] ∧ RB K H r p q k ∧ Q (.bl (fairB p q k l n && (fairB p q k (i - n) o && fairB p q k (l + n) (i - n + o)))) H
def vOpt : Option Int → V
  | none => .non
  | some n => .int n
def spTryTurns (K : PySem.W.Frag) (C : Addr) : Sp := fun vs H Q _ => ∃ (r : Addr) (p q k l i o : Int) (n : Option Int) (dx : Addr) (fs : List (Str × V)), vs = [.ref r, .int l, .int i, .int o, vOpt n] ∧ RB K H r p q k ∧ H r = some (.ins C dx fs) ∧ fs.lookup ("twice_is_fair" : Str) = none ∧ (n = none → i = 1) ∧
  Q (.int (tryT p q k l i o n)) H
def spTurnTurns (K : PySem.W.Frag) (C : Addr) : Sp := fun vs H Q _ => ∃ (r : Addr) (l i o : Int) (n : Option Int) (dx a b : Addr) (k t s c : Int), vs = [.ref r, .int l, .int i, .int o, vOpt n] ∧ H r = some (.ins C dx (turnF a k b c)) ∧ H b = some (.tup [.int t, .int s]) ∧ (1 ≤ t ∧ t ≤ 8) ∧ (1 ≤ s ∧ s ≤ 8) ∧
  Q (.int (turnT t s c i o)) H
section
variable {P : Program} {w : World} {K : PySem.W.Frag} {mg : Str → Option Value} {base : Heap}
theorem m64 {q : Int} (h1 : 1 ≤ q) (h2 : q ≤ 8) : -(2 ^ 64) < q ∧ q < 2 ^ 64 := ⟨by omega, by omega⟩
theorem scFair : FnScope ["rule", "x", "y", "over", "under"] ["rule", "x", "y"] (defScope sFair) := ⟨rfl, rfl, rfl, by decide +kernel, rfl, by decide +kernel, by decide +kernel⟩
theorem ok_fair {f : Addr} {fd : FuncData} (F : Fun K "are_fair" "are_fair" sFair f fd) : FnOk P w K mg base CX0 1 f fd ["rule", "x", "y"] (spFair K) := by
  refine F.ok scFair (fun vs H Q E h => ?_) (fun cdv A outer s H vs Q E hr h => ?_)
  · obtain ⟨r, p, q, k, x, y, rfl, _⟩ := h
    rfl
  · obtain ⟨r, p, q, k, x, y, rfl, ⟨⟨C, dx, fs, a, hr1, cl, n1, n2, l1, l2, ha⟩, b1, b2, b3, b4, b5⟩, kk⟩ := h
    refine ⟨_, pss_cons (ps_asg (pe_fld (pv 0) rfl) (pg_tup (by rfl) (pgs_cons (pg_name (i := 3) scFair.nd rfl (.inl rfl)) (pgs_cons (pg_name (i := 4) scFair.nd rfl (.inl rfl)) pgs_nil))))
      (pss_one (ps_ret (pe_and (pe_cmpR op_le (pe_op op_mul (pv 4) (pv 2)) (pe_op op_add (pe_op op_mul (pv 3) (pv 1)) (pe_fld (pv 0) rfl)) (nomark _))
        (pe_one (pe_cmpR op_le (pe_op op_mul (pv 4) (pv 1)) (pe_op op_add (pe_op op_mul (pv 3) (pv 2)) (pe_fld (pv 0) rfl)) (nomark _)))))), ?_⟩
    have q6 := m64 b1 (show q ≤ 8 by omega)
    have p6 := m64 (show 1 ≤ p by omega) (show p ≤ 8 by omega)
    refine ⟨_, rfl, r, C, dx, fs, _, rfl, hr1, cl, n1, l1, a, _, rfl, SqT.of ha, rfl, _, _, rfl, _, _, rfl, rfl, ?_⟩
    refine ⟨_, rfl, _, rfl, _, _, rfl, rfl, .inl q6, _, rfl, _, rfl, _, _, rfl, rfl, .inl p6, _, rfl, r, C, dx, fs, _, rfl, hr1, cl, n2, l2, _, _, rfl, rfl, _, _, rfl, rfl, _, rfl, ite2 (fun e => ?_) (fun e => ?_)⟩
    · refine ⟨_, rfl, _, rfl, _, _, rfl, rfl, .inl q6, _, rfl, _, rfl, _, _, rfl, rfl, .inl p6, _, rfl, r, C, dx, fs, _, rfl, hr1, cl, n2, l2, _, _, rfl, rfl, _, _, rfl, rfl, ?_⟩
      show Q (.bl (decide (q * x ≤ p * y + k))) H
      rw [show fairB p q k x y = decide (q * x ≤ p * y + k) by unfold fairB; rw [show decide (q * y ≤ p * x + k) = true from e, Bool.true_and]] at kk
      exact kk
    · rw [show fairB p q k x y = false by unfold fairB; rw [show decide (q * y ≤ p * x + k) = false from Bool.eq_false_iff.mpr e, Bool.false_and]] at kk
      exact kk
theorem scTwice : FnScope ["self", "light", "inner", "outer", "near", "far"] ["self", "light", "inner", "outer", "near"] (defScope sTwice) := ⟨rfl, rfl, rfl, by decide +kernel, rfl, by decide +kernel, by decide +kernel⟩
theorem ok_twice {f : Addr} {fd : FuncData} (F : Fun K "twice_is_fair" "TryRule.twice_is_fair" sTwice f fd) (D : Df P w K mg base 1 "are_fair" ["rule", "x", "y"] (spFair K)) : FnOk P w K mg base CX0 2 f fd ["self", "light", "inner", "outer", "near"] (spTwice K) := by
  obtain ⟨f1, fd1, G1, g1, k1, b1⟩ := D.ex
  refine F.ok scTwice (fun vs H Q E h => ?_) (fun cdv A outer s H vs Q E hr h => ?_)
  · obtain ⟨r, p, q, k, l, i, o, n, rfl, _⟩ := h
    rfl
  · obtain ⟨r, p, q, k, l, i, o, n, rfl, R, kk⟩ := h
    refine ⟨_, pss_cons (ps_set (i := 5) scTwice.nd rfl (.inl rfl) (pe_op op_sub (pv 2) (pv 4)))
      (pss_one (ps_ret (pe_and (pe_call G1 hr (by rfl) g1 k1 b1 .nil pass0 (pa_cons (pv 0) (pa_cons (pv 1) (pa_cons (pv 4) pa_nil))))
        (pe_and (pe_call G1 hr (by rfl) g1 k1 b1 .nil pass0 (pa_cons (pv 0) (pa_cons (pv 5) (pa_cons (pv 3) pa_nil))))
        (pe_one (pe_call G1 hr (by rfl) g1 k1 b1 .nil pass0 (pa_cons (pv 0) (pa_cons (pe_op op_add (pv 1) (pv 4)) (pa_cons (pe_op op_add (pv 5) (pv 3)) pa_nil))))))))), ?_⟩
    refine ⟨_, rfl, _, rfl, _, _, rfl, rfl, _, rfl, _, rfl, _, rfl, r, p, q, k, _, _, rfl, R, _, rfl, ite2 (fun e => ?_) (fun e => ?_)⟩
    · rw [e, Bool.true_and] at kk
      refine ⟨_, rfl, _, rfl, _, rfl, r, p, q, k, _, _, rfl, R, _, rfl, ite2 (fun e => ?_) (fun e => ?_)⟩
      · rw [show fairB p q k (i - n) o = true from e, Bool.true_and] at kk
        exact ⟨_, rfl, _, rfl, _, rfl, _, _, rfl, rfl, _, rfl, _, rfl, _, _, rfl, rfl, r, p, q, k, _, _, rfl, R, kk⟩
      · rw [show fairB p q k (i - n) o = false from Bool.eq_false_iff.mpr e, Bool.false_and] at kk
        exact kk
    · rw [Bool.eq_false_iff.mpr e, Bool.false_and] at kk
      exact kk
end
end Ev
namespace Ev
open PySem L2 PySem.Spec PyProof.Rows
theorem same_new {H : Hp} {q : Addr} {o : HO} (n : H q = none) : Same H (upd H q o) := fun b u e => by rw [upd_ne (ne_of_none e n)]; exact e
theorem lk_hit {k : Str} {v : V} {l : List (Str × V)} : List.lookup k ((k, v) :: l) = some v := by simp [List.lookup]
theorem lk_miss {k k' : Str} {v : V} {l : List (Str × V)} (h : ¬ k = k') : List.lookup k ((k', v) :: l) = List.lookup k l := by
  have : (k == k') = false := by simpa using h
  simp [List.lookup, this]
theorem try_times (a : Addr) (k : Int) : (tryF a k).lookup ("times" : Str) = some (.ref a) := lk_hit
theorem try_plus (a : Addr) (k : Int) : (tryF a k).lookup ("plus" : Str) = some (.int k) := (lk_miss (by decide +kernel)).trans lk_hit
theorem turn_times (a : Addr) (k : Int) (b : Addr) (c : Int) : (turnF a k b c).lookup ("times" : Str) = some (.ref a) := lk_hit
theorem turn_plus (a : Addr) (k : Int) (b : Addr) (c : Int) : (turnF a k b c).lookup ("plus" : Str) = some (.int k) := (lk_miss (by decide +kernel)).trans lk_hit
theorem turn_turn (a : Addr) (k : Int) (b : Addr) (c : Int) : (turnF a k b c).lookup ("turn" : Str) = some (.ref b) := (lk_miss (by decide +kernel)).trans ((lk_miss (by decide +kernel)).trans lk_hit)
theorem turn_tp (a : Addr) (k : Int) (b : Addr) (c : Int) : (turnF a k b c).lookup ("turn_plus" : Str) = some (.int c) := (lk_miss (by decide +kernel)).trans ((lk_miss (by decide +kernel)).trans ((lk_miss (by decide +kernel)).trans lk_hit))
theorem try_no (a : Addr) (k : Int) {m : Str} (h1 : ¬ m = "times") (h2 : ¬ m = "plus") : (tryF a k).lookup m = none := (lk_miss h1).trans ((lk_miss h2).trans rfl)
theorem turn_no (a : Addr) (k : Int) (b : Addr) (c : Int) {m : Str} (h1 : ¬ m = "times") (h2 : ¬ m = "plus") (h3 : ¬ m = "turn") (h4 : ¬ m = "turn_plus") : (turnF a k b c).lookup m = none := (lk_miss h1).trans ((lk_miss h2).trans ((lk_miss h3).trans ((lk_miss h4).trans rfl)))
theorem put_try (a : Addr) (k : Int) : putF "plus" (.int k) (putF "times" (.ref a) []) = tryF a k := by
  show (if ("times" : Str) = "plus" then _ else _) = _
  rw [if_neg (by decide +kernel)]
  rfl
theorem put_turn1 (a : Addr) (k : Int) (b : Addr) : putF "turn" (V.ref b) (tryF a k) = ([("times", V.ref a), ("plus", V.int k), ("turn", V.ref b)] : List (Str × V)) := by
  show (if ("times" : Str) = "turn" then _ else _ :: (if ("plus" : Str) = "turn" then _ else _)) = _
  rw [if_neg (by decide +kernel), if_neg (by decide +kernel)]
  rfl
theorem put_turn2 (a : Addr) (k : Int) (b : Addr) (c : Int) : putF "turn_plus" (.int c) (putF "turn" (.ref b) (tryF a k)) = turnF a k b c := by
  rw [put_turn1]
  show (if ("times" : Str) = "turn_plus" then _ else _ :: (if ("plus" : Str) = "turn_plus" then _ else _ :: (if ("turn" : Str) = "turn_plus" then _ else _))) = _
  rw [if_neg (by decide +kernel), if_neg (by decide +kernel), if_neg (by decide +kernel)]
  rfl
/-- a class of rules -/
structure RCls (K : PySem.W.Frag) (C : Addr) : Prop where
  cl : Cls K C
  n1 : NoAttr K C "times"
  n2 : NoAttr K C "plus"
  n3 : NoAttr K C "turn"
  n4 : NoAttr K C "turn_plus"
def spTryInit (C : Addr) : Sp := fun vs H Q _ => ∃ (x dx a : Addr) (p q k : Int), vs = [.ref x, .ref a, .int k] ∧ H x = some (.ins C dx []) ∧ H a = some (.tup [.int p, .int q]) ∧ 1 ≤ q ∧ q ≤ p ∧ p ≤ 6 ∧ -6 ≤ k ∧ k ≤ 6 ∧ 2 * q ≤ p + k ∧
  ∀ H', But x H H' → H' x = some (.ins C dx (tryF a k)) → Q .non H'
def spTurnInit (C : Addr) : Sp := fun vs H Q _ => ∃ (x dx a b : Addr) (p q k t s c : Int), vs = [.ref x, .ref a, .int k, .ref b, .int c] ∧ H x = some (.ins C dx []) ∧ H a = some (.tup [.int p, .int q]) ∧ H b = some (.tup [.int t, .int s]) ∧
  1 ≤ q ∧ q ≤ p ∧ p ≤ 6 ∧ -6 ≤ k ∧ k ≤ 6 ∧ 2 * q ≤ p + k ∧ (1 ≤ t ∧ t ≤ 8) ∧ (1 ≤ s ∧ s ≤ 8) ∧ -6 ≤ c ∧ c ≤ 6 ∧ ∀ H', But x H H' → H' x = some (.ins C dx (turnF a k b c)) → Q .non H'
section
variable {P : Program} {w : World} {K : PySem.W.Frag} {mg : Str → Option Value} {base : Heap}
theorem scTryInit : FnScope ["self", "times", "plus"] ["self", "times", "plus"] (defScope sTryInit) := ⟨rfl, rfl, rfl, by decide +kernel, rfl, by decide +kernel, by decide +kernel⟩
theorem ok_tryInit {f C : Addr} {fd : FuncData} {dvs : List V} {kws : List (Str × V)} (F : FunD K "__init__" "TryRule.__init__" (defArgs sTryInit) (defBody sTryInit) (defScope sTryInit) dvs kws f fd) (T : RCls K C) (D1 : Df P w K mg base 5 "need_times" ["times", "plus"] (spNeedT K))
    (D2 : Df P w K mg base 2 "need_halves" ["times", "plus"] (spNeedH K)) : FnOk P w K mg base CX0 6 f fd ["self", "times", "plus"] (spTryInit C) := by
  obtain ⟨f1, fd1, G1, g1, k1, bb1⟩ := D1.ex
  obtain ⟨f2, fd2, G2, g2, k2, bb2⟩ := D2.ex
  refine F.ok scTryInit (fun vs H Q E h => ?_) (fun cdv A outer s H vs Q E hr h => ?_)
  · obtain ⟨x, dx, a, p, q, k, rfl, _⟩ := h
    rfl
  · obtain ⟨x, dx, a, p, q, k, rfl, hx, ha, h1, h2, h3, h4, h5, h6, kk⟩ := h
    refine ⟨_, PSs.nox (pss_cons (ps_expr (pe_call G1 hr (by rfl) g1 k1 bb1 .nil pass0 (pa_cons (pv 1) (pa_cons (pv 2) pa_nil))))
      (pss_cons (ps_expr (pe_call G2 (hr.mono (by decide)) (by rfl) g2 k2 bb2 .nil pass0 (pa_cons (pv 1) (pa_cons (pv 2) pa_nil))))
      (pss_cons (ps_fld (pv 0) (pv 1) rfl) (pss_one (ps_fld (pv 0) (pv 2) rfl))))), ?_⟩
    refine ⟨_, rfl, _, rfl, a, p, q, k, rfl, ha, h1, h2, h3, h4, h5, fun H1 s1 => ?_⟩
    refine ⟨_, rfl, _, rfl, a, p, q, k, rfl, s1 _ _ ha, by omega, h6, ?_⟩
    refine ⟨_, rfl, _, rfl, x, C, dx, _, rfl, s1 _ _ hx, T.cl, T.n1, (by show 0 < 1000; decide), _, rfl, _, rfl, x, C, dx, _, rfl, upd_same, T.cl, T.n2, (by show 1 < 1000; decide), ?_⟩
    refine kk _ ((Same.but s1).trans (But.upd_at.trans But.upd_at)) ?_
    rw [upd_same, put_try]
theorem scTurnInit : FnScope ["self", "times", "plus", "turn", "turn_plus"] ["self", "times", "plus", "turn", "turn_plus"] (defScope sTurnInit) := ⟨rfl, rfl, rfl, by decide +kernel, rfl, by decide +kernel, by decide +kernel⟩
theorem ok_turnInit {f C : Addr} {fd : FuncData} {dvs : List V} {kws : List (Str × V)} (F : FunD K "__init__" "TurnRule.__init__" (defArgs sTurnInit) (defBody sTurnInit) (defScope sTurnInit) dvs kws f fd) (T : RCls K C) (D1 : Df P w K mg base 5 "need_times" ["times", "plus"] (spNeedT K))
    (D2 : Df P w K mg base 2 "need_halves" ["times", "plus"] (spNeedH K)) (D3 : Df P w K mg base 4 "is_turn" ["value"] (spTurn K)) (D4 : Df P w K mg base 3 "is_plus" ["value"] spPlus) : FnOk P w K mg base CX0 6 f fd ["self", "times", "plus", "turn", "turn_plus"] (spTurnInit C) := by
  obtain ⟨f1, fd1, G1, g1, k1, bb1⟩ := D1.ex
  obtain ⟨f2, fd2, G2, g2, k2, bb2⟩ := D2.ex
  obtain ⟨f3, fd3, G3, g3, k3, bb3⟩ := D3.ex
  obtain ⟨f4, fd4, G4, g4, k4, bb4⟩ := D4.ex
  refine F.ok scTurnInit (fun vs H Q E h => ?_) (fun cdv A outer s H vs Q E hr h => ?_)
  · obtain ⟨x, dx, a, b, p, q, k, t, s, c, rfl, _⟩ := h
    rfl
  · obtain ⟨x, dx, a, b, p, q, k, t, s, c, rfl, hx, ha, hb, h1, h2, h3, h4, h5, h6, h7, h8, h9, h10, kk⟩ := h
    refine ⟨_, PSs.nox (pss_cons (ps_expr (pe_call G1 hr (by rfl) g1 k1 bb1 .nil pass0 (pa_cons (pv 1) (pa_cons (pv 2) pa_nil))))
      (pss_cons (ps_if (pt_not (pt_val (pe_call G3 (hr.mono (by decide)) (by rfl) g3 k3 bb3 .nil pass0 (pa_cons (pv 3) pa_nil)))) (pss_one ps_never) pss_nil)
      (pss_cons (ps_if (pt_not (pt_val (pe_call G4 (hr.mono (by decide)) (by rfl) g4 k4 bb4 .nil pass0 (pa_cons (pv 4) pa_nil)))) (pss_one ps_never) pss_nil)
      (pss_cons (ps_expr (pe_call G2 (hr.mono (by decide)) (by rfl) g2 k2 bb2 .nil pass0 (pa_cons (pv 1) (pa_cons (pv 2) pa_nil))))
      (pss_cons (ps_fld (pv 0) (pv 1) rfl) (pss_cons (ps_fld (pv 0) (pv 2) rfl) (pss_cons (ps_fld (pv 0) (pv 3) rfl) (pss_one (ps_fld (pv 0) (pv 4) rfl))))))))), ?_⟩
    refine ⟨_, rfl, _, rfl, a, p, q, k, rfl, ha, h1, h2, h3, h4, h5, fun H1 s1 => ?_⟩
    refine ⟨_, rfl, b, t, s, rfl, s1 _ _ hb, h7, h8, fun H2 s2 => ⟨true, rfl, iteF ?_⟩⟩
    refine ⟨_, rfl, c, rfl, h9, h10, true, rfl, iteF ?_⟩
    have s3 := s1.trans s2
    refine ⟨_, rfl, _, rfl, a, p, q, k, rfl, s3 _ _ ha, by omega, h6, ?_⟩
    refine ⟨_, rfl, _, rfl, x, C, dx, _, rfl, s3 _ _ hx, T.cl, T.n1, (by show 0 < 1000; decide), _, rfl, _, rfl, x, C, dx, _, rfl, upd_same, T.cl, T.n2, (by show 1 < 1000; decide), ?_⟩
    refine ⟨_, rfl, _, rfl, x, C, dx, _, rfl, upd_same, T.cl, T.n3, (by rw [put_try]; show 2 < 1000; decide), _, rfl, _, rfl, x, C, dx, _, rfl, upd_same, T.cl, T.n4, (by rw [put_try, put_turn1]; show 3 < 1000; decide), ?_⟩
    refine kk _ ((Same.but s3).trans (But.upd_at.trans (But.upd_at.trans (But.upd_at.trans But.upd_at)))) ?_
    rw [upd_same, put_try, put_turn2]
end
end Ev
namespace Ev
open PySem L2 PySem.Spec PyProof.Rows
/-! Promises of defs that are called while no repr is under way (so what they make can be shown). -/
structure FnG (P : Program) (w : World) (K : PySem.W.Frag) (mg : Str → Option Value) (base : Heap) (k : Nat) (f : Addr)
    (fd : FuncData) (ps : List Str) (sp : Sp) : Prop where
  many : ∀ vs H Q E, sp vs H Q E → vs.length = ps.length
  goes : ∀ (A : Around) (above : List Env) (s : Shared) (H : Hp) (args : Args) (us : List Value) (vs : List V) (Q : VK)
    (E : XK), Room k A → A.guards = some [] → Env0 P w K mg base A above s H → BindsTo s fd args (ps.zip us) → Vals vs us →
    sp vs H Q E → codeAny (model P w) A (.call (.ref f) args) (CR CX0 above P w H s Q E) s
theorem FnG.of {P : Program} {w : World} {K : PySem.W.Frag} {mg : Str → Option Value} {base : Heap} {k : Nat} {f : Addr}
    {fd : FuncData} {ps : List Str} {sp : Sp} (F : FnOk P w K mg base CX0 k f fd ps sp) : FnG P w K mg base k f fd ps sp :=
  ⟨F.len, fun A above s H args us vs Q E hr _ => F.run A above s H args us vs Q E hr⟩
section
variable {P : Program} {w : World} {K : PySem.W.Frag} {mg : Str → Option Value} {base : Heap}
/-- a def by its body, where no repr is under way -/
theorem fng_of {x qual : Str} {st : Stmt} {f : Addr} {fd : FuncData} {N ps : List Str} {k : Nat} {sp : Sp} (F : Fun K x qual st f fd)
    (S : FnScope N ps (defScope st)) (many : ∀ vs H Q E, sp vs H Q E → vs.length = ps.length)
    (body : ∀ (cdv : Value) (A : Around) (above : List Env) (s : Shared) (H : Hp) (vs : List V) (Q : VK) (E : XK),
      Room k (A.deeper (envOfC qual (defScope st) s.heap.objs.size f cdv)) → A.guards = some [] → sp vs H Q E →
      ∃ t, PSs (cxOf CX0 P w K mg base N qual (defScope st) f cdv A above s H E).nox (defBody st) t ∧
        t { nx := fun _ H' => Q .non H', rt := Q } (start N vs) H) : FnG P w K mg base (k + 1) f fd ps sp := by
  obtain ⟨oc, od, kV, doc, pm, an, cdv, ct, osl, rfl, lk, hcd⟩ := F.ex
  constructor
  · exact many
  · intro A above s H args us vs Q E room gd env bt rv hs
    have inK : K.In s.heap := env.mod.kin.keeps fun b o e => (env.bs b o e).1
    have noLim : s.heap.NoLimit := env.mod.nolimit.keeps fun b o e => (env.bs b o e).1
    have kinds : ∀ y ∈ ps.zip us, (defScope st).names.lookup y.1 = some .local ∨
        ((defScope st).names.lookup y.1 = some .cell ∧ ((cellsFrom (s.heap.objs.size + 1) (defScope st).names []).lookup y.1).isSome = true) := by
      rintro ⟨n, v⟩ hy
      cases S.par n (List.of_mem_zip hy).1 with
      | inl q => exact .inl q
      | inr q => exact .inr ⟨q, PySem.W.cellsFrom_some _ _ _ (.inl q)⟩
    refine codeAny_call_function room.depth (inK _ _ lk) rfl S.co S.gen rfl (PySem.W.codeRec_of inK hcd) (bt _ _ _ _ ?_)
    refine wpAny_newFunctionEnv_cells S.kind kinds fun e2 he s2 x => ?_
    subst he
    refine ⟨noLim.keeps x.toInCall.keep, codeAny_func ?_⟩
    obtain ⟨t, ht, hq⟩ := body cdv A above s H vs Q E (room.deeper _) gd hs
    have inv := inv_start (CX := CX0) (E := E) S room.hd env (many _ _ _ _ hs) rv x
    refine wpAny_mono (ht.nox.run [] s2 (start N vs) H _ inv hq) (fun fl s3 h3 => ?_) fun e s3 h3 => h3
    cases fl with
    | ret u =>
      obtain ⟨v, σ3, H3, J, rr, q⟩ := h3
      exact ⟨v, H3, J.os, J.bare, J.base, J.hok, rr, q⟩
    | next =>
      obtain ⟨σ3, H3, J, q⟩ := h3
      exact ⟨.non, H3, J.os, J.bare, J.base, J.hok, rfl, q⟩
    | brk =>
      obtain ⟨_, _, _, z⟩ := h3
      exact False.elim z
    | cont =>
      obtain ⟨_, _, _, z⟩ := h3
      exact False.elim z
end
section
variable {X : Cx}
/-- f(e, ..) of such a def -/
theorem pe_callG {k : Nat} {f : Addr} {fd : FuncData} {ps : List Str} {sp : Sp} {E : XK} {x : Str} {p pos : Pos} {e : Expr} {es : List Expr} {t : TA}
    (F : FnG X.prog X.w X.K X.mg X.base k f fd ps sp) (room : Room k X.A) (gd : X.A.guards = some []) (hg : Gl X x)
    (hm : X.mg x = some (.ref f)) (kp : PySem.W.keepIn X.K (.ref f) = true) (hb : Binds X.K fd ps []) (ha : PA X (e :: es) t)
    (hdb : (x == ("__debug__" : Str)) = false := by decide)
    (he : starEach (e :: es) X.env = (false, eval e X.env) :: starEach es X.env := by rfl)
    (hpl : (backTo pos (starEach es X.env)).any (·.1) = false := by rfl) :
    PE X (.Call (.Name x p) (e :: es) [] pos) (tCall sp [] E t) := by
  constructor
  intro pins s σ H Q I h
  refine wpAny_Call_Name_kw (ld_glob I hg hm ?_ hdb)
  refine PySem.W.callWith_K (h₀ := X.base) I.ok.mod.kin kp (thn (ha.run pos pins s σ H _ I h) fun us s1 d => ?_) he hpl
  obtain ⟨vs, H1, I1, rv, q⟩ := d
  refine ⟨I1.kIn, ?_⟩
  have q : sp vs H1 Q E := by
    have q' : sp (vs ++ []) H1 Q E := q
    rw [List.append_nil] at q'
    exact q'
  have hl : us.length = ps.length := rv.length.symm.trans (F.many _ _ _ _ q)
  have bt := hb s1 us I1.kIn (by rw [List.append_nil]; exact hl)
  rw [List.append_nil] at bt
  refine wpAny_call (codeAny_mono (F.goes X.A X.stack s1 H1 ⟨us, []⟩ us vs Q E room gd I1.env0 bt rv q) fun r s2 h2 => ?_)
  cases r with
  | error e => exact False.elim h2
  | ok fl =>
    cases fl with
    | ret u => exact I1.after h2
    | next => exact False.elim h2
    | brk => exact False.elim h2
    | cont => exact False.elim h2
/-- repr of data, where none is under way -/
def rRepr (K : PySem.W.Frag) : List V → Hp → VK → Prop := fun xs H Q => ∃ (a : Addr) (d : PyData), xs = [.ref a] ∧ Dp K H (.ref a) d ∧
  d.showable = true ∧ d.hasDict = false ∧ d.depth ≤ 32 ∧ d.shown.length ≤ sizeLine ∧ Q (.str d.shown) H
theorem call_repr (gd : X.A.guards = some []) (hu : X.A.units + 64 < cLine) : CallR X (.builtin "repr") (rRepr X.K) := by
  intro pins s σ H xs us Q I r h
  obtain ⟨a, d, rfl, hd, h1, h2, h3, h4, q⟩ := h
  cases r with
  | cons r1 r2 =>
    cases r2
    cases r1
    obtain ⟨as, rd⟩ := Dp.reads I d (.ref a) (.ref a) hd rfl
    exact repr_of_reads' rd h1 (fun z => by rw [h2] at z; cases z) gd (by omega) (fun _ _ e => e)
      (fun h' u tk hk => ⟨.str d.shown, H, I.kept hk, ⟨u, rfl⟩, q⟩) h4
end
/-! ### the law's own call -/
section
variable {P : Program} {w : World} {K : PySem.W.Frag} {mg mb : Str → Option Value}
theorem law_callG {k : Nat} {fa a : Addr} {fd : FuncData} {x : Str} {sp : Sp} {s : Shared} {vs : List Value} {ns : List Int}
    (inK : K.In s.heap) (ns1 : s.heap.Ns mainGlobals mg) (ns2 : s.heap.Ns builtinsNs mb) (blt : ∀ x : Str, x ≠ "__name__" → mb x = bootBuiltins x)
    (noLim : s.heap.NoLimit) (hg : s.gens = #[]) (ha : s.heap.get? a = some { cls := .type "list", data := .seq vs.toArray })
    (hi : IntsAre vs ns) (hl : ns.length ≤ sizeLine) (hr : Room k callerA)
    (F : ∀ base : Heap, K.In base → base.Ns mainGlobals mg → FnG P w K mg base k fa fd [x] sp)
    (bt : ∀ (s : Shared) (u : Value), BindsTo s fd ⟨[u], []⟩ [(x, u)])
    (hsp : ∀ H : Hp, SqL K H a (ns.map V.int) → sp [.ref a] H (fun v _ => v = .bl true) fun _ _ _ => False) :
    codeAny (model P w) callerA (.call (.ref fa) ⟨[.ref a], []⟩)
      (fun r s' => r = .ok (.ret (.bool true)) ∧ OldK s.heap s'.heap ∧ s'.os = s.os ∧ AllBare s'.gens) s := by
  have rv := vals_ints hi
  have lv := hi.length
  have key : ∀ H : Hp, (∀ b u, H b = some u → b = a ∧ K.lookup a = none ∧ u = .frz { cls := .type "list", data := .seq vs.toArray } (.lst (ns.map V.int))) →
      SqL K H a (ns.map V.int) → codeAny (model P w) callerA (.call (.ref fa) ⟨[.ref a], []⟩)
        (fun r s' => r = .ok (.ret (.bool true)) ∧ OldK s.heap s'.heap ∧ s'.os = s.os ∧ AllBare s'.gens) s := by
    intro H only sq
    have ok : HOk P w H s.heap := by
      intro b u e
      obtain ⟨rfl, _, rfl⟩ := only b u e
      exact ⟨ha, by rw [List.length_map]; exact hl, vs, _, rv, ha⟩
    have plain : ∀ {b : Addr} {o : Obj} {es : Array DictEntry} {n : Nat}, s.heap.get? b = some o → o.data = .dict es n → H b = none := by
      intro b o es n e d
      cases q : H b with
      | none => rfl
      | some u =>
        obtain ⟨rfl, _, _⟩ := only b u q
        rw [ha] at e
        cases e
        exact nomatch d
    have names : ∀ {b : Addr} {m : Str → Option Value}, s.heap.Ns b m → (hidT s.heap H).Ns b m := by
      rintro b m ⟨o, es, n, e, d, r⟩
      exact ⟨o, es, n, hidT_get e (plain e d), d, r⟩
    have inB : K.In (hidT s.heap H) := by
      intro b o e
      refine hidT_get (inK b o e) ?_
      cases q : H b with
      | none => rfl
      | some u =>
        obtain ⟨rfl, n, _⟩ := only b u q
        rw [n] at e
        cases e
    obtain ⟨mc, l1, l2⟩ := noLim
    have md : Mod K mg (hidT s.heap H) := ⟨inB, names ns1, ⟨mb, names ns2, blt⟩, ⟨mc, names l1, l2⟩⟩
    have env : Env0 P w K mg (hidT s.heap H) callerA [] s H :=
      ⟨rfl, md, fun b o e => of_hidT e, Nat.le_of_eq (hidT_size _ _), trivial, (fun b hb => by cases hb), ok, .of_eq hg⟩
    have go := (F _ inB (names ns1)).goes callerA [] s H ⟨[.ref a], []⟩ [.ref a] [.ref a] _ _ hr rfl env (bt s (.ref a)) (.cons rfl .nil) (hsp H sq)
    refine codeAny_mono go fun r s2 h2 => ?_
    cases r with
    | error e => exact False.elim h2
    | ok fl =>
      cases fl with
      | next => exact False.elim h2
      | brk => exact False.elim h2
      | cont => exact False.elim h2
      | ret u =>
        obtain ⟨v, H2, os, bare, un, ok2, rr, q⟩ := h2
        obtain rfl : v = V.bl true := q
        obtain rfl : u = Value.bool true := rr
        refine ⟨rfl, OldK.of_keep fun b o e => ?_, os, bare⟩
        cases q : H b with
        | none => exact un.keep b o e q (by intro z; cases z) (by simp)
        | some u =>
          obtain ⟨rfl, _, rfl⟩ := only b u q
          obtain ⟨e1, _⟩ := ok b _ q
          obtain ⟨e2, _⟩ := ok2 b _ (un.frzs b _ _ q)
          rw [e] at e1
          cases e1
          exact e2
  cases hk : K.lookup a with
  | none =>
    refine key (fun b => if b = a then some (.frz { cls := .type "list", data := .seq vs.toArray } (.lst (ns.map V.int))) else none) (fun b u e => ?_) (.inl (.inr ⟨_, if_pos rfl⟩))
    by_cases z : b = a
    · rw [if_pos z] at e
      cases e
      exact ⟨z, hk, rfl⟩
    · rw [if_neg z] at e
      cases e
  | some o =>
    have e := inK a o hk
    rw [ha] at e
    cases e
    refine key (fun _ => none) (fun b u e => by cases e) (.inr ⟨_, vs.toArray, _, hk, rfl, rfl, rfl, ?_, by simpa using rv⟩)
    rw [List.size_toArray, lv]
    exact hl
end
theorem walk_ofG {l : PySem.W.OpenLaw} {n k : Nat} {q : Program} {loose : List Str} {XP : (Str → Option Value) → Heap → Prop} {YP : World → Heap → Prop}
    {d : DefRec} {K : Params → PySem.W.Frag} {sp : World → Sp} {x : Str} (hn : l.most = some n) (hn2 : n ≤ sizeLine) (hdf : d.params.defaults = [])
    (hr : Room k callerA) (hY : ∀ (w : World) (h : Heap), YP w h → (K w.params).In h)
    (F : ∀ (w : World) (mg : Str → Option Value) (fa : Addr) (h : Heap), (K w.params).In h → h.Ns mainGlobals mg → mg d.name = some (.ref fa) →
      ∃ fd : FuncData, (∀ (s : Shared) (u : Value), BindsTo s fd ⟨[u], []⟩ [(x, u)]) ∧
        ∀ base : Heap, (K w.params).In base → base.Ns mainGlobals mg → FnG l.prog w (K w.params) mg base k fa fd [x] (sp w))
    (hsp : ∀ (w : World) (H : Hp) (a : Addr) (ns : List Int), ns.length ≤ n → SqL (K w.params) H a (ns.map V.int) → sp w [.ref a] H (fun v _ => v = .bl true) fun _ _ _ => False) :
    PySem.W.WalkO q loose XP YP l.row.toRowW d [] (fun f vs => PySem.call f vs) := by
  refine Att.attach_call hn hdf fun w s0 s1 mg mb fa o pm cd doc a vs ns G Y h1 h2 h3 h4 h5 h6 h7 h8 => ?_
  obtain ⟨fd, bt, hF⟩ := F w mg fa _ (hY w _ Y) G.T.g h4
  exact law_callG (hY w _ Y) G.T.g G.T.b G.T.builtins G.T.nolimit h8 h5 h6 (Nat.le_trans h7 hn2) hr hF bt (fun H sq => hsp w H a ns h7 sq)
end Ev
namespace Ev
open PySem L2 PySem.Spec PyProof.Rows
theorem walk_ofGE {l : PySem.W.OpenLaw} {n k : Nat} {q : Program} {loose : List Str} {XP : (Str → Option Value) → Heap → Prop} {YP : World → Heap → Prop}
    {d : DefRec} {x : Str} (hn : l.most = some n) (hn2 : n ≤ sizeLine) (hdf : d.params.defaults = []) (hr : Room k callerA)
    (F : ∀ (w : World) (mg : Str → Option Value) (fa : Addr) (h : Heap), YP w h → h.Ns mainGlobals mg → mg d.name = some (.ref fa) →
      ∃ (K : PySem.W.Frag) (fd : FuncData) (sp : Sp), K.In h ∧ (∀ (s : Shared) (u : Value), BindsTo s fd ⟨[u], []⟩ [(x, u)]) ∧
        (∀ (H : Hp) (a : Addr) (ns : List Int), ns.length ≤ n → SqL K H a (ns.map V.int) → sp [.ref a] H (fun v _ => v = .bl true) fun _ _ _ => False) ∧
        ∀ base : Heap, K.In base → base.Ns mainGlobals mg → FnG l.prog w K mg base k fa fd [x] sp) :
    PySem.W.WalkO q loose XP YP l.row.toRowW d [] (fun f vs => PySem.call f vs) := by
  refine Att.attach_call hn hdf fun w s0 s1 mg mb fa o pm cd doc a vs ns G Y h1 h2 h3 h4 h5 h6 h7 h8 => ?_
  obtain ⟨K, fd, sp, inK, bt, hsp, hF⟩ := F w mg fa _ Y G.T.g h4
  exact law_callG inK G.T.g G.T.b G.T.builtins G.T.nolimit h8 h5 h6 (Nat.le_trans h7 hn2) hr hF bt (fun H sq => hsp H a ns h7 sq)
end Ev
namespace Ev
open PySem L2 PySem.Spec PyProof.Rows
theorem Pen.new {L : Addr} {H : Hp} {p q : Addr} {B : Int} {o : HO} (h : Pen L H p B) (n : H q = none) : Pen L (upd H q o) p B := h.keep (fun b u e => by rw [upd_ne (ne_of_none e n)]; exact e)
theorem Pen.some {L : Addr} {H : Hp} {p : Addr} {B : Int} (h : Pen L H p B) : ∃ xs, H p = some (.lst xs) := by
  obtain ⟨ns, t, c, h1, _⟩ := h
  exact ⟨_, h1⟩
theorem Pen.ne {L : Addr} {H : Hp} {p q : Addr} {B : Int} (h : Pen L H p B) (n : H q = none) : q ≠ p := by
  obtain ⟨xs, e⟩ := h.some
  exact (ne_of_none e n).symm
theorem But.free {L p a : Addr} {H H' : Hp} {B : Int} (t : But p H H') (h : Pen L H' p B) (n : H' a = none) : H a = none := by
  cases e : H a with
  | none => rfl
  | some o =>
    have := t a o (h.ne n) e
    rw [n] at this
    cases this
def spPick : Sp := fun vs H Q _ => ∃ (p l L : Addr) (xs : List V) (B : Int), vs = [.ref p, .ref l] ∧ H l = some (.lst xs) ∧ l ≠ p ∧ 1 ≤ xs.length ∧ xs.length ≤ 1000 ∧ B ≤ 1000000 ∧ Pen L H p B ∧
  ∀ (d : V) (H' : Hp), d ∈ xs → But p H H' → Pen L H' p (B + 1) → Q d H'
inductive Row
  | tr (p q k : Int)
  | tn (p q k t s c : Int)
def Row.vs : Row → List V
  | .tr p q k => [.int p, .int q, .int k]
  | .tn p q k t s c => [.int p, .int q, .int k, .int t, .int s, .int c]
def Row.p : Row → Int
  | .tr p _ _ => p
  | .tn p _ _ _ _ _ => p
def Row.q : Row → Int
  | .tr _ q _ => q
  | .tn _ q _ _ _ _ => q
def Row.k : Row → Int
  | .tr _ _ k => k
  | .tn _ _ k _ _ _ => k
def okN (p q k : Int) : Prop := 1 ≤ q ∧ q ≤ p ∧ p ≤ 6 ∧ -6 ≤ k ∧ k ≤ 6 ∧ 2 * q ≤ p + k
def okT (t s c : Int) : Prop := (1 ≤ t ∧ t ≤ 8) ∧ (1 ≤ s ∧ s ≤ 8) ∧ -6 ≤ c ∧ c ≤ 6
def Row.ok : Row → Prop
  | .tr p q k => okN p q k
  | .tn p q k t s c => okN p q k ∧ okT t s c
def spNums : Sp := fun vs H Q _ => ∃ (p L : Addr) (B : Int), vs = [.ref p] ∧ B ≤ 900000 ∧ Pen L H p B ∧
  ∀ (a : Addr) (p' q k t s c : Int) (H' : Hp), okN p' q k → okT t s c → H a = none → H' a = some (.tup (Row.tn p' q k t s c).vs) → But p H H' → Pen L H' p (B + 9) → Q (.ref a) H'
section
variable {P : Program} {w : World} {K : PySem.W.Frag} {mg : Str → Option Value} {base : Heap}
theorem scPick : FnScope ["_law_pen_here", "_law_some"] ["_law_pen_here", "_law_some"] (defScope sPick) := ⟨rfl, rfl, rfl, by decide +kernel, rfl, by decide +kernel, by decide +kernel⟩
theorem ok_pick {f : Addr} {fd : FuncData} (F : Fun K "_law_pick" "_law_pick" sPick f fd) (T : Blt mg) (D : Df P w K mg base 1 "_law_draw" ["_law_pen_here", "_law_many"] spDraw) : FnOk P w K mg base CX0 2 f fd ["_law_pen_here", "_law_some"] spPick := by
  obtain ⟨f1, fd1, G1, g1, k1, b1⟩ := D.ex
  refine F.ok scPick (fun vs H Q E h => ?_) (fun cdv A outer s H vs Q E hr h => ?_)
  · obtain ⟨p, l, L, xs, B, rfl, _⟩ := h
    rfl
  · obtain ⟨p, l, L, xs, B, rfl, hl, hne, x1, x2, hB, hp, kk⟩ := h
    refine ⟨_, pss_one (ps_ret (pe_ix ix_list (pv 1) (pe_call G1 hr (by rfl) g1 k1 b1 .nil pass0 (pa_cons (pv 0) (pa_cons (pe_callB call_len_seq (by rfl) T.len PySem.boot_len (pa_cons (pv 1) pa_nil)) pa_nil))) (fun _ _ => rfl))), ?_⟩
    refine ⟨_, rfl, _, rfl, _, rfl, l, _, rfl, .inl (SqL.of hl), p, L, _, B, rfl, by omega, by omega, hB, hp, fun d H1 bt pn d0 d1 => ?_⟩
    obtain ⟨j, rfl⟩ := Int.eq_ofNat_of_zero_le d0
    have hj : j < xs.length := by omega
    refine ⟨l, xs, _, xs[j], rfl, rfl, SqL.of (bt _ _ hne hl), atI_nat (List.getElem?_eq_getElem hj), ?_⟩
    exact kk _ _ (List.getElem_mem hj) bt pn
end
end Ev
namespace Ev
open PySem L2 PySem.Spec PyProof.Rows
def ObjAt (Ct Cn : Addr) (H : Hp) (r : Addr) : Row → Prop
  | .tr p q k => ∃ dx a : Addr, H r = some (.ins Ct dx (tryF a k)) ∧ H a = some (.tup [.int p, .int q])
  | .tn p q k t s c => ∃ dx a b : Addr, H r = some (.ins Cn dx (turnF a k b c)) ∧ H a = some (.tup [.int p, .int q]) ∧ H b = some (.tup [.int t, .int s])
theorem ObjAt.keep {Ct Cn : Addr} {H H' : Hp} {r : Addr} {row : Row} (h : ObjAt Ct Cn H r row) (k : Same H H') : ObjAt Ct Cn H' r row := by
  cases row with
  | tr p q kk =>
    obtain ⟨dx, a, h1, h2⟩ := h
    exact ⟨dx, a, k _ _ h1, k _ _ h2⟩
  | tn p q kk t s c =>
    obtain ⟨dx, a, b, h1, h2, h3⟩ := h
    exact ⟨dx, a, b, k _ _ h1, k _ _ h2, k _ _ h3⟩
theorem ObjAt.but {Ct Cn p : Addr} {H H' : Hp} {r : Addr} {row : Row} {xs : List V} (h : ObjAt Ct Cn H r row) (hp : H p = some (.lst xs)) (k : But p H H') : ObjAt Ct Cn H' r row := by
  cases row with
  | tr p q kk =>
    obtain ⟨dx, a, h1, h2⟩ := h
    exact ⟨dx, a, k _ _ (ne_of h1 hp (by intro z; cases z)) h1, k _ _ (ne_of h2 hp (by intro z; cases z)) h2⟩
  | tn p q kk t s c =>
    obtain ⟨dx, a, b, h1, h2, h3⟩ := h
    exact ⟨dx, a, b, k _ _ (ne_of h1 hp (by intro z; cases z)) h1, k _ _ (ne_of h2 hp (by intro z; cases z)) h2, k _ _ (ne_of h3 hp (by intro z; cases z)) h3⟩
theorem ObjAt.rb {K : PySem.W.Frag} {Ct Cn : Addr} {H : Hp} {r : Addr} {row : Row} (h : ObjAt Ct Cn H r row) (T : RCls K Ct) (N : RCls K Cn) (o : row.ok) : RB K H r row.p row.q row.k := by
  cases row with
  | tr p q kk =>
    obtain ⟨dx, a, h1, h2⟩ := h
    obtain ⟨o1, o2, o3, o4, o5, o6⟩ := o
    exact ⟨⟨Ct, dx, _, a, h1, T.cl, T.n1, T.n2, try_times a kk, try_plus a kk, h2⟩, o1, o2, o3, o4, o5⟩
  | tn p q kk t s c =>
    obtain ⟨dx, a, b, h1, h2, h3⟩ := h
    obtain ⟨⟨o1, o2, o3, o4, o5, o6⟩, _⟩ := o
    exact ⟨⟨Cn, dx, _, a, h1, N.cl, N.n1, N.n2, turn_times a kk b c, turn_plus a kk b c, h2⟩, o1, o2, o3, o4, o5⟩
def spRule (Ct Cn : Addr) : Sp := fun vs H Q _ => ∃ (l : Addr) (p q k t s c : Int) (b : Bool), vs = [.ref l, .bl b] ∧ H l = some (.tup (Row.tn p q k t s c).vs) ∧ okN p q k ∧ okT t s c ∧
  ∀ (r : Addr) (H' : Hp) (row : Row), Same H H' → ObjAt Ct Cn H' r row → row.ok → row.p = p → row.q = q → row.k = k → Q (.ref r) H'
section
variable {P : Program} {w : World} {K : PySem.W.Frag} {mg : Str → Option Value} {base : Heap}
theorem Row.okN {row : Row} (o : row.ok) : Ev.okN row.p row.q row.k := by
  cases row with
  | tr p q k => exact o
  | tn p q k t s c => exact o.1
theorem max6 {c : Int} (h : -6 ≤ c) : (if c > -6 then c else -6) = c := by
  by_cases z : c > -6
  · exact if_pos z
  · rw [if_neg z]; omega
end
end Ev
namespace Ev
open PySem L2 PySem.Spec PyProof.Rows
def leastV (p q k y : Int) : Int := if -((k - q * y).fdiv p) > 1 then -((k - q * y).fdiv p) else 1
theorem least_le {p q k y x : Int} (hp : 1 ≤ p) (hx : 1 ≤ x) : leastV p q k y ≤ x ↔ q * y ≤ p * x + k := by
  unfold leastV
  rw [Int.fdiv_eq_ediv_of_nonneg _ (by omega)]
  have h1 : -x ≤ (k - q * y) / p ↔ -x * p ≤ k - q * y := Int.le_ediv_iff_mul_le (by omega)
  have h2 : -x * p = -(p * x) := by rw [Int.neg_mul, Int.mul_comm]
  rw [h2] at h1
  generalize q * y = a at h1 ⊢
  generalize p * x = b at h1 ⊢
  generalize (k - a) / p = c at h1 ⊢
  by_cases z : -c > 1
  · rw [if_pos z]
    constructor
    · intro h; have := h1.mp (by omega); omega
    · intro h; have := h1.mpr (by omega); omega
  · rw [if_neg z]
    constructor
    · intro h; have := h1.mp (by omega); omega
    · intro h; omega
theorem least_pos (p q k y : Int) : 1 ≤ leastV p q k y := by
  unfold leastV
  by_cases z : -((k - q * y).fdiv p) > 1
  · rw [if_pos z]; omega
  · rw [if_neg z]; omega
def greatV (p q k x : Int) : Int := (p * x + k).fdiv q
theorem le_great {p q k x y : Int} (hq : 1 ≤ q) : y ≤ greatV p q k x ↔ q * y ≤ p * x + k := by
  unfold greatV
  rw [Int.fdiv_eq_ediv_of_nonneg _ (by omega), Int.le_ediv_iff_mul_le (by omega), Int.mul_comm]
theorem great_ge {p q k x : Int} (o : okN p q k) (hx : 1 ≤ x) : x + 1 ≤ greatV p q k x := by
  obtain ⟨o1, o2, o3, o4, o5, o6⟩ := o
  refine (le_great o1).mpr ?_
  have h1 : q * (x - 1) ≤ p * (x - 1) := Int.mul_le_mul_of_nonneg_right o2 (by omega)
  rw [Int.mul_sub, Int.mul_sub, Int.mul_one, Int.mul_one] at h1
  rw [Int.mul_add, Int.mul_one]
  omega
def Wt (p q k : Int) : Nat → Int
  | 0 => 1
  | n + 1 => Wt p q k n + leastV p q k (Wt p q k n)
theorem Wt_lt (p q k : Int) (n : Nat) : Wt p q k n + 1 ≤ Wt p q k (n + 1) := by
  have := least_pos p q k (Wt p q k n)
  show Wt p q k n + 1 ≤ Wt p q k n + leastV p q k (Wt p q k n)
  omega
theorem Wt_ge (p q k : Int) : ∀ n : Nat, (n : Int) + 1 ≤ Wt p q k n
  | 0 => by show ((0 : Nat) : Int) + 1 ≤ 1; decide
  | n + 1 => by
    have h1 := Wt_ge p q k n
    have h2 := Wt_lt p q k n
    omega
theorem Wt_add (p q k : Int) (m : Nat) : ∀ d : Nat, Wt p q k m + (d : Int) ≤ Wt p q k (m + d)
  | 0 => by simp
  | d + 1 => by
    have h1 := Wt_add p q k m d
    have h2 := Wt_lt p q k (m + d)
    rw [show m + (d + 1) = m + d + 1 by omega]
    omega
theorem Wt_mono (p q k : Int) {m n : Nat} (h : m ≤ n) : Wt p q k m ≤ Wt p q k n := by
  obtain ⟨d, rfl⟩ := Nat.exists_eq_add_of_le h
  have := Wt_add p q k m d
  omega
/-- the greatest height whose least weight is not above m -/
def IsH (p q k m : Int) (h : Nat) : Prop := Wt p q k h ≤ m ∧ m < Wt p q k (h + 1)
theorem IsH.mono {p q k m m' : Int} {h h' : Nat} (a : IsH p q k m h) (b : IsH p q k m' h') (l : m ≤ m') : h ≤ h' := by
  by_cases z : h ≤ h'
  · exact z
  · have := Wt_mono p q k (show h' + 1 ≤ h by omega)
    have := a.1
    have := b.2
    omega
theorem IsH.uniq {p q k m : Int} {h h' : Nat} (a : IsH p q k m h) (b : IsH p q k m h') : h = h' :=
  Nat.le_antisymm (a.mono b (Int.le_refl _)) (b.mono a (Int.le_refl _))
theorem IsH.at (p q k : Int) (n : Nat) : IsH p q k (Wt p q k n) n := ⟨Int.le_refl _, by have := Wt_lt p q k n; omega⟩
theorem IsH.small {p q k m : Int} {h : Nat} (a : IsH p q k m h) : (h : Int) + 1 ≤ m := by
  have := Wt_ge p q k h
  have := a.1
  omega
theorem least_lt {p q k y : Int} (o : okN p q k) (h : 2 ≤ y) : leastV p q k y ≤ y - 1 := by
  have g := great_ge (x := y - 1) o (by omega)
  have g := (le_great o.1).mp (show y ≤ greatV p q k (y - 1) by omega)
  obtain ⟨o1, o2, o3, o4, o5, o6⟩ := o
  exact (least_le (by omega) (by omega)).mpr g
theorem least_ge {p q k y : Int} (o : okN p q k) (h : 12 ≤ y) : y ≤ 12 * leastV p q k y := by
  obtain ⟨o1, o2, o3, o4, o5, o6⟩ := o
  have l1 := least_pos p q k y
  have l := (least_le (p := p) (k := k) (q := q) (y := y) (by omega) l1).mp (Int.le_refl _)
  have a : 1 * y ≤ q * y := Int.mul_le_mul_of_nonneg_right o1 (by omega)
  have b : p * leastV p q k y ≤ 6 * leastV p q k y := Int.mul_le_mul_of_nonneg_right o3 (by omega)
  omega
theorem Wt_one {p q k : Int} (o : okN p q k) : Wt p q k 1 = 2 := by
  show 1 + leastV p q k 1 = 2
  have l1 := least_pos p q k 1
  have : leastV p q k 1 ≤ 1 := (least_le (by have := o.1; have := o.2.1; omega) (Int.le_refl 1)).mpr (by
    obtain ⟨o1, o2, o3, o4, o5, o6⟩ := o
    omega)
  omega
/-- the tree of halves is a fair one -/
theorem Wt_two {p q k : Int} (o : okN p q k) : ∀ b : Nat, Wt p q k (b + 1) ≤ 2 ^ b + 1
  | 0 => by rw [Wt_one o]; decide
  | b + 1 => by
    have h := Wt_two o b
    have g := Wt_ge p q k (b + 1)
    have l := least_lt o (show 2 ≤ Wt p q k (b + 1) by omega)
    show Wt p q k (b + 1) + leastV p q k (Wt p q k (b + 1)) ≤ 2 ^ (b + 1) + 1
    rw [Int.pow_succ]
    omega
theorem Wt_dbl {p q k : Int} (o : okN p q k) {n : Nat} (h : 12 ≤ Wt p q k n) : ∀ d : Nat, 12 * Wt p q k n + d * Wt p q k n ≤ 12 * Wt p q k (n + d)
  | 0 => by simp
  | d + 1 => by
    have h1 := Wt_dbl o h d
    have m := Wt_mono p q k (show n ≤ n + d by omega)
    have l := least_ge o (show 12 ≤ Wt p q k (n + d) by omega)
    show 12 * Wt p q k n + ((d + 1 : Nat) : Int) * Wt p q k n ≤ 12 * (Wt p q k (n + d) + leastV p q k (Wt p q k (n + d)))
    rw [show ((d + 1 : Nat) : Int) * Wt p q k n = (d : Int) * Wt p q k n + Wt p q k n by rw [show ((d + 1 : Nat) : Int) = (d : Int) + 1 by omega, Int.add_mul, Int.one_mul]]
    omega
theorem Wt_exp {p q k : Int} (o : okN p q k) : ∀ j : Nat, 12 * 2 ^ j ≤ Wt p q k (11 + 12 * j)
  | 0 => by
    have := Wt_ge p q k 11
    simpa using this
  | j + 1 => by
    have h := Wt_exp o j
    have t : (1 : Int) ≤ 2 ^ j := by
      have : (0 : Int) < 2 ^ j := Int.pow_pos (by decide)
      omega
    have d := Wt_dbl o (show 12 ≤ Wt p q k (11 + 12 * j) by omega) 12
    rw [show 11 + 12 * (j + 1) = 11 + 12 * j + 12 by omega, Int.pow_succ]
    omega
theorem Wt_long {p q k : Int} (o : okN p q k) {n : Nat} (h : Wt p q k n ≤ 10 ^ 31) : n < 1300 := by
  by_cases z : n < 1300
  · exact z
  · have e := Wt_exp o 104
    have m := Wt_mono p q k (show 11 + 12 * 104 ≤ n by omega)
    have : (10 : Int) ^ 31 < 12 * 2 ^ 104 := by decide
    omega
/-- the least weights of the heights up to n -/
def wl (p q k : Int) (n : Nat) : List V := (List.range (n + 1)).map fun i => V.int (Wt p q k i)
theorem wl_zero (p q k : Int) : wl p q k 0 = [.int 1] := rfl
theorem wl_succ (p q k : Int) (n : Nat) : wl p q k n ++ [.int (Wt p q k (n + 1))] = wl p q k (n + 1) := by
  unfold wl
  rw [List.range_succ (n := n + 1), List.map_append]
  rfl
theorem wl_len (p q k : Int) (n : Nat) : (wl p q k n).length = n + 1 := by unfold wl; simp
theorem wl_get (p q k : Int) {n i : Nat} (h : i ≤ n) : (wl p q k n)[i]? = some (.int (Wt p q k i)) := by
  unfold wl
  rw [List.getElem?_map, List.getElem?_range (by omega)]
  rfl
end Ev
namespace Ev
open PySem L2 PySem.Spec PyProof.Rows
abbrev sLeastB : Stmt := top 35
abbrev sNeedR : Stmt := top 37
/-- a class of rules beneath the common one -/
structure RK (K : PySem.W.Frag) (C CW : Addr) : Prop where
  cl : RCls K C
  ha : PySem.W.findIn K (.ref C) "__class__" = some (some (.builtin "object.__class__"))
  hm : PySem.W.mroIn K C (.type "object") = some true
  is : PySem.W.kitOne K (.ref C) (.ref CW) = some true
/-- what the kind of an instance asks -/
structure InsK (K : PySem.W.Frag) : Prop where
  hn : PySem.W.specialIn K (.builtin "object.__class__") "__get__" = some (some (.builtin "getset_descriptor.__get__"))
  htk : PySem.W.takesIn K (.builtin "object.__class__") = some true
def spLeastB (K : PySem.W.Frag) : Sp := fun vs H Q _ => ∃ (r : Addr) (p q k y : Int), vs = [.ref r, .int y] ∧ RB K H r p q k ∧ Q (.int (leastV p q k y)) H
def spNeedR (Ct Cn : Addr) : Sp := fun vs H Q _ => ∃ (r : Addr) (row : Row), vs = [.ref r] ∧ ObjAt Ct Cn H r row ∧ Q .non H
section
variable {P : Program} {w : World} {K : PySem.W.Frag} {mg : Str → Option Value} {base : Heap}
theorem scLeastB : FnScope ["rule", "y", "over", "under"] ["rule", "y"] (defScope sLeastB) := ⟨rfl, rfl, rfl, by decide +kernel, rfl, by decide +kernel, by decide +kernel⟩
theorem ok_leastB {f : Addr} {fd : FuncData} (F : Fun K "least_beside" "least_beside" sLeastB f fd) (T : Blt mg) : FnOk P w K mg base CX0 1 f fd ["rule", "y"] (spLeastB K) := by
  refine F.ok scLeastB (fun vs H Q E h => ?_) (fun cdv A outer s H vs Q E hr h => ?_)
  · obtain ⟨r, p, q, k, x, rfl, _⟩ := h
    rfl
  · obtain ⟨r, p, q, k, x, rfl, ⟨⟨C, dx, fs, a, hr1, cl, n1, n2, l1, l2, ha⟩, b1, b2, b3, b4, b5⟩, kk⟩ := h
    refine ⟨_, pss_cons (ps_asg (pe_fld (pv 0) rfl) (pg_tup (by rfl) (pgs_cons (pg_name (i := 2) scLeastB.nd rfl (.inl rfl)) (pgs_cons (pg_name (i := 3) scLeastB.nd rfl (.inl rfl)) pgs_nil))))
      (pss_one (ps_ret (pe_callB (call_max2 rfl) (by rfl) T.max (by decide +kernel) (pa_cons pe_int (pa_cons (pe_un un_neg (pe_op op_fdivN (pe_op op_sub (pe_fld (pv 0) rfl) (pe_op op_mul (pv 3) (pv 1))) (pv 2))) pa_nil))))), ?_⟩
    have q6 := m64 b1 (show q ≤ 8 by omega)
    refine ⟨_, rfl, r, C, dx, fs, _, rfl, hr1, cl, n1, l1, a, _, rfl, SqT.of ha, rfl, _, _, rfl, _, _, rfl, rfl, ?_⟩
    exact ⟨_, rfl, r, C, dx, fs, _, rfl, hr1, cl, n2, l2, _, rfl, _, rfl, _, _, rfl, rfl, .inl q6, _, _, rfl, rfl, _, rfl, _, _, rfl, rfl, ⟨by omega, by omega⟩, _, rfl, _, _, rfl, kk⟩
theorem scNeedR : FnScope ["value"] ["value"] (defScope sNeedR) := ⟨rfl, rfl, rfl, by decide +kernel, rfl, by decide +kernel, by decide +kernel⟩
theorem ok_needR {f Ct Cn CW : Addr} {fd : FuncData} (F : Fun K "need_rule" "need_rule" sNeedR f fd) (T : Blt mg) (gW : mg "WeightRule" = some (.ref CW)) (MT : RK K Ct CW) (MN : RK K Cn CW) (ik : InsK K) : FnOk P w K mg base CX0 1 f fd ["value"] (spNeedR Ct Cn) := by
  refine F.ok scNeedR (fun vs H Q E h => ?_) (fun cdv A outer s H vs Q E hr h => ?_)
  · obtain ⟨r, row, rfl, _⟩ := h
    rfl
  · obtain ⟨r, row, rfl, ob, kk⟩ := h
    refine ⟨_, pss_one (ps_if (pt_not (pt_val (pe_callB call_isi (by rfl) T.isi (by decide +kernel) (pa_cons (pv 0) (pa_cons (pe_glob (v := .ref CW) rfl gW rfl) pa_nil))))) (pss_one ps_never) pss_nil), ?_⟩
    cases row with
    | tr p q k =>
      obtain ⟨dx, a, h1, h2⟩ := ob
      exact ⟨_, rfl, _, _, _, _, true, rfl, .own CW, .base (.ins h1 MT.cl.cl MT.ha ik.hn ik.htk MT.hm), MT.is, true, rfl, iteF kk⟩
    | tn p q k t s c =>
      obtain ⟨dx, a, b, h1, h2, h3⟩ := ob
      exact ⟨_, rfl, _, _, _, _, true, rfl, .own CW, .base (.ins h1 MN.cl.cl MN.ha ik.hn ik.htk MN.hm), MN.is, true, rfl, iteF kk⟩
end
end Ev
namespace Ev
open PySem L2 PySem.Spec PyProof.Rows
/-! What a grip reckons. -/
inductive Bk | st | li1 | li2 | fa1 | fa2 | to1 | to2
deriving DecidableEq
def Bk.n : Bk → Str
  | .st => "inner" | .li1 => "light" | .li2 => "light" | .fa1 => "far" | .fa2 => "far" | .to1 => "top" | .to2 => "top"
def Bk.s : Bk → Str
  | .st => "none" | .li1 => "first" | .li2 => "second" | .fa1 => "first" | .fa2 => "second" | .to1 => "first" | .to2 => "second"
def onces : List (Option Bk) := [some .li1, some .li2, some .to1, some .to2]
def twices : List (Option Bk) := [some .st, some .li1, some .li2, some .fa1, some .fa2, some .to1, some .to2]
def partV (p q k c : Int) : Int := leastV (p + q) q k c
def muchV (p q k a b : Int) : Int := -((q * a - p * b - k - 1).fdiv (p + q))
def topV (p q k a : Int) : Int := greatV p q k a + 1
/-- a grip: the rule's numbers and the sides -/
structure Gp where
  p : Int
  q : Int
  k : Int
  a : Int
  b : Int
def Gp.L (g : Gp) : Int := leastV g.p g.q g.k g.a
def Gp.T (g : Gp) : Int := topV g.p g.q g.k g.a
def Gp.M (g : Gp) : Int := muchV g.p g.q g.k g.a g.b
def Gp.part (g : Gp) (c : Int) : Int := partV g.p g.q g.k c
def Gp.least (g : Gp) (c : Int) : Int := leastV g.p g.q g.k c
def Gp.ends (g : Gp) (o : Option Bk) (l h : Int) : Int × Int :=
  match o with
  | none => (l, h)
  | some .li1 => (l, if h < g.L then h else g.L - 1)
  | some .li2 => (if l > g.T then l else g.T, h)
  | some .to1 => (if l > g.M then l else g.M, h)
  | some _ => (1, 0)
def Gp.with (g : Gp) (m i : Int) : Int × Int :=
  let i' := if i > m + g.least m then i else m + g.least m
  (i', if g.part i' > m then g.part i' else m)
def Gp.near (g : Gp) (t : Bk) (i : Int) : Option (Int × Int) :=
  match t with
  | .li2 => some (g.with g.T i)
  | .to1 => some (g.with g.M i)
  | .li1 => if g.part i < g.L then some (i, g.part i) else none
  | .fa2 => if g.part i ≤ g.least (g.b - i) - 1 then some (i, if g.part i > i - (g.least (g.b - i) - 1) then g.part i else i - (g.least (g.b - i) - 1)) else none
  | _ => none
def Gp.nums (g : Gp) (t : Option Bk) (l h : Int) : Option (List Int) :=
  match t with
  | none => some [g.a, l, g.b - l]
  | some .st => if l = 1 then some [g.a, 1, g.b - 1] else none
  | some t => match g.near t (if l > 1 then l else 2) with
    | none => none
    | some (i, e) => if i > h then none else some [g.a, e, i - e, g.b - i]
def Gp.second (g : Gp) (o : Option Bk) (l h : Int) : List (Option Bk) → Option (Option Bk × Option Bk × List Int)
  | [] => none
  | t :: ts => match g.nums t l h with
    | some ns => some (o, t, ns)
    | none => g.second o l h ts
def Gp.first (g : Gp) (ts : List (Option Bk)) (l h : Int) : List (Option Bk) → Option (Option Bk × Option Bk × List Int)
  | [] => none
  | o :: os => if (g.ends o l h).1 ≤ (g.ends o l h).2 then
      match g.second o (g.ends o l h).1 (g.ends o l h).2 ts with
      | some r => some r
      | none => g.first ts l h os
    else g.first ts l h os
/-! what it means -/
def Gp.heavy (g : Gp) (x y : Int) : Prop := g.p * y + g.k < g.q * x
def Gp.once (g : Gp) (o : Bk) (c : Int) : Prop :=
  match o with
  | .li1 => g.heavy g.a c
  | .li2 => g.heavy c g.a
  | .to1 => g.heavy (g.a + c) (g.b - c)
  | _ => False
def Gp.twice (g : Gp) (t : Bk) (c e : Int) : Prop :=
  match t with
  | .li1 => g.heavy g.a e
  | .li2 => g.heavy e g.a
  | .fa2 => g.heavy (g.b - c) (c - e)
  | .to1 => g.heavy (g.a + e) (g.b - e)
  | _ => False
theorem six {p : Int} (h1 : 1 ≤ p) (h2 : p ≤ 6) : p = 1 ∨ p = 2 ∨ p = 3 ∨ p = 4 ∨ p = 5 ∨ p = 6 := by omega
theorem part_le {p q k c x : Int} (hp : 1 ≤ p) (hq : 1 ≤ q) (hx : 1 ≤ x) : partV p q k c ≤ x ↔ q * (c - x) ≤ p * x + k := by
  unfold partV
  rw [least_le (by omega) hx, Int.add_mul, Int.mul_sub]
  constructor <;> intro h <;> omega
theorem part_pos (p q k c : Int) : 1 ≤ partV p q k c := least_pos _ _ _ _
theorem much_le {p q k a b c : Int} (hp : 1 ≤ p) (hq : 1 ≤ q) : muchV p q k a b ≤ c ↔ p * (b - c) + k < q * (a + c) := by
  unfold muchV
  rw [Int.fdiv_eq_ediv_of_nonneg _ (by omega)]
  have h1 : -c ≤ (q * a - p * b - k - 1) / (p + q) ↔ -c * (p + q) ≤ q * a - p * b - k - 1 := Int.le_ediv_iff_mul_le (by omega)
  have h2 : -c * (p + q) = -(p * c) - q * c := by rw [Int.neg_mul, Int.mul_add, Int.mul_comm c p, Int.mul_comm c q]; omega
  rw [Int.mul_sub, Int.mul_add]
  constructor <;> intro h <;> omega
theorem top_le {p q k a c : Int} (hq : 1 ≤ q) : topV p q k a ≤ c ↔ p * a + k < q * c := by
  unfold topV
  have := le_great (p := p) (k := k) (x := a) (y := c) hq
  constructor
  · intro h
    refine Int.not_le.mp fun z => ?_
    have := this.mpr z
    omega
  · intro h
    refine Int.not_lt.mp fun z => ?_
    have := this.mp (by omega)
    omega
theorem least_lt_iff {p q k y x : Int} (hp : 1 ≤ p) (hx : 1 ≤ x) : x < leastV p q k y ↔ p * x + k < q * y := by
  have := least_le (k := k) (q := q) (y := y) hp hx
  constructor
  · intro h
    refine Int.not_le.mp fun z => ?_
    have := this.mpr z
    omega
  · intro h
    refine Int.not_le.mp fun z => ?_
    have := this.mp z
    omega
theorem part_mono {p q k c c' : Int} (hp : 1 ≤ p) (hq : 1 ≤ q) (h : c ≤ c') : partV p q k c ≤ partV p q k c' := by
  have a := (part_le hp hq (part_pos p q k c')).mp (Int.le_refl (partV p q k c'))
  refine (part_le hp hq (part_pos p q k c')).mpr (Int.le_trans (Int.mul_le_mul_of_nonneg_left (by omega) (by omega)) a)
theorem least_mono {p q k c c' : Int} (hp : 1 ≤ p) (hq : 1 ≤ q) (h : c ≤ c') : leastV p q k c ≤ leastV p q k c' := by
  have a := (least_le (q := q) (k := k) (y := c') hp (least_pos p q k c')).mp (Int.le_refl (leastV p q k c'))
  exact (least_le hp (least_pos p q k c')).mpr (Int.le_trans (Int.mul_le_mul_of_nonneg_left (by omega) (by omega)) a)
/-- the lighter half of a weight -/
theorem part_half {p q k c : Int} (o : okN p q k) (h : 2 ≤ c) : partV p q k c ≤ c / 2 := by
  obtain ⟨o1, o2, o3, o4, o5, o6⟩ := o
  refine (part_le (by omega) o1 (by omega)).mpr ?_
  have e : c = 2 * (c / 2) ∨ c = 2 * (c / 2) + 1 := by omega
  generalize c / 2 = x at e
  rcases six (show 1 ≤ p by omega) o3 with rfl | rfl | rfl | rfl | rfl | rfl <;> rcases six o1 (by omega) with rfl | rfl | rfl | rfl | rfl | rfl <;> omega
theorem self_fair {p q k x y : Int} (o : okN p q k) (h1 : 1 ≤ x) (h : x ≤ y) : q * x ≤ p * y + k := by
  obtain ⟨o1, o2, o3, o4, o5, o6⟩ := o
  rcases six (show 1 ≤ p by omega) o3 with rfl | rfl | rfl | rfl | rfl | rfl <;> rcases six o1 (by omega) with rfl | rfl | rfl | rfl | rfl | rfl <;> omega
theorem much_pos {p q k a b : Int} (o : okN p q k) (ha : 1 ≤ a) (hb : topV p q k a ≤ b) : 1 ≤ muchV p q k a b := by
  have g := great_ge o ha
  unfold topV at hb
  obtain ⟨o1, o2, o3, o4, o5, o6⟩ := o
  refine Int.not_lt.mp fun z => ?_
  have := (much_le (p := p) (q := q) (k := k) (a := a) (b := b) (c := 0) (by omega) o1).mp (by omega)
  revert this
  rcases six (show 1 ≤ p by omega) o3 with rfl | rfl | rfl | rfl | rfl | rfl <;> rcases six o1 (by omega) with rfl | rfl | rfl | rfl | rfl | rfl <;> omega
end Ev
namespace Ev
open PySem L2 PySem.Spec PyProof.Rows
def Gp.ok (g : Gp) : Prop := okN g.p g.q g.k ∧ 1 ≤ g.a ∧ g.T ≤ g.b
theorem Gp.second_some {g : Gp} {o : Option Bk} {l h : Int} {r : Option Bk × Option Bk × List Int} : ∀ {ts : List (Option Bk)}, g.second o l h ts = some r → ∃ t ns, t ∈ ts ∧ g.nums t l h = some ns ∧ r = (o, t, ns)
  | [], e => by cases e
  | t :: ts, e => by
    unfold Gp.second at e
    cases en : g.nums t l h with
    | some ns =>
      rw [en] at e
      exact ⟨t, ns, List.mem_cons_self, en, (Option.some.inj e).symm⟩
    | none =>
      rw [en] at e
      obtain ⟨t', ns, h1, h2, h3⟩ := Gp.second_some (ts := ts) e
      exact ⟨t', ns, List.mem_cons_of_mem _ h1, h2, h3⟩
theorem Gp.second_has {g : Gp} {o : Option Bk} {l h : Int} {t : Option Bk} : ∀ {ts : List (Option Bk)}, t ∈ ts → g.nums t l h ≠ none → g.second o l h ts ≠ none
  | [], e, _ => by cases e
  | t' :: ts, e, n => by
    unfold Gp.second
    cases en : g.nums t' l h with
    | some ns => exact fun z => by cases z
    | none =>
      rcases List.mem_cons.mp e with rfl | e
      · exact absurd en n
      · exact Gp.second_has e n
theorem Gp.first_some {g : Gp} {ts : List (Option Bk)} {l h : Int} {r : Option Bk × Option Bk × List Int} : ∀ {os : List (Option Bk)}, g.first ts l h os = some r →
    ∃ o t ns, o ∈ os ∧ t ∈ ts ∧ (g.ends o l h).1 ≤ (g.ends o l h).2 ∧ g.nums t (g.ends o l h).1 (g.ends o l h).2 = some ns ∧ r = (o, t, ns)
  | [], e => by cases e
  | o :: os, e => by
    unfold Gp.first at e
    have recu : g.first ts l h os = some r → ∃ o' t ns, o' ∈ o :: os ∧ t ∈ ts ∧ (g.ends o' l h).1 ≤ (g.ends o' l h).2 ∧ g.nums t (g.ends o' l h).1 (g.ends o' l h).2 = some ns ∧ r = (o', t, ns) := fun e => by
      obtain ⟨o', t, ns, h1, h2⟩ := Gp.first_some e
      exact ⟨o', t, ns, List.mem_cons_of_mem _ h1, h2⟩
    by_cases c : (g.ends o l h).1 ≤ (g.ends o l h).2
    · rw [if_pos c] at e
      cases es : g.second o (g.ends o l h).1 (g.ends o l h).2 ts with
      | some r' =>
        rw [es] at e
        obtain rfl : r' = r := Option.some.inj e
        obtain ⟨t, ns, h1, h2, h3⟩ := Gp.second_some es
        exact ⟨o, t, ns, List.mem_cons_self, h1, c, h2, h3⟩
      | none =>
        rw [es] at e
        exact recu e
    · rw [if_neg c] at e
      exact recu e
theorem Gp.first_has {g : Gp} {ts : List (Option Bk)} {l h : Int} {o t : Option Bk} : ∀ {os : List (Option Bk)}, o ∈ os → t ∈ ts → (g.ends o l h).1 ≤ (g.ends o l h).2 → g.nums t (g.ends o l h).1 (g.ends o l h).2 ≠ none → g.first ts l h os ≠ none
  | [], e, _, _, _ => by cases e
  | o' :: os, e, ht, c, n => by
    unfold Gp.first
    rcases List.mem_cons.mp e with rfl | e
    · rw [if_pos c]
      have := Gp.second_has (o := o) ht n
      cases es : g.second o (g.ends o l h).1 (g.ends o l h).2 ts with
      | some r' => exact fun z => by cases z
      | none => exact absurd es this
    · have recu := Gp.first_has e ht c n
      by_cases c' : (g.ends o' l h).1 ≤ (g.ends o' l h).2
      · rw [if_pos c']
        cases es : g.second o' (g.ends o' l h).1 (g.ends o' l h).2 ts with
        | some r' => exact fun z => by cases z
        | none => exact recu
      · rw [if_neg c']
        exact recu
/-- the inner sides of c are fair -/
def Gp.inner (g : Gp) (c e : Int) : Prop := 1 ≤ e ∧ 1 ≤ c - e ∧ g.q * e ≤ g.p * (c - e) + g.k ∧ g.q * (c - e) ≤ g.p * e + g.k
theorem Gp.part_inner {g : Gp} (o : okN g.p g.q g.k) {c : Int} (h : 2 ≤ c) : g.inner c (g.part c) := by
  have hh := part_half o h
  have hp := part_pos g.p g.q g.k c
  refine ⟨hp, (show 1 ≤ c - partV g.p g.q g.k c by omega), self_fair o hp (show partV g.p g.q g.k c ≤ c - partV g.p g.q g.k c by omega), ?_⟩
  exact (part_le (by obtain ⟨o1, o2, _⟩ := o; omega) o.1 hp).mp (Int.le_refl _)
theorem Gp.with_inner {g : Gp} (o : okN g.p g.q g.k) {m i : Int} (hm : 1 ≤ m) (h : 2 ≤ i) : i ≤ (g.with m i).1 ∧ m ≤ (g.with m i).2 ∧ g.inner (g.with m i).1 (g.with m i).2 := by
  have hp : 1 ≤ g.p := by obtain ⟨o1, o2, _⟩ := o; omega
  have lp := least_pos g.p g.q g.k m
  have e1 : (g.with m i).1 = if i > m + g.least m then i else m + g.least m := rfl
  have e2 : (g.with m i).2 = if g.part (g.with m i).1 > m then g.part (g.with m i).1 else m := rfl
  have c1 : i ≤ (g.with m i).1 ∧ m + leastV g.p g.q g.k m ≤ (g.with m i).1 := by
    rw [e1]
    show i ≤ (if i > m + leastV g.p g.q g.k m then i else m + leastV g.p g.q g.k m) ∧ m + leastV g.p g.q g.k m ≤ (if i > m + leastV g.p g.q g.k m then i else m + leastV g.p g.q g.k m)
    split <;> constructor <;> omega
  rw [e2]
  generalize (g.with m i).1 = c at c1 ⊢
  have pi := Gp.part_inner o (show 2 ≤ c by omega)
  refine ⟨c1.1, ?_⟩
  by_cases z : g.part c > m
  · rw [if_pos z]
    exact ⟨by omega, pi⟩
  · rw [if_neg z]
    refine ⟨Int.le_refl _, hm, by omega, ?_, ?_⟩
    · exact (least_le hp (by omega)).mp (by omega)
    · exact (part_le hp o.1 hm).mp (Int.not_lt.mp z)
theorem Gp.near_sound {g : Gp} (w : g.ok) {t : Bk} {i c e : Int} (h : 2 ≤ i) (hn : g.near t i = some (c, e)) : i ≤ c ∧ g.inner c e ∧ g.twice t c e := by
  obtain ⟨o, ha, hb⟩ := w
  have hp : 1 ≤ g.p := by obtain ⟨o1, o2, _⟩ := o; omega
  have hq := o.1
  cases t with
  | st => cases hn
  | fa1 => cases hn
  | to2 => cases hn
  | li2 =>
    have T1 : 1 ≤ g.T := by have := great_ge o ha; show 1 ≤ greatV g.p g.q g.k g.a + 1; omega
    obtain ⟨h1, h2, h3⟩ := Gp.with_inner o T1 h
    have e' : g.with g.T i = (c, e) := Option.some.inj hn
    rw [e'] at h1 h2 h3
    exact ⟨h1, h3, (top_le hq).mp h2⟩
  | to1 =>
    have M1 : 1 ≤ g.M := much_pos o ha hb
    obtain ⟨h1, h2, h3⟩ := Gp.with_inner o M1 h
    have e' : g.with g.M i = (c, e) := Option.some.inj hn
    rw [e'] at h1 h2 h3
    exact ⟨h1, h3, (much_le hp hq).mp h2⟩
  | li1 =>
    unfold Gp.near at hn
    by_cases z : g.part i < g.L
    · simp only [if_pos z] at hn
      injection hn with hn
      injection hn with e1 e2
      subst e1 e2
      exact ⟨Int.le_refl _, Gp.part_inner o h, (least_lt_iff hp (part_pos _ _ _ _)).mp z⟩
    · simp only [if_neg z] at hn
      cases hn
  | fa2 =>
    unfold Gp.near at hn
    have pi := Gp.part_inner o h
    by_cases z : g.part i ≤ g.least (g.b - i) - 1
    · simp only [if_pos z] at hn
      injection hn with hn
      injection hn with e1 e2
      subst e1
      refine ⟨Int.le_refl _, ?_⟩
      have fl : ∀ f : Int, 1 ≤ f → f ≤ g.least (g.b - i) - 1 → g.p * f + g.k < g.q * (g.b - i) := by
        intro f h1 h2
        have h3 : f < leastV g.p g.q g.k (g.b - i) := by
          have h4 : leastV g.p g.q g.k (g.b - i) = g.least (g.b - i) := rfl
          omega
        exact (least_lt_iff hp h1).mp h3
      generalize g.least (g.b - i) - 1 = far at z e2 fl
      by_cases y : g.part i > i - far
      · rw [if_pos y] at e2
        subst e2
        exact ⟨pi, fl _ pi.2.1 (by omega)⟩
      · rw [if_neg y] at e2
        subst e2
        have e3 : i - (i - far) = far := by omega
        have p1 := pi.1
        have hx : 1 ≤ i - far := by omega
        refine ⟨⟨hx, by omega, ?_, ?_⟩, ?_⟩
        · rw [e3]
          exact (part_le hp hq (show 1 ≤ far by omega)).mp z
        · exact (part_le hp hq hx).mp (Int.not_lt.mp y)
        · show g.p * (i - (i - far)) + g.k < _
          rw [e3]
          exact fl far (by omega) (Int.le_refl _)
    · simp only [if_neg z] at hn
      cases hn
/-- with less to begin with there is room, too -/
theorem Gp.near_less {g : Gp} (o : okN g.p g.q g.k) {t : Bk} {i j c e : Int} (hn : g.near t i = some (c, e)) (h : j ≤ c) (hl : t = .li1 ∨ t = .fa2 → i = c) : ∃ c' e', g.near t j = some (c', e') ∧ c' ≤ c := by
  have hp : 1 ≤ g.p := by obtain ⟨o1, o2, _⟩ := o; omega
  have hq := o.1
  have wl : ∀ m, g.with m i = (c, e) → (g.with m j).1 ≤ c := fun m e1 => by
    have e2 : (if i > m + g.least m then i else m + g.least m) = c := congrArg Prod.fst e1
    show (if j > m + g.least m then j else m + g.least m) ≤ c
    by_cases z : j > m + g.least m
    · rw [if_pos z]; exact h
    · rw [if_neg z]
      by_cases y : i > m + g.least m
      · rw [if_pos y] at e2; omega
      · rw [if_neg y] at e2; omega
  cases t with
  | st => cases hn
  | fa1 => cases hn
  | to2 => cases hn
  | li2 => exact ⟨_, _, rfl, wl _ (Option.some.inj hn)⟩
  | to1 => exact ⟨_, _, rfl, wl _ (Option.some.inj hn)⟩
  | li1 =>
    obtain rfl := hl (.inl rfl)
    unfold Gp.near at hn ⊢
    by_cases z : g.part i < g.L
    · have : g.part j ≤ g.part i := part_mono hp hq h
      exact ⟨j, g.part j, if_pos (by omega), h⟩
    · simp only [if_neg z] at hn
      cases hn
  | fa2 =>
    obtain rfl := hl (.inr rfl)
    unfold Gp.near at hn ⊢
    by_cases z : g.part i ≤ g.least (g.b - i) - 1
    · have h1 : g.part j ≤ g.part i := part_mono hp hq h
      have h2 : g.least (g.b - i) ≤ g.least (g.b - j) := least_mono hp hq (by omega)
      exact ⟨j, _, if_pos (by omega), h⟩
    · simp only [if_neg z] at hn
      cases hn
theorem Gp.near_at {g : Gp} {t : Bk} {i c e : Int} (hn : g.near t i = some (c, e)) (hl : t = .li1 ∨ t = .fa2) : i = c := by
  rcases hl with rfl | rfl
  · unfold Gp.near at hn
    by_cases z : g.part i < g.L
    · simp only [if_pos z] at hn
      injection hn with hn
      injection hn
    · simp only [if_neg z] at hn
      cases hn
  · unfold Gp.near at hn
    by_cases z : g.part i ≤ g.least (g.b - i) - 1
    · simp only [if_pos z] at hn
      injection hn with hn
      injection hn
    · simp only [if_neg z] at hn
      cases hn
theorem Gp.ends_once {g : Gp} (w : g.ok) {o : Option Bk} (ho : o ∈ onces) {l h c : Int} (l1 : 1 ≤ l) (h1 : (g.ends o l h).1 ≤ c) (h2 : c ≤ (g.ends o l h).2) : ∃ b, o = some b ∧ l ≤ c ∧ c ≤ h ∧ g.once b c := by
  obtain ⟨ok, ha, hb⟩ := w
  have hp : 1 ≤ g.p := by obtain ⟨o1, o2, _⟩ := ok; omega
  have hq := ok.1
  simp only [onces, List.mem_cons, List.not_mem_nil, or_false] at ho
  rcases ho with rfl | rfl | rfl | rfl
  · have h1 : l ≤ c := h1
    have h2 : c ≤ (if h < g.L then h else g.L - 1) := h2
    refine ⟨_, rfl, h1, ?_, (least_lt_iff hp (by omega)).mp ?_⟩
    · split at h2 <;> omega
    · show c < g.L
      split at h2 <;> omega
  · have h1 : (if l > g.T then l else g.T) ≤ c := h1
    refine ⟨_, rfl, ?_, h2, (top_le hq).mp ?_⟩
    · split at h1 <;> omega
    · show g.T ≤ c
      split at h1 <;> omega
  · have h1 : (if l > g.M then l else g.M) ≤ c := h1
    refine ⟨_, rfl, ?_, h2, (much_le hp hq).mp ?_⟩
    · split at h1 <;> omega
    · show g.M ≤ c
      split at h1 <;> omega
  · have h1 : (1 : Int) ≤ c := h1
    have h2 : c ≤ (0 : Int) := h2
    omega
theorem Gp.once_ends {g : Gp} (w : g.ok) {b : Bk} (ho : some b ∈ onces) {l h c : Int} (c1 : 1 ≤ c) (h1 : l ≤ c) (h2 : c ≤ h) (hc : g.once b c) : (g.ends (some b) l h).1 ≤ c ∧ c ≤ (g.ends (some b) l h).2 := by
  obtain ⟨ok, ha, hb⟩ := w
  have hp : 1 ≤ g.p := by obtain ⟨o1, o2, _⟩ := ok; omega
  have hq := ok.1
  simp only [onces, List.mem_cons, List.not_mem_nil, or_false, Option.some.injEq] at ho
  rcases ho with rfl | rfl | rfl | rfl
  · have : c < g.L := (least_lt_iff hp c1).mpr hc
    show l ≤ c ∧ c ≤ (if h < g.L then h else g.L - 1)
    split <;> constructor <;> omega
  · have : g.T ≤ c := (top_le hq).mpr hc
    show (if l > g.T then l else g.T) ≤ c ∧ c ≤ h
    split <;> constructor <;> omega
  · have : g.M ≤ c := (much_le hp hq).mpr hc
    show (if l > g.M then l else g.M) ≤ c ∧ c ≤ h
    split <;> constructor <;> omega
  · exact absurd hc id
/-- what is told of a try rule -/
inductive Gp.Found (g : Gp) : Bk → Bk → List Int → Prop
  | stuck {o : Bk} : some o ∈ onces → g.once o 1 → g.part g.b ≤ 1 → 1 ≤ g.b - g.part g.b → g.Found o .st [g.a, 1, g.b - 1]
  | twice {o t : Bk} {c e : Int} : some o ∈ onces → some t ∈ twices → t ≠ .st → g.once o c → g.part g.b ≤ c → c ≤ g.b - g.part g.b → 2 ≤ c → g.inner c e → g.twice t c e →
      (∀ j, j ≤ c → ∃ c' e', g.near t j = some (c', e') ∧ c' ≤ c) → g.Found o t [g.a, e, c - e, g.b - c]
def Gp.tryB (g : Gp) : Option (Option Bk × Option Bk × List Int) := g.first twices (g.part g.b) (g.b - g.part g.b) onces
theorem Gp.try_found {g : Gp} (w : g.ok) {o t : Option Bk} {ns : List Int} (h : g.tryB = some (o, t, ns)) : ∃ o' t', o = some o' ∧ t = some t' ∧ g.Found o' t' ns := by
  obtain ⟨o2, t2, ns2, h1, h2, h3, h4, h5⟩ := Gp.first_some h
  injection h5 with e1 e2
  injection e2 with e2 e3
  subst e1 e2 e3
  have pp : 1 ≤ g.part g.b := part_pos _ _ _ _
  cases t with
  | none => simp [twices] at h2
  | some t =>
    by_cases st : t = .st
    · subst st
      unfold Gp.nums at h4
      by_cases z : (g.ends o (g.part g.b) (g.b - g.part g.b)).1 = 1
      · simp only [if_pos z] at h4
        injection h4 with h4
        subst h4
        obtain ⟨b, rfl, q1, q2, q3⟩ := Gp.ends_once (l := g.part g.b) (h := g.b - g.part g.b) w h1 pp (c := 1) (by omega) (by omega)
        exact ⟨b, .st, rfl, rfl, .stuck h1 q3 q1 q2⟩
      · simp only [if_neg z] at h4
        cases h4
    · have h4 : (match g.near t (if (g.ends o (g.part g.b) (g.b - g.part g.b)).1 > 1 then (g.ends o (g.part g.b) (g.b - g.part g.b)).1 else 2) with
        | none => none
        | some (i, e) => if i > (g.ends o (g.part g.b) (g.b - g.part g.b)).2 then none else some [g.a, e, i - e, g.b - i]) = some ns := by
        cases t <;> first | exact h4 | exact absurd rfl st
      have lo : 2 ≤ (if (g.ends o (g.part g.b) (g.b - g.part g.b)).1 > 1 then (g.ends o (g.part g.b) (g.b - g.part g.b)).1 else 2) := by split <;> omega
      have lo2 : (g.ends o (g.part g.b) (g.b - g.part g.b)).1 ≤ (if (g.ends o (g.part g.b) (g.b - g.part g.b)).1 > 1 then (g.ends o (g.part g.b) (g.b - g.part g.b)).1 else 2) := by split <;> omega
      generalize (if (g.ends o (g.part g.b) (g.b - g.part g.b)).1 > 1 then (g.ends o (g.part g.b) (g.b - g.part g.b)).1 else 2) = i at h4 lo lo2
      cases en : g.near t i with
      | none => rw [en] at h4; cases h4
      | some ce =>
        obtain ⟨c, e⟩ := ce
        rw [en] at h4
        dsimp only at h4
        by_cases z : c > (g.ends o (g.part g.b) (g.b - g.part g.b)).2
        · rw [if_pos z] at h4; cases h4
        · rw [if_neg z] at h4
          injection h4 with h4
          subst h4
          obtain ⟨n1, n2, n3⟩ := Gp.near_sound w lo en
          obtain ⟨b, rfl, q1, q2, q3⟩ := Gp.ends_once (l := g.part g.b) (h := g.b - g.part g.b) w h1 pp (c := c) (by omega) (by omega)
          exact ⟨b, t, rfl, rfl, .twice h1 h2 st q3 q1 q2 (by omega) n2 n3 fun j hj => Gp.near_less w.1 en hj fun hl => Gp.near_at en hl⟩
def Gp.turnB (g : Gp) (t s r : Int) : Option (Option Bk × Option Bk × List Int) :=
  let m := (t * g.b + r).fdiv (t + s)
  match g.first [none] (g.part g.b) (if g.b - g.part g.b < m then g.b - g.part g.b else m) onces with
  | some x => some x
  | none => g.first twices (if g.part g.b > m then g.part g.b else m + 1) (g.b - g.part g.b) [none]
theorem most_le {t s r b c : Int} (ht : 1 ≤ t) (hs : 1 ≤ s) : c ≤ (t * b + r).fdiv (t + s) ↔ s * c ≤ t * (b - c) + r := by
  rw [Int.fdiv_eq_ediv_of_nonneg _ (by omega), Int.le_ediv_iff_mul_le (by omega), Int.mul_add, Int.mul_sub, Int.mul_comm c t, Int.mul_comm c s]
  constructor <;> intro h <;> omega
theorem Gp.turn_too {g : Gp} (w : g.ok) {o t : Bk} {ns : List Int} (f : g.Found o t ns) {u s r : Int} (hu : 1 ≤ u) (hs : 1 ≤ s) : g.turnB u s r ≠ none := by
  unfold Gp.turnB
  dsimp only
  cases e1 : g.first [none] (g.part g.b) (if g.b - g.part g.b < (u * g.b + r).fdiv (u + s) then g.b - g.part g.b else (u * g.b + r).fdiv (u + s)) onces with
  | some x => exact fun z => by cases z
  | none =>
    dsimp only
    have onceN : ∀ c : Int, some o ∈ onces → 1 ≤ c → g.part g.b ≤ c → c ≤ g.b - g.part g.b → g.once o c → (u * g.b + r).fdiv (u + s) + 1 ≤ c := fun c ho c1 c2 c3 c4 => by
      refine Int.not_lt.mp fun z => ?_
      have := Gp.once_ends w ho (l := g.part g.b) (h := if g.b - g.part g.b < (u * g.b + r).fdiv (u + s) then g.b - g.part g.b else (u * g.b + r).fdiv (u + s)) c1 c2 (by split <;> omega) c4
      exact Gp.first_has (t := none) ho List.mem_cons_self (Int.le_trans this.1 this.2) (by intro z; cases z) e1
    rcases f with ⟨ho, h1, h2, h3⟩ | ⟨ho, ht, st, h1, h2, h3, h4, h5, h6, h7⟩
    · skip
      have := onceN 1 ho (by omega) h2 h3 h1
      refine Gp.first_has (o := none) (t := some .st) List.mem_cons_self (by simp [twices]) ?_ ?_
      · show (if g.part g.b > _ then g.part g.b else _) ≤ g.b - g.part g.b
        split <;> omega
      · have e : (if g.part g.b > (u * g.b + r).fdiv (u + s) then g.part g.b else (u * g.b + r).fdiv (u + s) + 1) = 1 := by
          have : 1 ≤ g.part g.b := part_pos _ _ _ _
          split <;> omega
        show (if (if g.part g.b > (u * g.b + r).fdiv (u + s) then g.part g.b else (u * g.b + r).fdiv (u + s) + 1) = 1 then some [g.a, 1, g.b - 1] else none) ≠ none
        rw [if_pos e]
        exact fun z => by cases z
    · rename_i c e
      have hm := onceN c ho (by omega) h2 h3 h1
      refine Gp.first_has (o := none) (t := some t) List.mem_cons_self ht ?_ ?_
      · show (if g.part g.b > _ then g.part g.b else _) ≤ g.b - g.part g.b
        split <;> omega
      · have lo : (if (if g.part g.b > (u * g.b + r).fdiv (u + s) then g.part g.b else (u * g.b + r).fdiv (u + s) + 1) > 1 then (if g.part g.b > (u * g.b + r).fdiv (u + s) then g.part g.b else (u * g.b + r).fdiv (u + s) + 1) else 2) ≤ c := by
          split
          · split <;> omega
          · omega
        have e2 : g.nums (some t) (g.ends none (if g.part g.b > (u * g.b + r).fdiv (u + s) then g.part g.b else (u * g.b + r).fdiv (u + s) + 1) (g.b - g.part g.b)).1 (g.ends none (if g.part g.b > (u * g.b + r).fdiv (u + s) then g.part g.b else (u * g.b + r).fdiv (u + s) + 1) (g.b - g.part g.b)).2 =
          (match g.near t (if (if g.part g.b > (u * g.b + r).fdiv (u + s) then g.part g.b else (u * g.b + r).fdiv (u + s) + 1) > 1 then (if g.part g.b > (u * g.b + r).fdiv (u + s) then g.part g.b else (u * g.b + r).fdiv (u + s) + 1) else 2) with
            | none => none
            | some (i, e) => if i > g.b - g.part g.b then none else some [g.a, e, i - e, g.b - i]) := by
          cases t <;> first | rfl | exact absurd rfl st
        rw [e2]
        obtain ⟨c', e', en, hc'⟩ := h7 _ lo
        rw [en]
        dsimp only
        rw [if_neg (by omega)]
        exact fun z => by cases z
end Ev
namespace Ev
open PySem L2 PySem.Spec PyProof.Rows RZ
section
variable {X : Cx}
theorem pe_never {e : Expr} : PE X e (fun _ _ _ => False) := ⟨fun _ _ _ _ _ _ h => h.elim⟩
/-- x in a tuple of data -/
def rInT (K : PySem.W.Frag) : R2 := fun x y H Q => ∃ d ds, Dp K H x d ∧ Dp K H y (.tuple ds) ∧ SeqAt.shaped d = true ∧ SeqAt.shaped (.list ds) = true ∧ Q (.bl (ds.any fun z => PyData.eqv z d)) H
theorem op_inT (hu : X.A.units + 65 < cLine) : OpR X (compareOp .In) (rInT X.K) := by
  intro pins s σ H x y v u Q I rx ry h
  obtain ⟨d, ds, hd, he, sd, se, q⟩ := h
  obtain ⟨as, r1⟩ := Dp.reads I d x v hd rx
  obtain ⟨bs, r2⟩ := Dp.reads I (.tuple ds) y u he ry
  exact SeqAt.in_tuple_reads r2 r1 (SeqAt.canLay_of_shaped se) (SeqAt.canLay_of_shaped sd) (room_in_shaped sd hu) ⟨.bl _, H, I, rfl, q⟩
end
/-- v is a value of the built-in type T, one that holds nothing -/
structure Flat (v : V) (T : String) : Prop where
  ty : ∀ (K : PySem.W.Frag) (H : Hp), TyX K H v (.type T)
  l : kitB T "list" = some false
  t : kitB T "tuple" = some false
  d : kitB T "dict" = some false
theorem flat_int (i : Int) : Flat (.int i) "int" := ⟨fun _ _ => .base (.int i), by decide +kernel, by decide +kernel, by decide +kernel⟩
theorem flat_str (x : Str) : Flat (.str x) "str" := ⟨fun _ _ => .base (.str x), by decide +kernel, by decide +kernel, by decide +kernel⟩
theorem flat_non : Flat .non "NoneType" := ⟨fun _ _ => .base .non, by decide +kernel, by decide +kernel, by decide +kernel⟩
theorem kit3 {K : PySem.W.Frag} {T a b c : String} (h1 : kitB T a = some false) (h2 : kitB T b = some false) (h3 : kitB T c = some false) : PySem.W.kitAny K (.type T) [.type a, .type b, .type c] = some false :=
  kitAny_cons (kit_ty h1) (fun _ => kitAny_cons (kit_ty h2) (fun _ => kitAny_cons (kit_ty h3) (fun _ => kitAny_nil) (fun z => by cases z)) (fun z => by cases z)) (fun z => by cases z)
theorem kit_any2 {K : PySem.W.Frag} {T a b : String} {r1 r2 : Bool} (h1 : kitB T a = some r1) (h2 : kitB T b = some r2) : PySem.W.kitAny K (.type T) [.type a, .type b] = some (r1 || r2) := by
  refine kitAny_cons (kit_ty h1) (fun e => ?_) (fun e => by rw [e]; rfl)
  refine kitAny_cons (kit_ty h2) (fun e2 => ?_) (fun e2 => by rw [e, e2]; rfl)
  rw [e, e2]
  exact kitAny_nil
theorem kit_any3 {K : PySem.W.Frag} {T a b c : String} {r1 r2 r3 : Bool} (h1 : kitB T a = some r1) (h2 : kitB T b = some r2) (h3 : kitB T c = some r3) : PySem.W.kitAny K (.type T) [.type a, .type b, .type c] = some (r1 || (r2 || r3)) := by
  refine kitAny_cons (kit_ty h1) (fun e => ?_) (fun e => by rw [e]; rfl)
  rw [e]
  exact (kit_any2 h2 h3).trans rfl
theorem SqT.keep {K : PySem.W.Frag} {H H' : Hp} {a : Addr} {xs : List V} (h : SqT K H a xs) (s : Same H H') : SqT K H' a xs :=
  h.elim (fun h => .inl (h.elim (fun h => .inl (s _ _ h)) fun ⟨o, h⟩ => .inr ⟨o, s _ _ h⟩)) fun h => .inr h
theorem tyT {K : PySem.W.Frag} {H : Hp} {a : Addr} {xs : List V} (h : SqT K H a xs) : TyX K H (.ref a) (.type "tuple") := by
  rcases h with (h | ⟨o, h⟩) | ⟨o, its, n, h1, h2, _⟩
  · exact .base (.tup h)
  · exact .fTuple h
  · exact .kTuple h1 h2
abbrev sParts : Stmt := sPartsOf
abbrev sFlat : Stmt := sIsFlat
/-- a value that holds nothing, or a tuple of such -/
def PL (K : PySem.W.Frag) (H : Hp) (v : V) : Prop := (∃ T, Flat v T) ∨ (∃ a xs, v = .ref a ∧ SqT K H a xs ∧ (∀ u ∈ xs, ∃ T, Flat u T))
theorem PL.keep {K : PySem.W.Frag} {H H' : Hp} {v : V} (h : PL K H v) (s : Same H H') : PL K H' v := by
  rcases h with h | ⟨a, xs, e, h, f⟩
  · exact .inl h
  · exact .inr ⟨a, xs, e, SqT.keep h s, f⟩
def spFlatT (K : PySem.W.Frag) : Sp := fun vs H Q _ => ∃ (a : Addr) (us : List V), vs = [.ref a] ∧ SqT K H a us ∧ (∀ u ∈ us, ∃ T, Flat u T) ∧ ∀ H', Same H H' → Q (.bl true) H'
def spKeptT (K : PySem.W.Frag) : Sp := fun vs H Q _ => ∃ v : V, vs = [v] ∧ PL K H v ∧ ∀ H', Same H H' → Q v H'
section
variable {P : Program} {w : World} {K : PySem.W.Frag} {mg : Str → Option Value} {base : Heap}
theorem scFlat : FnScope ["value", "part"] ["value"] (defScope sFlat) := ⟨rfl, rfl, rfl, by decide +kernel, rfl, by decide +kernel, by decide +kernel⟩
theorem ok_flatT {f : Addr} {fd : FuncData} (F : Fun K "is_flat" "is_flat" sFlat f fd) (T : Blt mg) (md : mg "dict" = none) : FnOk P w K mg base CX0 1 f fd ["value"] (spFlatT K) := by
  refine F.ok scFlat (fun vs H Q E h => ?_) (fun cdv A outer s H vs Q E hr h => ?_)
  · obtain ⟨a, us, rfl, _⟩ := h
    rfl
  · obtain ⟨a, us, rfl, ha, af, k⟩ := h
    refine ⟨_, pss_cons (ps_for PassesOwn.never rfl (pi_tup (pv 0)) (pg_name (i := 1) scFlat.nd rfl (.inl rfl))
        (pss_one (ps_if (pt_val (pe_callB call_isiT (by rfl) T.isi (by decide +kernel) (pa_cons (pv 1) (pa_cons (pe_tup (pa_cons (pe_bltn (v := .ty "list") (by rfl) T.list (by decide +kernel) rfl) (pa_cons (pe_bltn (v := .ty "tuple") (by rfl) T.tuple (by decide +kernel) rfl) (pa_cons (pe_bltn (v := .ty "dict") (by rfl) md (by decide +kernel) rfl) pa_nil)))) pa_nil)))) (pss_one ps_never) pss_nil)))
      (pss_one (ps_ret pe_bl)), ?_⟩
    refine ⟨_, rfl, a, rfl, ⟨_, ha⟩, ?_⟩
    refine for_it (walk_tup (K := K) (a := a) (xs := us)) (fun i σ G => Same H G ∧ ∃ z, σ = [some (.ref a), z]) ⟨Same.refl _, _, rfl⟩ (fun i σ G _ h => SqT.keep ha h.1) (fun i v σ G2 G3 hi h y => ?_) (fun σ G h => ?_)
    · obtain ⟨s2, z, rfl⟩ := h
      obtain ⟨rfl, hx⟩ := y
      obtain ⟨TT, fl⟩ := af v (List.mem_of_getElem? hx)
      exact ⟨_, rfl, (by show 3 ≤ sizeLine; decide), fun tp ntp => ⟨v, tp, _, _, _, false, rfl, upd_same, .cons (.ty _) (.cons (.ty _) (.cons (.ty _) .nil)), fl.ty _ _, kit3 fl.l fl.t fl.d, _, rfl, iteF ⟨s2.trans (same_new ntp), _, rfl⟩⟩⟩
    · obtain ⟨s2, z, rfl⟩ := h
      exact k G s2
theorem scKept : FnScope ["value"] ["value"] (defScope sKept) := ⟨rfl, rfl, rfl, by decide +kernel, rfl, by decide +kernel, by decide +kernel⟩
theorem ok_keptT {f : Addr} {fd : FuncData} (F : Fun K "kept" "kept" sKept f fd) (T : Blt mg) (md : mg "dict" = none) (D : Df P w K mg base 1 "is_flat" ["value"] (spFlatT K)) : FnOk P w K mg base CX0 2 f fd ["value"] (spKeptT K) := by
  obtain ⟨f1, fd1, G1, g1, k1, b1⟩ := D.ex
  refine F.ok scKept (fun vs H Q E h => ?_) (fun cdv A outer s H vs Q E hr h => ?_)
  · obtain ⟨v, rfl, _⟩ := h
    rfl
  · obtain ⟨v, rfl, hv, kk⟩ := h
    refine ⟨_, pss_cons (ps_if (pt_not (pt_val (pe_callB call_isiT (by rfl) T.isi (by decide +kernel) (pa_cons (pv 0) (pa_cons (pe_tup (pa_cons (pe_bltn (v := .ty "list") (by rfl) T.list (by decide +kernel) rfl) (pa_cons (pe_bltn (v := .ty "tuple") (by rfl) T.tuple (by decide +kernel) rfl) (pa_cons (pe_bltn (v := .ty "dict") (by rfl) md (by decide +kernel) rfl) pa_nil)))) pa_nil))))) (pss_one (ps_ret (pv 0))) pss_nil)
      (pss_cons (ps_if (PW.pt (pw_and (pt_val (pe_callB call_isi (by rfl) T.isi (by decide +kernel) (pa_cons (pv 0) (pa_cons (pe_bltn (v := .ty "tuple") (by rfl) T.tuple (by decide +kernel) rfl) pa_nil)))) (pw_and1 (pt_val (pe_call G1 hr (by rfl) g1 k1 b1 .nil pass0 (pa_cons (pv 0) pa_nil)))))) (pss_one (ps_ret (pv 0))) pss_nil)
      (pss_one ps_never)), ?_⟩
    rcases hv with ⟨TT, fl⟩ | ⟨a, xs, rfl, ha, af⟩
    · exact ⟨_, rfl, (by show 3 ≤ sizeLine; decide), fun tp ntp => ⟨v, tp, _, _, _, false, rfl, upd_same, .cons (.ty _) (.cons (.ty _) (.cons (.ty _) .nil)), fl.ty _ _, kit3 fl.l fl.t fl.d, _, rfl, iteT ⟨_, rfl, kk _ (same_new ntp)⟩⟩⟩
    · refine ⟨_, rfl, (by show 3 ≤ sizeLine; decide), fun tp ntp => ?_⟩
      have s1 := same_new (H := H) (o := .tup [.ty "list", .ty "tuple", .ty "dict"]) ntp
      have e1 := SqT.keep ha s1
      refine ⟨_, tp, _, _, _, true, rfl, upd_same, .cons (.ty _) (.cons (.ty _) (.cons (.ty _) .nil)), tyT e1, kit_any3 (r1 := false) (r2 := true) (r3 := false) (by decide +kernel) (by decide +kernel) (by decide +kernel), _, rfl, iteF ?_⟩
      refine ⟨_, rfl, _, _, _, _, true, rfl, .ty _, tyT e1, kit_ty (by decide +kernel), _, rfl, iteT ?_⟩
      exact ⟨_, rfl, a, xs, rfl, e1, af, fun H' s' => ⟨_, rfl, iteT ⟨_, rfl, kk _ (s1.trans s')⟩⟩⟩
end
/-! ### breaks as values -/
def BkV (K : PySem.W.Frag) (H : Hp) (v : V) : Option Bk → Prop
  | none => v = .non
  | some b => ∃ a, v = .ref a ∧ SqT K H a [.str b.n, .str b.s]
theorem BkV.keep {K : PySem.W.Frag} {H H' : Hp} {v : V} {o : Option Bk} (h : BkV K H v o) (s : Same H H') : BkV K H' v o := by
  cases o with
  | none => exact h
  | some b =>
    obtain ⟨a, e, h⟩ := h
    exact ⟨a, e, SqT.keep h s⟩
theorem BkV.but {K : PySem.W.Frag} {H H' : Hp} {v : V} {o : Option Bk} {p : Addr} {u : HO} (h : BkV K H v o) (hp : H p = some u) (hu : (∀ xs, u ≠ .tup xs) ∧ ∀ o xs, u ≠ .frz o xs) (s : But p H H') : BkV K H' v o := by
  cases o with
  | none => exact h
  | some b =>
    obtain ⟨a, e, h⟩ := h
    refine ⟨a, e, ?_⟩
    rcases h with (h | ⟨o, h⟩) | h
    · exact .inl (.inl (s _ _ (fun z => by subst z; rw [hp] at h; exact hu.1 _ (Option.some.inj h)) h))
    · exact .inl (.inr ⟨o, s _ _ (fun z => by subst z; rw [hp] at h; exact hu.2 _ _ (Option.some.inj h)) h⟩)
    · exact .inr h
theorem BkV.pl {K : PySem.W.Frag} {H : Hp} {v : V} {o : Option Bk} (h : BkV K H v o) : PL K H v := by
  cases o with
  | none => exact .inl ⟨_, by rw [show v = .non from h]; exact flat_non⟩
  | some b =>
    obtain ⟨a, e, h⟩ := h
    refine .inr ⟨a, _, e, h, fun u hu => ?_⟩
    simp only [List.mem_cons, List.not_mem_nil, or_false] at hu
    rcases hu with rfl | rfl <;> exact ⟨_, flat_str _⟩
def bkD : Option Bk → PyData
  | none => .none
  | some b => .tuple [.str b.n, .str b.s]
theorem BkV.dp {K : PySem.W.Frag} {H : Hp} {v : V} {o : Option Bk} (h : BkV K H v o) : Dp K H v (bkD o) := by
  cases o with
  | none => rw [show v = .non from h]; exact .non
  | some b =>
    obtain ⟨a, rfl, h⟩ := h
    exact .tup h (.cons (.str _) (.cons (.str _) .nil))
def allB : List (Option Bk) := [none, some .st, some .li1, some .li2, some .fa1, some .fa2, some .to1, some .to2]
theorem allB_mem (o : Option Bk) : o ∈ allB := by
  cases o with
  | none => simp [allB]
  | some b => cases b <;> simp [allB]
theorem bkD_eqv (x y : Option Bk) : PyData.eqv (bkD x) (bkD y) = decide (x = y) := by
  have : ∀ x ∈ allB, ∀ y ∈ allB, PyData.eqv (bkD x) (bkD y) = decide (x = y) := by decide +kernel
  exact this x (allB_mem x) y (allB_mem y)
theorem bkD_shaped (x : Option Bk) : SeqAt.shaped (bkD x) = true := by
  have : ∀ x ∈ allB, SeqAt.shaped (bkD x) = true := by decide +kernel
  exact this x (allB_mem x)
/-- a tuple of breaks -/
def BksV (K : PySem.W.Frag) (H : Hp) (l : Addr) (os : List (Option Bk)) : Prop := ∃ vs : List V, SqT K H l vs ∧ vs.length = os.length ∧ ∀ (i : Nat) (o : Option Bk), os[i]? = some o → ∃ v, vs[i]? = some v ∧ BkV K H v o
theorem BksV.keep {K : PySem.W.Frag} {H H' : Hp} {l : Addr} {os : List (Option Bk)} (h : BksV K H l os) (s : Same H H') : BksV K H' l os := by
  obtain ⟨vs, h1, h2, h3⟩ := h
  refine ⟨vs, SqT.keep h1 s, h2, fun i o e => ?_⟩
  obtain ⟨v, e1, e2⟩ := h3 i o e
  exact ⟨v, e1, e2.keep s⟩
theorem BksV.dp {K : PySem.W.Frag} {H : Hp} {l : Addr} {os : List (Option Bk)} (h : BksV K H l os) : Dp K H (.ref l) (.tuple (os.map bkD)) := by
  obtain ⟨vs, h1, h2, h3⟩ := h
  refine .tup h1 ?_
  clear h1
  induction os generalizing vs with
  | nil =>
    obtain rfl : vs = [] := List.eq_nil_of_length_eq_zero h2
    exact .nil
  | cons o os ih =>
    cases vs with
    | nil => cases h2
    | cons v vs =>
      obtain ⟨v', e1, e2⟩ := h3 0 o rfl
      obtain rfl : v = v' := Option.some.inj e1
      exact .cons e2.dp (ih vs (by simpa using h2) fun i o' e => h3 (i + 1) o' e)
end Ev
namespace Ev
open PySem L2 PySem.Spec PyProof.Rows RZ
def spPart (K : PySem.W.Frag) : Sp := fun vs H Q _ => ∃ (r : Addr) (p q k y : Int), vs = [.ref r, .int y] ∧ RB K H r p q k ∧ Q (.int (partV p q k y)) H
def spGreatB (K : PySem.W.Frag) : Sp := fun vs H Q _ => ∃ (r : Addr) (p q k x : Int), vs = [.ref r, .int x] ∧ RB K H r p q k ∧ Q (.int (greatV p q k x)) H
def spGreatM (K : PySem.W.Frag) : Sp := fun vs H Q _ => ∃ (r : Addr) (p q k x : Int), vs = [.ref r, .int x] ∧ RB K H r p q k ∧ 1 ≤ x ∧ x ≤ 1000 ∧ Q (.int (greatV p q k x)) H
/-- two numbers in a tuple -/
def PrV (H : Hp) (v : V) (x y : Int) : Prop := ∃ t : Addr, v = .ref t ∧ H t = some (.tup [.int x, .int y])
theorem PrV.keep {H H' : Hp} {v : V} {x y : Int} (h : PrV H v x y) (s : Same H H') : PrV H' v x y := by
  obtain ⟨t, e, h⟩ := h
  exact ⟨t, e, s _ _ h⟩
def deedS (b : Bool) : Str := if b then "put" else "take"
def heavyHi (p q k a : Int) (put : Bool) : Int := if put then topV p q k a else greatV p q k (a + 1)
def spHeavy (K : PySem.W.Frag) : Sp := fun vs H Q _ => ∃ (r : Addr) (p q k a : Int) (put : Bool), vs = [.ref r, .str (deedS put), .int a] ∧ RB K H r p q k ∧ ∀ v H', Same H H' → PrV H' v (topV p q k a) (heavyHi p q k a put) → Q v H'
def mostV (t s r b : Int) : Int := (t * b + r).fdiv (t + s)
def spTurnE (K : PySem.W.Frag) (Cn : Addr) : Sp := fun vs H Q _ => ∃ (x : Addr) (p q k t s r b n k2 : Int) (dx aa bb : Addr), vs = [.ref x, .int b, .int n] ∧ RB K H x p q k ∧ H x = some (.ins Cn dx (turnF aa k2 bb r)) ∧ H bb = some (.tup [.int t, .int s]) ∧ (1 ≤ t ∧ t ≤ 8) ∧ (1 ≤ s ∧ s ≤ 8) ∧ (n = 1 ∨ n = 2) ∧
  ∀ v H', Same H H' → PrV H' v (if n = 1 then partV p q k b else if partV p q k b > mostV t s r b then partV p q k b else mostV t s r b + 1) (if n = 1 then if b - partV p q k b < mostV t s r b then b - partV p q k b else mostV t s r b else b - partV p q k b) → Q v H'
theorem RB.keep {K : PySem.W.Frag} {H H' : Hp} {r : Addr} {p q k : Int} (h : RB K H r p q k) (s : Same H H') : RB K H' r p q k := by
  obtain ⟨⟨C, dx, fs, a, h1, h2, h3, h4, h5, h6, h7⟩, b1, b2, b3, b4, b5⟩ := h
  exact ⟨⟨C, dx, fs, a, s _ _ h1, h2, h3, h4, h5, h6, s _ _ h7⟩, b1, b2, b3, b4, b5⟩
section
variable {P : Program} {w : World} {K : PySem.W.Frag} {mg : Str → Option Value} {base : Heap}
theorem scPart : FnScope ["rule", "weight", "over", "under"] ["rule", "weight"] (defScope sLeastPart) := ⟨rfl, rfl, rfl, by decide +kernel, rfl, by decide +kernel, by decide +kernel⟩
theorem ok_part {f : Addr} {fd : FuncData} (F : Fun K "least_part" "least_part" sLeastPart f fd) (T : Blt mg) : FnOk P w K mg base CX0 1 f fd ["rule", "weight"] (spPart K) := by
  refine F.ok scPart (fun vs H Q E h => ?_) (fun cdv A outer s H vs Q E hr h => ?_)
  · obtain ⟨r, p, q, k, x, rfl, _⟩ := h
    rfl
  · obtain ⟨r, p, q, k, x, rfl, ⟨⟨C, dx, fs, a, hr1, cl, n1, n2, l1, l2, ha⟩, b1, b2, b3, b4, b5⟩, kk⟩ := h
    refine ⟨_, (pss_cons (ps_asg (pe_fld (pv 0) rfl) (pg_tup (by rfl) (pgs_cons (pg_name (i := 2) scPart.nd rfl (.inl rfl)) (pgs_cons (pg_name (i := 3) scPart.nd rfl (.inl rfl)) pgs_nil))))
      (pss_one (ps_ret (pe_callB (call_max2 rfl) (by rfl) T.max (by decide +kernel) (pa_cons pe_int (pa_cons (pe_un un_neg (pe_op op_fdivN (pe_op op_sub (pe_fld (pv 0) rfl) (pe_op op_mul (pv 3) (pv 1))) (pe_op op_add (pv 2) (pv 3)))) pa_nil)))))), ?_⟩
    have q6 := m64 b1 (show q ≤ 8 by omega)
    refine ⟨_, rfl, r, C, dx, fs, _, rfl, hr1, cl, n1, l1, a, _, rfl, SqT.of ha, rfl, _, _, rfl, _, _, rfl, rfl, ?_⟩
    exact ⟨_, rfl, r, C, dx, fs, _, rfl, hr1, cl, n2, l2, _, rfl, _, rfl, _, _, rfl, rfl, .inl q6, _, _, rfl, rfl, _, rfl, _, rfl, _, _, rfl, rfl, _, _, rfl, rfl, ⟨by omega, by omega⟩, _, rfl, _, _, rfl, kk⟩
theorem scGreatB : FnScope ["rule", "x", "over", "under"] ["rule", "x"] (defScope sGreatestBeside) := ⟨rfl, rfl, rfl, by decide +kernel, rfl, by decide +kernel, by decide +kernel⟩
theorem ok_greatB {f : Addr} {fd : FuncData} (F : Fun K "greatest_beside" "greatest_beside" sGreatestBeside f fd) : FnOk P w K mg base CX0 1 f fd ["rule", "x"] (spGreatB K) := by
  refine F.ok scGreatB (fun vs H Q E h => ?_) (fun cdv A outer s H vs Q E hr h => ?_)
  · obtain ⟨r, p, q, k, x, rfl, _⟩ := h
    rfl
  · obtain ⟨r, p, q, k, x, rfl, ⟨⟨C, dx, fs, a, hr1, cl, n1, n2, l1, l2, ha⟩, b1, b2, b3, b4, b5⟩, kk⟩ := h
    refine ⟨_, (pss_cons (ps_asg (pe_fld (pv 0) rfl) (pg_tup (by rfl) (pgs_cons (pg_name (i := 2) scGreatB.nd rfl (.inl rfl)) (pgs_cons (pg_name (i := 3) scGreatB.nd rfl (.inl rfl)) pgs_nil))))
      (pss_one (ps_ret (pe_op op_fdivN (pe_op op_add (pe_op op_mul (pv 2) (pv 1)) (pe_fld (pv 0) rfl)) (pv 3))))), ?_⟩
    have p6 := m64 (show 1 ≤ p by omega) (show p ≤ 8 by omega)
    refine ⟨_, rfl, r, C, dx, fs, _, rfl, hr1, cl, n1, l1, a, _, rfl, SqT.of ha, rfl, _, _, rfl, _, _, rfl, rfl, ?_⟩
    exact ⟨_, rfl, _, rfl, _, _, rfl, rfl, .inl p6, _, rfl, r, C, dx, fs, _, rfl, hr1, cl, n2, l2, _, _, rfl, rfl, _, rfl, _, _, rfl, rfl, ⟨by omega, by omega⟩, kk⟩
theorem scGreatM : FnScope ["self", "x"] ["self", "x"] (defScope sWeightRule_greatest) := ⟨rfl, rfl, rfl, by decide +kernel, rfl, by decide +kernel, by decide +kernel⟩
theorem ok_greatM {f : Addr} {fd : FuncData} (F : Fun K "greatest" "WeightRule.greatest" sWeightRule_greatest f fd) (D1 : Df P w K mg base 3 "need_weight" ["value"] spNeedW) (D2 : Df P w K mg base 1 "greatest_beside" ["rule", "x"] (spGreatB K)) : FnOk P w K mg base CX0 4 f fd ["self", "x"] (spGreatM K) := by
  obtain ⟨f1, fd1, G1, g1, k1, bb1⟩ := D1.ex
  obtain ⟨f2, fd2, G2, g2, k2, bb2⟩ := D2.ex
  refine F.ok scGreatM (fun vs H Q E h => ?_) (fun cdv A outer s H vs Q E hr h => ?_)
  · obtain ⟨r, p, q, k, x, rfl, _⟩ := h
    rfl
  · obtain ⟨r, p, q, k, x, rfl, R, x1, x2, kk⟩ := h
    refine ⟨_, pss_cons (ps_expr (pe_call G1 hr (by rfl) g1 k1 bb1 .nil pass0 (pa_cons (pv 1) pa_nil))) (pss_one (ps_ret (pe_call G2 (hr.mono (by decide)) (by rfl) g2 k2 bb2 .nil pass0 (pa_cons (pv 0) (pa_cons (pv 1) pa_nil))))), ?_⟩
    exact ⟨_, rfl, x, rfl, x1, Int.le_trans x2 (by decide), _, rfl, _, rfl, r, p, q, k, x, rfl, R, kk⟩
theorem scHeavy : FnScope ["rule", "deed", "light", "least"] ["rule", "deed", "light"] (defScope sHeavyEnds) := ⟨rfl, rfl, rfl, by decide +kernel, rfl, by decide +kernel, by decide +kernel⟩
theorem ok_heavy {f : Addr} {fd : FuncData} (F : Fun K "heavy_ends" "heavy_ends" sHeavyEnds f fd) (D : Df P w K mg base 1 "greatest_beside" ["rule", "x"] (spGreatB K)) : FnOk P w K mg base CX0 2 f fd ["rule", "deed", "light"] (spHeavy K) := by
  obtain ⟨f1, fd1, G1, g1, k1, b1⟩ := D.ex
  refine F.ok scHeavy (fun vs H Q E h => ?_) (fun cdv A outer s H vs Q E hr h => ?_)
  · obtain ⟨r, p, q, k, a, put, rfl, _⟩ := h
    rfl
  · obtain ⟨r, p, q, k, a, put, rfl, R, kk⟩ := h
    refine ⟨_, (pss_cons (ps_set (i := 3) scHeavy.nd rfl (.inl rfl) (pe_op op_add (pe_call G1 hr (by rfl) g1 k1 b1 .nil pass0 (pa_cons (pv 0) (pa_cons (pv 2) pa_nil))) pe_int))
      (pss_one (ps_ret (pe_tup (pa_cons (pv 3) (pa_cons (pe_ifExp (pt_cmpR op_eq (pv 1) pe_str (nomark _)) (pv 3) (pe_call G1 hr (by rfl) g1 k1 b1 .nil pass0 (pa_cons (pv 0) (pa_cons (pe_op op_add (pv 2) pe_int) pa_nil)))) pa_nil)))))), ?_⟩
    refine ⟨_, rfl, _, rfl, r, p, q, k, a, rfl, R, _, _, rfl, rfl, ?_⟩
    refine ⟨_, rfl, _, rfl, rfl, _, rfl, ?_⟩
    cases put with
    | true =>
      rw [show decide (V.str (deedS true) = V.str "put") = true by decide +kernel]
      exact iteT ⟨_, rfl, (by show 2 ≤ sizeLine; decide), fun t ht => kk _ _ (same_new ht) ⟨t, rfl, upd_same⟩⟩
    | false =>
      rw [show decide (V.str (deedS false) = V.str "put") = false by decide +kernel]
      exact iteF ⟨_, rfl, _, rfl, _, _, rfl, rfl, r, p, q, k, a + 1, rfl, R, (by show 2 ≤ sizeLine; decide), fun t ht => kk _ _ (same_new ht) ⟨t, rfl, upd_same⟩⟩
theorem scTurnE : FnScope ["rule", "heavy", "turns", "low", "high", "over", "under", "most"] ["rule", "heavy", "turns"] (defScope sTurnEnds) := ⟨rfl, rfl, rfl, by decide +kernel, rfl, by decide +kernel, by decide +kernel⟩
theorem ok_turnE {f Cn : Addr} {fd : FuncData} (F : Fun K "turn_ends" "turn_ends" sTurnEnds f fd) (TN : RCls K Cn) (D : Df P w K mg base 1 "least_part" ["rule", "weight"] (spPart K)) : FnOk P w K mg base CX0 2 f fd ["rule", "heavy", "turns"] (spTurnE K Cn) := by
  obtain ⟨f1, fd1, G1, g1, k1, b1⟩ := D.ex
  refine F.ok scTurnE (fun vs H Q E h => ?_) (fun cdv A outer s H vs Q E hr h => ?_)
  · obtain ⟨x, p, q, k, t, s', r, b, n, k2, dx, aa, bb, rfl, _⟩ := h
    rfl
  · obtain ⟨x, p, q, k, t, s', r, b, n, k2, dx, aa, bb, rfl, R, hx, hb, ht, hs, hn, kk⟩ := h
    refine ⟨_, (pss_cons (ps_set (i := 3) scTurnE.nd rfl (.inl rfl) (pe_call G1 hr (by rfl) g1 k1 b1 .nil pass0 (pa_cons (pv 0) (pa_cons (pv 1) pa_nil))))
    (pss_cons (ps_set (i := 4) scTurnE.nd rfl (.inl rfl) (pe_op op_sub (pv 1) (pv 3)))
    (pss_cons (ps_asg (pe_fld (pv 0) rfl) (pg_tup (by rfl) (pgs_cons (pg_name (i := 5) scTurnE.nd rfl (.inl rfl)) (pgs_cons (pg_name (i := 6) scTurnE.nd rfl (.inl rfl)) pgs_nil))))
    (pss_cons (ps_set (i := 7) scTurnE.nd rfl (.inl rfl) (pe_op op_fdivN (pe_op op_add (pe_op op_mul (pv 5) (pv 1)) (pe_fld (pv 0) rfl)) (pe_op op_add (pv 5) (pv 6))))
    (pss_cons (ps_if (pt_cmpR op_eq (pv 2) pe_int (nomark _))
      (pss_one (ps_ret (pe_tup (pa_cons (pv 3) (pa_cons (pe_ifExp (pt_cmpR op_lt (pv 4) (pv 7) (nomark _)) (pv 4) (pv 7)) pa_nil))))) pss_nil)
    (pss_one (ps_ret (pe_tup (pa_cons (pe_ifExp (pt_cmpR op_gt (pv 3) (pv 7) (nomark _)) (pv 3) (pe_op op_add (pv 7) pe_int)) (pa_cons (pv 4) pa_nil)))))))))), ?_⟩
    refine ⟨_, rfl, _, rfl, x, p, q, k, b, rfl, R, ?_⟩
    refine ⟨_, rfl, _, rfl, _, _, rfl, rfl, ?_⟩
    refine ⟨_, rfl, x, Cn, dx, _, _, rfl, hx, TN.cl, TN.n3, turn_turn aa k2 bb r, bb, _, rfl, SqT.of hb, rfl, _, _, rfl, _, _, rfl, rfl, ?_⟩
    refine ⟨_, rfl, _, rfl, _, _, rfl, rfl, .inl (m64 ht.1 ht.2), _, rfl, x, Cn, dx, _, _, rfl, hx, TN.cl, TN.n4, turn_tp aa k2 bb r, _, _, rfl, rfl, _, rfl, _, rfl, _, _, rfl, rfl, _, _, rfl, rfl, ⟨by omega, by omega⟩, ?_⟩
    refine ⟨_, rfl, rfl, _, rfl, ?_⟩
    rcases hn with rfl | rfl
    · refine iteT ⟨_, rfl, _, rfl, _, rfl, _, _, rfl, rfl, _, rfl, ?_⟩
      show (if decide (b - partV p q k b < mostV t s' r b) = true then _ else _)
      by_cases z : b - partV p q k b < mostV t s' r b
      · rw [if_pos (decide_eq_true z)]
        refine ⟨_, rfl, (by show 2 ≤ sizeLine; decide), fun u hu => kk _ _ (same_new hu) ⟨u, rfl, ?_⟩⟩
        rw [if_pos rfl, if_pos rfl, if_pos z]
        exact upd_same
      · rw [if_neg (fun y => z (of_decide_eq_true y))]
        refine ⟨_, rfl, (by show 2 ≤ sizeLine; decide), fun u hu => kk _ _ (same_new hu) ⟨u, rfl, ?_⟩⟩
        rw [if_pos rfl, if_pos rfl, if_neg z]
        exact upd_same
    · refine iteF ⟨_, rfl, _, rfl, _, _, rfl, rfl, _, rfl, ?_⟩
      show (if decide (partV p q k b > mostV t s' r b) = true then _ else _)
      by_cases z : partV p q k b > mostV t s' r b
      · rw [if_pos (decide_eq_true z)]
        refine ⟨_, rfl, _, rfl, (by show 2 ≤ sizeLine; decide), fun u hu => kk _ _ (same_new hu) ⟨u, rfl, ?_⟩⟩
        rw [if_neg (show ¬ ((2 : Int) = 1) by decide), if_neg (show ¬ ((2 : Int) = 1) by decide), if_pos z]
        exact upd_same
      · rw [if_neg (fun y => z (of_decide_eq_true y))]
        refine ⟨_, rfl, _, _, rfl, rfl, _, rfl, (by show 2 ≤ sizeLine; decide), fun u hu => kk _ _ (same_new hu) ⟨u, rfl, ?_⟩⟩
        rw [if_neg (show ¬ ((2 : Int) = 1) by decide), if_neg (show ¬ ((2 : Int) = 1) by decide), if_neg z]
        exact upd_same
end
end Ev
namespace Ev
open PySem L2 PySem.Spec PyProof.Rows RZ
/-! The class Grip. -/
structure GC (K : PySem.W.Frag) (C : Addr) : Prop where
  cl : Cls K C
  n1 : NoAttr K C "own_rule"
  n2 : NoAttr K C "light"
  n3 : NoAttr K C "heavy"
  n4 : NoAttr K C "least_light"
  n5 : NoAttr K C "too_heavy"
  n6 : NoAttr K C "too_much"
def gripF (r : Addr) (g : Gp) : List (Str × V) := [("own_rule", .ref r), ("light", .int g.a), ("heavy", .int g.b), ("least_light", .int g.L), ("too_heavy", .int g.T), ("too_much", .int g.M)]
section
variable (r : Addr) (g : Gp)
theorem gl1 : (gripF r g).lookup ("own_rule" : Str) = some (.ref r) := lk_hit
theorem gl2 : (gripF r g).lookup ("light" : Str) = some (.int g.a) := (lk_miss (by decide +kernel)).trans lk_hit
theorem gl3 : (gripF r g).lookup ("heavy" : Str) = some (.int g.b) := (lk_miss (by decide +kernel)).trans ((lk_miss (by decide +kernel)).trans lk_hit)
theorem gl4 : (gripF r g).lookup ("least_light" : Str) = some (.int g.L) := (lk_miss (by decide +kernel)).trans ((lk_miss (by decide +kernel)).trans ((lk_miss (by decide +kernel)).trans lk_hit))
theorem gl5 : (gripF r g).lookup ("too_heavy" : Str) = some (.int g.T) := (lk_miss (by decide +kernel)).trans ((lk_miss (by decide +kernel)).trans ((lk_miss (by decide +kernel)).trans ((lk_miss (by decide +kernel)).trans lk_hit)))
theorem gl6 : (gripF r g).lookup ("too_much" : Str) = some (.int g.M) := (lk_miss (by decide +kernel)).trans ((lk_miss (by decide +kernel)).trans ((lk_miss (by decide +kernel)).trans ((lk_miss (by decide +kernel)).trans ((lk_miss (by decide +kernel)).trans lk_hit))))
theorem gl0 {m : Str} (h : ¬ m = "own_rule" ∧ ¬ m = "light" ∧ ¬ m = "heavy" ∧ ¬ m = "least_light" ∧ ¬ m = "too_heavy" ∧ ¬ m = "too_much") : (gripF r g).lookup m = none :=
  (lk_miss h.1).trans ((lk_miss h.2.1).trans ((lk_miss h.2.2.1).trans ((lk_miss h.2.2.2.1).trans ((lk_miss h.2.2.2.2.1).trans ((lk_miss h.2.2.2.2.2).trans rfl)))))
end
theorem put_new {k : Str} {v : V} : ∀ {l : List (Str × V)}, (∀ e ∈ l, ¬ e.1 = k) → putF k v l = l ++ [(k, v)]
  | [], _ => rfl
  | (k', v') :: l, h => by
    show (if k' = k then _ else _) = _
    rw [if_neg (h _ List.mem_cons_self)]
    show (k', v') :: putF k v l = _
    rw [put_new (fun e he => h e (List.mem_cons_of_mem _ he))]
    rfl
theorem gp1 {a : V} : putF "own_rule" a [] = ([("own_rule", a)] : List (Str × V)) := rfl
theorem gp2 {a b : V} : putF "light" b [("own_rule", a)] = ([("own_rule", a), ("light", b)] : List (Str × V)) := put_new (by intro e0 he; simp only [List.mem_cons, List.not_mem_nil, or_false] at he; subst he; dsimp only; decide +kernel)
theorem gp3 {a b c : V} : putF "heavy" c [("own_rule", a), ("light", b)] = ([("own_rule", a), ("light", b), ("heavy", c)] : List (Str × V)) := put_new (by intro e0 he; simp only [List.mem_cons, List.not_mem_nil, or_false] at he; rcases he with he | he <;> subst he <;> dsimp only <;> decide +kernel)
theorem gp4 {a b c d : V} : putF "least_light" d [("own_rule", a), ("light", b), ("heavy", c)] = ([("own_rule", a), ("light", b), ("heavy", c), ("least_light", d)] : List (Str × V)) := put_new (by intro e0 he; simp only [List.mem_cons, List.not_mem_nil, or_false] at he; rcases he with he | he | he <;> subst he <;> dsimp only <;> decide +kernel)
theorem gp5 {a b c d e : V} : putF "too_heavy" e [("own_rule", a), ("light", b), ("heavy", c), ("least_light", d)] = ([("own_rule", a), ("light", b), ("heavy", c), ("least_light", d), ("too_heavy", e)] : List (Str × V)) := put_new (by intro e0 he; simp only [List.mem_cons, List.not_mem_nil, or_false] at he; rcases he with he | he | he | he <;> subst he <;> dsimp only <;> decide +kernel)
theorem gp6 {a b c d e f : V} : putF "too_much" f [("own_rule", a), ("light", b), ("heavy", c), ("least_light", d), ("too_heavy", e)] = ([("own_rule", a), ("light", b), ("heavy", c), ("least_light", d), ("too_heavy", e), ("too_much", f)] : List (Str × V)) := put_new (by intro e0 he; simp only [List.mem_cons, List.not_mem_nil, or_false] at he; rcases he with he | he | he | he | he <;> subst he <;> dsimp only <;> decide +kernel)
def GAt (K : PySem.W.Frag) (C Ct Cn : Addr) (H : Hp) (x r : Addr) (row : Row) (g : Gp) : Prop := (∃ dx, H x = some (.ins C dx (gripF r g))) ∧ ObjAt Ct Cn H r row ∧ RB K H r g.p g.q g.k
theorem GAt.keep {K : PySem.W.Frag} {C Ct Cn x r : Addr} {H H' : Hp} {row : Row} {g : Gp} (h : GAt K C Ct Cn H x r row g) (s : Same H H') : GAt K C Ct Cn H' x r row g := by
  obtain ⟨⟨dx, h1⟩, h2, h3⟩ := h
  exact ⟨⟨dx, s _ _ h1⟩, h2.keep s, h3.keep s⟩
def spGripI (K : PySem.W.Frag) (C Ct Cn : Addr) : Sp := fun vs H Q _ => ∃ (x dx r : Addr) (row : Row) (g : Gp), vs = [.ref x, .ref r, .int g.a, .int g.b] ∧ H x = some (.ins C dx []) ∧ x ≠ r ∧ ObjAt Ct Cn H r row ∧ RB K H r g.p g.q g.k ∧
  ∀ H', But x H H' → (∃ dx', H' x = some (.ins C dx' (gripF r g))) → Q .non H'
def Mt (P : Program) (w : World) (K : PySem.W.Frag) (mg : Str → Option Value) (base : Heap) (C : Addr) (m : Str) (k : Nat) (ps : List Str) (sp : Sp) : Prop := ∃ (f : Addr) (fd : FuncData), Meth K C m f ∧ FnOk P w K mg base CX0 k f fd ps sp ∧ Binds K fd ps []
/-- an answer of two numbers, or none -/
def OpV (H : Hp) (v : V) : Option (Int × Int) → Prop
  | none => v = .non
  | some (x, y) => PrV H v x y
def NsV (H : Hp) (v : V) : Option (List Int) → Prop
  | none => v = .non
  | some ns => ∃ t : Addr, v = .ref t ∧ H t = some (.tup (ns.map V.int))
theorem NsV.keep {H H' : Hp} {v : V} {o : Option (List Int)} (h : NsV H v o) (s : Same H H') : NsV H' v o := by
  cases o with
  | none => exact h
  | some ns =>
    obtain ⟨t, e, h⟩ := h
    exact ⟨t, e, s _ _ h⟩
def spWithN (K : PySem.W.Frag) (C Ct Cn : Addr) : Sp := fun vs H Q _ => ∃ (x r : Addr) (row : Row) (g : Gp) (m i : Int), vs = [.ref x, .int m, .int i] ∧ GAt K C Ct Cn H x r row g ∧ ∀ v H', Same H H' → PrV H' v (g.with m i).1 (g.with m i).2 → Q v H'
def spNearE (K : PySem.W.Frag) (C Ct Cn : Addr) : Sp := fun vs H Q _ => ∃ (x r : Addr) (row : Row) (g : Gp) (v : V) (t : Bk) (i : Int), vs = [.ref x, v, .int i] ∧ GAt K C Ct Cn H x r row g ∧ BkV K H v (some t) ∧ ∀ v' H', Same H H' → OpV H' v' (g.near t i) → Q v' H'
def spNumsO (K : PySem.W.Frag) (C Ct Cn : Addr) : Sp := fun vs H Q _ => ∃ (x r : Addr) (row : Row) (g : Gp) (v : V) (t : Option Bk) (l h : Int), vs = [.ref x, v, .int l, .int h] ∧ GAt K C Ct Cn H x r row g ∧ BkV K H v t ∧ ∀ v' H', Same H H' → NsV H' v' (g.nums t l h) → Q v' H'
def spOnceE (K : PySem.W.Frag) (C Ct Cn : Addr) : Sp := fun vs H Q _ => ∃ (x r : Addr) (row : Row) (g : Gp) (v u : V) (o : Option Bk) (l h : Int), vs = [.ref x, v, u] ∧ GAt K C Ct Cn H x r row g ∧ BkV K H v o ∧ PrV H u l h ∧ ∀ v' H', Same H H' → PrV H' v' (g.ends o l h).1 (g.ends o l h).2 → Q v' H'
/-- what is found -/
def FoV (K : PySem.W.Frag) (H : Hp) (v : V) : Option (Option Bk × Option Bk × List Int) → Prop
  | none => v = .non
  | some (o, t, ns) => ∃ (a b : Addr) (v1 v2 : V), v = .ref a ∧ H a = some (.tup [v1, v2, .ref b]) ∧ BkV K H v1 o ∧ BkV K H v2 t ∧ H b = some (.tup (ns.map V.int))
theorem FoV.keep {K : PySem.W.Frag} {H H' : Hp} {v : V} {o : Option (Option Bk × Option Bk × List Int)} (h : FoV K H v o) (s : Same H H') : FoV K H' v o := by
  cases o with
  | none => exact h
  | some o =>
    obtain ⟨o, t, ns⟩ := o
    obtain ⟨a, b, v1, v2, e, h1, h2, h3, h4⟩ := h
    exact ⟨a, b, v1, v2, e, s _ _ h1, h2.keep s, h3.keep s, s _ _ h4⟩
def spFirstOf (K : PySem.W.Frag) (C Ct Cn : Addr) : Sp := fun vs H Q _ => ∃ (x r : Addr) (row : Row) (g : Gp) (a b : Addr) (u : V) (os ts : List (Option Bk)) (l h : Int), vs = [.ref x, .ref a, .ref b, u] ∧ GAt K C Ct Cn H x r row g ∧ BksV K H a os ∧ BksV K H b ts ∧ PrV H u l h ∧
  ∀ v' H', Same H H' → FoV K H' v' (g.first ts l h os) → Q v' H'
def Row.brk (g : Gp) : Row → Option (Option Bk × Option Bk × List Int)
  | .tr _ _ _ => g.tryB
  | .tn _ _ _ t s r => g.turnB t s r
def spFirstB (K : PySem.W.Frag) (C Ct Cn : Addr) : Sp := fun vs H Q _ => ∃ (x r : Addr) (row : Row) (g : Gp), vs = [.ref x] ∧ GAt K C Ct Cn H x r row g ∧ row.ok ∧ ∀ v' H', Same H H' → FoV K H' v' (row.brk g) → Q v' H'
section
variable {P : Program} {w : World} {K : PySem.W.Frag} {mg : Str → Option Value} {base : Heap}
theorem scGripI : FnScope ["self", "rule", "light", "heavy", "over", "under"] ["self", "rule", "light", "heavy"] (defScope sGrip_init) := ⟨rfl, rfl, rfl, by decide +kernel, rfl, by decide +kernel, by decide +kernel⟩
theorem RB.but {H H' : Hp} {r x C dx : Addr} {fs : List (Str × V)} {p q k : Int} (h : RB K H r p q k) (n : x ≠ r) (hx : H x = some (.ins C dx fs)) (s : But x H H') : RB K H' r p q k := by
  obtain ⟨⟨C, dx, fs, a, h1, h2, h3, h4, h5, h6, h7⟩, b1, b2, b3, b4, b5⟩ := h
  exact ⟨⟨C, dx, fs, a, s _ _ n.symm h1, h2, h3, h4, h5, h6, s _ _ (ne_of h7 hx (by intro z; cases z)) h7⟩, b1, b2, b3, b4, b5⟩
theorem ok_gripI {f C Ct Cn : Addr} {fd : FuncData} (F : Fun K "__init__" "Grip.__init__" sGrip_init f fd) (T : GC K C) (D1 : Df P w K mg base 1 "least_beside" ["rule", "y"] (spLeastB K)) (D2 : Df P w K mg base 1 "greatest_beside" ["rule", "x"] (spGreatB K)) : FnOk P w K mg base CX0 2 f fd ["self", "rule", "light", "heavy"] (spGripI K C Ct Cn) := by
  obtain ⟨f1, fd1, G1, g1, k1, bb1⟩ := D1.ex
  obtain ⟨f2, fd2, G2, g2, k2, bb2⟩ := D2.ex
  refine F.ok scGripI (fun vs H Q E h => ?_) (fun cdv A outer s H vs Q E hr h => ?_)
  · obtain ⟨x, dx, r, row, g, rfl, _⟩ := h
    rfl
  · obtain ⟨x, dx, r, row, g, rfl, hx, xr, ob, R, kk⟩ := h
    refine ⟨_, (pss_cons (ps_fld (pv 0) (pv 1) rfl)
    (pss_cons (ps_fld (pv 0) (pv 2) rfl)
    (pss_cons (ps_fld (pv 0) (pv 3) rfl)
    (pss_cons (ps_fld (pv 0) (pe_call G1 hr (by rfl) g1 k1 bb1 .nil pass0 (pa_cons (pv 1) (pa_cons (pv 2) pa_nil))) rfl)
    (pss_cons (ps_fld (pv 0) (pe_op op_add (pe_call G2 hr (by rfl) g2 k2 bb2 .nil pass0 (pa_cons (pv 1) (pa_cons (pv 2) pa_nil))) pe_int) rfl)
    (pss_cons (ps_asg (pe_fld (pv 1) rfl) (pg_tup (by rfl) (pgs_cons (pg_name (i := 4) scGripI.nd rfl (.inl rfl)) (pgs_cons (pg_name (i := 5) scGripI.nd rfl (.inl rfl)) pgs_nil))))
    (pss_one (ps_fld (pv 0) (pe_un un_neg (pe_op op_fdivN (pe_op op_sub (pe_op op_sub (pe_op op_sub (pe_op op_mul (pv 5) (pv 2)) (pe_op op_mul (pv 4) (pv 3))) (pe_fld (pv 1) rfl)) pe_int) (pe_op op_add (pv 4) (pv 5)))) rfl)))))))), ?_⟩
    refine ⟨_, rfl, _, rfl, x, C, dx, _, rfl, hx, T.cl, T.n1, (by show 0 < 1000; decide), ?_⟩
    rw [gp1]
    have x1 : upd H x (.ins C dx [("own_rule", .ref r)]) x = some (.ins C dx [("own_rule", .ref r)]) := upd_same
    have t1 : But x H (upd H x (.ins C dx [("own_rule", .ref r)])) := But.upd_at
    generalize upd H x (.ins C dx [("own_rule", .ref r)]) = H1 at x1 t1 ⊢
    refine ⟨_, rfl, _, rfl, x, C, dx, _, rfl, x1, T.cl, T.n2, (by show 1 < 1000; decide), ?_⟩
    rw [gp2]
    have x2 : upd H1 x (.ins C dx [("own_rule", .ref r), ("light", .int g.a)]) x = some (.ins C dx [("own_rule", .ref r), ("light", .int g.a)]) := upd_same
    have t2 : But x H (upd H1 x (.ins C dx [("own_rule", .ref r), ("light", .int g.a)])) := t1.trans But.upd_at
    generalize upd H1 x (.ins C dx [("own_rule", .ref r), ("light", .int g.a)]) = H2 at x2 t2 ⊢
    refine ⟨_, rfl, _, rfl, x, C, dx, _, rfl, x2, T.cl, T.n3, (by show 2 < 1000; decide), ?_⟩
    rw [gp3]
    have x3 : upd H2 x (.ins C dx [("own_rule", .ref r), ("light", .int g.a), ("heavy", .int g.b)]) x = some (.ins C dx [("own_rule", .ref r), ("light", .int g.a), ("heavy", .int g.b)]) := upd_same
    have t3 : But x H (upd H2 x (.ins C dx [("own_rule", .ref r), ("light", .int g.a), ("heavy", .int g.b)])) := t2.trans But.upd_at
    generalize upd H2 x (.ins C dx [("own_rule", .ref r), ("light", .int g.a), ("heavy", .int g.b)]) = H3 at x3 t3 ⊢
    refine ⟨_, rfl, _, rfl, r, g.p, g.q, g.k, g.a, rfl, R.but xr hx t3, _, rfl, x, C, dx, _, rfl, x3, T.cl, T.n4, (by show 3 < 1000; decide), ?_⟩
    rw [gp4]
    have x4 : upd H3 x (.ins C dx [("own_rule", .ref r), ("light", .int g.a), ("heavy", .int g.b), ("least_light", .int g.L)]) x = some (.ins C dx [("own_rule", .ref r), ("light", .int g.a), ("heavy", .int g.b), ("least_light", .int g.L)]) := upd_same
    have t4 : But x H (upd H3 x (.ins C dx [("own_rule", .ref r), ("light", .int g.a), ("heavy", .int g.b), ("least_light", .int g.L)])) := t3.trans But.upd_at
    have e4 : upd H3 x (.ins C dx [("own_rule", .ref r), ("light", .int g.a), ("heavy", .int g.b), ("least_light", .int (leastV g.p g.q g.k g.a))]) = upd H3 x (.ins C dx [("own_rule", .ref r), ("light", .int g.a), ("heavy", .int g.b), ("least_light", .int g.L)]) := rfl
    rw [e4]
    generalize upd H3 x (.ins C dx [("own_rule", .ref r), ("light", .int g.a), ("heavy", .int g.b), ("least_light", .int g.L)]) = H4 at x4 t4 ⊢
    refine ⟨_, rfl, _, rfl, r, g.p, g.q, g.k, g.a, rfl, R.but xr hx t4, _, _, rfl, rfl, _, rfl, x, C, dx, _, rfl, x4, T.cl, T.n5, (by show 4 < 1000; decide), ?_⟩
    rw [gp5]
    have x5 : upd H4 x (.ins C dx [("own_rule", .ref r), ("light", .int g.a), ("heavy", .int g.b), ("least_light", .int g.L), ("too_heavy", .int (greatV g.p g.q g.k g.a + 1))]) x = some (.ins C dx [("own_rule", .ref r), ("light", .int g.a), ("heavy", .int g.b), ("least_light", .int g.L), ("too_heavy", .int (greatV g.p g.q g.k g.a + 1))]) := upd_same
    have t5 : But x H (upd H4 x (.ins C dx [("own_rule", .ref r), ("light", .int g.a), ("heavy", .int g.b), ("least_light", .int g.L), ("too_heavy", .int (greatV g.p g.q g.k g.a + 1))])) := t4.trans But.upd_at
    generalize upd H4 x (.ins C dx [("own_rule", .ref r), ("light", .int g.a), ("heavy", .int g.b), ("least_light", .int g.L), ("too_heavy", .int (greatV g.p g.q g.k g.a + 1))]) = H5 at x5 t5 ⊢
    obtain ⟨⟨C', dx', fs, a, hr1, cl, n1, n2, l1, l2, ha⟩, b1, b2, b3, b4, b5⟩ := R.but xr hx t5
    have q6 := m64 b1 (show g.q ≤ 8 by omega)
    have p6 := m64 (show 1 ≤ g.p by omega) (show g.p ≤ 8 by omega)
    refine ⟨_, rfl, r, C', dx', fs, _, rfl, hr1, cl, n1, l1, a, _, rfl, SqT.of ha, rfl, _, _, rfl, _, _, rfl, rfl, ?_⟩
    refine ⟨_, rfl, _, rfl, _, _, rfl, rfl, .inl q6, _, rfl, _, rfl, _, _, rfl, rfl, .inl p6, _, _, rfl, rfl, _, rfl, r, C', dx', fs, _, rfl, hr1, cl, n2, l2, _, _, rfl, rfl, _, _, rfl, rfl, _, rfl, _, rfl, _, _, rfl, rfl, _, _, rfl, rfl, ⟨by omega, by omega⟩, _, rfl, _, rfl, x, C, dx, _, rfl, x5, T.cl, T.n6, (by show 5 < 1000; decide), ?_⟩
    rw [gp6]
    exact kk _ (t5.trans But.upd_at) ⟨dx, upd_same⟩
end
end Ev
namespace Ev
open PySem L2 PySem.Spec PyProof.Rows RZ
/-! The methods of a grip. -/
section
variable {P : Program} {w : World} {K : PySem.W.Frag} {mg : Str → Option Value} {base : Heap}
/-- a break beside a written one -/
theorem lit_bk {K : PySem.W.Frag} {H : Hp} {t : Addr} (b : Bk) : BkV K (upd H t (.tup [.str b.n, .str b.s])) (.ref t) (some b) := ⟨t, rfl, SqT.of upd_same⟩
theorem scWithN : FnScope ["self", "least", "inner", "lowest", "near"] ["self", "least", "inner"] (defScope sGrip_with_near) := ⟨rfl, rfl, rfl, by decide +kernel, rfl, by decide +kernel, by decide +kernel⟩
theorem ok_withN {f C Ct Cn : Addr} {fd : FuncData} (F : Fun K "with_near" "Grip.with_near" sGrip_with_near f fd) (T : GC K C) (D1 : Df P w K mg base 1 "least_beside" ["rule", "y"] (spLeastB K)) (D2 : Df P w K mg base 1 "least_part" ["rule", "weight"] (spPart K)) : FnOk P w K mg base CX0 2 f fd ["self", "least", "inner"] (spWithN K C Ct Cn) := by
  obtain ⟨f1, fd1, G1, g1, k1, b1⟩ := D1.ex
  obtain ⟨f2, fd2, G2, g2, k2, b2⟩ := D2.ex
  refine F.ok scWithN (fun vs H Q E h => ?_) (fun cdv A outer s H vs Q E hr h => ?_)
  · obtain ⟨x, r, row, g, m, i, rfl, _⟩ := h
    rfl
  · obtain ⟨x, r, row, g, m, i, rfl, ⟨⟨dx, hx⟩, ob, R⟩, kk⟩ := h
    refine ⟨_, (pss_cons (ps_set (i := 3) scWithN.nd rfl (.inl rfl) (pe_op op_add (pv 1) (pe_call G1 hr (by rfl) g1 k1 b1 .nil pass0 (pa_cons (pe_fld (pv 0) rfl) (pa_cons (pv 1) pa_nil)))))
    (pss_cons (ps_set (i := 2) scWithN.nd rfl (.inl rfl) (pe_ifExp (pt_cmpR op_gt (pv 2) (pv 3) (nomark _)) (pv 2) (pv 3)))
    (pss_cons (ps_set (i := 4) scWithN.nd rfl (.inl rfl) (pe_call G2 hr (by rfl) g2 k2 b2 .nil pass0 (pa_cons (pe_fld (pv 0) rfl) (pa_cons (pv 2) pa_nil))))
    (pss_one (ps_ret (pe_tup (pa_cons (pv 2) (pa_cons (pe_ifExp (pt_cmpR op_gt (pv 4) (pv 1) (nomark _)) (pv 4) (pv 1)) pa_nil)))))))), ?_⟩
    have fin : ∀ (c : Int) (u : Addr), (g.with m i).1 = c → H u = none → ∀ e : Int, (g.with m i).2 = e → Q (.ref u) (upd H u (.tup [.int c, .int e])) := fun c u e1 hu e e2 => kk _ _ (same_new hu) ⟨u, rfl, by rw [e1, e2]; exact upd_same⟩
    have tail : ∀ c : Int, (g.with m i).1 = c → ∀ u : Addr, H u = none → Q (.ref u) (upd H u (.tup [.int c, .int (if g.part c > m then g.part c else m)])) := fun c e u hu => fin c u e hu _ (by
      show (if g.part (g.with m i).1 > m then g.part (g.with m i).1 else m) = _
      rw [e])
    refine ⟨_, rfl, _, rfl, x, C, dx, _, _, rfl, hx, T.cl, T.n1, gl1 r g, _, rfl, r, g.p, g.q, g.k, m, rfl, R, _, _, rfl, rfl, ?_⟩
    refine ⟨_, rfl, _, rfl, _, _, rfl, rfl, _, rfl, ?_⟩
    show (if decide (i > m + g.least m) = true then _ else _)
    have rest : ∀ c : Int, (g.with m i).1 = c → ∀ u : Addr, H u = none → Q (.ref u) (upd H u (.tup [.int c, .int (if g.part c > m then g.part c else m)])) := tail
    by_cases z : i > m + g.least m
    · rw [if_pos (decide_eq_true z)]
      have hc : (g.with m i).1 = i := if_pos z
      refine ⟨_, rfl, ?_⟩
      refine ⟨_, rfl, x, C, dx, _, _, rfl, hx, T.cl, T.n1, gl1 r g, _, rfl, r, g.p, g.q, g.k, i, rfl, R, ?_⟩
      refine ⟨_, rfl, _, rfl, _, rfl, _, _, rfl, rfl, _, rfl, ?_⟩
      show (if decide (g.part i > m) = true then _ else _)
      by_cases y : g.part i > m
      · rw [if_pos (decide_eq_true y)]
        exact ⟨_, rfl, (by show 2 ≤ sizeLine; decide), fun u hu => by have := tail i hc u hu; rw [if_pos y] at this; exact this⟩
      · rw [if_neg (fun x => y (of_decide_eq_true x))]
        exact ⟨_, rfl, (by show 2 ≤ sizeLine; decide), fun u hu => by have := tail i hc u hu; rw [if_neg y] at this; exact this⟩
    · rw [if_neg (fun x => z (of_decide_eq_true x))]
      have hc : (g.with m i).1 = m + g.least m := if_neg z
      refine ⟨_, rfl, ?_⟩
      refine ⟨_, rfl, x, C, dx, _, _, rfl, hx, T.cl, T.n1, gl1 r g, _, rfl, r, g.p, g.q, g.k, m + g.least m, rfl, R, ?_⟩
      refine ⟨_, rfl, _, rfl, _, rfl, _, _, rfl, rfl, _, rfl, ?_⟩
      show (if decide (g.part (m + g.least m) > m) = true then _ else _)
      by_cases y : g.part (m + g.least m) > m
      · rw [if_pos (decide_eq_true y)]
        exact ⟨_, rfl, (by show 2 ≤ sizeLine; decide), fun u hu => by have := tail _ hc u hu; rw [if_pos y] at this; exact this⟩
      · rw [if_neg (fun x => y (of_decide_eq_true x))]
        exact ⟨_, rfl, (by show 2 ≤ sizeLine; decide), fun u hu => by have := tail _ hc u hu; rw [if_neg y] at this; exact this⟩
theorem scNearE : FnScope ["self", "twice", "inner", "near", "far"] ["self", "twice", "inner"] (defScope sGrip_near_ends) := ⟨rfl, rfl, rfl, by decide +kernel, rfl, by decide +kernel, by decide +kernel⟩
/-- a break is compared with a written one -/
theorem cmp_bk {K : PySem.W.Frag} {H : Hp} {v : V} {t : Option Bk} (hv : BkV K H v t) (b : Bk) {Q : VK} (hQ : ∀ u : Addr, H u = none → Q (.bl (decide (t = some b))) (upd H u (.tup [.str b.n, .str b.s]))) : ∀ u : Addr, H u = none → rEqD K v (.ref u) (upd H u (.tup [.str b.n, .str b.s])) Q := fun u hu => by
  have h1 := (hv.keep (same_new (o := .tup [.str b.n, .str b.s]) hu)).dp
  have h2 := (lit_bk (K := K) (H := H) (t := u) b).dp
  refine ⟨_, _, h1, h2, bkD_shaped _, bkD_shaped _, ?_⟩
  rw [bkD_eqv]
  exact hQ u hu
theorem ok_nearE {f C Ct Cn : Addr} {fd : FuncData} (F : Fun K "near_ends" "Grip.near_ends" sGrip_near_ends f fd) (T : GC K C) (M : Mt P w K mg base C "with_near" 2 ["self", "least", "inner"] (spWithN K C Ct Cn)) (D1 : Df P w K mg base 1 "least_beside" ["rule", "y"] (spLeastB K)) (D2 : Df P w K mg base 1 "least_part" ["rule", "weight"] (spPart K)) : FnOk P w K mg base CX0 3 f fd ["self", "twice", "inner"] (spNearE K C Ct Cn) := by
  obtain ⟨f1, fd1, G1, g1, k1, b1⟩ := D1.ex
  obtain ⟨f2, fd2, G2, g2, k2, b2⟩ := D2.ex
  obtain ⟨fm, fdm, mm, Gm, bm⟩ := M
  refine F.ok scNearE (fun vs H Q E h => ?_) (fun cdv A outer s H vs Q E hr h => ?_)
  · obtain ⟨x, r, row, g, v, t, i, rfl, _⟩ := h
    rfl
  · obtain ⟨x, r, row, g, v, t, i, rfl, ga, hv, kk⟩ := h
    refine ⟨_, (pss_cons (ps_if (pt_cmpR (op_eqD hr.units) (pv 1) (pe_tup (pa_cons pe_str (pa_cons pe_str pa_nil))) (nomark _))
      (pss_one (ps_ret (pe_meth (pv 0) T.cl mm Gm hr bm .nil pass0 (pa_cons (pe_fld (pv 0) rfl) (pa_cons (pv 2) pa_nil))))) pss_nil)
    (pss_cons (ps_if (pt_cmpR (op_eqD hr.units) (pv 1) (pe_tup (pa_cons pe_str (pa_cons pe_str pa_nil))) (nomark _))
      (pss_one (ps_ret (pe_meth (pv 0) T.cl mm Gm hr bm .nil pass0 (pa_cons (pe_fld (pv 0) rfl) (pa_cons (pv 2) pa_nil))))) pss_nil)
    (pss_cons (ps_set (i := 3) scNearE.nd rfl (.inl rfl) (pe_call G2 (hr.mono (by decide)) (by rfl) g2 k2 b2 .nil pass0 (pa_cons (pe_fld (pv 0) rfl) (pa_cons (pv 2) pa_nil))))
    (pss_cons (ps_if (pt_cmpR (op_eqD hr.units) (pv 1) (pe_tup (pa_cons pe_str (pa_cons pe_str pa_nil))) (nomark _))
      (pss_one (ps_ret (pe_ifExp (pt_cmpR op_lt (pv 3) (pe_fld (pv 0) rfl) (nomark _)) (pe_tup (pa_cons (pv 2) (pa_cons (pv 3) pa_nil))) pe_non))) pss_nil)
    (pss_cons (ps_if (pt_cmpR (op_eqD hr.units) (pv 1) (pe_tup (pa_cons pe_str (pa_cons pe_str pa_nil))) (nomark _))
      (pss_cons (ps_set (i := 4) scNearE.nd rfl (.inl rfl) (pe_op op_sub (pe_call G1 (hr.mono (by decide)) (by rfl) g1 k1 b1 .nil pass0 (pa_cons (pe_fld (pv 0) rfl) (pa_cons (pe_op op_sub (pe_fld (pv 0) rfl) (pv 2)) pa_nil))) pe_int))
      (pss_one (ps_ret (pe_ifExp (pt_cmpR op_le (pv 3) (pv 4) (nomark _)) (pe_tup (pa_cons (pv 2) (pa_cons (pe_ifExp (pt_cmpR op_gt (pv 3) (pe_op op_sub (pv 2) (pv 4)) (nomark _)) (pv 3) (pe_op op_sub (pv 2) (pv 4))) pa_nil))) pe_non)))) pss_nil)
    (pss_one (ps_ret pe_non))))))), ?_⟩
    refine ⟨_, rfl, (by show 2 ≤ sizeLine; decide), cmp_bk hv .li2 fun u1 hu1 => ?_⟩
    have s1 := same_new (o := .tup [.str Bk.li2.n, .str Bk.li2.s]) hu1
    have ga1 := ga.keep s1
    have hv1 := hv.keep s1
    generalize upd H u1 (.tup [.str Bk.li2.n, .str Bk.li2.s]) = H1 at s1 ga1 hv1 ⊢
    refine ⟨_, rfl, ?_⟩
    by_cases e : t = .li2
    · subst e
      obtain ⟨⟨dx, hx⟩, ob, R⟩ := ga1
      refine iteT ⟨_, rfl, x, dx, _, rfl, hx, gl0 r g ⟨by decide +kernel, by decide +kernel, by decide +kernel, by decide +kernel, by decide +kernel, by decide +kernel⟩, _, rfl, x, C, dx, _, _, rfl, hx, T.cl, T.n5, gl5 r g, _, rfl, x, r, row, g, g.T, i, rfl, ⟨⟨dx, hx⟩, ob, R⟩, fun v' H' s' pv' => ?_⟩
      exact kk v' H' (s1.trans s') pv'
    rw [decide_eq_false (fun z => e (Option.some.inj z))]
    refine iteF ⟨_, rfl, (by show 2 ≤ sizeLine; decide), cmp_bk hv1 .to1 fun u2 hu2 => ?_⟩
    have s2 := s1.trans (same_new (o := .tup [.str Bk.to1.n, .str Bk.to1.s]) hu2)
    have ga2 := ga.keep s2
    have hv2 := hv.keep s2
    generalize upd H1 u2 (.tup [.str Bk.to1.n, .str Bk.to1.s]) = H2 at s2 ga2 hv2 ⊢
    refine ⟨_, rfl, ?_⟩
    by_cases e2 : t = .to1
    · subst e2
      obtain ⟨⟨dx, hx⟩, ob, R⟩ := ga2
      refine iteT ⟨_, rfl, x, dx, _, rfl, hx, gl0 r g ⟨by decide +kernel, by decide +kernel, by decide +kernel, by decide +kernel, by decide +kernel, by decide +kernel⟩, _, rfl, x, C, dx, _, _, rfl, hx, T.cl, T.n6, gl6 r g, _, rfl, x, r, row, g, g.M, i, rfl, ⟨⟨dx, hx⟩, ob, R⟩, fun v' H' s' pv' => ?_⟩
      exact kk v' H' (s2.trans s') pv'
    rw [decide_eq_false (fun z => e2 (Option.some.inj z))]
    obtain ⟨⟨dx, hx⟩, ob, R⟩ := ga2
    refine iteF ⟨_, rfl, x, C, dx, _, _, rfl, hx, T.cl, T.n1, gl1 r g, _, rfl, r, g.p, g.q, g.k, i, rfl, R, ?_⟩
    refine ⟨_, rfl, (by show 2 ≤ sizeLine; decide), cmp_bk hv2 .li1 fun u3 hu3 => ?_⟩
    have s23 := same_new (o := .tup [.str Bk.li1.n, .str Bk.li1.s]) hu3
    have s3 := s2.trans s23
    have hv3 := hv.keep s3
    have hx := s23 _ _ hx
    have R := R.keep s23
    generalize upd H2 u3 (.tup [.str Bk.li1.n, .str Bk.li1.s]) = H3 at s3 hv3 hx R ⊢
    refine ⟨_, rfl, ?_⟩
    by_cases e3 : t = .li1
    · subst e3
      refine iteT ⟨_, rfl, _, rfl, x, C, dx, _, _, rfl, hx, T.cl, T.n4, gl4 r g, _, _, rfl, rfl, _, rfl, ?_⟩
      show (if decide (g.part i < g.L) = true then _ else _)
      by_cases z : g.part i < g.L
      · rw [if_pos (decide_eq_true z)]
        refine ⟨_, rfl, _, rfl, (by show 2 ≤ sizeLine; decide), fun u hu => kk _ _ (s3.trans (same_new hu)) ?_⟩
        rw [show g.near .li1 i = some (i, g.part i) from if_pos z]
        exact ⟨u, rfl, upd_same⟩
      · rw [if_neg (fun y => z (of_decide_eq_true y))]
        refine kk _ _ s3 ?_
        rw [show g.near .li1 i = none from if_neg z]
        rfl
    rw [decide_eq_false (fun z => e3 (Option.some.inj z))]
    refine iteF ⟨_, rfl, (by show 2 ≤ sizeLine; decide), cmp_bk hv3 .fa2 fun u4 hu4 => ?_⟩
    have s34 := same_new (o := .tup [.str Bk.fa2.n, .str Bk.fa2.s]) hu4
    have s4 := s3.trans s34
    have hx := s34 _ _ hx
    have R := R.keep s34
    generalize upd H3 u4 (.tup [.str Bk.fa2.n, .str Bk.fa2.s]) = H4 at s4 hx R ⊢
    refine ⟨_, rfl, ?_⟩
    by_cases e4 : t = .fa2
    · subst e4
      refine iteT ⟨_, rfl, x, C, dx, _, _, rfl, hx, T.cl, T.n1, gl1 r g, _, rfl, x, C, dx, _, _, rfl, hx, T.cl, T.n3, gl3 r g, _, rfl, _, _, rfl, rfl, r, g.p, g.q, g.k, g.b - i, rfl, R, _, _, rfl, rfl, ?_⟩
      refine ⟨_, rfl, _, rfl, _, _, rfl, rfl, _, rfl, ?_⟩
      show (if decide (g.part i ≤ g.least (g.b - i) - 1) = true then _ else _)
      by_cases z : g.part i ≤ g.least (g.b - i) - 1
      · rw [if_pos (decide_eq_true z)]
        refine ⟨_, rfl, _, rfl, _, rfl, _, rfl, _, _, rfl, rfl, _, _, rfl, rfl, _, rfl, ?_⟩
        show (if decide (g.part i > i - (g.least (g.b - i) - 1)) = true then _ else _)
        by_cases y : g.part i > i - (g.least (g.b - i) - 1)
        · rw [if_pos (decide_eq_true y)]
          refine ⟨_, rfl, (by show 2 ≤ sizeLine; decide), fun u hu => kk _ _ (s4.trans (same_new hu)) ?_⟩
          rw [show g.near .fa2 i = some (i, g.part i) from (if_pos z).trans (by rw [if_pos y])]
          exact ⟨u, rfl, upd_same⟩
        · rw [if_neg (fun x => y (of_decide_eq_true x))]
          refine ⟨_, rfl, _, rfl, _, _, rfl, rfl, (by show 2 ≤ sizeLine; decide), fun u hu => kk _ _ (s4.trans (same_new hu)) ?_⟩
          rw [show g.near .fa2 i = some (i, i - (g.least (g.b - i) - 1)) from (if_pos z).trans (by rw [if_neg y])]
          exact ⟨u, rfl, upd_same⟩
      · rw [if_neg (fun x => z (of_decide_eq_true x))]
        refine kk _ _ s4 ?_
        rw [show g.near .fa2 i = none from if_neg z]
        rfl
    rw [decide_eq_false (fun z => e4 (Option.some.inj z))]
    refine iteF (kk _ _ s4 ?_)
    cases t <;> first | exact absurd rfl e | exact absurd rfl e2 | exact absurd rfl e3 | exact absurd rfl e4 | rfl
end
end Ev
namespace Ev
open PySem L2 PySem.Spec PyProof.Rows RZ
/-- the constants of the module -/
structure KB (K : PySem.W.Frag) (mg : Str → Option Value) (SK ON TW : Addr) : Prop where
  gS : mg "STUCK" = some (.ref SK)
  gO : mg "ONCE" = some (.ref ON)
  gT : mg "TWICE" = some (.ref TW)
  hS : ∀ H, BkV K H (.ref SK) (some .st)
  hO : ∀ H, BksV K H ON onces
  hT : ∀ H, BksV K H TW twices
theorem BkV.isN {K : PySem.W.Frag} {H : Hp} {v : V} {o : Option Bk} (h : BkV K H v o) : decide (v = .non) = decide (o = none) := by
  cases o with
  | none => rw [show v = .non from h]; rfl
  | some b =>
    obtain ⟨a, rfl, _⟩ := h
    rw [decide_eq_false (by intro z; cases z), decide_eq_false (by intro z; cases z)]
theorem NsV.isN {H : Hp} {v : V} {o : Option (List Int)} (h : NsV H v o) : decide (v = .non) = o.isNone := by
  cases o with
  | none => rw [show v = .non from h]; rfl
  | some b =>
    obtain ⟨a, rfl, _⟩ := h
    rw [decide_eq_false (by intro z; cases z)]; rfl
section
variable {P : Program} {w : World} {K : PySem.W.Frag} {mg : Str → Option Value} {base : Heap}
theorem scOnceE : FnScope ["self", "once", "ends", "low", "high"] ["self", "once", "ends"] (defScope sGrip_once_ends) := ⟨rfl, rfl, rfl, by decide +kernel, rfl, by decide +kernel, by decide +kernel⟩
theorem ok_onceE {f C Ct Cn : Addr} {fd : FuncData} (F : Fun K "once_ends" "Grip.once_ends" sGrip_once_ends f fd) (T : GC K C) : FnOk P w K mg base CX0 1 f fd ["self", "once", "ends"] (spOnceE K C Ct Cn) := by
  refine F.ok scOnceE (fun vs H Q E h => ?_) (fun cdv A outer s H vs Q E hr h => ?_)
  · obtain ⟨x, r, row, g, v, u, o, l, h, rfl, _⟩ := h
    rfl
  · obtain ⟨x, r, row, g, v, u, o, l, h, rfl, ga, hv, ⟨tt, rfl, ht⟩, kk⟩ := h
    refine ⟨_, (pss_cons (ps_asg (pv 2) (pg_tup (by rfl) (pgs_cons (pg_name (i := 3) scOnceE.nd rfl (.inl rfl)) (pgs_cons (pg_name (i := 4) scOnceE.nd rfl (.inl rfl)) pgs_nil))))
    (pss_cons (ps_if (pt_cmpR op_isN (pv 1) pe_non (nomark _))
      (pss_one (ps_ret (pe_tup (pa_cons (pv 3) (pa_cons (pv 4) pa_nil))))) pss_nil)
    (pss_cons (ps_if (pt_cmpR (op_eqD hr.units) (pv 1) (pe_tup (pa_cons pe_str (pa_cons pe_str pa_nil))) (nomark _))
      (pss_one (ps_ret (pe_tup (pa_cons (pv 3) (pa_cons (pe_ifExp (pt_cmpR op_lt (pv 4) (pe_fld (pv 0) rfl) (nomark _)) (pv 4) (pe_op op_sub (pe_fld (pv 0) rfl) pe_int)) pa_nil))))) pss_nil)
    (pss_cons (ps_if (pt_cmpR (op_eqD hr.units) (pv 1) (pe_tup (pa_cons pe_str (pa_cons pe_str pa_nil))) (nomark _))
      (pss_one (ps_ret (pe_tup (pa_cons (pe_ifExp (pt_cmpR op_gt (pv 3) (pe_fld (pv 0) rfl) (nomark _)) (pv 3) (pe_fld (pv 0) rfl)) (pa_cons (pv 4) pa_nil))))) pss_nil)
    (pss_cons (ps_if (pt_cmpR (op_eqD hr.units) (pv 1) (pe_tup (pa_cons pe_str (pa_cons pe_str pa_nil))) (nomark _))
      (pss_one (ps_ret (pe_tup (pa_cons (pe_ifExp (pt_cmpR op_gt (pv 3) (pe_fld (pv 0) rfl) (nomark _)) (pv 3) (pe_fld (pv 0) rfl)) (pa_cons (pv 4) pa_nil))))) pss_nil)
    (pss_one (ps_ret (pe_tup (pa_cons pe_int (pa_cons pe_int pa_nil)))))))))), ?_⟩
    refine ⟨_, rfl, tt, _, rfl, SqT.of ht, rfl, _, _, rfl, _, _, rfl, rfl, ?_⟩
    refine ⟨_, rfl, rfl, _, rfl, ?_⟩
    rw [hv.isN]
    by_cases e0 : o = none
    · subst e0
      refine iteT ⟨_, rfl, _, rfl, (by show 2 ≤ sizeLine; decide), fun z hz => kk _ _ (same_new hz) ⟨z, rfl, upd_same⟩⟩
    rw [decide_eq_false e0]
    refine iteF ⟨_, rfl, (by show 2 ≤ sizeLine; decide), cmp_bk hv .li1 fun u1 hu1 => ?_⟩
    have s1 := same_new (o := .tup [.str Bk.li1.n, .str Bk.li1.s]) hu1
    have ga1 := ga.keep s1
    have hv1 := hv.keep s1
    generalize upd H u1 (.tup [.str Bk.li1.n, .str Bk.li1.s]) = H1 at s1 ga1 hv1 ⊢
    refine ⟨_, rfl, ?_⟩
    by_cases e1 : o = some .li1
    · subst e1
      obtain ⟨⟨dx, hx⟩, ob, R⟩ := ga1
      refine iteT ⟨_, rfl, _, rfl, _, rfl, x, C, dx, _, _, rfl, hx, T.cl, T.n4, gl4 r g, _, _, rfl, rfl, _, rfl, ?_⟩
      show (if decide (h < g.L) = true then _ else _)
      by_cases z : h < g.L
      · rw [if_pos (decide_eq_true z)]
        refine ⟨_, rfl, (by show 2 ≤ sizeLine; decide), fun u hu => kk _ _ (s1.trans (same_new hu)) ⟨u, rfl, ?_⟩⟩
        rw [show (g.ends (some .li1) l h).2 = h from if_pos z]
        exact upd_same
      · rw [if_neg (fun y => z (of_decide_eq_true y))]
        refine ⟨_, rfl, x, C, dx, _, _, rfl, hx, T.cl, T.n4, gl4 r g, _, _, rfl, rfl, (by show 2 ≤ sizeLine; decide), fun u hu => kk _ _ (s1.trans (same_new hu)) ⟨u, rfl, ?_⟩⟩
        rw [show (g.ends (some .li1) l h).2 = g.L - 1 from if_neg z]
        exact upd_same
    rw [decide_eq_false e1]
    refine iteF ⟨_, rfl, (by show 2 ≤ sizeLine; decide), cmp_bk hv1 .li2 fun u2 hu2 => ?_⟩
    have s12 := same_new (o := .tup [.str Bk.li2.n, .str Bk.li2.s]) hu2
    have s2 := s1.trans s12
    have ga2 := ga1.keep s12
    have hv2 := hv1.keep s12
    generalize upd H1 u2 (.tup [.str Bk.li2.n, .str Bk.li2.s]) = H2 at s2 ga2 hv2 ⊢
    refine ⟨_, rfl, ?_⟩
    by_cases e2 : o = some .li2
    · subst e2
      obtain ⟨⟨dx, hx⟩, ob, R⟩ := ga2
      refine iteT ⟨_, rfl, _, rfl, x, C, dx, _, _, rfl, hx, T.cl, T.n5, gl5 r g, _, _, rfl, rfl, _, rfl, ?_⟩
      show (if decide (l > g.T) = true then _ else _)
      by_cases z : l > g.T
      · rw [if_pos (decide_eq_true z)]
        refine ⟨_, rfl, _, rfl, (by show 2 ≤ sizeLine; decide), fun u hu => kk _ _ (s2.trans (same_new hu)) ⟨u, rfl, ?_⟩⟩
        rw [show (g.ends (some .li2) l h).1 = l from if_pos z]
        exact upd_same
      · rw [if_neg (fun y => z (of_decide_eq_true y))]
        refine ⟨_, rfl, x, C, dx, _, _, rfl, hx, T.cl, T.n5, gl5 r g, _, rfl, (by show 2 ≤ sizeLine; decide), fun u hu => kk _ _ (s2.trans (same_new hu)) ⟨u, rfl, ?_⟩⟩
        rw [show (g.ends (some .li2) l h).1 = g.T from if_neg z]
        exact upd_same
    rw [decide_eq_false e2]
    refine iteF ⟨_, rfl, (by show 2 ≤ sizeLine; decide), cmp_bk hv2 .to1 fun u3 hu3 => ?_⟩
    have s23 := same_new (o := .tup [.str Bk.to1.n, .str Bk.to1.s]) hu3
    have s3 := s2.trans s23
    have ga3 := ga2.keep s23
    generalize upd H2 u3 (.tup [.str Bk.to1.n, .str Bk.to1.s]) = H3 at s3 ga3 ⊢
    refine ⟨_, rfl, ?_⟩
    by_cases e3 : o = some .to1
    · subst e3
      obtain ⟨⟨dx, hx⟩, ob, R⟩ := ga3
      refine iteT ⟨_, rfl, _, rfl, x, C, dx, _, _, rfl, hx, T.cl, T.n6, gl6 r g, _, _, rfl, rfl, _, rfl, ?_⟩
      show (if decide (l > g.M) = true then _ else _)
      by_cases z : l > g.M
      · rw [if_pos (decide_eq_true z)]
        refine ⟨_, rfl, _, rfl, (by show 2 ≤ sizeLine; decide), fun u hu => kk _ _ (s3.trans (same_new hu)) ⟨u, rfl, ?_⟩⟩
        rw [show (g.ends (some .to1) l h).1 = l from if_pos z]
        exact upd_same
      · rw [if_neg (fun y => z (of_decide_eq_true y))]
        refine ⟨_, rfl, x, C, dx, _, _, rfl, hx, T.cl, T.n6, gl6 r g, _, rfl, (by show 2 ≤ sizeLine; decide), fun u hu => kk _ _ (s3.trans (same_new hu)) ⟨u, rfl, ?_⟩⟩
        rw [show (g.ends (some .to1) l h).1 = g.M from if_neg z]
        exact upd_same
    rw [decide_eq_false e3]
    refine iteF ⟨(by show 2 ≤ sizeLine; decide), fun u hu => kk _ _ (s3.trans (same_new hu)) ⟨u, rfl, ?_⟩⟩
    have : g.ends o l h = (1, 0) := by
      match o, e0, e1, e2, e3 with
      | some .st, _, _, _, _ => rfl
      | some .fa1, _, _, _, _ => rfl
      | some .fa2, _, _, _, _ => rfl
      | some .to2, _, _, _, _ => rfl
      | none, e0, _, _, _ => exact absurd rfl e0
      | some .li1, _, e, _, _ => exact absurd rfl e
      | some .li2, _, _, e, _ => exact absurd rfl e
      | some .to1, _, _, _, e => exact absurd rfl e
    rw [this]
    exact upd_same
theorem scNumsO : FnScope ["self", "twice", "low", "high", "ends", "inner", "near"] ["self", "twice", "low", "high"] (defScope sGrip_numbers_of) := ⟨rfl, rfl, rfl, by decide +kernel, rfl, by decide +kernel, by decide +kernel⟩
theorem ok_numsO {f C Ct Cn SK ON TW : Addr} {fd : FuncData} (F : Fun K "numbers_of" "Grip.numbers_of" sGrip_numbers_of f fd) (T : GC K C) (B : KB K mg SK ON TW) (M : Mt P w K mg base C "near_ends" 3 ["self", "twice", "inner"] (spNearE K C Ct Cn)) : FnOk P w K mg base CX0 4 f fd ["self", "twice", "low", "high"] (spNumsO K C Ct Cn) := by
  obtain ⟨fm, fdm, mm, Gm, bm⟩ := M
  refine F.ok scNumsO (fun vs H Q E h => ?_) (fun cdv A outer s H vs Q E hr h => ?_)
  · obtain ⟨x, r, row, g, v, t, l, h, rfl, _⟩ := h
    rfl
  · obtain ⟨x, r, row, g, v, t, l, h, rfl, ga, hv, kk⟩ := h
    refine ⟨_, (pss_cons (ps_if (pt_cmpR op_isN (pv 1) pe_non (nomark _))
      (pss_one (ps_ret (pe_tup (pa_cons (pe_fld (pv 0) rfl) (pa_cons (pv 2) (pa_cons (pe_op op_sub (pe_fld (pv 0) rfl) (pv 2)) pa_nil)))))) pss_nil)
    (pss_cons (ps_if (pt_cmpR (op_eqD hr.units) (pv 1) (pe_glob (v := .ref SK) rfl B.gS rfl) (nomark _))
      (pss_one (ps_ret (pe_ifExp (pt_cmpR op_eq (pv 2) pe_int (nomark _)) (pe_tup (pa_cons (pe_fld (pv 0) rfl) (pa_cons pe_int (pa_cons (pe_op op_sub (pe_fld (pv 0) rfl) pe_int) pa_nil)))) pe_non))) pss_nil)
    (pss_cons (ps_set (i := 4) scNumsO.nd rfl (.inl rfl) (pe_meth (pv 0) T.cl mm Gm hr bm .nil pass0 (pa_cons (pv 1) (pa_cons (pe_ifExp (pt_cmpR op_gt (pv 2) pe_int (nomark _)) (pv 2) pe_int) pa_nil))))
    (pss_cons (ps_if (PW.pt (pw_or (pt_cmpR op_isN (pv 4) pe_non (nomark _)) (pw_or1 (pt_cmpR op_gt (pe_ix ix_tup (pv 4) pe_int (fun _ _ => rfl)) (pv 3) (nomark _)))))
      (pss_one (ps_ret pe_non)) pss_nil)
    (pss_cons (ps_asg (pv 4) (pg_tup (by rfl) (pgs_cons (pg_name (i := 5) scNumsO.nd rfl (.inl rfl)) (pgs_cons (pg_name (i := 6) scNumsO.nd rfl (.inl rfl)) pgs_nil))))
    (pss_one (ps_ret (pe_tup (pa_cons (pe_fld (pv 0) rfl) (pa_cons (pv 6) (pa_cons (pe_op op_sub (pv 5) (pv 6)) (pa_cons (pe_op op_sub (pe_fld (pv 0) rfl) (pv 5)) pa_nil)))))))))))), ?_⟩
    have ga0 := ga
    obtain ⟨⟨dx, hx⟩, ob, R⟩ := ga
    refine ⟨_, rfl, rfl, _, rfl, ?_⟩
    rw [hv.isN]
    by_cases e0 : t = none
    · subst e0
      exact iteT ⟨_, rfl, x, C, dx, _, _, rfl, hx, T.cl, T.n2, gl2 r g, _, rfl, _, rfl, x, C, dx, _, _, rfl, hx, T.cl, T.n3, gl3 r g, _, rfl, _, _, rfl, rfl, (by show 3 ≤ sizeLine; decide), fun z hz => kk _ _ (same_new hz) ⟨z, rfl, upd_same⟩⟩
    rw [decide_eq_false e0]
    refine iteF ⟨_, rfl, _, _, hv.dp, (B.hS H).dp, bkD_shaped _, bkD_shaped _, _, rfl, ?_⟩
    rw [bkD_eqv]
    by_cases e1 : t = some .st
    · subst e1
      refine iteT ⟨_, rfl, rfl, _, rfl, ?_⟩
      by_cases z : l = 1
      · subst z
        exact iteT ⟨_, rfl, x, C, dx, _, _, rfl, hx, T.cl, T.n2, gl2 r g, _, rfl, x, C, dx, _, _, rfl, hx, T.cl, T.n3, gl3 r g, _, _, rfl, rfl, (by show 3 ≤ sizeLine; decide), fun z hz => kk _ _ (same_new hz) ⟨z, rfl, upd_same⟩⟩
      · rw [show decide (V.int l = V.int 1) = false from decide_eq_false fun y => z (V.int.inj y)]
        refine iteF (kk _ _ (Same.refl H) ?_)
        rw [show g.nums (some .st) l h = none from if_neg z]
        rfl
    rw [decide_eq_false e1]
    obtain ⟨t, rfl⟩ : ∃ t', t = some t' := by cases t with
      | none => exact absurd rfl e0
      | some t' => exact ⟨t', rfl⟩
    have e2 : g.nums (some t) l h = (match g.near t (if l > 1 then l else 2) with
        | none => none
        | some (i, e) => if i > h then none else some [g.a, e, i - e, g.b - i]) := by
      cases t <;> first | rfl | exact absurd rfl e1
    rw [e2] at kk
    refine iteF ⟨_, rfl, x, dx, _, rfl, hx, gl0 r g ⟨by decide +kernel, by decide +kernel, by decide +kernel, by decide +kernel, by decide +kernel, by decide +kernel⟩, _, rfl, _, rfl, _, _, rfl, rfl, _, rfl, ?_⟩
    show (if decide (l > 1) = true then _ else _)
    by_cases z : l > 1
    · rw [if_pos (decide_eq_true z)]
      have en' : (if l > 1 then l else 2) = l := if_pos z
      refine ⟨_, rfl, x, r, row, g, v, t, l, rfl, ga0, hv, fun v' H' s' ov => ?_⟩
      refine ⟨_, rfl, rfl, _, rfl, ?_⟩
      have ga1 := ga0.keep s'
      obtain ⟨⟨dx1, hx1⟩, ob1, R1⟩ := ga1
      cases en : g.near t (l) with
      | none =>
        rw [en] at ov
        rw [en'] at kk
        rw [en] at kk
        rw [show v' = .non from ov]
        exact iteT (kk _ _ s' rfl)
      | some ce =>
        obtain ⟨c, e⟩ := ce
        rw [en] at ov
        rw [en'] at kk
        rw [en] at kk
        obtain ⟨tt, rfl, ht⟩ := ov
        rw [decide_eq_false (by intro z; cases z)]
        refine iteF ⟨_, rfl, tt, _, _, _, rfl, rfl, SqT.of ht, tup0, _, rfl, _, _, rfl, rfl, _, rfl, ?_⟩
        dsimp only at kk
        by_cases y : c > h
        · rw [if_pos y] at kk
          rw [show (decide (c > h)) = true from decide_eq_true y]
          exact iteT (kk _ _ s' rfl)
        · rw [if_neg y] at kk
          rw [show (decide (c > h)) = false from decide_eq_false y]
          refine iteF ⟨_, rfl, tt, _, rfl, SqT.of ht, rfl, _, _, rfl, _, _, rfl, rfl, ?_⟩
          exact ⟨_, rfl, x, C, dx1, _, _, rfl, hx1, T.cl, T.n2, gl2 r g, _, rfl, _, rfl, _, rfl, _, _, rfl, rfl, _, rfl, x, C, dx1, _, _, rfl, hx1, T.cl, T.n3, gl3 r g, _, rfl, _, _, rfl, rfl, (by show 4 ≤ sizeLine; decide), fun z hz => kk _ _ (s'.trans (same_new hz)) ⟨z, rfl, upd_same⟩⟩
    · rw [if_neg (fun y => z (of_decide_eq_true y))]
      have en' : (if l > 1 then l else 2) = 2 := if_neg z
      refine ⟨x, r, row, g, v, t, 2, rfl, ga0, hv, fun v' H' s' ov => ?_⟩
      refine ⟨_, rfl, rfl, _, rfl, ?_⟩
      have ga1 := ga0.keep s'
      obtain ⟨⟨dx1, hx1⟩, ob1, R1⟩ := ga1
      cases en : g.near t (2) with
      | none =>
        rw [en] at ov
        rw [en'] at kk
        rw [en] at kk
        rw [show v' = .non from ov]
        exact iteT (kk _ _ s' rfl)
      | some ce =>
        obtain ⟨c, e⟩ := ce
        rw [en] at ov
        rw [en'] at kk
        rw [en] at kk
        obtain ⟨tt, rfl, ht⟩ := ov
        rw [decide_eq_false (by intro z; cases z)]
        refine iteF ⟨_, rfl, tt, _, _, _, rfl, rfl, SqT.of ht, tup0, _, rfl, _, _, rfl, rfl, _, rfl, ?_⟩
        dsimp only at kk
        by_cases y : c > h
        · rw [if_pos y] at kk
          rw [show (decide (c > h)) = true from decide_eq_true y]
          exact iteT (kk _ _ s' rfl)
        · rw [if_neg y] at kk
          rw [show (decide (c > h)) = false from decide_eq_false y]
          refine iteF ⟨_, rfl, tt, _, rfl, SqT.of ht, rfl, _, _, rfl, _, _, rfl, rfl, ?_⟩
          exact ⟨_, rfl, x, C, dx1, _, _, rfl, hx1, T.cl, T.n2, gl2 r g, _, rfl, _, rfl, _, rfl, _, _, rfl, rfl, _, rfl, x, C, dx1, _, _, rfl, hx1, T.cl, T.n3, gl3 r g, _, rfl, _, _, rfl, rfl, (by show 4 ≤ sizeLine; decide), fun z hz => kk _ _ (s'.trans (same_new hz)) ⟨z, rfl, upd_same⟩⟩
end
end Ev
namespace Ev
open PySem L2 PySem.Spec PyProof.Rows RZ
section
variable {P : Program} {w : World} {K : PySem.W.Frag} {mg : Str → Option Value} {base : Heap}
theorem scFirstOf : FnScope ["self", "onces", "twices", "ends", "once", "low", "high", "twice", "numbers"] ["self", "onces", "twices", "ends"] (defScope sGrip_first_of) := ⟨rfl, rfl, rfl, by decide +kernel, rfl, by decide +kernel, by decide +kernel⟩
theorem first_drop {g : Gp} {ts : List (Option Bk)} {l h : Int} {os : List (Option Bk)} {i : Nat} {o : Option Bk} (e : os[i]? = some o) : g.first ts l h (os.drop i) = (if (g.ends o l h).1 ≤ (g.ends o l h).2 then
      match g.second o (g.ends o l h).1 (g.ends o l h).2 ts with
      | some r => some r
      | none => g.first ts l h (os.drop (i + 1))
    else g.first ts l h (os.drop (i + 1))) := by
  obtain ⟨hi, e⟩ := List.getElem?_eq_some_iff.mp e
  rw [List.drop_eq_getElem_cons hi, e]
  rfl
theorem second_drop {g : Gp} {l h : Int} {o : Option Bk} {ts : List (Option Bk)} {i : Nat} {t : Option Bk} (e : ts[i]? = some t) : g.second o l h (ts.drop i) = (match g.nums t l h with
    | some ns => some (o, t, ns)
    | none => g.second o l h (ts.drop (i + 1))) := by
  obtain ⟨hi, e⟩ := List.getElem?_eq_some_iff.mp e
  rw [List.drop_eq_getElem_cons hi, e]
  rfl
theorem BksV.at {K : PySem.W.Frag} {H : Hp} {l : Addr} {os : List (Option Bk)} (h : BksV K H l os) : ∃ vs : List V, SqT K H l vs ∧ vs.length = os.length ∧ ∀ (i : Nat) (v : V), vs[i]? = some v → ∃ o, os[i]? = some o ∧ BkV K H v o := by
  obtain ⟨vs, h1, h2, h3⟩ := h
  refine ⟨vs, h1, h2, fun i v e => ?_⟩
  have hi := (List.getElem?_eq_some_iff.mp e).1
  have hi' : i < os.length := by omega
  obtain ⟨v', e1, e2⟩ := h3 i _ (List.getElem?_eq_getElem hi')
  rw [e] at e1
  obtain rfl := Option.some.inj e1
  exact ⟨_, List.getElem?_eq_getElem hi', e2⟩
theorem ok_firstOf {f C Ct Cn : Addr} {fd : FuncData} (F : Fun K "first_of" "Grip.first_of" sGrip_first_of f fd) (T : GC K C) (M1 : Mt P w K mg base C "once_ends" 1 ["self", "once", "ends"] (spOnceE K C Ct Cn)) (M2 : Mt P w K mg base C "numbers_of" 4 ["self", "twice", "low", "high"] (spNumsO K C Ct Cn)) :
    FnOk P w K mg base CX0 5 f fd ["self", "onces", "twices", "ends"] (spFirstOf K C Ct Cn) := by
  obtain ⟨f1, fd1, m1, G1, b1⟩ := M1
  obtain ⟨f2, fd2, m2, G2, b2⟩ := M2
  refine F.ok scFirstOf (fun vs H Q E h => ?_) (fun cdv A outer s H vs Q E hr h => ?_)
  · obtain ⟨x, r, row, g, a, b, u, os, ts, l, h, rfl, _⟩ := h
    rfl
  · obtain ⟨x, r, row, g, a, b, u, os, ts, l, h, rfl, ga, ha, hb, hu, kk⟩ := h
    refine ⟨_, (pss_cons (ps_for PassesOwn.never rfl (pi_tup (pv 1)) (pg_name (i := 4) scFirstOf.nd rfl (.inl rfl))
      (pss_cons (ps_asg (pe_meth (pv 0) T.cl m1 G1 (hr.mono (by decide)) b1 .nil pass0 (pa_cons (pv 4) (pa_cons (pv 3) pa_nil))) (pg_tup (by rfl) (pgs_cons (pg_name (i := 5) scFirstOf.nd rfl (.inl rfl)) (pgs_cons (pg_name (i := 6) scFirstOf.nd rfl (.inl rfl)) pgs_nil))))
      (pss_one (ps_if (pt_cmpR op_le (pv 5) (pv 6) (nomark _))
        (pss_one (ps_for PassesOwn.never rfl (pi_tup (pv 2)) (pg_name (i := 7) scFirstOf.nd rfl (.inl rfl))
          (pss_cons (ps_set (i := 8) scFirstOf.nd rfl (.inl rfl) (pe_meth (pv 0) T.cl m2 G2 hr b2 .nil pass0 (pa_cons (pv 7) (pa_cons (pv 5) (pa_cons (pv 6) pa_nil)))))
          (pss_one (ps_if (pt_cmpR op_notN (pv 8) pe_non (nomark _))
            (pss_one (ps_ret (pe_tup (pa_cons (pv 4) (pa_cons (pv 7) (pa_cons (pv 8) pa_nil)))))) pss_nil))))) pss_nil))))
    (pss_one (ps_ret pe_non))), ?_⟩
    have no1 : ∀ m : Str, m = "once_ends" ∨ m = "numbers_of" → (gripF r g).lookup m = none := fun m hm => by
      rcases hm with rfl | rfl <;> exact gl0 r g ⟨by decide +kernel, by decide +kernel, by decide +kernel, by decide +kernel, by decide +kernel, by decide +kernel⟩
    obtain ⟨xs, sa, la, ia⟩ := ha.at
    refine ⟨_, rfl, a, rfl, ⟨_, sa⟩, ?_⟩
    refine for_tup (xs := xs) (fun i σ G => Same H G ∧ g.first ts l h os = g.first ts l h (os.drop i) ∧ ∃ v4 v5 v6 v7 v8, σ = [some (.ref x), some (.ref a), some (.ref b), some u, v4, v5, v6, v7, v8]) ⟨Same.refl _, rfl, _, _, _, _, _, rfl⟩ (fun i σ G _ h => SqT.keep sa h.1) (fun i v σ G hi hp => ?_) (fun σ G hp => ?_)
    · obtain ⟨s1, e1, v4, v5, v6, v7, v8, rfl⟩ := hp
      obtain ⟨o, ho, hv⟩ := ia i v hi
      have ga1 := ga.keep s1
      have hv1 := hv.keep s1
      obtain ⟨⟨dx, hx⟩, ob, R⟩ := ga1
      refine ⟨_, rfl, x, dx, _, rfl, hx, no1 _ (.inl rfl), _, rfl, _, rfl, x, r, row, g, v, u, o, l, h, rfl, ⟨⟨dx, hx⟩, ob, R⟩, hv1, hu.keep s1, fun w' G2 s2 hw => ?_⟩
      obtain ⟨tt, rfl, ht⟩ := hw
      refine ⟨tt, _, rfl, SqT.of ht, rfl, _, _, rfl, _, _, rfl, rfl, ?_⟩
      have s12 := s1.trans s2
      refine ⟨_, rfl, _, rfl, _, _, rfl, rfl, _, rfl, ?_⟩
      show (if decide ((g.ends o l h).1 ≤ (g.ends o l h).2) = true then _ else _)
      have fd := first_drop (g := g) (ts := ts) (l := l) (h := h) ho
      by_cases c : (g.ends o l h).1 ≤ (g.ends o l h).2
      · rw [if_pos (decide_eq_true c)]
        rw [if_pos c] at fd
        generalize (g.ends o l h).1 = l' at fd ⊢
        generalize (g.ends o l h).2 = h' at fd ⊢
        obtain ⟨ys, sb, lb, ib⟩ := (hb.keep s12).at
        refine ⟨_, rfl, b, rfl, ⟨_, sb⟩, ?_⟩
        refine for_tup (xs := ys) (fun j σ G => Same G2 G ∧ g.second o l' h' ts = g.second o l' h' (ts.drop j) ∧ ∃ v7 v8, σ = [some (.ref x), some (.ref a), some (.ref b), some u, some v, some (.int l'), some (.int h'), v7, v8]) ⟨Same.refl _, rfl, _, _, rfl⟩ (fun j σ G _ h => SqT.keep sb h.1) (fun j y σ G3 hj hp => ?_) (fun σ G3 hp => ?_)
        · obtain ⟨s3, e3, v7, v8, rfl⟩ := hp
          obtain ⟨t, ht', hy⟩ := ib j y hj
          have s13 := s12.trans s3
          obtain ⟨⟨dx, hx⟩, ob, R⟩ := ga.keep s13
          refine ⟨_, rfl, x, dx, _, rfl, hx, no1 _ (.inr rfl), _, rfl, _, rfl, _, rfl, x, r, row, g, y, t, l', h', rfl, ⟨⟨dx, hx⟩, ob, R⟩, hy.keep s3, fun v' G4 s4 hn => ?_⟩
          have sd := second_drop (g := g) (o := o) (l := l') (h := h') ht'
          refine ⟨_, rfl, rfl, _, rfl, ?_⟩
          rw [hn.isN]
          cases en : g.nums t l' h' with
          | none =>
            rw [en] at sd
            refine iteF ⟨s3.trans s4, e3.trans sd, _, _, rfl⟩
          | some ns =>
            rw [en] at sd hn
            obtain ⟨q, rfl, hq⟩ := hn
            refine iteT ⟨_, rfl, _, rfl, _, rfl, (by show 3 ≤ sizeLine; decide), fun z hz => ?_⟩
            refine kk _ _ ((s13.trans s4).trans (same_new hz)) ?_
            rw [e1, fd, e3, sd]
            exact ⟨z, q, v, y, rfl, upd_same, ((hv1.keep s2).keep (s3.trans s4)).keep (same_new hz), ((hy.keep s3).keep s4).keep (same_new hz), same_new hz _ _ hq⟩
        · obtain ⟨s3, e3, v7, v8, rfl⟩ := hp
          rw [lb, List.drop_length] at e3
          rw [show g.second o l' h' [] = none from rfl] at e3
          rw [e3] at fd
          exact ⟨s12.trans s3, e1.trans fd, _, _, _, _, _, rfl⟩
      · rw [if_neg (fun y => c (of_decide_eq_true y))]
        rw [if_neg c] at fd
        exact ⟨s12, e1.trans fd, _, _, _, _, _, rfl⟩
    · obtain ⟨s1, e1, v4, v5, v6, v7, v8, rfl⟩ := hp
      rw [la, List.drop_length] at e1
      refine kk _ _ s1 ?_
      rw [e1]
      rfl
theorem scFirstB : FnScope ["self", "least", "found"] ["self"] (defScope sGrip_first_break) := ⟨rfl, rfl, rfl, by decide +kernel, rfl, by decide +kernel, by decide +kernel⟩
theorem ok_firstB {f C Ct Cn CW SK ON TW : Addr} {fd : FuncData} (F : Fun K "first_break" "Grip.first_break" sGrip_first_break f fd) (T : GC K C) (Bl : Blt mg) (B : KB K mg SK ON TW) (gN : mg "TurnRule" = some (.ref Cn)) (MT : RK K Ct CW) (MN : RK K Cn CW) (ik : InsK K) (no : PySem.W.kitOne K (.ref Ct) (.ref Cn) = some false) (yes : PySem.W.kitOne K (.ref Cn) (.ref Cn) = some true)
    (M : Mt P w K mg base C "first_of" 5 ["self", "onces", "twices", "ends"] (spFirstOf K C Ct Cn)) (D1 : Df P w K mg base 1 "least_part" ["rule", "weight"] (spPart K)) (D2 : Df P w K mg base 2 "turn_ends" ["rule", "heavy", "turns"] (spTurnE K Cn)) :
    FnOk P w K mg base CX0 6 f fd ["self"] (spFirstB K C Ct Cn) := by
  obtain ⟨f1, fd1, G1, g1, k1, b1⟩ := D1.ex
  obtain ⟨f2, fd2, G2, g2, k2, b2⟩ := D2.ex
  obtain ⟨fm, fdm, mm, Gm, bm⟩ := M
  refine F.ok scFirstB (fun vs H Q E h => ?_) (fun cdv A outer s H vs Q E hr h => ?_)
  · obtain ⟨x, r, row, g, rfl, _⟩ := h
    rfl
  · obtain ⟨x, r, row, g, rfl, ga, ok, kk⟩ := h
    refine ⟨_, (pss_cons (ps_if (pt_not (pt_val (pe_callB call_isi (by rfl) Bl.isi (by decide +kernel) (pa_cons (pe_fld (pv 0) rfl) (pa_cons (pe_glob (v := .ref Cn) rfl gN rfl) pa_nil)))))
      (pss_cons (ps_set (i := 1) scFirstB.nd rfl (.inl rfl) (pe_call G1 (hr.mono (by decide)) (by rfl) g1 k1 b1 .nil pass0 (pa_cons (pe_fld (pv 0) rfl) (pa_cons (pe_fld (pv 0) rfl) pa_nil))))
      (pss_one (ps_ret (pe_meth (pv 0) T.cl mm Gm hr bm .nil pass0 (pa_cons (pe_glob (v := .ref ON) rfl B.gO rfl) (pa_cons (pe_glob (v := .ref TW) rfl B.gT rfl) (pa_cons (pe_tup (pa_cons (pv 1) (pa_cons (pe_op op_sub (pe_fld (pv 0) rfl) (pv 1)) pa_nil))) pa_nil))))))) pss_nil)
    (pss_cons (ps_set (i := 2) scFirstB.nd rfl (.inl rfl) (pe_meth (pv 0) T.cl mm Gm hr bm .nil pass0 (pa_cons (pe_glob (v := .ref ON) rfl B.gO rfl) (pa_cons (pe_tup (pa_cons pe_non pa_nil)) (pa_cons (pe_call G2 (hr.mono (by decide)) (by rfl) g2 k2 b2 .nil pass0 (pa_cons (pe_fld (pv 0) rfl) (pa_cons (pe_fld (pv 0) rfl) (pa_cons pe_int pa_nil)))) pa_nil)))))
    (pss_one (ps_ret (pe_ifExp (pt_cmpR op_notN (pv 2) pe_non (nomark _)) (pv 2) (pe_meth (pv 0) T.cl mm Gm hr bm .nil pass0 (pa_cons (pe_tup (pa_cons pe_non pa_nil)) (pa_cons (pe_glob (v := .ref TW) rfl B.gT rfl) (pa_cons (pe_call G2 (hr.mono (by decide)) (by rfl) g2 k2 b2 .nil pass0 (pa_cons (pe_fld (pv 0) rfl) (pa_cons (pe_fld (pv 0) rfl) (pa_cons pe_int pa_nil)))) pa_nil))))))))), ?_⟩
    have no1 : (gripF r g).lookup ("first_of" : Str) = none := gl0 r g ⟨by decide +kernel, by decide +kernel, by decide +kernel, by decide +kernel, by decide +kernel, by decide +kernel⟩
    have oneN : ∀ (H' : Hp) (u : Addr), BksV K (upd H' u (.tup [.non])) u [none] := fun H' u => ⟨[.non], SqT.of upd_same, rfl, fun i o e => by
      cases i with
      | zero => exact ⟨.non, rfl, by obtain rfl := Option.some.inj e; rfl⟩
      | succ i => cases e⟩
    have ga0 := ga
    obtain ⟨⟨dx, hx⟩, ob, R⟩ := ga
    cases row with
    | tr p q k =>
      obtain ⟨d1, a1, h1, h2⟩ := id ob
      refine ⟨_, rfl, x, C, dx, _, _, rfl, hx, T.cl, T.n1, gl1 r g, _, _, _, _, false, rfl, .own Cn, .base (.ins h1 MT.cl.cl MT.ha ik.hn ik.htk MT.hm), no, false, rfl, iteT ?_⟩
      refine ⟨_, rfl, x, C, dx, _, _, rfl, hx, T.cl, T.n1, gl1 r g, _, rfl, x, C, dx, _, _, rfl, hx, T.cl, T.n3, gl3 r g, r, g.p, g.q, g.k, g.b, rfl, R, ?_⟩
      refine ⟨_, rfl, x, dx, _, rfl, hx, no1, _, rfl, _, rfl, x, C, dx, _, _, rfl, hx, T.cl, T.n3, gl3 r g, _, rfl, _, _, rfl, rfl, (by show 2 ≤ sizeLine; decide), fun t ht => ?_⟩
      have s1 := same_new (o := .tup [.int (partV g.p g.q g.k g.b), .int (g.b - partV g.p g.q g.k g.b)]) ht
      refine ⟨x, r, _, g, ON, TW, _, onces, twices, g.part g.b, g.b - g.part g.b, rfl, ga0.keep s1, B.hO _, B.hT _, ⟨t, rfl, upd_same⟩, fun v' H' s' fv => ?_⟩
      exact kk v' H' (s1.trans s') fv
    | tn p q k t s' r' =>
      obtain ⟨d1, a1, a2, h1, h2, h3⟩ := id ob
      obtain ⟨_, ot⟩ := id ok
      refine ⟨_, rfl, x, C, dx, _, _, rfl, hx, T.cl, T.n1, gl1 r g, _, _, _, _, true, rfl, .own Cn, .base (.ins h1 MN.cl.cl MN.ha ik.hn ik.htk MN.hm), yes, true, rfl, iteF ?_⟩
      refine ⟨_, rfl, x, dx, _, rfl, hx, no1, (by show 1 ≤ sizeLine; decide), fun u hu => ?_⟩
      have s1 := same_new (o := .tup [.non]) hu
      have ou := oneN H u
      have hx1 := s1 _ _ hx
      have R1 := R.keep s1
      have h11 := s1 _ _ h1
      have h31 := s1 _ _ h3
      generalize upd H u (.tup [.non]) = H1 at s1 ou hx1 R1 h11 h31 ⊢
      refine ⟨_, rfl, x, C, dx, _, _, rfl, hx1, T.cl, T.n1, gl1 r g, _, rfl, x, C, dx, _, _, rfl, hx1, T.cl, T.n3, gl3 r g, r, g.p, g.q, g.k, t, s', r', g.b, 1, k, d1, a1, a2, rfl, R1, h11, h31, ot.1, ot.2.1, .inl rfl, fun v2 H2 s2 pv2 => ?_⟩
      have s12 := s1.trans s2
      rw [if_pos rfl, if_pos rfl] at pv2
      refine ⟨x, r, _, g, ON, u, v2, onces, [none], g.part g.b, _, rfl, ga0.keep s12, B.hO _, ou.keep s2, pv2, fun v3 H3 s3 fv => ?_⟩
      have s13 := s12.trans s3
      refine ⟨_, rfl, rfl, _, rfl, ?_⟩
      cases ef : g.first [none] (g.part g.b) (if g.b - partV g.p g.q g.k g.b < mostV t s' r' g.b then g.b - partV g.p g.q g.k g.b else mostV t s' r' g.b) onces with
      | some res =>
        rw [ef] at fv
        have fv0 := fv
        obtain ⟨o, tt, ns⟩ := res
        obtain ⟨za, zb, z1, z2, rfl, _⟩ := fv
        rw [decide_eq_false (by intro z; cases z)]
        refine iteT ⟨_, rfl, kk _ _ s13 ?_⟩
        have : (Row.tn p q k t s' r').brk g = some (o, tt, ns) := by
          show (match g.first [none] (g.part g.b) (if g.b - g.part g.b < mostV t s' r' g.b then g.b - g.part g.b else mostV t s' r' g.b) onces with
            | some x => some x
            | none => _) = _
          rw [show g.first [none] (g.part g.b) (if g.b - g.part g.b < mostV t s' r' g.b then g.b - g.part g.b else mostV t s' r' g.b) onces = some (o, tt, ns) from ef]
        rw [this]
        exact fv0
      | none =>
        rw [ef] at fv
        rw [show v3 = .non from fv]
        refine iteF ?_
        have hx3 := s13 _ _ hx
        refine ⟨_, rfl, x, dx, _, rfl, hx3, no1, (by show 1 ≤ sizeLine; decide), fun u4 hu4 => ?_⟩
        have s34 := same_new (o := .tup [.non]) hu4
        have s4 := s13.trans s34
        have ou4 := oneN H3 u4
        have hx4 := s4 _ _ hx
        have R4 := R.keep s4
        have h14 := s4 _ _ h1
        have h34 := s4 _ _ h3
        generalize upd H3 u4 (.tup [.non]) = H4 at s4 ou4 hx4 R4 h14 h34 ⊢
        refine ⟨_, rfl, x, C, dx, _, _, rfl, hx4, T.cl, T.n1, gl1 r g, _, rfl, x, C, dx, _, _, rfl, hx4, T.cl, T.n3, gl3 r g, r, g.p, g.q, g.k, t, s', r', g.b, 2, k, d1, a1, a2, rfl, R4, h14, h34, ot.1, ot.2.1, .inr rfl, fun v5 H5 s5 pv5 => ?_⟩
        have s15 := s4.trans s5
        rw [if_neg (show ¬ ((2 : Int) = 1) by decide), if_neg (show ¬ ((2 : Int) = 1) by decide)] at pv5
        refine ⟨x, r, _, g, u4, TW, v5, [none], twices, _, _, rfl, ga0.keep s15, ou4.keep s5, B.hT _, pv5, fun v6 H6 s6 fv6 => ?_⟩
        refine kk _ _ (s15.trans s6) ?_
        have : (Row.tn p q k t s' r').brk g = g.first twices (if partV g.p g.q g.k g.b > mostV t s' r' g.b then partV g.p g.q g.k g.b else mostV t s' r' g.b + 1) (g.b - partV g.p g.q g.k g.b) [none] := by
          show (match g.first [none] (g.part g.b) (if g.b - g.part g.b < mostV t s' r' g.b then g.b - g.part g.b else mostV t s' r' g.b) onces with
            | some x => some x
            | none => _) = _
          rw [show g.first [none] (g.part g.b) (if g.b - g.part g.b < mostV t s' r' g.b then g.b - g.part g.b else mostV t s' r' g.b) onces = none from ef]
          rfl
        rw [this]
        exact fv6
end
end Ev
namespace Ev
open PySem L2 PySem.Spec PyProof.Rows RZ
theorem SqT.but {K : PySem.W.Frag} {H H' : Hp} {a x : Addr} {xs : List V} {C dx : Addr} {fs : List (Str × V)} (h : SqT K H a xs) (hx : H x = some (.ins C dx fs)) (s : But x H H') : SqT K H' a xs := by
  rcases h with (h | ⟨o, h⟩) | h
  · exact .inl (.inl (s _ _ (ne_of h hx (by intro z; cases z)) h))
  · exact .inl (.inr ⟨o, s _ _ (ne_of h hx (by intro z; cases z)) h⟩)
  · exact .inr h
theorem PL.but {K : PySem.W.Frag} {H H' : Hp} {v : V} {x C dx : Addr} {fs : List (Str × V)} (h : PL K H v) (hx : H x = some (.ins C dx fs)) (s : But x H H') : PL K H' v := by
  rcases h with h | ⟨a, xs, e, h, f⟩
  · exact .inl h
  · exact .inr ⟨a, xs, e, SqT.but h hx s, f⟩
structure WC (K : PySem.W.Frag) (C : Addr) : Prop where
  cl : Cls K C
  n1 : NoAttr K C "deed"
  n2 : NoAttr K C "once"
  n3 : NoAttr K C "twice"
  n4 : NoAttr K C "numbers"
def wrongF (a b c d : V) : List (Str × V) := [("deed", a), ("once", b), ("twice", c), ("numbers", d)]
def caseF (a b c : V) : List (Str × V) := [("deed", a), ("once", b), ("twice", c)]
section
variable (a b c d : V)
theorem wl1 : (wrongF a b c d).lookup ("deed" : Str) = some a := lk_hit
theorem wl2 : (wrongF a b c d).lookup ("once" : Str) = some b := (lk_miss (by decide +kernel)).trans lk_hit
theorem wl3 : (wrongF a b c d).lookup ("twice" : Str) = some c := (lk_miss (by decide +kernel)).trans ((lk_miss (by decide +kernel)).trans lk_hit)
theorem wl4 : (wrongF a b c d).lookup ("numbers" : Str) = some d := (lk_miss (by decide +kernel)).trans ((lk_miss (by decide +kernel)).trans ((lk_miss (by decide +kernel)).trans lk_hit))
theorem cl1 : (caseF a b c).lookup ("deed" : Str) = some a := lk_hit
theorem cl2 : (caseF a b c).lookup ("once" : Str) = some b := (lk_miss (by decide +kernel)).trans lk_hit
theorem cl3 : (caseF a b c).lookup ("twice" : Str) = some c := (lk_miss (by decide +kernel)).trans ((lk_miss (by decide +kernel)).trans lk_hit)
end
theorem wp1 {a : V} : putF "deed" a [] = ([("deed", a)] : List (Str × V)) := rfl
theorem wp2 {a b : V} : putF "once" b [("deed", a)] = ([("deed", a), ("once", b)] : List (Str × V)) := put_new (by intro e0 he; simp only [List.mem_cons, List.not_mem_nil, or_false] at he; subst he; dsimp only; decide +kernel)
theorem wp3 {a b c : V} : putF "twice" c [("deed", a), ("once", b)] = ([("deed", a), ("once", b), ("twice", c)] : List (Str × V)) := put_new (by intro e0 he; simp only [List.mem_cons, List.not_mem_nil, or_false] at he; rcases he with he | he <;> subst he <;> dsimp only <;> decide +kernel)
theorem wp4 {a b c d : V} : putF "numbers" d [("deed", a), ("once", b), ("twice", c)] = ([("deed", a), ("once", b), ("twice", c), ("numbers", d)] : List (Str × V)) := put_new (by intro e0 he; simp only [List.mem_cons, List.not_mem_nil, or_false] at he; rcases he with he | he | he <;> subst he <;> dsimp only <;> decide +kernel)
def spWrongI (K : PySem.W.Frag) (C : Addr) : Sp := fun vs H Q _ => ∃ (x dx : Addr) (a b c d : V), vs = [.ref x, a, b, c, d] ∧ H x = some (.ins C dx []) ∧ PL K H a ∧ PL K H b ∧ PL K H c ∧ PL K H d ∧ ∀ H', But x H H' → H' x = some (.ins C dx (wrongF a b c d)) → Q .non H'
def spCaseI (K : PySem.W.Frag) (C : Addr) : Sp := fun vs H Q _ => ∃ (x dx : Addr) (a b c : V), vs = [.ref x, a, b, c] ∧ H x = some (.ins C dx []) ∧ PL K H a ∧ PL K H b ∧ PL K H c ∧ ∀ H', But x H H' → H' x = some (.ins C dx (caseF a b c)) → Q .non H'
/-- what breaks tells -/
def WrV (K : PySem.W.Frag) (W : Addr) (H : Hp) (v : V) (put : Bool) : Option (Option Bk × Option Bk × List Int) → Prop
  | none => v = .non
  | some (o, t, ns) => ∃ (x dx b : Addr) (v1 v2 : V), v = .ref x ∧ H x = some (.ins W dx (wrongF (.str (deedS put)) v1 v2 (.ref b))) ∧ BkV K H v1 o ∧ BkV K H v2 t ∧ H b = some (.tup (ns.map V.int))
theorem WrV.keep {K : PySem.W.Frag} {W : Addr} {H H' : Hp} {v : V} {put : Bool} {o : Option (Option Bk × Option Bk × List Int)} (h : WrV K W H v put o) (s : Same H H') : WrV K W H' v put o := by
  cases o with
  | none => exact h
  | some o =>
    obtain ⟨o, t, ns⟩ := o
    obtain ⟨x, dx, b, v1, v2, e, h1, h2, h3, h4⟩ := h
    exact ⟨x, dx, b, v1, v2, e, s _ _ h1, h2.keep s, h3.keep s, s _ _ h4⟩
def Row.told (row : Row) (put : Bool) (a b : Int) : Option (Option Bk × Option Bk × List Int) :=
  if topV row.p row.q row.k a ≤ b ∧ b ≤ heavyHi row.p row.q row.k a put then row.brk ⟨row.p, row.q, row.k, a, b⟩ else none
def spBreaks (K : PySem.W.Frag) (W Ct Cn : Addr) : Sp := fun vs H Q _ => ∃ (r : Addr) (row : Row) (put : Bool) (a b : Int), vs = [.ref r, .str (deedS put), .int a, .int b] ∧ ObjAt Ct Cn H r row ∧ row.ok ∧ (1 ≤ a ∧ a ≤ 1000) ∧ (1 ≤ b ∧ b ≤ 100000) ∧
  ∀ v H', Same H H' → WrV K W H' v put (row.told put a b) → Q v H'
def spIsDeed : Sp := fun vs H Q _ => ∃ put : Bool, vs = [.str (deedS put)] ∧ Q (.bl true) H
section
variable {P : Program} {w : World} {K : PySem.W.Frag} {mg : Str → Option Value} {base : Heap}
theorem scWrongI : FnScope ["self", "deed", "once", "twice", "numbers"] ["self", "deed", "once", "twice", "numbers"] (defScope sWrong_init) := ⟨rfl, rfl, rfl, by decide +kernel, rfl, by decide +kernel, by decide +kernel⟩
theorem ok_wrongI {f C : Addr} {fd : FuncData} (F : Fun K "__init__" "Wrong.__init__" sWrong_init f fd) (T : WC K C) (D : Df P w K mg base 2 "kept" ["value"] (spKeptT K)) : FnOk P w K mg base CX0 3 f fd ["self", "deed", "once", "twice", "numbers"] (spWrongI K C) := by
  obtain ⟨f1, fd1, G1, g1, k1, b1⟩ := D.ex
  refine F.ok scWrongI (fun vs H Q E h => ?_) (fun cdv A outer s H vs Q E hr h => ?_)
  · obtain ⟨x, dx, a, b, c, d, rfl, _⟩ := h
    rfl
  · obtain ⟨x, dx, a, b, c, d, rfl, hx, pa, pb, pc, pd, kk⟩ := h
    refine ⟨_, (pss_cons (ps_fld (pv 0) (pe_call G1 hr (by rfl) g1 k1 b1 .nil pass0 (pa_cons (pv 1) pa_nil)) rfl)
    (pss_cons (ps_fld (pv 0) (pe_call G1 hr (by rfl) g1 k1 b1 .nil pass0 (pa_cons (pv 2) pa_nil)) rfl)
    (pss_cons (ps_fld (pv 0) (pe_call G1 hr (by rfl) g1 k1 b1 .nil pass0 (pa_cons (pv 3) pa_nil)) rfl)
    (pss_one (ps_fld (pv 0) (pe_call G1 hr (by rfl) g1 k1 b1 .nil pass0 (pa_cons (pv 4) pa_nil)) rfl))))), ?_⟩
    refine ⟨_, rfl, a, rfl, pa, fun H1 s1 => ⟨_, rfl, x, C, dx, _, rfl, s1 _ _ hx, T.cl, T.n1, (by show 0 < 1000; decide), ?_⟩⟩
    rw [wp1]
    have x1 : upd H1 x (.ins C dx [("deed", a)]) x = some (.ins C dx [("deed", a)]) := upd_same
    have t1 : But x H (upd H1 x (.ins C dx [("deed", a)])) := (Same.but s1).trans But.upd_at
    generalize upd H1 x (.ins C dx [("deed", a)]) = G1 at x1 t1 ⊢
    refine ⟨_, rfl, b, rfl, pb.but hx t1, fun H2 s2 => ⟨_, rfl, x, C, dx, _, rfl, s2 _ _ x1, T.cl, T.n2, (by show 1 < 1000; decide), ?_⟩⟩
    rw [wp2]
    have x2 : upd H2 x (.ins C dx [("deed", a), ("once", b)]) x = some (.ins C dx [("deed", a), ("once", b)]) := upd_same
    have t2 : But x H (upd H2 x (.ins C dx [("deed", a), ("once", b)])) := t1.trans ((Same.but s2).trans But.upd_at)
    generalize upd H2 x (.ins C dx [("deed", a), ("once", b)]) = G2 at x2 t2 ⊢
    refine ⟨_, rfl, c, rfl, pc.but hx t2, fun H3 s3 => ⟨_, rfl, x, C, dx, _, rfl, s3 _ _ x2, T.cl, T.n3, (by show 2 < 1000; decide), ?_⟩⟩
    rw [wp3]
    have x3 : upd H3 x (.ins C dx [("deed", a), ("once", b), ("twice", c)]) x = some (.ins C dx [("deed", a), ("once", b), ("twice", c)]) := upd_same
    have t3 : But x H (upd H3 x (.ins C dx [("deed", a), ("once", b), ("twice", c)])) := t2.trans ((Same.but s3).trans But.upd_at)
    generalize upd H3 x (.ins C dx [("deed", a), ("once", b), ("twice", c)]) = G3 at x3 t3 ⊢
    refine ⟨_, rfl, d, rfl, pd.but hx t3, fun H4 s4 => ⟨_, rfl, x, C, dx, _, rfl, s4 _ _ x3, T.cl, T.n4, (by show 3 < 1000; decide), ?_⟩⟩
    rw [wp4]
    exact kk _ (t3.trans ((Same.but s4).trans But.upd_at)) upd_same
theorem scCaseI : FnScope ["self", "deed", "once", "twice"] ["self", "deed", "once", "twice"] (defScope sCase_init) := ⟨rfl, rfl, rfl, by decide +kernel, rfl, by decide +kernel, by decide +kernel⟩
structure CC (K : PySem.W.Frag) (C : Addr) : Prop where
  cl : Cls K C
  n1 : NoAttr K C "deed"
  n2 : NoAttr K C "once"
  n3 : NoAttr K C "twice"
theorem ok_caseI {f C : Addr} {fd : FuncData} (F : Fun K "__init__" "Case.__init__" sCase_init f fd) (T : CC K C) (D : Df P w K mg base 2 "kept" ["value"] (spKeptT K)) : FnOk P w K mg base CX0 3 f fd ["self", "deed", "once", "twice"] (spCaseI K C) := by
  obtain ⟨f1, fd1, G1, g1, k1, b1⟩ := D.ex
  refine F.ok scCaseI (fun vs H Q E h => ?_) (fun cdv A outer s H vs Q E hr h => ?_)
  · obtain ⟨x, dx, a, b, c, rfl, _⟩ := h
    rfl
  · obtain ⟨x, dx, a, b, c, rfl, hx, pa, pb, pc, kk⟩ := h
    refine ⟨_, (pss_cons (ps_fld (pv 0) (pe_call G1 hr (by rfl) g1 k1 b1 .nil pass0 (pa_cons (pv 1) pa_nil)) rfl)
    (pss_cons (ps_fld (pv 0) (pe_call G1 hr (by rfl) g1 k1 b1 .nil pass0 (pa_cons (pv 2) pa_nil)) rfl)
    (pss_one (ps_fld (pv 0) (pe_call G1 hr (by rfl) g1 k1 b1 .nil pass0 (pa_cons (pv 3) pa_nil)) rfl)))), ?_⟩
    refine ⟨_, rfl, a, rfl, pa, fun H1 s1 => ⟨_, rfl, x, C, dx, _, rfl, s1 _ _ hx, T.cl, T.n1, (by show 0 < 1000; decide), ?_⟩⟩
    rw [wp1]
    have x1 : upd H1 x (.ins C dx [("deed", a)]) x = some (.ins C dx [("deed", a)]) := upd_same
    have t1 : But x H (upd H1 x (.ins C dx [("deed", a)])) := (Same.but s1).trans But.upd_at
    generalize upd H1 x (.ins C dx [("deed", a)]) = G1 at x1 t1 ⊢
    refine ⟨_, rfl, b, rfl, pb.but hx t1, fun H2 s2 => ⟨_, rfl, x, C, dx, _, rfl, s2 _ _ x1, T.cl, T.n2, (by show 1 < 1000; decide), ?_⟩⟩
    rw [wp2]
    have x2 : upd H2 x (.ins C dx [("deed", a), ("once", b)]) x = some (.ins C dx [("deed", a), ("once", b)]) := upd_same
    have t2 : But x H (upd H2 x (.ins C dx [("deed", a), ("once", b)])) := t1.trans ((Same.but s2).trans But.upd_at)
    generalize upd H2 x (.ins C dx [("deed", a), ("once", b)]) = G2 at x2 t2 ⊢
    refine ⟨_, rfl, c, rfl, pc.but hx t2, fun H3 s3 => ⟨_, rfl, x, C, dx, _, rfl, s3 _ _ x2, T.cl, T.n3, (by show 2 < 1000; decide), ?_⟩⟩
    rw [wp3]
    exact kk _ (t2.trans ((Same.but s3).trans But.upd_at)) upd_same
theorem scIsDeed : FnScope ["value"] ["value"] (defScope sIsDeed) := ⟨rfl, rfl, rfl, by decide +kernel, rfl, by decide +kernel, by decide +kernel⟩
theorem ok_isDeed {f DE : Addr} {fd : FuncData} (F : Fun K "is_deed" "is_deed" sIsDeed f fd) (gD : mg "DEEDS" = some (.ref DE)) (hD : ∀ H, SqT K H DE [.str "put", .str "take"]) : FnOk P w K mg base CX0 1 f fd ["value"] spIsDeed := by
  refine F.ok scIsDeed (fun vs H Q E h => ?_) (fun cdv A outer s H vs Q E hr h => ?_)
  · obtain ⟨put, rfl, _⟩ := h
    rfl
  · obtain ⟨put, rfl, k⟩ := h
    refine ⟨_, (pss_one (ps_ret (pe_cmpR op_in_seq (pv 0) (pe_glob (v := .ref DE) rfl gD rfl) (by rfl)))), ?_⟩
    refine ⟨_, rfl, DE, _, rfl, .inr (hD H), rfl, rfl, ?_⟩
    cases put with
    | true =>
      rw [show (if false = true then !inV (.str (deedS true)) [.str "put", .str "take"] else inV (.str (deedS true)) [.str "put", .str "take"]) = true by decide +kernel]
      exact k
    | false =>
      rw [show (if false = true then !inV (.str (deedS false)) [.str "put", .str "take"] else inV (.str (deedS false)) [.str "put", .str "take"]) = true by decide +kernel]
      exact k
end
end Ev
namespace Ev
open PySem L2 PySem.Spec PyProof.Rows RZ
/-- a class whose things are made -/
def Mak (P : Program) (w : World) (K : PySem.W.Frag) (mg : Str → Option Value) (base : Heap) (C : Addr) (name : Str) (k : Nat) (ps : List Str) (sp : Sp) : Prop := mg name = some (.ref C) ∧ ∃ (f : Addr) (fd : FuncData), Mk K C f ∧ FnOk P w K mg base CX0 k f fd ps sp ∧ Binds K fd ps []
theorem FoV.isN {K : PySem.W.Frag} {H : Hp} {v : V} {o : Option (Option Bk × Option Bk × List Int)} (h : FoV K H v o) : decide (v = .non) = o.isNone := by
  cases o with
  | none => rw [show v = .non from h]; rfl
  | some b =>
    obtain ⟨o, t, ns⟩ := b
    obtain ⟨a, b, v1, v2, rfl, _⟩ := h
    rw [decide_eq_false (by intro z; cases z)]; rfl
theorem ObjAt.ins {Ct Cn : Addr} {H : Hp} {r : Addr} {row : Row} (h : ObjAt Ct Cn H r row) : ∃ C dx fs, H r = some (.ins C dx fs) := by
  cases row with
  | tr p q k =>
    obtain ⟨dx, a, h1, h2⟩ := h
    exact ⟨_, _, _, h1⟩
  | tn p q k t s c =>
    obtain ⟨dx, a, b, h1, h2, h3⟩ := h
    exact ⟨_, _, _, h1⟩
section
variable {P : Program} {w : World} {K : PySem.W.Frag} {mg : Str → Option Value} {base : Heap}
theorem scBreaks : FnScope ["rule", "deed", "light", "heavy", "weight", "least", "most", "found", "once", "twice", "numbers"] ["rule", "deed", "light", "heavy"] (defScope sBreaks) := ⟨rfl, rfl, rfl, by decide +kernel, rfl, by decide +kernel, by decide +kernel⟩
theorem ok_breaks {f C W Ct Cn : Addr} {fd : FuncData} (F : Fun K "breaks" "breaks" sBreaks f fd) (T : GC K C) (TW : WC K W) (RT : RCls K Ct) (RN : RCls K Cn) {t0 : Tok} (gA : mg "MOST_ASKED" = some (.int (10 ^ 12) t0))
    (MG : Mak P w K mg base C "Grip" 2 ["self", "rule", "light", "heavy"] (spGripI K C Ct Cn)) (MW : Mak P w K mg base W "Wrong" 3 ["self", "deed", "once", "twice", "numbers"] (spWrongI K W)) (MF : Mt P w K mg base C "first_break" 6 ["self"] (spFirstB K C Ct Cn))
    (D1 : Df P w K mg base 1 "need_rule" ["value"] (spNeedR Ct Cn)) (D2 : Df P w K mg base 1 "is_deed" ["value"] spIsDeed) (D3 : Df P w K mg base 2 "is_within" ["value", "least", "most"] spWithin) (D4 : Df P w K mg base 2 "heavy_ends" ["rule", "deed", "light"] (spHeavy K)) :
    FnOk P w K mg base CX0 7 f fd ["rule", "deed", "light", "heavy"] (spBreaks K W Ct Cn) := by
  obtain ⟨f1, fd1, G1, g1, k1, b1⟩ := D1.ex
  obtain ⟨f2, fd2, G2, g2, k2, b2⟩ := D2.ex
  obtain ⟨f3, fd3, G3, g3, k3, b3⟩ := D3.ex
  obtain ⟨f4, fd4, G4, g4, k4, b4⟩ := D4.ex
  obtain ⟨gG, fg, fdg, mG, GG, bG⟩ := MG
  obtain ⟨gW, fw, fdw, mW, GW, bW⟩ := MW
  obtain ⟨fm, fdm, mm, Gm, bm⟩ := MF
  refine F.ok scBreaks (fun vs H Q E h => ?_) (fun cdv A outer s H vs Q E hr h => ?_)
  · obtain ⟨r, row, put, a, b, rfl, _⟩ := h
    rfl
  · obtain ⟨r, row, put, a, b, rfl, ob, ok, ha, hb, kk⟩ := h
    refine ⟨_, (pss_cons (ps_expr (pe_call G1 (hr.mono (by decide)) (by rfl) g1 k1 b1 .nil pass0 (pa_cons (pv 0) pa_nil)))
    (pss_cons (ps_if (pt_not (pt_val (pe_call G2 (hr.mono (by decide)) (by rfl) g2 k2 b2 .nil pass0 (pa_cons (pv 1) pa_nil))))
      (pss_one ps_never) pss_nil)
    (pss_cons (ps_for PassesOwn.never rfl (pi_tup (pe_tup (pa_cons (pv 2) (pa_cons (pv 3) pa_nil)))) (pg_name (i := 4) scBreaks.nd rfl (.inl rfl))
      (pss_one (ps_if (pt_not (pt_val (pe_call G3 (hr.mono (by decide)) (by rfl) g3 k3 b3 .nil pass0 (pa_cons (pv 4) (pa_cons pe_int (pa_cons (pe_glob (v := .int (10 ^ 12)) rfl gA ⟨_, rfl⟩) pa_nil))))))
        (pss_one ps_never) pss_nil)))
    (pss_cons (ps_asg (pe_call G4 (hr.mono (by decide)) (by rfl) g4 k4 b4 .nil pass0 (pa_cons (pv 0) (pa_cons (pv 1) (pa_cons (pv 2) pa_nil)))) (pg_tup (by rfl) (pgs_cons (pg_name (i := 5) scBreaks.nd rfl (.inl rfl)) (pgs_cons (pg_name (i := 6) scBreaks.nd rfl (.inl rfl)) pgs_nil))))
    (pss_cons (ps_set (i := 7) scBreaks.nd rfl (.inl rfl) (pe_ifExp (pt_chain op_le op_le (pv 5) (pv 3) (pv 6)) (pe_meth0 (pe_make mG GG (hr.mono (by decide)) (by rfl) gG bG .nil pass0 (pa_cons (pv 0) (pa_cons (pv 2) (pa_cons (pv 3) pa_nil)))) T.cl mm Gm hr bm .nil pass0) pe_non))
    (pss_cons (ps_if (pt_cmpR op_isN (pv 7) pe_non (nomark _))
      (pss_one (ps_ret pe_non)) pss_nil)
    (pss_cons (ps_asg (pv 7) (pg_tup (by rfl) (pgs_cons (pg_name (i := 8) scBreaks.nd rfl (.inl rfl)) (pgs_cons (pg_name (i := 9) scBreaks.nd rfl (.inl rfl)) (pgs_cons (pg_name (i := 10) scBreaks.nd rfl (.inl rfl)) pgs_nil)))))
    (pss_one (ps_ret (pe_make mW GW (hr.mono (by decide)) (by rfl) gW bW .nil pass0 (pa_cons (pv 1) (pa_cons (pv 8) (pa_cons (pv 9) (pa_cons (pv 10) pa_nil)))))))))))))), ?_⟩
    refine ⟨_, rfl, r, row, rfl, ob, ?_⟩
    refine ⟨_, rfl, put, rfl, true, rfl, iteF ?_⟩
    refine ⟨_, rfl, _, rfl, (by show 2 ≤ sizeLine; decide), fun t ht => ?_⟩
    have st := same_new (o := .tup [.int a, .int b]) ht
    have hT : SqT K (upd H t (.tup [.int a, .int b])) t [.int a, .int b] := SqT.of upd_same
    generalize upd H t (.tup [.int a, .int b]) = H1 at st hT ⊢
    refine ⟨t, rfl, ⟨_, hT⟩, ?_⟩
    refine for_tup (xs := [.int a, .int b]) (fun i σ G => G = H1 ∧ ∃ v4, σ = [some (.ref r), some (.str (deedS put)), some (.int a), some (.int b), v4, none, none, none, none, none, none]) ⟨rfl, _, rfl⟩ (fun i σ G _ h => by rw [h.1]; exact hT) (fun i v σ G hi hp => ?_) (fun σ G hp => ?_)
    · obtain ⟨rfl, v4, rfl⟩ := hp
      obtain ⟨n, rfl, n1, n2⟩ : ∃ n : Int, v = .int n ∧ 1 ≤ n ∧ n ≤ 10 ^ 12 := by
        match i, hi with
        | 0, hi => exact ⟨a, (Option.some.inj hi).symm, ha.1, Int.le_trans ha.2 (by decide)⟩
        | 1, hi => exact ⟨b, (Option.some.inj hi).symm, hb.1, Int.le_trans hb.2 (by decide)⟩
        | _ + 2, hi => cases hi
      exact ⟨_, rfl, _, _, _, rfl, n1, n2, true, rfl, iteF ⟨rfl, _, rfl⟩⟩
    · obtain ⟨rfl, v4, rfl⟩ := hp
      have ob1 := ob.keep st
      have R1 := ob1.rb RT RN ok
      refine ⟨_, rfl, _, rfl, _, rfl, r, row.p, row.q, row.k, a, put, rfl, R1, fun v2 H2 s2 pv2 => ?_⟩
      obtain ⟨tt, rfl, htt⟩ := pv2
      refine ⟨tt, _, rfl, SqT.of htt, rfl, _, _, rfl, _, _, rfl, rfl, ?_⟩
      have s02 := st.trans s2
      refine ⟨_, rfl, _, rfl, _, _, rfl, rfl, _, rfl, ?_⟩
      show (if decide (topV row.p row.q row.k a ≤ b) = true then _ else _)
      by_cases c1 : topV row.p row.q row.k a ≤ b
      · rw [if_pos (decide_eq_true c1)]
        refine ⟨_, rfl, _, _, rfl, rfl, _, rfl, ?_⟩
        show (if decide (b ≤ heavyHi row.p row.q row.k a put) = true then _ else _)
        by_cases c2 : b ≤ heavyHi row.p row.q row.k a put
        · rw [if_pos (decide_eq_true c2)]
          have et : row.told put a b = row.brk ⟨row.p, row.q, row.k, a, b⟩ := if_pos ⟨c1, c2⟩
          rw [et] at kk
          refine ⟨_, rfl, _, rfl, _, rfl, fun x dx nx ndx nex => ?_⟩
          have keep : ∀ (o1 o2 : HO), Same H2 (upd (upd H2 dx o1) x o2) := fun o1 o2 b u e => by
            rw [upd_ne (ne_of_none e nx), upd_ne (ne_of_none e ndx)]; exact e
          have ob3 := (ob.keep s02).keep (keep (.own x) (.ins C dx []))
          obtain ⟨C', dx', fs, hro⟩ := (ob.keep s02).ins
          have xr : x ≠ r := fun z => by rw [z, hro] at nx; cases nx
          refine ⟨x, dx, r, row, ⟨row.p, row.q, row.k, a, b⟩, rfl, upd_same, xr, ob3, ob3.rb RT RN ok, fun H3 t3 hx3 => ⟨rfl, ?_⟩⟩
          obtain ⟨dx3, hx3⟩ := hx3
          have s23 : Same H2 H3 := fun b u e => t3 _ _ (ne_of_none e nx) (keep _ _ _ _ e)
          have s03 := s02.trans s23
          have ob4 := ob.keep s03
          refine ⟨x, dx3, _, rfl, hx3, gl0 r _ ⟨by decide +kernel, by decide +kernel, by decide +kernel, by decide +kernel, by decide +kernel, by decide +kernel⟩, x, r, row, ⟨row.p, row.q, row.k, a, b⟩, rfl, ⟨⟨dx3, hx3⟩, ob4, ob4.rb RT RN ok⟩, ok, fun v4 H4 s4 fv => ?_⟩
          have s04 := s03.trans s4
          refine ⟨_, rfl, rfl, _, rfl, ?_⟩
          rw [fv.isN]
          cases er : row.brk ⟨row.p, row.q, row.k, a, b⟩ with
          | none =>
            rw [er] at kk
            exact iteT (kk _ _ s04 rfl)
          | some res =>
            rw [er] at kk fv
            obtain ⟨o, t', ns⟩ := res
            obtain ⟨za, zb, z1, z2, rfl, hz, q1, q2, hzb⟩ := fv
            refine iteF ⟨_, rfl, za, _, rfl, SqT.of hz, rfl, _, _, rfl, _, _, rfl, _, _, rfl, rfl, ?_⟩
            refine ⟨_, rfl, _, rfl, _, rfl, _, rfl, fun y dy ny ndy ney => ?_⟩
            have keep2 : ∀ (o1 o2 : HO), Same H4 (upd (upd H4 dy o1) y o2) := fun o1 o2 b u e => by
              rw [upd_ne (ne_of_none e ny), upd_ne (ne_of_none e ndy)]; exact e
            have kp := keep2 (.own y) (.ins W dy [])
            refine ⟨y, dy, _, _, _, _, rfl, upd_same, .inl ⟨_, flat_str _⟩, (q1.keep kp).pl, (q2.keep kp).pl, .inr ⟨zb, _, rfl, SqT.of (kp _ _ hzb), fun u hu => ?_⟩, fun H5 t5 hy5 => ⟨rfl, ?_⟩⟩
            · obtain ⟨n, _, rfl⟩ := List.mem_map.mp hu
              exact ⟨_, flat_int n⟩
            · have s45 : Same H4 H5 := fun b u e => t5 _ _ (ne_of_none e ny) (kp _ _ e)
              exact kk _ _ (s04.trans s45) ⟨y, dy, zb, z1, z2, rfl, hy5, q1.keep s45, q2.keep s45, s45 _ _ hzb⟩
        · rw [if_neg (fun y => c2 (of_decide_eq_true y))]
          have et : row.told put a b = none := if_neg fun z => c2 z.2
          rw [et] at kk
          exact ⟨_, rfl, rfl, _, rfl, iteT (kk _ _ s02 rfl)⟩
      · rw [if_neg (fun y => c1 (of_decide_eq_true y))]
        have et : row.told put a b = none := if_neg fun z => c1 z.1
        rw [et] at kk
        exact ⟨_, rfl, _, rfl, rfl, _, rfl, iteT (kk _ _ s02 rfl)⟩
end
end Ev
namespace Ev
open PySem L2 PySem.Spec PyProof.Rows
/-! t[::-1] of a tuple -/
theorem fm_congr {α β : Type} {f g : α → Option β} : ∀ {l : List α}, (∀ a ∈ l, f a = g a) → l.filterMap f = l.filterMap g
  | [], _ => rfl
  | a :: r, h => by rw [List.filterMap_cons, List.filterMap_cons, h a (by simp), fm_congr fun b hb => h b (List.mem_cons_of_mem _ hb)]
theorem turn_pick (xs : Array Value) : ((List.range xs.size).filterMap fun (k : Nat) => xs[((xs.size : Int) - 1 + (k : Int) * -1).toNat]?).toArray = xs.toList.reverse.toArray := by
  congr 1
  rw [← PySem.W.krv_all xs, ← List.filterMap_reverse, ← PySem.W.krv_range, List.filterMap_map]
  refine fm_congr fun k hk => ?_
  have := List.mem_range.mp hk
  show xs[_]? = xs[xs.size - 1 - k]?
  rw [show ((xs.size : Int) - 1 + (k : Int) * -1).toNat = xs.size - 1 - k by omega]
theorem turn_at (n : Nat) : Builtin.Slice.sliceAdjust none none (-1) (n : Int) = ((n : Int) - 1, -1) := by
  unfold Builtin.Slice.sliceAdjust
  simp
theorem turn_many (n : Nat) : Builtin.Slice.slicePlaces ((n : Int) - 1) (-1) (-1) = n := by
  unfold Builtin.Slice.slicePlaces
  rw [if_neg (by decide)]
  split
  · rw [show -(-1 : Int) = 1 by decide, Int.ediv_one]; omega
  · omega
section
variable {prog : Program} {w : World} {A : Around} {E : Value → Shared → Prop} {s : Shared}
theorem turn_applied {sl : Addr} {vs : Value} {n : Nat} {Q : Int × Int × Nat → Shared → Prop} (hs : s.heap.IsSliceOf sl .none .none vs) (ps : IsPart vs (some (-1)))
    (h : Q ((n : Int) - 1, -1, n) s) : wpAny (model prog w) A (Builtin.Slice.sliceApplied (.ref sl) (pure (n : Int))) Q E s := by
  obtain ⟨os, hos, hcs, hds⟩ := id hs
  cases ps with
  | int i t =>
    unfold Builtin.Slice.sliceApplied Builtin.Slice.sliceFields
    refine wpAny_bind (wpAny_bind (wpAny_field hos hds (x := .none) rfl (wpAny_bind (wpAny_field hos hds (x := .none) rfl (wpAny_bind (wpAny_field hos hds (x := .int (-1) t) rfl (wpAny_pure ?_)))))))
    refine wpAny_bind (slicePart_int ?_)
    show wpAny _ _ (if ((-1 : Int) == 0) = true then _ else _) _ _ s
    rw [if_neg (by decide)]
    refine wpAny_bind (slicePart_none (wpAny_bind (slicePart_none (wpAny_bind (wpAny_pure ?_)))))
    show wpAny _ _ (match Builtin.Slice.sliceAdjust none none (-1) (n : Int) with | (lo, hi) => pure (lo, (-1 : Int), Builtin.Slice.slicePlaces lo hi (-1))) _ _ s
    rw [turn_at]
    show wpAny _ _ (pure ((n : Int) - 1, (-1 : Int), Builtin.Slice.slicePlaces ((n : Int) - 1) (-1) (-1))) _ _ s
    rw [turn_many]
    exact wpAny_pure h
theorem turn_item {t sl : Addr} {items : Array Value} {vs : Value} {Q : Value → Shared → Prop} (ht : IsTup s.heap t items) (hs : s.heap.IsSliceOf sl .none .none vs) (ps : IsPart vs (some (-1)))
    (h : Q (.ref s.heap.objs.size) { s with heap := s.heap.push { cls := .type "tuple", data := .seq items.toList.reverse.toArray } }) (hsz : items.size ≤ sizeLine) : wpAny (model prog w) A (getItem (.ref t) (.ref sl)) Q E s := by
  obtain ⟨os, hos, hcs, hds⟩ := id hs
  have hTs : s.TypeIs (.ref sl) "slice" := ⟨os, hos, hcs⟩
  have hok : sizeOk (.seq items.toList.reverse.toArray) := by
    show items.toList.reverse.toArray.size ≤ sizeLine
    simpa using hsz
  unfold getItem
  try with_reducible refine wpAny_holding ?_
  first | refine wpAny_bind (wpAny_pure ?_) | skip
  refine wpAny_bind (wpAny_sequenceKey ht.typeIs (by decide) ?_)
  refine wpAny_bind (wpAny_callSpecial?_slot (name := Str.ofString "__getitem__") ht.typeIs PyProof.Rows.slot_tuple_getitem
    (wpAny_call_entry PyProof.Rows.slot_tuple_getitem ht.typeIs entry_tuple_getitem ?_ (args_tuple_getitem _ _)))
  show wpAny _ _ (Builtin.Tuple.tupleItemsOf (.ref t) >>= _) _ _ s
  refine wpAny_bind (tupleItemsOf_ ht ?_)
  refine wpAny_bind (wpAny_typeOf hTs ?_)
  rw [if_pos (by decide)]
  refine wpAny_bind (turn_applied (n := items.size) hs ps ?_)
  show wpAny _ _ (if (((items.size : Int) - 1 == 0) && ((-1 : Int) == 1) && (items.size == items.size)) = true then _ else _) _ _ s
  rw [if_neg (by rw [show ((-1 : Int) == 1) = false from by decide]; simp), turn_pick]
  first
    | exact wpAny_bind (m := Builtin.Tuple.tupleExact _) (wpAny_newObj_type (wpAny_pure ⟨_, rfl, wpAny_pure h⟩) hok)
    | exact wpAny_bind (m := Builtin.Tuple.tupleExact _) (wpAny_newObj_type (wpAny_bind (wpAny_pure (wpAny_pure ⟨_, rfl, wpAny_pure h⟩))) hok)
    | exact wpAny_bind (wpAny_bind (m := Builtin.Tuple.tupleExact _) (wpAny_newObj_type (wpAny_pure (wpAny_pure ⟨_, rfl, wpAny_pure h⟩)) hok))
    | exact wpAny_bind (wpAny_bind (m := Builtin.Tuple.tupleExact _) (wpAny_newObj_type (wpAny_pure ⟨_, rfl, wpAny_pure h⟩) hok))
end
section
variable {X : Cx}
def tTurn (K : PySem.W.Frag) (te : TE) : TE := fun σ H Q => te σ H fun x H1 => ∃ a xs, x = .ref a ∧ SqT K H1 a xs ∧ ∀ p, H1 p = none → Q (.ref p) (upd H1 p (.tup xs.reverse))
theorem pe_turn {e : Expr} {te : TE} {k : Nat} {p1 p2 p3 pos : Pos} (he : PE X e te) : PE X (.Subscript e (.Slice none none (some (.UnaryOp .USub (.Constant (.int 1) k p1) p2)) p3) pos) (tTurn X.K te) := by
  refine ⟨fun pins s σ H Q I h => ?_⟩
  refine Subscript_ (thn (he.run pins s σ H _ I h) fun v s1 ⟨x, H1, I1, r1, q1⟩ => ?_)
  obtain ⟨a, xs, rfl, hx, q⟩ := q1
  cases r1
  have hst : PO X (some (.UnaryOp .USub (.Constant (.int 1) k p1) p2)) (tPart (tUn (rU fun i => .int (-i)) (tC (.int 1)))) := po_some (pe_un un_neg pe_int)
  refine wpAny_Slice (thn (po_none.run pins s1 σ H1 (fun o H2 => o = none ∧ H2 = H1) I1 ⟨rfl, rfl⟩) fun vl s2 ⟨l, H2, I2, pl, el, e2⟩ => ?_)
  subst el e2
  refine thn (po_none.run pins s2 σ H2 (fun o H3 => o = none ∧ H3 = H2) I2 ⟨rfl, rfl⟩) fun vu s3 ⟨u, H3, I3, pu, eu, e3⟩ => ?_
  subst eu e3
  refine thn (hst.run pins s3 σ H3 (fun o H4 => o = some (-1) ∧ H4 = H3) I3 ⟨1, rfl, -1, rfl, rfl, rfl⟩) fun vs s4 ⟨o, H4, I4, ps, eo, e4⟩ => ?_
  subst eo e4
  cases pl
  cases pu
  have I5 : Inv X pins σ H4 { s4 with heap := s4.heap.push { cls := .type "slice", data := .fields #[.none, .none, vs] } } := I4.kept (t' := s4.toks) fun b ob q => Heap.get?_push_of_some _ q
  obtain ⟨its, r, ht, hz⟩ := I5.tuple hx
  have hlen := r.length
  show wpAny (model X.prog X.w) X.A (subscriptTail e (.Slice none none (some (.UnaryOp .USub (.Constant (.int 1) k p1) p2)) p3) (.ref a) (.ref s4.heap.objs.size)) (EP X pins σ Q) X.xe { s4 with heap := s4.heap.push { cls := .type "slice", data := .fields #[.none, .none, vs] } }
  refine tail_any (ops := [.ref a, .ref s4.heap.objs.size]) ht.typeIs PyProof.Rows.slot_tuple_getitem.lookup ?_ (by with_unfolding_all rfl)
  refine turn_item ht (Heap.IsSliceOf.new _ .none .none vs) ps ?_ (by rw [List.size_toArray]; omega)
  refine ⟨.ref _, _, I5.laid (t' := s4.toks) (o := .tup xs.reverse) (fun b ob q => Heap.get?_push_of_some _ q) (Nat.le_refl _) ?_, rfl, q _ (I5.hok.fresh (Nat.le_refl _))⟩
  exact ⟨by rw [List.length_reverse]; exact hz, _, r.reverse, IsTup.new _ _⟩
end
end Ev
namespace Ev
open PySem L2 PySem.Spec PyProof.Rows
/-! zip of a tuple and a list. -/
def ItM (K : PySem.W.Frag) (a b : Addr) : It where
  go i H := ∃ us ws : List V, SqT K H a us ∧ SqL K H b ws ∧ i < us.length ∧ i < ws.length
  yld i H v H' := ∃ T x y, v = .ref T ∧ H T = none ∧ H' = upd H T (.tup [x, y]) ∧ (∀ us, SqT K H a us → us[i]? = some x) ∧ ∀ ws, SqL K H b ws → ws[i]? = some y
  stop i H := ∃ us ws : List V, SqT K H a us ∧ SqL K H b ws ∧ i ≤ us.length ∧ i ≤ ws.length ∧ (i = us.length ∨ i = ws.length)
theorem sep_of {I a b : Addr} (ha : a < I) (hb : b < I) : ZipSep2 (I + 4) (I + 2) (I + 3) I (I + 1) [I, a] [I + 1, b] := by
  have e : ∀ k : Nat, a ≠ I + k ∧ b ≠ I + k := fun k => ⟨Nat.ne_of_lt (Nat.lt_of_lt_of_le ha (Nat.le_add_right I k)), Nat.ne_of_lt (Nat.lt_of_lt_of_le hb (Nat.le_add_right I k))⟩
  have n : ∀ k l : Nat, k ≠ l → (I + k : Nat) ≠ I + l := fun k l h z => h (Nat.add_left_cancel z)
  have n0 : ∀ k : Nat, 0 ≠ k → (I : Nat) ≠ I + k := fun k h => n 0 k h
  refine ⟨n 2 4 (by decide), n 3 4 (by decide), n 2 3 (by decide), (n0 2 (by decide)).symm, List.mem_cons_self, ?_, ?_, n 2 1 (by decide), List.mem_cons_self, ?_, ?_, ?_, ?_⟩
  · intro z
    rcases List.mem_cons.mp z with z | z
    · exact n0 4 (by decide) z.symm
    · exact (e 4).1 (List.mem_singleton.mp z).symm
  · intro z
    rcases List.mem_cons.mp z with z | z
    · exact n0 3 (by decide) z.symm
    · exact (e 3).1 (List.mem_singleton.mp z).symm
  · intro z
    rcases List.mem_cons.mp z with z | z
    · exact n 4 1 (by decide) z
    · exact (e 4).2 (List.mem_singleton.mp z).symm
  · intro z
    rcases List.mem_cons.mp z with z | z
    · exact n 3 1 (by decide) z
    · exact (e 3).2 (List.mem_singleton.mp z).symm
  · intro z
    rcases List.mem_cons.mp z with z | z
    · exact n0 1 (by decide) z
    · exact (e 0).2 (List.mem_singleton.mp z).symm
  · intro z
    rcases List.mem_cons.mp z with z | z
    · exact n0 1 (by decide) z.symm
    · exact (e 1).1 (List.mem_singleton.mp z).symm
/-- the five cells of such a zip -/
def cellsM (I : Addr) : List Addr := [I + 4, I + 2, I + 3, I, I + 1]
theorem cellsM_of {I c : Addr} (h : c ∈ cellsM I) : c = I + 4 ∨ c = I + 2 ∨ c = I + 3 ∨ c = I ∨ c = I + 1 := by simpa [cellsM] using h
theorem cells_ge {I c : Addr} (h : c ∈ cellsM I) : I ≤ c := by
  rcases cellsM_of h with z | z | z | z | z <;> rw [z]
  · exact Nat.le_add_right I 4
  · exact Nat.le_add_right I 2
  · exact Nat.le_add_right I 3
  · exact Nat.le_refl I
  · exact Nat.le_add_right I 1
def tnM (I a b : Addr) (i : Nat) (h : Heap) : Prop := IsZip h (I + 4) (I + 2) (I + 3) .none ∧ IsTupOf2 h (I + 2) (.ref I) (.ref (I + 1)) ∧ (∃ x y, IsTupOf2 h (I + 3) x y) ∧ h.IsTupleIter I a i ∧ h.IsListIter (I + 1) b i
theorem turnM {P : Program} {w : World} {K : PySem.W.Frag} {elts : List Expr} {kk : Nat} {tpos : Pos} {I a b : Addr} (ha : a < I) (hb : b < I) : Turn P w K (.Tuple elts kk tpos) (ItM K a b) (cellsM I) (I + 4) (tnM I a b) where
  mem := by simp [cellsM]
  obj := by
    rintro i h ⟨q1, q2, ⟨x, y, q3⟩, ⟨o1, p1, _, d1⟩, ⟨o2, p2, _, d2⟩⟩ c hc
    rcases cellsM_of hc with rfl | rfl | rfl | rfl | rfl
    · exact ⟨_, q1, fun v z => by cases z⟩
    · exact ⟨_, q2, fun v z => by cases z⟩
    · exact ⟨_, q3, fun v z => by cases z⟩
    · exact ⟨o1, p1, fun v z => by rw [d1] at z; cases z⟩
    · exact ⟨o2, p2, fun v z => by rw [d2] at z; cases z⟩
  keep := by
    rintro i h h' ⟨q1, q2, ⟨x, y, q3⟩, q4, q5⟩ k
    refine ⟨k _ (by simp [cellsM]) _ q1, k _ (by simp [cellsM]) _ q2, ⟨x, y, k _ (by simp [cellsM]) _ q3⟩, q4.at fun o z => ?_, q5.at fun o z => ?_⟩
    · exact k _ (by simp [cellsM]) o z
    · exact k _ (by simp [cellsM]) o z
  item := by
    rintro X rfl rfl rfl hc i pins s σ H E J hf ⟨q1, q2, ⟨x0, y0, q3⟩, q4, q5⟩ ⟨us, ws, ku, kw, lu, lw⟩
    obtain ⟨its, rv, p, _⟩ := J.tuple ku
    obtain ⟨its2, rv2, p2, _⟩ := J.list kw
    obtain ⟨u, hu, ru⟩ := rv.get (List.getElem?_eq_getElem lu)
    obtain ⟨u2, hu2, ru2⟩ := rv2.get (List.getElem?_eq_getElem lw)
    have l1 := rv.length
    have l2 := rv2.length
    have hd : X.A.in1.handled = none := J.ok.hd hc
    refine wpAny_pyNext_zipD2_item (sep_of ha hb) (Draws.tuple hd I a (Nat.ne_of_lt ha) its.toArray) (Draws.list hd (I + 1) b (Nat.ne_of_lt (Nat.lt_succ_of_lt hb)) its2.toArray) q1 q2 q3 ⟨q4, p⟩ ⟨q5, p2.isList⟩ (by simp; omega) (by simp; omega) fun x1 x2 h' tk y1 y2 r1 r2 r3 r4 r5 r6 hk => ?_
    obtain rfl : u = x1 := by
      have e : its[i]? = some x1 := by simpa using y1
      rw [hu] at e
      exact Option.some.inj e
    obtain rfl : u2 = x2 := by
      have e : its2[i]? = some x2 := by simpa using y2
      rw [hu2] at e
      exact Option.some.inj e
    refine ⟨_, rfl, wpAny_letOwnedTupleGo_zip (s := { s with heap := h', toks := tk }) r1 fun h2 z2 sb => ?_⟩
    have zl : I + 4 < s.heap.objs.size := Heap.lt_size q1
    have fresh : H s.heap.objs.size = none := J.hok.fresh (Nat.le_refl _)
    have at2 : ∀ c o, c ≠ I + 4 → h'.get? c = some o → h2.get? c = some o := fun c o n e => (sb.2 c n).trans e
    have nT : s.heap.objs.size ≠ I + 4 := Nat.ne_of_gt zl
    have hT := at2 _ _ nT r5
    have kept : ∀ c o, c ∉ cellsM I → s.heap.get? c = some o → h2.get? c = some o := fun c o n e => by
      have m : c ≠ I + 4 ∧ c ≠ I + 3 ∧ c ≠ I ∧ c ≠ I + 1 := ⟨fun z => n (by simp [cellsM, z]), fun z => n (by simp [cellsM, z]), fun z => n (by simp [cellsM, z]), fun z => n (by simp [cellsM, z])⟩
      exact at2 c o m.1 (hk c o m.1 m.2.1 m.2.2.1 m.2.2.2 e)
    have S := sep_of ha hb
    have J1 := J.turnedNew (t' := tk) (ob := .tup [us[i], ws[i]]) (ch := cellsM I) kept hf (Nat.le_refl _) ⟨by show 2 ≤ sizeLine; decide, [u, u2], .cons ru (.cons ru2 .nil), ⟨_, hT, rfl, _, rfl⟩⟩
    refine ⟨.ref s.heap.objs.size, _, J1, rfl, ⟨_, _, _, rfl, fresh, rfl, fun l hl => ?_, fun l hl => ?_⟩, ⟨z2, ?_, ⟨_, _, at2 _ _ S.TOz r2⟩, ?_, ?_⟩, fun c hcm => ?_⟩
    · rw [J.tuple_inj hl ku]; exact List.getElem?_eq_getElem lu
    · rw [J.list_inj hl kw]; exact List.getElem?_eq_getElem lw
    · exact at2 _ _ S.TIz (hk _ _ S.TIz S.TITO S.TIi1 S.TIi2 q2)
    · exact r3.1.at fun o z => at2 _ o S.zi1.symm z
    · exact r4.1.at fun o z => at2 _ o S.zi2.symm z
    · have lt : c < s.heap.objs.size := by
        rcases cellsM_of hcm with rfl | rfl | rfl | rfl | rfl
        · exact zl
        · exact Heap.lt_size q2
        · exact Heap.lt_size q3
        · obtain ⟨_, z, _⟩ := q4; exact Heap.lt_size z
        · obtain ⟨_, z, _⟩ := q5; exact Heap.lt_size z
      rw [upd_ne (Nat.ne_of_lt lt)]
      exact (hf c hcm).1
  done := by
    rintro X rfl rfl rfl hc i pins s σ H E J hf ⟨q1, q2, ⟨x0, y0, q3⟩, q4, q5⟩ ⟨us, ws, ku, kw, lu, lw, le⟩
    obtain ⟨its, rv, p, _⟩ := J.tuple ku
    obtain ⟨its2, rv2, p2, _⟩ := J.list kw
    have l1 := rv.length
    have l2 := rv2.length
    have hd : X.A.in1.handled = none := J.ok.hd hc
    refine wpAny_pyNext_zipD2_end (sep_of ha hb) (Draws.tuple hd I a (Nat.ne_of_lt ha) its.toArray) (Draws.list hd (I + 1) b (Nat.ne_of_lt (Nat.lt_succ_of_lt hb)) its2.toArray) q1 q2 q3 ⟨q4, p⟩ ⟨q5, p2.isList⟩ (by simp; omega) (by simp; omega) (by simp; omega) fun h' tk hk => ⟨rfl, ?_⟩
    refine J.turnedL (t' := tk) (ch := cellsM I) (fun c o n e => ?_) hf
    have m : c ≠ I + 4 ∧ c ≠ I + 3 ∧ c ≠ I ∧ c ≠ I + 1 := ⟨fun z => n (by simp [cellsM, z]), fun z => n (by simp [cellsM, z]), fun z => n (by simp [cellsM, z]), fun z => n (by simp [cellsM, z])⟩
    exact hk c o m.1 m.2.1 m.2.2.1 m.2.2.2 e
  self := fun A i s Q E st h => wpAny_pyIter_zip st.1 h
def iZipM (K : PySem.W.Frag) (ta : TA) : TI := fun σ H R => ta σ H fun vs H1 => ∃ a b us ws, vs = [.ref a, .ref b] ∧ SqT K H1 a us ∧ SqL K H1 b ws ∧ R (ItM K a b) H1
theorem pi_zipM {X : Cx} {e e2 : Expr} {ta : TA} {p pos tpos : Pos} {elts : List Expr} {kk : Nat} (hg : Gl X "zip") (hm : X.mg "zip" = none) (ha : PA X [e, e2] ta)
    (hs : starEach [e, e2] X.env = (false, eval e X.env) :: starEach [e2] X.env := by rfl) (hpl : (backTo pos (starEach [e2] X.env)).any (·.1) = false := by rfl) :
    PI X (.Tuple elts kk tpos) (.Call (.Name "zip" p) [e, e2] [] pos) (iZipM X.K ta) := by
  constructor
  intro pins s σ H R I h
  refine Call_ (ld_blt I hg hm PyProof.Rows.boot_zip (PyProof.Rows.callWith_type1 (thn (ha.run pos pins s σ H _ I h) fun us s1 hh => ?_) hs hpl))
  obtain ⟨vs, H1, I1, r1, a, b, xs, ys, rfl, ka, kb, q⟩ := hh
  obtain ⟨w1, w2, rfl, e1, e2⟩ := vals2 r1
  obtain rfl : w1 = Value.ref a := e1
  obtain rfl : w2 = Value.ref b := e2
  obtain ⟨its, rv, p1, _⟩ := I1.tuple ka
  obtain ⟨its2, rv2, p2, _⟩ := I1.list kb
  have la : a < s1.heap.objs.size := by obtain ⟨_, z, _⟩ := id p1; exact Heap.lt_size z
  refine zip_begins2 (begins_tuple a its.toArray) (begins_list b its2.toArray) p1 p2.isList fun h' g1 g2 g3 g4 g5 g6 hk => ?_
  refine wpAny_pyIter_zip g1 ?_
  refine ⟨_, cellsM s1.heap.objs.size, tnM s1.heap.objs.size a b, ItM X.K a b, H1, rfl, I1.kept (t' := s1.toks) hk, turnM la p2.lt, ⟨g1, g2, ⟨_, _, g3⟩, ⟨_, g4, rfl, rfl⟩, ⟨_, g5, rfl, rfl⟩⟩, fun c hc => ?_, q⟩
  exact (I1.fpOk (cells_ge hc) (I1.hok.fresh (cells_ge hc)))
end Ev
namespace Ev
open PySem L2 PySem.Spec PyProof.Rows RZ
/-! The rows of a case. -/
def PrAt (K : PySem.W.Frag) (H : Hp) (v : V) (pr : List Int × Int) : Prop := ∃ a b : Addr, v = .ref a ∧ H a = some (.tup [.ref b, .int pr.2]) ∧ SqT K H b (pr.1.map V.int)
theorem PrAt.keep {K : PySem.W.Frag} {H H' : Hp} {v : V} {pr : List Int × Int} (h : PrAt K H v pr) (s : Same H H') : PrAt K H' v pr := by
  obtain ⟨a, b, e, h1, h2⟩ := h
  exact ⟨a, b, e, s _ _ h1, SqT.keep h2 s⟩
def RowsAt (K : PySem.W.Frag) (H : Hp) (l : Addr) (rows : List (List Int × Int)) : Prop := ∃ vs : List V, H l = some (.lst vs) ∧ vs.length = rows.length ∧ ∀ (i : Nat) (pr : List Int × Int), rows[i]? = some pr → ∃ v, vs[i]? = some v ∧ PrAt K H v pr
theorem Same.gone {H H' : Hp} {p : Addr} (k : Same H H') (n : H' p = none) : H p = none := by
  cases z : H p with
  | none => rfl
  | some o => rw [k _ _ z] at n; cases n
def bigV (p q k : Int) (put : Bool) : Int := if put then -k - q else -k - p
def shortR (p q k : Int) (put : Bool) : List (List Int × Int) := [([1, 0, 0], 1), ([0, 1, 0], 1), ([0, 0, 1], 1), ([-p, q, q], k + 1), ([p, -q, -q], bigV p q k put), ([0, p, -q], -k), ([0, -q, p], -k)]
def longR (p q k : Int) (put : Bool) : List (List Int × Int) := [([1, 0, 0, 0], 1), ([0, 1, 0, 0], 1), ([0, 0, 1, 0], 1), ([0, 0, 0, 1], 1), ([-p, q, q, q], k + 1), ([p, -q, -q, -q], bigV p q k put), ([0, p, p, -q], -k), ([0, -q, -q, p], -k), ([0, p, -q, 0], -k), ([0, -q, p, 0], -k)]
def spRows (K : PySem.W.Frag) (R : Int → Int → Int → Bool → List (List Int × Int)) : Sp := fun vs H Q _ => ∃ (r : Addr) (p q k : Int) (put : Bool), vs = [.ref r, .str (deedS put)] ∧ RB K H r p q k ∧ ∀ l H', H l = none → Same H H' → RowsAt K H' l (R p q k put) → Q (.ref l) H'
section
variable {P : Program} {w : World} {K : PySem.W.Frag} {mg : Str → Option Value} {base : Heap}
theorem scShort : FnScope ["rule", "deed", "over", "under", "plus"] ["rule", "deed"] (defScope sShortRows) := ⟨rfl, rfl, rfl, by decide +kernel, rfl, by decide +kernel, by decide +kernel⟩
theorem ok_short {f : Addr} {fd : FuncData} (F : Fun K "short_rows" "short_rows" sShortRows f fd) : FnOk P w K mg base CX0 1 f fd ["rule", "deed"] (spRows K shortR) := by
  refine F.ok scShort (fun vs H Q E h => ?_) (fun cdv A outer s H vs Q E hr h => ?_)
  · obtain ⟨r, p, q, k, put, rfl, _⟩ := h
    rfl
  · obtain ⟨r, p, q, k, put, rfl, ⟨⟨C, dx, fs, a, hr1, cl, n1, n2, l1, l2, ha⟩, b1, b2, b3, b4, b5⟩, kk⟩ := h
    refine ⟨_, (pss_cons (ps_asg (pe_fld (pv 0) rfl) (pg_tup (by rfl) (pgs_cons (pg_name (i := 2) scShort.nd rfl (.inl rfl)) (pgs_cons (pg_name (i := 3) scShort.nd rfl (.inl rfl)) pgs_nil))))
    (pss_cons (ps_set (i := 4) scShort.nd rfl (.inl rfl) (pe_fld (pv 0) rfl))
    (pss_one (ps_ret (pe_lst (pa_cons (pe_tup (pa_cons (pe_tup (pa_cons pe_int (pa_cons pe_int (pa_cons pe_int pa_nil)))) (pa_cons pe_int pa_nil)))
      (pa_cons (pe_tup (pa_cons (pe_tup (pa_cons pe_int (pa_cons pe_int (pa_cons pe_int pa_nil)))) (pa_cons pe_int pa_nil)))
      (pa_cons (pe_tup (pa_cons (pe_tup (pa_cons pe_int (pa_cons pe_int (pa_cons pe_int pa_nil)))) (pa_cons pe_int pa_nil)))
      (pa_cons (pe_tup (pa_cons (pe_tup (pa_cons (pe_un un_neg (pv 2)) (pa_cons (pv 3) (pa_cons (pv 3) pa_nil)))) (pa_cons (pe_op op_add (pv 4) pe_int) pa_nil)))
      (pa_cons (pe_tup (pa_cons (pe_tup (pa_cons (pv 2) (pa_cons (pe_un un_neg (pv 3)) (pa_cons (pe_un un_neg (pv 3)) pa_nil)))) (pa_cons (pe_op op_sub (pe_un un_neg (pv 4)) (pe_ifExp (pt_cmpR op_eq (pv 1) pe_str (nomark _)) (pv 3) (pv 2))) pa_nil)))
      (pa_cons (pe_tup (pa_cons (pe_tup (pa_cons pe_int (pa_cons (pv 2) (pa_cons (pe_un un_neg (pv 3)) pa_nil)))) (pa_cons (pe_un un_neg (pv 4)) pa_nil)))
      (pa_cons (pe_tup (pa_cons (pe_tup (pa_cons pe_int (pa_cons (pe_un un_neg (pv 3)) (pa_cons (pv 2) pa_nil)))) (pa_cons (pe_un un_neg (pv 4)) pa_nil))) pa_nil)))))))))))), ?_⟩
    refine ⟨_, rfl, r, C, dx, fs, _, rfl, hr1, cl, n1, l1, a, _, rfl, SqT.of ha, rfl, _, _, rfl, _, _, rfl, rfl, ?_⟩
    refine ⟨_, rfl, r, C, dx, fs, _, rfl, hr1, cl, n2, l2, ?_⟩
    rcases put.eq_false_or_eq_true with rfl | rfl
    · -- put
      refine ⟨(by show 3 ≤ sizeLine; decide), fun t0 n0 => ?_⟩
      have s0 := same_new (o := .tup [.int 1, .int 0, .int 0]) n0
      have h0 : upd H t0 (.tup [.int 1, .int 0, .int 0]) t0 = some (.tup [.int 1, .int 0, .int 0]) := upd_same
      try dsimp only
      generalize upd H t0 (.tup [.int 1, .int 0, .int 0]) = G0 at s0 h0 ⊢
      have S0a := (Same.refl H).trans s0
      refine ⟨(by show 2 ≤ sizeLine; decide), fun u0 m0 => ?_⟩
      have z0 := same_new (o := .tup [.ref t0, .int 1]) m0
      have w0 : PrAt K (upd G0 u0 (.tup [.ref t0, .int 1])) (.ref u0) ([1, 0, 0], 1) := ⟨u0, t0, rfl, upd_same, SqT.of (z0 _ _ h0)⟩
      have S0 := S0a.trans z0
      try dsimp only
      generalize upd G0 u0 (.tup [.ref t0, .int 1]) = H0 at z0 w0  S0 ⊢
      clear S0a s0 z0 h0 n0 m0
      refine ⟨(by show 3 ≤ sizeLine; decide), fun t1 n1 => ?_⟩
      have s1 := same_new (o := .tup [.int 0, .int 1, .int 0]) n1
      have h1 : upd H0 t1 (.tup [.int 0, .int 1, .int 0]) t1 = some (.tup [.int 0, .int 1, .int 0]) := upd_same
      try dsimp only
      generalize upd H0 t1 (.tup [.int 0, .int 1, .int 0]) = G1 at s1 h1 ⊢
      have S1a := S0.trans s1
      refine ⟨(by show 2 ≤ sizeLine; decide), fun u1 m1 => ?_⟩
      have z1 := same_new (o := .tup [.ref t1, .int 1]) m1
      have w1 : PrAt K (upd G1 u1 (.tup [.ref t1, .int 1])) (.ref u1) ([0, 1, 0], 1) := ⟨u1, t1, rfl, upd_same, SqT.of (z1 _ _ h1)⟩
      replace w0 := (w0.keep s1).keep z1
      have S1 := S1a.trans z1
      try dsimp only
      generalize upd G1 u1 (.tup [.ref t1, .int 1]) = H1 at z1 w1 w0 S1 ⊢
      clear S1a s1 z1 h1 n1 m1 S0
      refine ⟨(by show 3 ≤ sizeLine; decide), fun t2 n2 => ?_⟩
      have s2 := same_new (o := .tup [.int 0, .int 0, .int 1]) n2
      have h2 : upd H1 t2 (.tup [.int 0, .int 0, .int 1]) t2 = some (.tup [.int 0, .int 0, .int 1]) := upd_same
      try dsimp only
      generalize upd H1 t2 (.tup [.int 0, .int 0, .int 1]) = G2 at s2 h2 ⊢
      have S2a := S1.trans s2
      refine ⟨(by show 2 ≤ sizeLine; decide), fun u2 m2 => ?_⟩
      have z2 := same_new (o := .tup [.ref t2, .int 1]) m2
      have w2 : PrAt K (upd G2 u2 (.tup [.ref t2, .int 1])) (.ref u2) ([0, 0, 1], 1) := ⟨u2, t2, rfl, upd_same, SqT.of (z2 _ _ h2)⟩
      replace w0 := (w0.keep s2).keep z2
      replace w1 := (w1.keep s2).keep z2
      have S2 := S2a.trans z2
      try dsimp only
      generalize upd G2 u2 (.tup [.ref t2, .int 1]) = H2 at z2 w2 w0 w1 S2 ⊢
      clear S2a s2 z2 h2 n2 m2 S1
      refine ⟨_, rfl, _, rfl, _, rfl, _, rfl, (by show 3 ≤ sizeLine; decide), fun t3 n3 => ?_⟩
      have s3 := same_new (o := .tup [.int (-p), .int q, .int q]) n3
      have h3 : upd H2 t3 (.tup [.int (-p), .int q, .int q]) t3 = some (.tup [.int (-p), .int q, .int q]) := upd_same
      try dsimp only
      generalize upd H2 t3 (.tup [.int (-p), .int q, .int q]) = G3 at s3 h3 ⊢
      have S3a := S2.trans s3
      refine ⟨_, rfl, _, _, rfl, rfl, (by show 2 ≤ sizeLine; decide), fun u3 m3 => ?_⟩
      have z3 := same_new (o := .tup [.ref t3, .int (k + 1)]) m3
      have w3 : PrAt K (upd G3 u3 (.tup [.ref t3, .int (k + 1)])) (.ref u3) ([-p, q, q], (k + 1)) := ⟨u3, t3, rfl, upd_same, SqT.of (z3 _ _ h3)⟩
      replace w0 := (w0.keep s3).keep z3
      replace w1 := (w1.keep s3).keep z3
      replace w2 := (w2.keep s3).keep z3
      have S3 := S3a.trans z3
      try dsimp only
      generalize upd G3 u3 (.tup [.ref t3, .int (k + 1)]) = H3 at z3 w3 w0 w1 w2 S3 ⊢
      clear S3a s3 z3 h3 n3 m3 S2
      refine ⟨_, rfl, _, rfl, _, rfl, _, rfl, _, rfl, (by show 3 ≤ sizeLine; decide), fun t4 n4 => ?_⟩
      have s4 := same_new (o := .tup [.int p, .int (-q), .int (-q)]) n4
      have h4 : upd H3 t4 (.tup [.int p, .int (-q), .int (-q)]) t4 = some (.tup [.int p, .int (-q), .int (-q)]) := upd_same
      try dsimp only
      generalize upd H3 t4 (.tup [.int p, .int (-q), .int (-q)]) = G4 at s4 h4 ⊢
      have S4a := S3.trans s4
      refine ⟨_, rfl, _, rfl, _, rfl, rfl, _, rfl, ?_⟩
      rw [show decide (V.str (deedS true) = V.str "put") = true by decide +kernel]
      refine iteT ⟨_, rfl, _, _, rfl, rfl, (by show 2 ≤ sizeLine; decide), fun u4 m4 => ?_⟩
      have z4 := same_new (o := .tup [.ref t4, .int (-k - q)]) m4
      have w4 : PrAt K (upd G4 u4 (.tup [.ref t4, .int (-k - q)])) (.ref u4) ([p, -q, -q], (-k - q)) := ⟨u4, t4, rfl, upd_same, SqT.of (z4 _ _ h4)⟩
      replace w0 := (w0.keep s4).keep z4
      replace w1 := (w1.keep s4).keep z4
      replace w2 := (w2.keep s4).keep z4
      replace w3 := (w3.keep s4).keep z4
      have S4 := S4a.trans z4
      try dsimp only
      generalize upd G4 u4 (.tup [.ref t4, .int (-k - q)]) = H4 at z4 w4 w0 w1 w2 w3 S4 ⊢
      clear S4a s4 z4 h4 n4 m4 S3
      refine ⟨_, rfl, _, rfl, _, rfl, (by show 3 ≤ sizeLine; decide), fun t5 n5 => ?_⟩
      have s5 := same_new (o := .tup [.int 0, .int p, .int (-q)]) n5
      have h5 : upd H4 t5 (.tup [.int 0, .int p, .int (-q)]) t5 = some (.tup [.int 0, .int p, .int (-q)]) := upd_same
      try dsimp only
      generalize upd H4 t5 (.tup [.int 0, .int p, .int (-q)]) = G5 at s5 h5 ⊢
      have S5a := S4.trans s5
      refine ⟨_, rfl, _, rfl, (by show 2 ≤ sizeLine; decide), fun u5 m5 => ?_⟩
      have z5 := same_new (o := .tup [.ref t5, .int (-k)]) m5
      have w5 : PrAt K (upd G5 u5 (.tup [.ref t5, .int (-k)])) (.ref u5) ([0, p, -q], (-k)) := ⟨u5, t5, rfl, upd_same, SqT.of (z5 _ _ h5)⟩
      replace w0 := (w0.keep s5).keep z5
      replace w1 := (w1.keep s5).keep z5
      replace w2 := (w2.keep s5).keep z5
      replace w3 := (w3.keep s5).keep z5
      replace w4 := (w4.keep s5).keep z5
      have S5 := S5a.trans z5
      try dsimp only
      generalize upd G5 u5 (.tup [.ref t5, .int (-k)]) = H5 at z5 w5 w0 w1 w2 w3 w4 S5 ⊢
      clear S5a s5 z5 h5 n5 m5 S4
      refine ⟨_, rfl, _, rfl, _, rfl, (by show 3 ≤ sizeLine; decide), fun t6 n6 => ?_⟩
      have s6 := same_new (o := .tup [.int 0, .int (-q), .int p]) n6
      have h6 : upd H5 t6 (.tup [.int 0, .int (-q), .int p]) t6 = some (.tup [.int 0, .int (-q), .int p]) := upd_same
      try dsimp only
      generalize upd H5 t6 (.tup [.int 0, .int (-q), .int p]) = G6 at s6 h6 ⊢
      have S6a := S5.trans s6
      refine ⟨_, rfl, _, rfl, (by show 2 ≤ sizeLine; decide), fun u6 m6 => ?_⟩
      have z6 := same_new (o := .tup [.ref t6, .int (-k)]) m6
      have w6 : PrAt K (upd G6 u6 (.tup [.ref t6, .int (-k)])) (.ref u6) ([0, -q, p], (-k)) := ⟨u6, t6, rfl, upd_same, SqT.of (z6 _ _ h6)⟩
      replace w0 := (w0.keep s6).keep z6
      replace w1 := (w1.keep s6).keep z6
      replace w2 := (w2.keep s6).keep z6
      replace w3 := (w3.keep s6).keep z6
      replace w4 := (w4.keep s6).keep z6
      replace w5 := (w5.keep s6).keep z6
      have S6 := S6a.trans z6
      try dsimp only
      generalize upd G6 u6 (.tup [.ref t6, .int (-k)]) = H6 at z6 w6 w0 w1 w2 w3 w4 w5 S6 ⊢
      clear S6a s6 z6 h6 n6 m6 S5
      refine ⟨(by show 7 ≤ sizeLine; decide), fun l hl => ?_⟩
      refine kk l _ (Same.gone S6 hl) (S6.trans (same_new hl)) ⟨_, upd_same, rfl, fun i pr e => ?_⟩
      have sl := same_new (o := .lst [.ref u0, .ref u1, .ref u2, .ref u3, .ref u4, .ref u5, .ref u6]) hl
      match i, e with
      | 0, e => exact ⟨_, rfl, by rw [← Option.some.inj e]; exact w0.keep sl⟩
      | 1, e => exact ⟨_, rfl, by rw [← Option.some.inj e]; exact w1.keep sl⟩
      | 2, e => exact ⟨_, rfl, by rw [← Option.some.inj e]; exact w2.keep sl⟩
      | 3, e => exact ⟨_, rfl, by rw [← Option.some.inj e]; exact w3.keep sl⟩
      | 4, e => exact ⟨_, rfl, by rw [← Option.some.inj e]; exact w4.keep sl⟩
      | 5, e => exact ⟨_, rfl, by rw [← Option.some.inj e]; exact w5.keep sl⟩
      | 6, e => exact ⟨_, rfl, by rw [← Option.some.inj e]; exact w6.keep sl⟩
      | _ + 7, e => cases e
    · -- take
      refine ⟨(by show 3 ≤ sizeLine; decide), fun t0 n0 => ?_⟩
      have s0 := same_new (o := .tup [.int 1, .int 0, .int 0]) n0
      have h0 : upd H t0 (.tup [.int 1, .int 0, .int 0]) t0 = some (.tup [.int 1, .int 0, .int 0]) := upd_same
      try dsimp only
      generalize upd H t0 (.tup [.int 1, .int 0, .int 0]) = G0 at s0 h0 ⊢
      have S0a := (Same.refl H).trans s0
      refine ⟨(by show 2 ≤ sizeLine; decide), fun u0 m0 => ?_⟩
      have z0 := same_new (o := .tup [.ref t0, .int 1]) m0
      have w0 : PrAt K (upd G0 u0 (.tup [.ref t0, .int 1])) (.ref u0) ([1, 0, 0], 1) := ⟨u0, t0, rfl, upd_same, SqT.of (z0 _ _ h0)⟩
      have S0 := S0a.trans z0
      try dsimp only
      generalize upd G0 u0 (.tup [.ref t0, .int 1]) = H0 at z0 w0  S0 ⊢
      clear S0a s0 z0 h0 n0 m0
      refine ⟨(by show 3 ≤ sizeLine; decide), fun t1 n1 => ?_⟩
      have s1 := same_new (o := .tup [.int 0, .int 1, .int 0]) n1
      have h1 : upd H0 t1 (.tup [.int 0, .int 1, .int 0]) t1 = some (.tup [.int 0, .int 1, .int 0]) := upd_same
      try dsimp only
      generalize upd H0 t1 (.tup [.int 0, .int 1, .int 0]) = G1 at s1 h1 ⊢
      have S1a := S0.trans s1
      refine ⟨(by show 2 ≤ sizeLine; decide), fun u1 m1 => ?_⟩
      have z1 := same_new (o := .tup [.ref t1, .int 1]) m1
      have w1 : PrAt K (upd G1 u1 (.tup [.ref t1, .int 1])) (.ref u1) ([0, 1, 0], 1) := ⟨u1, t1, rfl, upd_same, SqT.of (z1 _ _ h1)⟩
      replace w0 := (w0.keep s1).keep z1
      have S1 := S1a.trans z1
      try dsimp only
      generalize upd G1 u1 (.tup [.ref t1, .int 1]) = H1 at z1 w1 w0 S1 ⊢
      clear S1a s1 z1 h1 n1 m1 S0
      refine ⟨(by show 3 ≤ sizeLine; decide), fun t2 n2 => ?_⟩
      have s2 := same_new (o := .tup [.int 0, .int 0, .int 1]) n2
      have h2 : upd H1 t2 (.tup [.int 0, .int 0, .int 1]) t2 = some (.tup [.int 0, .int 0, .int 1]) := upd_same
      try dsimp only
      generalize upd H1 t2 (.tup [.int 0, .int 0, .int 1]) = G2 at s2 h2 ⊢
      have S2a := S1.trans s2
      refine ⟨(by show 2 ≤ sizeLine; decide), fun u2 m2 => ?_⟩
      have z2 := same_new (o := .tup [.ref t2, .int 1]) m2
      have w2 : PrAt K (upd G2 u2 (.tup [.ref t2, .int 1])) (.ref u2) ([0, 0, 1], 1) := ⟨u2, t2, rfl, upd_same, SqT.of (z2 _ _ h2)⟩
      replace w0 := (w0.keep s2).keep z2
      replace w1 := (w1.keep s2).keep z2
      have S2 := S2a.trans z2
      try dsimp only
      generalize upd G2 u2 (.tup [.ref t2, .int 1]) = H2 at z2 w2 w0 w1 S2 ⊢
      clear S2a s2 z2 h2 n2 m2 S1
      refine ⟨_, rfl, _, rfl, _, rfl, _, rfl, (by show 3 ≤ sizeLine; decide), fun t3 n3 => ?_⟩
      have s3 := same_new (o := .tup [.int (-p), .int q, .int q]) n3
      have h3 : upd H2 t3 (.tup [.int (-p), .int q, .int q]) t3 = some (.tup [.int (-p), .int q, .int q]) := upd_same
      try dsimp only
      generalize upd H2 t3 (.tup [.int (-p), .int q, .int q]) = G3 at s3 h3 ⊢
      have S3a := S2.trans s3
      refine ⟨_, rfl, _, _, rfl, rfl, (by show 2 ≤ sizeLine; decide), fun u3 m3 => ?_⟩
      have z3 := same_new (o := .tup [.ref t3, .int (k + 1)]) m3
      have w3 : PrAt K (upd G3 u3 (.tup [.ref t3, .int (k + 1)])) (.ref u3) ([-p, q, q], (k + 1)) := ⟨u3, t3, rfl, upd_same, SqT.of (z3 _ _ h3)⟩
      replace w0 := (w0.keep s3).keep z3
      replace w1 := (w1.keep s3).keep z3
      replace w2 := (w2.keep s3).keep z3
      have S3 := S3a.trans z3
      try dsimp only
      generalize upd G3 u3 (.tup [.ref t3, .int (k + 1)]) = H3 at z3 w3 w0 w1 w2 S3 ⊢
      clear S3a s3 z3 h3 n3 m3 S2
      refine ⟨_, rfl, _, rfl, _, rfl, _, rfl, _, rfl, (by show 3 ≤ sizeLine; decide), fun t4 n4 => ?_⟩
      have s4 := same_new (o := .tup [.int p, .int (-q), .int (-q)]) n4
      have h4 : upd H3 t4 (.tup [.int p, .int (-q), .int (-q)]) t4 = some (.tup [.int p, .int (-q), .int (-q)]) := upd_same
      try dsimp only
      generalize upd H3 t4 (.tup [.int p, .int (-q), .int (-q)]) = G4 at s4 h4 ⊢
      have S4a := S3.trans s4
      refine ⟨_, rfl, _, rfl, _, rfl, rfl, _, rfl, ?_⟩
      rw [show decide (V.str (deedS false) = V.str "put") = false by decide +kernel]
      refine iteF ⟨_, rfl, _, _, rfl, rfl, (by show 2 ≤ sizeLine; decide), fun u4 m4 => ?_⟩
      have z4 := same_new (o := .tup [.ref t4, .int (-k - p)]) m4
      have w4 : PrAt K (upd G4 u4 (.tup [.ref t4, .int (-k - p)])) (.ref u4) ([p, -q, -q], (-k - p)) := ⟨u4, t4, rfl, upd_same, SqT.of (z4 _ _ h4)⟩
      replace w0 := (w0.keep s4).keep z4
      replace w1 := (w1.keep s4).keep z4
      replace w2 := (w2.keep s4).keep z4
      replace w3 := (w3.keep s4).keep z4
      have S4 := S4a.trans z4
      try dsimp only
      generalize upd G4 u4 (.tup [.ref t4, .int (-k - p)]) = H4 at z4 w4 w0 w1 w2 w3 S4 ⊢
      clear S4a s4 z4 h4 n4 m4 S3
      refine ⟨_, rfl, _, rfl, _, rfl, (by show 3 ≤ sizeLine; decide), fun t5 n5 => ?_⟩
      have s5 := same_new (o := .tup [.int 0, .int p, .int (-q)]) n5
      have h5 : upd H4 t5 (.tup [.int 0, .int p, .int (-q)]) t5 = some (.tup [.int 0, .int p, .int (-q)]) := upd_same
      try dsimp only
      generalize upd H4 t5 (.tup [.int 0, .int p, .int (-q)]) = G5 at s5 h5 ⊢
      have S5a := S4.trans s5
      refine ⟨_, rfl, _, rfl, (by show 2 ≤ sizeLine; decide), fun u5 m5 => ?_⟩
      have z5 := same_new (o := .tup [.ref t5, .int (-k)]) m5
      have w5 : PrAt K (upd G5 u5 (.tup [.ref t5, .int (-k)])) (.ref u5) ([0, p, -q], (-k)) := ⟨u5, t5, rfl, upd_same, SqT.of (z5 _ _ h5)⟩
      replace w0 := (w0.keep s5).keep z5
      replace w1 := (w1.keep s5).keep z5
      replace w2 := (w2.keep s5).keep z5
      replace w3 := (w3.keep s5).keep z5
      replace w4 := (w4.keep s5).keep z5
      have S5 := S5a.trans z5
      try dsimp only
      generalize upd G5 u5 (.tup [.ref t5, .int (-k)]) = H5 at z5 w5 w0 w1 w2 w3 w4 S5 ⊢
      clear S5a s5 z5 h5 n5 m5 S4
      refine ⟨_, rfl, _, rfl, _, rfl, (by show 3 ≤ sizeLine; decide), fun t6 n6 => ?_⟩
      have s6 := same_new (o := .tup [.int 0, .int (-q), .int p]) n6
      have h6 : upd H5 t6 (.tup [.int 0, .int (-q), .int p]) t6 = some (.tup [.int 0, .int (-q), .int p]) := upd_same
      try dsimp only
      generalize upd H5 t6 (.tup [.int 0, .int (-q), .int p]) = G6 at s6 h6 ⊢
      have S6a := S5.trans s6
      refine ⟨_, rfl, _, rfl, (by show 2 ≤ sizeLine; decide), fun u6 m6 => ?_⟩
      have z6 := same_new (o := .tup [.ref t6, .int (-k)]) m6
      have w6 : PrAt K (upd G6 u6 (.tup [.ref t6, .int (-k)])) (.ref u6) ([0, -q, p], (-k)) := ⟨u6, t6, rfl, upd_same, SqT.of (z6 _ _ h6)⟩
      replace w0 := (w0.keep s6).keep z6
      replace w1 := (w1.keep s6).keep z6
      replace w2 := (w2.keep s6).keep z6
      replace w3 := (w3.keep s6).keep z6
      replace w4 := (w4.keep s6).keep z6
      replace w5 := (w5.keep s6).keep z6
      have S6 := S6a.trans z6
      try dsimp only
      generalize upd G6 u6 (.tup [.ref t6, .int (-k)]) = H6 at z6 w6 w0 w1 w2 w3 w4 w5 S6 ⊢
      clear S6a s6 z6 h6 n6 m6 S5
      refine ⟨(by show 7 ≤ sizeLine; decide), fun l hl => ?_⟩
      refine kk l _ (Same.gone S6 hl) (S6.trans (same_new hl)) ⟨_, upd_same, rfl, fun i pr e => ?_⟩
      have sl := same_new (o := .lst [.ref u0, .ref u1, .ref u2, .ref u3, .ref u4, .ref u5, .ref u6]) hl
      match i, e with
      | 0, e => exact ⟨_, rfl, by rw [← Option.some.inj e]; exact w0.keep sl⟩
      | 1, e => exact ⟨_, rfl, by rw [← Option.some.inj e]; exact w1.keep sl⟩
      | 2, e => exact ⟨_, rfl, by rw [← Option.some.inj e]; exact w2.keep sl⟩
      | 3, e => exact ⟨_, rfl, by rw [← Option.some.inj e]; exact w3.keep sl⟩
      | 4, e => exact ⟨_, rfl, by rw [← Option.some.inj e]; exact w4.keep sl⟩
      | 5, e => exact ⟨_, rfl, by rw [← Option.some.inj e]; exact w5.keep sl⟩
      | 6, e => exact ⟨_, rfl, by rw [← Option.some.inj e]; exact w6.keep sl⟩
      | _ + 7, e => cases e
theorem scLong : FnScope ["rule", "deed", "over", "under", "plus"] ["rule", "deed"] (defScope sLongRows) := ⟨rfl, rfl, rfl, by decide +kernel, rfl, by decide +kernel, by decide +kernel⟩
theorem ok_long {f : Addr} {fd : FuncData} (F : Fun K "long_rows" "long_rows" sLongRows f fd) : FnOk P w K mg base CX0 1 f fd ["rule", "deed"] (spRows K longR) := by
  refine F.ok scLong (fun vs H Q E h => ?_) (fun cdv A outer s H vs Q E hr h => ?_)
  · obtain ⟨r, p, q, k, put, rfl, _⟩ := h
    rfl
  · obtain ⟨r, p, q, k, put, rfl, ⟨⟨C, dx, fs, a, hr1, cl, n1, n2, l1, l2, ha⟩, b1, b2, b3, b4, b5⟩, kk⟩ := h
    refine ⟨_, (pss_cons (ps_asg (pe_fld (pv 0) rfl) (pg_tup (by rfl) (pgs_cons (pg_name (i := 2) scLong.nd rfl (.inl rfl)) (pgs_cons (pg_name (i := 3) scLong.nd rfl (.inl rfl)) pgs_nil))))
    (pss_cons (ps_set (i := 4) scLong.nd rfl (.inl rfl) (pe_fld (pv 0) rfl))
    (pss_one (ps_ret (pe_lst (pa_cons (pe_tup (pa_cons (pe_tup (pa_cons pe_int (pa_cons pe_int (pa_cons pe_int (pa_cons pe_int pa_nil))))) (pa_cons pe_int pa_nil)))
      (pa_cons (pe_tup (pa_cons (pe_tup (pa_cons pe_int (pa_cons pe_int (pa_cons pe_int (pa_cons pe_int pa_nil))))) (pa_cons pe_int pa_nil)))
      (pa_cons (pe_tup (pa_cons (pe_tup (pa_cons pe_int (pa_cons pe_int (pa_cons pe_int (pa_cons pe_int pa_nil))))) (pa_cons pe_int pa_nil)))
      (pa_cons (pe_tup (pa_cons (pe_tup (pa_cons pe_int (pa_cons pe_int (pa_cons pe_int (pa_cons pe_int pa_nil))))) (pa_cons pe_int pa_nil)))
      (pa_cons (pe_tup (pa_cons (pe_tup (pa_cons (pe_un un_neg (pv 2)) (pa_cons (pv 3) (pa_cons (pv 3) (pa_cons (pv 3) pa_nil))))) (pa_cons (pe_op op_add (pv 4) pe_int) pa_nil)))
      (pa_cons (pe_tup (pa_cons (pe_tup (pa_cons (pv 2) (pa_cons (pe_un un_neg (pv 3)) (pa_cons (pe_un un_neg (pv 3)) (pa_cons (pe_un un_neg (pv 3)) pa_nil))))) (pa_cons (pe_op op_sub (pe_un un_neg (pv 4)) (pe_ifExp (pt_cmpR op_eq (pv 1) pe_str (nomark _)) (pv 3) (pv 2))) pa_nil)))
      (pa_cons (pe_tup (pa_cons (pe_tup (pa_cons pe_int (pa_cons (pv 2) (pa_cons (pv 2) (pa_cons (pe_un un_neg (pv 3)) pa_nil))))) (pa_cons (pe_un un_neg (pv 4)) pa_nil)))
      (pa_cons (pe_tup (pa_cons (pe_tup (pa_cons pe_int (pa_cons (pe_un un_neg (pv 3)) (pa_cons (pe_un un_neg (pv 3)) (pa_cons (pv 2) pa_nil))))) (pa_cons (pe_un un_neg (pv 4)) pa_nil)))
      (pa_cons (pe_tup (pa_cons (pe_tup (pa_cons pe_int (pa_cons (pv 2) (pa_cons (pe_un un_neg (pv 3)) (pa_cons pe_int pa_nil))))) (pa_cons (pe_un un_neg (pv 4)) pa_nil)))
      (pa_cons (pe_tup (pa_cons (pe_tup (pa_cons pe_int (pa_cons (pe_un un_neg (pv 3)) (pa_cons (pv 2) (pa_cons pe_int pa_nil))))) (pa_cons (pe_un un_neg (pv 4)) pa_nil))) pa_nil))))))))))))))), ?_⟩
    refine ⟨_, rfl, r, C, dx, fs, _, rfl, hr1, cl, n1, l1, a, _, rfl, SqT.of ha, rfl, _, _, rfl, _, _, rfl, rfl, ?_⟩
    refine ⟨_, rfl, r, C, dx, fs, _, rfl, hr1, cl, n2, l2, ?_⟩
    rcases put.eq_false_or_eq_true with rfl | rfl
    · -- put
      refine ⟨(by show 4 ≤ sizeLine; decide), fun t0 n0 => ?_⟩
      have s0 := same_new (o := .tup [.int 1, .int 0, .int 0, .int 0]) n0
      have h0 : upd H t0 (.tup [.int 1, .int 0, .int 0, .int 0]) t0 = some (.tup [.int 1, .int 0, .int 0, .int 0]) := upd_same
      try dsimp only
      generalize upd H t0 (.tup [.int 1, .int 0, .int 0, .int 0]) = G0 at s0 h0 ⊢
      have S0a := (Same.refl H).trans s0
      refine ⟨(by show 2 ≤ sizeLine; decide), fun u0 m0 => ?_⟩
      have z0 := same_new (o := .tup [.ref t0, .int 1]) m0
      have w0 : PrAt K (upd G0 u0 (.tup [.ref t0, .int 1])) (.ref u0) ([1, 0, 0, 0], 1) := ⟨u0, t0, rfl, upd_same, SqT.of (z0 _ _ h0)⟩
      have S0 := S0a.trans z0
      try dsimp only
      generalize upd G0 u0 (.tup [.ref t0, .int 1]) = H0 at z0 w0  S0 ⊢
      clear S0a s0 z0 h0 n0 m0
      refine ⟨(by show 4 ≤ sizeLine; decide), fun t1 n1 => ?_⟩
      have s1 := same_new (o := .tup [.int 0, .int 1, .int 0, .int 0]) n1
      have h1 : upd H0 t1 (.tup [.int 0, .int 1, .int 0, .int 0]) t1 = some (.tup [.int 0, .int 1, .int 0, .int 0]) := upd_same
      try dsimp only
      generalize upd H0 t1 (.tup [.int 0, .int 1, .int 0, .int 0]) = G1 at s1 h1 ⊢
      have S1a := S0.trans s1
      refine ⟨(by show 2 ≤ sizeLine; decide), fun u1 m1 => ?_⟩
      have z1 := same_new (o := .tup [.ref t1, .int 1]) m1
      have w1 : PrAt K (upd G1 u1 (.tup [.ref t1, .int 1])) (.ref u1) ([0, 1, 0, 0], 1) := ⟨u1, t1, rfl, upd_same, SqT.of (z1 _ _ h1)⟩
      replace w0 := (w0.keep s1).keep z1
      have S1 := S1a.trans z1
      try dsimp only
      generalize upd G1 u1 (.tup [.ref t1, .int 1]) = H1 at z1 w1 w0 S1 ⊢
      clear S1a s1 z1 h1 n1 m1 S0
      refine ⟨(by show 4 ≤ sizeLine; decide), fun t2 n2 => ?_⟩
      have s2 := same_new (o := .tup [.int 0, .int 0, .int 1, .int 0]) n2
      have h2 : upd H1 t2 (.tup [.int 0, .int 0, .int 1, .int 0]) t2 = some (.tup [.int 0, .int 0, .int 1, .int 0]) := upd_same
      try dsimp only
      generalize upd H1 t2 (.tup [.int 0, .int 0, .int 1, .int 0]) = G2 at s2 h2 ⊢
      have S2a := S1.trans s2
      refine ⟨(by show 2 ≤ sizeLine; decide), fun u2 m2 => ?_⟩
      have z2 := same_new (o := .tup [.ref t2, .int 1]) m2
      have w2 : PrAt K (upd G2 u2 (.tup [.ref t2, .int 1])) (.ref u2) ([0, 0, 1, 0], 1) := ⟨u2, t2, rfl, upd_same, SqT.of (z2 _ _ h2)⟩
      replace w0 := (w0.keep s2).keep z2
      replace w1 := (w1.keep s2).keep z2
      have S2 := S2a.trans z2
      try dsimp only
      generalize upd G2 u2 (.tup [.ref t2, .int 1]) = H2 at z2 w2 w0 w1 S2 ⊢
      clear S2a s2 z2 h2 n2 m2 S1
      refine ⟨(by show 4 ≤ sizeLine; decide), fun t3 n3 => ?_⟩
      have s3 := same_new (o := .tup [.int 0, .int 0, .int 0, .int 1]) n3
      have h3 : upd H2 t3 (.tup [.int 0, .int 0, .int 0, .int 1]) t3 = some (.tup [.int 0, .int 0, .int 0, .int 1]) := upd_same
      try dsimp only
      generalize upd H2 t3 (.tup [.int 0, .int 0, .int 0, .int 1]) = G3 at s3 h3 ⊢
      have S3a := S2.trans s3
      refine ⟨(by show 2 ≤ sizeLine; decide), fun u3 m3 => ?_⟩
      have z3 := same_new (o := .tup [.ref t3, .int 1]) m3
      have w3 : PrAt K (upd G3 u3 (.tup [.ref t3, .int 1])) (.ref u3) ([0, 0, 0, 1], 1) := ⟨u3, t3, rfl, upd_same, SqT.of (z3 _ _ h3)⟩
      replace w0 := (w0.keep s3).keep z3
      replace w1 := (w1.keep s3).keep z3
      replace w2 := (w2.keep s3).keep z3
      have S3 := S3a.trans z3
      try dsimp only
      generalize upd G3 u3 (.tup [.ref t3, .int 1]) = H3 at z3 w3 w0 w1 w2 S3 ⊢
      clear S3a s3 z3 h3 n3 m3 S2
      refine ⟨_, rfl, _, rfl, _, rfl, _, rfl, _, rfl, (by show 4 ≤ sizeLine; decide), fun t4 n4 => ?_⟩
      have s4 := same_new (o := .tup [.int (-p), .int q, .int q, .int q]) n4
      have h4 : upd H3 t4 (.tup [.int (-p), .int q, .int q, .int q]) t4 = some (.tup [.int (-p), .int q, .int q, .int q]) := upd_same
      try dsimp only
      generalize upd H3 t4 (.tup [.int (-p), .int q, .int q, .int q]) = G4 at s4 h4 ⊢
      have S4a := S3.trans s4
      refine ⟨_, rfl, _, _, rfl, rfl, (by show 2 ≤ sizeLine; decide), fun u4 m4 => ?_⟩
      have z4 := same_new (o := .tup [.ref t4, .int (k + 1)]) m4
      have w4 : PrAt K (upd G4 u4 (.tup [.ref t4, .int (k + 1)])) (.ref u4) ([-p, q, q, q], (k + 1)) := ⟨u4, t4, rfl, upd_same, SqT.of (z4 _ _ h4)⟩
      replace w0 := (w0.keep s4).keep z4
      replace w1 := (w1.keep s4).keep z4
      replace w2 := (w2.keep s4).keep z4
      replace w3 := (w3.keep s4).keep z4
      have S4 := S4a.trans z4
      try dsimp only
      generalize upd G4 u4 (.tup [.ref t4, .int (k + 1)]) = H4 at z4 w4 w0 w1 w2 w3 S4 ⊢
      clear S4a s4 z4 h4 n4 m4 S3
      refine ⟨_, rfl, _, rfl, _, rfl, _, rfl, _, rfl, _, rfl, _, rfl, (by show 4 ≤ sizeLine; decide), fun t5 n5 => ?_⟩
      have s5 := same_new (o := .tup [.int p, .int (-q), .int (-q), .int (-q)]) n5
      have h5 : upd H4 t5 (.tup [.int p, .int (-q), .int (-q), .int (-q)]) t5 = some (.tup [.int p, .int (-q), .int (-q), .int (-q)]) := upd_same
      try dsimp only
      generalize upd H4 t5 (.tup [.int p, .int (-q), .int (-q), .int (-q)]) = G5 at s5 h5 ⊢
      have S5a := S4.trans s5
      refine ⟨_, rfl, _, rfl, _, rfl, rfl, _, rfl, ?_⟩
      rw [show decide (V.str (deedS true) = V.str "put") = true by decide +kernel]
      refine iteT ⟨_, rfl, _, _, rfl, rfl, (by show 2 ≤ sizeLine; decide), fun u5 m5 => ?_⟩
      have z5 := same_new (o := .tup [.ref t5, .int (-k - q)]) m5
      have w5 : PrAt K (upd G5 u5 (.tup [.ref t5, .int (-k - q)])) (.ref u5) ([p, -q, -q, -q], (-k - q)) := ⟨u5, t5, rfl, upd_same, SqT.of (z5 _ _ h5)⟩
      replace w0 := (w0.keep s5).keep z5
      replace w1 := (w1.keep s5).keep z5
      replace w2 := (w2.keep s5).keep z5
      replace w3 := (w3.keep s5).keep z5
      replace w4 := (w4.keep s5).keep z5
      have S5 := S5a.trans z5
      try dsimp only
      generalize upd G5 u5 (.tup [.ref t5, .int (-k - q)]) = H5 at z5 w5 w0 w1 w2 w3 w4 S5 ⊢
      clear S5a s5 z5 h5 n5 m5 S4
      refine ⟨_, rfl, _, rfl, _, rfl, _, rfl, (by show 4 ≤ sizeLine; decide), fun t6 n6 => ?_⟩
      have s6 := same_new (o := .tup [.int 0, .int p, .int p, .int (-q)]) n6
      have h6 : upd H5 t6 (.tup [.int 0, .int p, .int p, .int (-q)]) t6 = some (.tup [.int 0, .int p, .int p, .int (-q)]) := upd_same
      try dsimp only
      generalize upd H5 t6 (.tup [.int 0, .int p, .int p, .int (-q)]) = G6 at s6 h6 ⊢
      have S6a := S5.trans s6
      refine ⟨_, rfl, _, rfl, (by show 2 ≤ sizeLine; decide), fun u6 m6 => ?_⟩
      have z6 := same_new (o := .tup [.ref t6, .int (-k)]) m6
      have w6 : PrAt K (upd G6 u6 (.tup [.ref t6, .int (-k)])) (.ref u6) ([0, p, p, -q], (-k)) := ⟨u6, t6, rfl, upd_same, SqT.of (z6 _ _ h6)⟩
      replace w0 := (w0.keep s6).keep z6
      replace w1 := (w1.keep s6).keep z6
      replace w2 := (w2.keep s6).keep z6
      replace w3 := (w3.keep s6).keep z6
      replace w4 := (w4.keep s6).keep z6
      replace w5 := (w5.keep s6).keep z6
      have S6 := S6a.trans z6
      try dsimp only
      generalize upd G6 u6 (.tup [.ref t6, .int (-k)]) = H6 at z6 w6 w0 w1 w2 w3 w4 w5 S6 ⊢
      clear S6a s6 z6 h6 n6 m6 S5
      refine ⟨_, rfl, _, rfl, _, rfl, _, rfl, _, rfl, (by show 4 ≤ sizeLine; decide), fun t7 n7 => ?_⟩
      have s7 := same_new (o := .tup [.int 0, .int (-q), .int (-q), .int p]) n7
      have h7 : upd H6 t7 (.tup [.int 0, .int (-q), .int (-q), .int p]) t7 = some (.tup [.int 0, .int (-q), .int (-q), .int p]) := upd_same
      try dsimp only
      generalize upd H6 t7 (.tup [.int 0, .int (-q), .int (-q), .int p]) = G7 at s7 h7 ⊢
      have S7a := S6.trans s7
      refine ⟨_, rfl, _, rfl, (by show 2 ≤ sizeLine; decide), fun u7 m7 => ?_⟩
      have z7 := same_new (o := .tup [.ref t7, .int (-k)]) m7
      have w7 : PrAt K (upd G7 u7 (.tup [.ref t7, .int (-k)])) (.ref u7) ([0, -q, -q, p], (-k)) := ⟨u7, t7, rfl, upd_same, SqT.of (z7 _ _ h7)⟩
      replace w0 := (w0.keep s7).keep z7
      replace w1 := (w1.keep s7).keep z7
      replace w2 := (w2.keep s7).keep z7
      replace w3 := (w3.keep s7).keep z7
      replace w4 := (w4.keep s7).keep z7
      replace w5 := (w5.keep s7).keep z7
      replace w6 := (w6.keep s7).keep z7
      have S7 := S7a.trans z7
      try dsimp only
      generalize upd G7 u7 (.tup [.ref t7, .int (-k)]) = H7 at z7 w7 w0 w1 w2 w3 w4 w5 w6 S7 ⊢
      clear S7a s7 z7 h7 n7 m7 S6
      refine ⟨_, rfl, _, rfl, _, rfl, (by show 4 ≤ sizeLine; decide), fun t8 n8 => ?_⟩
      have s8 := same_new (o := .tup [.int 0, .int p, .int (-q), .int 0]) n8
      have h8 : upd H7 t8 (.tup [.int 0, .int p, .int (-q), .int 0]) t8 = some (.tup [.int 0, .int p, .int (-q), .int 0]) := upd_same
      try dsimp only
      generalize upd H7 t8 (.tup [.int 0, .int p, .int (-q), .int 0]) = G8 at s8 h8 ⊢
      have S8a := S7.trans s8
      refine ⟨_, rfl, _, rfl, (by show 2 ≤ sizeLine; decide), fun u8 m8 => ?_⟩
      have z8 := same_new (o := .tup [.ref t8, .int (-k)]) m8
      have w8 : PrAt K (upd G8 u8 (.tup [.ref t8, .int (-k)])) (.ref u8) ([0, p, -q, 0], (-k)) := ⟨u8, t8, rfl, upd_same, SqT.of (z8 _ _ h8)⟩
      replace w0 := (w0.keep s8).keep z8
      replace w1 := (w1.keep s8).keep z8
      replace w2 := (w2.keep s8).keep z8
      replace w3 := (w3.keep s8).keep z8
      replace w4 := (w4.keep s8).keep z8
      replace w5 := (w5.keep s8).keep z8
      replace w6 := (w6.keep s8).keep z8
      replace w7 := (w7.keep s8).keep z8
      have S8 := S8a.trans z8
      try dsimp only
      generalize upd G8 u8 (.tup [.ref t8, .int (-k)]) = H8 at z8 w8 w0 w1 w2 w3 w4 w5 w6 w7 S8 ⊢
      clear S8a s8 z8 h8 n8 m8 S7
      refine ⟨_, rfl, _, rfl, _, rfl, (by show 4 ≤ sizeLine; decide), fun t9 n9 => ?_⟩
      have s9 := same_new (o := .tup [.int 0, .int (-q), .int p, .int 0]) n9
      have h9 : upd H8 t9 (.tup [.int 0, .int (-q), .int p, .int 0]) t9 = some (.tup [.int 0, .int (-q), .int p, .int 0]) := upd_same
      try dsimp only
      generalize upd H8 t9 (.tup [.int 0, .int (-q), .int p, .int 0]) = G9 at s9 h9 ⊢
      have S9a := S8.trans s9
      refine ⟨_, rfl, _, rfl, (by show 2 ≤ sizeLine; decide), fun u9 m9 => ?_⟩
      have z9 := same_new (o := .tup [.ref t9, .int (-k)]) m9
      have w9 : PrAt K (upd G9 u9 (.tup [.ref t9, .int (-k)])) (.ref u9) ([0, -q, p, 0], (-k)) := ⟨u9, t9, rfl, upd_same, SqT.of (z9 _ _ h9)⟩
      replace w0 := (w0.keep s9).keep z9
      replace w1 := (w1.keep s9).keep z9
      replace w2 := (w2.keep s9).keep z9
      replace w3 := (w3.keep s9).keep z9
      replace w4 := (w4.keep s9).keep z9
      replace w5 := (w5.keep s9).keep z9
      replace w6 := (w6.keep s9).keep z9
      replace w7 := (w7.keep s9).keep z9
      replace w8 := (w8.keep s9).keep z9
      have S9 := S9a.trans z9
      try dsimp only
      generalize upd G9 u9 (.tup [.ref t9, .int (-k)]) = H9 at z9 w9 w0 w1 w2 w3 w4 w5 w6 w7 w8 S9 ⊢
      clear S9a s9 z9 h9 n9 m9 S8
      refine ⟨(by show 10 ≤ sizeLine; decide), fun l hl => ?_⟩
      refine kk l _ (Same.gone S9 hl) (S9.trans (same_new hl)) ⟨_, upd_same, rfl, fun i pr e => ?_⟩
      have sl := same_new (o := .lst [.ref u0, .ref u1, .ref u2, .ref u3, .ref u4, .ref u5, .ref u6, .ref u7, .ref u8, .ref u9]) hl
      match i, e with
      | 0, e => exact ⟨_, rfl, by rw [← Option.some.inj e]; exact w0.keep sl⟩
      | 1, e => exact ⟨_, rfl, by rw [← Option.some.inj e]; exact w1.keep sl⟩
      | 2, e => exact ⟨_, rfl, by rw [← Option.some.inj e]; exact w2.keep sl⟩
      | 3, e => exact ⟨_, rfl, by rw [← Option.some.inj e]; exact w3.keep sl⟩
      | 4, e => exact ⟨_, rfl, by rw [← Option.some.inj e]; exact w4.keep sl⟩
      | 5, e => exact ⟨_, rfl, by rw [← Option.some.inj e]; exact w5.keep sl⟩
      | 6, e => exact ⟨_, rfl, by rw [← Option.some.inj e]; exact w6.keep sl⟩
      | 7, e => exact ⟨_, rfl, by rw [← Option.some.inj e]; exact w7.keep sl⟩
      | 8, e => exact ⟨_, rfl, by rw [← Option.some.inj e]; exact w8.keep sl⟩
      | 9, e => exact ⟨_, rfl, by rw [← Option.some.inj e]; exact w9.keep sl⟩
      | _ + 10, e => cases e
    · -- take
      refine ⟨(by show 4 ≤ sizeLine; decide), fun t0 n0 => ?_⟩
      have s0 := same_new (o := .tup [.int 1, .int 0, .int 0, .int 0]) n0
      have h0 : upd H t0 (.tup [.int 1, .int 0, .int 0, .int 0]) t0 = some (.tup [.int 1, .int 0, .int 0, .int 0]) := upd_same
      try dsimp only
      generalize upd H t0 (.tup [.int 1, .int 0, .int 0, .int 0]) = G0 at s0 h0 ⊢
      have S0a := (Same.refl H).trans s0
      refine ⟨(by show 2 ≤ sizeLine; decide), fun u0 m0 => ?_⟩
      have z0 := same_new (o := .tup [.ref t0, .int 1]) m0
      have w0 : PrAt K (upd G0 u0 (.tup [.ref t0, .int 1])) (.ref u0) ([1, 0, 0, 0], 1) := ⟨u0, t0, rfl, upd_same, SqT.of (z0 _ _ h0)⟩
      have S0 := S0a.trans z0
      try dsimp only
      generalize upd G0 u0 (.tup [.ref t0, .int 1]) = H0 at z0 w0  S0 ⊢
      clear S0a s0 z0 h0 n0 m0
      refine ⟨(by show 4 ≤ sizeLine; decide), fun t1 n1 => ?_⟩
      have s1 := same_new (o := .tup [.int 0, .int 1, .int 0, .int 0]) n1
      have h1 : upd H0 t1 (.tup [.int 0, .int 1, .int 0, .int 0]) t1 = some (.tup [.int 0, .int 1, .int 0, .int 0]) := upd_same
      try dsimp only
      generalize upd H0 t1 (.tup [.int 0, .int 1, .int 0, .int 0]) = G1 at s1 h1 ⊢
      have S1a := S0.trans s1
      refine ⟨(by show 2 ≤ sizeLine; decide), fun u1 m1 => ?_⟩
      have z1 := same_new (o := .tup [.ref t1, .int 1]) m1
      have w1 : PrAt K (upd G1 u1 (.tup [.ref t1, .int 1])) (.ref u1) ([0, 1, 0, 0], 1) := ⟨u1, t1, rfl, upd_same, SqT.of (z1 _ _ h1)⟩
      replace w0 := (w0.keep s1).keep z1
      have S1 := S1a.trans z1
      try dsimp only
      generalize upd G1 u1 (.tup [.ref t1, .int 1]) = H1 at z1 w1 w0 S1 ⊢
      clear S1a s1 z1 h1 n1 m1 S0
      refine ⟨(by show 4 ≤ sizeLine; decide), fun t2 n2 => ?_⟩
      have s2 := same_new (o := .tup [.int 0, .int 0, .int 1, .int 0]) n2
      have h2 : upd H1 t2 (.tup [.int 0, .int 0, .int 1, .int 0]) t2 = some (.tup [.int 0, .int 0, .int 1, .int 0]) := upd_same
      try dsimp only
      generalize upd H1 t2 (.tup [.int 0, .int 0, .int 1, .int 0]) = G2 at s2 h2 ⊢
      have S2a := S1.trans s2
      refine ⟨(by show 2 ≤ sizeLine; decide), fun u2 m2 => ?_⟩
      have z2 := same_new (o := .tup [.ref t2, .int 1]) m2
      have w2 : PrAt K (upd G2 u2 (.tup [.ref t2, .int 1])) (.ref u2) ([0, 0, 1, 0], 1) := ⟨u2, t2, rfl, upd_same, SqT.of (z2 _ _ h2)⟩
      replace w0 := (w0.keep s2).keep z2
      replace w1 := (w1.keep s2).keep z2
      have S2 := S2a.trans z2
      try dsimp only
      generalize upd G2 u2 (.tup [.ref t2, .int 1]) = H2 at z2 w2 w0 w1 S2 ⊢
      clear S2a s2 z2 h2 n2 m2 S1
      refine ⟨(by show 4 ≤ sizeLine; decide), fun t3 n3 => ?_⟩
      have s3 := same_new (o := .tup [.int 0, .int 0, .int 0, .int 1]) n3
      have h3 : upd H2 t3 (.tup [.int 0, .int 0, .int 0, .int 1]) t3 = some (.tup [.int 0, .int 0, .int 0, .int 1]) := upd_same
      try dsimp only
      generalize upd H2 t3 (.tup [.int 0, .int 0, .int 0, .int 1]) = G3 at s3 h3 ⊢
      have S3a := S2.trans s3
      refine ⟨(by show 2 ≤ sizeLine; decide), fun u3 m3 => ?_⟩
      have z3 := same_new (o := .tup [.ref t3, .int 1]) m3
      have w3 : PrAt K (upd G3 u3 (.tup [.ref t3, .int 1])) (.ref u3) ([0, 0, 0, 1], 1) := ⟨u3, t3, rfl, upd_same, SqT.of (z3 _ _ h3)⟩
      replace w0 := (w0.keep s3).keep z3
      replace w1 := (w1.keep s3).keep z3
      replace w2 := (w2.keep s3).keep z3
      have S3 := S3a.trans z3
      try dsimp only
      generalize upd G3 u3 (.tup [.ref t3, .int 1]) = H3 at z3 w3 w0 w1 w2 S3 ⊢
      clear S3a s3 z3 h3 n3 m3 S2
      refine ⟨_, rfl, _, rfl, _, rfl, _, rfl, _, rfl, (by show 4 ≤ sizeLine; decide), fun t4 n4 => ?_⟩
      have s4 := same_new (o := .tup [.int (-p), .int q, .int q, .int q]) n4
      have h4 : upd H3 t4 (.tup [.int (-p), .int q, .int q, .int q]) t4 = some (.tup [.int (-p), .int q, .int q, .int q]) := upd_same
      try dsimp only
      generalize upd H3 t4 (.tup [.int (-p), .int q, .int q, .int q]) = G4 at s4 h4 ⊢
      have S4a := S3.trans s4
      refine ⟨_, rfl, _, _, rfl, rfl, (by show 2 ≤ sizeLine; decide), fun u4 m4 => ?_⟩
      have z4 := same_new (o := .tup [.ref t4, .int (k + 1)]) m4
      have w4 : PrAt K (upd G4 u4 (.tup [.ref t4, .int (k + 1)])) (.ref u4) ([-p, q, q, q], (k + 1)) := ⟨u4, t4, rfl, upd_same, SqT.of (z4 _ _ h4)⟩
      replace w0 := (w0.keep s4).keep z4
      replace w1 := (w1.keep s4).keep z4
      replace w2 := (w2.keep s4).keep z4
      replace w3 := (w3.keep s4).keep z4
      have S4 := S4a.trans z4
      try dsimp only
      generalize upd G4 u4 (.tup [.ref t4, .int (k + 1)]) = H4 at z4 w4 w0 w1 w2 w3 S4 ⊢
      clear S4a s4 z4 h4 n4 m4 S3
      refine ⟨_, rfl, _, rfl, _, rfl, _, rfl, _, rfl, _, rfl, _, rfl, (by show 4 ≤ sizeLine; decide), fun t5 n5 => ?_⟩
      have s5 := same_new (o := .tup [.int p, .int (-q), .int (-q), .int (-q)]) n5
      have h5 : upd H4 t5 (.tup [.int p, .int (-q), .int (-q), .int (-q)]) t5 = some (.tup [.int p, .int (-q), .int (-q), .int (-q)]) := upd_same
      try dsimp only
      generalize upd H4 t5 (.tup [.int p, .int (-q), .int (-q), .int (-q)]) = G5 at s5 h5 ⊢
      have S5a := S4.trans s5
      refine ⟨_, rfl, _, rfl, _, rfl, rfl, _, rfl, ?_⟩
      rw [show decide (V.str (deedS false) = V.str "put") = false by decide +kernel]
      refine iteF ⟨_, rfl, _, _, rfl, rfl, (by show 2 ≤ sizeLine; decide), fun u5 m5 => ?_⟩
      have z5 := same_new (o := .tup [.ref t5, .int (-k - p)]) m5
      have w5 : PrAt K (upd G5 u5 (.tup [.ref t5, .int (-k - p)])) (.ref u5) ([p, -q, -q, -q], (-k - p)) := ⟨u5, t5, rfl, upd_same, SqT.of (z5 _ _ h5)⟩
      replace w0 := (w0.keep s5).keep z5
      replace w1 := (w1.keep s5).keep z5
      replace w2 := (w2.keep s5).keep z5
      replace w3 := (w3.keep s5).keep z5
      replace w4 := (w4.keep s5).keep z5
      have S5 := S5a.trans z5
      try dsimp only
      generalize upd G5 u5 (.tup [.ref t5, .int (-k - p)]) = H5 at z5 w5 w0 w1 w2 w3 w4 S5 ⊢
      clear S5a s5 z5 h5 n5 m5 S4
      refine ⟨_, rfl, _, rfl, _, rfl, _, rfl, (by show 4 ≤ sizeLine; decide), fun t6 n6 => ?_⟩
      have s6 := same_new (o := .tup [.int 0, .int p, .int p, .int (-q)]) n6
      have h6 : upd H5 t6 (.tup [.int 0, .int p, .int p, .int (-q)]) t6 = some (.tup [.int 0, .int p, .int p, .int (-q)]) := upd_same
      try dsimp only
      generalize upd H5 t6 (.tup [.int 0, .int p, .int p, .int (-q)]) = G6 at s6 h6 ⊢
      have S6a := S5.trans s6
      refine ⟨_, rfl, _, rfl, (by show 2 ≤ sizeLine; decide), fun u6 m6 => ?_⟩
      have z6 := same_new (o := .tup [.ref t6, .int (-k)]) m6
      have w6 : PrAt K (upd G6 u6 (.tup [.ref t6, .int (-k)])) (.ref u6) ([0, p, p, -q], (-k)) := ⟨u6, t6, rfl, upd_same, SqT.of (z6 _ _ h6)⟩
      replace w0 := (w0.keep s6).keep z6
      replace w1 := (w1.keep s6).keep z6
      replace w2 := (w2.keep s6).keep z6
      replace w3 := (w3.keep s6).keep z6
      replace w4 := (w4.keep s6).keep z6
      replace w5 := (w5.keep s6).keep z6
      have S6 := S6a.trans z6
      try dsimp only
      generalize upd G6 u6 (.tup [.ref t6, .int (-k)]) = H6 at z6 w6 w0 w1 w2 w3 w4 w5 S6 ⊢
      clear S6a s6 z6 h6 n6 m6 S5
      refine ⟨_, rfl, _, rfl, _, rfl, _, rfl, _, rfl, (by show 4 ≤ sizeLine; decide), fun t7 n7 => ?_⟩
      have s7 := same_new (o := .tup [.int 0, .int (-q), .int (-q), .int p]) n7
      have h7 : upd H6 t7 (.tup [.int 0, .int (-q), .int (-q), .int p]) t7 = some (.tup [.int 0, .int (-q), .int (-q), .int p]) := upd_same
      try dsimp only
      generalize upd H6 t7 (.tup [.int 0, .int (-q), .int (-q), .int p]) = G7 at s7 h7 ⊢
      have S7a := S6.trans s7
      refine ⟨_, rfl, _, rfl, (by show 2 ≤ sizeLine; decide), fun u7 m7 => ?_⟩
      have z7 := same_new (o := .tup [.ref t7, .int (-k)]) m7
      have w7 : PrAt K (upd G7 u7 (.tup [.ref t7, .int (-k)])) (.ref u7) ([0, -q, -q, p], (-k)) := ⟨u7, t7, rfl, upd_same, SqT.of (z7 _ _ h7)⟩
      replace w0 := (w0.keep s7).keep z7
      replace w1 := (w1.keep s7).keep z7
      replace w2 := (w2.keep s7).keep z7
      replace w3 := (w3.keep s7).keep z7
      replace w4 := (w4.keep s7).keep z7
      replace w5 := (w5.keep s7).keep z7
      replace w6 := (w6.keep s7).keep z7
      have S7 := S7a.trans z7
      try dsimp only
      generalize upd G7 u7 (.tup [.ref t7, .int (-k)]) = H7 at z7 w7 w0 w1 w2 w3 w4 w5 w6 S7 ⊢
      clear S7a s7 z7 h7 n7 m7 S6
      refine ⟨_, rfl, _, rfl, _, rfl, (by show 4 ≤ sizeLine; decide), fun t8 n8 => ?_⟩
      have s8 := same_new (o := .tup [.int 0, .int p, .int (-q), .int 0]) n8
      have h8 : upd H7 t8 (.tup [.int 0, .int p, .int (-q), .int 0]) t8 = some (.tup [.int 0, .int p, .int (-q), .int 0]) := upd_same
      try dsimp only
      generalize upd H7 t8 (.tup [.int 0, .int p, .int (-q), .int 0]) = G8 at s8 h8 ⊢
      have S8a := S7.trans s8
      refine ⟨_, rfl, _, rfl, (by show 2 ≤ sizeLine; decide), fun u8 m8 => ?_⟩
      have z8 := same_new (o := .tup [.ref t8, .int (-k)]) m8
      have w8 : PrAt K (upd G8 u8 (.tup [.ref t8, .int (-k)])) (.ref u8) ([0, p, -q, 0], (-k)) := ⟨u8, t8, rfl, upd_same, SqT.of (z8 _ _ h8)⟩
      replace w0 := (w0.keep s8).keep z8
      replace w1 := (w1.keep s8).keep z8
      replace w2 := (w2.keep s8).keep z8
      replace w3 := (w3.keep s8).keep z8
      replace w4 := (w4.keep s8).keep z8
      replace w5 := (w5.keep s8).keep z8
      replace w6 := (w6.keep s8).keep z8
      replace w7 := (w7.keep s8).keep z8
      have S8 := S8a.trans z8
      try dsimp only
      generalize upd G8 u8 (.tup [.ref t8, .int (-k)]) = H8 at z8 w8 w0 w1 w2 w3 w4 w5 w6 w7 S8 ⊢
      clear S8a s8 z8 h8 n8 m8 S7
      refine ⟨_, rfl, _, rfl, _, rfl, (by show 4 ≤ sizeLine; decide), fun t9 n9 => ?_⟩
      have s9 := same_new (o := .tup [.int 0, .int (-q), .int p, .int 0]) n9
      have h9 : upd H8 t9 (.tup [.int 0, .int (-q), .int p, .int 0]) t9 = some (.tup [.int 0, .int (-q), .int p, .int 0]) := upd_same
      try dsimp only
      generalize upd H8 t9 (.tup [.int 0, .int (-q), .int p, .int 0]) = G9 at s9 h9 ⊢
      have S9a := S8.trans s9
      refine ⟨_, rfl, _, rfl, (by show 2 ≤ sizeLine; decide), fun u9 m9 => ?_⟩
      have z9 := same_new (o := .tup [.ref t9, .int (-k)]) m9
      have w9 : PrAt K (upd G9 u9 (.tup [.ref t9, .int (-k)])) (.ref u9) ([0, -q, p, 0], (-k)) := ⟨u9, t9, rfl, upd_same, SqT.of (z9 _ _ h9)⟩
      replace w0 := (w0.keep s9).keep z9
      replace w1 := (w1.keep s9).keep z9
      replace w2 := (w2.keep s9).keep z9
      replace w3 := (w3.keep s9).keep z9
      replace w4 := (w4.keep s9).keep z9
      replace w5 := (w5.keep s9).keep z9
      replace w6 := (w6.keep s9).keep z9
      replace w7 := (w7.keep s9).keep z9
      replace w8 := (w8.keep s9).keep z9
      have S9 := S9a.trans z9
      try dsimp only
      generalize upd G9 u9 (.tup [.ref t9, .int (-k)]) = H9 at z9 w9 w0 w1 w2 w3 w4 w5 w6 w7 w8 S9 ⊢
      clear S9a s9 z9 h9 n9 m9 S8
      refine ⟨(by show 10 ≤ sizeLine; decide), fun l hl => ?_⟩
      refine kk l _ (Same.gone S9 hl) (S9.trans (same_new hl)) ⟨_, upd_same, rfl, fun i pr e => ?_⟩
      have sl := same_new (o := .lst [.ref u0, .ref u1, .ref u2, .ref u3, .ref u4, .ref u5, .ref u6, .ref u7, .ref u8, .ref u9]) hl
      match i, e with
      | 0, e => exact ⟨_, rfl, by rw [← Option.some.inj e]; exact w0.keep sl⟩
      | 1, e => exact ⟨_, rfl, by rw [← Option.some.inj e]; exact w1.keep sl⟩
      | 2, e => exact ⟨_, rfl, by rw [← Option.some.inj e]; exact w2.keep sl⟩
      | 3, e => exact ⟨_, rfl, by rw [← Option.some.inj e]; exact w3.keep sl⟩
      | 4, e => exact ⟨_, rfl, by rw [← Option.some.inj e]; exact w4.keep sl⟩
      | 5, e => exact ⟨_, rfl, by rw [← Option.some.inj e]; exact w5.keep sl⟩
      | 6, e => exact ⟨_, rfl, by rw [← Option.some.inj e]; exact w6.keep sl⟩
      | 7, e => exact ⟨_, rfl, by rw [← Option.some.inj e]; exact w7.keep sl⟩
      | 8, e => exact ⟨_, rfl, by rw [← Option.some.inj e]; exact w8.keep sl⟩
      | 9, e => exact ⟨_, rfl, by rw [← Option.some.inj e]; exact w9.keep sl⟩
      | _ + 10, e => cases e
end
end Ev
namespace Ev
open PySem L2 PySem.Spec PyProof.Rows RZ
theorem walk_TT {K : PySem.W.Frag} {a b : Addr} {xs ys : List V} {n : Nat} (hn : n = xs.length) (hl : xs.length = ys.length) : Walk (RZ.ItzT K a b) n (fun H => SqT K H a xs ∧ SqT K H b ys) (YPair (fun i => xs[i]?) (fun i => ys[i]?)) := by
  subst hn
  refine ⟨fun i H hi q => ⟨xs, ys, _, _, q.1, q.2, List.getElem?_eq_getElem hi, List.getElem?_eq_getElem (by omega)⟩, fun H q => ⟨xs, ys, q.1, q.2, .inl (Nat.le_refl _)⟩, fun i H v H' hi q y => ?_⟩
  obtain ⟨T, x, z, h1, h2, h3, h4, h5⟩ := y
  exact ⟨T, x, z, h1, h2, h3, h4 xs q.1, h5 ys q.2⟩
theorem int_at {ns : List Int} {i : Nat} {x : V} (h : (ns.map V.int)[i]? = some x) : ∃ n, ns[i]? = some n ∧ x = .int n := by
  rw [List.getElem?_map] at h
  cases z : ns[i]? with
  | none => rw [z] at h; cases h
  | some n => rw [z] at h; exact ⟨n, rfl, (Option.some.inj h).symm⟩
def turnR (t s r : Int) (once short : Bool) : List Int × Int := if once then ([0, -s, t], -r) else (if short then [0, s, -t] else [0, s, s, -t], r + 1)
def spTurnR (K : PySem.W.Frag) (Cn : Addr) : Sp := fun vs H Q _ => ∃ (x : Addr) (k t s r : Int) (dx aa bb : Addr) (o h : Bool), vs = [.ref x, .bl o, .bl h] ∧ H x = some (.ins Cn dx (turnF aa k bb r)) ∧ H bb = some (.tup [.int t, .int s]) ∧ ∀ v H', Same H H' → PrAt K H' v (turnR t s r o h) → Q v H'
/-- the sides of a node, as tuples -/
def SdV (K : PySem.W.Frag) (H : Hp) (v : V) (h o : List Int) : Prop := ∃ a b c : Addr, v = .ref a ∧ SqT K H a [.ref b, .ref c] ∧ SqT K H b (h.map V.int) ∧ SqT K H c (o.map V.int)
theorem SdV.keep {K : PySem.W.Frag} {H H' : Hp} {v : V} {h o : List Int} (x : SdV K H v h o) (s : Same H H') : SdV K H' v h o := by
  obtain ⟨a, b, c, e, h1, h2, h3⟩ := x
  exact ⟨a, b, c, e, SqT.keep h1 s, SqT.keep h2 s, SqT.keep h3 s⟩
def heavyL (p q : Int) (h o : List Int) : List Int := List.zipWith (fun m i => q * m - p * i) h o
def spTooH (K : PySem.W.Frag) : Sp := fun vs H Q _ => ∃ (r : Addr) (p q k : Int) (v : V) (h o : List Int) (b : Bk), vs = [.ref r, v, .str b.s] ∧ RB K H r p q k ∧ SdV K H v h o ∧ h.length = o.length ∧ h.length ≤ 10 ∧ ∀ v H', Same H H' → PrAt K H' v (if b.s = "first" then heavyL p q h o else heavyL p q o h, k + 1) → Q v H'
def spListInt (K : PySem.W.Frag) : Sp := fun vs H Q _ => ∃ (a : Addr) (ns : List Int), vs = [.ref a] ∧ H a = some (.tup (ns.map V.int)) ∧ ∀ H', Same H H' → Q (.bl true) H'
def dot : List Int → List Int → Int
  | [a, b, c], [x, y, z] => a * x + b * y + c * z
  | [a, b, c, d], [x, y, z, u] => a * x + b * y + c * z + d * u
  | _, _ => 0
def keepB (rows : List (List Int × Int)) (ns : List Int) : Bool := rows.all fun pr => decide (¬ dot pr.1 ns < pr.2)
def smallR (n : Nat) (rows : List (List Int × Int)) : Prop := ∀ pr ∈ rows, pr.1.length = n ∧ ∀ x ∈ pr.1, -100 ≤ x ∧ x ≤ 100
def spKeep (K : PySem.W.Frag) (n : Nat) : Sp := fun vs H Q _ => ∃ (l a : Addr) (rows : List (List Int × Int)) (ns : List Int), vs = [.ref l, .ref a] ∧ RowsAt K H l rows ∧ H a = some (.tup (ns.map V.int)) ∧ ns.length = n ∧ smallR n rows ∧ Q (.bl (keepB rows ns)) H
section
variable {P : Program} {w : World} {K : PySem.W.Frag} {mg : Str → Option Value} {base : Heap}
theorem scTurnR : FnScope ["rule", "is_once", "is_short", "over", "under"] ["rule", "is_once", "is_short"] (defScope sTurnRow) := ⟨rfl, rfl, rfl, by decide +kernel, rfl, by decide +kernel, by decide +kernel⟩
theorem ok_turnR {f Cn : Addr} {fd : FuncData} (F : Fun K "turn_row" "turn_row" sTurnRow f fd) (TN : RCls K Cn) : FnOk P w K mg base CX0 1 f fd ["rule", "is_once", "is_short"] (spTurnR K Cn) := by
  refine F.ok scTurnR (fun vs H Q E h => ?_) (fun cdv A outer s H vs Q E hr h => ?_)
  · obtain ⟨x, k, t, s, r, dx, aa, bb, o, h, rfl, _⟩ := h
    rfl
  · obtain ⟨x, k, t, s, r, dx, aa, bb, o, h, rfl, hx, hb, kk⟩ := h
    refine ⟨_, (pss_cons (ps_asg (pe_fld (pv 0) rfl) (pg_tup (by rfl) (pgs_cons (pg_name (i := 3) scTurnR.nd rfl (.inl rfl)) (pgs_cons (pg_name (i := 4) scTurnR.nd rfl (.inl rfl)) pgs_nil))))
    (pss_cons (ps_if (pt_val (pv 1))
      (pss_one (ps_ret (pe_tup (pa_cons (pe_tup (pa_cons pe_int (pa_cons (pe_un un_neg (pv 4)) (pa_cons (pv 3) pa_nil)))) (pa_cons (pe_un un_neg (pe_fld (pv 0) rfl)) pa_nil))))) pss_nil)
    (pss_one (ps_ret (pe_tup (pa_cons (pe_ifExp (pt_val (pv 2)) (pe_tup (pa_cons pe_int (pa_cons (pv 4) (pa_cons (pe_un un_neg (pv 3)) pa_nil)))) (pe_tup (pa_cons pe_int (pa_cons (pv 4) (pa_cons (pv 4) (pa_cons (pe_un un_neg (pv 3)) pa_nil)))))) (pa_cons (pe_op op_add (pe_fld (pv 0) rfl) pe_int) pa_nil))))))), ?_⟩
    refine ⟨_, rfl, x, Cn, dx, _, _, rfl, hx, TN.cl, TN.n3, turn_turn aa k bb r, bb, _, rfl, SqT.of hb, rfl, _, _, rfl, _, _, rfl, rfl, ?_⟩
    refine ⟨_, rfl, o, rfl, ?_⟩
    have two : ∀ (u1 u2 : Addr) (xs : List V) (n : Int), H u1 = none → upd H u1 (.tup xs) u2 = none → (∀ ns : List Int, xs = ns.map V.int → PrAt K (upd (upd H u1 (.tup xs)) u2 (.tup [.ref u1, .int n])) (.ref u2) (ns, n)) ∧ Same H (upd (upd H u1 (.tup xs)) u2 (.tup [.ref u1, .int n])) := fun u1 u2 xs n h1 h2 => by
      refine ⟨fun ns e => ⟨u2, u1, rfl, upd_same, ?_⟩, (same_new h1).trans (same_new h2)⟩
      rw [← e]
      exact SqT.of (same_new h2 _ _ upd_same)
    cases o with
    | true =>
      refine iteT ⟨_, rfl, _, rfl, _, rfl, (by show 3 ≤ sizeLine; decide), fun u hu => ⟨_, rfl, x, Cn, dx, _, _, rfl, same_new hu _ _ hx, TN.cl, TN.n4, turn_tp aa k bb r, _, rfl, (by show 2 ≤ sizeLine; decide), fun u2 hu2 => ?_⟩⟩
      have := two u u2 _ (-r) hu hu2
      exact kk _ _ this.2 (this.1 _ rfl)
    | false =>
      refine iteF ⟨_, rfl, h, rfl, ?_⟩
      cases h with
      | true =>
        refine iteT ⟨_, rfl, _, rfl, _, rfl, (by show 3 ≤ sizeLine; decide), fun u hu => ⟨_, rfl, x, Cn, dx, _, _, rfl, same_new hu _ _ hx, TN.cl, TN.n4, turn_tp aa k bb r, _, _, rfl, rfl, (by show 2 ≤ sizeLine; decide), fun u2 hu2 => ?_⟩⟩
        have := two u u2 _ (r + 1) hu hu2
        exact kk _ _ this.2 (this.1 _ rfl)
      | false =>
        refine iteF ⟨_, rfl, _, rfl, _, rfl, _, rfl, (by show 4 ≤ sizeLine; decide), fun u hu => ⟨_, rfl, x, Cn, dx, _, _, rfl, same_new hu _ _ hx, TN.cl, TN.n4, turn_tp aa k bb r, _, _, rfl, rfl, (by show 2 ≤ sizeLine; decide), fun u2 hu2 => ?_⟩⟩
        have := two u u2 _ (r + 1) hu hu2
        exact kk _ _ this.2 (this.1 _ rfl)
abbrev nTh : List Str := ["rule", "sides", "side", "over", "under", "heavy", "other", "mine", "its"]
theorem scTooH : FnScope nTh ["rule", "sides", "side"] (defScope sTooHeavy) := ⟨rfl, rfl, rfl, by decide +kernel, rfl, by decide +kernel, by decide +kernel⟩
theorem tyes {σ : L2.St} {H : Hp} {Q : Bool → Hp → Prop} (h : Q true H) : tYes σ H Q := h
theorem SqT.butN {K : PySem.W.Frag} {H H' : Hp} {a D : Addr} {xs : List V} (h : SqT K H a xs) (n : H D = none) (s : But D H H') : SqT K H' a xs := by
  rcases h with (h | ⟨o, h⟩) | h
  · exact .inl (.inl (s _ _ (ne_of_none h n) h))
  · exact .inl (.inr ⟨o, s _ _ (ne_of_none h n) h⟩)
  · exact .inr h
theorem zw_at {α β γ : Type} {f : α → β → γ} {xs : List α} {ys : List β} {i : Nat} {x : α} {y : β} (hx : xs[i]? = some x) (hy : ys[i]? = some y) : (List.zipWith f xs ys)[i]? = some (f x y) := by
  rw [List.getElem?_zipWith, hx, hy]
theorem ok_tooH {f : Addr} {fd : FuncData} (F : Fun K "too_heavy" "too_heavy" sTooHeavy f fd) (T : Blt mg) (mz : mg "zip" = none) : FnOk P w K mg base CX0 1 f fd ["rule", "sides", "side"] (spTooH K) := by
  refine F.ok scTooH (fun vs H Q E h => ?_) (fun cdv A outer s H vs Q E hr h => ?_)
  · obtain ⟨r, p, q, k, v, h, o, b, rfl, _⟩ := h
    rfl
  · obtain ⟨r, p, q, k, v, h, o, b, rfl, ⟨⟨C, dx, fs, a, hr1, cl, n1, n2, l1, l2, ha⟩, b1, b2, b3, b4, b5⟩, ⟨sd, sh, so, rfl, hsd, hsh, hso⟩, hl, h10, kk⟩ := h
    refine ⟨_, (pss_cons (ps_asg (pe_fld (pv 0) rfl) (pg_tup (by rfl) (pgs_cons (pg_name (i := 3) scTooH.nd rfl (by first | exact .inl rfl | exact .inr rfl)) (pgs_cons (pg_name (i := 4) scTooH.nd rfl (by first | exact .inl rfl | exact .inr rfl)) pgs_nil))))
    (pss_cons (ps_asg (pe_ifExp (pt_cmpR op_eq (pv 2) pe_str (nomark _)) (pv 1) (pe_turn (pv 1))) (pg_tup (by rfl) (pgs_cons (pg_name (i := 5) scTooH.nd rfl (by first | exact .inl rfl | exact .inr rfl)) (pgs_cons (pg_name (i := 6) scTooH.nd rfl (by first | exact .inl rfl | exact .inr rfl)) pgs_nil))))
    (pss_one (ps_ret (pe_tup (pa_cons (pe_callTy call_tuple_of (by rfl) T.tuple (by decide +kernel) (pa_cons (pe_lc (own := [("mine", 7), ("its", 8)]) (g := gTup K 2 (gCons (gName 7) (gCons (gName 8) gNil))) (tt := tYes) (by rfl) scTooH.nd (RZ.pi_zipA (by rfl) mz (pa_cons (pv 5) (pa_cons (pv 6) pa_nil))) (blkOk_by (own := [("mine", 7), ("its", 8)]) (N := nTh) (sc := defScope sTooHeavy) (by decide +kernel)) (fun _ _ _ _ _ => pg_tup (by rfl) (pgs_cons (pg_name (i := 7) scTooH.nd rfl (.inl rfl)) (pgs_cons (pg_name (i := 8) scTooH.nd rfl (.inl rfl)) pgs_nil))) (fun _ _ _ _ _ => pts_nil) (fun _ _ _ _ _ => (pe_op op_sub (pe_op op_mul (pv 4) (pv 7)) (pe_op op_mul (pv 3) (pv 8))))) pa_nil)) (pa_cons (pe_op op_add (pe_fld (pv 0) rfl) pe_int) pa_nil))))))), ?_⟩
    have q6 := m64 b1 (show q ≤ 8 by omega)
    have p6 := m64 (show 1 ≤ p by omega) (show p ≤ 8 by omega)
    refine ⟨_, rfl, r, C, dx, fs, _, rfl, hr1, cl, n1, l1, a, _, rfl, SqT.of ha, rfl, _, _, rfl, _, _, rfl, rfl, ?_⟩
    refine ⟨_, rfl, rfl, _, rfl, ?_⟩
    by_cases e : b.s = "first"
    · rw [if_pos e] at kk
      rw [show decide (V.str b.s = V.str "first") = true from decide_eq_true (by rw [e])]
      refine iteT ⟨_, rfl, sd, _, rfl, hsd, rfl, _, _, rfl, _, _, rfl, rfl, ?_⟩
      refine ⟨_, rfl, _, rfl, sh, so, _, _, rfl, .inr ⟨hsh, hso, fun D nD => ?_⟩⟩
      refine lc_it (n := h.length) (walk_TT (xs := h.map V.int) (ys := o.map V.int) (by simp) (by simp [hl])) (fun i H' => H' D = some (.lst (((heavyL p q h o).take i).map V.int)) ∧ But D H H') ⟨upd_same, But.upd_at⟩
        (fun i H' _ h => ⟨SqT.butN hsh nD h.2, SqT.butN hso nD h.2⟩) (fun i v H2 H3 hi ⟨e1, e2⟩ y => ?_) (fun H2 ⟨e1, e2⟩ => ?_)
      · obtain ⟨T', u, z, rfl, nT, rfl, h4, h5⟩ := y
        obtain ⟨m, hm, rfl⟩ := int_at h4
        obtain ⟨n, hn, rfl⟩ := int_at h5
        have sT := same_new (o := .tup [.int m, .int n]) nT
        have eD := sT _ _ e1
        refine ⟨T', _, rfl, SqT.of upd_same, rfl, _, _, rfl, _, _, rfl, rfl, rfl, ?_⟩
        refine tyes ⟨_, rfl, _, rfl, _, _, rfl, rfl, .inl q6, _, rfl, _, rfl, _, _, rfl, rfl, .inl p6, _, _, rfl, rfl, _, eD, ?_, ?_, ?_⟩
        · rw [List.length_map, List.length_take]
          exact Nat.lt_of_le_of_lt (Nat.min_le_left _ _) (Nat.lt_of_lt_of_le (show i < 10 by omega) (by decide))
        · rw [List.take_add_one, show (heavyL p q h o)[i]? = some (q * m - p * n) from zw_at hm hn, List.map_append]
          exact upd_same
        · exact fun c o nc ec => by rw [upd_ne nc]; exact sT _ _ (e2 c o nc ec)
      · have hz : (heavyL p q h o).length = h.length := by
          unfold heavyL
          rw [List.length_zipWith]; omega
        rw [← hz, List.take_length] at e1
        have sG : Same H H2 := fun c o e => e2 c o (ne_of_none e nD) e
        refine ⟨D, _, rfl, .inl ⟨SqL.of e1, fun tl ntl => ?_⟩⟩
        have s2 := sG.trans (same_new (o := .tup ((heavyL p q h o).map V.int)) ntl)
        refine ⟨_, rfl, r, C, dx, fs, _, rfl, s2 _ _ hr1, cl, n2, l2, _, _, rfl, rfl, (by show 2 ≤ sizeLine; decide), fun u hu => ?_⟩
        exact kk _ _ (s2.trans (same_new hu)) ⟨u, tl, rfl, upd_same, SqT.of (same_new hu _ _ upd_same)⟩
    · rw [if_neg e] at kk
      rw [show decide (V.str b.s = V.str "first") = false from decide_eq_false (fun z => e (V.str.inj z))]
      refine iteF ⟨_, rfl, sd, _, rfl, hsd, fun sr nr => ?_⟩
      have S1 := same_new (o := .tup [.ref so, .ref sh]) nr
      have hsr : upd H sr (.tup [.ref so, .ref sh]) sr = some (.tup [.ref so, .ref sh]) := upd_same
      have qh := SqT.keep hsh S1
      have qo := SqT.keep hso S1
      rw [show ([V.ref sh, V.ref so] : List V).reverse = [.ref so, .ref sh] from rfl]
      generalize upd H sr (.tup [.ref so, .ref sh]) = G at S1 hsr qh qo ⊢
      refine ⟨sr, _, rfl, SqT.of hsr, rfl, _, _, rfl, _, _, rfl, rfl, ?_⟩
      refine ⟨_, rfl, _, rfl, so, sh, _, _, rfl, .inr ⟨qo, qh, fun D nD => ?_⟩⟩
      refine lc_it (n := o.length) (walk_TT (xs := o.map V.int) (ys := h.map V.int) (by simp) (by simp [hl])) (fun i H' => H' D = some (.lst (((heavyL p q o h).take i).map V.int)) ∧ But D G H') ⟨upd_same, But.upd_at⟩
        (fun i H' _ h => ⟨SqT.butN qo nD h.2, SqT.butN qh nD h.2⟩) (fun i v H2 H3 hi ⟨e1, e2⟩ y => ?_) (fun H2 ⟨e1, e2⟩ => ?_)
      · obtain ⟨T', u, z, rfl, nT, rfl, h4, h5⟩ := y
        obtain ⟨m, hm, rfl⟩ := int_at h4
        obtain ⟨n, hn, rfl⟩ := int_at h5
        have sT := same_new (o := .tup [.int m, .int n]) nT
        have eD := sT _ _ e1
        refine ⟨T', _, rfl, SqT.of upd_same, rfl, _, _, rfl, _, _, rfl, rfl, rfl, ?_⟩
        refine tyes ⟨_, rfl, _, rfl, _, _, rfl, rfl, .inl q6, _, rfl, _, rfl, _, _, rfl, rfl, .inl p6, _, _, rfl, rfl, _, eD, ?_, ?_, ?_⟩
        · rw [List.length_map, List.length_take]
          exact Nat.lt_of_le_of_lt (Nat.min_le_left _ _) (Nat.lt_of_lt_of_le (show i < 10 by omega) (by decide))
        · rw [List.take_add_one, show (heavyL p q o h)[i]? = some (q * m - p * n) from zw_at hm hn, List.map_append]
          exact upd_same
        · exact fun c o nc ec => by rw [upd_ne nc]; exact sT _ _ (e2 c o nc ec)
      · have hz : (heavyL p q o h).length = o.length := by
          unfold heavyL
          rw [List.length_zipWith]; omega
        rw [← hz, List.take_length] at e1
        have sG : Same H H2 := fun c o e => e2 c o (ne_of_none (S1 _ _ e) nD) (S1 _ _ e)
        refine ⟨D, _, rfl, .inl ⟨SqL.of e1, fun tl ntl => ?_⟩⟩
        have s2 := sG.trans (same_new (o := .tup ((heavyL p q o h).map V.int)) ntl)
        refine ⟨_, rfl, r, C, dx, fs, _, rfl, s2 _ _ hr1, cl, n2, l2, _, _, rfl, rfl, (by show 2 ≤ sizeLine; decide), fun u hu => ?_⟩
        exact kk _ _ (s2.trans (same_new hu)) ⟨u, tl, rfl, upd_same, SqT.of (same_new hu _ _ upd_same)⟩
theorem scListInt : FnScope ["value", "item"] ["value"] (defScope sIsListOfIntegers) := ⟨rfl, rfl, rfl, by decide +kernel, rfl, by decide +kernel, by decide +kernel⟩
theorem ok_listInt {f : Addr} {fd : FuncData} (F : Fun K "is_list_of_integers" "is_list_of_integers" sIsListOfIntegers f fd) (T : Blt mg) : FnOk P w K mg base CX0 1 f fd ["value"] (spListInt K) := by
  refine F.ok scListInt (fun vs H Q E h => ?_) (fun cdv A outer s H vs Q E hr h => ?_)
  · obtain ⟨a, ns, rfl, _⟩ := h
    rfl
  · obtain ⟨a, ns, rfl, ha, kk⟩ := h
    refine ⟨_, (pss_cons (ps_if (pt_not (pt_val (pe_callB call_isiT (by rfl) T.isi (by decide +kernel) (pa_cons (pv 0) (pa_cons (pe_tup (pa_cons (pe_bltn (v := .ty "list") (by rfl) T.list (by decide +kernel) rfl) (pa_cons (pe_bltn (v := .ty "tuple") (by rfl) T.tuple (by decide +kernel) rfl) pa_nil))) pa_nil)))))
      (pss_one ps_never) pss_nil)
    (pss_cons (ps_for PassesOwn.never rfl (pi_tup (pv 0)) (pg_name (i := 1) scListInt.nd rfl (.inl rfl))
      (pss_one (ps_if (PW.pt (pw_or (pt_not (pt_val (pe_callB call_isi (by rfl) T.isi (by decide +kernel) (pa_cons (pv 1) (pa_cons (pe_bltn (v := .ty "int") (by rfl) T.int (by decide +kernel) rfl) pa_nil))))) (pw_or1 (pt_val (pe_callB call_isi (by rfl) T.isi (by decide +kernel) (pa_cons (pv 1) (pa_cons (pe_bltn (v := .ty "bool") (by rfl) T.bool (by decide +kernel) rfl) pa_nil)))))))
        (pss_one ps_never) pss_nil)))
    (pss_one (ps_ret pe_bl)))), ?_⟩
    refine ⟨_, rfl, (by show 2 ≤ sizeLine; decide), fun tp ntp => ?_⟩
    have s1 := same_new (o := .tup [.ty "list", .ty "tuple"]) ntp
    refine ⟨_, tp, _, _, _, true, rfl, upd_same, .cons (.ty _) (.cons (.ty _) .nil), .base (.tup (s1 _ _ ha)), kit_any2 (r1 := false) (r2 := true) (by decide +kernel) (by decide +kernel), _, rfl, iteF ?_⟩
    generalize upd H tp (.tup [.ty "list", .ty "tuple"]) = H1 at s1 ⊢
    refine ⟨_, rfl, a, rfl, ⟨_, SqT.of (s1 _ _ ha)⟩, ?_⟩
    refine for_tup (xs := ns.map V.int) (fun i σ G => G = H1 ∧ ∃ z, σ = [some (.ref a), z]) ⟨rfl, _, rfl⟩ (fun i σ G _ h => by rw [h.1]; exact SqT.of (s1 _ _ ha)) (fun i v σ G hi hp => ?_) (fun σ G hp => ?_)
    · obtain ⟨rfl, z, rfl⟩ := hp
      obtain ⟨n, hn, rfl⟩ := int_at hi
      refine ⟨_, rfl, _, _, _, _, true, rfl, .ty _, .base (.int n), kit_ty (by decide +kernel), true, rfl, iteF ⟨_, rfl, _, _, _, _, false, rfl, .ty _, .base (.int n), kit_ty (by decide +kernel), _, rfl, iteF ⟨rfl, _, rfl⟩⟩⟩
    · obtain ⟨rfl, z, rfl⟩ := hp
      exact kk _ s1
theorem atN {ns : List Int} {i : Nat} {n : Int} (h : ns[i]? = some n) : atI (ns.map V.int) (i : Int) = some (.int n) := atI_nat (by rw [List.getElem?_map, h]; rfl)
theorem scKeepS : FnScope ["rows", "numbers", "one", "two", "three", "parts", "bound"] ["rows", "numbers"] (defScope sKeepShort) := ⟨rfl, rfl, rfl, by decide +kernel, rfl, by decide +kernel, by decide +kernel⟩
theorem RowsAt.at {K : PySem.W.Frag} {H : Hp} {l : Addr} {rows : List (List Int × Int)} (h : RowsAt K H l rows) : ∃ vs : List V, H l = some (.lst vs) ∧ vs.length = rows.length ∧ ∀ (i : Nat) (v : V), vs[i]? = some v → ∃ pr, rows[i]? = some pr ∧ PrAt K H v pr := by
  obtain ⟨vs, h1, h2, h3⟩ := h
  refine ⟨vs, h1, h2, fun i v e => ?_⟩
  have hi := (List.getElem?_eq_some_iff.mp e).1
  have hi' : i < rows.length := by omega
  obtain ⟨v', e1, e2⟩ := h3 i _ (List.getElem?_eq_getElem hi')
  rw [e] at e1
  obtain rfl := Option.some.inj e1
  exact ⟨_, List.getElem?_eq_getElem hi', e2⟩
theorem keep_drop {rows : List (List Int × Int)} {ns : List Int} {i : Nat} {pr : List Int × Int} (e : rows[i]? = some pr) : keepB (rows.drop i) ns = (decide (¬ dot pr.1 ns < pr.2) && keepB (rows.drop (i + 1)) ns) := by
  obtain ⟨hi, e⟩ := List.getElem?_eq_some_iff.mp e
  rw [List.drop_eq_getElem_cons hi, e]
  rfl
theorem ok_keepS {f : Addr} {fd : FuncData} (F : Fun K "keep_short" "keep_short" sKeepShort f fd) : FnOk P w K mg base CX0 1 f fd ["rows", "numbers"] (spKeep K 3) := by
  refine F.ok scKeepS (fun vs H Q E h => ?_) (fun cdv A outer s H vs Q E hr h => ?_)
  · obtain ⟨l, a, rows, ns, rfl, _⟩ := h
    rfl
  · obtain ⟨l, a, rows, ns, rfl, hl, ha, n3, sm, kk⟩ := h
    refine ⟨_, (pss_cons (ps_asg (pv 1) (pg_tup (by rfl) (pgs_cons (pg_name (i := 2) scKeepS.nd rfl (.inl rfl)) (pgs_cons (pg_name (i := 3) scKeepS.nd rfl (.inl rfl)) (pgs_cons (pg_name (i := 4) scKeepS.nd rfl (.inl rfl)) pgs_nil)))))
    (pss_cons (ps_for PassesOwn.never rfl (pi_list (pv 0)) (pg_tup (by rfl) (pgs_cons (pg_name (i := 5) scKeepS.nd rfl (.inl rfl)) (pgs_cons (pg_name (i := 6) scKeepS.nd rfl (.inl rfl)) pgs_nil)))
      (pss_one (ps_if (pt_cmpR op_lt (pe_op op_add (pe_op op_add (pe_op op_mul (pe_ix ix_tup (pv 5) pe_int (fun _ _ => rfl)) (pv 2)) (pe_op op_mul (pe_ix ix_tup (pv 5) pe_int (fun _ _ => rfl)) (pv 3))) (pe_op op_mul (pe_ix ix_tup (pv 5) pe_int (fun _ _ => rfl)) (pv 4))) (pv 6) (nomark _))
        (pss_one (ps_ret pe_bl)) pss_nil)))
    (pss_one (ps_ret pe_bl)))), ?_⟩
    match ns, n3 with
    | [x, y, z], _ =>
    refine ⟨_, rfl, a, _, rfl, SqT.of ha, rfl, _, _, rfl, _, _, rfl, _, _, rfl, rfl, ?_⟩
    obtain ⟨vs, hv, hlen, hat⟩ := hl.at
    refine ⟨_, rfl, l, rfl, ⟨_, SqL.of hv⟩, ?_⟩
    refine for_list (xs := vs) (fun i σ G => G = H ∧ keepB rows [x, y, z] = keepB (rows.drop i) [x, y, z] ∧ ∃ v5 v6, σ = [some (.ref l), some (.ref a), some (.int x), some (.int y), some (.int z), v5, v6]) ⟨rfl, rfl, _, _, rfl⟩ (fun i σ G _ h => by rw [h.1]; exact SqL.of hv) (fun i v σ G hi hp => ?_) (fun σ G hp => ?_)
    · obtain ⟨rfl, ek, v5, v6, rfl⟩ := hp
      obtain ⟨⟨ps, bd⟩, epr, pa, pb, rfl, h1, h2⟩ := hat i v hi
      obtain ⟨l3, bds⟩ := sm _ (List.mem_of_getElem? epr)
      have kd := keep_drop (ns := [x, y, z]) epr
      match ps, l3, bds, h2, kd with
      | [p0, p1, p2], _, bds, h2, kd =>
      have c0 := bds p0 (by simp)
      have c1 := bds p1 (by simp)
      have c2 := bds p2 (by simp)
      refine ⟨pa, _, rfl, SqT.of h1, rfl, _, _, rfl, _, _, rfl, rfl, ?_⟩
      refine ⟨_, rfl, pb, _, _, _, rfl, rfl, h2, atN (ns := [p0, p1, p2]) (i := 0) rfl, _, rfl, _, _, rfl, rfl, .inl ⟨by omega, by omega⟩, _, rfl, pb, _, _, _, rfl, rfl, h2, atN (ns := [p0, p1, p2]) (i := 1) rfl, _, rfl, _, _, rfl, rfl, .inl ⟨by omega, by omega⟩, _, _, rfl, rfl, _, rfl, pb, _, _, _, rfl, rfl, h2, atN (ns := [p0, p1, p2]) (i := 2) rfl, _, rfl, _, _, rfl, rfl, .inl ⟨by omega, by omega⟩, _, _, rfl, rfl, _, rfl, _, _, rfl, rfl, _, rfl, ?_⟩
      by_cases c : p0 * x + p1 * y + p2 * z < bd
      · rw [show decide (p0 * x + p1 * y + p2 * z < bd) = true from decide_eq_true c]
        refine iteT ?_
        rw [ek, kd, show decide (¬ dot [p0, p1, p2] [x, y, z] < bd) = false from decide_eq_false (fun w => w c)] at kk
        exact kk
      · rw [show decide (p0 * x + p1 * y + p2 * z < bd) = false from decide_eq_false c]
        rw [show decide (¬ dot [p0, p1, p2] [x, y, z] < bd) = true from decide_eq_true c, Bool.true_and] at kd
        exact iteF ⟨rfl, ek.trans kd, _, _, rfl⟩
    · obtain ⟨rfl, ek, v5, v6, rfl⟩ := hp
      rw [hlen, List.drop_length] at ek
      rw [ek] at kk
      exact kk
theorem scKeepL : FnScope ["rows", "numbers", "one", "two", "three", "four", "parts", "bound"] ["rows", "numbers"] (defScope sKeepLong) := ⟨rfl, rfl, rfl, by decide +kernel, rfl, by decide +kernel, by decide +kernel⟩
theorem ok_keepL {f : Addr} {fd : FuncData} (F : Fun K "keep_long" "keep_long" sKeepLong f fd) : FnOk P w K mg base CX0 1 f fd ["rows", "numbers"] (spKeep K 4) := by
  refine F.ok scKeepL (fun vs H Q E h => ?_) (fun cdv A outer s H vs Q E hr h => ?_)
  · obtain ⟨l, a, rows, ns, rfl, _⟩ := h
    rfl
  · obtain ⟨l, a, rows, ns, rfl, hl, ha, n3, sm, kk⟩ := h
    refine ⟨_, (pss_cons (ps_asg (pv 1) (pg_tup (by rfl) (pgs_cons (pg_name (i := 2) scKeepL.nd rfl (.inl rfl)) (pgs_cons (pg_name (i := 3) scKeepL.nd rfl (.inl rfl)) (pgs_cons (pg_name (i := 4) scKeepL.nd rfl (.inl rfl)) (pgs_cons (pg_name (i := 5) scKeepL.nd rfl (.inl rfl)) pgs_nil))))))
    (pss_cons (ps_for PassesOwn.never rfl (pi_list (pv 0)) (pg_tup (by rfl) (pgs_cons (pg_name (i := 6) scKeepL.nd rfl (.inl rfl)) (pgs_cons (pg_name (i := 7) scKeepL.nd rfl (.inl rfl)) pgs_nil)))
      (pss_one (ps_if (pt_cmpR op_lt (pe_op op_add (pe_op op_add (pe_op op_add (pe_op op_mul (pe_ix ix_tup (pv 6) pe_int (fun _ _ => rfl)) (pv 2)) (pe_op op_mul (pe_ix ix_tup (pv 6) pe_int (fun _ _ => rfl)) (pv 3))) (pe_op op_mul (pe_ix ix_tup (pv 6) pe_int (fun _ _ => rfl)) (pv 4))) (pe_op op_mul (pe_ix ix_tup (pv 6) pe_int (fun _ _ => rfl)) (pv 5))) (pv 7) (nomark _))
        (pss_one (ps_ret pe_bl)) pss_nil)))
    (pss_one (ps_ret pe_bl)))), ?_⟩
    match ns, n3 with
    | [x, y, z, u], _ =>
    refine ⟨_, rfl, a, _, rfl, SqT.of ha, rfl, _, _, rfl, _, _, rfl, _, _, rfl, _, _, rfl, rfl, ?_⟩
    obtain ⟨vs, hv, hlen, hat⟩ := hl.at
    refine ⟨_, rfl, l, rfl, ⟨_, SqL.of hv⟩, ?_⟩
    refine for_list (xs := vs) (fun i σ G => G = H ∧ keepB rows [x, y, z, u] = keepB (rows.drop i) [x, y, z, u] ∧ ∃ v5 v6, σ = [some (.ref l), some (.ref a), some (.int x), some (.int y), some (.int z), some (.int u), v5, v6]) ⟨rfl, rfl, _, _, rfl⟩ (fun i σ G _ h => by rw [h.1]; exact SqL.of hv) (fun i v σ G hi hp => ?_) (fun σ G hp => ?_)
    · obtain ⟨rfl, ek, v5, v6, rfl⟩ := hp
      obtain ⟨⟨ps, bd⟩, epr, pa, pb, rfl, h1, h2⟩ := hat i v hi
      obtain ⟨l3, bds⟩ := sm _ (List.mem_of_getElem? epr)
      have kd := keep_drop (ns := [x, y, z, u]) epr
      match ps, l3, bds, h2, kd with
      | [p0, p1, p2, p3], _, bds, h2, kd =>
      have c0 := bds p0 (by simp)
      have c1 := bds p1 (by simp)
      have c2 := bds p2 (by simp)
      have c3 := bds p3 (by simp)
      refine ⟨pa, _, rfl, SqT.of h1, rfl, _, _, rfl, _, _, rfl, rfl, ?_⟩
      refine ⟨_, rfl, pb, _, _, _, rfl, rfl, h2, atN (ns := [p0, p1, p2, p3]) (i := 0) rfl, _, rfl, _, _, rfl, rfl, .inl ⟨by omega, by omega⟩, _, rfl, pb, _, _, _, rfl, rfl, h2, atN (ns := [p0, p1, p2, p3]) (i := 1) rfl, _, rfl, _, _, rfl, rfl, .inl ⟨by omega, by omega⟩, _, _, rfl, rfl, _, rfl, pb, _, _, _, rfl, rfl, h2, atN (ns := [p0, p1, p2, p3]) (i := 2) rfl, _, rfl, _, _, rfl, rfl, .inl ⟨by omega, by omega⟩, _, _, rfl, rfl, _, rfl, pb, _, _, _, rfl, rfl, h2, atN (ns := [p0, p1, p2, p3]) (i := 3) rfl, _, rfl, _, _, rfl, rfl, .inl ⟨by omega, by omega⟩, _, _, rfl, rfl, _, rfl, _, _, rfl, rfl, _, rfl, ?_⟩
      by_cases c : p0 * x + p1 * y + p2 * z + p3 * u < bd
      · rw [show decide (p0 * x + p1 * y + p2 * z + p3 * u < bd) = true from decide_eq_true c]
        refine iteT ?_
        rw [ek, kd, show decide (¬ dot [p0, p1, p2, p3] [x, y, z, u] < bd) = false from decide_eq_false (fun w => w c)] at kk
        exact kk
      · rw [show decide (p0 * x + p1 * y + p2 * z + p3 * u < bd) = false from decide_eq_false c]
        rw [show decide (¬ dot [p0, p1, p2, p3] [x, y, z, u] < bd) = true from decide_eq_true c, Bool.true_and] at kd
        exact iteF ⟨rfl, ek.trans kd, _, _, rfl⟩
    · obtain ⟨rfl, ek, v5, v6, rfl⟩ := hp
      rw [hlen, List.drop_length] at ek
      rw [ek] at kk
      exact kk
end
end Ev
namespace Ev
open PySem L2 PySem.Spec PyProof.Rows RZ
def sideS : Bk → List Int × List Int
  | .li1 => ([1, 0, 0], [0, 1, 0]) | .li2 => ([1, 0, 0], [0, 1, 0]) | _ => ([1, 1, 0], [0, 0, 1])
def sideL : Bk → List Int × List Int
  | .li1 => ([1, 0, 0, 0], [0, 1, 0, 0]) | .li2 => ([1, 0, 0, 0], [0, 1, 0, 0]) | .fa1 => ([0, 0, 1, 0], [0, 0, 0, 1]) | .fa2 => ([0, 0, 1, 0], [0, 0, 0, 1]) | _ => ([1, 1, 0, 0], [0, 0, 1, 1])
/-- the tables of the sides -/
structure KD (K : PySem.W.Frag) (w : World) (mg : Str → Option Value) (SO LT : Addr) : Prop where
  gS : mg "SHORT_ONCE" = some (.ref SO)
  gL : mg "LONG_TWICE" = some (.ref LT)
  hS : ∀ b : Bk, some b ∈ onces → ∃ v, KDct K w SO b.n v ∧ ∀ H, SdV K H v (sideS b).1 (sideS b).2
  hL : ∀ b : Bk, some b ∈ twices → b ≠ .st → ∃ v, KDct K w LT b.n v ∧ ∀ H, SdV K H v (sideL b).1 (sideL b).2
theorem RowsAt.keep {K : PySem.W.Frag} {H H' : Hp} {l : Addr} {rows : List (List Int × Int)} (h : RowsAt K H l rows) (s : Same H H') : RowsAt K H' l rows := by
  obtain ⟨vs, h1, h2, h3⟩ := h
  refine ⟨vs, s _ _ h1, h2, fun i pr e => ?_⟩
  obtain ⟨v, e1, e2⟩ := h3 i pr e
  exact ⟨v, e1, e2.keep s⟩
/-- a case as an instance -/
def CsV (K : PySem.W.Frag) (C : Addr) (H : Hp) (y : Addr) (put : Bool) (o t : Option Bk) : Prop := ∃ (dx : Addr) (v1 v2 : V), H y = some (.ins C dx (caseF (.str (deedS put)) v1 v2)) ∧ BkV K H v1 o ∧ BkV K H v2 t
theorem CsV.keep {K : PySem.W.Frag} {C : Addr} {H H' : Hp} {y : Addr} {put : Bool} {o t : Option Bk} (h : CsV K C H y put o t) (s : Same H H') : CsV K C H' y put o t := by
  obtain ⟨dx, v1, v2, h1, h2, h3⟩ := h
  exact ⟨dx, v1, v2, s _ _ h1, h2.keep s, h3.keep s⟩
/-- a case of a turn rule -/
def okC (o t : Option Bk) : Prop := (t = none ∧ o ∈ onces) ∨ (o = none ∧ ∃ b, t = some b ∧ t ∈ twices)
def headR (b : Bk) (p q k : Int) (h o : List Int) : List Int × Int := (if b.s = "first" then heavyL p q h o else heavyL p q o h, k + 1)
def caseR (p q k t s r : Int) (put : Bool) : Option Bk → Option Bk → List (List Int × Int)
  | some b, _ => shortR p q k put ++ [turnR t s r true true] ++ [headR b p q k (sideS b).1 (sideS b).2]
  | none, some .st => shortR p q k put ++ [turnR t s r false true] ++ [([0, -1, 0], -1)]
  | none, some b => longR p q k put ++ [turnR t s r false false] ++ [headR b p q k (sideL b).1 (sideL b).2]
  | none, none => []
def spIsCase (K : PySem.W.Frag) (C Ct Cn : Addr) : Sp := fun vs H Q _ => ∃ (r y : Addr) (row : Row) (put : Bool) (o t : Option Bk), vs = [.ref r, .ref y] ∧ (∃ p q k t s c, row = .tn p q k t s c) ∧ ObjAt Ct Cn H r row ∧ CsV K C H y put o t ∧ okC o t ∧ Q (.bl true) H
def spCaseR (K : PySem.W.Frag) (C Ct Cn : Addr) : Sp := fun vs H Q _ => ∃ (r y : Addr) (p q k u s c : Int) (put : Bool) (o t : Option Bk), vs = [.ref r, .ref y] ∧ ObjAt Ct Cn H r (.tn p q k u s c) ∧ (Row.tn p q k u s c).ok ∧ CsV K C H y put o t ∧ okC o t ∧
  ∀ l H', Same H H' → RowsAt K H' l (caseR p q k u s c put o t) → Q (.ref l) H'
def spNB (K : PySem.W.Frag) (C Ct Cn : Addr) : Sp := fun vs H Q _ => ∃ (r y a : Addr) (p q k u s c : Int) (put : Bool) (o t : Option Bk) (ns : List Int), vs = [.ref r, .ref y, .ref a] ∧ ObjAt Ct Cn H r (.tn p q k u s c) ∧ (Row.tn p q k u s c).ok ∧ CsV K C H y put o t ∧ okC o t ∧ H a = some (.tup (ns.map V.int)) ∧
  (ns.length = if o = none ∧ t ≠ some .st then 4 else 3) ∧ ∀ H', Same H H' → Q (.bl (keepB (caseR p q k u s c put o t) ns)) H'
section
variable {P : Program} {w : World} {K : PySem.W.Frag} {mg : Str → Option Value} {base : Heap}
theorem any_mem (os : List (Option Bk)) (o : Option Bk) : ((os.map bkD).any fun z => PyData.eqv z (bkD o)) = decide (o ∈ os) := by
  induction os with
  | nil => rfl
  | cons x os ih =>
    rw [List.map_cons, List.any_cons, ih, bkD_eqv]
    by_cases e : x = o
    · subst e; simp
    · have e' : ¬ o = x := fun z => e z.symm
      simp [e, e']
theorem shaped_onces : SeqAt.shaped (.list (onces.map bkD)) = true := by decide +kernel
theorem shaped_twices : SeqAt.shaped (.list (twices.map bkD)) = true := by decide +kernel
theorem scIsCase : FnScope ["rule", "value"] ["rule", "value"] (defScope sIsCase) := ⟨rfl, rfl, rfl, by decide +kernel, rfl, by decide +kernel, by decide +kernel⟩
theorem hu65 {k : Nat} {A : Around} (hr : Room k A) : A.units + 65 < cLine := by have := hr.un; omega
theorem ok_isCase {f C Ct Cn CW SK ON TW : Addr} {fd : FuncData} (F : Fun K "is_case" "is_case" sIsCase f fd) (T : Blt mg) (TC : CC K C) (B : KB K mg SK ON TW) (gC : mg "Case" = some (.ref C)) (gN : mg "TurnRule" = some (.ref Cn)) (MN : RK K Cn CW) (ik : InsK K)
    (yes : PySem.W.kitOne K (.ref Cn) (.ref Cn) = some true) (yC : PySem.W.kitOne K (.ref C) (.ref C) = some true) (haC : PySem.W.findIn K (.ref C) "__class__" = some (some (.builtin "object.__class__"))) (moC : PySem.W.mroIn K C (.type "object") = some true)
    (D : Df P w K mg base 1 "is_deed" ["value"] spIsDeed) : FnOk P w K mg base CX0 2 f fd ["rule", "value"] (spIsCase K C Ct Cn) := by
  obtain ⟨f1, fd1, G1, g1, k1, b1⟩ := D.ex
  refine F.ok scIsCase (fun vs H Q E h => ?_) (fun cdv A outer s H vs Q E hr h => ?_)
  · obtain ⟨r, y, row, put, o, t, rfl, _⟩ := h
    rfl
  · obtain ⟨r, y, row, put, o, t, rfl, ⟨p, q, k, u, s', c, rfl⟩, ob, ⟨dx, v1, v2, hy, q1, q2⟩, oc, kk⟩ := h
    refine ⟨_, (pss_cons (ps_if (PW.pt (pw_or (pt_not (pt_val (pe_callB call_isi (by rfl) T.isi (by decide +kernel) (pa_cons (pv 1) (pa_cons (pe_glob (v := .ref C) rfl gC rfl) pa_nil))))) (pw_or1 (pt_not (pt_val (pe_call G1 hr (by rfl) g1 k1 b1 .nil pass0 (pa_cons (pe_fld (pv 1) rfl) pa_nil)))))))
      (pss_one ps_never) pss_nil)
    (pss_cons (ps_if (pt_not (pt_val (pe_callB call_isi (by rfl) T.isi (by decide +kernel) (pa_cons (pv 0) (pa_cons (pe_glob (v := .ref Cn) rfl gN rfl) pa_nil)))))
      (pss_one ps_never) pss_nil)
    (pss_cons (ps_if (pt_cmpR op_isN (pe_fld (pv 1) rfl) pe_non (nomark _))
      (pss_one (ps_ret (pe_cmpR (op_inT (hu65 hr)) (pe_fld (pv 1) rfl) (pe_glob (v := .ref ON) rfl B.gO rfl) (by rfl)))) pss_nil)
    (pss_one (ps_ret (pe_and (pe_cmpR op_isN (pe_fld (pv 1) rfl) pe_non (nomark _)) (pe_one (pe_cmpR (op_inT (hu65 hr)) (pe_fld (pv 1) rfl) (pe_glob (v := .ref TW) rfl B.gT rfl) (by rfl))))))))), ?_⟩
    obtain ⟨d1, a1, a2, h1, h2, h3⟩ := ob
    refine ⟨_, rfl, _, _, _, _, true, rfl, .own C, .base (.ins hy TC.cl haC ik.hn ik.htk moC), yC, true, rfl, iteF ?_⟩
    refine ⟨_, rfl, y, C, dx, _, _, rfl, hy, TC.cl, TC.n1, cl1 _ _ _, put, rfl, true, rfl, iteF ?_⟩
    refine ⟨_, rfl, _, _, _, _, true, rfl, .own Cn, .base (.ins h1 MN.cl.cl MN.ha ik.hn ik.htk MN.hm), yes, true, rfl, iteF ?_⟩
    refine ⟨_, rfl, y, C, dx, _, _, rfl, hy, TC.cl, TC.n3, cl3 _ _ _, rfl, _, rfl, ?_⟩
    rw [q2.isN]
    rcases oc with ⟨rfl, ho⟩ | ⟨rfl, b, rfl, ht⟩
    · refine iteT ⟨_, rfl, y, C, dx, _, _, rfl, hy, TC.cl, TC.n2, cl2 _ _ _, _, _, q1.dp, (B.hO H).dp, bkD_shaped _, shaped_onces, ?_⟩
      rw [any_mem, decide_eq_true ho]
      exact kk
    · refine iteF ⟨_, rfl, y, C, dx, _, _, rfl, hy, TC.cl, TC.n2, cl2 _ _ _, rfl, _, rfl, ?_⟩
      rw [q1.isN]
      refine iteT ⟨_, rfl, y, C, dx, _, _, rfl, hy, TC.cl, TC.n3, cl3 _ _ _, _, _, q2.dp, (B.hT H).dp, bkD_shaped _, shaped_twices, ?_⟩
      rw [any_mem, decide_eq_true ht]
      exact kk
abbrev nCr : List Str := ["rule", "case", "once", "twice", "is_short", "rows", "sides"]
theorem scCaseR : FnScope nCr ["rule", "case"] (defScope sCaseRows) := ⟨rfl, rfl, rfl, by decide +kernel, rfl, by decide +kernel, by decide +kernel⟩
/-- a list grows: the rest stays -/
theorem PrAt.lst {K : PySem.W.Frag} {H H' : Hp} {l : Addr} {vs : List V} {v : V} {pr : List Int × Int} (hp : PrAt K H v pr) (hl : H l = some (.lst vs)) (bt : But l H H') : PrAt K H' v pr := by
  obtain ⟨a, b, e, q1, q2⟩ := hp
  refine ⟨a, b, e, bt _ _ (ne_of q1 hl (by intro z; cases z)) q1, ?_⟩
  rcases q2 with (h | ⟨o, h⟩) | h
  · exact .inl (.inl (bt _ _ (ne_of h hl (by intro z; cases z)) h))
  · exact .inl (.inr ⟨o, bt _ _ (ne_of h hl (by intro z; cases z)) h⟩)
  · exact .inr h
theorem BkV.lst {K : PySem.W.Frag} {H H' : Hp} {l : Addr} {vs : List V} {v : V} {o : Option Bk} (hv : BkV K H v o) (hl : H l = some (.lst vs)) (bt : But l H H') : BkV K H' v o := by
  cases o with
  | none => exact hv
  | some b =>
    obtain ⟨a, e, h⟩ := hv
    refine ⟨a, e, ?_⟩
    rcases h with (h | ⟨o, h⟩) | h
    · exact .inl (.inl (bt _ _ (ne_of h hl (by intro z; cases z)) h))
    · exact .inl (.inr ⟨o, bt _ _ (ne_of h hl (by intro z; cases z)) h⟩)
    · exact .inr h
/-- a row more -/
theorem RowsAt.more {K : PySem.W.Frag} {H : Hp} {l : Addr} {rows : List (List Int × Int)} {v : V} {pr : List Int × Int} (hr : RowsAt K H l rows) (hv : PrAt K H v pr) : ∃ vs, H l = some (.lst vs) ∧ vs.length = rows.length ∧ RowsAt K (upd H l (.lst (vs ++ [v]))) l (rows ++ [pr]) := by
  obtain ⟨vs, h1, h2, h3⟩ := hr
  have bt : But l H (upd H l (.lst (vs ++ [v]))) := But.upd_at
  refine ⟨vs, h1, h2, vs ++ [v], upd_same, by simp [h2], fun i p e => ?_⟩
  by_cases c : i < rows.length
  · rw [List.getElem?_append_left c] at e
    obtain ⟨x, e1, e2⟩ := h3 i p e
    exact ⟨x, by rw [List.getElem?_append_left (by omega)]; exact e1, e2.lst h1 bt⟩
  · rw [List.getElem?_append_right (by omega)] at e
    have hi : i = rows.length := by
      by_cases z : i - rows.length = 0
      · omega
      · obtain ⟨j, hj⟩ : ∃ j, i - rows.length = j + 1 := ⟨i - rows.length - 1, by omega⟩
        rw [hj] at e
        cases e
    subst hi
    rw [Nat.sub_self] at e
    obtain rfl : pr = p := Option.some.inj e
    refine ⟨v, ?_, hv.lst h1 bt⟩
    rw [List.getElem?_append_right (by omega), h2, Nat.sub_self]
    rfl
theorem ObjAt.lst {Ct Cn l : Addr} {H H' : Hp} {r : Addr} {row : Row} {vs : List V} (h : ObjAt Ct Cn H r row) (hl : H l = some (.lst vs)) (bt : But l H H') : ObjAt Ct Cn H' r row := h.but hl bt
theorem ok_caseR {f C Ct Cn CW SK ON TW SO LT : Addr} {fd : FuncData} (F : Fun K "case_rows" "case_rows" sCaseRows f fd) (T : Blt mg) (TC : CC K C) (B : KB K mg SK ON TW) (DK : KD K w mg SO LT) (gN : mg "TurnRule" = some (.ref Cn)) (RT : RCls K Ct) (RN : RCls K Cn) (MN : RK K Cn CW) (ik : InsK K)
    (yes : PySem.W.kitOne K (.ref Cn) (.ref Cn) = some true)
    (D1 : Df P w K mg base 1 "need_rule" ["value"] (spNeedR Ct Cn)) (D2 : Df P w K mg base 2 "is_case" ["rule", "value"] (spIsCase K C Ct Cn)) (D3 : Df P w K mg base 1 "short_rows" ["rule", "deed"] (spRows K shortR)) (D4 : Df P w K mg base 1 "long_rows" ["rule", "deed"] (spRows K longR))
    (D5 : Df P w K mg base 1 "turn_row" ["rule", "is_once", "is_short"] (spTurnR K Cn)) (D6 : Df P w K mg base 1 "too_heavy" ["rule", "sides", "side"] (spTooH K)) : FnOk P w K mg base CX0 3 f fd ["rule", "case"] (spCaseR K C Ct Cn) := by
  obtain ⟨f1, fd1, G1, g1, k1, b1⟩ := D1.ex
  obtain ⟨f2, fd2, G2, g2, k2, b2⟩ := D2.ex
  obtain ⟨f3, fd3, G3, g3, k3, b3⟩ := D3.ex
  obtain ⟨f4, fd4, G4, g4, k4, b4⟩ := D4.ex
  obtain ⟨f5, fd5, G5, g5, k5, b5⟩ := D5.ex
  obtain ⟨f6, fd6, G6, g6, k6, b6⟩ := D6.ex
  refine F.ok scCaseR (fun vs H Q E h => ?_) (fun cdv A outer s H vs Q E hr h => ?_)
  · obtain ⟨r, y, p, q, k, u, s', c, put, o, t, rfl, _⟩ := h
    rfl
  · obtain ⟨r, y, p, q, k, u, s', c, put, o, t, rfl, ob, ok, cs, oc, kk⟩ := h
    have cs0 := cs
    obtain ⟨dx, v1, v2, hy, q1, q2⟩ := cs
    refine ⟨_, (pss_cons (ps_expr (pe_call G1 (hr.mono (by decide)) (by rfl) g1 k1 b1 .nil pass0 (pa_cons (pv 0) pa_nil)))
    (pss_cons (ps_if (pt_not (pt_val (pe_call G2 hr (by rfl) g2 k2 b2 .nil pass0 (pa_cons (pv 0) (pa_cons (pv 1) pa_nil)))))
      (pss_one ps_never) pss_nil)
    (pss_cons (ps_par (i := 2) (j := 3) (by rfl) scCaseR.nd rfl rfl (by decide) rfl rfl (pa_cons (pe_fld (pv 1) rfl) (pa_cons (pe_fld (pv 1) rfl) pa_nil)) (by rfl))
    (pss_cons (ps_set (i := 4) scCaseR.nd rfl (.inl rfl) (pe_or (pe_cmpR op_isN (pv 3) pe_non (nomark _)) (pe_one (pe_cmpR (op_eqD hr.units) (pv 3) (pe_glob (v := .ref SK) rfl B.gS rfl) (nomark _)))))
    (pss_cons (ps_set (i := 5) scCaseR.nd rfl (.inl rfl) (pe_ifExp (pt_val (pv 4)) (pe_call G3 (hr.mono (by decide)) (by rfl) g3 k3 b3 .nil pass0 (pa_cons (pv 0) (pa_cons (pe_fld (pv 1) rfl) pa_nil))) (pe_call G4 (hr.mono (by decide)) (by rfl) g4 k4 b4 .nil pass0 (pa_cons (pv 0) (pa_cons (pe_fld (pv 1) rfl) pa_nil)))))
    (pss_cons (ps_if (pt_val (pe_callB call_isi (by rfl) T.isi (by decide +kernel) (pa_cons (pv 0) (pa_cons (pe_glob (v := .ref Cn) rfl gN rfl) pa_nil))))
      (pss_one (ps_expr (pe_bm PySem.F.plainAttrs_list PySem.F.slot_list_append PySem.F.type_list_append mt_append (pv 5) (pa_cons (pe_call G5 (hr.mono (by decide)) (by rfl) g5 k5 b5 .nil pass0 (pa_cons (pv 0) (pa_cons (pe_cmpR op_isN (pv 3) pe_non (nomark _)) (pa_cons (pv 4) pa_nil)))) pa_nil)))) pss_nil)
    (pss_cons (ps_if (pt_cmpR op_notN (pv 2) pe_non (nomark _))
      (pss_cons (ps_set (i := 6) scCaseR.nd rfl (.inl rfl) (pe_ifExp (pt_val (pv 4)) (pe_ix ix_kdict (pe_glob (v := .ref SO) rfl DK.gS rfl) (pe_ix ix_tup (pv 2) pe_int (fun _ _ => rfl)) (fun _ _ => rfl)) pe_never))
      (pss_one (ps_expr (pe_bm PySem.F.plainAttrs_list PySem.F.slot_list_append PySem.F.type_list_append mt_append (pv 5) (pa_cons (pe_call G6 (hr.mono (by decide)) (by rfl) g6 k6 b6 .nil pass0 (pa_cons (pv 0) (pa_cons (pv 6) (pa_cons (pe_ix ix_tup (pv 2) pe_int (fun _ _ => rfl)) pa_nil)))) pa_nil))))) pss_nil)
    (pss_cons (ps_if (pt_not (pt_val (pv 4)))
      (pss_one (ps_expr (pe_bm PySem.F.plainAttrs_list PySem.F.slot_list_append PySem.F.type_list_append mt_append (pv 5) (pa_cons (pe_call G6 (hr.mono (by decide)) (by rfl) g6 k6 b6 .nil pass0 (pa_cons (pv 0) (pa_cons (pe_ix ix_kdict (pe_glob (v := .ref LT) rfl DK.gL rfl) (pe_ix ix_tup (pv 3) pe_int (fun _ _ => rfl)) (fun _ _ => rfl)) (pa_cons (pe_ix ix_tup (pv 3) pe_int (fun _ _ => rfl)) pa_nil)))) pa_nil)))) (pss_one (ps_if (pt_cmpR op_notN (pv 3) pe_non (nomark _))
        (pss_one (ps_expr (pe_bm PySem.F.plainAttrs_list PySem.F.slot_list_append PySem.F.type_list_append mt_append (pv 5) (pa_cons (pe_tup (pa_cons (pe_tup (pa_cons pe_int (pa_cons (pe_un un_neg pe_int) (pa_cons pe_int pa_nil)))) (pa_cons (pe_un un_neg pe_int) pa_nil))) pa_nil)))) pss_nil)))
    (pss_one (ps_ret (pv 5))))))))))), ?_⟩
    refine ⟨_, rfl, r, _, rfl, ob, ?_⟩
    refine ⟨_, rfl, _, rfl, r, y, _, put, o, t, rfl, ⟨p, q, k, u, s', c, rfl⟩, ob, cs0, oc, true, rfl, iteF ?_⟩
    refine ⟨_, rfl, y, C, dx, _, _, rfl, hy, TC.cl, TC.n2, cl2 _ _ _, _, rfl, y, C, dx, _, _, rfl, hy, TC.cl, TC.n3, cl3 _ _ _, _, _, rfl, ?_⟩
    refine ⟨_, rfl, rfl, _, rfl, ?_⟩
    rw [q2.isN]
    have R := ob.rb RT RN ok
    obtain ⟨ex, ea, eb, hr1, hr2, hr3⟩ := id ob
    rcases oc with ⟨rfl, ho⟩ | ⟨rfl, b, rfl, ht⟩
    · obtain ⟨b, rfl⟩ : ∃ b, o = some b := by
        simp only [onces, List.mem_cons, List.not_mem_nil, or_false] at ho
        rcases ho with rfl | rfl | rfl | rfl <;> exact ⟨_, rfl⟩
      refine iteT ?_
      -- rows
      refine ⟨_, rfl, true, rfl, iteT ⟨_, rfl, _, rfl, y, C, dx, _, _, rfl, hy, TC.cl, TC.n1, cl1 _ _ _, r, p, q, k, put, rfl, R, fun l H1 hnl s1 ra => ?_⟩⟩
      -- the turn row
      refine ⟨_, rfl, _, _, _, _, true, rfl, .own Cn, .base (.ins (s1 _ _ hr1) MN.cl.cl MN.ha ik.hn ik.htk MN.hm), yes, true, rfl, iteT ?_⟩
      obtain ⟨vs0, hv0, _, _⟩ := id ra
      refine ⟨_, rfl, .inl ⟨rfl, _, SqL.of hv0⟩, _, rfl, _, rfl, rfl, _, rfl, r, k, u, s', c, ex, ea, eb, _, _, rfl, s1 _ _ hr1, s1 _ _ hr3, fun v H2 s2 hv => ?_⟩
      rw [q2.isN, show decide ((none : Option Bk) = none) = true from rfl] at hv
      obtain ⟨vs, hl2, hlen, ra2⟩ := (ra.keep s2).more hv
      have hll : vs.length < sizeLine := Nat.lt_of_le_of_lt (show vs.length ≤ 7 by rw [hlen]; exact Nat.le_refl _) (by decide)
      obtain rfl : vs0 = vs := by
        have := s2 _ _ hv0
        rw [hl2] at this
        injection this with this
        injection this with this
        exact this.symm
      refine ⟨l, _, _, rfl, rfl, hl2, hll, ?_⟩
      have bt : But l H2 (upd H2 l (.lst (vs0 ++ [v]))) := But.upd_at
      have s12 := s1.trans s2
      have q1' := (q1.keep s12).lst hl2 bt
      have ob' := (ob.keep s12).lst hl2 bt
      have bt0 : ∀ b u, H b = some u → upd H2 l (.lst (vs0 ++ [v])) b = some u := fun b u e => bt _ _ (ne_of_none e hnl) (s12 _ _ e)
      generalize upd H2 l (.lst (vs0 ++ [v])) = H3 at ra2 bt q1' ob' bt0 ⊢
      refine ⟨_, rfl, rfl, _, rfl, ?_⟩
      rw [q1.isN]
      refine iteT ?_
      obtain ⟨sv, hd, hsv⟩ := DK.hS b ho
      obtain ⟨qa, rfl, hqa⟩ := q1'
      refine ⟨_, rfl, true, rfl, iteT ⟨_, rfl, qa, _, _, _, rfl, rfl, hqa, tup0, SO, b.n, sv, rfl, rfl, hd, ?_⟩⟩
      obtain ⟨vs3, hl3, hlen3, _⟩ := id ra2
      have R3 := ob'.rb RT RN ok
      refine ⟨_, rfl, .inl ⟨rfl, _, SqL.of hl3⟩, _, rfl, _, rfl, _, rfl, qa, _, _, _, rfl, rfl, hqa, tup1, r, p, q, k, sv, (sideS b).1, (sideS b).2, b, rfl, R3, hsv H3, by cases b <;> rfl, by cases b <;> decide, fun v' H4 s4 hv' => ?_⟩
      obtain ⟨vs4, hl4, hlen4, ra4⟩ := (ra2.keep s4).more hv'
      obtain rfl : vs3 = vs4 := by
        have := s4 _ _ hl3
        rw [hl4] at this
        injection this with this
        injection this with this
        exact this.symm
      refine ⟨l, _, _, rfl, rfl, hl4, Nat.lt_of_le_of_lt (show vs3.length ≤ 8 by rw [hlen4]; exact Nat.le_refl _) (by decide), ?_⟩
      have btE : But l H4 (upd H4 l (.lst (vs3 ++ [v']))) := But.upd_at
      have sE : Same H (upd H4 l (.lst (vs3 ++ [v']))) := fun b u e => btE _ _ (ne_of_none e hnl) (s4 _ _ (bt0 _ _ e))
      generalize upd H4 l (.lst (vs3 ++ [v'])) = H5 at ra4 sE ⊢
      refine ⟨_, rfl, true, rfl, iteF ?_⟩
      refine ⟨_, rfl, rfl, _, rfl, ?_⟩
      rw [q2.isN]
      refine iteF ⟨_, rfl, kk l _ sE ?_⟩
      exact ra4
    · refine iteF ⟨_, rfl, _, _, q2.dp, (B.hS H).dp, bkD_shaped _, bkD_shaped _, ?_⟩
      rw [bkD_eqv]
      have n1 : v1 = .non := q1
      subst n1
      by_cases e : b = .st
      · subst e
        rw [decide_eq_true rfl]
        refine ⟨_, rfl, true, rfl, iteT ⟨_, rfl, _, rfl, y, C, dx, _, _, rfl, hy, TC.cl, TC.n1, cl1 _ _ _, r, p, q, k, put, rfl, R, fun l H1 hnl s1 ra => ?_⟩⟩
        refine ⟨_, rfl, _, _, _, _, true, rfl, .own Cn, .base (.ins (s1 _ _ hr1) MN.cl.cl MN.ha ik.hn ik.htk MN.hm), yes, true, rfl, iteT ?_⟩
        obtain ⟨vs0, hv0, _, _⟩ := id ra
        refine ⟨_, rfl, .inl ⟨rfl, _, SqL.of hv0⟩, _, rfl, _, rfl, rfl, _, rfl, r, k, u, s', c, ex, ea, eb, _, _, rfl, s1 _ _ hr1, s1 _ _ hr3, fun v H2 s2 hv => ?_⟩
        rw [q2.isN, show decide ((some Bk.st : Option Bk) = none) = false from rfl] at hv
        obtain ⟨vs, hl2, hlen, ra2⟩ := (ra.keep s2).more hv
        have hll : vs.length < sizeLine := Nat.lt_of_le_of_lt (show vs.length ≤ 7 by rw [hlen]; exact Nat.le_refl _) (by decide)
        obtain rfl : vs0 = vs := by
          have := s2 _ _ hv0
          rw [hl2] at this
          injection this with this
          injection this with this
          exact this.symm
        refine ⟨l, _, _, rfl, rfl, hl2, hll, ?_⟩
        have bt : But l H2 (upd H2 l (.lst (vs0 ++ [v]))) := But.upd_at
        have s12 := s1.trans s2
        have bt0 : ∀ b u, H b = some u → upd H2 l (.lst (vs0 ++ [v])) b = some u := fun b u e => bt _ _ (ne_of_none e hnl) (s12 _ _ e)
        generalize upd H2 l (.lst (vs0 ++ [v])) = H3 at ra2 bt bt0 ⊢
        refine ⟨_, rfl, rfl, _, rfl, iteF ?_⟩
        refine ⟨_, rfl, true, rfl, iteF ?_⟩
        refine ⟨_, rfl, rfl, _, rfl, ?_⟩
        rw [q2.isN]
        obtain ⟨vs3, hl3, hlen3, _⟩ := id ra2
        refine iteT ⟨_, rfl, .inl ⟨rfl, _, SqL.of hl3⟩, _, rfl, (by show 3 ≤ sizeLine; decide), fun ta nta => ⟨_, rfl, (by show 2 ≤ sizeLine; decide), fun tb ntb => ?_⟩⟩
        have sa := same_new (o := .tup [.int 0, .int (-1), .int 0]) nta
        have sb := same_new (o := .tup [.ref ta, .int (-1)]) ntb
        have hv' : PrAt K (upd (upd H3 ta (.tup [.int 0, .int (-1), .int 0])) tb (.tup [.ref ta, .int (-1)])) (.ref tb) ([0, -1, 0], -1) := ⟨tb, ta, rfl, upd_same, SqT.of (sb _ _ upd_same)⟩
        have s4 := sa.trans sb
        have bt4 : ∀ b u, H b = some u → upd (upd H3 ta (.tup [.int 0, .int (-1), .int 0])) tb (.tup [.ref ta, .int (-1)]) b = some u := fun b u e => s4 _ _ (bt0 _ _ e)
        try dsimp only
        generalize upd (upd H3 ta (.tup [.int 0, .int (-1), .int 0])) tb (.tup [.ref ta, .int (-1)]) = H4 at hv' s4 bt4 ⊢
        obtain ⟨vs4, hl4, hlen4, ra4⟩ := (ra2.keep s4).more hv'
        obtain rfl : vs3 = vs4 := by
          have := s4 _ _ hl3
          rw [hl4] at this
          injection this with this
          injection this with this
          exact this.symm
        refine ⟨l, _, _, rfl, rfl, hl4, Nat.lt_of_le_of_lt (show vs3.length ≤ 8 by rw [hlen4]; exact Nat.le_refl _) (by decide), ?_⟩
        have btE : But l H4 (upd H4 l (.lst (vs3 ++ [.ref tb]))) := But.upd_at
        have sE : Same H (upd H4 l (.lst (vs3 ++ [.ref tb]))) := fun b u e => btE _ _ (ne_of_none e hnl) (bt4 _ _ e)
        exact ⟨_, rfl, kk l _ sE ra4⟩
      · rw [decide_eq_false (fun z => e (Option.some.inj z))]
        refine ⟨_, rfl, false, rfl, iteF ⟨_, rfl, _, rfl, y, C, dx, _, _, rfl, hy, TC.cl, TC.n1, cl1 _ _ _, r, p, q, k, put, rfl, R, fun l H1 hnl s1 ra => ?_⟩⟩
        refine ⟨_, rfl, _, _, _, _, true, rfl, .own Cn, .base (.ins (s1 _ _ hr1) MN.cl.cl MN.ha ik.hn ik.htk MN.hm), yes, true, rfl, iteT ?_⟩
        obtain ⟨vs0, hv0, _, _⟩ := id ra
        refine ⟨_, rfl, .inl ⟨rfl, _, SqL.of hv0⟩, _, rfl, _, rfl, rfl, _, rfl, r, k, u, s', c, ex, ea, eb, _, _, rfl, s1 _ _ hr1, s1 _ _ hr3, fun v H2 s2 hv => ?_⟩
        rw [q2.isN, show decide ((some b : Option Bk) = none) = false from rfl] at hv
        obtain ⟨vs, hl2, hlen, ra2⟩ := (ra.keep s2).more hv
        have hll : vs.length < sizeLine := Nat.lt_of_le_of_lt (show vs.length ≤ 10 by rw [hlen]; exact Nat.le_refl _) (by decide)
        obtain rfl : vs0 = vs := by
          have := s2 _ _ hv0
          rw [hl2] at this
          injection this with this
          injection this with this
          exact this.symm
        refine ⟨l, _, _, rfl, rfl, hl2, hll, ?_⟩
        have bt : But l H2 (upd H2 l (.lst (vs0 ++ [v]))) := But.upd_at
        have s12 := s1.trans s2
        have q2' := (q2.keep s12).lst hl2 bt
        have ob' := (ob.keep s12).lst hl2 bt
        have bt0 : ∀ b u, H b = some u → upd H2 l (.lst (vs0 ++ [v])) b = some u := fun b u e => bt _ _ (ne_of_none e hnl) (s12 _ _ e)
        generalize upd H2 l (.lst (vs0 ++ [v])) = H3 at ra2 bt bt0 q2' ob' ⊢
        refine ⟨_, rfl, rfl, _, rfl, iteF ?_⟩
        refine ⟨_, rfl, false, rfl, iteT ?_⟩
        obtain ⟨sv, hd, hsv⟩ := DK.hL b ht e
        obtain ⟨qa, rfl, hqa⟩ := q2'
        obtain ⟨vs3, hl3, hlen3, _⟩ := id ra2
        have R3 := ob'.rb RT RN ok
        refine ⟨_, rfl, .inl ⟨rfl, _, SqL.of hl3⟩, _, rfl, _, rfl, qa, _, _, _, rfl, rfl, hqa, tup0, LT, b.n, sv, rfl, rfl, hd, _, rfl, qa, _, _, _, rfl, rfl, hqa, tup1, r, p, q, k, sv, (sideL b).1, (sideL b).2, b, rfl, R3, hsv H3, by cases b <;> rfl, by cases b <;> decide, fun v' H4 s4 hv' => ?_⟩
        obtain ⟨vs4, hl4, hlen4, ra4⟩ := (ra2.keep s4).more hv'
        obtain rfl : vs3 = vs4 := by
          have := s4 _ _ hl3
          rw [hl4] at this
          injection this with this
          injection this with this
          exact this.symm
        refine ⟨l, _, _, rfl, rfl, hl4, Nat.lt_of_le_of_lt (show vs3.length ≤ 11 by rw [hlen4]; exact Nat.le_refl _) (by decide), ?_⟩
        have btE : But l H4 (upd H4 l (.lst (vs3 ++ [v']))) := But.upd_at
        have sE : Same H (upd H4 l (.lst (vs3 ++ [v']))) := fun b u e => btE _ _ (ne_of_none e hnl) (s4 _ _ (bt0 _ _ e))
        refine ⟨_, rfl, kk l _ sE ?_⟩
        have ec : caseR p q k u s' c put none (some b) = longR p q k put ++ [turnR u s' c false false] ++ [headR b p q k (sideL b).1 (sideL b).2] := by
          cases b <;> first | rfl | exact absurd rfl e
        rw [ec]
        exact ra4
end
end Ev
namespace Ev
open PySem L2 PySem.Spec PyProof.Rows RZ
theorem heavyL_small {p q : Int} (hq : 1 ≤ q ∧ q ≤ 6) (hp : 1 ≤ p ∧ p ≤ 6) : ∀ (h o : List Int), (∀ m ∈ h, m = 0 ∨ m = 1) → (∀ i ∈ o, i = 0 ∨ i = 1) → ∀ x ∈ heavyL p q h o, -100 ≤ x ∧ x ≤ 100
  | [], _, _, _, x, hx => by simp [heavyL] at hx
  | _ :: _, [], _, _, x, hx => by simp [heavyL] at hx
  | m :: h, i :: o, h1, h2, x, hx => by
    rcases List.mem_cons.mp (show x ∈ (q * m - p * i) :: heavyL p q h o from hx) with rfl | hx
    · rcases h1 m List.mem_cons_self with rfl | rfl <;> rcases h2 i List.mem_cons_self with rfl | rfl <;> constructor <;> omega
    · exact heavyL_small hq hp h o (fun m hm => h1 m (List.mem_cons_of_mem _ hm)) (fun i hi => h2 i (List.mem_cons_of_mem _ hi)) x hx
theorem side01 (b : Bk) : ((∀ m ∈ (sideS b).1, m = 0 ∨ m = 1) ∧ ∀ m ∈ (sideS b).2, m = 0 ∨ m = 1) ∧ ((∀ m ∈ (sideL b).1, m = 0 ∨ m = 1) ∧ ∀ m ∈ (sideL b).2, m = 0 ∨ m = 1) := by
  cases b <;> decide
theorem headR_small {p q k : Int} {b : Bk} {h o : List Int} (hq : 1 ≤ q ∧ q ≤ 6) (hp : 1 ≤ p ∧ p ≤ 6) (h1 : ∀ m ∈ h, m = 0 ∨ m = 1) (h2 : ∀ i ∈ o, i = 0 ∨ i = 1) : ∀ x ∈ (headR b p q k h o).1, -100 ≤ x ∧ x ≤ 100 := by
  unfold headR
  by_cases e : b.s = "first"
  · rw [if_pos e]; exact heavyL_small hq hp h o h1 h2
  · rw [if_neg e]; exact heavyL_small hq hp o h h2 h1
/-- the rows of a case have so many parts, all small -/
theorem caseR_small {p q k u s c : Int} {put : Bool} {o t : Option Bk} (ok : (Row.tn p q k u s c).ok) (oc : okC o t) : smallR (if o = none ∧ t ≠ some .st then 4 else 3) (caseR p q k u s c put o t) := by
  obtain ⟨⟨o1, o2, o3, o4, o5, o6⟩, ⟨⟨t1, t2⟩, ⟨t3, t4⟩, t5, t6⟩⟩ := ok
  have sh : smallR 3 (shortR p q k put) := by
    intro pr hp
    simp only [shortR, List.mem_cons, List.not_mem_nil, or_false] at hp
    rcases hp with rfl | rfl | rfl | rfl | rfl | rfl | rfl <;> refine ⟨rfl, fun x hx => ?_⟩ <;> simp only [List.mem_cons, List.not_mem_nil, or_false] at hx <;> rcases hx with rfl | rfl | rfl <;> constructor <;> omega
  have lo : smallR 4 (longR p q k put) := by
    intro pr hp
    simp only [longR, List.mem_cons, List.not_mem_nil, or_false] at hp
    rcases hp with rfl | rfl | rfl | rfl | rfl | rfl | rfl | rfl | rfl | rfl <;> refine ⟨rfl, fun x hx => ?_⟩ <;> simp only [List.mem_cons, List.not_mem_nil, or_false] at hx <;> rcases hx with rfl | rfl | rfl | rfl <;> constructor <;> omega
  have app : ∀ {n : Nat} {r1 r2 : List (List Int × Int)}, smallR n r1 → smallR n r2 → smallR n (r1 ++ r2) := fun h1 h2 pr hp => by
    rcases List.mem_append.mp hp with h | h
    · exact h1 pr h
    · exact h2 pr h
  have one : ∀ {n : Nat} {pr : List Int × Int}, (pr.1.length = n ∧ ∀ x ∈ pr.1, -100 ≤ x ∧ x ≤ 100) → smallR n [pr] := fun h pr hp => by
    rw [List.mem_singleton.mp hp]; exact h
  rcases oc with ⟨rfl, ho⟩ | ⟨rfl, b, rfl, ht⟩
  · simp only [onces, List.mem_cons, List.not_mem_nil, or_false] at ho
    have tr : smallR 3 [turnR u s c true true] := one ⟨rfl, fun x hx => by
      simp only [turnR, if_true, List.mem_cons, List.not_mem_nil, or_false] at hx
      rcases hx with rfl | rfl | rfl <;> constructor <;> omega⟩
    rcases ho with rfl | rfl | rfl | rfl
    all_goals exact app (app sh tr) (one ⟨rfl, headR_small ⟨by omega, by omega⟩ ⟨by omega, by omega⟩ (side01 _).1.1 (side01 _).1.2⟩)
  · by_cases e : b = .st
    · subst e
      refine app (app sh (one ⟨rfl, fun x hx => ?_⟩)) (one ⟨rfl, fun x hx => ?_⟩)
      · have hx : x = 0 ∨ x = s ∨ x = -u := by simpa [turnR] using hx
        rcases hx with rfl | rfl | rfl <;> constructor <;> omega
      · have hx : x = 0 ∨ x = -1 ∨ x = 0 := by simpa using hx
        rcases hx with rfl | rfl | rfl <;> constructor <;> omega
    · have tr : smallR 4 [turnR u s c false false] := one ⟨rfl, fun x hx => by
        have hx : x = 0 ∨ x = s ∨ x = s ∨ x = -u := by simpa [turnR] using hx
        rcases hx with rfl | rfl | rfl | rfl <;> constructor <;> omega⟩
      rw [if_pos ⟨rfl, fun z => e (Option.some.inj z)⟩]
      have ec : caseR p q k u s c put none (some b) = longR p q k put ++ [turnR u s c false false] ++ [headR b p q k (sideL b).1 (sideL b).2] := by
        cases b <;> first | rfl | exact absurd rfl e
      rw [ec]
      cases b
      · exact absurd rfl e
      all_goals exact app (app lo tr) (one ⟨rfl, headR_small ⟨by omega, by omega⟩ ⟨by omega, by omega⟩ (side01 _).2.1 (side01 _).2.2⟩)
theorem caseR_first {p q k u s c : Int} {put : Bool} {o t : Option Bk} (oc : okC o t) : ∃ pr rest, caseR p q k u s c put o t = pr :: rest := by
  rcases oc with ⟨rfl, ho⟩ | ⟨rfl, b, rfl, ht⟩
  · simp only [onces, List.mem_cons, List.not_mem_nil, or_false] at ho
    rcases ho with rfl | rfl | rfl | rfl <;> exact ⟨_, _, rfl⟩
  · cases b <;> exact ⟨_, _, rfl⟩
section
variable {P : Program} {w : World} {K : PySem.W.Frag} {mg : Str → Option Value} {base : Heap}
theorem scNB : FnScope ["rule", "case", "numbers", "rows"] ["rule", "case", "numbers"] (defScope sNumbersBreak) := ⟨rfl, rfl, rfl, by decide +kernel, rfl, by decide +kernel, by decide +kernel⟩
theorem ok_NB {f C Ct Cn : Addr} {fd : FuncData} (F : Fun K "numbers_break" "numbers_break" sNumbersBreak f fd) (T : Blt mg)
    (D1 : Df P w K mg base 3 "case_rows" ["rule", "case"] (spCaseR K C Ct Cn)) (D2 : Df P w K mg base 1 "is_list_of_integers" ["value"] (spListInt K)) (D3 : Df P w K mg base 1 "keep_long" ["rows", "numbers"] (spKeep K 4)) (D4 : Df P w K mg base 1 "keep_short" ["rows", "numbers"] (spKeep K 3)) :
    FnOk P w K mg base CX0 4 f fd ["rule", "case", "numbers"] (spNB K C Ct Cn) := by
  obtain ⟨f1, fd1, G1, g1, k1, b1⟩ := D1.ex
  obtain ⟨f2, fd2, G2, g2, k2, b2⟩ := D2.ex
  obtain ⟨f3, fd3, G3, g3, k3, b3⟩ := D3.ex
  obtain ⟨f4, fd4, G4, g4, k4, b4⟩ := D4.ex
  refine F.ok scNB (fun vs H Q E h => ?_) (fun cdv A outer s H vs Q E hr h => ?_)
  · obtain ⟨r, y, a, p, q, k, u, s', c, put, o, t, ns, rfl, _⟩ := h
    rfl
  · obtain ⟨r, y, a, p, q, k, u, s', c, put, o, t, ns, rfl, ob, ok, cs, oc, ha, hn, kk⟩ := h
    refine ⟨_, (pss_cons (ps_set (i := 3) scNB.nd rfl (.inl rfl) (pe_call G1 hr (by rfl) g1 k1 b1 .nil pass0 (pa_cons (pv 0) (pa_cons (pv 1) pa_nil))))
    (pss_cons (ps_if (PW.pt (pw_or (pt_not (pt_val (pe_callB call_isi (by rfl) T.isi (by decide +kernel) (pa_cons (pv 2) (pa_cons (pe_bltn (v := .ty "tuple") (by rfl) T.tuple (by decide +kernel) rfl) pa_nil))))) (pw_or (pt_not (pt_val (pe_call G2 (hr.mono (by decide)) (by rfl) g2 k2 b2 .nil pass0 (pa_cons (pv 2) pa_nil)))) (pw_or1 (pt_cmpR op_ne (pe_callB call_len_seq (by rfl) T.len PySem.boot_len (pa_cons (pv 2) pa_nil)) (pe_callB call_len_seq (by rfl) T.len PySem.boot_len (pa_cons (pe_ix ix_tup (pe_ix ix_list (pv 3) pe_int (fun _ _ => rfl)) pe_int (fun _ _ => rfl)) pa_nil)) (nomark _))))))
      (pss_one ps_never) pss_nil)
    (pss_one (ps_ret (pe_ifExp (pt_cmpR op_eq (pe_callB call_len_seq (by rfl) T.len PySem.boot_len (pa_cons (pv 2) pa_nil)) pe_int (nomark _)) (pe_call G3 (hr.mono (by decide)) (by rfl) g3 k3 b3 .nil pass0 (pa_cons (pv 3) (pa_cons (pv 2) pa_nil))) (pe_call G4 (hr.mono (by decide)) (by rfl) g4 k4 b4 .nil pass0 (pa_cons (pv 3) (pa_cons (pv 2) pa_nil)))))))), ?_⟩
    refine ⟨_, rfl, _, rfl, r, y, p, q, k, u, s', c, put, o, t, rfl, ob, ok, cs, oc, fun l H1 s1 ra => ?_⟩
    have ha1 := s1 _ _ ha
    refine ⟨_, rfl, _, _, _, _, true, rfl, .ty _, .base (.tup ha1), kit_ty (by decide +kernel), true, rfl, iteF ?_⟩
    refine ⟨_, rfl, a, ns, rfl, ha1, fun H2 s2 => ⟨true, rfl, iteF ?_⟩⟩
    have ha2 := s2 _ _ ha1
    have ra2 := ra.keep s2
    have sm := caseR_small (put := put) ok oc
    obtain ⟨pr, rest, ec⟩ := caseR_first (p := p) (q := q) (k := k) (u := u) (s := s') (c := c) (put := put) oc
    obtain ⟨vs0, hl, hlen, hat⟩ := id ra2
    obtain ⟨v0, e0, pa, pb, rfl, h1, h2⟩ := hat 0 pr (by rw [ec]; rfl)
    have pl := (sm pr (by rw [ec]; exact List.mem_cons_self)).1
    refine ⟨_, rfl, a, _, rfl, .inr (SqT.of ha2), _, rfl, l, _, _, _, rfl, rfl, SqL.of hl, atI_nat (j := 0) e0, pa, _, _, _, rfl, rfl, SqT.of h1, tup0, pb, _, rfl, .inr h2, rfl, _, rfl, ?_⟩
    rw [List.length_map, List.length_map, pl, hn]
    refine iteNS rfl ?_
    refine ⟨_, rfl, a, _, rfl, .inr (SqT.of ha2), rfl, _, rfl, ?_⟩
    rw [List.length_map, hn]
    have s12 := s1.trans s2
    by_cases e : o = none ∧ t ≠ some .st
    · rw [if_pos e] at hn sm ⊢
      exact iteT ⟨_, rfl, _, rfl, l, a, _, ns, rfl, ra2, ha2, hn, sm, kk _ s12⟩
    · rw [if_neg e] at hn sm ⊢
      exact iteF ⟨_, rfl, _, rfl, l, a, _, ns, rfl, ra2, ha2, hn, sm, kk _ s12⟩
end
end Ev
namespace Ev
open PySem L2 PySem.Spec PyProof.Rows RZ
/-! Numbers of a try rule's break keep the tests of a turn rule's case. -/
def bigOk (p q k a b : Int) (put : Bool) : Prop := bigV p q k put ≤ p * a - q * b
theorem big_of {p q k a b : Int} {put : Bool} (hq : 1 ≤ q) (h : b ≤ heavyHi p q k a put) : bigOk p q k a b put := by
  cases put with
  | true =>
    have h : b ≤ greatV p q k a + 1 := h
    have := (le_great (p := p) (q := q) (k := k) (x := a) (y := b - 1) hq).mp (by omega)
    rw [Int.mul_sub] at this
    show -k - q ≤ _
    omega
  | false =>
    have := (le_great (p := p) (q := q) (k := k) (x := a + 1) (y := b) hq).mp h
    rw [Int.mul_add] at this
    show -k - p ≤ _
    omega
theorem short_keep {p q k a c d : Int} {put : Bool} (ha : 1 ≤ a) (hc : 1 ≤ c) (hd : 1 ≤ d) (h1 : p * a + k < q * (c + d)) (h2 : bigOk p q k a (c + d) put) (h3 : q * d ≤ p * c + k) (h4 : q * c ≤ p * d + k) : keepB (shortR p q k put) [a, c, d] = true := by
  unfold bigOk at h2
  rw [Int.mul_add] at h1 h2
  unfold keepB
  rw [List.all_eq_true]
  intro pr hp
  simp only [shortR, List.mem_cons, List.not_mem_nil, or_false] at hp
  refine decide_eq_true ?_
  rcases hp with rfl | rfl | rfl | rfl | rfl | rfl | rfl <;> simp only [dot, Int.neg_mul] <;> omega
theorem long_keep {p q k a e f d : Int} {put : Bool} (ha : 1 ≤ a) (he : 1 ≤ e) (hf : 1 ≤ f) (hd : 1 ≤ d) (h1 : p * a + k < q * (e + f + d)) (h2 : bigOk p q k a (e + f + d) put) (h3 : q * d ≤ p * (e + f) + k) (h4 : q * (e + f) ≤ p * d + k) (h5 : q * f ≤ p * e + k) (h6 : q * e ≤ p * f + k) : keepB (longR p q k put) [a, e, f, d] = true := by
  unfold bigOk at h2
  rw [Int.mul_add, Int.mul_add] at h1 h2
  rw [Int.mul_add] at h3 h4
  unfold keepB
  rw [List.all_eq_true]
  intro pr hp
  simp only [longR, List.mem_cons, List.not_mem_nil, or_false] at hp
  refine decide_eq_true ?_
  rcases hp with rfl | rfl | rfl | rfl | rfl | rfl | rfl | rfl | rfl | rfl <;> simp only [dot, Int.neg_mul] <;> omega
theorem keep_app {r1 r2 : List (List Int × Int)} {ns : List Int} (h1 : keepB r1 ns = true) (h2 : keepB r2 ns = true) : keepB (r1 ++ r2) ns = true := by
  unfold keepB at *
  rw [List.all_append, h1, h2]; rfl
theorem keep_one {pr : List Int × Int} {ns : List Int} (h : ¬ dot pr.1 ns < pr.2) : keepB [pr] ns = true := by
  unfold keepB
  simp only [List.all_cons, List.all_nil, Bool.and_true]
  exact decide_eq_true h
theorem headR_first {b : Bk} {p q k : Int} {h o : List Int} (e : b.s = "first") : headR b p q k h o = (heavyL p q h o, k + 1) := by
  unfold headR
  rw [if_pos e]
theorem headR_second {b : Bk} {p q k : Int} {h o : List Int} (e : ¬ b.s = "first") : headR b p q k h o = (heavyL p q o h, k + 1) := by
  unfold headR
  rw [if_neg e]
/-- one turn's break is the row of its sides -/
theorem once_row {g : Gp} {o : Bk} {c d : Int} (hb : g.b = c + d) (h : g.once o c) : ¬ dot (headR o g.p g.q g.k (sideS o).1 (sideS o).2).1 [g.a, c, d] < (headR o g.p g.q g.k (sideS o).1 (sideS o).2).2 := by
  obtain ⟨p, q, k, a, b⟩ := g
  dsimp only at hb
  subst hb
  have fs : (Bk.li1.s = "first") ∧ (Bk.to1.s = "first") ∧ ¬ (Bk.li2.s = "first") := ⟨rfl, rfl, by decide +kernel⟩
  cases o with
  | li1 =>
    have h : p * c + k < q * a := h
    rw [headR_first fs.1]
    show ¬ (q * 1 - p * 0) * a + (q * 0 - p * 1) * c + (q * 0 - p * 0) * d < k + 1
    simp only [Int.mul_one, Int.mul_zero, Int.sub_zero, Int.zero_sub, Int.neg_mul, Int.zero_mul]
    omega
  | li2 =>
    have h : p * a + k < q * c := h
    rw [headR_second fs.2.2]
    show ¬ (q * 0 - p * 1) * a + (q * 1 - p * 0) * c + (q * 0 - p * 0) * d < k + 1
    simp only [Int.mul_one, Int.mul_zero, Int.sub_zero, Int.zero_sub, Int.neg_mul, Int.zero_mul]
    omega
  | to1 =>
    have h : p * (c + d - c) + k < q * (a + c) := h
    rw [show c + d - c = d by omega, Int.mul_add] at h
    rw [headR_first fs.2.1]
    show ¬ (q * 1 - p * 0) * a + (q * 1 - p * 0) * c + (q * 0 - p * 1) * d < k + 1
    simp only [Int.mul_one, Int.mul_zero, Int.sub_zero, Int.zero_sub, Int.neg_mul, Int.zero_mul]
    omega
  | st => exact absurd h id
  | fa1 => exact absurd h id
  | fa2 => exact absurd h id
  | to2 => exact absurd h id
theorem twice_row {g : Gp} {t : Bk} {e f d : Int} (hb : g.b = e + f + d) (h : g.twice t (e + f) e) : ¬ dot (headR t g.p g.q g.k (sideL t).1 (sideL t).2).1 [g.a, e, f, d] < (headR t g.p g.q g.k (sideL t).1 (sideL t).2).2 := by
  obtain ⟨p, q, k, a, b⟩ := g
  dsimp only at hb
  subst hb
  have fs : (Bk.li1.s = "first") ∧ (Bk.to1.s = "first") ∧ ¬ (Bk.li2.s = "first") ∧ ¬ (Bk.fa2.s = "first") := ⟨rfl, rfl, by decide +kernel, by decide +kernel⟩
  cases t with
  | li1 =>
    have h : p * e + k < q * a := h
    rw [headR_first fs.1]
    show ¬ (q * 1 - p * 0) * a + (q * 0 - p * 1) * e + (q * 0 - p * 0) * f + (q * 0 - p * 0) * d < k + 1
    simp only [Int.mul_one, Int.mul_zero, Int.sub_zero, Int.zero_sub, Int.neg_mul, Int.zero_mul]
    omega
  | li2 =>
    have h : p * a + k < q * e := h
    rw [headR_second fs.2.2.1]
    show ¬ (q * 0 - p * 1) * a + (q * 1 - p * 0) * e + (q * 0 - p * 0) * f + (q * 0 - p * 0) * d < k + 1
    simp only [Int.mul_one, Int.mul_zero, Int.sub_zero, Int.zero_sub, Int.neg_mul, Int.zero_mul]
    omega
  | fa2 =>
    have h : p * (e + f - e) + k < q * (e + f + d - (e + f)) := h
    rw [show e + f - e = f by omega, show e + f + d - (e + f) = d by omega] at h
    rw [headR_second fs.2.2.2]
    show ¬ (q * 0 - p * 0) * a + (q * 0 - p * 0) * e + (q * 0 - p * 1) * f + (q * 1 - p * 0) * d < k + 1
    simp only [Int.mul_one, Int.mul_zero, Int.sub_zero, Int.zero_sub, Int.neg_mul, Int.zero_mul]
    omega
  | to1 =>
    have h : p * (e + f + d - e) + k < q * (a + e) := h
    rw [show e + f + d - e = f + d by omega, Int.mul_add, Int.mul_add] at h
    rw [headR_first fs.2.1]
    show ¬ (q * 1 - p * 0) * a + (q * 1 - p * 0) * e + (q * 0 - p * 1) * f + (q * 0 - p * 1) * d < k + 1
    simp only [Int.mul_one, Int.mul_zero, Int.sub_zero, Int.zero_sub, Int.neg_mul, Int.zero_mul]
    omega
  | st => exact absurd h id
  | fa1 => exact absurd h id
  | to2 => exact absurd h id
/-- the numbers of one turn -/
def shortN : List Int → List Int
  | [a, c, d] => [a, c, d]
  | [a, e, f, d] => [a, e + f, d]
  | _ => []
theorem carried {g : Gp} (w : g.ok) {put : Bool} (hi : g.b ≤ heavyHi g.p g.q g.k g.a put) {o t : Bk} {ns : List Int} (fo : g.Found o t ns) {u s r : Int} :
    keepB (caseR g.p g.q g.k u s r put none (some t)) ns = true ∨ keepB (caseR g.p g.q g.k u s r put (some o) none) (shortN ns) = true := by
  obtain ⟨ok, ha, hb⟩ := w
  have hq := ok.1
  have hp : 1 ≤ g.p := by obtain ⟨o1, o2, _⟩ := ok; omega
  have bg := big_of hq hi
  have tb : g.p * g.a + g.k < g.q * g.b := (top_le hq).mp hb
  -- both halves of the heavier side
  have halves : ∀ c d : Int, g.b = c + d → g.part g.b ≤ c → g.part g.b ≤ d → (1 ≤ c ∧ 1 ≤ d) ∧ g.q * d ≤ g.p * c + g.k ∧ g.q * c ≤ g.p * d + g.k := fun c d e h1 h2 => by
    have pp : 1 ≤ partV g.p g.q g.k g.b := part_pos _ _ _ _
    have h1 : partV g.p g.q g.k g.b ≤ c := h1
    have h2 : partV g.p g.q g.k g.b ≤ d := h2
    have c1 : 1 ≤ c := by omega
    have d1 : 1 ≤ d := by omega
    have q1 := (part_le hp hq c1).mp h1
    have q2 := (part_le hp hq d1).mp h2
    rw [show g.b - c = d by omega] at q1
    rw [show g.b - d = c by omega] at q2
    exact ⟨⟨c1, d1⟩, q1, q2⟩
  rcases fo with ⟨ho, h1, h2, h3⟩ | ⟨ho, ht, st, h1, h2, h3, h4, h5, h6, h7⟩
  · obtain ⟨d, hd⟩ : ∃ d, g.b = 1 + d := ⟨g.b - 1, by omega⟩
    have ed : g.b - 1 = d := by omega
    rw [ed]
    obtain ⟨⟨c1, d1⟩, q1, q2⟩ := halves 1 d hd h2 (by omega)
    have sk : keepB (shortR g.p g.q g.k put) [g.a, 1, d] = true := short_keep ha (by decide) d1 (by rw [← hd]; exact tb) (by rw [← hd]; exact bg) q1 q2
    by_cases tn : s * 1 ≤ u * d + r
    · refine .inr (keep_app (keep_app sk (keep_one ?_)) (keep_one (once_row hd h1)))
      show ¬ 0 * g.a + -s * 1 + u * d < -r
      simp only [Int.neg_mul]
      omega
    · refine .inl (keep_app (keep_app sk (keep_one ?_)) (keep_one ?_))
      · show ¬ 0 * g.a + s * 1 + -u * d < r + 1
        simp only [Int.neg_mul]
        omega
      · show ¬ 0 * g.a + -1 * 1 + 0 * d < -1
        omega
  · rename_i c e
    obtain ⟨f, hf⟩ : ∃ f, c = e + f := ⟨c - e, by omega⟩
    obtain ⟨d, hd⟩ : ∃ d, g.b = c + d := ⟨g.b - c, by omega⟩
    rw [show c - e = f by omega, show g.b - c = d by omega]
    obtain ⟨⟨c1, d1⟩, q1, q2⟩ := halves c d hd h2 (by omega)
    obtain ⟨e1, f1, q3, q4⟩ := h5
    rw [show c - e = f by omega] at f1 q3 q4
    subst hf
    by_cases tn : s * (e + f) ≤ u * d + r
    · have sk : keepB (shortR g.p g.q g.k put) [g.a, e + f, d] = true := short_keep ha c1 d1 (by rw [← hd]; exact tb) (by rw [← hd]; exact bg) q1 q2
      refine .inr (keep_app (keep_app sk (keep_one ?_)) (keep_one (once_row hd h1)))
      show ¬ 0 * g.a + -s * (e + f) + u * d < -r
      simp only [Int.neg_mul]
      omega
    · have lk : keepB (longR g.p g.q g.k put) [g.a, e, f, d] = true := long_keep ha e1 f1 d1 (by rw [← hd]; exact tb) (by rw [← hd]; exact bg) q1 q2 q4 q3
      have ec : caseR g.p g.q g.k u s r put none (some t) = longR g.p g.q g.k put ++ [turnR u s r false false] ++ [headR t g.p g.q g.k (sideL t).1 (sideL t).2] := by
        cases t <;> first | rfl | exact absurd rfl st
      rw [ec]
      refine .inl (keep_app (keep_app lk (keep_one ?_)) (keep_one (twice_row hd h6)))
      show ¬ 0 * g.a + s * e + s * f + -u * d < r + 1
      rw [Int.mul_add] at tn
      simp only [Int.neg_mul]
      omega
end Ev
namespace Ev
open PySem L2 PySem.Spec PyProof.Rows RZ
theorem slA_any {K : PySem.W.Frag} {a : Addr} {xs : List V} {lo hi : Option Int} {H : Hp} {Q : VK} (h : H a = some (.tup xs)) (k : ∀ (a' : Addr) (H' : Hp), Same H H' → H' a' = some (.tup (cutV xs lo hi)) → Q (.ref a') H') : rSlA K (.ref a) lo hi H Q := by
  refine ⟨a, xs, rfl, SqT.of h, fun ⟨e1, e2⟩ => k a H (Same.refl H) ?_, fun _ p np => k p _ (same_new np) upd_same⟩
  rw [h]
  unfold cutV
  rw [e1, e2, List.drop_zero, Nat.sub_zero, List.take_length]
theorem cut3 (a b c : V) (xs : List V) : cutV (a :: b :: c :: xs) none (some 3) = [a, b, c] := by
  unfold cutV
  have h1 : HT.sIx (a :: b :: c :: xs).length 0 none = 0 := rfl
  have h2 : HT.sIx (a :: b :: c :: xs).length (a :: b :: c :: xs).length (some ((3 : Nat) : Int)) = min 3 (a :: b :: c :: xs).length := HT.sIx_nat _ _ 3
  rw [h1, show (3 : Int) = ((3 : Nat) : Int) from rfl, h2]
  simp
theorem lt6 {x : Int} : (if x < 6 then x else 6) = min x 6 := by
  by_cases h : x < 6
  · rw [if_pos h]; omega
  · rw [if_neg h]; omega
def spNumsL : Sp := fun vs H Q _ => ∃ (p L : Addr) (B : Int), vs = [.ref p] ∧ B ≤ 900000 ∧ Pen L H p B ∧
  ∀ (a : Addr) (p' q k t s c : Int) (H' : Hp), okN p' q k → okT t s c → H a = none → H' a = some (.tup (Row.tn p' q k t s c).vs) → But p H H' → Pen L H' p (B + 9) → Q (.ref a) H'
section
variable {P : Program} {w : World} {K : PySem.W.Frag} {mg : Str → Option Value} {base : Heap}
theorem scNums : FnScope ["_law_pen_here", "_law_q", "_law_p", "_law_k", "_law_s", "_law_t"] ["_law_pen_here"] (defScope sLNumbers) := ⟨rfl, rfl, rfl, by decide +kernel, rfl, by decide +kernel, by decide +kernel⟩
theorem mem_int {xs : List V} {d : V} {lo hi : Int} (h : d ∈ xs) (a : ∀ x ∈ xs, ∃ n, x = .int n ∧ lo ≤ n ∧ n ≤ hi) : ∃ n, d = .int n ∧ lo ≤ n ∧ n ≤ hi := a d h
theorem ok_nums {f : Addr} {fd : FuncData} (F : Fun K "_law_numbers" "_law_numbers" sLNumbers f fd) (T : Blt mg) (D1 : Df P w K mg base 1 "_law_draw" ["_law_pen_here", "_law_many"] spDraw) (D2 : Df P w K mg base 2 "_law_pick" ["_law_pen_here", "_law_some"] spPick) :
    FnOk P w K mg base CX0 3 f fd ["_law_pen_here"] spNumsL := by
  obtain ⟨f1, fd1, G1, g1, k1, b1⟩ := D1.ex
  obtain ⟨f2, fd2, G2, g2, k2, b2⟩ := D2.ex
  refine F.ok scNums (fun vs H Q E h => ?_) (fun cdv A outer s H vs Q E hr h => ?_)
  · obtain ⟨p, L, B, rfl, _⟩ := h
    rfl
  · obtain ⟨p, L, B, rfl, hB, hp, kk⟩ := h
    have hr1 : Room 1 _ := hr.mono (by decide)
    refine ⟨_, (pss_cons (ps_set (i := 1) scNums.nd rfl (.inl rfl) (pe_op op_add pe_int (pe_call G1 hr1 (by rfl) g1 k1 b1 .nil pass0 (pa_cons (pv 0) (pa_cons pe_int pa_nil)))))
    (pss_cons (ps_set (i := 2) scNums.nd rfl (.inl rfl) (pe_callB (call_min2 rfl) (by rfl) T.min (by decide +kernel) (pa_cons pe_int (pa_cons (pe_op op_add (pv 1) (pe_call G1 hr1 (by rfl) g1 k1 b1 .nil pass0 (pa_cons (pv 0) (pa_cons (pe_op op_add pe_int (pe_op op_mul pe_int (pv 1))) pa_nil)))) pa_nil))))
    (pss_cons (ps_set (i := 3) scNums.nd rfl (.inl rfl) (pe_call G2 hr (by rfl) g2 k2 b2 .nil pass0 (pa_cons (pv 0) (pa_cons (pe_lst (pa_cons pe_int (pa_cons pe_int (pa_cons pe_int (pa_cons (pe_op op_sub (pe_call G1 hr1 (by rfl) g1 k1 b1 .nil pass0 (pa_cons (pv 0) (pa_cons pe_int pa_nil))) pe_int) (pa_cons pe_int (pa_cons (pe_un un_neg pe_int) pa_nil))))))) pa_nil))))
    (pss_cons (ps_if (pt_cmpR op_lt (pe_op op_add (pv 2) (pv 3)) (pe_op op_mul pe_int (pv 1)) (nomark _))
      (pss_one (ps_set (i := 3) scNums.nd rfl (.inl rfl) (pe_op op_sub (pe_op op_mul pe_int (pv 1)) (pv 2)))) pss_nil)
    (pss_cons (ps_set (i := 4) scNums.nd rfl (.inl rfl) (pe_op op_add pe_int (pe_call G1 hr1 (by rfl) g1 k1 b1 .nil pass0 (pa_cons (pv 0) (pa_cons pe_int pa_nil)))))
    (pss_cons (ps_set (i := 5) scNums.nd rfl (.inl rfl) (pe_callB (call_min2 rfl) (by rfl) T.min (by decide +kernel) (pa_cons pe_int (pa_cons (pe_op op_add (pv 4) (pe_call G1 hr1 (by rfl) g1 k1 b1 .nil pass0 (pa_cons (pv 0) (pa_cons (pe_op op_add (pe_op op_mul pe_int (pv 4)) pe_int) pa_nil)))) pa_nil))))
    (pss_one (ps_ret (pe_tup (pa_cons (pv 2) (pa_cons (pv 1) (pa_cons (pe_callB (call_min2 rfl) (by rfl) T.min (by decide +kernel) (pa_cons pe_int (pa_cons (pv 3) pa_nil))) (pa_cons (pv 5) (pa_cons (pv 4) (pa_cons (pe_call G2 hr (by rfl) g2 k2 b2 .nil pass0 (pa_cons (pv 0) (pa_cons (pe_lst (pa_cons pe_int (pa_cons (pe_un un_neg pe_int) (pa_cons (pe_un un_neg (pv 4)) (pa_cons (pe_op op_sub (pe_call G1 hr1 (by rfl) g1 k1 b1 .nil pass0 (pa_cons (pv 0) (pa_cons pe_int pa_nil))) pe_int) pa_nil))))) pa_nil))) pa_nil))))))))))))))), ?_⟩
    refine ⟨_, rfl, p, L, _, B, rfl, by decide, by decide, by omega, hp, fun d1 H1 t1 p1 a1 c1 => ⟨_, _, rfl, rfl, ?_⟩⟩
    refine ⟨_, rfl, _, rfl, _, rfl, _, _, rfl, rfl, .inl ⟨by decide, by decide⟩, _, _, rfl, rfl, p, L, _, _, rfl, by omega, by omega, by omega, p1, fun d2 H2 t2 p2 a2 c2 => ⟨_, _, rfl, rfl, _, _, rfl, ?_⟩⟩
    have t02 := t1.trans t2
    obtain ⟨pp, hpp, pp1, pp2⟩ : ∃ pp : Int, (if 1 + d1 + d2 < 6 then 1 + d1 + d2 else 6) = pp ∧ 1 + d1 ≤ pp ∧ pp ≤ 6 := by
      refine ⟨_, rfl, ?_, ?_⟩ <;> split <;> omega
    rw [hpp]
    refine ⟨_, rfl, _, rfl, p, L, _, _, rfl, by decide, by decide, by omega, p2, fun d3 H3 t3 p3 a3 c3 => ⟨_, _, rfl, rfl, _, rfl, (by show 6 ≤ sizeLine; decide), fun l hl => ⟨p, l, L, _, _, rfl, upd_same, p3.ne hl, (by show 1 ≤ 6; decide), (by show 6 ≤ 1000; decide), by omega, p3.new hl, fun kv H4 m4 t4 p4 => ?_⟩⟩⟩
    obtain ⟨k0, rfl, k1', k2'⟩ : ∃ k0 : Int, kv = .int k0 ∧ -6 ≤ k0 ∧ k0 ≤ 6 := by
      simp only [List.mem_cons, List.not_mem_nil, or_false] at m4
      rcases m4 with e | e | e | e | e | e
      · exact ⟨_, e, by decide, by decide⟩
      · exact ⟨_, e, by decide, by decide⟩
      · exact ⟨_, e, by decide, by decide⟩
      · exact ⟨_, e, by omega, by omega⟩
      · exact ⟨_, e, by decide, by decide⟩
      · exact ⟨_, e, by decide, by decide⟩
    have t04 : But p H H4 := t02.trans (t3.trans ((Same.but (same_new hl)).trans t4))
    refine ⟨_, rfl, _, rfl, _, _, rfl, rfl, _, rfl, _, _, rfl, rfl, .inl ⟨by decide, by decide⟩, _, _, rfl, rfl, _, rfl, ite2 (fun e => ?_) (fun e => ?_)⟩
    · have e := of_decide_eq_true e
      refine ⟨_, rfl, _, _, rfl, rfl, .inl ⟨by decide, by decide⟩, _, rfl, _, _, rfl, rfl, ?_⟩
      refine ⟨_, rfl, p, L, _, _, rfl, by decide, by decide, by omega, p4, fun d5 H5 t5 p5 a5 c5 => ⟨_, _, rfl, rfl, ?_⟩⟩
      refine ⟨_, rfl, _, rfl, _, rfl, _, _, rfl, rfl, .inl ⟨by decide, by decide⟩, _, _, rfl, rfl, p, L, _, _, rfl, by omega, by omega, by omega, p5, fun d6 H6 t6 p6 a6 c6 => ⟨_, _, rfl, rfl, _, _, rfl, ?_⟩⟩
      obtain ⟨tt, htt, tt1, tt2⟩ : ∃ tt : Int, (if 1 + d5 + d6 < 8 then 1 + d5 + d6 else 8) = tt ∧ 1 ≤ tt ∧ tt ≤ 8 := by
        refine ⟨_, rfl, ?_, ?_⟩ <;> split <;> omega
      rw [htt]
      refine ⟨_, rfl, _, rfl, _, rfl, _, _, rfl, _, rfl, _, rfl, _, rfl, _, rfl, _, rfl, _, rfl, _, rfl, p, L, _, _, rfl, by decide, by decide, by omega, p6, fun d7 H7 t7 p7 a7 c7 => ⟨_, _, rfl, rfl, (by show 4 ≤ sizeLine; decide), fun l2 hl2 => ⟨p, l2, L, _, _, rfl, upd_same, p7.ne hl2, (by show 1 ≤ 4; decide), (by show 4 ≤ 1000; decide), by omega, p7.new hl2, fun cv H8 m8 t8 p8 => ⟨(by show 6 ≤ sizeLine; decide), fun a na => ?_⟩⟩⟩⟩
      obtain ⟨c0, rfl, c1', c2'⟩ : ∃ c0 : Int, cv = .int c0 ∧ -6 ≤ c0 ∧ c0 ≤ 6 := by
        simp only [List.mem_cons, List.not_mem_nil, or_false] at m8
        rcases m8 with e | e | e | e
        · exact ⟨_, e, by decide, by decide⟩
        · exact ⟨_, e, by decide, by decide⟩
        · exact ⟨_, e, by omega, by omega⟩
        · exact ⟨_, e, by omega, by omega⟩
      have t08 : But p H H8 := t04.trans (((t5.trans t6).trans t7).trans ((Same.but (same_new hl2)).trans t8))
      refine kk a _ _ _ _ _ _ _ ?_ ?_ (t08.free p8 na) upd_same (t08.trans (Same.but (same_new na))) ((p8.new na).mono (by omega))
      · refine ⟨by omega, by omega, by omega, ?_, ?_, ?_⟩ <;> split <;> omega
      · exact ⟨⟨by omega, by omega⟩, ⟨by omega, by omega⟩, by omega, by omega⟩
    · have e : ¬ (pp + k0 < 2 * (1 + d1)) := fun z => e (decide_eq_true z)
      refine ⟨_, rfl, p, L, _, _, rfl, by decide, by decide, by omega, p4, fun d5 H5 t5 p5 a5 c5 => ⟨_, _, rfl, rfl, ?_⟩⟩
      refine ⟨_, rfl, _, rfl, _, rfl, _, _, rfl, rfl, .inl ⟨by decide, by decide⟩, _, _, rfl, rfl, p, L, _, _, rfl, by omega, by omega, by omega, p5, fun d6 H6 t6 p6 a6 c6 => ⟨_, _, rfl, rfl, _, _, rfl, ?_⟩⟩
      obtain ⟨tt, htt, tt1, tt2⟩ : ∃ tt : Int, (if 1 + d5 + d6 < 8 then 1 + d5 + d6 else 8) = tt ∧ 1 ≤ tt ∧ tt ≤ 8 := by
        refine ⟨_, rfl, ?_, ?_⟩ <;> split <;> omega
      rw [htt]
      refine ⟨_, rfl, _, rfl, _, rfl, _, _, rfl, _, rfl, _, rfl, _, rfl, _, rfl, _, rfl, _, rfl, _, rfl, p, L, _, _, rfl, by decide, by decide, by omega, p6, fun d7 H7 t7 p7 a7 c7 => ⟨_, _, rfl, rfl, (by show 4 ≤ sizeLine; decide), fun l2 hl2 => ⟨p, l2, L, _, _, rfl, upd_same, p7.ne hl2, (by show 1 ≤ 4; decide), (by show 4 ≤ 1000; decide), by omega, p7.new hl2, fun cv H8 m8 t8 p8 => ⟨(by show 6 ≤ sizeLine; decide), fun a na => ?_⟩⟩⟩⟩
      obtain ⟨c0, rfl, c1', c2'⟩ : ∃ c0 : Int, cv = .int c0 ∧ -6 ≤ c0 ∧ c0 ≤ 6 := by
        simp only [List.mem_cons, List.not_mem_nil, or_false] at m8
        rcases m8 with e | e | e | e
        · exact ⟨_, e, by decide, by decide⟩
        · exact ⟨_, e, by decide, by decide⟩
        · exact ⟨_, e, by omega, by omega⟩
        · exact ⟨_, e, by omega, by omega⟩
      have t08 : But p H H8 := t04.trans (((t5.trans t6).trans t7).trans ((Same.but (same_new hl2)).trans t8))
      refine kk a _ _ _ _ _ _ _ ?_ ?_ (t08.free p8 na) upd_same (t08.trans (Same.but (same_new na))) ((p8.new na).mono (by omega))
      · refine ⟨by omega, by omega, by omega, ?_, ?_, ?_⟩ <;> split <;> omega
      · exact ⟨⟨by omega, by omega⟩, ⟨by omega, by omega⟩, by omega, by omega⟩
end
end Ev
namespace Ev
open PySem L2 PySem.Spec PyProof.Rows RZ
/-- a row of three or of six numbers -/
def spRule3 (Ct Cn : Addr) : Sp := fun vs H Q _ => ∃ (l : Addr) (row : Row), vs = [.ref l] ∧ H l = some (.tup row.vs) ∧ row.ok ∧ ∀ (r : Addr) (H' : Hp), Same H H' → ObjAt Ct Cn H' r row → Q (.ref r) H'
section
variable {P : Program} {w : World} {K : PySem.W.Frag} {mg : Str → Option Value} {base : Heap}
theorem scRule : FnScope ["_law_some", "_law_p", "_law_q", "_law_k"] ["_law_some"] (defScope sLRule) := ⟨rfl, rfl, rfl, by decide +kernel, rfl, by decide +kernel, by decide +kernel⟩
theorem ok_rule {f Ct Cn fT fN : Addr} {fd fdT fdN : FuncData} {g : List Value → List Value → List Value} (F : Fun K "_law_rule" "_law_rule" sLRule f fd) (T : Blt mg) (gT : mg "TryRule" = some (.ref Ct)) (gN : mg "TurnRule" = some (.ref Cn)) (MT : Mk K Ct fT) (MN : Mk K Cn fN)
    (GT : FnOk P w K mg base CX0 6 fT fdT ["self", "times", "plus"] (spTryInit Ct)) (bT : Binds K fdT ["self", "times", "plus"] [])
    (GN : FnOk P w K mg base CX0 6 fN fdN ["self", "times", "plus", "turn", "turn_plus"] (spTurnInit Cn)) (bN : KBn K fdN ["self", "times", "plus", "turn", "turn_plus"] 3 ["turn", "turn_plus"] g (fun vs zs => vs ++ zs)) :
    FnOk P w K mg base CX0 8 f fd ["_law_some"] (spRule3 Ct Cn) := by
  refine F.ok scRule (fun vs H Q E h => ?_) (fun cdv A outer s H vs Q E hr h => ?_)
  · obtain ⟨l, row, rfl, _⟩ := h
    rfl
  · obtain ⟨l, row, rfl, hl, ok, kk⟩ := h
    refine ⟨_, (pss_cons (ps_asg (pe_slice sl_tupA (pv 0) po_none (po_some pe_int)) (pg_tup (by rfl) (pgs_cons (pg_name (i := 1) scRule.nd rfl (.inl rfl)) (pgs_cons (pg_name (i := 2) scRule.nd rfl (.inl rfl)) (pgs_cons (pg_name (i := 3) scRule.nd rfl (.inl rfl)) pgs_nil)))))
    (pss_cons (ps_if (pt_cmpR op_eq (pe_callB call_len_seq (by rfl) T.len PySem.boot_len (pa_cons (pv 0) pa_nil)) pe_int (nomark _))
      (pss_one (ps_ret (pe_make MT GT (hr.mono (by decide)) (by rfl) gT bT .nil pass0 (pa_cons (pe_tup (pa_cons (pv 1) (pa_cons (pv 2) pa_nil))) (pa_cons (pv 3) pa_nil))))) pss_nil)
    (pss_one (ps_ret (pe_makeN (n := 2) MN GN (hr.mono (by decide)) (by rfl) gN bN pass0 (pa_cons (pe_tup (pa_cons (pv 1) (pa_cons (pv 2) pa_nil))) (pa_cons (pv 3) pa_nil)) (pk_cons (pe_tup (pa_cons (pe_ix ix_tup (pv 0) pe_int (fun _ _ => rfl)) (pa_cons (pe_ix ix_tup (pv 0) pe_int (fun _ _ => rfl)) pa_nil))) (pk_cons (pe_ix ix_tup (pv 0) pe_int (fun _ _ => rfl)) pk_nil))))))), ?_⟩
    refine ⟨_, rfl, _, rfl, slA_any hl fun l' H1 s1 hl' => ?_⟩
    have hl1 := s1 _ _ hl
    cases row with
    | tr p q k =>
      obtain ⟨o1, o2, o3, o4, o5, o6⟩ := ok
      rw [show cutV (Row.tr p q k).vs none (some 3) = [.int p, .int q, .int k] from cut3 _ _ _ []] at hl'
      refine ⟨l', _, rfl, SqT.of hl', rfl, _, _, rfl, _, _, rfl, _, _, rfl, rfl, ?_⟩
      refine ⟨_, rfl, l, _, rfl, .inr (SqT.of hl1), rfl, _, rfl, ?_⟩
      refine iteT ⟨_, rfl, _, rfl, (by show 2 ≤ sizeLine; decide), fun tp ntp => ⟨_, rfl, fun x dx nx ndx nex => ?_⟩⟩
      have f1 : upd H1 tp (.tup [.int p, .int q]) tp = some (.tup [.int p, .int q]) := upd_same
      have s2 : Same H (upd H1 tp (.tup [.int p, .int q])) := s1.trans (same_new ntp)
      generalize upd H1 tp (.tup [.int p, .int q]) = H2 at f1 s2 nx ndx ⊢
      have keep : ∀ (o1 o2 : HO) (b : Addr) (u : HO), H2 b = some u → upd (upd H2 dx o1) x o2 b = some u := fun o1 o2 b u e => by
        rw [upd_ne (ne_of_none e nx), upd_ne (ne_of_none e ndx)]; exact e
      refine ⟨x, dx, tp, p, q, k, rfl, upd_same, keep _ _ _ _ f1, o1, o2, o3, o4, o5, o6, fun H3 t3 hx3 => ⟨rfl, ?_⟩⟩
      have s3 : ∀ b u, H2 b = some u → H3 b = some u := fun b u e => t3 _ _ (ne_of_none e nx) (keep _ _ _ _ e)
      exact kk x H3 (fun b u e => s3 _ _ (s2 _ _ e)) ⟨dx, tp, hx3, s3 _ _ f1⟩
    | tn p q k t s' c =>
      obtain ⟨⟨o1, o2, o3, o4, o5, o6⟩, ot⟩ := ok
      rw [show cutV (Row.tn p q k t s' c).vs none (some 3) = [.int p, .int q, .int k] from cut3 _ _ _ _] at hl'
      refine ⟨l', _, rfl, SqT.of hl', rfl, _, _, rfl, _, _, rfl, _, _, rfl, rfl, ?_⟩
      refine ⟨_, rfl, l, _, rfl, .inr (SqT.of hl1), rfl, _, rfl, ?_⟩
      refine iteF ⟨_, rfl, _, rfl, (by show 2 ≤ sizeLine; decide), fun tp ntp => ⟨_, rfl, ?_⟩⟩
      have sp := same_new (o := .tup [.int p, .int q]) ntp
      refine ⟨_, rfl, l, _, _, _, rfl, rfl, SqT.of (sp _ _ hl1), atI_nat (j := 3) rfl, _, rfl, l, _, _, _, rfl, rfl, SqT.of (sp _ _ hl1), atI_nat (j := 4) rfl, (by show 2 ≤ sizeLine; decide), fun tq ntq => ?_⟩
      have sq := same_new (o := .tup [.int t, .int s']) ntq
      refine ⟨_, rfl, l, _, _, _, rfl, rfl, SqT.of (sq _ _ (sp _ _ hl1)), atI_nat (j := 5) rfl, ?_⟩
      refine ⟨rfl, rfl, fun x dx nx ndx nex => ?_⟩
      have f1 : upd (upd H1 tp (.tup [.int p, .int q])) tq (.tup [.int t, .int s']) tp = some (.tup [.int p, .int q]) := same_new ntq _ _ upd_same
      have f2 : upd (upd H1 tp (.tup [.int p, .int q])) tq (.tup [.int t, .int s']) tq = some (.tup [.int t, .int s']) := upd_same
      have s2 : Same H (upd (upd H1 tp (.tup [.int p, .int q])) tq (.tup [.int t, .int s'])) := s1.trans (sp.trans sq)
      generalize upd (upd H1 tp (.tup [.int p, .int q])) tq (.tup [.int t, .int s']) = H2 at f1 f2 s2 nx ndx ⊢
      have keep : ∀ (o1 o2 : HO) (b : Addr) (u : HO), H2 b = some u → upd (upd H2 dx o1) x o2 b = some u := fun o1 o2 b u e => by
        rw [upd_ne (ne_of_none e nx), upd_ne (ne_of_none e ndx)]; exact e
      refine ⟨x, dx, tp, tq, p, q, k, t, s', c, rfl, upd_same, keep _ _ _ _ f1, keep _ _ _ _ f2, o1, o2, o3, o4, o5, o6, ot.1, ot.2.1, ot.2.2.1, ot.2.2.2, fun H3 t3 hx3 => ⟨rfl, ?_⟩⟩
      have s3 : ∀ b u, H2 b = some u → H3 b = some u := fun b u e => t3 _ _ (ne_of_none e nx) (keep _ _ _ _ e)
      exact kk x H3 (fun b u e => s3 _ _ (s2 _ _ e)) ⟨dx, tp, tq, hx3, s3 _ _ f1, s3 _ _ f2⟩
end
end Ev
namespace Ev
open PySem L2 PySem.Spec PyProof.Rows RZ
def rSumT (K : PySem.W.Frag) : List V → Hp → VK → Prop := fun vs H Q => ∃ (a : Addr) (ns : List Int), vs = [V.ref a] ∧ SqT K H a (ns.map V.int) ∧ Q (.int ns.sum) H
theorem cr_sumT {X : Cx} (hc : X.calm = true) : CallR X (.builtin "sum") (rSumT X.K) := by
  intro pins s σ H vs us Q I r h
  obtain ⟨a, ns, rfl, hs, q⟩ := h
  obtain ⟨its, rv, hl, _⟩ := I.tuple hs
  rw [Vals.ref1 r]
  have hi := rv.ints
  have hl : s.heap.IsTuple a its.toArray := hl
  obtain ⟨xs, hx⟩ := hi.allInts.items
  have hn : numsOf its.toArray.toList = ns := by rw [show its.toArray.toList = its from rfl, hi.numsOf]
  rw [hx] at hl hn
  rw [nums_intItems] at hn
  refine PySem.W.ktm_sumG (I.ok.hd hc) hl fun h' tk t' hk => ?_
  rw [preSum_eq, List.take_of_length_le (by simp), hn]
  exact ⟨.int _, H, I.kept hk, ⟨_, rfl⟩, q⟩
end Ev
namespace Ev
open PySem L2 PySem.Spec PyProof.Rows RZ
/-- what is carried over: a break that is told of a try rule -/
def CaV (K : PySem.W.Frag) (W : Addr) (H : Hp) (x : Addr) (put : Bool) (g : Gp) : Prop := ∃ (dx b : Addr) (v1 v2 : V) (o t : Bk) (ns : List Int), H x = some (.ins W dx (wrongF (.str (deedS put)) v1 v2 (.ref b))) ∧ BkV K H v1 (some o) ∧ BkV K H v2 (some t) ∧ H b = some (.tup (ns.map V.int)) ∧ g.Found o t ns
theorem CaV.keep {K : PySem.W.Frag} {W : Addr} {H H' : Hp} {x : Addr} {put : Bool} {g : Gp} (h : CaV K W H x put g) (s : Same H H') : CaV K W H' x put g := by
  obtain ⟨dx, b, v1, v2, o, t, ns, h1, h2, h3, h4, h5⟩ := h
  exact ⟨dx, b, v1, v2, o, t, ns, s _ _ h1, h2.keep s, h3.keep s, s _ _ h4, h5⟩
def spCarried (K : PySem.W.Frag) (W Ct Cn : Addr) : Sp := fun vs H Q _ => ∃ (r x : Addr) (p q k u s c a b : Int) (put : Bool), vs = [.ref r, .ref x] ∧ ObjAt Ct Cn H r (.tn p q k u s c) ∧ (Row.tn p q k u s c).ok ∧ CaV K W H x put ⟨p, q, k, a, b⟩ ∧ 1 ≤ a ∧ topV p q k a ≤ b ∧ b ≤ heavyHi p q k a put ∧
  ∀ H', Same H H' → Q (.bl true) H'
section
variable {P : Program} {w : World} {K : PySem.W.Frag} {mg : Str → Option Value} {base : Heap}
theorem found_len {g : Gp} {o t : Bk} {ns : List Int} (f : g.Found o t ns) : some o ∈ onces ∧ some t ∈ twices ∧ ((t = .st ∧ ∃ a c d, ns = [a, c, d]) ∨ (t ≠ .st ∧ ∃ a e f d, ns = [a, e, f, d])) := by
  rcases f with ⟨ho, h1, h2, h3⟩ | ⟨ho, ht, st, h1, h2, h3, h4, h5, h6, h7⟩
  · exact ⟨ho, by simp [twices], .inl ⟨rfl, _, _, _, rfl⟩⟩
  · exact ⟨ho, ht, .inr ⟨st, _, _, _, _, rfl⟩⟩
theorem scCar : FnScope ["_law_rule_so", "_law_told", "_law_numbers_here", "_law_short"] ["_law_rule_so", "_law_told"] (defScope sLCarried) := ⟨rfl, rfl, rfl, by decide +kernel, rfl, by decide +kernel, by decide +kernel⟩
theorem cutm3 (a c d : V) : cutV [a, c, d] (some 1) (some (-1)) = [c] := rfl
theorem cutm4 (a e f d : V) : cutV [a, e, f, d] (some 1) (some (-1)) = [e, f] := rfl
theorem ok_car {f C W Ct Cn : Addr} {fd : FuncData} (F : Fun K "_law_carried" "_law_carried" sLCarried f fd) (T : Blt mg) (ms : mg "sum" = none) (TW : WC K W) (MC : Mak P w K mg base C "Case" 3 ["self", "deed", "once", "twice"] (spCaseI K C)) (D : Df P w K mg base 4 "numbers_break" ["rule", "case", "numbers"] (spNB K C Ct Cn)) :
    FnOk P w K mg base CX0 5 f fd ["_law_rule_so", "_law_told"] (spCarried K W Ct Cn) := by
  obtain ⟨f1, fd1, G1, g1, k1, b1⟩ := D.ex
  obtain ⟨gC, fc, fdc, mC, GC', bC⟩ := MC
  refine F.ok scCar (fun vs H Q E h => ?_) (fun cdv A outer s H vs Q E hr h => ?_)
  · obtain ⟨r, x, p, q, k, u, s', c, a, b, put, rfl, _⟩ := h
    rfl
  · obtain ⟨r, x, p, q, k, u, s', c, a, b, put, rfl, ob, ok, ⟨dx, nb, v1, v2, o, t, ns, hx, q1, q2, hn, fo⟩, ha, hb1, hb2, kk⟩ := h
    refine ⟨_, (pss_cons (ps_set (i := 2) scCar.nd rfl (.inl rfl) (pe_fld (pv 1) rfl))
    (pss_cons (ps_if (pt_val (pe_call G1 hr (by rfl) g1 k1 b1 .nil pass0 (pa_cons (pv 0) (pa_cons (pe_make mC GC' hr (by rfl) gC bC .nil pass0 (pa_cons (pe_fld (pv 1) rfl) (pa_cons pe_non (pa_cons (pe_fld (pv 1) rfl) pa_nil)))) (pa_cons (pv 2) pa_nil)))))
      (pss_one (ps_ret pe_bl)) pss_nil)
    (pss_cons (ps_set (i := 3) scCar.nd rfl (.inl rfl) (pe_tup (pa_cons (pe_ix ix_tup (pv 2) pe_int (fun _ _ => rfl)) (pa_cons (pe_callB (cr_sumT rfl) (by rfl) ms (by decide +kernel) (pa_cons (pe_slice sl_tupA (pv 2) (po_some pe_int) (po_some (pe_un un_neg pe_int))) pa_nil)) (pa_cons (pe_ix ix_tup (pv 2) (pe_un un_neg pe_int) (fun _ _ => rfl)) pa_nil)))))
    (pss_one (ps_ret (pe_call G1 hr (by rfl) g1 k1 b1 .nil pass0 (pa_cons (pv 0) (pa_cons (pe_make mC GC' hr (by rfl) gC bC .nil pass0 (pa_cons (pe_fld (pv 1) rfl) (pa_cons (pe_fld (pv 1) rfl) (pa_cons pe_non pa_nil)))) (pa_cons (pv 3) pa_nil))))))))), ?_⟩
    obtain ⟨so, st, hns⟩ := found_len fo
    have ca := carried (g := ⟨p, q, k, a, b⟩) ⟨ok.1, ha, hb1⟩ hb2 fo (u := u) (s := s') (r := c)
    refine ⟨_, rfl, x, W, dx, _, _, rfl, hx, TW.cl, TW.n4, wl4 _ _ _ _, ?_⟩
    refine ⟨_, rfl, _, rfl, x, W, dx, _, _, rfl, hx, TW.cl, TW.n1, wl1 _ _ _ _, _, rfl, x, W, dx, _, _, rfl, hx, TW.cl, TW.n3, wl3 _ _ _ _, fun y dy ny ndy ney => ?_⟩
    have keep : ∀ (o1 o2 : HO), Same H (upd (upd H dy o1) y o2) := fun o1 o2 b u e => by
      rw [upd_ne (ne_of_none e ny), upd_ne (ne_of_none e ndy)]; exact e
    have kp := keep (.own y) (.ins C dy [])
    refine ⟨y, dy, _, _, _, rfl, upd_same, .inl ⟨_, flat_str _⟩, .inl ⟨_, flat_non⟩, (q2.keep kp).pl, fun H1 t1 hy1 => ⟨rfl, ?_⟩⟩
    have s1 : Same H H1 := fun b u e => t1 _ _ (ne_of_none e ny) (kp _ _ e)
    refine ⟨_, rfl, r, y, nb, p, q, k, u, s', c, put, none, some t, ns, rfl, ob.keep s1, ok, ⟨dy, _, _, hy1, rfl, q2.keep s1⟩, .inr ⟨rfl, t, rfl, st⟩, s1 _ _ hn, ?_, fun H2 s2 => ⟨_, rfl, ?_⟩⟩
    · rcases hns with ⟨rfl, a', c', d', rfl⟩ | ⟨e, a', e', f', d', rfl⟩
      · rw [if_neg (fun z => z.2 rfl)]; rfl
      · rw [if_pos ⟨rfl, fun z => e (Option.some.inj z)⟩]; rfl
    have s12 := s1.trans s2
    cases kb : keepB (caseR p q k u s' c put none (some t)) ns with
    | true => exact iteT (kk _ s12)
    | false =>
      have ca : keepB (caseR p q k u s' c put (some o) none) (shortN ns) = true := by
        rcases ca with h | h
        · rw [kb] at h; cases h
        · exact h
      have hn2 := s12 _ _ hn
      -- the short numbers
      have fin : ∀ (ts : Addr) (H3 : Hp), Same H H3 → H3 ts = some (.tup ((shortN ns).map V.int)) → (shortN ns).length = 3 → ∀ (y dy : Addr), H3 y = none → H3 dy = none → dy ≠ y → spCaseI K C (.ref y :: ([.str (deedS put), v1, .non] ++ [])) (upd (upd H3 dy (.own y)) y (.ins C dy [])) (fun v H4 => v = .non ∧ spNB K C Ct Cn [.ref r, .ref y, .ref ts] H4 Q E0) E0 := fun ts H3 s3 hts l3 y dy ny ndy ney => by
        have keep : ∀ (o1 o2 : HO), Same H3 (upd (upd H3 dy o1) y o2) := fun o1 o2 b u e => by
          rw [upd_ne (ne_of_none e ny), upd_ne (ne_of_none e ndy)]; exact e
        have kp := keep (.own y) (.ins C dy [])
        refine ⟨y, dy, _, _, _, rfl, upd_same, .inl ⟨_, flat_str _⟩, ((q1.keep s3).keep kp).pl, .inl ⟨_, flat_non⟩, fun H4 t4 hy4 => ⟨rfl, ?_⟩⟩
        have s34 : Same H3 H4 := fun b u e => t4 _ _ (ne_of_none e ny) (kp _ _ e)
        have s4 := s3.trans s34
        refine ⟨r, y, ts, p, q, k, u, s', c, put, some o, none, shortN ns, rfl, ob.keep s4, ok, ⟨dy, _, _, hy4, q1.keep s4, rfl⟩, .inl ⟨rfl, so⟩, s34 _ _ hts, by rw [if_neg (fun z => by cases z.1)]; exact l3, fun H5 s5 => ?_⟩
        rw [ca]
        exact kk _ (s4.trans s5)
      rcases hns with ⟨rfl, a', c', d', rfl⟩ | ⟨e, a', e', f', d', rfl⟩
      · refine iteF ⟨_, rfl, nb, _, _, _, rfl, rfl, SqT.of hn2, atI_nat (j := 0) rfl, _, rfl, _, rfl, _, rfl, _, rfl, slA_any hn2 fun l3 H3 s3 hl3 => ?_⟩
        have hl3 : H3 l3 = some (.tup (([c'] : List Int).map V.int)) := hl3
        have hn3 := s3 _ _ hn2
        refine ⟨l3, [c'], rfl, SqT.of hl3, _, rfl, _, rfl, nb, _, _, .int d', rfl, rfl, SqT.of hn3, rfl, (by show 3 ≤ sizeLine; decide), fun ts nts => ?_⟩
        rw [show ([c'] : List Int).sum = c' by simp]
        have s13 := s12.trans s3
        have st := same_new (o := .tup [.int a', .int (c'), .int d']) nts
        have hx3 := (s13.trans st) _ _ hx
        have hts : upd H3 ts (.tup [.int a', .int (c'), .int d']) ts = some (.tup ((shortN [a', c', d']).map V.int)) := upd_same
        have s14 := s13.trans st
        generalize upd H3 ts (.tup [.int a', .int (c'), .int d']) = H4 at st hx3 hts s14 ⊢
        refine ⟨_, rfl, _, rfl, x, W, dx, _, _, rfl, hx3, TW.cl, TW.n1, wl1 _ _ _ _, _, rfl, x, W, dx, _, _, rfl, hx3, TW.cl, TW.n2, wl2 _ _ _ _, fun y dy ny ndy ney => ?_⟩
        obtain ⟨y', dy', v1', v2', v3', e1, h1, h2, h3, h4, h5⟩ := fin ts H4 s14 hts rfl y dy ny ndy ney
        exact ⟨y', dy', v1', v2', v3', e1, h1, h2, h3, h4, fun H' t1 h => ⟨rfl, _, rfl, (h5 H' t1 h).2⟩⟩
      · refine iteF ⟨_, rfl, nb, _, _, _, rfl, rfl, SqT.of hn2, atI_nat (j := 0) rfl, _, rfl, _, rfl, _, rfl, _, rfl, slA_any hn2 fun l3 H3 s3 hl3 => ?_⟩
        have hl3 : H3 l3 = some (.tup (([e', f'] : List Int).map V.int)) := hl3
        have hn3 := s3 _ _ hn2
        refine ⟨l3, [e', f'], rfl, SqT.of hl3, _, rfl, _, rfl, nb, _, _, .int d', rfl, rfl, SqT.of hn3, rfl, (by show 3 ≤ sizeLine; decide), fun ts nts => ?_⟩
        rw [show ([e', f'] : List Int).sum = e' + f' by simp]
        have s13 := s12.trans s3
        have st := same_new (o := .tup [.int a', .int (e' + f'), .int d']) nts
        have hx3 := (s13.trans st) _ _ hx
        have hts : upd H3 ts (.tup [.int a', .int (e' + f'), .int d']) ts = some (.tup ((shortN [a', e', f', d']).map V.int)) := upd_same
        have s14 := s13.trans st
        generalize upd H3 ts (.tup [.int a', .int (e' + f'), .int d']) = H4 at st hx3 hts s14 ⊢
        refine ⟨_, rfl, _, rfl, x, W, dx, _, _, rfl, hx3, TW.cl, TW.n1, wl1 _ _ _ _, _, rfl, x, W, dx, _, _, rfl, hx3, TW.cl, TW.n2, wl2 _ _ _ _, fun y dy ny ndy ney => ?_⟩
        obtain ⟨y', dy', v1', v2', v3', e1, h1, h2, h3, h4, h5⟩ := fin ts H4 s14 hts rfl y dy ny ndy ney
        exact ⟨y', dy', v1', v2', v3', e1, h1, h2, h3, h4, fun H' t1 h => ⟨rfl, _, rfl, (h5 H' t1 h).2⟩⟩
end
end Ev
namespace Ev
open PySem L2 PySem.Spec PyProof.Rows RZ
theorem catA_any {K : PySem.W.Frag} {a b : Addr} {xs ys : List V} {H : Hp} {Q : VK} (h1 : H a = some (.tup xs)) (h2 : H b = some (.tup ys)) (hl : xs.length + ys.length ≤ 4000) (k : ∀ (a' : Addr) (H' : Hp), Same H H' → H' a' = some (.tup (xs ++ ys)) → Q (.ref a') H') : rCatA K (.ref a) (.ref b) H Q := by
  refine ⟨a, b, xs, ys, rfl, rfl, SqT.of h1, SqT.of h2, Nat.le_trans hl (by decide), fun e => ?_, fun _ e => ?_, fun _ _ p np => k p _ (same_new np) upd_same⟩
  · exact k b H (Same.refl H) (by rw [h2, e, List.nil_append])
  · exact k a H (Same.refl H) (by rw [h1, e, List.append_nil])
def TurnsAt (H : Hp) (tl : Addr) : Prop := ∃ vs : List V, H tl = some (.lst vs) ∧ ∀ v ∈ vs, ∃ (t s c : Int) (z : Addr), v = .ref z ∧ H z = some (.tup [.int t, .int s, .int c]) ∧ okT t s c
theorem TurnsAt.keep {H H' : Hp} {tl : Addr} (h : TurnsAt H tl) (s : Same H H') : TurnsAt H' tl := by
  obtain ⟨vs, h1, h2⟩ := h
  refine ⟨vs, s _ _ h1, fun v hv => ?_⟩
  obtain ⟨t, s', c, z, e, hz, o⟩ := h2 v hv
  exact ⟨t, s', c, z, e, s _ _ hz, o⟩
def spPairR : Sp := fun vs H Q _ => ∃ (l tl : Addr) (row : Row) (put : Bool) (a b : Int), vs = [.ref l, .ref tl, .str (deedS put), .int a, .int b] ∧ H l = some (.tup row.vs) ∧ row.ok ∧ TurnsAt H tl ∧ (1 ≤ a ∧ a ≤ 1000) ∧ (1 ≤ b ∧ b ≤ 100000) ∧ ∀ H', Same H H' → Q (.bl true) H'
theorem WrV.isN {K : PySem.W.Frag} {W : Addr} {H : Hp} {v : V} {put : Bool} {o : Option (Option Bk × Option Bk × List Int)} (h : WrV K W H v put o) : decide (v = .non) = o.isNone := by
  cases o with
  | none => rw [show v = .non from h]; rfl
  | some b =>
    obtain ⟨o, t, ns⟩ := b
    obtain ⟨x, dx, b, v1, v2, rfl, _⟩ := h
    rw [decide_eq_false (by intro z; cases z)]; rfl
theorem row_cut3 (row : Row) : cutV row.vs none (some 3) = (Row.tr row.p row.q row.k).vs := by
  cases row with
  | tr p q k => exact cut3 _ _ _ []
  | tn p q k t s c => exact cut3 _ _ _ _
/-- where a try rule breaks each turn rule does -/
theorem told_some {p q k a b : Int} {put : Bool} {r : Option Bk × Option Bk × List Int} (ok : okN p q k) (ha : 1 ≤ a) (h : (Row.tr p q k).told put a b = some r) : ∃ (o t : Bk) (ns : List Int), r = (some o, some t, ns) ∧ (Gp.mk p q k a b).Found o t ns ∧ topV p q k a ≤ b ∧ b ≤ heavyHi p q k a put := by
  unfold Row.told at h
  by_cases c : topV p q k a ≤ b ∧ b ≤ heavyHi p q k a put
  · rw [show (if topV (Row.tr p q k).p (Row.tr p q k).q (Row.tr p q k).k a ≤ b ∧ b ≤ heavyHi (Row.tr p q k).p (Row.tr p q k).q (Row.tr p q k).k a put then (Row.tr p q k).brk ⟨(Row.tr p q k).p, (Row.tr p q k).q, (Row.tr p q k).k, a, b⟩ else none) = (Gp.mk p q k a b).tryB from if_pos c] at h
    obtain ⟨o, t, ns⟩ := r
    obtain ⟨o', t', rfl, rfl, fo⟩ := Gp.try_found (g := ⟨p, q, k, a, b⟩) ⟨ok, ha, c.1⟩ h
    exact ⟨o', t', ns, rfl, fo, c.1, c.2⟩
  · rw [show (if topV (Row.tr p q k).p (Row.tr p q k).q (Row.tr p q k).k a ≤ b ∧ b ≤ heavyHi (Row.tr p q k).p (Row.tr p q k).q (Row.tr p q k).k a put then (Row.tr p q k).brk ⟨(Row.tr p q k).p, (Row.tr p q k).q, (Row.tr p q k).k, a, b⟩ else none) = none from if_neg c] at h
    cases h
theorem told_turn {p q k a b t s c : Int} {put : Bool} {o u : Bk} {ns : List Int} (ok : okN p q k) (ot : okT t s c) (ha : 1 ≤ a) (fo : (Gp.mk p q k a b).Found o u ns) (h1 : topV p q k a ≤ b) (h2 : b ≤ heavyHi p q k a put) : ((Row.tn p q k t s c).told put a b).isNone = false := by
  have e : (Row.tn p q k t s c).told put a b = (Gp.mk p q k a b).turnB t s c := if_pos ⟨h1, h2⟩
  rw [e]
  have := Gp.turn_too (g := ⟨p, q, k, a, b⟩) ⟨ok, ha, h1⟩ fo (u := t) (s := s) (r := c) ot.1.1 ot.2.1.1
  cases z : (Gp.mk p q k a b).turnB t s c with
  | none => exact absurd z this
  | some _ => rfl
section
variable {P : Program} {w : World} {K : PySem.W.Frag} {mg : Str → Option Value} {base : Heap}
abbrev nPr : List Str := ["_law_some", "_law_turns_so", "_law_deed", "_law_a", "_law_b", "_law_told", "_law_row", "_law_rule_so"]
theorem scPairR : FnScope nPr ["_law_some", "_law_turns_so", "_law_deed", "_law_a", "_law_b"] (defScope sLPairRight) := ⟨rfl, rfl, rfl, by decide +kernel, rfl, by decide +kernel, by decide +kernel⟩
theorem ok_pairR {f W Ct Cn : Addr} {fd : FuncData} (F : Fun K "_law_pair_right" "_law_pair_right" sLPairRight f fd) (D1 : Df P w K mg base 8 "_law_rule" ["_law_some"] (spRule3 Ct Cn)) (D2 : Df P w K mg base 7 "breaks" ["rule", "deed", "light", "heavy"] (spBreaks K W Ct Cn)) (D3 : Df P w K mg base 5 "_law_carried" ["_law_rule_so", "_law_told"] (spCarried K W Ct Cn)) :
    FnOk P w K mg base CX0 9 f fd ["_law_some", "_law_turns_so", "_law_deed", "_law_a", "_law_b"] spPairR := by
  obtain ⟨f1, fd1, G1, g1, k1, b1⟩ := D1.ex
  obtain ⟨f2, fd2, G2, g2, k2, b2⟩ := D2.ex
  obtain ⟨f3, fd3, G3, g3, k3, b3⟩ := D3.ex
  refine F.ok scPairR (fun vs H Q E h => ?_) (fun cdv A outer s H vs Q E hr h => ?_)
  · obtain ⟨l, tl, row, put, a, b, rfl, _⟩ := h
    rfl
  · obtain ⟨l, tl, row, put, a, b, rfl, hl, ok, ht, ha, hb, kk⟩ := h
    refine ⟨_, (pss_cons (ps_set (i := 5) scPairR.nd rfl (.inl rfl) (pe_call G2 (hr.mono (by decide)) (by rfl) g2 k2 b2 .nil pass0 (pa_cons (pe_call G1 hr (by rfl) g1 k1 b1 .nil pass0 (pa_cons (pe_slice sl_tupA (pv 0) po_none (po_some pe_int)) pa_nil)) (pa_cons (pv 2) (pa_cons (pv 3) (pa_cons (pv 4) pa_nil))))))
    (pss_cons (ps_if (pt_cmpR op_isN (pv 5) pe_non (nomark _))
      (pss_one (ps_ret pe_bl)) pss_nil)
    (pss_cons (ps_for PassesOwn.never rfl (pi_list (pv 1)) (pg_name (i := 6) scPairR.nd rfl (.inl rfl))
      (pss_cons (ps_set (i := 7) scPairR.nd rfl (.inl rfl) (pe_call G1 hr (by rfl) g1 k1 b1 .nil pass0 (pa_cons (pe_op op_catA (pe_slice sl_tupA (pv 0) po_none (po_some pe_int)) (pv 6)) pa_nil)))
      (pss_one (ps_if (PW.pt (pw_or (pt_cmpR op_isN (pe_call G2 (hr.mono (by decide)) (by rfl) g2 k2 b2 .nil pass0 (pa_cons (pv 7) (pa_cons (pv 2) (pa_cons (pv 3) (pa_cons (pv 4) pa_nil))))) pe_non (nomark _)) (pw_or1 (pt_not (pt_val (pe_call G3 (hr.mono (by decide)) (by rfl) g3 k3 b3 .nil pass0 (pa_cons (pv 7) (pa_cons (pv 5) pa_nil))))))))
        (pss_one ps_never) pss_nil))))
    (pss_one (ps_ret pe_bl))))), ?_⟩
    have okn : okN row.p row.q row.k := Row.okN ok
    refine ⟨_, rfl, _, rfl, slA_any hl fun l' H1 s1 hl' => ?_⟩
    rw [row_cut3] at hl'
    refine ⟨l', .tr row.p row.q row.k, rfl, hl', okn, fun r H2 s2 ob => ?_⟩
    have s02 := s1.trans s2
    refine ⟨_, rfl, _, rfl, _, rfl, r, .tr row.p row.q row.k, put, a, b, rfl, ob, okn, ha, hb, fun v H3 s3 wv => ?_⟩
    have s03 := s02.trans s3
    refine ⟨_, rfl, rfl, _, rfl, ?_⟩
    rw [wv.isN]
    cases et : (Row.tr row.p row.q row.k).told put a b with
    | none => exact iteT (kk _ s03)
    | some res =>
      rw [et] at wv
      obtain ⟨o, t, ns, rfl, fo, h1, h2⟩ := told_some okn ha.1 et
      obtain ⟨x, dx, nb, v1, v2, rfl, hx, q1, q2, hn⟩ := wv
      have ca : CaV K W H3 x put ⟨row.p, row.q, row.k, a, b⟩ := ⟨dx, nb, v1, v2, o, t, ns, hx, q1, q2, hn, fo⟩
      obtain ⟨ts, htl, hts⟩ := ht.keep s03
      have hl3 := s03 _ _ hl
      refine iteF ⟨_, rfl, tl, rfl, ⟨_, SqL.of htl⟩, ?_⟩
      refine for_list (xs := ts) (fun i σ G => Same H3 G ∧ ∃ v6 v7, σ = [some (.ref l), some (.ref tl), some (.str (deedS put)), some (.int a), some (.int b), some (.ref x), v6, v7]) ⟨Same.refl _, _, _, rfl⟩ (fun i σ G _ h => SqL.of (h.1 _ _ htl)) (fun i v σ G hi hp => ?_) (fun σ G hp => ?_)
      · obtain ⟨s4, v6, v7, rfl⟩ := hp
        obtain ⟨tt, ss, cc, z, rfl, hz, otc⟩ := hts v (List.mem_of_getElem? hi)
        refine ⟨_, rfl, _, rfl, slA_any (s4 _ _ hl3) fun l2 H5 s5 hl5 => ?_⟩
        rw [row_cut3] at hl5
        have s45 := s4.trans s5
        refine ⟨_, rfl, catA_any hl5 (s45 _ _ hz) (by show 3 + 3 ≤ 4000; decide) fun l6 H6 s6 hl6 => ?_⟩
        have hl6 : H6 l6 = some (.tup (Row.tn row.p row.q row.k tt ss cc).vs) := hl6
        have s46 := s45.trans s6
        have okr : (Row.tn row.p row.q row.k tt ss cc).ok := ⟨okn, otc⟩
        refine ⟨l6, .tn row.p row.q row.k tt ss cc, rfl, hl6, okr, fun r7 H7 s7 ob7 => ?_⟩
        have s47 := s46.trans s7
        refine ⟨_, rfl, _, rfl, _, rfl, _, rfl, r7, .tn row.p row.q row.k tt ss cc, put, a, b, rfl, ob7, okr, ha, hb, fun v8 H8 s8 wv8 => ?_⟩
        have s48 := s47.trans s8
        refine ⟨rfl, _, rfl, ?_⟩
        rw [wv8.isN, told_turn okn otc ha.1 fo h1 h2]
        refine iteF ⟨_, rfl, _, rfl, r7, x, row.p, row.q, row.k, tt, ss, cc, a, b, put, rfl, ob7.keep s8, okr, ca.keep s48, ha.1, h1, h2, fun H9 s9 => ⟨_, rfl, iteF ⟨s48.trans s9, _, _, rfl⟩⟩⟩
      · obtain ⟨s4, v6, v7, rfl⟩ := hp
        exact kk _ (s03.trans s4)
end
end Ev
namespace Ev
open PySem L2 PySem.Spec PyProof.Rows RZ
def spPen (K : PySem.W.Frag) : Sp := fun vs H Q _ => ∃ (a : Addr) (ns : List Int), vs = [.ref a] ∧ SqL K H a (ns.map V.int) ∧ ns.length ≤ 63 ∧
  ∀ (p L : Addr) (H' : Hp), H p = none → Same H H' → Pen L H' p 0 → Q (.ref p) H'
def spLaw (K : PySem.W.Frag) : Sp := fun vs H Q _ => ∃ (a : Addr) (ns : List Int), vs = [.ref a] ∧ SqL K H a (ns.map V.int) ∧ ns.length ≤ 63 ∧ ∀ H', Q (.bl true) H'
theorem But.tup {L p a : Addr} {H H' : Hp} {B : Int} {xs : List V} (h : H a = some (.tup xs)) (pn : Pen L H p B) (t : But p H H') : H' a = some (.tup xs) := by
  obtain ⟨ys, e⟩ := pn.some
  exact t _ _ (ne_of h e (by intro z; cases z)) h
theorem Pen.put {L p D : Addr} {H : Hp} {B : Int} {o : HO} (h : Pen L H p B) (d1 : D ≠ p) (d2 : D ≠ L) : Pen L (upd H D o) p B := by
  obtain ⟨ns, t, c, h1, h2, h3⟩ := h
  exact ⟨ns, t, c, by rw [upd_ne d1.symm]; exact h1, by rw [upd_ne d2.symm]; exact h2, h3⟩
theorem Pen.neL {L p D : Addr} {H : Hp} {B : Int} (h : Pen L H p B) (n : H D = none) : D ≠ L := by
  obtain ⟨ns, t, c, h1, h2, h3⟩ := h
  exact (ne_of_none h2 n).symm
theorem cut_ints (ns : List Int) (h : Int) : ∃ ms : List Int, cutV (ns.map V.int) none (some h) = ms.map V.int ∧ ms.length ≤ ns.length := by
  unfold cutV
  generalize HT.sIx (ns.map V.int).length 0 none = x
  generalize HT.sIx (ns.map V.int).length (ns.map V.int).length (some h) - x = y
  refine ⟨(ns.drop x).take y, ?_, ?_⟩
  · rw [List.map_take, List.map_drop]
  · rw [List.length_take, List.length_drop]; omega

instance (p q k m : Int) (h : Nat) : Decidable (IsH p q k m h) := inferInstanceAs (Decidable (_ ∧ _))
section
variable {P : Program} {w : World} {K : PySem.W.Frag} {mg : Str → Option Value} {base : Heap}
theorem scPen : FnScope ["_law_script"] ["_law_script"] (defScope sPen) := ⟨rfl, rfl, rfl, by decide +kernel, rfl, by decide +kernel, by decide +kernel⟩
theorem ok_pen {f : Addr} {fd : FuncData} (F : Fun K "_law_pen" "_law_pen" sPen f fd) (T : Blt mg) : FnOk P w K mg base CX0 1 f fd ["_law_script"] (spPen K) := by
  refine F.ok scPen (fun vs H Q E h => ?_) (fun cdv A outer s H vs Q E hr h => ?_)
  · obtain ⟨a, ns, rfl, _⟩ := h
    rfl
  · obtain ⟨a, ns, rfl, hS, hlen, kk⟩ := h
    refine ⟨_, pss_one (ps_ret (pe_lst (pa_cons (pe_callTy call_list_of (by rfl) T.list (by decide +kernel) (pa_cons (pe_slice sl_list (pv 0) po_none (po_some pe_int)) pa_nil)) (pa_cons pe_int (pa_cons pe_int pa_nil))))), ?_⟩
    refine ⟨_, rfl, _, rfl, a, _, rfl, hS, fun l1 nl1 => ⟨l1, _, rfl, .inl (SqL.of upd_same), fun l2 nl2 => ⟨(by show 3 ≤ sizeLine; decide), fun p np => ?_⟩⟩⟩
    obtain ⟨ms, e1, e2⟩ := cut_ints ns 63
    rw [e1] at nl2 np ⊢
    have s1 : Same H (upd (upd H l1 (.lst (ms.map V.int))) l2 (.lst (ms.map V.int))) := (same_new nl1).trans (same_new nl2)
    have s2 := s1.trans (same_new (o := .lst [.ref l2, .int 0, .int 0]) np)
    refine kk p l2 _ ?_ s2 ⟨ms, 0, 0, upd_same, by rw [upd_ne (ne_of_none upd_same np)]; exact upd_same, ne_of_none upd_same np, by omega, by decide, by decide, by decide⟩
    cases z : H p with
    | none => rfl
    | some o => rw [s1 _ _ z] at np; cases np
theorem cPnNe : True := trivial
abbrev nLw : List Str := ["_law_script", "_law_pen_here", "_law_lap", "_law_some", "_law_turns_so", "_law_again", "_law_rule_so", "_law_deed", "_law_a", "_law_b"]
theorem scLaw : FnScope nLw ["_law_script"] (defScope sLaw) := ⟨rfl, rfl, rfl, by decide +kernel, rfl, by decide +kernel, by decide +kernel⟩
theorem great_hi {p q k x : Int} (o : okN p q k) (h0 : 1 ≤ x) (h : x ≤ 6) : 2 ≤ greatV p q k x ∧ greatV p q k x ≤ 42 := by
  have g1 := great_ge o h0
  refine ⟨by omega, ?_⟩
  obtain ⟨o1, o2, o3, o4, o5, o6⟩ := o
  refine Int.not_lt.mp fun z => ?_
  have := (le_great (p := p) (k := k) (x := x) (y := 43) o1).mp (by omega)
  revert this
  rcases six (show 1 ≤ p by omega) o3 with rfl | rfl | rfl | rfl | rfl | rfl <;> rcases six o1 (by omega) with rfl | rfl | rfl | rfl | rfl | rfl <;> omega
theorem ok_law {f Ct Cn : Addr} {fd : FuncData} (F : Fun K "law" "law" sLaw f fd) (T : Blt mg) (RT : RCls K Ct) (RN : RCls K Cn) (M : Mt P w K mg base Ct "greatest" 4 ["self", "x"] (spGreatM K))
    (D1 : Df P w K mg base 1 "_law_pen" ["_law_script"] (spPen K)) (D2 : Df P w K mg base 1 "_law_draw" ["_law_pen_here", "_law_many"] spDraw) (D3 : Df P w K mg base 2 "_law_pick" ["_law_pen_here", "_law_some"] spPick) (D4 : Df P w K mg base 3 "_law_numbers" ["_law_pen_here"] spNumsL)
    (D5 : Df P w K mg base 8 "_law_rule" ["_law_some"] (spRule3 Ct Cn)) (D6 : Df P w K mg base 9 "_law_pair_right" ["_law_some", "_law_turns_so", "_law_deed", "_law_a", "_law_b"] spPairR) :
    FnOk P w K mg base CX0 10 f fd ["_law_script"] (spLaw K) := by
  obtain ⟨f1, fd1, G1, g1, k1, b1⟩ := D1.ex
  obtain ⟨f2, fd2, G2, g2, k2, b2⟩ := D2.ex
  obtain ⟨f3, fd3, G3, g3, k3, b3⟩ := D3.ex
  obtain ⟨f4, fd4, G4, g4, k4, b4⟩ := D4.ex
  obtain ⟨f5, fd5, G5, g5, k5, b5⟩ := D5.ex
  obtain ⟨f6, fd6, G6, g6, k6, b6⟩ := D6.ex
  obtain ⟨fm, fdm, mm, Gm, bm⟩ := M
  refine F.ok scLaw (fun vs H Q E h => ?_) (fun cdv A outer s H vs Q E hr h => ?_)
  · obtain ⟨a, ns, rfl, _⟩ := h
    rfl
  · obtain ⟨a, ns, rfl, hS, hlen, kk⟩ := h
    have hr1 : Room 1 _ := hr.mono (by decide)
    have hr2 : Room 2 _ := hr.mono (by decide)
    have hr3 : Room 3 _ := hr.mono (by decide)
    have hr4 : Room 4 _ := hr.mono (by decide)
    have hr8 : Room 8 _ := hr.mono (by decide)
    refine ⟨_, (pss_cons (ps_set (i := 1) scLaw.nd rfl (.inr rfl) (pe_call G1 hr1 (by rfl) g1 k1 b1 .nil pass0 (pa_cons (pv 0) pa_nil)))
    (pss_cons (ps_for PassesOwn.never rfl (pi_range1 (by rfl) T.range (pa_cons pe_int pa_nil)) (pg_name (i := 2) scLaw.nd rfl (.inl rfl))
      (pss_cons (ps_set (i := 3) scLaw.nd rfl (.inl rfl) (pe_call G3 hr2 (by rfl) g3 k3 b3 .nil pass0 (pa_cons (pv 1) (pa_cons (pe_lst (pa_cons (pe_call G4 hr3 (by rfl) g4 k4 b4 .nil pass0 (pa_cons (pv 1) pa_nil)) (pa_cons (pe_tup (pa_cons pe_int (pa_cons pe_int (pa_cons pe_int pa_nil)))) (pa_cons (pe_tup (pa_cons pe_int (pa_cons pe_int (pa_cons pe_int pa_nil)))) (pa_cons (pe_tup (pa_cons pe_int (pa_cons pe_int (pa_cons pe_int pa_nil)))) (pa_cons (pe_tup (pa_cons pe_int (pa_cons pe_int (pa_cons pe_int pa_nil)))) pa_nil)))))) pa_nil))))
      (pss_cons (ps_setLc (i := 4) (own := [("_law_again", 5)]) (g := gName 5) (tt := tYes) (by rfl) scLaw.nd rfl rfl (sw_true rfl rfl rfl (by decide +kernel)) (pi_range1 (by rfl) T.range (pa_cons pe_int pa_nil)) (blkOk_by (own := [("_law_again", 5)]) (N := nLw) (sc := defScope sLaw) (by decide +kernel)) (fun _ _ _ _ _ => pg_name (i := 5) scLaw.nd rfl (.inl rfl)) (fun _ _ _ _ _ => pts_nil) (fun _ _ _ _ _ => (pe_tup (pa_cons (pe_op op_add pe_int (pe_call G2 hr1 (by rfl) g2 k2 b2 .nil pass0 (pa_cons (pv 1) (pa_cons pe_int pa_nil)))) (pa_cons (pe_op op_add pe_int (pe_call G2 hr1 (by rfl) g2 k2 b2 .nil pass0 (pa_cons (pv 1) (pa_cons pe_int pa_nil)))) (pa_cons (pe_op op_sub (pe_call G2 hr1 (by rfl) g2 k2 b2 .nil pass0 (pa_cons (pv 1) (pa_cons pe_int pa_nil))) pe_int) pa_nil))))))
      (pss_cons (ps_par (i := 6) (j := 7) (by rfl) scLaw.nd rfl rfl (by decide) rfl rfl (pa_cons (pe_call G5 hr8 (by rfl) g5 k5 b5 .nil pass0 (pa_cons (pe_slice sl_tupA (pv 3) po_none (po_some pe_int)) pa_nil)) (pa_cons (pe_call G3 hr2 (by rfl) g3 k3 b3 .nil pass0 (pa_cons (pv 1) (pa_cons (pe_lst (pa_cons pe_str (pa_cons pe_str pa_nil))) pa_nil))) pa_nil)) (by rfl))
      (pss_one (ps_for PassesOwn.never rfl (pi_range2 (by rfl) T.range (pa_cons pe_int (pa_cons pe_int pa_nil))) (pg_name (i := 8) scLaw.nd rfl (.inl rfl))
        (pss_one (ps_for PassesOwn.never rfl (pi_range2 (by rfl) T.range (pa_cons (pe_meth (pv 6) RT.cl mm Gm hr4 bm .nil pass0 (pa_cons (pv 8) pa_nil)) (pa_cons (pe_op op_add (pe_meth (pv 6) RT.cl mm Gm hr4 bm .nil pass0 (pa_cons (pe_op op_add (pv 8) pe_int) pa_nil)) pe_int) pa_nil))) (pg_name (i := 9) scLaw.nd rfl (.inl rfl))
          (pss_one (ps_if (pt_not (pt_val (pe_call G6 hr (by rfl) g6 k6 b6 .nil pass0 (pa_cons (pv 3) (pa_cons (pv 4) (pa_cons (pv 7) (pa_cons (pv 8) (pa_cons (pv 9) pa_nil))))))))
            (pss_one ps_never) pss_nil))))))))))
    (pss_one (ps_ret pe_bl)))), ?_⟩
    refine ⟨_, rfl, a, ns, rfl, hS, hlen, fun p L H1 np s1 pn0 => ?_⟩
    refine ⟨3, rfl, by decide, by decide, for_range (n := 3) (fun i σ H2 => (∃ v2 v3 v4 v6 v7 v8 v9 : Option V, σ = [some (.ref a), some (.ref p), v2, v3, v4, none, v6, v7, v8, v9]) ∧ Pen L H2 p (100 * (i : Int))) ⟨⟨_, _, _, _, _, _, _, rfl⟩, pn0.mono (by decide)⟩ (fun i σ H2 hi h => ?_) (fun σ H2 h => ?_)⟩
    · obtain ⟨⟨v2, v3, v4, v6, v7, v8, v9, rfl⟩, pn⟩ := h
      -- the numbers
      refine ⟨_, rfl, _, rfl, p, L, _, rfl, by omega, pn, fun a0 p' q k t s' c H3 on ot nn ha0 t3 p3 => ?_⟩
      refine ⟨(by show 3 ≤ sizeLine; decide), fun u1 nu1 => ?_⟩
      have su1 := same_new (o := .tup [.int 2, .int 1, .int 0]) nu1
      have hu1 : upd H3 u1 (.tup [.int 2, .int 1, .int 0]) u1 = some (.tup (Row.tr 2 1 0).vs) := upd_same
      generalize upd H3 u1 (.tup [.int 2, .int 1, .int 0]) = U1 at su1 hu1 ⊢
      refine ⟨(by show 3 ≤ sizeLine; decide), fun u2 nu2 => ?_⟩
      have su2 := same_new (o := .tup [.int 1, .int 1, .int 1]) nu2
      have hu2 : upd U1 u2 (.tup [.int 1, .int 1, .int 1]) u2 = some (.tup (Row.tr 1 1 1).vs) := upd_same
      generalize upd U1 u2 (.tup [.int 1, .int 1, .int 1]) = U2 at su2 hu2 ⊢
      refine ⟨(by show 3 ≤ sizeLine; decide), fun u3 nu3 => ?_⟩
      have su3 := same_new (o := .tup [.int 3, .int 2, .int 1]) nu3
      have hu3 : upd U2 u3 (.tup [.int 3, .int 2, .int 1]) u3 = some (.tup (Row.tr 3 2 1).vs) := upd_same
      generalize upd U2 u3 (.tup [.int 3, .int 2, .int 1]) = U3 at su3 hu3 ⊢
      refine ⟨(by show 3 ≤ sizeLine; decide), fun u4 nu4 => ?_⟩
      have su4 := same_new (o := .tup [.int 5, .int 3, .int 1]) nu4
      have hu4 : upd U3 u4 (.tup [.int 5, .int 3, .int 1]) u4 = some (.tup (Row.tr 5 3 1).vs) := upd_same
      generalize upd U3 u4 (.tup [.int 5, .int 3, .int 1]) = U4 at su4 hu4 ⊢
      have sU : Same H3 U4 := ((su1.trans su2).trans su3).trans su4
      have pU := p3.keep sU
      refine ⟨(by show 5 ≤ sizeLine; decide), fun l nl => ⟨p, l, L, _, _, rfl, upd_same, pU.ne nl, (by show 1 ≤ 5; decide), (by show 5 ≤ 1000; decide), by omega, pU.new nl, fun dv H4 m4 t4 p4 => ?_⟩⟩
      have sl := same_new (o := .lst [.ref a0, .ref u1, .ref u2, .ref u3, .ref u4]) nl
      have pl := pU.new (o := .lst [.ref a0, .ref u1, .ref u2, .ref u3, .ref u4]) nl
      have up : ∀ {z : Addr} {xs : List V}, U4 z = some (.tup xs) → H4 z = some (.tup xs) := fun {z xs} e => But.tup (sl _ _ e) pl t4
      obtain ⟨ad, row, rfl, had, rok⟩ : ∃ (ad : Addr) (row : Row), dv = .ref ad ∧ H4 ad = some (.tup row.vs) ∧ row.ok := by
        simp only [List.mem_cons, List.not_mem_nil, or_false] at m4
        rcases m4 with e | e | e | e | e
        · exact ⟨a0, .tn p' q k t s' c, e, up (sU _ _ ha0), on, ot⟩
        · exact ⟨u1, .tr 2 1 0, e, up (su4 _ _ (su3 _ _ (su2 _ _ hu1))), by decide, by decide, by decide, by decide, by decide, by decide⟩
        · exact ⟨u2, .tr 1 1 1, e, up (su4 _ _ (su3 _ _ hu2)), by decide, by decide, by decide, by decide, by decide, by decide⟩
        · exact ⟨u3, .tr 3 2 1, e, up (su4 _ _ hu3), by decide, by decide, by decide, by decide, by decide, by decide⟩
        · exact ⟨u4, .tr 5 3 1, e, up hu4, by decide, by decide, by decide, by decide, by decide, by decide⟩
      -- the turns
      refine ⟨3, rfl, by decide, by decide, fun D nD => lc_range (lo := 0) (n := 3) (fun j H' => (∃ vs : List V, H' D = some (.lst vs) ∧ vs.length = j ∧ ∀ v ∈ vs, ∃ (t s c : Int) (z : Addr), v = .ref z ∧ H' z = some (.tup [.int t, .int s, .int c]) ∧ okT t s c) ∧ Pen L H' p (100 * (i : Int) + 20 + 3 * (j : Int)) ∧ H' ad = some (.tup row.vs)) ⟨⟨[], upd_same, rfl, fun v h => by cases h⟩, (p4.new nD).mono (by omega), same_new nD _ _ had⟩ (fun j H' hj h => ?_) (fun H5 h => ?_)⟩
      · obtain ⟨⟨vs, hD, hlen', hvs⟩, pj, hadj⟩ := h
        have Dp : D ≠ p := p4.ne nD
        have DL : D ≠ L := p4.neL nD
        refine ⟨rfl, tyes ⟨_, rfl, p, L, _, _, rfl, by decide, by decide, by omega, pj, fun d1 G1 b1' p1 x1 y1 => ⟨_, _, rfl, rfl, ?_⟩⟩⟩
        refine ⟨_, rfl, p, L, _, _, rfl, by decide, by decide, by omega, p1, fun d2 G2 b2' p2 x2 y2 => ⟨_, _, rfl, rfl, ?_⟩⟩
        refine ⟨_, rfl, p, L, _, _, rfl, by decide, by decide, by omega, p2, fun d3 G3 b3' p3' x3 y3 => ⟨_, _, rfl, rfl, (by show 3 ≤ sizeLine; decide), fun z nz => ?_⟩⟩
        have bt : But p H' G3 := (b1'.trans b2').trans b3'
        have hD3 := bt _ _ Dp hD
        have sz := same_new (o := .tup [.int (1 + d1), .int (1 + d2), .int (d3 - 6)]) nz
        refine ⟨_, sz _ _ hD3, by rw [hlen']; exact Nat.lt_of_lt_of_le (show j < 10 by omega) (by decide), ⟨⟨_, upd_same, by rw [List.length_append, hlen']; rfl, fun v hv => ?_⟩, ?_, ?_⟩⟩
        · have nzD : ∀ {y : Addr} {xs : List V}, upd G3 z (.tup [.int (1 + d1), .int (1 + d2), .int (d3 - 6)]) y = some (.tup xs) → y ≠ D := fun {y xs} e => ne_of e (sz _ _ hD3) (by intro w; cases w)
          rcases List.mem_append.mp hv with hv | hv
          · obtain ⟨t, s, c, y, rfl, hy, o⟩ := hvs v hv
            have hy3 : upd G3 z (.tup [.int (1 + d1), .int (1 + d2), .int (d3 - 6)]) y = some (.tup [.int t, .int s, .int c]) := sz _ _ (But.tup hy pj bt)
            exact ⟨t, s, c, y, rfl, by rw [upd_ne (nzD hy3)]; exact hy3, o⟩
          · rw [List.mem_singleton.mp hv]
            have hz : upd G3 z (.tup [.int (1 + d1), .int (1 + d2), .int (d3 - 6)]) z = some (.tup [.int (1 + d1), .int (1 + d2), .int (d3 - 6)]) := upd_same
            exact ⟨1 + d1, 1 + d2, d3 - 6, z, rfl, by rw [upd_ne (nzD hz)]; exact hz, ⟨by omega, by omega⟩, ⟨by omega, by omega⟩, by omega, by omega⟩
        · exact ((p3'.new nz).put Dp DL).mono (by omega)
        · have h3 := sz _ _ (But.tup hadj pj bt)
          rw [upd_ne (ne_of h3 (sz _ _ hD3) (by intro w; cases w))]
          exact h3
      · obtain ⟨⟨vs, hD, hlen', hvs⟩, p5, had5⟩ := h
        have ht5 : TurnsAt H5 D := ⟨vs, hD, hvs⟩
        -- the rule, the deed
        refine ⟨_, rfl, _, rfl, slA_any had5 fun l6 H6 s6 hl6 => ?_⟩
        rw [row_cut3] at hl6
        refine ⟨l6, .tr row.p row.q row.k, rfl, hl6, Row.okN rok, fun r H7 s7 ob7 => ?_⟩
        have s57 := s6.trans s7
        have p7 := p5.keep s57
        refine ⟨_, rfl, (by show 2 ≤ sizeLine; decide), fun ld nld => ⟨p, ld, L, _, _, rfl, upd_same, p7.ne nld, (by show 1 ≤ 2; decide), (by show 2 ≤ 1000; decide), by omega, p7.new nld, fun dd H8 m8 t8 p8 => ?_⟩⟩
        have pld := p7.new (o := .lst [.str "put", .str "take"]) nld
        have sld := same_new (o := .lst [.str "put", .str "take"]) nld
        obtain ⟨put, rfl⟩ : ∃ put : Bool, dd = .str (deedS put) := by
          simp only [List.mem_cons, List.not_mem_nil, or_false] at m8
          rcases m8 with e | e
          · exact ⟨true, e⟩
          · exact ⟨false, e⟩
        obtain ⟨ys, hpn⟩ := pld.some
        have ob8 := (ob7.keep sld).but hpn t8
        have had8 : H8 ad = some (.tup row.vs) := But.tup (sld _ _ (s57 _ _ had5)) pld t8
        have ht8 : TurnsAt H8 D := by
          refine ⟨vs, t8 _ _ ?_ (sld _ _ (s57 _ _ hD)), fun v hv => ?_⟩
          · exact fun z => by
              have e1 := sld _ _ (s57 _ _ hD)
              obtain ⟨ns', tn', ca', g1, g2, g3, _⟩ := p5
              rw [z, g1] at hD
              injection hD with hD
              injection hD with hD
              have h3 := hvs (.int tn') (by rw [← hD]; simp)
              obtain ⟨_, _, _, _, e, _⟩ := h3
              cases e
          · obtain ⟨t, s, c, y, rfl, hy, o⟩ := hvs v hv
            exact ⟨t, s, c, y, rfl, But.tup (sld _ _ (s57 _ _ hy)) pld t8, o⟩
        refine ⟨_, _, rfl, ?_⟩
        have okn := Row.okN rok
        obtain ⟨dr, ar, hr1', hr2'⟩ := id ob8
        -- all pairs
        refine ⟨1, 6, rfl, ⟨by decide, by decide, by decide, by decide⟩, for_range (lo := 1) (n := 5) (fun j σ G => Same H8 G ∧ ∃ v8 v9 : Option V, σ = [some (.ref a), some (.ref p), some (.int (0 + (i : Int))), some (.ref ad), some (.ref D), none, some (.ref r), some (.str (deedS put)), v8, v9]) ⟨Same.refl _, _, _, rfl⟩ (fun j σ G hj h => ?_) (fun σ G h => ?_)⟩
        · obtain ⟨s9, v8, v9, rfl⟩ := h
          have ob9 := ob8.keep s9
          have R9 := ob9.rb RT RN okn
          have j1 : (1 : Int) ≤ 1 + (j : Int) := by omega
          have j2 : (1 : Int) + (j : Int) ≤ 5 := by omega
          have ga := great_hi (x := 1 + (j : Int)) okn j1 (by omega)
          have gb := great_hi (x := 1 + (j : Int) + 1) okn (by omega) (by omega)
          have nog : (tryF ar row.k).lookup ("greatest" : Str) = none := try_no _ _ (by decide +kernel) (by decide +kernel)
          refine ⟨_, rfl, r, dr, _, rfl, s9 _ _ hr1', nog, _, rfl, r, row.p, row.q, row.k, _, rfl, R9, j1, by omega, ?_⟩
          refine ⟨_, rfl, r, dr, _, rfl, s9 _ _ hr1', nog, _, rfl, _, _, rfl, rfl, r, row.p, row.q, row.k, _, rfl, R9, by omega, by omega, _, _, rfl, rfl, ?_⟩
          refine ⟨greatV row.p row.q row.k (1 + (j : Int)), greatV row.p row.q row.k (1 + (j : Int) + 1) + 2, rfl, ⟨by omega, by omega, by omega, by omega⟩, for_range (lo := greatV row.p row.q row.k (1 + (j : Int))) (n := (greatV row.p row.q row.k (1 + (j : Int) + 1) + 2 - greatV row.p row.q row.k (1 + (j : Int))).toNat) (fun m σ G => Same H8 G ∧ ∃ v9 : Option V, σ = [some (.ref a), some (.ref p), some (.int (0 + (i : Int))), some (.ref ad), some (.ref D), none, some (.ref r), some (.str (deedS put)), some (.int (1 + (j : Int))), v9]) ⟨s9, _, rfl⟩ (fun m σ G2 hm h => ?_) (fun σ G2 h => ?_)⟩
          · obtain ⟨s10, v9, rfl⟩ := h
            refine ⟨_, rfl, _, rfl, _, rfl, _, rfl, _, rfl, ad, D, row, put, _, _, rfl, s10 _ _ had8, rok, ht8.keep s10, ⟨j1, by omega⟩, ⟨by omega, by omega⟩, fun G3 s11 => ⟨_, rfl, iteF ⟨s10.trans s11, _, rfl⟩⟩⟩
          · obtain ⟨s10, v9, rfl⟩ := h
            exact ⟨s10, _, _, rfl⟩
        · obtain ⟨s9, v8, v9, rfl⟩ := h
          exact ⟨⟨_, _, _, _, _, _, _, rfl⟩, (p8.keep s9).mono (by omega)⟩
    · obtain ⟨⟨v2, v3, v4, v6, v7, v8, v9, rfl⟩, pn⟩ := h
      exact kk H2
end
end Ev
namespace Ev
open PySem L2 PySem.Spec PyProof.Rows
theorem kit_cls' {K : PySem.W.Frag} {t : Value} {C : Addr} (h1 : PySem.W.isClsIn K C = true) (h2 : PySem.W.typeIn K (.ref C) = some (.type "type")) (h3 : PySem.W.subIn K t (.ref C) = some true) : PySem.W.kitCls K t (.ref C) = some true := by
  have h1 : (PySem.W.clsIn K C).isSome = true := h1
  unfold PySem.W.kitCls
  simp only [h1, h2, h3]
  decide
theorem kit_own {K : PySem.W.Frag} {t : Value} {C : Addr} (h1 : PySem.W.isClsIn K C = true) (h2 : PySem.W.typeIn K (.ref C) = some (.type "type")) (h3 : PySem.W.subIn K t (.ref C) = some true) : PySem.W.kitOne K t (.ref C) = some true := by
  unfold PySem.W.kitOne
  split
  · rfl
  · exact kit_cls' h1 h2 h3
theorem kit_self {K : PySem.W.Frag} {C : Addr} : PySem.W.kitOne K (.ref C) (.ref C) = some true := by
  unfold PySem.W.kitOne
  rw [if_pos (by simp)]
theorem kit_clsB {K : PySem.W.Frag} {t : Value} {C : Addr} {b : Bool} (h1 : PySem.W.isClsIn K C = true) (h2 : PySem.W.typeIn K (.ref C) = some (.type "type")) (h3 : PySem.W.subIn K t (.ref C) = some b) : PySem.W.kitCls K t (.ref C) = some b := by
  have h1 : (PySem.W.clsIn K C).isSome = true := h1
  unfold PySem.W.kitCls
  simp only [h1, h2, h3]
  cases b <;> decide
theorem kit_not {K : PySem.W.Frag} {D C : Addr} (h1 : PySem.W.isClsIn K C = true) (h2 : PySem.W.typeIn K (.ref C) = some (.type "type")) (h3 : PySem.W.subIn K (.ref D) (.ref C) = some false) (h4 : PySem.W.subIn K (.ref C) (.ref C) = some true) : PySem.W.kitOne K (.ref D) (.ref C) = some false := by
  unfold PySem.W.kitOne
  split
  · rename_i z
    by_cases e : D = C
    · rw [e, h4] at h3
      cases h3
    · have n : ((Value.ref D) == (Value.ref C)) = false := by simp [e]
      rw [n] at z
      cases z
  · exact kit_clsB h1 h2 h3
theorem sqT_K {K : PySem.W.Frag} {H : Hp} {a : Addr} {od : Option Addr} {us : List Value} {n : Nat} {sl : Array (Option Value)} {xs : List V} (h : K.lookup a = some ⟨.type "tuple", od, .seq us.toArray n, sl⟩) (hl : xs.length ≤ 1000) (r : Vals xs us) : SqT K H a xs := by
  have hl2 : us.length ≤ 1000 := by rw [← r.length]; exact hl
  exact .inr ⟨_, us.toArray, n, h, rfl, rfl, by rw [List.size_toArray]; exact Nat.le_trans hl2 (by decide), by simpa using r⟩
set_option maxHeartbeats 4000000 in
theorem all_mk {l : PySem.W.OpenLaw} {w : World} {K : PySem.W.Frag} {h : Heap} {mg : Str → Option Value} {f0 f1 f2 f3 f4 f5 f6 f7 f8 f9 f10 f11 f12 f13 f14 f15 f16 f17 f18 f19 f20 f21 f22 f23 f24 f25 f26 f27 f28 f29 f30 f31 f32 f33 f34 f35 f36 f37 Ct Cn GR WR CA CW T150 f150 T151 f151 f152 f153 f154 f155 f156 f157 f158 f159 f160 f161 DE SK ON O0 O1 O2 O3 TW V0 V1 V2 V3 V4 V5 V6 SOlight SOtop SO SOlighth SOlighto SOtoph SOtopo LTlight LTfar LTtop LT LTlighth LTlighto LTfarh LTfaro LTtoph LTtopo fa : Addr} {od0 an0 od1 an1 od2 an2 od3 an3 od4 an4 od5 an5 od6 an6 od7 an7 od8 an8 od9 an9 od10 an10 od11 an11 od12 an12 od13 an13 od14 an14 od15 an15 od16 an16 od17 an17 od18 an18 od19 an19 od20 an20 od21 an21 od22 an22 od23 an23 od24 an24 od25 an25 od26 an26 od27 an27 od28 an28 od29 an29 od30 an30 od31 an31 od32 an32 od33 an33 od34 an34 od35 an35 od36 an36 od37 an37 td150 od150 an150 td151 od151 an151 od152 an152 od153 an153 od154 an154 od155 an155 od156 an156 od157 an157 od158 an158 od159 an159 od160 an160 od161 an161 odDE odSK odON odO0 odO1 odO2 odO3 odTW odV0 odV1 odV2 odV3 odV4 odV5 odV6 odSOlight odSOlighth odSOlighto odSOtop odSOtoph odSOtopo odLTlight odLTlighth odLTlighto odLTfar odLTfarh odLTfaro odLTtop odLTtoph odLTtopo : Option Addr} {sl0 sl1 sl2 sl3 sl4 sl5 sl6 sl7 sl8 sl9 sl10 sl11 sl12 sl13 sl14 sl15 sl16 sl17 sl18 sl19 sl20 sl21 sl22 sl23 sl24 sl25 sl26 sl27 sl28 sl29 sl30 sl31 sl32 sl33 sl34 sl35 sl36 sl37 ts150 sl150 ts151 sl151 sl152 sl153 sl154 sl155 sl156 sl157 sl158 sl159 sl160 sl161 slDE slSK slON slO0 slO1 slO2 slO3 slTW slV0 slV1 slV2 slV3 slV4 slV5 slV6 slSOlight slSOlighth slSOlighto slSOtop slSOtoph slSOtopo slLTlight slLTlighth slLTlighto slLTfar slLTfarh slLTfaro slLTtop slLTtoph slLTtopo : Array (Option Value)} {oc0 dc0 pm0 cd0 ct0 kV0 oc1 dc1 pm1 cd1 ct1 kV1 oc2 dc2 pm2 cd2 ct2 kV2 oc3 dc3 pm3 cd3 ct3 kV3 oc4 dc4 pm4 cd4 ct4 kV4 oc5 dc5 pm5 cd5 ct5 kV5 oc6 dc6 pm6 cd6 ct6 kV6 oc7 dc7 pm7 cd7 ct7 kV7 oc8 dc8 pm8 cd8 ct8 kV8 oc9 dc9 pm9 cd9 ct9 kV9 oc10 dc10 pm10 cd10 ct10 kV10 oc11 dc11 pm11 cd11 ct11 kV11 oc12 dc12 pm12 cd12 ct12 kV12 oc13 dc13 pm13 cd13 ct13 kV13 oc14 dc14 pm14 cd14 ct14 kV14 oc15 dc15 pm15 cd15 ct15 kV15 oc16 dc16 pm16 cd16 ct16 kV16 oc17 dc17 pm17 cd17 ct17 kV17 oc18 dc18 pm18 cd18 ct18 kV18 oc19 dc19 pm19 cd19 ct19 kV19 oc20 dc20 pm20 cd20 ct20 kV20 oc21 dc21 pm21 cd21 ct21 kV21 oc22 dc22 pm22 cd22 ct22 kV22 oc23 dc23 pm23 cd23 ct23 kV23 oc24 dc24 pm24 cd24 ct24 kV24 oc25 dc25 pm25 cd25 ct25 kV25 oc26 dc26 pm26 cd26 ct26 kV26 oc27 dc27 pm27 cd27 ct27 kV27 oc28 dc28 pm28 cd28 ct28 kV28 oc29 dc29 pm29 cd29 ct29 kV29 oc30 dc30 pm30 cd30 ct30 kV30 oc31 dc31 pm31 cd31 ct31 kV31 oc32 dc32 pm32 cd32 ct32 kV32 oc33 dc33 pm33 cd33 ct33 kV33 oc34 dc34 pm34 cd34 ct34 kV34 oc35 dc35 pm35 cd35 ct35 kV35 oc36 dc36 pm36 cd36 ct36 kV36 oc37 dc37 pm37 cd37 ct37 kV37 tc150 oc150 dc150 pm150 cd150 ct150 kV150 tc151 oc151 dc151 pm151 cd151 ct151 kV151 oc152 dc152 pm152 cd152 ct152 kV152 oc153 dc153 pm153 cd153 ct153 kV153 oc154 dc154 pm154 cd154 ct154 kV154 oc155 dc155 pm155 cd155 ct155 kV155 oc156 dc156 pm156 cd156 ct156 kV156 oc157 dc157 pm157 cd157 ct157 kV157 oc158 dc158 pm158 cd158 ct158 kV158 oc159 dc159 pm159 cd159 ct159 kV159 oc160 dc160 pm160 cd160 ct160 kV160 oc161 dc161 pm161 cd161 ct161 kV161 : Value} {tt1500 tt1510 tW tgP tgU tgH tgK uDE0 uDE1 uSK0 uSK1 uO00 uO01 uO10 uO11 uO20 uO21 uO30 uO31 uV00 uV01 uV10 uV11 uV20 uV21 uV30 uV31 uV40 uV41 uV50 uV51 uV60 uV61 tkSO0 tkSO1 uSOlighth0 uSOlighth1 uSOlighth2 uSOlighto0 uSOlighto1 uSOlighto2 uSOtoph0 uSOtoph1 uSOtoph2 uSOtopo0 uSOtopo1 uSOtopo2 tkLT0 tkLT1 tkLT2 uLTlighth0 uLTlighth1 uLTlighth2 uLTlighth3 uLTlighto0 uLTlighto1 uLTlighto2 uLTlighto3 uLTfarh0 uLTfarh1 uLTfarh2 uLTfarh3 uLTfaro0 uLTfaro1 uLTfaro2 uLTfaro3 uLTtoph0 uLTtoph1 uLTtoph2 uLTtoph3 uLTtopo0 uLTtopo1 uLTtopo2 uLTtopo3 : Tok} {tn150 tn151 nDE nSK nON nO0 nO1 nO2 nO3 nTW nV0 nV1 nV2 nV3 nV4 nV5 nV6 nSO nSOlight nSOlighth nSOlighto nSOtop nSOtoph nSOtopo nLT nLTlight nLTlighth nLTlighto nLTfar nLTfarh nLTfaro nLTtop nLTtoph nLTtopo : Nat} {hSO0 hSO1 hLT0 hLT1 hLT2 : Int} (X : K.In h) (G : h.Ns mainGlobals mg) (hfa : mg "law" = some (.ref fa))
    (a0 : PySem.W.nsIn K mainGlobals "is_integer" = some (some (.ref f0)))
    (l0 : K.lookup f0 = some ⟨oc0, od0, .func (PySem.W.fnOf "is_integer" "is_integer" (defArgs sIsInt) (defBody sIsInt) (defScope sIsInt) .none kV0 dc0 pm0 an0 cd0 ct0), sl0⟩)
    (c0 : PySem.W.codeIn K cd0 "is_integer" = true)
    (k0 : PySem.W.keepIn K (.ref f0) = true)
    (a1 : PySem.W.nsIn K mainGlobals "is_within" = some (some (.ref f1)))
    (l1 : K.lookup f1 = some ⟨oc1, od1, .func (PySem.W.fnOf "is_within" "is_within" (defArgs sWithin) (defBody sWithin) (defScope sWithin) .none kV1 dc1 pm1 an1 cd1 ct1), sl1⟩)
    (c1 : PySem.W.codeIn K cd1 "is_within" = true)
    (k1 : PySem.W.keepIn K (.ref f1) = true)
    (a2 : PySem.W.nsIn K mainGlobals "is_pair" = some (some (.ref f2)))
    (l2 : K.lookup f2 = some ⟨oc2, od2, .func (PySem.W.fnOf "is_pair" "is_pair" (defArgs sPair) (defBody sPair) (defScope sPair) .none kV2 dc2 pm2 an2 cd2 ct2), sl2⟩)
    (c2 : PySem.W.codeIn K cd2 "is_pair" = true)
    (k2 : PySem.W.keepIn K (.ref f2) = true)
    (a3 : PySem.W.nsIn K mainGlobals "is_times" = some (some (.ref f3)))
    (l3 : K.lookup f3 = some ⟨oc3, od3, .func (PySem.W.fnOf "is_times" "is_times" (defArgs sTimes) (defBody sTimes) (defScope sTimes) .none kV3 dc3 pm3 an3 cd3 ct3), sl3⟩)
    (c3 : PySem.W.codeIn K cd3 "is_times" = true)
    (k3 : PySem.W.keepIn K (.ref f3) = true)
    (a4 : PySem.W.nsIn K mainGlobals "is_plus" = some (some (.ref f4)))
    (l4 : K.lookup f4 = some ⟨oc4, od4, .func (PySem.W.fnOf "is_plus" "is_plus" (defArgs sPlus) (defBody sPlus) (defScope sPlus) .none kV4 dc4 pm4 an4 cd4 ct4), sl4⟩)
    (c4 : PySem.W.codeIn K cd4 "is_plus" = true)
    (k4 : PySem.W.keepIn K (.ref f4) = true)
    (a5 : PySem.W.nsIn K mainGlobals "is_turn" = some (some (.ref f5)))
    (l5 : K.lookup f5 = some ⟨oc5, od5, .func (PySem.W.fnOf "is_turn" "is_turn" (defArgs sTurn) (defBody sTurn) (defScope sTurn) .none kV5 dc5 pm5 an5 cd5 ct5), sl5⟩)
    (c5 : PySem.W.codeIn K cd5 "is_turn" = true)
    (k5 : PySem.W.keepIn K (.ref f5) = true)
    (a6 : PySem.W.nsIn K mainGlobals "need_times" = some (some (.ref f6)))
    (l6 : K.lookup f6 = some ⟨oc6, od6, .func (PySem.W.fnOf "need_times" "need_times" (defArgs sNeedT) (defBody sNeedT) (defScope sNeedT) .none kV6 dc6 pm6 an6 cd6 ct6), sl6⟩)
    (c6 : PySem.W.codeIn K cd6 "need_times" = true)
    (k6 : PySem.W.keepIn K (.ref f6) = true)
    (a7 : PySem.W.nsIn K mainGlobals "has_halves" = some (some (.ref f7)))
    (l7 : K.lookup f7 = some ⟨oc7, od7, .func (PySem.W.fnOf "has_halves" "has_halves" (defArgs sHalves) (defBody sHalves) (defScope sHalves) .none kV7 dc7 pm7 an7 cd7 ct7), sl7⟩)
    (c7 : PySem.W.codeIn K cd7 "has_halves" = true)
    (k7 : PySem.W.keepIn K (.ref f7) = true)
    (a8 : PySem.W.nsIn K mainGlobals "need_halves" = some (some (.ref f8)))
    (l8 : K.lookup f8 = some ⟨oc8, od8, .func (PySem.W.fnOf "need_halves" "need_halves" (defArgs sNeedH) (defBody sNeedH) (defScope sNeedH) .none kV8 dc8 pm8 an8 cd8 ct8), sl8⟩)
    (c8 : PySem.W.codeIn K cd8 "need_halves" = true)
    (k8 : PySem.W.keepIn K (.ref f8) = true)
    (a9 : PySem.W.nsIn K mainGlobals "need_rule" = some (some (.ref f9)))
    (l9 : K.lookup f9 = some ⟨oc9, od9, .func (PySem.W.fnOf "need_rule" "need_rule" (defArgs sNeedR) (defBody sNeedR) (defScope sNeedR) .none kV9 dc9 pm9 an9 cd9 ct9), sl9⟩)
    (c9 : PySem.W.codeIn K cd9 "need_rule" = true)
    (k9 : PySem.W.keepIn K (.ref f9) = true)
    (a10 : PySem.W.nsIn K mainGlobals "need_weight" = some (some (.ref f10)))
    (l10 : K.lookup f10 = some ⟨oc10, od10, .func (PySem.W.fnOf "need_weight" "need_weight" (defArgs sNeedW) (defBody sNeedW) (defScope sNeedW) .none kV10 dc10 pm10 an10 cd10 ct10), sl10⟩)
    (c10 : PySem.W.codeIn K cd10 "need_weight" = true)
    (k10 : PySem.W.keepIn K (.ref f10) = true)
    (a11 : PySem.W.nsIn K mainGlobals "least_beside" = some (some (.ref f11)))
    (l11 : K.lookup f11 = some ⟨oc11, od11, .func (PySem.W.fnOf "least_beside" "least_beside" (defArgs sLeastB) (defBody sLeastB) (defScope sLeastB) .none kV11 dc11 pm11 an11 cd11 ct11), sl11⟩)
    (c11 : PySem.W.codeIn K cd11 "least_beside" = true)
    (k11 : PySem.W.keepIn K (.ref f11) = true)
    (a12 : PySem.W.nsIn K mainGlobals "greatest_beside" = some (some (.ref f12)))
    (l12 : K.lookup f12 = some ⟨oc12, od12, .func (PySem.W.fnOf "greatest_beside" "greatest_beside" (defArgs sGreatestBeside) (defBody sGreatestBeside) (defScope sGreatestBeside) .none kV12 dc12 pm12 an12 cd12 ct12), sl12⟩)
    (c12 : PySem.W.codeIn K cd12 "greatest_beside" = true)
    (k12 : PySem.W.keepIn K (.ref f12) = true)
    (a13 : PySem.W.nsIn K mainGlobals "least_part" = some (some (.ref f13)))
    (l13 : K.lookup f13 = some ⟨oc13, od13, .func (PySem.W.fnOf "least_part" "least_part" (defArgs sLeastPart) (defBody sLeastPart) (defScope sLeastPart) .none kV13 dc13 pm13 an13 cd13 ct13), sl13⟩)
    (c13 : PySem.W.codeIn K cd13 "least_part" = true)
    (k13 : PySem.W.keepIn K (.ref f13) = true)
    (a14 : PySem.W.nsIn K mainGlobals "kept" = some (some (.ref f14)))
    (l14 : K.lookup f14 = some ⟨oc14, od14, .func (PySem.W.fnOf "kept" "kept" (defArgs sKept) (defBody sKept) (defScope sKept) .none kV14 dc14 pm14 an14 cd14 ct14), sl14⟩)
    (c14 : PySem.W.codeIn K cd14 "kept" = true)
    (k14 : PySem.W.keepIn K (.ref f14) = true)
    (a15 : PySem.W.nsIn K mainGlobals "is_flat" = some (some (.ref f15)))
    (l15 : K.lookup f15 = some ⟨oc15, od15, .func (PySem.W.fnOf "is_flat" "is_flat" (defArgs sFlat) (defBody sFlat) (defScope sFlat) .none kV15 dc15 pm15 an15 cd15 ct15), sl15⟩)
    (c15 : PySem.W.codeIn K cd15 "is_flat" = true)
    (k15 : PySem.W.keepIn K (.ref f15) = true)
    (a16 : PySem.W.nsIn K mainGlobals "is_list_of_integers" = some (some (.ref f16)))
    (l16 : K.lookup f16 = some ⟨oc16, od16, .func (PySem.W.fnOf "is_list_of_integers" "is_list_of_integers" (defArgs sIsListOfIntegers) (defBody sIsListOfIntegers) (defScope sIsListOfIntegers) .none kV16 dc16 pm16 an16 cd16 ct16), sl16⟩)
    (c16 : PySem.W.codeIn K cd16 "is_list_of_integers" = true)
    (k16 : PySem.W.keepIn K (.ref f16) = true)
    (a17 : PySem.W.nsIn K mainGlobals "is_deed" = some (some (.ref f17)))
    (l17 : K.lookup f17 = some ⟨oc17, od17, .func (PySem.W.fnOf "is_deed" "is_deed" (defArgs sIsDeed) (defBody sIsDeed) (defScope sIsDeed) .none kV17 dc17 pm17 an17 cd17 ct17), sl17⟩)
    (c17 : PySem.W.codeIn K cd17 "is_deed" = true)
    (k17 : PySem.W.keepIn K (.ref f17) = true)
    (a18 : PySem.W.nsIn K mainGlobals "is_case" = some (some (.ref f18)))
    (l18 : K.lookup f18 = some ⟨oc18, od18, .func (PySem.W.fnOf "is_case" "is_case" (defArgs sIsCase) (defBody sIsCase) (defScope sIsCase) .none kV18 dc18 pm18 an18 cd18 ct18), sl18⟩)
    (c18 : PySem.W.codeIn K cd18 "is_case" = true)
    (k18 : PySem.W.keepIn K (.ref f18) = true)
    (a19 : PySem.W.nsIn K mainGlobals "case_rows" = some (some (.ref f19)))
    (l19 : K.lookup f19 = some ⟨oc19, od19, .func (PySem.W.fnOf "case_rows" "case_rows" (defArgs sCaseRows) (defBody sCaseRows) (defScope sCaseRows) .none kV19 dc19 pm19 an19 cd19 ct19), sl19⟩)
    (c19 : PySem.W.codeIn K cd19 "case_rows" = true)
    (k19 : PySem.W.keepIn K (.ref f19) = true)
    (a20 : PySem.W.nsIn K mainGlobals "short_rows" = some (some (.ref f20)))
    (l20 : K.lookup f20 = some ⟨oc20, od20, .func (PySem.W.fnOf "short_rows" "short_rows" (defArgs sShortRows) (defBody sShortRows) (defScope sShortRows) .none kV20 dc20 pm20 an20 cd20 ct20), sl20⟩)
    (c20 : PySem.W.codeIn K cd20 "short_rows" = true)
    (k20 : PySem.W.keepIn K (.ref f20) = true)
    (a21 : PySem.W.nsIn K mainGlobals "long_rows" = some (some (.ref f21)))
    (l21 : K.lookup f21 = some ⟨oc21, od21, .func (PySem.W.fnOf "long_rows" "long_rows" (defArgs sLongRows) (defBody sLongRows) (defScope sLongRows) .none kV21 dc21 pm21 an21 cd21 ct21), sl21⟩)
    (c21 : PySem.W.codeIn K cd21 "long_rows" = true)
    (k21 : PySem.W.keepIn K (.ref f21) = true)
    (a22 : PySem.W.nsIn K mainGlobals "turn_row" = some (some (.ref f22)))
    (l22 : K.lookup f22 = some ⟨oc22, od22, .func (PySem.W.fnOf "turn_row" "turn_row" (defArgs sTurnRow) (defBody sTurnRow) (defScope sTurnRow) .none kV22 dc22 pm22 an22 cd22 ct22), sl22⟩)
    (c22 : PySem.W.codeIn K cd22 "turn_row" = true)
    (k22 : PySem.W.keepIn K (.ref f22) = true)
    (a23 : PySem.W.nsIn K mainGlobals "too_heavy" = some (some (.ref f23)))
    (l23 : K.lookup f23 = some ⟨oc23, od23, .func (PySem.W.fnOf "too_heavy" "too_heavy" (defArgs sTooHeavy) (defBody sTooHeavy) (defScope sTooHeavy) .none kV23 dc23 pm23 an23 cd23 ct23), sl23⟩)
    (c23 : PySem.W.codeIn K cd23 "too_heavy" = true)
    (k23 : PySem.W.keepIn K (.ref f23) = true)
    (a24 : PySem.W.nsIn K mainGlobals "numbers_break" = some (some (.ref f24)))
    (l24 : K.lookup f24 = some ⟨oc24, od24, .func (PySem.W.fnOf "numbers_break" "numbers_break" (defArgs sNumbersBreak) (defBody sNumbersBreak) (defScope sNumbersBreak) .none kV24 dc24 pm24 an24 cd24 ct24), sl24⟩)
    (c24 : PySem.W.codeIn K cd24 "numbers_break" = true)
    (k24 : PySem.W.keepIn K (.ref f24) = true)
    (a25 : PySem.W.nsIn K mainGlobals "keep_short" = some (some (.ref f25)))
    (l25 : K.lookup f25 = some ⟨oc25, od25, .func (PySem.W.fnOf "keep_short" "keep_short" (defArgs sKeepShort) (defBody sKeepShort) (defScope sKeepShort) .none kV25 dc25 pm25 an25 cd25 ct25), sl25⟩)
    (c25 : PySem.W.codeIn K cd25 "keep_short" = true)
    (k25 : PySem.W.keepIn K (.ref f25) = true)
    (a26 : PySem.W.nsIn K mainGlobals "keep_long" = some (some (.ref f26)))
    (l26 : K.lookup f26 = some ⟨oc26, od26, .func (PySem.W.fnOf "keep_long" "keep_long" (defArgs sKeepLong) (defBody sKeepLong) (defScope sKeepLong) .none kV26 dc26 pm26 an26 cd26 ct26), sl26⟩)
    (c26 : PySem.W.codeIn K cd26 "keep_long" = true)
    (k26 : PySem.W.keepIn K (.ref f26) = true)
    (a27 : PySem.W.nsIn K mainGlobals "turn_ends" = some (some (.ref f27)))
    (l27 : K.lookup f27 = some ⟨oc27, od27, .func (PySem.W.fnOf "turn_ends" "turn_ends" (defArgs sTurnEnds) (defBody sTurnEnds) (defScope sTurnEnds) .none kV27 dc27 pm27 an27 cd27 ct27), sl27⟩)
    (c27 : PySem.W.codeIn K cd27 "turn_ends" = true)
    (k27 : PySem.W.keepIn K (.ref f27) = true)
    (a28 : PySem.W.nsIn K mainGlobals "heavy_ends" = some (some (.ref f28)))
    (l28 : K.lookup f28 = some ⟨oc28, od28, .func (PySem.W.fnOf "heavy_ends" "heavy_ends" (defArgs sHeavyEnds) (defBody sHeavyEnds) (defScope sHeavyEnds) .none kV28 dc28 pm28 an28 cd28 ct28), sl28⟩)
    (c28 : PySem.W.codeIn K cd28 "heavy_ends" = true)
    (k28 : PySem.W.keepIn K (.ref f28) = true)
    (a29 : PySem.W.nsIn K mainGlobals "breaks" = some (some (.ref f29)))
    (l29 : K.lookup f29 = some ⟨oc29, od29, .func (PySem.W.fnOf "breaks" "breaks" (defArgs sBreaks) (defBody sBreaks) (defScope sBreaks) .none kV29 dc29 pm29 an29 cd29 ct29), sl29⟩)
    (c29 : PySem.W.codeIn K cd29 "breaks" = true)
    (k29 : PySem.W.keepIn K (.ref f29) = true)
    (a30 : PySem.W.nsIn K mainGlobals "_law_pen" = some (some (.ref f30)))
    (l30 : K.lookup f30 = some ⟨oc30, od30, .func (PySem.W.fnOf "_law_pen" "_law_pen" (defArgs sPen) (defBody sPen) (defScope sPen) .none kV30 dc30 pm30 an30 cd30 ct30), sl30⟩)
    (c30 : PySem.W.codeIn K cd30 "_law_pen" = true)
    (k30 : PySem.W.keepIn K (.ref f30) = true)
    (a31 : PySem.W.nsIn K mainGlobals "_law_draw" = some (some (.ref f31)))
    (l31 : K.lookup f31 = some ⟨oc31, od31, .func (PySem.W.fnOf "_law_draw" "_law_draw" (defArgs sDraw) (defBody sDraw) (defScope sDraw) .none kV31 dc31 pm31 an31 cd31 ct31), sl31⟩)
    (c31 : PySem.W.codeIn K cd31 "_law_draw" = true)
    (k31 : PySem.W.keepIn K (.ref f31) = true)
    (a32 : PySem.W.nsIn K mainGlobals "_law_pick" = some (some (.ref f32)))
    (l32 : K.lookup f32 = some ⟨oc32, od32, .func (PySem.W.fnOf "_law_pick" "_law_pick" (defArgs sPick) (defBody sPick) (defScope sPick) .none kV32 dc32 pm32 an32 cd32 ct32), sl32⟩)
    (c32 : PySem.W.codeIn K cd32 "_law_pick" = true)
    (k32 : PySem.W.keepIn K (.ref f32) = true)
    (a33 : PySem.W.nsIn K mainGlobals "_law_numbers" = some (some (.ref f33)))
    (l33 : K.lookup f33 = some ⟨oc33, od33, .func (PySem.W.fnOf "_law_numbers" "_law_numbers" (defArgs sLNumbers) (defBody sLNumbers) (defScope sLNumbers) .none kV33 dc33 pm33 an33 cd33 ct33), sl33⟩)
    (c33 : PySem.W.codeIn K cd33 "_law_numbers" = true)
    (k33 : PySem.W.keepIn K (.ref f33) = true)
    (a34 : PySem.W.nsIn K mainGlobals "_law_rule" = some (some (.ref f34)))
    (l34 : K.lookup f34 = some ⟨oc34, od34, .func (PySem.W.fnOf "_law_rule" "_law_rule" (defArgs sLRule) (defBody sLRule) (defScope sLRule) .none kV34 dc34 pm34 an34 cd34 ct34), sl34⟩)
    (c34 : PySem.W.codeIn K cd34 "_law_rule" = true)
    (k34 : PySem.W.keepIn K (.ref f34) = true)
    (a35 : PySem.W.nsIn K mainGlobals "_law_carried" = some (some (.ref f35)))
    (l35 : K.lookup f35 = some ⟨oc35, od35, .func (PySem.W.fnOf "_law_carried" "_law_carried" (defArgs sLCarried) (defBody sLCarried) (defScope sLCarried) .none kV35 dc35 pm35 an35 cd35 ct35), sl35⟩)
    (c35 : PySem.W.codeIn K cd35 "_law_carried" = true)
    (k35 : PySem.W.keepIn K (.ref f35) = true)
    (a36 : PySem.W.nsIn K mainGlobals "_law_pair_right" = some (some (.ref f36)))
    (l36 : K.lookup f36 = some ⟨oc36, od36, .func (PySem.W.fnOf "_law_pair_right" "_law_pair_right" (defArgs sLPairRight) (defBody sLPairRight) (defScope sLPairRight) .none kV36 dc36 pm36 an36 cd36 ct36), sl36⟩)
    (c36 : PySem.W.codeIn K cd36 "_law_pair_right" = true)
    (k36 : PySem.W.keepIn K (.ref f36) = true)
    (a37 : PySem.W.nsIn K mainGlobals "law" = some (some (.ref f37)))
    (l37 : K.lookup f37 = some ⟨oc37, od37, .func (PySem.W.fnOf "law" "law" (defArgs sLaw) (defBody sLaw) (defScope sLaw) .none kV37 dc37 pm37 an37 cd37 ct37), sl37⟩)
    (c37 : PySem.W.codeIn K cd37 "law" = true)
    (k37 : PySem.W.keepIn K (.ref f37) = true)
    (aCt : PySem.W.nsIn K mainGlobals "TryRule" = some (some (.ref Ct)))
    (pgCt : PySem.W.plainGet K Ct Str.empty = true)
    (hdCt : PySem.W.hasDictIn K Ct = true)
    (poCt : PySem.W.plainOver K Ct = true)
    (saCt : PySem.W.findIn K (.ref Ct) "__setattr__" = some (some (.builtin "object.__setattr__")))
    (mkCt : PySem.W.makesIn K Ct = true)
    (kcCt : PySem.W.keepIn K (.ref Ct) = true)
    (n0Ct : PySem.W.findIn K (.ref Ct) "times" = some none)
    (n1Ct : PySem.W.findIn K (.ref Ct) "plus" = some none)
    (n2Ct : PySem.W.findIn K (.ref Ct) "turn" = some none)
    (n3Ct : PySem.W.findIn K (.ref Ct) "turn_plus" = some none)
    (aCn : PySem.W.nsIn K mainGlobals "TurnRule" = some (some (.ref Cn)))
    (pgCn : PySem.W.plainGet K Cn Str.empty = true)
    (hdCn : PySem.W.hasDictIn K Cn = true)
    (poCn : PySem.W.plainOver K Cn = true)
    (saCn : PySem.W.findIn K (.ref Cn) "__setattr__" = some (some (.builtin "object.__setattr__")))
    (mkCn : PySem.W.makesIn K Cn = true)
    (kcCn : PySem.W.keepIn K (.ref Cn) = true)
    (n0Cn : PySem.W.findIn K (.ref Cn) "times" = some none)
    (n1Cn : PySem.W.findIn K (.ref Cn) "plus" = some none)
    (n2Cn : PySem.W.findIn K (.ref Cn) "turn" = some none)
    (n3Cn : PySem.W.findIn K (.ref Cn) "turn_plus" = some none)
    (aGR : PySem.W.nsIn K mainGlobals "Grip" = some (some (.ref GR)))
    (pgGR : PySem.W.plainGet K GR Str.empty = true)
    (hdGR : PySem.W.hasDictIn K GR = true)
    (poGR : PySem.W.plainOver K GR = true)
    (saGR : PySem.W.findIn K (.ref GR) "__setattr__" = some (some (.builtin "object.__setattr__")))
    (mkGR : PySem.W.makesIn K GR = true)
    (kcGR : PySem.W.keepIn K (.ref GR) = true)
    (n0GR : PySem.W.findIn K (.ref GR) "own_rule" = some none)
    (n1GR : PySem.W.findIn K (.ref GR) "light" = some none)
    (n2GR : PySem.W.findIn K (.ref GR) "heavy" = some none)
    (n3GR : PySem.W.findIn K (.ref GR) "least_light" = some none)
    (n4GR : PySem.W.findIn K (.ref GR) "too_heavy" = some none)
    (n5GR : PySem.W.findIn K (.ref GR) "too_much" = some none)
    (aWR : PySem.W.nsIn K mainGlobals "Wrong" = some (some (.ref WR)))
    (pgWR : PySem.W.plainGet K WR Str.empty = true)
    (hdWR : PySem.W.hasDictIn K WR = true)
    (poWR : PySem.W.plainOver K WR = true)
    (saWR : PySem.W.findIn K (.ref WR) "__setattr__" = some (some (.builtin "object.__setattr__")))
    (mkWR : PySem.W.makesIn K WR = true)
    (kcWR : PySem.W.keepIn K (.ref WR) = true)
    (n0WR : PySem.W.findIn K (.ref WR) "deed" = some none)
    (n1WR : PySem.W.findIn K (.ref WR) "once" = some none)
    (n2WR : PySem.W.findIn K (.ref WR) "twice" = some none)
    (n3WR : PySem.W.findIn K (.ref WR) "numbers" = some none)
    (aCA : PySem.W.nsIn K mainGlobals "Case" = some (some (.ref CA)))
    (pgCA : PySem.W.plainGet K CA Str.empty = true)
    (hdCA : PySem.W.hasDictIn K CA = true)
    (poCA : PySem.W.plainOver K CA = true)
    (saCA : PySem.W.findIn K (.ref CA) "__setattr__" = some (some (.builtin "object.__setattr__")))
    (mkCA : PySem.W.makesIn K CA = true)
    (kcCA : PySem.W.keepIn K (.ref CA) = true)
    (n0CA : PySem.W.findIn K (.ref CA) "deed" = some none)
    (n1CA : PySem.W.findIn K (.ref CA) "once" = some none)
    (n2CA : PySem.W.findIn K (.ref CA) "twice" = some none)
    (aCW : PySem.W.nsIn K mainGlobals "WeightRule" = some (some (.ref CW)))
    (hcCt : PySem.W.findIn K (.ref Ct) "__class__" = some (some (.builtin "object.__class__")))
    (moCt : PySem.W.mroIn K Ct (.type "object") = some true)
    (hcCn : PySem.W.findIn K (.ref Cn) "__class__" = some (some (.builtin "object.__class__")))
    (moCn : PySem.W.mroIn K Cn (.type "object") = some true)
    (hcCA : PySem.W.findIn K (.ref CA) "__class__" = some (some (.builtin "object.__class__")))
    (moCA : PySem.W.mroIn K CA (.type "object") = some true)
    (suCt : PySem.W.subIn K (.ref Ct) (.ref CW) = some true)
    (suCn : PySem.W.subIn K (.ref Cn) (.ref CW) = some true)
    (icCW : PySem.W.isClsIn K CW = true)
    (ttCW : PySem.W.typeIn K (.ref CW) = some (.type "type"))
    (icCn : PySem.W.isClsIn K Cn = true)
    (ttCn : PySem.W.typeIn K (.ref Cn) = some (.type "type"))
    (sSCn : PySem.W.subIn K (.ref Cn) (.ref Cn) = some true)
    (snTN : PySem.W.subIn K (.ref Ct) (.ref Cn) = some false)
    (ikn : PySem.W.specialIn K (.builtin "object.__class__") "__get__" = some (some (.builtin "getset_descriptor.__get__")))
    (ikt : PySem.W.takesIn K (.builtin "object.__class__") = some true)
    (m150 : PySem.W.findIn K (.ref Ct) "__init__" = some (some (.ref f150)))
    (i150 : PySem.W.isFn K (.ref f150) = true)
    (l150 : K.lookup f150 = some ⟨oc150, od150, .func (PySem.W.fnOf "__init__" "TryRule.__init__" (defArgs sTryInit) (defBody sTryInit) (defScope sTryInit) (.ref T150) kV150 dc150 pm150 an150 cd150 ct150), sl150⟩)
    (c150 : PySem.W.codeIn K cd150 "TryRule.__init__" = true)
    (k150 : PySem.W.keepIn K (.ref f150) = true)
    (t150 : K.lookup T150 = some ⟨tc150, td150, .seq #[Value.int 0 tt1500] tn150, ts150⟩)
    (m151 : PySem.W.findIn K (.ref Cn) "__init__" = some (some (.ref f151)))
    (i151 : PySem.W.isFn K (.ref f151) = true)
    (l151 : K.lookup f151 = some ⟨oc151, od151, .func (PySem.W.fnOf "__init__" "TurnRule.__init__" (defArgs sTurnInit) (defBody sTurnInit) (defScope sTurnInit) (.ref T151) kV151 dc151 pm151 an151 cd151 ct151), sl151⟩)
    (c151 : PySem.W.codeIn K cd151 "TurnRule.__init__" = true)
    (k151 : PySem.W.keepIn K (.ref f151) = true)
    (t151 : K.lookup T151 = some ⟨tc151, td151, .seq #[Value.int 0 tt1510] tn151, ts151⟩)
    (m152 : PySem.W.findIn K (.ref Ct) "greatest" = some (some (.ref f152)))
    (i152 : PySem.W.isFn K (.ref f152) = true)
    (l152 : K.lookup f152 = some ⟨oc152, od152, .func (PySem.W.fnOf "greatest" "WeightRule.greatest" (defArgs sWeightRule_greatest) (defBody sWeightRule_greatest) (defScope sWeightRule_greatest) .none kV152 dc152 pm152 an152 cd152 ct152), sl152⟩)
    (c152 : PySem.W.codeIn K cd152 "WeightRule.greatest" = true)
    (k152 : PySem.W.keepIn K (.ref f152) = true)
    (m153 : PySem.W.findIn K (.ref GR) "__init__" = some (some (.ref f153)))
    (i153 : PySem.W.isFn K (.ref f153) = true)
    (l153 : K.lookup f153 = some ⟨oc153, od153, .func (PySem.W.fnOf "__init__" "Grip.__init__" (defArgs sGrip_init) (defBody sGrip_init) (defScope sGrip_init) .none kV153 dc153 pm153 an153 cd153 ct153), sl153⟩)
    (c153 : PySem.W.codeIn K cd153 "Grip.__init__" = true)
    (k153 : PySem.W.keepIn K (.ref f153) = true)
    (m154 : PySem.W.findIn K (.ref GR) "first_break" = some (some (.ref f154)))
    (i154 : PySem.W.isFn K (.ref f154) = true)
    (l154 : K.lookup f154 = some ⟨oc154, od154, .func (PySem.W.fnOf "first_break" "Grip.first_break" (defArgs sGrip_first_break) (defBody sGrip_first_break) (defScope sGrip_first_break) .none kV154 dc154 pm154 an154 cd154 ct154), sl154⟩)
    (c154 : PySem.W.codeIn K cd154 "Grip.first_break" = true)
    (k154 : PySem.W.keepIn K (.ref f154) = true)
    (m155 : PySem.W.findIn K (.ref GR) "first_of" = some (some (.ref f155)))
    (i155 : PySem.W.isFn K (.ref f155) = true)
    (l155 : K.lookup f155 = some ⟨oc155, od155, .func (PySem.W.fnOf "first_of" "Grip.first_of" (defArgs sGrip_first_of) (defBody sGrip_first_of) (defScope sGrip_first_of) .none kV155 dc155 pm155 an155 cd155 ct155), sl155⟩)
    (c155 : PySem.W.codeIn K cd155 "Grip.first_of" = true)
    (k155 : PySem.W.keepIn K (.ref f155) = true)
    (m156 : PySem.W.findIn K (.ref GR) "once_ends" = some (some (.ref f156)))
    (i156 : PySem.W.isFn K (.ref f156) = true)
    (l156 : K.lookup f156 = some ⟨oc156, od156, .func (PySem.W.fnOf "once_ends" "Grip.once_ends" (defArgs sGrip_once_ends) (defBody sGrip_once_ends) (defScope sGrip_once_ends) .none kV156 dc156 pm156 an156 cd156 ct156), sl156⟩)
    (c156 : PySem.W.codeIn K cd156 "Grip.once_ends" = true)
    (k156 : PySem.W.keepIn K (.ref f156) = true)
    (m157 : PySem.W.findIn K (.ref GR) "numbers_of" = some (some (.ref f157)))
    (i157 : PySem.W.isFn K (.ref f157) = true)
    (l157 : K.lookup f157 = some ⟨oc157, od157, .func (PySem.W.fnOf "numbers_of" "Grip.numbers_of" (defArgs sGrip_numbers_of) (defBody sGrip_numbers_of) (defScope sGrip_numbers_of) .none kV157 dc157 pm157 an157 cd157 ct157), sl157⟩)
    (c157 : PySem.W.codeIn K cd157 "Grip.numbers_of" = true)
    (k157 : PySem.W.keepIn K (.ref f157) = true)
    (m158 : PySem.W.findIn K (.ref GR) "near_ends" = some (some (.ref f158)))
    (i158 : PySem.W.isFn K (.ref f158) = true)
    (l158 : K.lookup f158 = some ⟨oc158, od158, .func (PySem.W.fnOf "near_ends" "Grip.near_ends" (defArgs sGrip_near_ends) (defBody sGrip_near_ends) (defScope sGrip_near_ends) .none kV158 dc158 pm158 an158 cd158 ct158), sl158⟩)
    (c158 : PySem.W.codeIn K cd158 "Grip.near_ends" = true)
    (k158 : PySem.W.keepIn K (.ref f158) = true)
    (m159 : PySem.W.findIn K (.ref GR) "with_near" = some (some (.ref f159)))
    (i159 : PySem.W.isFn K (.ref f159) = true)
    (l159 : K.lookup f159 = some ⟨oc159, od159, .func (PySem.W.fnOf "with_near" "Grip.with_near" (defArgs sGrip_with_near) (defBody sGrip_with_near) (defScope sGrip_with_near) .none kV159 dc159 pm159 an159 cd159 ct159), sl159⟩)
    (c159 : PySem.W.codeIn K cd159 "Grip.with_near" = true)
    (k159 : PySem.W.keepIn K (.ref f159) = true)
    (m160 : PySem.W.findIn K (.ref WR) "__init__" = some (some (.ref f160)))
    (i160 : PySem.W.isFn K (.ref f160) = true)
    (l160 : K.lookup f160 = some ⟨oc160, od160, .func (PySem.W.fnOf "__init__" "Wrong.__init__" (defArgs sWrong_init) (defBody sWrong_init) (defScope sWrong_init) .none kV160 dc160 pm160 an160 cd160 ct160), sl160⟩)
    (c160 : PySem.W.codeIn K cd160 "Wrong.__init__" = true)
    (k160 : PySem.W.keepIn K (.ref f160) = true)
    (m161 : PySem.W.findIn K (.ref CA) "__init__" = some (some (.ref f161)))
    (i161 : PySem.W.isFn K (.ref f161) = true)
    (l161 : K.lookup f161 = some ⟨oc161, od161, .func (PySem.W.fnOf "__init__" "Case.__init__" (defArgs sCase_init) (defBody sCase_init) (defScope sCase_init) .none kV161 dc161 pm161 an161 cd161 ct161), sl161⟩)
    (c161 : PySem.W.codeIn K cd161 "Case.__init__" = true)
    (k161 : PySem.W.keepIn K (.ref f161) = true)
    (rdW : PySem.W.readsIn K CW (.type "type") = true)
    (gaW : PySem.W.specialIn K (.ref CW) "__getattribute__" = some (some (.builtin "type.__getattribute__")))
    (cvW : PySem.W.findCls K (.ref CW) (.type "type") "MOST" = some (.val (.int 6 tW)))
    (hgP : PySem.W.nsIn K mainGlobals "MOST_PLUS" = some (some (.int 6 tgP)))
    (hgU : PySem.W.nsIn K mainGlobals "MOST_TURN" = some (some (.int 8 tgU)))
    (hgH : PySem.W.nsIn K mainGlobals "MOST_WEIGHT" = some (some (.int (10 ^ 60) tgH)))
    (hgK : PySem.W.nsIn K mainGlobals "MOST_ASKED" = some (some (.int (10 ^ 12) tgK)))
    (aDE : PySem.W.nsIn K mainGlobals "DEEDS" = some (some (.ref DE)))
    (lDE : K.lookup DE = some ⟨.type "tuple", odDE, .seq #[.str "put" uDE0, .str "take" uDE1] nDE, slDE⟩)
    (aSK : PySem.W.nsIn K mainGlobals "STUCK" = some (some (.ref SK)))
    (lSK : K.lookup SK = some ⟨.type "tuple", odSK, .seq #[.str "inner" uSK0, .str "none" uSK1] nSK, slSK⟩)
    (aON : PySem.W.nsIn K mainGlobals "ONCE" = some (some (.ref ON)))
    (lON : K.lookup ON = some ⟨.type "tuple", odON, .seq #[.ref O0, .ref O1, .ref O2, .ref O3] nON, slON⟩)
    (lO0 : K.lookup O0 = some ⟨.type "tuple", odO0, .seq #[.str "light" uO00, .str "first" uO01] nO0, slO0⟩)
    (lO1 : K.lookup O1 = some ⟨.type "tuple", odO1, .seq #[.str "light" uO10, .str "second" uO11] nO1, slO1⟩)
    (lO2 : K.lookup O2 = some ⟨.type "tuple", odO2, .seq #[.str "top" uO20, .str "first" uO21] nO2, slO2⟩)
    (lO3 : K.lookup O3 = some ⟨.type "tuple", odO3, .seq #[.str "top" uO30, .str "second" uO31] nO3, slO3⟩)
    (aTW : PySem.W.nsIn K mainGlobals "TWICE" = some (some (.ref TW)))
    (lTW : K.lookup TW = some ⟨.type "tuple", odTW, .seq #[.ref V0, .ref V1, .ref V2, .ref V3, .ref V4, .ref V5, .ref V6] nTW, slTW⟩)
    (lV0 : K.lookup V0 = some ⟨.type "tuple", odV0, .seq #[.str "inner" uV00, .str "none" uV01] nV0, slV0⟩)
    (lV1 : K.lookup V1 = some ⟨.type "tuple", odV1, .seq #[.str "light" uV10, .str "first" uV11] nV1, slV1⟩)
    (lV2 : K.lookup V2 = some ⟨.type "tuple", odV2, .seq #[.str "light" uV20, .str "second" uV21] nV2, slV2⟩)
    (lV3 : K.lookup V3 = some ⟨.type "tuple", odV3, .seq #[.str "far" uV30, .str "first" uV31] nV3, slV3⟩)
    (lV4 : K.lookup V4 = some ⟨.type "tuple", odV4, .seq #[.str "far" uV40, .str "second" uV41] nV4, slV4⟩)
    (lV5 : K.lookup V5 = some ⟨.type "tuple", odV5, .seq #[.str "top" uV50, .str "first" uV51] nV5, slV5⟩)
    (lV6 : K.lookup V6 = some ⟨.type "tuple", odV6, .seq #[.str "top" uV60, .str "second" uV61] nV6, slV6⟩)
    (aSO : PySem.W.nsIn K mainGlobals "SHORT_ONCE" = some (some (.ref SO)))
    (lSO : K.lookup SO = some ⟨.type "dict", none, .dict #[⟨hSO0, .str "light" tkSO0, .ref SOlight⟩, ⟨hSO1, .str "top" tkSO1, .ref SOtop⟩] nSO, #[]⟩)
    (hkSO0 : hSO0 = PyData.keyHash w.params "light")
    (nsSO0 : PySem.W.nsIn K SO "light" = some (some (.ref SOlight)))
    (hkSO1 : hSO1 = PyData.keyHash w.params "top")
    (nsSO1 : PySem.W.nsIn K SO "top" = some (some (.ref SOtop)))
    (lowSO : (SO == sysModules) = false)
    (lSOlight : K.lookup SOlight = some ⟨.type "tuple", odSOlight, .seq #[.ref SOlighth, .ref SOlighto] nSOlight, slSOlight⟩)
    (lSOlighth : K.lookup SOlighth = some ⟨.type "tuple", odSOlighth, .seq #[.int 1 uSOlighth0, .int 0 uSOlighth1, .int 0 uSOlighth2] nSOlighth, slSOlighth⟩)
    (lSOlighto : K.lookup SOlighto = some ⟨.type "tuple", odSOlighto, .seq #[.int 0 uSOlighto0, .int 1 uSOlighto1, .int 0 uSOlighto2] nSOlighto, slSOlighto⟩)
    (lSOtop : K.lookup SOtop = some ⟨.type "tuple", odSOtop, .seq #[.ref SOtoph, .ref SOtopo] nSOtop, slSOtop⟩)
    (lSOtoph : K.lookup SOtoph = some ⟨.type "tuple", odSOtoph, .seq #[.int 1 uSOtoph0, .int 1 uSOtoph1, .int 0 uSOtoph2] nSOtoph, slSOtoph⟩)
    (lSOtopo : K.lookup SOtopo = some ⟨.type "tuple", odSOtopo, .seq #[.int 0 uSOtopo0, .int 0 uSOtopo1, .int 1 uSOtopo2] nSOtopo, slSOtopo⟩)
    (aLT : PySem.W.nsIn K mainGlobals "LONG_TWICE" = some (some (.ref LT)))
    (lLT : K.lookup LT = some ⟨.type "dict", none, .dict #[⟨hLT0, .str "light" tkLT0, .ref LTlight⟩, ⟨hLT1, .str "far" tkLT1, .ref LTfar⟩, ⟨hLT2, .str "top" tkLT2, .ref LTtop⟩] nLT, #[]⟩)
    (hkLT0 : hLT0 = PyData.keyHash w.params "light")
    (nsLT0 : PySem.W.nsIn K LT "light" = some (some (.ref LTlight)))
    (hkLT1 : hLT1 = PyData.keyHash w.params "far")
    (nsLT1 : PySem.W.nsIn K LT "far" = some (some (.ref LTfar)))
    (hkLT2 : hLT2 = PyData.keyHash w.params "top")
    (nsLT2 : PySem.W.nsIn K LT "top" = some (some (.ref LTtop)))
    (lowLT : (LT == sysModules) = false)
    (lLTlight : K.lookup LTlight = some ⟨.type "tuple", odLTlight, .seq #[.ref LTlighth, .ref LTlighto] nLTlight, slLTlight⟩)
    (lLTlighth : K.lookup LTlighth = some ⟨.type "tuple", odLTlighth, .seq #[.int 1 uLTlighth0, .int 0 uLTlighth1, .int 0 uLTlighth2, .int 0 uLTlighth3] nLTlighth, slLTlighth⟩)
    (lLTlighto : K.lookup LTlighto = some ⟨.type "tuple", odLTlighto, .seq #[.int 0 uLTlighto0, .int 1 uLTlighto1, .int 0 uLTlighto2, .int 0 uLTlighto3] nLTlighto, slLTlighto⟩)
    (lLTfar : K.lookup LTfar = some ⟨.type "tuple", odLTfar, .seq #[.ref LTfarh, .ref LTfaro] nLTfar, slLTfar⟩)
    (lLTfarh : K.lookup LTfarh = some ⟨.type "tuple", odLTfarh, .seq #[.int 0 uLTfarh0, .int 0 uLTfarh1, .int 1 uLTfarh2, .int 0 uLTfarh3] nLTfarh, slLTfarh⟩)
    (lLTfaro : K.lookup LTfaro = some ⟨.type "tuple", odLTfaro, .seq #[.int 0 uLTfaro0, .int 0 uLTfaro1, .int 0 uLTfaro2, .int 1 uLTfaro3] nLTfaro, slLTfaro⟩)
    (lLTtop : K.lookup LTtop = some ⟨.type "tuple", odLTtop, .seq #[.ref LTtoph, .ref LTtopo] nLTtop, slLTtop⟩)
    (lLTtoph : K.lookup LTtoph = some ⟨.type "tuple", odLTtoph, .seq #[.int 1 uLTtoph0, .int 1 uLTtoph1, .int 0 uLTtoph2, .int 0 uLTtoph3] nLTtoph, slLTtoph⟩)
    (lLTtopo : K.lookup LTtopo = some ⟨.type "tuple", odLTtopo, .seq #[.int 0 uLTtopo0, .int 0 uLTtopo1, .int 1 uLTtopo2, .int 1 uLTtopo3] nLTtopo, slLTtopo⟩)
    (zint : PySem.W.nsIn K mainGlobals "int" = some none)
    (zlen : PySem.W.nsIn K mainGlobals "len" = some none)
    (zabs : PySem.W.nsIn K mainGlobals "abs" = some none)
    (zlist : PySem.W.nsIn K mainGlobals "list" = some none)
    (zmin : PySem.W.nsIn K mainGlobals "min" = some none)
    (zmax : PySem.W.nsIn K mainGlobals "max" = some none)
    (zisinstance : PySem.W.nsIn K mainGlobals "isinstance" = some none)
    (zbool : PySem.W.nsIn K mainGlobals "bool" = some none)
    (ztuple : PySem.W.nsIn K mainGlobals "tuple" = some none)
    (zall : PySem.W.nsIn K mainGlobals "all" = some none)
    (zrange : PySem.W.nsIn K mainGlobals "range" = some none)
    (zrepr : PySem.W.nsIn K mainGlobals "repr" = some none)
    (zdict : PySem.W.nsIn K mainGlobals "dict" = some none)
    (zzip : PySem.W.nsIn K mainGlobals "zip" = some none)
    (zsum : PySem.W.nsIn K mainGlobals "sum" = some none) :
    ∃ fd : FuncData, (∀ (s : Shared) (v : Value), BindsTo s fd ⟨[v], []⟩ [("_law_script", v)]) ∧ ∀ base : Heap, K.In base → base.Ns mainGlobals mg → FnOk l.prog w K mg base CX0 10 fa fd ["_law_script"] (spLaw K) := by
  have e := hfa.symm.trans (PySem.W.mg_of X G a37)
  cases e
  have F0 := fun_mk (st := sIsInt) l0 c0 k0
  have b0 := F0.binds (ps := ["value"]) fun _ _ _ _ _ _ us hl => match us, hl with | [_], _ => rfl
  have F1 := fun_mk (st := sWithin) l1 c1 k1
  have b1 := F1.binds (ps := ["value", "least", "most"]) fun _ _ _ _ _ _ us hl => match us, hl with | [_, _, _], _ => rfl
  have F2 := fun_mk (st := sPair) l2 c2 k2
  have b2 := F2.binds (ps := ["value", "most"]) fun _ _ _ _ _ _ us hl => match us, hl with | [_, _], _ => rfl
  have F3 := fun_mk (st := sTimes) l3 c3 k3
  have b3 := F3.binds (ps := ["value"]) fun _ _ _ _ _ _ us hl => match us, hl with | [_], _ => rfl
  have F4 := fun_mk (st := sPlus) l4 c4 k4
  have b4 := F4.binds (ps := ["value"]) fun _ _ _ _ _ _ us hl => match us, hl with | [_], _ => rfl
  have F5 := fun_mk (st := sTurn) l5 c5 k5
  have b5 := F5.binds (ps := ["value"]) fun _ _ _ _ _ _ us hl => match us, hl with | [_], _ => rfl
  have F6 := fun_mk (st := sNeedT) l6 c6 k6
  have b6 := F6.binds (ps := ["times", "plus"]) fun _ _ _ _ _ _ us hl => match us, hl with | [_, _], _ => rfl
  have F7 := fun_mk (st := sHalves) l7 c7 k7
  have b7 := F7.binds (ps := ["times", "plus"]) fun _ _ _ _ _ _ us hl => match us, hl with | [_, _], _ => rfl
  have F8 := fun_mk (st := sNeedH) l8 c8 k8
  have b8 := F8.binds (ps := ["times", "plus"]) fun _ _ _ _ _ _ us hl => match us, hl with | [_, _], _ => rfl
  have F9 := fun_mk (st := sNeedR) l9 c9 k9
  have b9 := F9.binds (ps := ["value"]) fun _ _ _ _ _ _ us hl => match us, hl with | [_], _ => rfl
  have F10 := fun_mk (st := sNeedW) l10 c10 k10
  have b10 := F10.binds (ps := ["value"]) fun _ _ _ _ _ _ us hl => match us, hl with | [_], _ => rfl
  have F11 := fun_mk (st := sLeastB) l11 c11 k11
  have b11 := F11.binds (ps := ["rule", "y"]) fun _ _ _ _ _ _ us hl => match us, hl with | [_, _], _ => rfl
  have F12 := fun_mk (st := sGreatestBeside) l12 c12 k12
  have b12 := F12.binds (ps := ["rule", "x"]) fun _ _ _ _ _ _ us hl => match us, hl with | [_, _], _ => rfl
  have F13 := fun_mk (st := sLeastPart) l13 c13 k13
  have b13 := F13.binds (ps := ["rule", "weight"]) fun _ _ _ _ _ _ us hl => match us, hl with | [_, _], _ => rfl
  have F14 := fun_mk (st := sKept) l14 c14 k14
  have b14 := F14.binds (ps := ["value"]) fun _ _ _ _ _ _ us hl => match us, hl with | [_], _ => rfl
  have F15 := fun_mk (st := sFlat) l15 c15 k15
  have b15 := F15.binds (ps := ["value"]) fun _ _ _ _ _ _ us hl => match us, hl with | [_], _ => rfl
  have F16 := fun_mk (st := sIsListOfIntegers) l16 c16 k16
  have b16 := F16.binds (ps := ["value"]) fun _ _ _ _ _ _ us hl => match us, hl with | [_], _ => rfl
  have F17 := fun_mk (st := sIsDeed) l17 c17 k17
  have b17 := F17.binds (ps := ["value"]) fun _ _ _ _ _ _ us hl => match us, hl with | [_], _ => rfl
  have F18 := fun_mk (st := sIsCase) l18 c18 k18
  have b18 := F18.binds (ps := ["rule", "value"]) fun _ _ _ _ _ _ us hl => match us, hl with | [_, _], _ => rfl
  have F19 := fun_mk (st := sCaseRows) l19 c19 k19
  have b19 := F19.binds (ps := ["rule", "case"]) fun _ _ _ _ _ _ us hl => match us, hl with | [_, _], _ => rfl
  have F20 := fun_mk (st := sShortRows) l20 c20 k20
  have b20 := F20.binds (ps := ["rule", "deed"]) fun _ _ _ _ _ _ us hl => match us, hl with | [_, _], _ => rfl
  have F21 := fun_mk (st := sLongRows) l21 c21 k21
  have b21 := F21.binds (ps := ["rule", "deed"]) fun _ _ _ _ _ _ us hl => match us, hl with | [_, _], _ => rfl
  have F22 := fun_mk (st := sTurnRow) l22 c22 k22
  have b22 := F22.binds (ps := ["rule", "is_once", "is_short"]) fun _ _ _ _ _ _ us hl => match us, hl with | [_, _, _], _ => rfl
  have F23 := fun_mk (st := sTooHeavy) l23 c23 k23
  have b23 := F23.binds (ps := ["rule", "sides", "side"]) fun _ _ _ _ _ _ us hl => match us, hl with | [_, _, _], _ => rfl
  have F24 := fun_mk (st := sNumbersBreak) l24 c24 k24
  have b24 := F24.binds (ps := ["rule", "case", "numbers"]) fun _ _ _ _ _ _ us hl => match us, hl with | [_, _, _], _ => rfl
  have F25 := fun_mk (st := sKeepShort) l25 c25 k25
  have b25 := F25.binds (ps := ["rows", "numbers"]) fun _ _ _ _ _ _ us hl => match us, hl with | [_, _], _ => rfl
  have F26 := fun_mk (st := sKeepLong) l26 c26 k26
  have b26 := F26.binds (ps := ["rows", "numbers"]) fun _ _ _ _ _ _ us hl => match us, hl with | [_, _], _ => rfl
  have F27 := fun_mk (st := sTurnEnds) l27 c27 k27
  have b27 := F27.binds (ps := ["rule", "heavy", "turns"]) fun _ _ _ _ _ _ us hl => match us, hl with | [_, _, _], _ => rfl
  have F28 := fun_mk (st := sHeavyEnds) l28 c28 k28
  have b28 := F28.binds (ps := ["rule", "deed", "light"]) fun _ _ _ _ _ _ us hl => match us, hl with | [_, _, _], _ => rfl
  have F29 := fun_mk (st := sBreaks) l29 c29 k29
  have b29 := F29.binds (ps := ["rule", "deed", "light", "heavy"]) fun _ _ _ _ _ _ us hl => match us, hl with | [_, _, _, _], _ => rfl
  have F30 := fun_mk (st := sPen) l30 c30 k30
  have b30 := F30.binds (ps := ["_law_script"]) fun _ _ _ _ _ _ us hl => match us, hl with | [_], _ => rfl
  have F31 := fun_mk (st := sDraw) l31 c31 k31
  have b31 := F31.binds (ps := ["_law_pen_here", "_law_many"]) fun _ _ _ _ _ _ us hl => match us, hl with | [_, _], _ => rfl
  have F32 := fun_mk (st := sPick) l32 c32 k32
  have b32 := F32.binds (ps := ["_law_pen_here", "_law_some"]) fun _ _ _ _ _ _ us hl => match us, hl with | [_, _], _ => rfl
  have F33 := fun_mk (st := sLNumbers) l33 c33 k33
  have b33 := F33.binds (ps := ["_law_pen_here"]) fun _ _ _ _ _ _ us hl => match us, hl with | [_], _ => rfl
  have F34 := fun_mk (st := sLRule) l34 c34 k34
  have b34 := F34.binds (ps := ["_law_some"]) fun _ _ _ _ _ _ us hl => match us, hl with | [_], _ => rfl
  have F35 := fun_mk (st := sLCarried) l35 c35 k35
  have b35 := F35.binds (ps := ["_law_rule_so", "_law_told"]) fun _ _ _ _ _ _ us hl => match us, hl with | [_, _], _ => rfl
  have F36 := fun_mk (st := sLPairRight) l36 c36 k36
  have b36 := F36.binds (ps := ["_law_some", "_law_turns_so", "_law_deed", "_law_a", "_law_b"]) fun _ _ _ _ _ _ us hl => match us, hl with | [_, _, _, _, _], _ => rfl
  have F37 := fun_mk (st := sLaw) l37 c37 k37
  have b37 := F37.binds (ps := ["_law_script"]) fun _ _ _ _ _ _ us hl => match us, hl with | [_], _ => rfl
  have F152 := fun_mk (st := sWeightRule_greatest) l152 c152 k152
  have b152 := F152.binds (ps := ["self", "x"]) fun _ _ _ _ _ _ us hl => match us, hl with | [_, _], _ => rfl
  have F153 := fun_mk (st := sGrip_init) l153 c153 k153
  have b153 := F153.binds (ps := ["self", "rule", "light", "heavy"]) fun _ _ _ _ _ _ us hl => match us, hl with | [_, _, _, _], _ => rfl
  have F154 := fun_mk (st := sGrip_first_break) l154 c154 k154
  have b154 := F154.binds (ps := ["self"]) fun _ _ _ _ _ _ us hl => match us, hl with | [_], _ => rfl
  have F155 := fun_mk (st := sGrip_first_of) l155 c155 k155
  have b155 := F155.binds (ps := ["self", "onces", "twices", "ends"]) fun _ _ _ _ _ _ us hl => match us, hl with | [_, _, _, _], _ => rfl
  have F156 := fun_mk (st := sGrip_once_ends) l156 c156 k156
  have b156 := F156.binds (ps := ["self", "once", "ends"]) fun _ _ _ _ _ _ us hl => match us, hl with | [_, _, _], _ => rfl
  have F157 := fun_mk (st := sGrip_numbers_of) l157 c157 k157
  have b157 := F157.binds (ps := ["self", "twice", "low", "high"]) fun _ _ _ _ _ _ us hl => match us, hl with | [_, _, _, _], _ => rfl
  have F158 := fun_mk (st := sGrip_near_ends) l158 c158 k158
  have b158 := F158.binds (ps := ["self", "twice", "inner"]) fun _ _ _ _ _ _ us hl => match us, hl with | [_, _, _], _ => rfl
  have F159 := fun_mk (st := sGrip_with_near) l159 c159 k159
  have b159 := F159.binds (ps := ["self", "least", "inner"]) fun _ _ _ _ _ _ us hl => match us, hl with | [_, _, _], _ => rfl
  have F160 := fun_mk (st := sWrong_init) l160 c160 k160
  have b160 := F160.binds (ps := ["self", "deed", "once", "twice", "numbers"]) fun _ _ _ _ _ _ us hl => match us, hl with | [_, _, _, _, _], _ => rfl
  have F161 := fun_mk (st := sCase_init) l161 c161 k161
  have b161 := F161.binds (ps := ["self", "deed", "once", "twice"]) fun _ _ _ _ _ _ us hl => match us, hl with | [_, _, _, _], _ => rfl
  refine ⟨PySem.W.fnOf "law" "law" (defArgs sLaw) (defBody sLaw) (defScope sLaw) .none kV37 dc37 pm37 an37 cd37 ct37, fun s v => .of_eq rfl, fun base _ _ => ?_⟩
  have T : Blt mg := ⟨PySem.W.mg_none_of X G zint, PySem.W.mg_none_of X G zlen, PySem.W.mg_none_of X G zabs, PySem.W.mg_none_of X G zlist, PySem.W.mg_none_of X G zmin, PySem.W.mg_none_of X G zmax, PySem.W.mg_none_of X G zisinstance, PySem.W.mg_none_of X G zbool, PySem.W.mg_none_of X G ztuple, PySem.W.mg_none_of X G zall, PySem.W.mg_none_of X G zrange, PySem.W.mg_none_of X G zrepr⟩
  have RT : RCls K Ct := ⟨⟨pgCt, hdCt, poCt, saCt⟩, n0Ct, n1Ct, n2Ct, n3Ct⟩
  have RN : RCls K Cn := ⟨⟨pgCn, hdCn, poCn, saCn⟩, n0Cn, n1Cn, n2Cn, n3Cn⟩
  have TG : GC K GR := ⟨⟨pgGR, hdGR, poGR, saGR⟩, n0GR, n1GR, n2GR, n3GR, n4GR, n5GR⟩
  have TWR : WC K WR := ⟨⟨pgWR, hdWR, poWR, saWR⟩, n0WR, n1WR, n2WR, n3WR⟩
  have TCA : CC K CA := ⟨⟨pgCA, hdCA, poCA, saCA⟩, n0CA, n1CA, n2CA⟩
  have ik : InsK K := ⟨ikn, ikt⟩
  have KT : RK K Ct CW := ⟨RT, hcCt, moCt, kit_own icCW ttCW suCt⟩
  have KN : RK K Cn CW := ⟨RN, hcCn, moCn, kit_own icCW ttCW suCn⟩
  have noTN : PySem.W.kitOne K (.ref Ct) (.ref Cn) = some false := kit_not icCn ttCn snTN sSCn
  have yesN : PySem.W.kitOne K (.ref Cn) (.ref Cn) = some true := kit_self
  have yesC : PySem.W.kitOne K (.ref CA) (.ref CA) = some true := kit_self
  have hDE : ∀ H, SqT K H DE [.str "put", .str "take"] := fun H => (sqT_K lDE (by show 2 ≤ 1000; decide) (.cons ⟨_, rfl⟩ (.cons ⟨_, rfl⟩ .nil)))
  have B : KB K mg SK ON TW := by
    refine ⟨(PySem.W.mg_of X G aSK), (PySem.W.mg_of X G aON), (PySem.W.mg_of X G aTW), fun H => ⟨SK, rfl, (sqT_K lSK (by show 2 ≤ 1000; decide) (.cons ⟨_, rfl⟩ (.cons ⟨_, rfl⟩ .nil)))⟩, fun H => ?_, fun H => ?_⟩
    · refine ⟨[.ref O0, .ref O1, .ref O2, .ref O3], (sqT_K lON (by show 4 ≤ 1000; decide) (.cons rfl (.cons rfl (.cons rfl (.cons rfl .nil))))), rfl, fun i o e => ?_⟩
      match i, e with

      | 0, e => rw [← Option.some.inj e]; exact ⟨_, rfl, O0, rfl, (sqT_K lO0 (by show 2 ≤ 1000; decide) (.cons ⟨_, rfl⟩ (.cons ⟨_, rfl⟩ .nil)))⟩
      | 1, e => rw [← Option.some.inj e]; exact ⟨_, rfl, O1, rfl, (sqT_K lO1 (by show 2 ≤ 1000; decide) (.cons ⟨_, rfl⟩ (.cons ⟨_, rfl⟩ .nil)))⟩
      | 2, e => rw [← Option.some.inj e]; exact ⟨_, rfl, O2, rfl, (sqT_K lO2 (by show 2 ≤ 1000; decide) (.cons ⟨_, rfl⟩ (.cons ⟨_, rfl⟩ .nil)))⟩
      | 3, e => rw [← Option.some.inj e]; exact ⟨_, rfl, O3, rfl, (sqT_K lO3 (by show 2 ≤ 1000; decide) (.cons ⟨_, rfl⟩ (.cons ⟨_, rfl⟩ .nil)))⟩
      | _ + 4, e => cases e
    · refine ⟨[.ref V0, .ref V1, .ref V2, .ref V3, .ref V4, .ref V5, .ref V6], (sqT_K lTW (by show 7 ≤ 1000; decide) (.cons rfl (.cons rfl (.cons rfl (.cons rfl (.cons rfl (.cons rfl (.cons rfl .nil)))))))), rfl, fun i o e => ?_⟩
      match i, e with
      | 0, e => rw [← Option.some.inj e]; exact ⟨_, rfl, V0, rfl, (sqT_K lV0 (by show 2 ≤ 1000; decide) (.cons ⟨_, rfl⟩ (.cons ⟨_, rfl⟩ .nil)))⟩
      | 1, e => rw [← Option.some.inj e]; exact ⟨_, rfl, V1, rfl, (sqT_K lV1 (by show 2 ≤ 1000; decide) (.cons ⟨_, rfl⟩ (.cons ⟨_, rfl⟩ .nil)))⟩
      | 2, e => rw [← Option.some.inj e]; exact ⟨_, rfl, V2, rfl, (sqT_K lV2 (by show 2 ≤ 1000; decide) (.cons ⟨_, rfl⟩ (.cons ⟨_, rfl⟩ .nil)))⟩
      | 3, e => rw [← Option.some.inj e]; exact ⟨_, rfl, V3, rfl, (sqT_K lV3 (by show 2 ≤ 1000; decide) (.cons ⟨_, rfl⟩ (.cons ⟨_, rfl⟩ .nil)))⟩
      | 4, e => rw [← Option.some.inj e]; exact ⟨_, rfl, V4, rfl, (sqT_K lV4 (by show 2 ≤ 1000; decide) (.cons ⟨_, rfl⟩ (.cons ⟨_, rfl⟩ .nil)))⟩
      | 5, e => rw [← Option.some.inj e]; exact ⟨_, rfl, V5, rfl, (sqT_K lV5 (by show 2 ≤ 1000; decide) (.cons ⟨_, rfl⟩ (.cons ⟨_, rfl⟩ .nil)))⟩
      | 6, e => rw [← Option.some.inj e]; exact ⟨_, rfl, V6, rfl, (sqT_K lV6 (by show 2 ≤ 1000; decide) (.cons ⟨_, rfl⟩ (.cons ⟨_, rfl⟩ .nil)))⟩
      | _ + 7, e => cases e
  have kdSlight : KDct K w SO "light" (.ref SOlight) := ⟨_, _, .ref SOlight, lSO, ⟨⟨_, _, rfl, hkSO0⟩, ⟨_, _, rfl, hkSO1⟩, trivial⟩, nsSO0, rfl⟩
  have kdStop : KDct K w SO "top" (.ref SOtop) := ⟨_, _, .ref SOtop, lSO, ⟨⟨_, _, rfl, hkSO0⟩, ⟨_, _, rfl, hkSO1⟩, trivial⟩, nsSO1, rfl⟩
  have kdLlight : KDct K w LT "light" (.ref LTlight) := ⟨_, _, .ref LTlight, lLT, ⟨⟨_, _, rfl, hkLT0⟩, ⟨_, _, rfl, hkLT1⟩, ⟨_, _, rfl, hkLT2⟩, trivial⟩, nsLT0, rfl⟩
  have kdLfar : KDct K w LT "far" (.ref LTfar) := ⟨_, _, .ref LTfar, lLT, ⟨⟨_, _, rfl, hkLT0⟩, ⟨_, _, rfl, hkLT1⟩, ⟨_, _, rfl, hkLT2⟩, trivial⟩, nsLT1, rfl⟩
  have kdLtop : KDct K w LT "top" (.ref LTtop) := ⟨_, _, .ref LTtop, lLT, ⟨⟨_, _, rfl, hkLT0⟩, ⟨_, _, rfl, hkLT1⟩, ⟨_, _, rfl, hkLT2⟩, trivial⟩, nsLT2, rfl⟩
  have DK : KD K w mg SO LT := by
    refine ⟨(PySem.W.mg_of X G aSO), (PySem.W.mg_of X G aLT), fun b hb => ?_, fun b hb nb => ?_⟩
    · cases b
      · simp [onces] at hb
      · exact ⟨.ref SOlight, kdSlight, fun H => ⟨SOlight, SOlighth, SOlighto, rfl, (sqT_K lSOlight (by show 2 ≤ 1000; decide) (.cons rfl (.cons rfl .nil))), (sqT_K lSOlighth (by show 3 ≤ 1000; decide) (.cons ⟨_, rfl⟩ (.cons ⟨_, rfl⟩ (.cons ⟨_, rfl⟩ .nil)))), (sqT_K lSOlighto (by show 3 ≤ 1000; decide) (.cons ⟨_, rfl⟩ (.cons ⟨_, rfl⟩ (.cons ⟨_, rfl⟩ .nil))))⟩⟩
      · exact ⟨.ref SOlight, kdSlight, fun H => ⟨SOlight, SOlighth, SOlighto, rfl, (sqT_K lSOlight (by show 2 ≤ 1000; decide) (.cons rfl (.cons rfl .nil))), (sqT_K lSOlighth (by show 3 ≤ 1000; decide) (.cons ⟨_, rfl⟩ (.cons ⟨_, rfl⟩ (.cons ⟨_, rfl⟩ .nil)))), (sqT_K lSOlighto (by show 3 ≤ 1000; decide) (.cons ⟨_, rfl⟩ (.cons ⟨_, rfl⟩ (.cons ⟨_, rfl⟩ .nil))))⟩⟩
      · simp [onces] at hb
      · simp [onces] at hb
      · exact ⟨.ref SOtop, kdStop, fun H => ⟨SOtop, SOtoph, SOtopo, rfl, (sqT_K lSOtop (by show 2 ≤ 1000; decide) (.cons rfl (.cons rfl .nil))), (sqT_K lSOtoph (by show 3 ≤ 1000; decide) (.cons ⟨_, rfl⟩ (.cons ⟨_, rfl⟩ (.cons ⟨_, rfl⟩ .nil)))), (sqT_K lSOtopo (by show 3 ≤ 1000; decide) (.cons ⟨_, rfl⟩ (.cons ⟨_, rfl⟩ (.cons ⟨_, rfl⟩ .nil))))⟩⟩
      · exact ⟨.ref SOtop, kdStop, fun H => ⟨SOtop, SOtoph, SOtopo, rfl, (sqT_K lSOtop (by show 2 ≤ 1000; decide) (.cons rfl (.cons rfl .nil))), (sqT_K lSOtoph (by show 3 ≤ 1000; decide) (.cons ⟨_, rfl⟩ (.cons ⟨_, rfl⟩ (.cons ⟨_, rfl⟩ .nil)))), (sqT_K lSOtopo (by show 3 ≤ 1000; decide) (.cons ⟨_, rfl⟩ (.cons ⟨_, rfl⟩ (.cons ⟨_, rfl⟩ .nil))))⟩⟩
    · cases b
      · exact absurd rfl nb
      · exact ⟨.ref LTlight, kdLlight, fun H => ⟨LTlight, LTlighth, LTlighto, rfl, (sqT_K lLTlight (by show 2 ≤ 1000; decide) (.cons rfl (.cons rfl .nil))), (sqT_K lLTlighth (by show 4 ≤ 1000; decide) (.cons ⟨_, rfl⟩ (.cons ⟨_, rfl⟩ (.cons ⟨_, rfl⟩ (.cons ⟨_, rfl⟩ .nil))))), (sqT_K lLTlighto (by show 4 ≤ 1000; decide) (.cons ⟨_, rfl⟩ (.cons ⟨_, rfl⟩ (.cons ⟨_, rfl⟩ (.cons ⟨_, rfl⟩ .nil)))))⟩⟩
      · exact ⟨.ref LTlight, kdLlight, fun H => ⟨LTlight, LTlighth, LTlighto, rfl, (sqT_K lLTlight (by show 2 ≤ 1000; decide) (.cons rfl (.cons rfl .nil))), (sqT_K lLTlighth (by show 4 ≤ 1000; decide) (.cons ⟨_, rfl⟩ (.cons ⟨_, rfl⟩ (.cons ⟨_, rfl⟩ (.cons ⟨_, rfl⟩ .nil))))), (sqT_K lLTlighto (by show 4 ≤ 1000; decide) (.cons ⟨_, rfl⟩ (.cons ⟨_, rfl⟩ (.cons ⟨_, rfl⟩ (.cons ⟨_, rfl⟩ .nil)))))⟩⟩
      · exact ⟨.ref LTfar, kdLfar, fun H => ⟨LTfar, LTfarh, LTfaro, rfl, (sqT_K lLTfar (by show 2 ≤ 1000; decide) (.cons rfl (.cons rfl .nil))), (sqT_K lLTfarh (by show 4 ≤ 1000; decide) (.cons ⟨_, rfl⟩ (.cons ⟨_, rfl⟩ (.cons ⟨_, rfl⟩ (.cons ⟨_, rfl⟩ .nil))))), (sqT_K lLTfaro (by show 4 ≤ 1000; decide) (.cons ⟨_, rfl⟩ (.cons ⟨_, rfl⟩ (.cons ⟨_, rfl⟩ (.cons ⟨_, rfl⟩ .nil)))))⟩⟩
      · exact ⟨.ref LTfar, kdLfar, fun H => ⟨LTfar, LTfarh, LTfaro, rfl, (sqT_K lLTfar (by show 2 ≤ 1000; decide) (.cons rfl (.cons rfl .nil))), (sqT_K lLTfarh (by show 4 ≤ 1000; decide) (.cons ⟨_, rfl⟩ (.cons ⟨_, rfl⟩ (.cons ⟨_, rfl⟩ (.cons ⟨_, rfl⟩ .nil))))), (sqT_K lLTfaro (by show 4 ≤ 1000; decide) (.cons ⟨_, rfl⟩ (.cons ⟨_, rfl⟩ (.cons ⟨_, rfl⟩ (.cons ⟨_, rfl⟩ .nil)))))⟩⟩
      · exact ⟨.ref LTtop, kdLtop, fun H => ⟨LTtop, LTtoph, LTtopo, rfl, (sqT_K lLTtop (by show 2 ≤ 1000; decide) (.cons rfl (.cons rfl .nil))), (sqT_K lLTtoph (by show 4 ≤ 1000; decide) (.cons ⟨_, rfl⟩ (.cons ⟨_, rfl⟩ (.cons ⟨_, rfl⟩ (.cons ⟨_, rfl⟩ .nil))))), (sqT_K lLTtopo (by show 4 ≤ 1000; decide) (.cons ⟨_, rfl⟩ (.cons ⟨_, rfl⟩ (.cons ⟨_, rfl⟩ (.cons ⟨_, rfl⟩ .nil)))))⟩⟩
      · exact ⟨.ref LTtop, kdLtop, fun H => ⟨LTtop, LTtoph, LTtopo, rfl, (sqT_K lLTtop (by show 2 ≤ 1000; decide) (.cons rfl (.cons rfl .nil))), (sqT_K lLTtoph (by show 4 ≤ 1000; decide) (.cons ⟨_, rfl⟩ (.cons ⟨_, rfl⟩ (.cons ⟨_, rfl⟩ (.cons ⟨_, rfl⟩ .nil))))), (sqT_K lLTtopo (by show 4 ≤ 1000; decide) (.cons ⟨_, rfl⟩ (.cons ⟨_, rfl⟩ (.cons ⟨_, rfl⟩ (.cons ⟨_, rfl⟩ .nil)))))⟩⟩
  have D150 : FunD K "__init__" "TryRule.__init__" (defArgs sTryInit) (defBody sTryInit) (defScope sTryInit) [.int 0] [] f150 _ := ⟨⟨_, _, _, _, _, _, _, _, _, _, rfl, l150, c150, .inr ⟨by simp, T150, _, [Value.int 0 tt1500], tn150, rfl, t150, rfl, .cons ⟨_, rfl⟩ .nil⟩, .inl rfl⟩, k150⟩
  obtain ⟨ds150, v150, b150⟩ := FunD.binds1 (ps := ["self", "times", "plus"]) D150 3 1 (by simp) rfl (fun _ _ _ _ _ _ _ us its h1 h2 => match us, its, h1, h2 with | [_, _, _], [_], _, _ => ⟨_, rfl, rfl⟩)
  cases v150
  have D151 : FunD K "__init__" "TurnRule.__init__" (defArgs sTurnInit) (defBody sTurnInit) (defScope sTurnInit) [.int 0] [] f151 _ := ⟨⟨_, _, _, _, _, _, _, _, _, _, rfl, l151, c151, .inr ⟨by simp, T151, _, [Value.int 0 tt1510], tn151, rfl, t151, rfl, .cons ⟨_, rfl⟩ .nil⟩, .inl rfl⟩, k151⟩
  obtain ⟨its151, b151⟩ := FunD.kbindsD (ps := ["self", "times", "plus", "turn", "turn_plus"]) D151 3 ["turn", "turn_plus"] (fun us _ ws => us ++ ws) (by simp) (fun r1 _ r2 => r1.append r2)
    (fun _ _ _ _ _ _ _ us its ws h1 h2 h3 => match us, its, ws, h1, h2, h3 with | [_, _, _], [_], [_, _], _, _, _ => ⟨_, rfl, rfl⟩)
  have d0 : Df l.prog w K mg base 1 "is_integer" ["value"] _ := ⟨f0, _, ok_isInt F0 T, PySem.W.mg_of X G a0, F0.kp, b0⟩
  obtain ⟨_, _, GI, gI, kI, bI⟩ := d0.ex
  have d1 : Df l.prog w K mg base 2 "is_within" ["value", "least", "most"] _ := ⟨f1, _, ok_within F1 T GI gI kI bI, PySem.W.mg_of X G a1, F1.kp, b1⟩
  have d2 : Df l.prog w K mg base 3 "is_pair" ["value", "most"] _ := ⟨f2, _, ok_pair F2 T d1, PySem.W.mg_of X G a2, F2.kp, b2⟩
  have d3 : Df l.prog w K mg base 4 "is_times" ["value"] _ := ⟨f3, _, ok_times F3 d2 (PySem.W.mg_of X G aCW) ⟨rdW, gaW⟩ ⟨cvW, ⟨_, rfl⟩⟩, PySem.W.mg_of X G a3, F3.kp, b3⟩
  have d4 : Df l.prog w K mg base 3 "is_plus" ["value"] _ := ⟨f4, _, ok_plus F4 d1 (PySem.W.mg_of X G hgP), PySem.W.mg_of X G a4, F4.kp, b4⟩
  have d5 : Df l.prog w K mg base 4 "is_turn" ["value"] _ := ⟨f5, _, ok_turn F5 d2 (PySem.W.mg_of X G hgU), PySem.W.mg_of X G a5, F5.kp, b5⟩
  have d6 : Df l.prog w K mg base 5 "need_times" ["times", "plus"] _ := ⟨f6, _, ok_needT F6 d3 d4, PySem.W.mg_of X G a6, F6.kp, b6⟩
  have d7 : Df l.prog w K mg base 1 "has_halves" ["times", "plus"] _ := ⟨f7, _, ok_halves F7, PySem.W.mg_of X G a7, F7.kp, b7⟩
  have d8 : Df l.prog w K mg base 2 "need_halves" ["times", "plus"] _ := ⟨f8, _, ok_needH F8 d7, PySem.W.mg_of X G a8, F8.kp, b8⟩
  have d9 : Df l.prog w K mg base 1 "need_rule" ["value"] _ := ⟨f9, _, ok_needR F9 T (PySem.W.mg_of X G aCW) KT KN ik, PySem.W.mg_of X G a9, F9.kp, b9⟩
  have d10 : Df l.prog w K mg base 3 "need_weight" ["value"] _ := ⟨f10, _, ok_needW F10 d1 (PySem.W.mg_of X G hgH), PySem.W.mg_of X G a10, F10.kp, b10⟩
  have d11 : Df l.prog w K mg base 1 "least_beside" ["rule", "y"] _ := ⟨f11, _, ok_leastB F11 T, PySem.W.mg_of X G a11, F11.kp, b11⟩
  have d12 : Df l.prog w K mg base 1 "greatest_beside" ["rule", "x"] _ := ⟨f12, _, ok_greatB F12, PySem.W.mg_of X G a12, F12.kp, b12⟩
  have d13 : Df l.prog w K mg base 1 "least_part" ["rule", "weight"] _ := ⟨f13, _, ok_part F13 T, PySem.W.mg_of X G a13, F13.kp, b13⟩
  have d15 : Df l.prog w K mg base 1 "is_flat" ["value"] _ := ⟨f15, _, ok_flatT F15 T (PySem.W.mg_none_of X G zdict), PySem.W.mg_of X G a15, F15.kp, b15⟩
  have d14 : Df l.prog w K mg base 2 "kept" ["value"] _ := ⟨f14, _, ok_keptT F14 T (PySem.W.mg_none_of X G zdict) d15, PySem.W.mg_of X G a14, F14.kp, b14⟩
  have d16 : Df l.prog w K mg base 1 "is_list_of_integers" ["value"] _ := ⟨f16, _, ok_listInt F16 T, PySem.W.mg_of X G a16, F16.kp, b16⟩
  have d17 : Df l.prog w K mg base 1 "is_deed" ["value"] _ := ⟨f17, _, ok_isDeed F17 (PySem.W.mg_of X G aDE) hDE, PySem.W.mg_of X G a17, F17.kp, b17⟩
  have d18 : Df l.prog w K mg base 2 "is_case" ["rule", "value"] _ := ⟨f18, _, ok_isCase (Ct := Ct) F18 T TCA B (PySem.W.mg_of X G aCA) (PySem.W.mg_of X G aCn) KN ik yesN yesC hcCA moCA d17, PySem.W.mg_of X G a18, F18.kp, b18⟩
  have d20 : Df l.prog w K mg base 1 "short_rows" ["rule", "deed"] _ := ⟨f20, _, ok_short F20, PySem.W.mg_of X G a20, F20.kp, b20⟩
  have d21 : Df l.prog w K mg base 1 "long_rows" ["rule", "deed"] _ := ⟨f21, _, ok_long F21, PySem.W.mg_of X G a21, F21.kp, b21⟩
  have d22 : Df l.prog w K mg base 1 "turn_row" ["rule", "is_once", "is_short"] _ := ⟨f22, _, ok_turnR F22 RN, PySem.W.mg_of X G a22, F22.kp, b22⟩
  have d23 : Df l.prog w K mg base 1 "too_heavy" ["rule", "sides", "side"] _ := ⟨f23, _, ok_tooH F23 T (PySem.W.mg_none_of X G zzip), PySem.W.mg_of X G a23, F23.kp, b23⟩
  have d19 : Df l.prog w K mg base 3 "case_rows" ["rule", "case"] _ := ⟨f19, _, ok_caseR F19 T TCA B DK (PySem.W.mg_of X G aCn) RT RN KN ik yesN d9 d18 d20 d21 d22 d23, PySem.W.mg_of X G a19, F19.kp, b19⟩
  have d25 : Df l.prog w K mg base 1 "keep_short" ["rows", "numbers"] _ := ⟨f25, _, ok_keepS F25, PySem.W.mg_of X G a25, F25.kp, b25⟩
  have d26 : Df l.prog w K mg base 1 "keep_long" ["rows", "numbers"] _ := ⟨f26, _, ok_keepL F26, PySem.W.mg_of X G a26, F26.kp, b26⟩
  have d24 : Df l.prog w K mg base 4 "numbers_break" ["rule", "case", "numbers"] _ := ⟨f24, _, ok_NB F24 T d19 d16 d26 d25, PySem.W.mg_of X G a24, F24.kp, b24⟩
  have d27 : Df l.prog w K mg base 2 "turn_ends" ["rule", "heavy", "turns"] _ := ⟨f27, _, ok_turnE F27 RN d13, PySem.W.mg_of X G a27, F27.kp, b27⟩
  have d28 : Df l.prog w K mg base 2 "heavy_ends" ["rule", "deed", "light"] _ := ⟨f28, _, ok_heavy F28 d12, PySem.W.mg_of X G a28, F28.kp, b28⟩
  have M159 : Mt l.prog w K mg base GR "with_near" 2 ["self", "least", "inner"] (spWithN K GR Ct Cn) := ⟨f159, _, ⟨m159, i159, k159⟩, ok_withN F159 TG d11 d13, b159⟩
  have M158 : Mt l.prog w K mg base GR "near_ends" 3 ["self", "twice", "inner"] (spNearE K GR Ct Cn) := ⟨f158, _, ⟨m158, i158, k158⟩, ok_nearE F158 TG M159 d11 d13, b158⟩
  have M157 : Mt l.prog w K mg base GR "numbers_of" 4 ["self", "twice", "low", "high"] (spNumsO K GR Ct Cn) := ⟨f157, _, ⟨m157, i157, k157⟩, ok_numsO F157 TG B M158, b157⟩
  have M156 : Mt l.prog w K mg base GR "once_ends" 1 ["self", "once", "ends"] (spOnceE K GR Ct Cn) := ⟨f156, _, ⟨m156, i156, k156⟩, ok_onceE F156 TG, b156⟩
  have M155 : Mt l.prog w K mg base GR "first_of" 5 ["self", "onces", "twices", "ends"] (spFirstOf K GR Ct Cn) := ⟨f155, _, ⟨m155, i155, k155⟩, ok_firstOf F155 TG M156 M157, b155⟩
  have M154 : Mt l.prog w K mg base GR "first_break" 6 ["self"] (spFirstB K GR Ct Cn) := ⟨f154, _, ⟨m154, i154, k154⟩, ok_firstB F154 TG T B (PySem.W.mg_of X G aCn) KT KN ik noTN yesN M155 d13 d27, b154⟩
  have KG : Mak l.prog w K mg base GR "Grip" 2 ["self", "rule", "light", "heavy"] (spGripI K GR Ct Cn) := ⟨(PySem.W.mg_of X G aGR), f153, _, ⟨mkGR, m153, i153, kcGR⟩, ok_gripI F153 TG d11 d12, b153⟩
  have KW : Mak l.prog w K mg base WR "Wrong" 3 ["self", "deed", "once", "twice", "numbers"] (spWrongI K WR) := ⟨(PySem.W.mg_of X G aWR), f160, _, ⟨mkWR, m160, i160, kcWR⟩, ok_wrongI F160 TWR d14, b160⟩
  have KC : Mak l.prog w K mg base CA "Case" 3 ["self", "deed", "once", "twice"] (spCaseI K CA) := ⟨(PySem.W.mg_of X G aCA), f161, _, ⟨mkCA, m161, i161, kcCA⟩, ok_caseI F161 TCA d14, b161⟩
  have M152 : Mt l.prog w K mg base Ct "greatest" 4 ["self", "x"] (spGreatM K) := ⟨f152, _, ⟨m152, i152, k152⟩, ok_greatM F152 d10 d12, b152⟩
  have d29 : Df l.prog w K mg base 7 "breaks" ["rule", "deed", "light", "heavy"] _ := ⟨f29, _, ok_breaks F29 TG TWR RT RN (PySem.W.mg_of X G hgK) KG KW M154 d9 d17 d1 d28, PySem.W.mg_of X G a29, F29.kp, b29⟩
  have d30 : Df l.prog w K mg base 1 "_law_pen" ["_law_script"] _ := ⟨f30, _, ok_pen F30 T, PySem.W.mg_of X G a30, F30.kp, b30⟩
  have d31 : Df l.prog w K mg base 1 "_law_draw" ["_law_pen_here", "_law_many"] _ := ⟨f31, _, ok_draw F31 T, PySem.W.mg_of X G a31, F31.kp, b31⟩
  have d32 : Df l.prog w K mg base 2 "_law_pick" ["_law_pen_here", "_law_some"] _ := ⟨f32, _, ok_pick F32 T d31, PySem.W.mg_of X G a32, F32.kp, b32⟩
  have d33 : Df l.prog w K mg base 3 "_law_numbers" ["_law_pen_here"] _ := ⟨f33, _, ok_nums F33 T d31 d32, PySem.W.mg_of X G a33, F33.kp, b33⟩
  have GT0 := ok_tryInit (P := l.prog) (w := w) (mg := mg) (base := base) D150 RT d6 d8
  have GN0 := ok_turnInit (P := l.prog) (w := w) (mg := mg) (base := base) D151 RN d6 d8 d5 d4
  have d34 : Df l.prog w K mg base 8 "_law_rule" ["_law_some"] _ := ⟨f34, _, ok_rule F34 T (PySem.W.mg_of X G aCt) (PySem.W.mg_of X G aCn) ⟨mkCt, m150, i150, kcCt⟩ ⟨mkCn, m151, i151, kcCn⟩ GT0 b150 GN0 b151, PySem.W.mg_of X G a34, F34.kp, b34⟩
  have d35 : Df l.prog w K mg base 5 "_law_carried" ["_law_rule_so", "_law_told"] _ := ⟨f35, _, ok_car F35 T (PySem.W.mg_none_of X G zsum) TWR KC d24, PySem.W.mg_of X G a35, F35.kp, b35⟩
  have d36 : Df l.prog w K mg base 9 "_law_pair_right" ["_law_some", "_law_turns_so", "_law_deed", "_law_a", "_law_b"] _ := ⟨f36, _, ok_pairR F36 d34 d29 d35, PySem.W.mg_of X G a36, F36.kp, b36⟩
  exact ok_law F37 T RT RN M152 d30 d31 d32 d33 d34 d36
end Ev
open PySem PySem.W PyProof.Rows
set_option maxRecDepth 100000 in
set_option maxHeartbeats 0 in
theorem PySem.Challenge.cw_evenrules_k64_whole_try_rules_and_turn_r_holds : PySem.Challenge.rw_evenrules_k64_whole_try_rules_and_turn_r.Holds := by
  exact hd (by
    k_fill
    refine L2.walk_of (l := PySem.Challenge.rw_evenrules_k64_whole_try_rules_and_turn_r) (n := 63) (k := 10) (x := "_law_script") (CX := fun _ => L2.CX0) (sp := fun w => Ev.spLaw _) rfl (by decide) rfl ⟨rfl, by decide, by decide⟩ (fun w h Y => PySem.W.kIn_of Y) ?F (fun _ _ a ns hl _ hS => ⟨a, ns, rfl, hS, hl, fun _ => rfl⟩) (fun _ _ _ _ _ h => h)
    case F =>
      intro w mg fa h KX G hmg
      refine' Ev.all_mk KX G hmg ?a0 ?l0 ?c0 ?k0 ?a1 ?l1 ?c1 ?k1 ?a2 ?l2 ?c2 ?k2 ?a3 ?l3 ?c3 ?k3 ?a4 ?l4 ?c4 ?k4 ?a5 ?l5 ?c5 ?k5 ?a6 ?l6 ?c6 ?k6 ?a7 ?l7 ?c7 ?k7 ?a8 ?l8 ?c8 ?k8 ?a9 ?l9 ?c9 ?k9 ?a10 ?l10 ?c10 ?k10 ?a11 ?l11 ?c11 ?k11 ?a12 ?l12 ?c12 ?k12 ?a13 ?l13 ?c13 ?k13 ?a14 ?l14 ?c14 ?k14 ?a15 ?l15 ?c15 ?k15 ?a16 ?l16 ?c16 ?k16 ?a17 ?l17 ?c17 ?k17 ?a18 ?l18 ?c18 ?k18 ?a19 ?l19 ?c19 ?k19 ?a20 ?l20 ?c20 ?k20 ?a21 ?l21 ?c21 ?k21 ?a22 ?l22 ?c22 ?k22 ?a23 ?l23 ?c23 ?k23 ?a24 ?l24 ?c24 ?k24 ?a25 ?l25 ?c25 ?k25 ?a26 ?l26 ?c26 ?k26 ?a27 ?l27 ?c27 ?k27 ?a28 ?l28 ?c28 ?k28 ?a29 ?l29 ?c29 ?k29 ?a30 ?l30 ?c30 ?k30 ?a31 ?l31 ?c31 ?k31 ?a32 ?l32 ?c32 ?k32 ?a33 ?l33 ?c33 ?k33 ?a34 ?l34 ?c34 ?k34 ?a35 ?l35 ?c35 ?k35 ?a36 ?l36 ?c36 ?k36 ?a37 ?l37 ?c37 ?k37 ?aCt ?pgCt ?hdCt ?poCt ?saCt ?mkCt ?kcCt ?n0Ct ?n1Ct ?n2Ct ?n3Ct ?aCn ?pgCn ?hdCn ?poCn ?saCn ?mkCn ?kcCn ?n0Cn ?n1Cn ?n2Cn ?n3Cn ?aGR ?pgGR ?hdGR ?poGR ?saGR ?mkGR ?kcGR ?n0GR ?n1GR ?n2GR ?n3GR ?n4GR ?n5GR ?aWR ?pgWR ?hdWR ?poWR ?saWR ?mkWR ?kcWR ?n0WR ?n1WR ?n2WR ?n3WR ?aCA ?pgCA ?hdCA ?poCA ?saCA ?mkCA ?kcCA ?n0CA ?n1CA ?n2CA ?aCW ?hcCt ?moCt ?hcCn ?moCn ?hcCA ?moCA ?suCt ?suCn ?icCW ?ttCW ?icCn ?ttCn ?sSCn ?snTN ?ikn ?ikt ?m150 ?i150 ?l150 ?c150 ?k150 ?t150 ?m151 ?i151 ?l151 ?c151 ?k151 ?t151 ?m152 ?i152 ?l152 ?c152 ?k152 ?m153 ?i153 ?l153 ?c153 ?k153 ?m154 ?i154 ?l154 ?c154 ?k154 ?m155 ?i155 ?l155 ?c155 ?k155 ?m156 ?i156 ?l156 ?c156 ?k156 ?m157 ?i157 ?l157 ?c157 ?k157 ?m158 ?i158 ?l158 ?c158 ?k158 ?m159 ?i159 ?l159 ?c159 ?k159 ?m160 ?i160 ?l160 ?c160 ?k160 ?m161 ?i161 ?l161 ?c161 ?k161 ?rdW ?gaW ?cvW ?hgP ?hgU ?hgH ?hgK ?aDE ?lDE ?aSK ?lSK ?aON ?lON ?lO0 ?lO1 ?lO2 ?lO3 ?aTW ?lTW ?lV0 ?lV1 ?lV2 ?lV3 ?lV4 ?lV5 ?lV6 ?aSO ?lSO ?hkSO0 ?nsSO0 ?hkSO1 ?nsSO1 ?lowSO ?lSOlight ?lSOlighth ?lSOlighto ?lSOtop ?lSOtoph ?lSOtopo ?aLT ?lLT ?hkLT0 ?nsLT0 ?hkLT1 ?nsLT1 ?hkLT2 ?nsLT2 ?lowLT ?lLTlight ?lLTlighth ?lLTlighto ?lLTfar ?lLTfarh ?lLTfaro ?lLTtop ?lLTtoph ?lLTtopo ?zint ?zlen ?zabs ?zlist ?zmin ?zmax ?zisinstance ?zbool ?ztuple ?zall ?zrange ?zrepr ?zdict ?zzip ?zsum
      (case a0 => k_is)
      (case l0 => k_is)
      (case c0 => k_is)
      (case k0 => k_is)
      (case a1 => k_is)
      (case l1 => k_is)
      (case c1 => k_is)
      (case k1 => k_is)
      (case a2 => k_is)
      (case l2 => k_is)
      (case c2 => k_is)
      (case k2 => k_is)
      (case a3 => k_is)
      (case l3 => k_is)
      (case c3 => k_is)
      (case k3 => k_is)
      (case a4 => k_is)
      (case l4 => k_is)
      (case c4 => k_is)
      (case k4 => k_is)
      (case a5 => k_is)
      (case l5 => k_is)
      (case c5 => k_is)
      (case k5 => k_is)
      (case a6 => k_is)
      (case l6 => k_is)
      (case c6 => k_is)
      (case k6 => k_is)
      (case a7 => k_is)
      (case l7 => k_is)
      (case c7 => k_is)
      (case k7 => k_is)
      (case a8 => k_is)
      (case l8 => k_is)
      (case c8 => k_is)
      (case k8 => k_is)
      (case a9 => k_is)
      (case l9 => k_is)
      (case c9 => k_is)
      (case k9 => k_is)
      (case a10 => k_is)
      (case l10 => k_is)
      (case c10 => k_is)
      (case k10 => k_is)
      (case a11 => k_is)
      (case l11 => k_is)
      (case c11 => k_is)
      (case k11 => k_is)
      (case a12 => k_is)
      (case l12 => k_is)
      (case c12 => k_is)
      (case k12 => k_is)
      (case a13 => k_is)
      (case l13 => k_is)
      (case c13 => k_is)
      (case k13 => k_is)
      (case a14 => k_is)
      (case l14 => k_is)
      (case c14 => k_is)
      (case k14 => k_is)
      (case a15 => k_is)
      (case l15 => k_is)
      (case c15 => k_is)
      (case k15 => k_is)
      (case a16 => k_is)
      (case l16 => k_is)
      (case c16 => k_is)
      (case k16 => k_is)
      (case a17 => k_is)
      (case l17 => k_is)
      (case c17 => k_is)
      (case k17 => k_is)
      (case a18 => k_is)
      (case l18 => k_is)
      (case c18 => k_is)
      (case k18 => k_is)
      (case a19 => k_is)
      (case l19 => k_is)
      (case c19 => k_is)
      (case k19 => k_is)
      (case a20 => k_is)
      (case l20 => k_is)
      (case c20 => k_is)
      (case k20 => k_is)
      (case a21 => k_is)
      (case l21 => k_is)
      (case c21 => k_is)
      (case k21 => k_is)
      (case a22 => k_is)
      (case l22 => k_is)
      (case c22 => k_is)
      (case k22 => k_is)
      (case a23 => k_is)
      (case l23 => k_is)
      (case c23 => k_is)
      (case k23 => k_is)
      (case a24 => k_is)
      (case l24 => k_is)
      (case c24 => k_is)
      (case k24 => k_is)
      (case a25 => k_is)
      (case l25 => k_is)
      (case c25 => k_is)
      (case k25 => k_is)
      (case a26 => k_is)
      (case l26 => k_is)
      (case c26 => k_is)
      (case k26 => k_is)
      (case a27 => k_is)
      (case l27 => k_is)
      (case c27 => k_is)
      (case k27 => k_is)
      (case a28 => k_is)
      (case l28 => k_is)
      (case c28 => k_is)
      (case k28 => k_is)
      (case a29 => k_is)
      (case l29 => k_is)
      (case c29 => k_is)
      (case k29 => k_is)
      (case a30 => k_is)
      (case l30 => k_is)
      (case c30 => k_is)
      (case k30 => k_is)
      (case a31 => k_is)
      (case l31 => k_is)
      (case c31 => k_is)
      (case k31 => k_is)
      (case a32 => k_is)
      (case l32 => k_is)
      (case c32 => k_is)
      (case k32 => k_is)
      (case a33 => k_is)
      (case l33 => k_is)
      (case c33 => k_is)
      (case k33 => k_is)
      (case a34 => k_is)
      (case l34 => k_is)
      (case c34 => k_is)
      (case k34 => k_is)
      (case a35 => k_is)
      (case l35 => k_is)
      (case c35 => k_is)
      (case k35 => k_is)
      (case a36 => k_is)
      (case l36 => k_is)
      (case c36 => k_is)
      (case k36 => k_is)
      (case a37 => k_is)
      (case l37 => k_is)
      (case c37 => k_is)
      (case k37 => k_is)
      (case aCt => k_is)
      (case pgCt => k_is)
      (case hdCt => k_is)
      (case poCt => k_is)
      (case saCt => k_is)
      (case mkCt => k_is)
      (case kcCt => k_is)
      (case n0Ct => k_is)
      (case n1Ct => k_is)
      (case n2Ct => k_is)
      (case n3Ct => k_is)
      (case aCn => k_is)
      (case pgCn => k_is)
      (case hdCn => k_is)
      (case poCn => k_is)
      (case saCn => k_is)
      (case mkCn => k_is)
      (case kcCn => k_is)
      (case n0Cn => k_is)
      (case n1Cn => k_is)
      (case n2Cn => k_is)
      (case n3Cn => k_is)
      (case aGR => k_is)
      (case pgGR => k_is)
      (case hdGR => k_is)
      (case poGR => k_is)
      (case saGR => k_is)
      (case mkGR => k_is)
      (case kcGR => k_is)
      (case n0GR => k_is)
      (case n1GR => k_is)
      (case n2GR => k_is)
      (case n3GR => k_is)
      (case n4GR => k_is)
      (case n5GR => k_is)
      (case aWR => k_is)
      (case pgWR => k_is)
      (case hdWR => k_is)
      (case poWR => k_is)
      (case saWR => k_is)
      (case mkWR => k_is)
      (case kcWR => k_is)
      (case n0WR => k_is)
      (case n1WR => k_is)
      (case n2WR => k_is)
      (case n3WR => k_is)
      (case aCA => k_is)
      (case pgCA => k_is)
      (case hdCA => k_is)
      (case poCA => k_is)
      (case saCA => k_is)
      (case mkCA => k_is)
      (case kcCA => k_is)
      (case n0CA => k_is)
      (case n1CA => k_is)
      (case n2CA => k_is)
      (case aCW => k_is)
      (case hcCt => k_is)
      (case moCt => k_is)
      (case hcCn => k_is)
      (case moCn => k_is)
      (case hcCA => k_is)
      (case moCA => k_is)
      (case suCt => k_is)
      (case suCn => k_is)
      (case icCW => k_is)
      (case ttCW => k_is)
      (case icCn => k_is)
      (case ttCn => k_is)
      (case sSCn => k_is)
      (case snTN => k_is)
      (case ikn => k_is)
      (case ikt => k_is)
      (case m150 => k_is)
      (case i150 => k_is)
      (case l150 => k_is)
      (case c150 => k_is)
      (case k150 => k_is)
      (case t150 => k_is)
      (case m151 => k_is)
      (case i151 => k_is)
      (case l151 => k_is)
      (case c151 => k_is)
      (case k151 => k_is)
      (case t151 => k_is)
      (case m152 => k_is)
      (case i152 => k_is)
      (case l152 => k_is)
      (case c152 => k_is)
      (case k152 => k_is)
      (case m153 => k_is)
      (case i153 => k_is)
      (case l153 => k_is)
      (case c153 => k_is)
      (case k153 => k_is)
      (case m154 => k_is)
      (case i154 => k_is)
      (case l154 => k_is)
      (case c154 => k_is)
      (case k154 => k_is)
      (case m155 => k_is)
      (case i155 => k_is)
      (case l155 => k_is)
      (case c155 => k_is)
      (case k155 => k_is)
      (case m156 => k_is)
      (case i156 => k_is)
      (case l156 => k_is)
      (case c156 => k_is)
      (case k156 => k_is)
      (case m157 => k_is)
      (case i157 => k_is)
      (case l157 => k_is)
      (case c157 => k_is)
      (case k157 => k_is)
      (case m158 => k_is)
      (case i158 => k_is)
      (case l158 => k_is)
      (case c158 => k_is)
      (case k158 => k_is)
      (case m159 => k_is)
      (case i159 => k_is)
      (case l159 => k_is)
      (case c159 => k_is)
      (case k159 => k_is)
      (case m160 => k_is)
      (case i160 => k_is)
      (case l160 => k_is)
      (case c160 => k_is)
      (case k160 => k_is)
      (case m161 => k_is)
      (case i161 => k_is)
      (case l161 => k_is)
      (case c161 => k_is)
      (case k161 => k_is)
      (case rdW => k_is)
      (case gaW => k_is)
      (case cvW => k_is)
      (case hgP => k_is)
      (case hgU => k_is)
      (case hgH => k_is)
      (case hgK => k_is)
      (case aDE => k_is)
      (case lDE => k_is)
      (case aSK => k_is)
      (case lSK => k_is)
      (case aON => k_is)
      (case lON => k_is)
      (case lO0 => k_is)
      (case lO1 => k_is)
      (case lO2 => k_is)
      (case lO3 => k_is)
      (case aTW => k_is)
      (case lTW => k_is)
      (case lV0 => k_is)
      (case lV1 => k_is)
      (case lV2 => k_is)
      (case lV3 => k_is)
      (case lV4 => k_is)
      (case lV5 => k_is)
      (case lV6 => k_is)
      (case aSO => k_is)
      (case lSO => k_is)
      (case hkSO0 => rfl)
      (case nsSO0 => first | k_is | kernel_rfl)
      (case hkSO1 => rfl)
      (case nsSO1 => first | k_is | kernel_rfl)
      (case lowSO => kernel_rfl)
      (case lSOlight => k_is)
      (case lSOlighth => k_is)
      (case lSOlighto => k_is)
      (case lSOtop => k_is)
      (case lSOtoph => k_is)
      (case lSOtopo => k_is)
      (case aLT => k_is)
      (case lLT => k_is)
      (case hkLT0 => rfl)
      (case nsLT0 => first | k_is | kernel_rfl)
      (case hkLT1 => rfl)
      (case nsLT1 => first | k_is | kernel_rfl)
      (case hkLT2 => rfl)
      (case nsLT2 => first | k_is | kernel_rfl)
      (case lowLT => kernel_rfl)
      (case lLTlight => k_is)
      (case lLTlighth => k_is)
      (case lLTlighto => k_is)
      (case lLTfar => k_is)
      (case lLTfarh => k_is)
      (case lLTfaro => k_is)
      (case lLTtop => k_is)
      (case lLTtoph => k_is)
      (case lLTtopo => k_is)
      (case zint => k_is)
      (case zlen => k_is)
      (case zabs => k_is)
      (case zlist => k_is)
      (case zmin => k_is)
      (case zmax => k_is)
      (case zisinstance => k_is)
      (case zbool => k_is)
      (case ztuple => k_is)
      (case zall => k_is)
      (case zrange => k_is)
      (case zrepr => k_is)
      (case zdict => k_is)
      (case zzip => k_is)
      (case zsum => k_is))
