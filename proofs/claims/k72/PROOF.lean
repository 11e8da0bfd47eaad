import PyProof.Rows.All
import Wide.All
import OpenK.AllK
import Wide.FinOn
import HandS.ForMost
import HandS.Wide
import HandS.Codes
import HandS.IsInst
import HandS.Defaults
import HandS.MakeKw
import HandS.MakeKwOnly
import HandS.ClsMeth
import HandS.TupAny
import HandS.Style
import HandS.Zip
import HandS.Conv
import HandS.Walk
import HandS.Lambda
import HandS.Iter
import HandS.ExcInit
import HandS.ForExc
import KE.KExcIs
import HandS.EndTab
import HandS.DictComp
import HandS.DeepEq
import KE.KDictList
import KE.DataEq
import HandS.More
import HandS.SlotsOwn
import PyProof.InstNe
import PyProof.Rows.Range3
import PyProof.InstSpecial
import HandS.OwnEq
import HandS.SortInts
import PySem.Challenge.RW_evenrules_k72_whole_fills_judged
open PySem PySem.W PyProof.Rows
set_option Elab.async false
set_option linter.all false
set_option maxRecDepth 100000 in
set_option maxHeartbeats 0 in
open_top hd for PySem.Challenge.rw_evenrules_k72_whole_fills_judged
set_option maxRecDepth 100000
set_option maxHeartbeats 4000000
namespace Ev
open PySem L2
def top (i : Nat) : Stmt := PySem.Challenge.pw_evenrules_k72_whole_fills_judged.main.body.getD i (.Pass ⟨0, 0, 0, 0⟩)
abbrev sWall : Stmt := top 0
abbrev sKept : Stmt := top 2
abbrev sIsFlat : Stmt := top 3
abbrev sCopiedDeep : Stmt := top 4
abbrev sPartsOf : Stmt := top 5
abbrev sRebuilt : Stmt := top 6
abbrev sBadRule_init : Stmt := inClass (top 9) 0
abbrev sBadNumber_init : Stmt := inClass (top 10) 0
abbrev sBadText_init : Stmt := inClass (top 11) 0
abbrev sIsInt : Stmt := top 13
abbrev sWithin : Stmt := top 14
abbrev sLeastOf : Stmt := top 16
abbrev sCrucialOf : Stmt := top 17
abbrev sIsRightFor : Stmt := top 18
abbrev sNumberWord : Stmt := top 24
abbrev sPairWord : Stmt := top 25
abbrev sReadNumber : Stmt := top 26
abbrev sReadPair : Stmt := top 27
abbrev sPair : Stmt := top 30
abbrev sWordValue : Stmt := top 31
abbrev sFillRule_init : Stmt := inClass (top 38) 0
abbrev sFillRule_least_fill : Stmt := inClass (top 38) 1
abbrev sFillRule_fits : Stmt := inClass (top 38) 2
abbrev sFillRule_eq : Stmt := inClass (top 38) 3
abbrev sFillRule_str : Stmt := inClass (top 38) 4
abbrev sFillRule_read : Stmt := inClass (top 38) 5
abbrev sFits_init : Stmt := inClass (top 39) 0
abbrev sFits_eq : Stmt := inClass (top 39) 1
abbrev sFits_bool : Stmt := inClass (top 39) 2
abbrev sSpills_init : Stmt := inClass (top 40) 0
abbrev sSpills_eq : Stmt := inClass (top 40) 1
abbrev sSpills_bool : Stmt := inClass (top 40) 2
abbrev sCanBe : Stmt := top 41
abbrev sWrongFillWord : Stmt := top 42
abbrev sNeedFillRule : Stmt := top 43
abbrev sNeedSize : Stmt := top 44
abbrev sRightSpan : Stmt := top 45
abbrev sRightSpans : Stmt := top 46
abbrev sJudgeFill : Stmt := top 47
abbrev sPen : Stmt := top 49
abbrev sDraw : Stmt := top 50
abbrev sPick : Stmt := top 51
abbrev sLNumbers : Stmt := top 52
abbrev sLRule : Stmt := top 53
abbrev sLLeast : Stmt := top 54
abbrev sLIsRight : Stmt := top 55
abbrev sLNear : Stmt := top 56
abbrev sLDue : Stmt := top 57
abbrev sLRight : Stmt := top 58
abbrev sLaw : Stmt := top 59
end Ev
namespace Ev
open PySem L2
/-- all that was tracked is as it was, but at p -/
def But (p : Addr) (H H' : Hp) : Prop := ∀ b o, b ≠ p → H b = some o → H' b = some o
theorem But.refl (p : Addr) (H : Hp) : But p H H := fun _ _ _ e => e
theorem But.trans {p : Addr} {H H1 H2 : Hp} (a : But p H H1) (b : But p H1 H2) : But p H H2 := fun c o n e => b c o n (a c o n e)
theorem Same.but {p : Addr} {H H' : Hp} (a : Same H H') : But p H H' := fun c o _ e => a c o e
theorem But.upd_new {p q : Addr} {H : Hp} {o : HO} (h : H q = none) : But p H (upd H q o) := fun b u _ e => by
  rw [upd_ne (ne_of_none e h)]; exact e
theorem But.upd_at {p : Addr} {H : Hp} {o : HO} : But p H (upd H p o) := fun b u n e => by
  rw [upd_ne n]; exact e
/-- the pen: a list of a list of ints, how often it was asked, and a rest -/
def Pen (L : Addr) (H : Hp) (p : Addr) (B : Int) : Prop := ∃ (ns : List Int) (turn carry : Int),
  H p = some (.lst [.ref L, .int turn, .int carry]) ∧ H L = some (.lst (ns.map V.int)) ∧ L ≠ p ∧ ns.length ≤ 63 ∧ 0 ≤ turn ∧ turn ≤ B ∧ 0 ≤ carry
theorem Pen.keep {L : Addr} {H H' : Hp} {p : Addr} {B : Int} (h : Pen L H p B) (k : Same H H') : Pen L H' p B := by
  obtain ⟨ns, t, c, h1, h2, h3, h4, h5, h6, h7⟩ := h
  exact ⟨ns, t, c, k _ _ h1, k _ _ h2, h3, h4, h5, h6, h7⟩
theorem Pen.mono {L : Addr} {H : Hp} {p : Addr} {B B' : Int} (h : Pen L H p B) (k : B ≤ B') : Pen L H p B' := by
  obtain ⟨ns, t, c, h1, h2, h3, h4, h5, h6, h7⟩ := h
  exact ⟨ns, t, c, h1, h2, h3, h4, h5, by omega, h7⟩
def spDraw : Sp := fun vs H Q _ => ∃ (p L : Addr) (m B : Int), vs = [.ref p, .int m] ∧ 1 ≤ m ∧ m ≤ 1000000000000000000000000000000000000000000000000000000000000 ∧ B ≤ 1000000 ∧ Pen L H p B ∧
  ∀ (d : Int) (H' : Hp), But p H H' → Pen L H' p (B + 1) → 0 ≤ d → d < m → Q (.int d) H'
theorem dpInts {K : PySem.W.Frag} {H : Hp} : ∀ ns : List Int, DpAll K H (ns.map V.int) (ns.map PyData.int)
  | [] => .nil
  | n :: r => .cons (.int n) (dpInts r)
theorem sh_ints (ns : List Int) : SeqAt.shaped (.list (ns.map PyData.int)) = true := by
  have h1 : ∀ ns : List Int, PyData.canLayAll0 (ns.map PyData.int) = true := by
    intro ns
    induction ns with
    | nil => rfl
    | cons n r ih => simp [PyData.canLayAll0, PyData.canLay0, ih]
  have h2 : ∀ ns : List Int, PyData.depthAll (ns.map PyData.int) ≤ 1 := by
    intro ns
    induction ns with
    | nil => simp [PyData.depthAll]
    | cons n r ih => simp [PyData.depthAll, PyData.depth]; omega
  unfold SeqAt.shaped
  rw [Bool.and_eq_true]
  refine ⟨by simp [PyData.canLay0, h1], decide_eq_true ?_⟩
  have := h2 ns
  simp [PyData.depth]; omega
theorem eqv_nil (ns : List Int) : PyData.eqv (.list (ns.map PyData.int)) (.list []) = ns.isEmpty := by
  cases ns <;> simp [PyData.eqv, PyData.eqvAll]
section
variable {P : Program} {w : World} {K : PySem.W.Frag} {mg : Str → Option Value} {base : Heap}
/-- built-ins that the program does not cover -/
structure Blt (mg : Str → Option Value) : Prop where
  int : mg "int" = none
  len : mg "len" = none
  abs : mg "abs" = none
  list : mg "list" = none
  min : mg "min" = none
  max : mg "max" = none
  isi : mg "isinstance" = none
  bool : mg "bool" = none
  tuple : mg "tuple" = none
  all : mg "all" = none
  range : mg "range" = none
  repr : mg "repr" = none
theorem scD : FnScope ["_law_pen_here", "_law_many", "_law_digit", "_law_spot", "_law_cell", "_law_great", "_law_mixed"] ["_law_pen_here", "_law_many"] (defScope sDraw) := ⟨rfl, rfl, rfl, by decide +kernel, rfl, by decide +kernel, by decide +kernel⟩
theorem fmod_lo (a : Int) {m : Int} (h : 1 ≤ m) : 0 ≤ a.fmod m := by rw [Int.fmod_eq_emod_of_nonneg a (by omega)]; exact Int.emod_nonneg a (by omega)
theorem fmod_hi (a : Int) {m : Int} (h : 1 ≤ m) : a.fmod m < m := by rw [Int.fmod_eq_emod_of_nonneg a (by omega)]; exact Int.emod_lt_of_pos a (by omega)
theorem fdiv_lo {a m : Int} (h : 1 ≤ m) (h0 : 0 ≤ a) : 0 ≤ a.fdiv m := by rw [Int.fdiv_eq_ediv_of_nonneg a (by omega)]; exact Int.ediv_nonneg h0 (by omega)
theorem cell_at {ns : List Int} (h : ns ≠ []) (t : Int) : ∃ c : Int, atI (ns.map V.int) (t.fmod (((ns.map V.int).length : Nat) : Int)) = some (V.int c) := by
  rw [List.length_map]
  have l : 0 < ns.length := List.length_pos_iff.mpr h
  have h1 : 0 ≤ t.fmod (ns.length : Int) := fmod_lo t (by omega)
  have h2 : t.fmod (ns.length : Int) < ns.length := fmod_hi t (by omega)
  generalize t.fmod (ns.length : Int) = i at h1 h2
  obtain ⟨j, rfl⟩ := Int.eq_ofNat_of_zero_le h1
  have hj : j < ns.length := by omega
  exact ⟨ns[j], atI_nat (by rw [List.getElem?_map, List.getElem?_eq_getElem hj]; rfl)⟩
theorem mul_le_of {a b A B : Int} (a0 : 0 ≤ a) (b0 : 0 ≤ b) (ha : a ≤ A) (hb : b ≤ B) : 0 ≤ a * b ∧ a * b ≤ A * B :=
  ⟨Int.mul_nonneg a0 b0, Int.mul_le_mul ha hb b0 (by omega)⟩
theorem bound1 (c : Int) {M C D t : Int} (hM : 1 ≤ M) (hM2 : M ≤ 4294967296) (hC : 0 ≤ C ∧ C ≤ 1000000) (hD : 0 ≤ D ∧ D ≤ 1000000) (h0 : 0 ≤ t) (h1 : t ≤ 1000000) : (c.fmod M + C * t + D).natAbs < 2 ^ 64 := by
  have a1 := fmod_lo c hM
  have a2 := fmod_hi c hM
  have ⟨a3, a4⟩ := mul_le_of hC.1 h0 hC.2 h1
  omega
theorem bound2 {x C5 C6 C7 t : Int} (hx : 0 ≤ x ∧ x < 4294967296) (h5 : 0 ≤ C5 ∧ C5 ≤ 1000000) (h6 : 0 ≤ C6 ∧ C6 ≤ 1000000) (h7 : 0 ≤ C7 ∧ C7 ≤ 1000000) (h0 : 0 ≤ t) (h1 : t ≤ 1000000) :
    (x * (2 * t + C5) + C6 * t * t + C7).natAbs < 2 ^ 64 := by
  have ⟨a1, a2⟩ := mul_le_of (b := 2 * t + C5) (A := 4294967296) (B := 3000000) hx.1 (by omega) (by omega) (by omega)
  have ⟨a3, a4⟩ := mul_le_of h6.1 h0 h6.2 h1
  have ⟨a5, a6⟩ := mul_le_of a3 h0 a4 h1
  omega
theorem great_nn {c e : Int} (h : e ≤ (if c < 0 then -c else c)) (b : Bool) : 0 ≤ 2 * ((if c < 0 then -c else c) - e) + (if b = true then 1 else 0) := by
  cases b
  · rw [if_neg Bool.false_ne_true]; omega
  · rw [if_pos rfl]; omega
theorem lt64 {x : Int} (h : 0 ≤ x ∧ x < 4294967296) : -(2 ^ 64) < x ∧ x < 2 ^ 64 := ⟨by omega, by omega⟩
theorem nz {M : Int} (h : 0 < M) : M ≠ 0 := by omega
theorem divW {i m : Int} (h : 1 ≤ m) (h2 : m ≤ 1000000000000000000000000000000000000000000000000000000000000) : CDivW i m := wide_div (b := 200) (by omega) (by omega) (by decide) (by decide)
theorem ediv_lo {a m : Int} (h : 1 ≤ m) (h0 : 0 ≤ a) : 0 ≤ a / m := Int.ediv_nonneg h0 (by omega)
theorem ok_draw {f : Addr} {fd : FuncData} (F : Fun K "_law_draw" "_law_draw" sDraw f fd) (T : Blt mg) : FnOk P w K mg base CX0 1 f fd ["_law_pen_here", "_law_many"] spDraw := by
  refine F.ok scD (fun vs H Q E h => ?_) (fun cdv A outer s H vs Q E hr h => ?_)
  · obtain ⟨p, L, m, B, rfl, _⟩ := h
    rfl
  · obtain ⟨p, L, m, B, rfl, hm, hm2, hB, ⟨ns, tn, ca, hp, hL, Lp, hlen, t0, tB, c0⟩, k⟩ := h
    have hu := hu_of hr
    refine ⟨_, pss_cons (ps_if (pt_cmpR op_gt (pe_ix ix_list (pv 0) pe_int (fun _ _ => rfl)) pe_int (nomark _))
        (pss_cons (ps_set (i := 2) scD.nd rfl (.inl rfl) (pe_op op_modN (pe_callTy call_int1 (by rfl) T.int (by decide +kernel) (pa_cons (pe_ix ix_list (pv 0) pe_int (fun _ _ => rfl)) pa_nil)) (pv 1)))
        (pss_cons (ps_asg (pe_op op_fdivW (pe_callTy call_int1 (by rfl) T.int (by decide +kernel) (pa_cons (pe_ix ix_list (pv 0) pe_int (fun _ _ => rfl)) pa_nil)) (pv 1)) (pg_sub (pv 0) pe_int set_list))
        (pss_one (ps_ret (pv 2))))) pss_nil)
      (pss_cons (ps_set (i := 3) scD.nd rfl (.inl rfl) (pe_ix ix_list (pv 0) pe_int (fun _ _ => rfl)))
      (pss_cons (ps_asg (pe_op op_add (pv 3) pe_int) (pg_sub (pv 0) pe_int set_list))
      (pss_cons (ps_set (i := 4) scD.nd rfl (.inl rfl) (pe_op op_add (pe_op op_mul pe_int (pv 3)) pe_int))
      (pss_cons (ps_if (pt_cmpR (op_neD hr.units) (pe_ix ix_list (pv 0) pe_int (fun _ _ => rfl)) (pe_lst pa_nil) (nomark _))
        (pss_one (ps_set (i := 4) scD.nd rfl (.inl rfl) (pe_ix ix_list (pe_ix ix_list (pv 0) pe_int (fun _ _ => rfl))
          (pe_op op_modN (pe_callTy call_int1 (by rfl) T.int (by decide +kernel) (pa_cons (pv 3) pa_nil)) (pe_callB call_len_seq (by rfl) T.len PySem.boot_len (pa_cons (pe_ix ix_list (pv 0) pe_int (fun _ _ => rfl)) pa_nil))) (fun _ _ => rfl)))) pss_nil)
      (pss_cons (ps_if (PW.pt (pw_and (pt_cmpR op_lt (pv 3) (pe_callB call_len_seq (by rfl) T.len PySem.boot_len (pa_cons (pe_ix ix_list (pv 0) pe_int (fun _ _ => rfl)) pa_nil)) (nomark _))
          (pw_and1 (pt_cmpR op_ge (pe_callB call_abs (by rfl) T.abs (by decide +kernel) (pa_cons (pv 4) pa_nil)) (pe_op op_pow pe_int pe_int) (nomark _)))))
        (pss_cons (ps_set (i := 5) scD.nd rfl (.inl rfl) (pe_op op_add (pe_op op_mul pe_int (pe_op op_sub (pe_callB call_abs (by rfl) T.abs (by decide +kernel) (pa_cons (pv 4) pa_nil)) (pe_op op_pow pe_int pe_int)))
            (pe_callTy call_int1 (by rfl) T.int (by decide +kernel) (pa_cons (pe_cmpR op_lt (pv 4) pe_int (nomark _)) pa_nil))))
        (pss_cons (ps_asg (pe_op op_fdivW (pe_callTy call_int1 (by rfl) T.int (by decide +kernel) (pa_cons (pv 5) pa_nil)) (pv 1)) (pg_sub (pv 0) pe_int set_list))
        (pss_one (ps_ret (pe_op op_modN (pe_callTy call_int1 (by rfl) T.int (by decide +kernel) (pa_cons (pv 5) pa_nil)) (pv 1)))))) pss_nil)
      (pss_cons (ps_set (i := 6) scD.nd rfl (.inl rfl) (pe_op op_modN (pe_callTy call_int1 (by rfl) T.int (by decide +kernel) (pa_cons (pe_op op_pow (pe_op op_add (pe_op op_add
          (pe_op op_modN (pe_callTy call_int1 (by rfl) T.int (by decide +kernel) (pa_cons (pv 4) pa_nil)) pe_int) (pe_op op_mul pe_int (pv 3))) pe_int) pe_int) pa_nil)) pe_int))
      (pss_cons (ps_set (i := 6) scD.nd rfl (.inl rfl) (pe_op op_modN (pe_callTy call_int1 (by rfl) T.int (by decide +kernel) (pa_cons (pe_op op_pow (pe_op op_add (pe_op op_add
          (pe_op op_mul (pv 6) (pe_op op_add (pe_op op_mul pe_int (pv 3)) pe_int)) (pe_op op_mul (pe_op op_mul pe_int (pv 3)) (pv 3))) pe_int) pe_int) pa_nil)) pe_int))
      (pss_one (ps_ret (pe_op op_modN (pe_callTy call_int1 (by rfl) T.int (by decide +kernel) (pa_cons (pe_op op_fdivN (pv 6) pe_int) pa_nil)) (pv 1))))))))))), ?_⟩
    have i2 : ∀ {a b c : V}, atI [a, b, c] 2 = some c := fun {a b c} => atI_nat (j := 2) rfl
    have i1 : ∀ {a b c : V}, atI [a, b, c] 1 = some b := fun {a b c} => atI_nat (j := 1) rfl
    have i0 : ∀ {a b c : V}, atI [a, b, c] 0 = some a := fun {a b c} => atI_nat (j := 0) rfl
    -- if pen[2] > 0
    refine ⟨_, rfl, p, _, 2, _, rfl, rfl, SqL.of hp, i2, _, _, rfl, rfl, _, rfl, ite2 (fun e => ?_) (fun e => ?_)⟩
    · -- digit
      refine ⟨_, rfl, p, _, 2, _, rfl, rfl, SqL.of hp, i2, .inl ⟨_, rfl, _, rfl, _, _, rfl, rfl, (by omega), ?_⟩⟩
      refine ⟨_, rfl, p, _, 2, _, rfl, rfl, SqL.of hp, i2, .inl ⟨_, rfl, _, rfl, _, _, rfl, rfl, divW hm hm2, _, rfl, p, _, _, 2, rfl, rfl, hp, rfl, ?_⟩⟩
      refine ⟨_, rfl, ?_⟩
      exact k _ _ But.upd_at ⟨ns, tn, _, upd_same, by rw [upd_ne Lp]; exact hL, Lp, hlen, t0, by omega, ediv_lo hm c0⟩ (fmod_lo _ hm) (fmod_hi _ hm)
    · -- turn
      refine ⟨_, rfl, p, _, 1, _, rfl, rfl, SqL.of hp, i1, ?_⟩
      refine ⟨_, rfl, _, _, rfl, rfl, _, rfl, p, _, _, 1, rfl, rfl, hp, rfl, ?_⟩
      have hp1 : upd H p (.lst ([V.ref L, V.int tn, V.int ca].set 1 (V.int (tn + 1)))) p = some (.lst [.ref L, .int (tn + 1), .int ca]) := upd_same
      have hL1 : upd H p (.lst ([V.ref L, V.int tn, V.int ca].set 1 (V.int (tn + 1)))) L = some (.lst (ns.map V.int)) := by rw [upd_ne Lp]; exact hL
      have b1 : But p H (upd H p (.lst ([V.ref L, V.int tn, V.int ca].set 1 (V.int (tn + 1))))) := But.upd_at
      generalize upd H p (.lst ([V.ref L, V.int tn, V.int ca].set 1 (V.int (tn + 1)))) = H1 at hp1 hL1 b1 ⊢
      -- cell = c * turn + c'
      refine ⟨_, rfl, _, _, rfl, rfl, .inl ⟨by decide, by decide⟩, _, _, rfl, rfl, ?_⟩
      -- if pen[0] != []
      refine ⟨_, rfl, p, _, 0, _, rfl, rfl, SqL.of hp1, i0, by decide, fun l hl => ?_⟩
      have n1 : p ≠ l := ne_of_none hp1 hl
      have n2 : L ≠ l := ne_of_none hL1 hl
      have hp2 : upd H1 l (.lst []) p = some (.lst [.ref L, .int (tn + 1), .int ca]) := by rw [upd_ne n1]; exact hp1
      have hL2 : upd H1 l (.lst []) L = some (.lst (ns.map V.int)) := by rw [upd_ne n2]; exact hL1
      have hl2 : upd H1 l (.lst []) l = some (.lst []) := upd_same
      have b2 : But p H (upd H1 l (.lst [])) := b1.trans (But.upd_new hl)
      clear b1 hp1 hL1
      generalize upd H1 l (.lst []) = H2 at hp2 hL2 hl2 b2
      refine ⟨_, _, .lst (SqL.of hL2) (dpInts ns), .lst (SqL.of hl2) .nil, sh_ints ns, sh_ints [], _, rfl, ?_⟩
      rw [eqv_nil]
      -- the rest, for any cell
      have hcell : ∀ c : Int, ∃ j : Int, (if c < 0 then -c else c) = j ∧ 0 ≤ j := fun c => by
        by_cases z : c < 0
        · exact ⟨_, rfl, by rw [if_pos z]; omega⟩
        · exact ⟨_, rfl, by rw [if_neg z]; omega⟩
      have fin : ∀ H' : Hp, H' p = some (.lst [.ref L, .int (tn + 1), .int ca]) → H' L = some (.lst (ns.map V.int)) → But p H H' → Pen L H' p (B + 1) := fun H' e1 e2 _ =>
        ⟨ns, tn + 1, ca, e1, e2, Lp, hlen, by omega, by omega, c0⟩
      have ht : tn ≤ 1000000 := by omega
      have hm6 : 0 ≤ 66905 * tn ∧ 66905 * tn ≤ 66905 * 1000000 := mul_le_of (by decide) t0 (Int.le_refl _) ht
      have hq : ∀ {x m : Int}, 1 ≤ m → m ≤ 4294967296 → 0 ≤ x.fmod m ∧ x.fmod m < 4294967296 := fun {x m} h1 h2 => ⟨fmod_lo x h1, by have := fmod_hi x h1; omega⟩
      cases hn : ns with
      | nil =>
        refine iteF ?_
        refine ⟨_, rfl, _, rfl, p, _, 0, _, rfl, rfl, SqL.of hp2, i0, L, _, rfl, .inl (SqL.of hL2), _, _, rfl, rfl, _, rfl, ite2 (fun e1 => ?_) (fun e1 => ?_)⟩
        · refine ⟨_, rfl, _, rfl, _, _, rfl, rfl, ⟨by decide, by decide, by decide⟩, _, _, rfl, rfl, _, rfl, ite2 (fun e2 => ?_) (fun e2 => ?_)⟩
          · refine ⟨_, rfl, _, rfl, _, _, rfl, rfl, ⟨by decide, by decide, by decide⟩, _, _, rfl, rfl, _, _, rfl, rfl, .inl ⟨by decide, by decide⟩, _, rfl, _, _, rfl, rfl, .inr ⟨_, rfl, _, _, rfl, rfl, ?_⟩⟩
            refine ⟨_, rfl, .inl ⟨_, rfl, _, rfl, _, _, rfl, rfl, divW hm hm2, _, rfl, p, _, _, 2, rfl, rfl, hp2, rfl, ?_⟩⟩
            refine ⟨_, rfl, .inl ⟨_, rfl, _, rfl, _, _, rfl, rfl, (by omega), ?_⟩⟩
            refine k _ _ (b2.trans But.upd_at) ⟨_, tn + 1, _, upd_same, by rw [upd_ne Lp]; exact hL2, Lp, hlen, by omega, by omega, ediv_lo hm ?_⟩ (fmod_lo _ hm) (fmod_hi _ hm)
            have e3 := of_decide_eq_true e2
            exact great_nn e3 _
          · skip
            refine ⟨_, rfl, .inl ⟨_, rfl, _, _, rfl, rfl, nz (by decide), _, rfl, _, _, rfl, rfl, .inl ⟨by decide, by decide⟩, _, _, rfl, rfl, _, _, rfl, rfl, _, _, rfl, rfl, ⟨by decide, by decide, bound1 _ (by decide) (by decide) (by decide) (by decide) t0 ht⟩, .inl ⟨_, rfl, _, _, rfl, rfl, nz (by decide), ?_⟩⟩⟩
            refine ⟨_, rfl, _, rfl, _, _, rfl, rfl, .inl ⟨by decide, by decide⟩, _, _, rfl, rfl, _, _, rfl, rfl, .inl ?_, _, rfl, _, _, rfl, rfl, .inl ⟨by decide, by decide⟩, _, rfl, _, _, rfl, rfl, .inl ?_, _, _, rfl, rfl, _, _, rfl, rfl, _, _, rfl, rfl, ⟨by decide, by decide, ?_⟩, .inl ⟨_, rfl, _, _, rfl, rfl, nz (by decide), ?_⟩⟩
            · exact lt64 (hq (by decide) (by decide))
            · exact ⟨by omega, by omega⟩
            · exact bound2 (hq (by decide) (by decide)) (by decide) (by decide) (by decide) t0 ht
            · refine ⟨_, rfl, _, _, rfl, rfl, ⟨by decide, by decide⟩, .inl ⟨_, rfl, _, rfl, _, _, rfl, rfl, (by omega), ?_⟩⟩
              exact k _ _ b2 (fin _ hp2 hL2 b2) (fmod_lo _ hm) (fmod_hi _ hm)
        · skip
          refine ⟨_, rfl, .inl ⟨_, rfl, _, _, rfl, rfl, nz (by decide), _, rfl, _, _, rfl, rfl, .inl ⟨by decide, by decide⟩, _, _, rfl, rfl, _, _, rfl, rfl, _, _, rfl, rfl, ⟨by decide, by decide, bound1 _ (by decide) (by decide) (by decide) (by decide) t0 ht⟩, .inl ⟨_, rfl, _, _, rfl, rfl, nz (by decide), ?_⟩⟩⟩
          refine ⟨_, rfl, _, rfl, _, _, rfl, rfl, .inl ⟨by decide, by decide⟩, _, _, rfl, rfl, _, _, rfl, rfl, .inl ?_, _, rfl, _, _, rfl, rfl, .inl ⟨by decide, by decide⟩, _, rfl, _, _, rfl, rfl, .inl ?_, _, _, rfl, rfl, _, _, rfl, rfl, _, _, rfl, rfl, ⟨by decide, by decide, ?_⟩, .inl ⟨_, rfl, _, _, rfl, rfl, nz (by decide), ?_⟩⟩
          · exact lt64 (hq (by decide) (by decide))
          · exact ⟨by omega, by omega⟩
          · exact bound2 (hq (by decide) (by decide)) (by decide) (by decide) (by decide) t0 ht
          · refine ⟨_, rfl, _, _, rfl, rfl, ⟨by decide, by decide⟩, .inl ⟨_, rfl, _, rfl, _, _, rfl, rfl, (by omega), ?_⟩⟩
            exact k _ _ b2 (fin _ hp2 hL2 b2) (fmod_lo _ hm) (fmod_hi _ hm)
      | cons n0 nr =>
        refine iteT ?_
        obtain ⟨c, hc⟩ := cell_at (ns := ns) (by rw [hn]; exact List.cons_ne_nil _ _) tn
        refine ⟨_, rfl, p, _, 0, _, rfl, rfl, SqL.of hp2, i0, _, rfl, .inl ⟨_, rfl, _, rfl, p, _, 0, _, rfl, rfl, SqL.of hp2, i0, L, _, rfl, .inl (SqL.of hL2), _, _, rfl, rfl, (by rw [List.length_map, hn, List.length_cons]; omega), L, _, _, _, rfl, rfl, SqL.of hL2, hc, ?_⟩⟩
        refine ⟨_, rfl, _, rfl, p, _, 0, _, rfl, rfl, SqL.of hp2, i0, L, _, rfl, .inl (SqL.of hL2), _, _, rfl, rfl, _, rfl, ite2 (fun e1 => ?_) (fun e1 => ?_)⟩
        · refine ⟨_, rfl, _, rfl, _, _, rfl, rfl, ⟨by decide, by decide, by decide⟩, _, _, rfl, rfl, _, rfl, ite2 (fun e2 => ?_) (fun e2 => ?_)⟩
          · refine ⟨_, rfl, _, rfl, _, _, rfl, rfl, ⟨by decide, by decide, by decide⟩, _, _, rfl, rfl, _, _, rfl, rfl, .inl ⟨by decide, by decide⟩, _, rfl, _, _, rfl, rfl, .inr ⟨_, rfl, _, _, rfl, rfl, ?_⟩⟩
            refine ⟨_, rfl, .inl ⟨_, rfl, _, rfl, _, _, rfl, rfl, divW hm hm2, _, rfl, p, _, _, 2, rfl, rfl, hp2, rfl, ?_⟩⟩
            refine ⟨_, rfl, .inl ⟨_, rfl, _, rfl, _, _, rfl, rfl, (by omega), ?_⟩⟩
            refine k _ _ (b2.trans But.upd_at) ⟨_, tn + 1, _, upd_same, by rw [upd_ne Lp]; exact hL2, Lp, hlen, by omega, by omega, ediv_lo hm ?_⟩ (fmod_lo _ hm) (fmod_hi _ hm)
            have e3 := of_decide_eq_true e2
            exact great_nn e3 _
          · skip
            refine ⟨_, rfl, .inl ⟨_, rfl, _, _, rfl, rfl, nz (by decide), _, rfl, _, _, rfl, rfl, .inl ⟨by decide, by decide⟩, _, _, rfl, rfl, _, _, rfl, rfl, _, _, rfl, rfl, ⟨by decide, by decide, bound1 _ (by decide) (by decide) (by decide) (by decide) t0 ht⟩, .inl ⟨_, rfl, _, _, rfl, rfl, nz (by decide), ?_⟩⟩⟩
            refine ⟨_, rfl, _, rfl, _, _, rfl, rfl, .inl ⟨by decide, by decide⟩, _, _, rfl, rfl, _, _, rfl, rfl, .inl ?_, _, rfl, _, _, rfl, rfl, .inl ⟨by decide, by decide⟩, _, rfl, _, _, rfl, rfl, .inl ?_, _, _, rfl, rfl, _, _, rfl, rfl, _, _, rfl, rfl, ⟨by decide, by decide, ?_⟩, .inl ⟨_, rfl, _, _, rfl, rfl, nz (by decide), ?_⟩⟩
            · exact lt64 (hq (by decide) (by decide))
            · exact ⟨by omega, by omega⟩
            · exact bound2 (hq (by decide) (by decide)) (by decide) (by decide) (by decide) t0 ht
            · refine ⟨_, rfl, _, _, rfl, rfl, ⟨by decide, by decide⟩, .inl ⟨_, rfl, _, rfl, _, _, rfl, rfl, (by omega), ?_⟩⟩
              exact k _ _ b2 (fin _ hp2 hL2 b2) (fmod_lo _ hm) (fmod_hi _ hm)
        · skip
          refine ⟨_, rfl, .inl ⟨_, rfl, _, _, rfl, rfl, nz (by decide), _, rfl, _, _, rfl, rfl, .inl ⟨by decide, by decide⟩, _, _, rfl, rfl, _, _, rfl, rfl, _, _, rfl, rfl, ⟨by decide, by decide, bound1 _ (by decide) (by decide) (by decide) (by decide) t0 ht⟩, .inl ⟨_, rfl, _, _, rfl, rfl, nz (by decide), ?_⟩⟩⟩
          refine ⟨_, rfl, _, rfl, _, _, rfl, rfl, .inl ⟨by decide, by decide⟩, _, _, rfl, rfl, _, _, rfl, rfl, .inl ?_, _, rfl, _, _, rfl, rfl, .inl ⟨by decide, by decide⟩, _, rfl, _, _, rfl, rfl, .inl ?_, _, _, rfl, rfl, _, _, rfl, rfl, _, _, rfl, rfl, ⟨by decide, by decide, ?_⟩, .inl ⟨_, rfl, _, _, rfl, rfl, nz (by decide), ?_⟩⟩
          · exact lt64 (hq (by decide) (by decide))
          · exact ⟨by omega, by omega⟩
          · exact bound2 (hq (by decide) (by decide)) (by decide) (by decide) (by decide) t0 ht
          · refine ⟨_, rfl, _, _, rfl, rfl, ⟨by decide, by decide⟩, .inl ⟨_, rfl, _, rfl, _, _, rfl, rfl, (by omega), ?_⟩⟩
            exact k _ _ b2 (fin _ hp2 hL2 b2) (fmod_lo _ hm) (fmod_hi _ hm)
end
end Ev
namespace Ev
open PySem L2 PySem.Spec PyProof.Rows
abbrev sParts : Stmt := sPartsOf
abbrev sBRInit : Stmt := sBadRule_init

abbrev sNums : Stmt := sLNumbers
abbrev sRule : Stmt := sLRule
theorem same_new {H : Hp} {q : Addr} {o : HO} (n : H q = none) : Same H (upd H q o) := fun b u e => by rw [upd_ne (ne_of_none e n)]; exact e
theorem Same.gone {H H' : Hp} {p : Addr} (k : Same H H') (n : H' p = none) : H p = none := by
  cases z : H p with
  | none => rfl
  | some o => rw [k _ _ z] at n; cases n
/-- a def that stands under its name -/
structure Df (P : Program) (w : World) (K : PySem.W.Frag) (mg : Str → Option Value) (base : Heap) (k : Nat) (x : Str) (ps : List Str) (sp : Sp) : Prop where
  ex : ∃ (f : Addr) (fd : FuncData), FnOk P w K mg base CX0 k f fd ps sp ∧ mg x = some (.ref f) ∧ PySem.W.keepIn K (.ref f) = true ∧ Binds K fd ps []
theorem extN_refl (H : Hp) : LamX.ExtN H H := fun _ _ e _ => e
theorem sx {H H1 H2 : Hp} (k : Same H H1) (q : LamX.ExtN H1 H2) : LamX.ExtN H H2 := fun b o e t => q b o (k b o e) t
theorem xx {H H1 H2 : Hp} (k : LamX.ExtN H H1) (q : LamX.ExtN H1 H2) : LamX.ExtN H H2 := fun b o e t => q b o (k b o e t) t
/-- no integer -/
def NoInt (H : Hp) (v : V) : Prop := (∀ i, v ≠ .int i) ∧ ∃ (T : String) (b c : Bool), (∀ (K : PySem.W.Frag) (H' : Hp), LamX.ExtN H H' → TyX K H' v (.type T)) ∧ kitB T "int" = some b ∧ kitB T "bool" = some c ∧ (b = true → c = true)
theorem NoInt.keep {H H' : Hp} {v : V} (h : NoInt H v) (k : Same H H') : NoInt H' v := by
  obtain ⟨n, T, b, c, ty, r⟩ := h
  exact ⟨n, T, b, c, fun K G q => ty K G (sx k q), r⟩
theorem NoInt.ext {H H' : Hp} {v : V} (h : NoInt H v) (k : LamX.ExtN H H') : NoInt H' v := by
  obtain ⟨n, T, b, c, ty, r⟩ := h
  exact ⟨n, T, b, c, fun K G q => ty K G (xx k q), r⟩
/-- an integer or none -/
def IntQ (H : Hp) (v : V) : Prop := (∃ i, v = .int i) ∨ NoInt H v
theorem IntQ.keep {H H' : Hp} {v : V} (h : IntQ H v) (k : Same H H') : IntQ H' v := h.imp id fun n => n.keep k
theorem IntQ.ext {H H' : Hp} {v : V} (h : IntQ H v) (k : LamX.ExtN H H') : IntQ H' v := h.imp id fun n => n.ext k
def isI : V → Bool
  | .int _ => true
  | _ => false
def inB (l m : Int) : V → Bool
  | .int i => decide (l ≤ i) && decide (i ≤ m)
  | _ => false
theorem isI_no {H : Hp} {v : V} (h : NoInt H v) : isI v = false := by
  cases v <;> first | rfl | exact absurd rfl (h.1 _)
theorem inB_no {H : Hp} {v : V} (h : NoInt H v) (l m : Int) : inB l m v = false := by
  cases v <;> first | rfl | exact absurd rfl (h.1 _)
/-- what stands in such a tuple -/
def Scal (v : V) : Prop := (∃ i, v = .int i) ∨ (∃ b, v = .bl b) ∨ v = .str "2"
theorem noInt_bl (H : Hp) (b : Bool) : NoInt H (.bl b) := ⟨fun i z => (by cases z), "bool", true, true, fun _ _ _ => .base (.bl b), by decide +kernel, by decide +kernel, fun _ => rfl⟩
theorem noInt_str (H : Hp) (x : Str) : NoInt H (.str x) := ⟨fun i z => (by cases z), "str", false, false, fun _ _ _ => .base (.str x), by decide +kernel, by decide +kernel, fun z => z⟩
theorem Scal.q {H : Hp} {v : V} (h : Scal v) : IntQ H v := by
  rcases h with ⟨i, rfl⟩ | ⟨b, rfl⟩ | rfl
  · exact .inl ⟨i, rfl⟩
  · exact .inr (noInt_bl H b)
  · exact .inr (noInt_str H _)
/-- no tuple -/
def NoTup (H : Hp) (v : V) : Prop := ∃ T : String, (∀ (K : PySem.W.Frag) (H' : Hp), LamX.ExtN H H' → TyX K H' v (.type T)) ∧ kitB T "tuple" = some false
theorem NoTup.keep {H H' : Hp} {v : V} (h : NoTup H v) (k : Same H H') : NoTup H' v := by
  obtain ⟨T, ty, r⟩ := h
  exact ⟨T, fun K G q => ty K G (sx k q), r⟩
theorem NoTup.ext {H H' : Hp} {v : V} (h : NoTup H v) (k : LamX.ExtN H H') : NoTup H' v := by
  obtain ⟨T, ty, r⟩ := h
  exact ⟨T, fun K G q => ty K G (xx k q), r⟩
/-- a tuple of such values, or no tuple: xs tells which -/
def PairQ (H : Hp) (v : V) : Option (List V) → Prop
  | some xs => ∃ a, v = .ref a ∧ H a = some (.tup xs) ∧ xs.length ≤ 1000 ∧ ∀ x ∈ xs, Scal x
  | none => NoTup H v
theorem PairQ.keep {H H' : Hp} {v : V} {o : Option (List V)} (h : PairQ H v o) (k : Same H H') : PairQ H' v o := by
  cases o with
  | none => exact NoTup.keep h k
  | some xs =>
    obtain ⟨a, e, h1, h2, h3⟩ := h
    exact ⟨a, e, k _ _ h1, h2, h3⟩
theorem PairQ.ext {H H' : Hp} {v : V} {o : Option (List V)} (h : PairQ H v o) (k : LamX.ExtN H H') : PairQ H' v o := by
  cases o with
  | none => exact NoTup.ext h k
  | some xs =>
    obtain ⟨a, e, h1, h2, h3⟩ := h
    exact ⟨a, e, k _ _ h1 (fun _ z => by cases z), h2, h3⟩
def pairB (m : Int) : Option (List V) → Bool
  | some [x, y] => inB 1 m x && inB 1 m y
  | _ => false
def leV : V → V → Bool
  | .int i, .int j => decide (j ≤ i)
  | _, _ => false
def timesB : Option (List V) → Bool
  | some [x, y] => (inB 1 6 x && inB 1 6 y) && leV x y
  | _ => false
def spIsIntA : Sp := fun vs H Q _ => ∃ v : V, vs = [v] ∧ IntQ H v ∧ Q (.bl (isI v)) H
def spWithinA : Sp := fun vs H Q _ => ∃ (v : V) (l m : Int), vs = [v, .int l, .int m] ∧ IntQ H v ∧ Q (.bl (inB l m v)) H
def spPairA : Sp := fun vs H Q _ => ∃ (v : V) (o : Option (List V)) (m : Int), vs = [v, .int m] ∧ PairQ H v o ∧ ∀ H', Same H H' → Q (.bl (pairB m o)) H'
def spTimesA : Sp := fun vs H Q _ => ∃ (v : V) (o : Option (List V)), vs = [v] ∧ PairQ H v o ∧ ∀ H', Same H H' → Q (.bl (timesB o)) H'
def spPlusA : Sp := fun vs H Q _ => ∃ v : V, vs = [v] ∧ IntQ H v ∧ Q (.bl (inB (-6) 6 v)) H
def spTurnA : Sp := fun vs H Q _ => ∃ (v : V) (o : Option (List V)), vs = [v] ∧ PairQ H v o ∧ ∀ H', Same H H' → Q (.bl (pairB 8 o)) H'
theorem lc_pureV {J : It} {n : Nat} {G : Hp → Prop} {Y : Nat → Hp → V → Hp → Prop} (W : Walk J n G Y) {g : TG} {tt : TT} {te : TE} {vs : List Nat} {σ : L2.St} {H1 : Hp} {D : Addr} {Qd : Hp → Prop} (rs : List V) (hn : rs.length = n) (hb : n ≤ 4000)
    (hG : ∀ H, But D H1 H → G H)
    (step : ∀ (i : Nat) (x : V) (H H' : Hp) (r : V), i < n → rs[i]? = some r → But D H1 H → (∃ acc, H D = some (.lst acc)) → Y i H x H' → ∀ (R : VK) (Wk : Hp → Prop), (∀ H4, Same H H4 → R r H4) →
      g x (wipe σ vs) H' fun σ2 H2 => wipe σ2 vs = wipe σ vs ∧ tt σ2 H2 fun b H3 => if b = true then te σ2 H3 R else Wk H3)
    (fin : ∀ H, But D H1 H → H D = some (.lst rs) → Qd H) :
    ∃ W : Nat → Nat → Hp → Prop, (∃ m, W 0 m (upd H1 D (HO.lst []))) ∧ ∀ (i m : Nat) (H : Hp), W i m H → J.stop i H ∧ Qd H ∨ J.go i H ∧ ∃ Nx : Hp → Prop, (∀ (H' : Hp), Nx H' → ∃ m', m' < m ∧ W (i + 1) m' H') ∧
      ∀ (x : V) (H' : Hp), J.yld i H x H' → g x (wipe σ vs) H' fun σ2 H2 => wipe σ2 vs = wipe σ vs ∧ tt σ2 H2 fun b H3 =>
        if b = true then te σ2 H3 fun y H4 => ∃ acc, H4 D = some (HO.lst acc) ∧ acc.length < sizeLine ∧ Nx (upd H4 D (HO.lst (acc ++ [y]))) else Nx H3 := by
  refine lc_it W (fun i H => H D = some (.lst (rs.take i)) ∧ But D H1 H) ⟨upd_same, But.upd_at⟩ (fun i H _ h => hG H h.2) (fun i x H H' hi h y => ?_) (fun H h => ?_)
  · obtain ⟨e1, e2⟩ := h
    have hr : rs[i]? = some rs[i] := List.getElem?_eq_getElem (by omega)
    refine step i x H H' rs[i] hi hr e2 ⟨_, e1⟩ y _ _ fun H4 s4 => ⟨_, s4 _ _ e1, ?_, ?_, ?_⟩
    · rw [List.length_take]
      exact Nat.lt_of_le_of_lt (Nat.min_le_left _ _) (Nat.lt_of_lt_of_le (show i < 4000 by omega) (by decide))
    · rw [List.take_add_one, hr]
      exact upd_same
    · exact fun c o nc ec => by rw [upd_ne nc]; exact s4 _ _ (e2 c o nc ec)
  · obtain ⟨e1, e2⟩ := h
    rw [← hn, List.take_length] at e1
    exact fin H e2 e1
section
variable {P : Program} {w : World} {K : PySem.W.Frag} {mg : Str → Option Value} {base : Heap}
theorem tup1 {a b : V} : atI [a, b] 1 = some b := atI_nat (j := 1) rfl
theorem tup0 {a b : V} : atI [a, b] 0 = some a := atI_nat (j := 0) rfl
theorem scIsInt : FnScope ["value"] ["value"] (defScope sIsInt) := ⟨rfl, rfl, rfl, by decide +kernel, rfl, by decide +kernel, by decide +kernel⟩
theorem ok_isInt {f : Addr} {fd : FuncData} (F : Fun K "is_integer" "is_integer" sIsInt f fd) (T : Blt mg) : FnOk P w K mg base CX0 1 f fd ["value"] spIsIntA := by
  refine F.ok scIsInt (fun vs H Q E h => ?_) (fun cdv A outer s H vs Q E hr h => ?_)
  · obtain ⟨v, rfl, _⟩ := h
    rfl
  · obtain ⟨v, rfl, h, k⟩ := h
    refine ⟨_, pss_one (ps_ret (pe_and (pe_callB call_isi (by rfl) T.isi (by decide +kernel) (pa_cons (pv 0) (pa_cons (pe_bltn (v := .ty "int") (by rfl) T.int (by decide +kernel) rfl) pa_nil)))
      (pe_one (pe_not (pe_callB call_isi (by rfl) T.isi (by decide +kernel) (pa_cons (pv 0) (pa_cons (pe_bltn (v := .ty "bool") (by rfl) T.bool (by decide +kernel) rfl) pa_nil))))))), ?_⟩
    rcases h with ⟨i, rfl⟩ | no
    · exact ⟨_, rfl, _, _, _, _, true, rfl, .ty _, .base (.int i), kit_ty (by decide +kernel), true, rfl, iteT ⟨_, rfl, _, _, _, _, false, rfl, .ty _, .base (.int i), kit_ty (by decide +kernel), _, rfl, k⟩⟩
    · rw [isI_no no] at k
      obtain ⟨_, TT, b, c, ty, e1, e2, e3⟩ := no
      refine ⟨_, rfl, _, _, _, _, b, rfl, .ty _, ty _ _ (extN_refl H), kit_ty e1, b, rfl, ?_⟩
      cases b with
      | false => exact iteF k
      | true => exact iteT ⟨_, rfl, _, _, _, _, true, rfl, .ty _, ty _ _ (extN_refl H), kit_ty (by rw [e2, e3 rfl]), _, rfl, k⟩
theorem scWithin : FnScope ["value", "least", "most"] ["value", "least", "most"] (defScope sWithin) := ⟨rfl, rfl, rfl, by decide +kernel, rfl, by decide +kernel, by decide +kernel⟩
theorem ok_within {f : Addr} {fd : FuncData} (F : Fun K "is_within" "is_within" sWithin f fd) (D : Df P w K mg base 1 "is_integer" ["value"] spIsIntA) : FnOk P w K mg base CX0 2 f fd ["value", "least", "most"] spWithinA := by
  obtain ⟨fI, fdI, GI, gI, kI, bI⟩ := D.ex
  refine F.ok scWithin (fun vs H Q E h => ?_) (fun cdv A outer s H vs Q E hr h => ?_)
  · obtain ⟨v, l, m, rfl, _⟩ := h
    rfl
  · obtain ⟨v, l, m, rfl, h, k⟩ := h
    refine ⟨_, pss_one (ps_ret (pe_and (pe_call GI hr (by rfl) gI kI bI .nil pass0 (pa_cons (pv 0) pa_nil)) (pe_one (pe_chain op_le op_le (pv 1) (pv 0) (pv 2))))), ?_⟩
    refine ⟨_, rfl, _, rfl, h, ?_⟩
    rcases h with ⟨i, rfl⟩ | no
    · refine ⟨true, rfl, iteT ⟨_, rfl, _, rfl, _, _, rfl, rfl, _, rfl, ?_⟩⟩
      have k : Q (.bl (decide (l ≤ i) && decide (i ≤ m))) H := k
      by_cases z : l ≤ i
      · rw [decide_eq_true z] at k ⊢
        refine iteT ⟨_, rfl, _, _, rfl, rfl, ?_⟩
        exact k
      · rw [decide_eq_false z] at k ⊢
        exact iteF k
    · rw [inB_no no] at k
      rw [isI_no no]
      exact ⟨false, rfl, iteF k⟩
theorem scPair : FnScope ["value", "most", "item"] ["value", "most"] (defScope sPair) := ⟨rfl, rfl, rfl, by decide +kernel, rfl, by decide +kernel, by decide +kernel⟩
theorem pairB_len {m : Int} {xs : List V} (h : xs.length ≠ 2) : pairB m (some xs) = false := by
  match xs, h with
  | [], _ => rfl
  | [_], _ => rfl
  | [_, _], h => exact absurd rfl h
  | _ :: _ :: _ :: _, _ => rfl
theorem ok_pair {f : Addr} {fd : FuncData} (F : Fun K "is_pair" "is_pair" sPair f fd) (T : Blt mg) (D : Df P w K mg base 2 "is_within" ["value", "least", "most"] spWithinA) : FnOk P w K mg base CX0 3 f fd ["value", "most"] spPairA := by
  obtain ⟨fW, fdW, GW, gW, kW, bW⟩ := D.ex
  refine F.ok scPair (fun vs H Q E h => ?_) (fun cdv A outer s H vs Q E hr h => ?_)
  · obtain ⟨v, o, m, rfl, _⟩ := h
    rfl
  · obtain ⟨v, o, m, rfl, hv, k⟩ := h
    refine ⟨_, pss_one (ps_ret (pe_and (pe_callB call_isi (by rfl) T.isi (by decide +kernel) (pa_cons (pv 0) (pa_cons (pe_bltn (v := .ty "tuple") (by rfl) T.tuple (by decide +kernel) rfl) pa_nil)))
      (pe_and (pe_cmpR op_eq (pe_callB call_len_seq (by rfl) T.len PySem.boot_len (pa_cons (pv 0) pa_nil)) pe_int (nomark _))
      (pe_one (pe_callB (cr_all rfl) (by rfl) T.all (by decide +kernel) (pa_cons (pe_lc (own := [("item", 2)]) (g := gName 2) (tt := tYes) (te := tCall spWithinA [] E0 (tCons (tVar 2) (tCons (tC (.int 1)) (tCons (tVar 1) tNil)))) (by rfl) scPair.nd (pi_tup (pv 0)) (blkOk_by (own := [("item", 2)]) (N := ["value", "most", "item"]) (sc := defScope sPair) (by decide +kernel))
          (fun _ _ _ _ _ => pg_name (i := 2) scPair.nd rfl (.inl rfl)) (fun _ _ _ _ _ => pts_nil) (fun _ _ _ _ _ => pe_call GW hr (by rfl) gW kW bW .nil pass0 (pa_cons (pv 2) (pa_cons pe_int (pa_cons (pv 1) pa_nil))))) pa_nil)))))), ?_⟩
    cases o with
    | none =>
      obtain ⟨TT, ty, e⟩ := hv
      exact ⟨_, rfl, _, _, _, _, false, rfl, .ty _, ty _ _ (extN_refl H), kit_ty e, false, rfl, iteF (k H (Same.refl H))⟩
    | some xs =>
      obtain ⟨a, rfl, ha, hl, hq⟩ := hv
      refine ⟨_, rfl, _, _, _, _, true, rfl, .ty _, .base (.tup ha), kit_ty (by decide +kernel), true, rfl, iteT ⟨_, rfl, a, _, rfl, .inr (SqT.of ha), rfl, _, rfl, ite2 (fun e => ?_) (fun e => ?_)⟩⟩
      · have e : xs.length = 2 := by
          have e' : (xs.length : Int) = 2 := by simpa using e
          omega
        refine ⟨_, rfl, a, rfl, ⟨_, SqT.of ha⟩, fun D nD => ?_⟩
        have aD := ne_of_none ha nD
        refine lc_pureV (n := xs.length) (walk_tup (xs := xs)) (xs.map fun x => V.bl (inB 1 m x)) (List.length_map _) (by omega) (fun H' h => SqT.of (h _ _ aD ha)) (fun i v H2 H' r hi hr bt _ y R Wk kk => ?_) (fun H' bt hD => ?_)
        · obtain ⟨rfl, hv⟩ := y
          have er : r = V.bl (inB 1 m v) := by
            rw [List.getElem?_map, hv] at hr
            exact (Option.some.inj hr).symm
          subst er
          have sq : IntQ H' v := (hq v (List.mem_of_getElem? hv)).q
          exact ⟨rfl, _, rfl, _, rfl, v, 1, m, rfl, sq, kk _ (Same.refl _)⟩
        · have s1 : Same H H' := fun c o e => bt c o (ne_of_none e nD) e
          have eq : (xs.map fun x => V.bl (inB 1 m x)) = (xs.map fun x => inB 1 m x).map V.bl := by rw [List.map_map]; rfl
          rw [eq] at hD
          refine ⟨D, _, rfl, SqL.of hD, ?_⟩
          match xs, e with
          | [x, y], _ =>
            have := k H' s1
            simpa [pairB] using this
      · have e : xs.length ≠ 2 := by
          have e' : ¬ (xs.length : Int) = 2 := by simpa using e
          omega
        have := k H (Same.refl H)
        rw [pairB_len e] at this
        simpa using this
theorem inB_int {l m : Int} {v : V} (h : inB l m v = true) : ∃ i, v = .int i ∧ l ≤ i ∧ i ≤ m := by
  cases v <;> first | cases h | skip
  rename_i i
  have h : (decide (l ≤ i) && decide (i ≤ m)) = true := h
  rw [Bool.and_eq_true, decide_eq_true_eq, decide_eq_true_eq] at h
  exact ⟨i, rfl, h.1, h.2⟩
theorem pair_cases (m : Int) (o : Option (List V)) : (∃ i j, o = some [.int i, .int j] ∧ (1 ≤ i ∧ i ≤ m) ∧ (1 ≤ j ∧ j ≤ m) ∧ pairB m o = true) ∨ pairB m o = false := by
  cases z : pairB m o with
  | false => exact .inr rfl
  | true =>
    refine .inl ?_
    match o, z with
    | some [x, y], z =>
      have z : (inB 1 m x && inB 1 m y) = true := z
      rw [Bool.and_eq_true] at z
      obtain ⟨i, rfl, h1, h2⟩ := inB_int z.1
      obtain ⟨j, rfl, h3, h4⟩ := inB_int z.2
      exact ⟨i, j, rfl, ⟨h1, h2⟩, ⟨h3, h4⟩, rfl⟩
end
end Ev
namespace Ev
open PySem L2 PySem.Spec PyProof.Rows
section
variable {X : Cx}
theorem pe_never {e : Expr} : PE X e (fun _ _ _ => False) := ⟨fun _ _ _ _ _ _ h => h.elim⟩
end
/-- v is a value of the built-in type T, one that holds nothing -/
structure Flat (v : V) (T : String) : Prop where
  ty : ∀ (K : PySem.W.Frag) (H : Hp), TyX K H v (.type T)
  l : kitB T "list" = some false
  t : kitB T "tuple" = some false
  d : kitB T "dict" = some false
theorem flat_int (i : Int) : Flat (.int i) "int" := ⟨fun _ _ => .base (.int i), by decide +kernel, by decide +kernel, by decide +kernel⟩
theorem flat_str (x : Str) : Flat (.str x) "str" := ⟨fun _ _ => .base (.str x), by decide +kernel, by decide +kernel, by decide +kernel⟩
theorem kit2 {K : PySem.W.Frag} {T a b : String} (h1 : kitB T a = some false) (h2 : kitB T b = some false) : PySem.W.kitAny K (.type T) [.type a, .type b] = some false :=
  kitAny_cons (kit_ty h1) (fun _ => kitAny_cons (kit_ty h2) (fun _ => kitAny_nil) (fun z => by cases z)) (fun z => by cases z)
def spParts : Sp := fun vs H Q _ => ∃ (v : V) (T : String), vs = [v] ∧ Flat v T ∧ ∀ (p : Addr) (H' : Hp), H p = none → Same H H' → H' p = some (.lst []) → Q (.ref p) H'
def spKept : Sp := fun vs H Q _ => ∃ (v : V) (T : String), vs = [v] ∧ Flat v T ∧ ∀ (H' : Hp), Same H H' → Q v H'
section
variable {P : Program} {w : World} {K : PySem.W.Frag} {mg : Str → Option Value} {base : Heap}
theorem scParts : FnScope ["value"] ["value"] (defScope sParts) := ⟨rfl, rfl, rfl, by decide +kernel, rfl, by decide +kernel, by decide +kernel⟩
theorem ok_parts {f : Addr} {fd : FuncData} (F : Fun K "parts_of" "parts_of" sParts f fd) (T : Blt mg) (md : mg "dict" = none) : FnOk P w K mg base CX0 1 f fd ["value"] spParts := by
  refine F.ok scParts (fun vs H Q E h => ?_) (fun cdv A outer s H vs Q E hr h => ?_)
  · obtain ⟨v, TT, rfl, _⟩ := h
    rfl
  · obtain ⟨v, TT, rfl, fl, kk⟩ := h
    refine ⟨_, pss_cons (ps_if (pt_val (pe_callB call_isiT (by rfl) T.isi (by decide +kernel) (pa_cons (pv 0) (pa_cons (pe_tup (pa_cons (pe_bltn (v := .ty "list") (by rfl) T.list (by decide +kernel) rfl) (pa_cons (pe_bltn (v := .ty "tuple") (by rfl) T.tuple (by decide +kernel) rfl) pa_nil))) pa_nil)))) (pss_one ps_never) pss_nil)
      (pss_one (ps_ret (pe_ifExp (pt_val (pe_callB call_isi (by rfl) T.isi (by decide +kernel) (pa_cons (pv 0) (pa_cons (pe_bltn (v := .ty "dict") (by rfl) md (by decide +kernel) rfl) pa_nil)))) pe_never (pe_lst pa_nil)))), ?_⟩
    refine ⟨_, rfl, (by show 2 ≤ sizeLine; decide), fun tp ntp => ⟨v, tp, _, _, _, false, rfl, upd_same, .cons (.ty _) (.cons (.ty _) .nil), fl.ty _ _, kit2 fl.l fl.t, _, rfl, iteF ?_⟩⟩
    refine ⟨_, rfl, v, _, _, _, false, rfl, .ty _, fl.ty _ _, kit_ty fl.d, _, rfl, iteF ⟨(by show 0 ≤ sizeLine; decide), fun p np => ?_⟩⟩
    refine kk p _ ?_ (fun b o e => ?_) upd_same
    · cases e : H p with
      | none => rfl
      | some o => rw [upd_ne (ne_of_none e ntp), e] at np; cases np
    · have e1 : upd H tp (.tup [.ty "list", .ty "tuple"]) b = some o := by rw [upd_ne (ne_of_none e ntp)]; exact e
      rw [upd_ne (ne_of_none e1 np)]; exact e1
theorem kit3 {K : PySem.W.Frag} {T a b c : String} (h1 : kitB T a = some false) (h2 : kitB T b = some false) (h3 : kitB T c = some false) : PySem.W.kitAny K (.type T) [.type a, .type b, .type c] = some false :=
  kitAny_cons (kit_ty h1) (fun _ => kitAny_cons (kit_ty h2) (fun _ => kitAny_cons (kit_ty h3) (fun _ => kitAny_nil) (fun z => by cases z)) (fun z => by cases z)) (fun z => by cases z)
theorem scKept : FnScope ["value"] ["value"] (defScope sKept) := ⟨rfl, rfl, rfl, by decide +kernel, rfl, by decide +kernel, by decide +kernel⟩
theorem ok_kept {f : Addr} {fd : FuncData} (F : Fun K "kept" "kept" sKept f fd) (T : Blt mg) (md : mg "dict" = none) (ma : mg "any" = none) (D : Df P w K mg base 1 "parts_of" ["value"] spParts) : FnOk P w K mg base CX0 2 f fd ["value"] spKept := by
  refine F.ok scKept (fun vs H Q E h => ?_) (fun cdv A outer s H vs Q E hr h => ?_)
  · obtain ⟨v, TT, rfl, _⟩ := h
    rfl
  · obtain ⟨v, TT, rfl, fl, kk⟩ := h
    refine ⟨_, pss_cons (ps_if (pt_not (pt_val (pe_callB call_isiT (by rfl) T.isi (by decide +kernel) (pa_cons (pv 0) (pa_cons (pe_tup (pa_cons (pe_bltn (v := .ty "list") (by rfl) T.list (by decide +kernel) rfl) (pa_cons (pe_bltn (v := .ty "tuple") (by rfl) T.tuple (by decide +kernel) rfl) (pa_cons (pe_bltn (v := .ty "dict") (by rfl) md (by decide +kernel) rfl) pa_nil)))) pa_nil))))) (pss_one (ps_ret (pv 0))) pss_nil)
      (pss_cons ps_never (pss_one ps_never)), ?_⟩
    refine ⟨_, rfl, (by show 3 ≤ sizeLine; decide), fun tp ntp => ⟨v, tp, _, _, _, false, rfl, upd_same, .cons (.ty _) (.cons (.ty _) (.cons (.ty _) .nil)), fl.ty _ _, kit3 fl.l fl.t fl.d, _, rfl, iteT ⟨_, rfl, ?_⟩⟩⟩
    exact kk _ (fun b u e => by rw [upd_ne (ne_of_none e ntp)]; exact e)
end
end Ev
namespace Ev
open PySem L2 PySem.Spec PyProof.Rows
/-! Promises of defs that are called while no repr is under way (so what they make can be shown). -/
structure FnG (P : Program) (w : World) (K : PySem.W.Frag) (mg : Str → Option Value) (base : Heap) (k : Nat) (f : Addr)
    (fd : FuncData) (ps : List Str) (sp : Sp) : Prop where
  many : ∀ vs H Q E, sp vs H Q E → vs.length = ps.length
  goes : ∀ (A : Around) (above : List Env) (s : Shared) (H : Hp) (args : Args) (us : List Value) (vs : List V) (Q : VK)
    (E : XK), Room k A → A.guards = some [] → Env0 P w K mg base A above s H → BindsTo s fd args (ps.zip us) → Vals vs us →
    sp vs H Q E → codeAny (model P w) A (.call (.ref f) args) (CR CX0 above P w H s Q E) s
theorem FnG.of {P : Program} {w : World} {K : PySem.W.Frag} {mg : Str → Option Value} {base : Heap} {k : Nat} {f : Addr}
    {fd : FuncData} {ps : List Str} {sp : Sp} (F : FnOk P w K mg base CX0 k f fd ps sp) : FnG P w K mg base k f fd ps sp :=
  ⟨F.len, fun A above s H args us vs Q E hr _ => F.run A above s H args us vs Q E hr⟩
section
variable {P : Program} {w : World} {K : PySem.W.Frag} {mg : Str → Option Value} {base : Heap}
/-- a def by its body, where no repr is under way -/
theorem fng_code {x qual : Str} {st : Stmt} {f : Addr} {fd : FuncData} {N ps : List Str} {k : Nat} {sp : Sp} (F : Fun K x qual st f fd)
    (S : FnScope N ps (defScope st)) (many : ∀ vs H Q E, sp vs H Q E → vs.length = ps.length)
    (body : ∀ (cdv : Value), fd.code = cdv → ∀ (A : Around) (above : List Env) (s : Shared) (H : Hp) (vs : List V) (Q : VK) (E : XK),
      Room k (A.deeper (envOfC qual (defScope st) s.heap.objs.size f cdv)) → A.guards = some [] → sp vs H Q E →
      ∃ t, PSs (cxOf CX0 P w K mg base N qual (defScope st) f cdv A above s H E).nox (defBody st) t ∧
        t { nx := fun _ H' => Q .non H', rt := Q } (start N vs) H) : FnG P w K mg base (k + 1) f fd ps sp := by
  obtain ⟨oc, od, kV, doc, pm, an, cdv, ct, osl, rfl, lk, hcd⟩ := F.ex
  constructor
  · exact many
  · intro A above s H args us vs Q E room gd env bt rv hs
    have inK : K.In s.heap := env.mod.kin.keeps fun b o e => (env.bs b o e).1
    have noLim : s.heap.NoLimit := env.mod.nolimit.keeps fun b o e => (env.bs b o e).1
    have kinds : ∀ y ∈ ps.zip us, (defScope st).names.lookup y.1 = some .local ∨
        ((defScope st).names.lookup y.1 = some .cell ∧ ((cellsFrom (s.heap.objs.size + 1) (defScope st).names []).lookup y.1).isSome = true) := by
      rintro ⟨n, v⟩ hy
      cases S.par n (List.of_mem_zip hy).1 with
      | inl q => exact .inl q
      | inr q => exact .inr ⟨q, PySem.W.cellsFrom_some _ _ _ (.inl q)⟩
    refine codeAny_call_function room.depth (inK _ _ lk) rfl S.co S.gen rfl (PySem.W.codeRec_of inK hcd) (bt _ _ _ _ ?_)
    refine wpAny_newFunctionEnv_cells S.kind kinds fun e2 he s2 x => ?_
    subst he
    refine ⟨noLim.keeps x.toInCall.keep, codeAny_func ?_⟩
    obtain ⟨t, ht, hq⟩ := body cdv rfl A above s H vs Q E (room.deeper _) gd hs
    have inv := inv_start (CX := CX0) (E := E) S room.hd env (many _ _ _ _ hs) rv x
    refine wpAny_mono (ht.nox.run [] s2 (start N vs) H _ inv hq) (fun fl s3 h3 => ?_) fun e s3 h3 => h3
    cases fl with
    | ret u =>
      obtain ⟨v, σ3, H3, J, rr, q⟩ := h3
      exact ⟨v, H3, J.os, J.bare, J.base, J.hok, rr, q⟩
    | next =>
      obtain ⟨σ3, H3, J, q⟩ := h3
      exact ⟨.non, H3, J.os, J.bare, J.base, J.hok, rfl, q⟩
    | brk =>
      obtain ⟨_, _, _, z⟩ := h3
      exact False.elim z
    | cont =>
      obtain ⟨_, _, _, z⟩ := h3
      exact False.elim z
theorem fng_of {x qual : Str} {st : Stmt} {f : Addr} {fd : FuncData} {N ps : List Str} {k : Nat} {sp : Sp} (F : Fun K x qual st f fd)
    (S : FnScope N ps (defScope st)) (many : ∀ vs H Q E, sp vs H Q E → vs.length = ps.length)
    (body : ∀ (cdv : Value) (A : Around) (above : List Env) (s : Shared) (H : Hp) (vs : List V) (Q : VK) (E : XK),
      Room k (A.deeper (envOfC qual (defScope st) s.heap.objs.size f cdv)) → A.guards = some [] → sp vs H Q E →
      ∃ t, PSs (cxOf CX0 P w K mg base N qual (defScope st) f cdv A above s H E).nox (defBody st) t ∧
        t { nx := fun _ H' => Q .non H', rt := Q } (start N vs) H) : FnG P w K mg base (k + 1) f fd ps sp :=
  fng_code F S many fun cdv _ => body cdv
end
section
variable {X : Cx}
/-- f(e, ..) of such a def -/
theorem pe_callG {k : Nat} {f : Addr} {fd : FuncData} {ps : List Str} {sp : Sp} {E : XK} {x : Str} {p pos : Pos} {e : Expr} {es : List Expr} {t : TA}
    (F : FnG X.prog X.w X.K X.mg X.base k f fd ps sp) (room : Room k X.A) (gd : X.A.guards = some []) (hg : Gl X x)
    (hm : X.mg x = some (.ref f)) (kp : PySem.W.keepIn X.K (.ref f) = true) (hb : Binds X.K fd ps []) (ha : PA X (e :: es) t)
    (hdb : (x == ("__debug__" : Str)) = false := by decide)
    (he : starEach (e :: es) X.env = (false, eval e X.env) :: starEach es X.env := by rfl)
    (hpl : (backTo pos (starEach es X.env)).any (·.1) = false := by rfl) :
    PE X (.Call (.Name x p) (e :: es) [] pos) (tCall sp [] E t) := by
  constructor
  intro pins s σ H Q I h
  refine wpAny_Call_Name_kw (ld_glob I hg hm ?_ hdb)
  refine PySem.W.callWith_K (h₀ := X.base) I.ok.mod.kin kp (thn (ha.run pos pins s σ H _ I h) fun us s1 d => ?_) he hpl
  obtain ⟨vs, H1, I1, rv, q⟩ := d
  refine ⟨I1.kIn, ?_⟩
  have q : sp vs H1 Q E := by
    have q' : sp (vs ++ []) H1 Q E := q
    rw [List.append_nil] at q'
    exact q'
  have hl : us.length = ps.length := rv.length.symm.trans (F.many _ _ _ _ q)
  have bt := hb s1 us I1.kIn (by rw [List.append_nil]; exact hl)
  rw [List.append_nil] at bt
  refine wpAny_call (codeAny_mono (F.goes X.A X.stack s1 H1 ⟨us, []⟩ us vs Q E room gd I1.env0 bt rv q) fun r s2 h2 => ?_)
  cases r with
  | error e => exact False.elim h2
  | ok fl =>
    cases fl with
    | ret u => exact I1.after h2
    | next => exact False.elim h2
    | brk => exact False.elim h2
    | cont => exact False.elim h2
/-- repr of data, where none is under way -/
def rRepr (K : PySem.W.Frag) : List V → Hp → VK → Prop := fun xs H Q => ∃ (a : Addr) (d : PyData), xs = [.ref a] ∧ Dp K H (.ref a) d ∧
  d.showable = true ∧ d.hasDict = false ∧ d.depth ≤ 32 ∧ d.shown.length ≤ sizeLine ∧ Q (.str d.shown) H
theorem call_repr (gd : X.A.guards = some []) (hu : X.A.units + 64 < cLine) : CallR X (.builtin "repr") (rRepr X.K) := by
  intro pins s σ H xs us Q I r h
  obtain ⟨a, d, rfl, hd, h1, h2, h3, h4, q⟩ := h
  cases r with
  | cons r1 r2 =>
    cases r2
    cases r1
    obtain ⟨as, rd⟩ := Dp.reads I d (.ref a) (.ref a) hd rfl
    exact repr_of_reads' rd h1 (fun z => by rw [h2] at z; cases z) gd (by omega) (fun _ _ e => e)
      (fun h' u tk hk => ⟨.str d.shown, H, I.kept hk, ⟨u, rfl⟩, q⟩) h4
end
/-! ### the law's own call -/
section
variable {P : Program} {w : World} {K : PySem.W.Frag} {mg mb : Str → Option Value}
theorem law_callG {k : Nat} {fa a : Addr} {fd : FuncData} {x : Str} {sp : Sp} {s : Shared} {vs : List Value} {ns : List Int}
    (inK : K.In s.heap) (ns1 : s.heap.Ns mainGlobals mg) (ns2 : s.heap.Ns builtinsNs mb) (blt : ∀ x : Str, x ≠ "__name__" → mb x = bootBuiltins x)
    (noLim : s.heap.NoLimit) (hg : s.gens = #[]) (ha : s.heap.get? a = some { cls := .type "list", data := .seq vs.toArray })
    (hi : IntsAre vs ns) (hl : ns.length ≤ sizeLine) (hr : Room k callerA)
    (F : ∀ base : Heap, K.In base → base.Ns mainGlobals mg → FnG P w K mg base k fa fd [x] sp)
    (bt : ∀ (s : Shared) (u : Value), BindsTo s fd ⟨[u], []⟩ [(x, u)])
    (hsp : ∀ H : Hp, SqL K H a (ns.map V.int) → sp [.ref a] H (fun v _ => v = .bl true) fun _ _ _ => False) :
    codeAny (model P w) callerA (.call (.ref fa) ⟨[.ref a], []⟩)
      (fun r s' => r = .ok (.ret (.bool true)) ∧ OldK s.heap s'.heap ∧ s'.os = s.os ∧ AllBare s'.gens) s := by
  have rv := vals_ints hi
  have lv := hi.length
  have key : ∀ H : Hp, (∀ b u, H b = some u → b = a ∧ K.lookup a = none ∧ u = .frz { cls := .type "list", data := .seq vs.toArray } (.lst (ns.map V.int))) →
      SqL K H a (ns.map V.int) → codeAny (model P w) callerA (.call (.ref fa) ⟨[.ref a], []⟩)
        (fun r s' => r = .ok (.ret (.bool true)) ∧ OldK s.heap s'.heap ∧ s'.os = s.os ∧ AllBare s'.gens) s := by
    intro H only sq
    have ok : HOk P w H s.heap := by
      intro b u e
      obtain ⟨rfl, _, rfl⟩ := only b u e
      exact ⟨ha, by rw [List.length_map]; exact hl, vs, _, rv, ha⟩
    have plain : ∀ {b : Addr} {o : Obj} {es : Array DictEntry} {n : Nat}, s.heap.get? b = some o → o.data = .dict es n → H b = none := by
      intro b o es n e d
      cases q : H b with
      | none => rfl
      | some u =>
        obtain ⟨rfl, _, _⟩ := only b u q
        rw [ha] at e
        cases e
        exact nomatch d
    have names : ∀ {b : Addr} {m : Str → Option Value}, s.heap.Ns b m → (hidT s.heap H).Ns b m := by
      rintro b m ⟨o, es, n, e, d, r⟩
      exact ⟨o, es, n, hidT_get e (plain e d), d, r⟩
    have inB : K.In (hidT s.heap H) := by
      intro b o e
      refine hidT_get (inK b o e) ?_
      cases q : H b with
      | none => rfl
      | some u =>
        obtain ⟨rfl, n, _⟩ := only b u q
        rw [n] at e
        cases e
    obtain ⟨mc, l1, l2⟩ := noLim
    have md : Mod K mg (hidT s.heap H) := ⟨inB, names ns1, ⟨mb, names ns2, blt⟩, ⟨mc, names l1, l2⟩⟩
    have env : Env0 P w K mg (hidT s.heap H) callerA [] s H :=
      ⟨rfl, md, fun b o e => of_hidT e, Nat.le_of_eq (hidT_size _ _), trivial, (fun b hb => by cases hb), ok, .of_eq hg⟩
    have go := (F _ inB (names ns1)).goes callerA [] s H ⟨[.ref a], []⟩ [.ref a] [.ref a] _ _ hr rfl env (bt s (.ref a)) (.cons rfl .nil) (hsp H sq)
    refine codeAny_mono go fun r s2 h2 => ?_
    cases r with
    | error e => exact False.elim h2
    | ok fl =>
      cases fl with
      | next => exact False.elim h2
      | brk => exact False.elim h2
      | cont => exact False.elim h2
      | ret u =>
        obtain ⟨v, H2, os, bare, un, ok2, rr, q⟩ := h2
        obtain rfl : v = V.bl true := q
        obtain rfl : u = Value.bool true := rr
        refine ⟨rfl, OldK.of_keep fun b o e => ?_, os, bare⟩
        cases q : H b with
        | none => exact un.keep b o e q (by intro z; cases z) (by simp)
        | some u =>
          obtain ⟨rfl, _, rfl⟩ := only b u q
          obtain ⟨e1, _⟩ := ok b _ q
          obtain ⟨e2, _⟩ := ok2 b _ (un.frzs b _ _ q)
          rw [e] at e1
          cases e1
          exact e2
  cases hk : K.lookup a with
  | none =>
    refine key (fun b => if b = a then some (.frz { cls := .type "list", data := .seq vs.toArray } (.lst (ns.map V.int))) else none) (fun b u e => ?_) (.inl (.inr ⟨_, if_pos rfl⟩))
    by_cases z : b = a
    · rw [if_pos z] at e
      cases e
      exact ⟨z, hk, rfl⟩
    · rw [if_neg z] at e
      cases e
  | some o =>
    have e := inK a o hk
    rw [ha] at e
    cases e
    refine key (fun _ => none) (fun b u e => by cases e) (.inr ⟨_, vs.toArray, _, hk, rfl, rfl, rfl, ?_, by simpa using rv⟩)
    rw [List.size_toArray, lv]
    exact hl
end
theorem walk_ofG {l : PySem.W.OpenLaw} {n k : Nat} {q : Program} {loose : List Str} {XP : (Str → Option Value) → Heap → Prop} {YP : World → Heap → Prop}
    {d : DefRec} {K : Params → PySem.W.Frag} {sp : World → Sp} {x : Str} (hn : l.most = some n) (hn2 : n ≤ sizeLine) (hdf : d.params.defaults = [])
    (hr : Room k callerA) (hY : ∀ (w : World) (h : Heap), YP w h → (K w.params).In h)
    (F : ∀ (w : World) (mg : Str → Option Value) (fa : Addr) (h : Heap), (K w.params).In h → h.Ns mainGlobals mg → mg d.name = some (.ref fa) →
      ∃ fd : FuncData, (∀ (s : Shared) (u : Value), BindsTo s fd ⟨[u], []⟩ [(x, u)]) ∧
        ∀ base : Heap, (K w.params).In base → base.Ns mainGlobals mg → FnG l.prog w (K w.params) mg base k fa fd [x] (sp w))
    (hsp : ∀ (w : World) (H : Hp) (a : Addr) (ns : List Int), ns.length ≤ n → SqL (K w.params) H a (ns.map V.int) → sp w [.ref a] H (fun v _ => v = .bl true) fun _ _ _ => False) :
    PySem.W.WalkO q loose XP YP l.row.toRowW d [] (fun f vs => PySem.call f vs) := by
  refine Att.attach_call hn hdf fun w s0 s1 mg mb fa o pm cd doc a vs ns G Y h1 h2 h3 h4 h5 h6 h7 h8 => ?_
  obtain ⟨fd, bt, hF⟩ := F w mg fa _ (hY w _ Y) G.T.g h4
  exact law_callG (hY w _ Y) G.T.g G.T.b G.T.builtins G.T.nolimit h8 h5 h6 (Nat.le_trans h7 hn2) hr hF bt (fun H sq => hsp w H a ns h7 sq)
end Ev
namespace Ev
open PySem L2 PySem.Spec PyProof.Rows
theorem walk_ofGE {l : PySem.W.OpenLaw} {n k : Nat} {q : Program} {loose : List Str} {XP : (Str → Option Value) → Heap → Prop} {YP : World → Heap → Prop}
    {d : DefRec} {x : Str} (hn : l.most = some n) (hn2 : n ≤ sizeLine) (hdf : d.params.defaults = []) (hr : Room k callerA)
    (F : ∀ (w : World) (mg : Str → Option Value) (fa : Addr) (h : Heap), YP w h → h.Ns mainGlobals mg → mg d.name = some (.ref fa) →
      ∃ (K : PySem.W.Frag) (fd : FuncData) (sp : Sp), K.In h ∧ (∀ (s : Shared) (u : Value), BindsTo s fd ⟨[u], []⟩ [(x, u)]) ∧
        (∀ (H : Hp) (a : Addr) (ns : List Int), ns.length ≤ n → SqL K H a (ns.map V.int) → sp [.ref a] H (fun v _ => v = .bl true) fun _ _ _ => False) ∧
        ∀ base : Heap, K.In base → base.Ns mainGlobals mg → FnG l.prog w K mg base k fa fd [x] sp) :
    PySem.W.WalkO q loose XP YP l.row.toRowW d [] (fun f vs => PySem.call f vs) := by
  refine Att.attach_call hn hdf fun w s0 s1 mg mb fa o pm cd doc a vs ns G Y h1 h2 h3 h4 h5 h6 h7 h8 => ?_
  obtain ⟨K, fd, sp, inK, bt, hsp, hF⟩ := F w mg fa _ Y G.T.g h4
  exact law_callG inK G.T.g G.T.b G.T.builtins G.T.nolimit h8 h5 h6 (Nat.le_trans h7 hn2) hr hF bt (fun H sq => hsp H a ns h7 sq)
end Ev
namespace Ev
open PySem L2 PySem.Spec PyProof.Rows
/-- an error of the class C with the field n is told -/
def TellE (C : Addr) (n : Str) (v : V) (H : Hp) (E : XK) : Prop := ∀ (d : Addr) (H' : Hp), Same H H' → H d = none → H' d = some (.xd [(n, v)]) → E (.ref C) (some d) H'
def spErrI (C : Addr) (n : Str) : Sp := fun vs H Q _ => ∃ (a : Addr) (v : V) (T : String), vs = [.ref a, v] ∧ Flat v T ∧ H a = some (exo a C none) ∧
  ∀ (d : Addr) (H' : Hp), H d = none → H' a = some (exo a C (some d)) → H' d = some (exd d [(n, v)]) → (∀ b o, b ≠ a → H b = some o → H' b = some o) → Q .non H'
/-- an error class of the package with one field n -/
structure ErrC (P : Program) (w : World) (K : PySem.W.Frag) (mg : Str → Option Value) (base : Heap) (x n : Str) (C : Addr) : Prop where
  cl : OexC K C
  g : mg x = some (.ref C)
  ex : ∃ (f : Addr) (fd : FuncData), PySem.W.findIn K (.ref C) "__init__" = some (some (.ref f)) ∧ PySem.W.typeIn K (.ref f) = some (.type "function") ∧ FnOk P w K mg base CX0 3 f fd ["self", n] (spErrI C n) ∧ Binds K fd ["self", n] []
inductive Out
  | ok
  | rule (m : Str)
  | halves (w : Int)
def OutK (B N : Addr) (H : Hp) (E : XK) (good : Prop) : Out → Prop
  | .ok => good
  | .rule m => ∀ H1, Same H H1 → TellE B "part" (.str m) H1 E
  | .halves w => ∀ H1, Same H H1 → TellE N "weight" (.int w) H1 E
theorem OutK.mono {B N : Addr} {H H2 : Hp} {E : XK} {g g' : Prop} {o : Out} (h : OutK B N H E g o) (k : Same H H2) (f : g → g') : OutK B N H2 E g' o := by
  cases o with
  | ok => exact f h
  | rule m => exact fun H1 s => h H1 (k.trans s)
  | halves w => exact fun H1 s => h H1 (k.trans s)
/-- what the raising of such an error comes to -/
theorem raised {C : Addr} {n : Str} {H : Hp} {v : V} {T : String} {E : XK} (hv : Flat v T) (k : TellE C n v H E) (a' : Addr) (na : H a' = none) :
    spErrI C n [.ref a', v] (upd H a' (exo a' C none)) (fun v' H2 => v' = .non ∧ ∃ (d : Addr) (fs : List (Str × V)), H2 a' = some (exo a' C (some d)) ∧ H2 d = some (exd d fs) ∧ H d = none ∧ E (.ref C) (some d) (upd (del H2 a') d (.xd fs))) (fun _ _ _ => False) := by
  refine ⟨a', v, T, rfl, hv, upd_same, fun d H' nd ha' hd bt => ⟨rfl, d, _, ha', hd, ?_, ?_⟩⟩
  · have dne : d ≠ a' := fun z => by rw [z, upd_same] at nd; cases nd
    rw [upd_ne dne] at nd
    exact nd
  · have dne : d ≠ a' := fun z => by rw [z, upd_same] at nd; cases nd
    rw [upd_ne dne] at nd
    refine k d _ (fun b o e => ?_) nd upd_same
    rw [upd_ne (ne_of_none e nd), del_ne (ne_of_none e na)]
    exact bt b o (ne_of_none e na) (by rw [upd_ne (ne_of_none e na)]; exact e)
section
variable {P : Program} {w : World} {K : PySem.W.Frag} {mg : Str → Option Value} {base : Heap}
theorem scBR : FnScope ["self", "part"] ["self", "part"] (defScope sBRInit) := ⟨rfl, rfl, rfl, by decide +kernel, rfl, by decide +kernel, by decide +kernel⟩
theorem ok_br {f C : Addr} {fd : FuncData} (F : Fun K "__init__" "BadRule.__init__" sBRInit f fd) (T : OexC K C) (no : PySem.W.findIn K (.ref C) "part" = some none) (D : Df P w K mg base 2 "kept" ["value"] spKept) : FnOk P w K mg base CX0 3 f fd ["self", "part"] (spErrI C "part") := by
  obtain ⟨f1, fd1, G1, g1, k1, b1⟩ := D.ex
  refine F.ok scBR (fun vs H Q E h => ?_) (fun cdv A outer s H vs Q E hr h => ?_)
  · obtain ⟨a, v, TT, rfl, _⟩ := h
    rfl
  · obtain ⟨a, v, TT, rfl, fl, ha, kk⟩ := h
    refine ⟨_, pss_one (ps_ost (pv 0) (pe_call G1 hr (by rfl) g1 k1 b1 .nil pass0 (pa_cons (pv 1) pa_nil))), ?_⟩
    refine ⟨_, rfl, v, TT, rfl, fl, fun H1 s1 => ⟨_, rfl, a, C, rfl, T, no, .inl ⟨s1 _ _ ha, fun dx nd dne => ?_⟩⟩⟩
    refine kk dx _ (Same.gone s1 nd) upd_same (by rw [upd_ne dne]; exact upd_same) fun b o nb e => ?_
    rw [upd_ne nb, upd_ne (ne_of_none (s1 _ _ e) nd)]
    exact s1 _ _ e
/-- a def that may raise, under its name -/
structure DfX (P : Program) (w : World) (K : PySem.W.Frag) (mg : Str → Option Value) (base : Heap) (k : Nat) (x : Str) (ps : List Str) (sp : Sp) : Prop where
  ex : ∃ (f : Addr) (fd : FuncData), FnOk P w K mg base (L2.CX P w) k f fd ps sp ∧ mg x = some (.ref f) ∧ PySem.W.keepIn K (.ref f) = true ∧ Binds K fd ps []
end
end Ev
namespace Ev
open PySem L2 PySem.Spec PyProof.Rows
/-! ### repr of a value that holds nothing but scalars -/
def sclr : V → PyData → Bool
  | .non, .none => true
  | .bl a, .bool b => a == b
  | .int a, .int b => decide (a = b)
  | .str a, .str b => a == b
  | _, _ => false
def keyD : Key → PyData
  | .inl i => .int i
  | .inr x => .str x
inductive Vd (K : PySem.W.Frag) (H : Hp) : V → PyData → Prop
  | plain {v : V} {d : PyData} : Dp K H v d → d.hasDict = false → Vd K H v d
  | dct {a : Addr} {kvs : List (Key × V)} {ds : List (PyData × PyData)} : H a = some (.dK kvs) → ds.map (·.1) = kvs.map (fun p => keyD p.1) → Paired (fun v d => sclr v d = true) (kvs.map (·.2)) (ds.map (·.2)) → Vd K H (.ref a) (.dict ds)
theorem reads_sc {h : Heap} {v : V} {d : PyData} {u : Value} (e : sclr v d = true) (r : RelV v u) : Reads h u d [] := by
  cases v <;> cases d <;> first | cases e | skip
  · cases (show u = Value.none from r); exact .none
  · obtain rfl := beq_iff_eq.mp e
    cases (show u = Value.bool _ from r); exact .bool _
  · obtain rfl := of_decide_eq_true e
    obtain ⟨t, q⟩ := (show ∃ t, u = Value.int _ t from r); cases q; exact .int _ _
  · obtain rfl := beq_iff_eq.mp e
    obtain ⟨t, q⟩ := (show ∃ t, u = Value.str _ t from r); cases q; exact .str _ _
theorem reads_scs {h : Heap} : ∀ {vs : List V} {ds : List PyData} {us : List Value}, Paired (fun v d => sclr v d = true) vs ds → Vals vs us → ReadsAll h us ds []
  | _, _, _, .nil, .nil => .nil
  | _, _, _, .cons e t, .cons r q => .cons (as := []) (bs := []) (reads_sc e r) (reads_scs t q)
theorem pair_vals {P : Program} {w : World} : ∀ {es : List DictEntry} {vs : List (Key × Value)}, Pairs (mixKind P w) es vs → es.map (·.val) = vs.map (·.2)
  | _, _, .nil => rfl
  | _, _, .cons h1 h2 t => by
    rw [List.map_cons, List.map_cons, h2, pair_vals t]
theorem reads_keys {P : Program} {w : World} {h : Heap} : ∀ {es : List DictEntry} {kvs : List (Key × V)} {vs : List (Key × Value)}, Pairs (mixKind P w) es vs → KV kvs vs → ReadsAll h (es.map (·.key)) (kvs.map fun p => keyD p.1) []
  | _, _, _, .nil, .nil => .nil
  | _, _, _, .cons h1 h2 t, .cons r q => by
    refine .cons (as := []) (bs := []) ?_ (reads_keys t q)
    dsimp only
    rw [r.1]
    rcases keyIs_shape (show keyIs _ _ = true from h1) with ⟨i, tk, e1, e2⟩ | ⟨x, tk, e1, e2⟩
    · rw [e1, e2]; exact .int _ _
    · rw [e1, e2]; exact .str _ _
theorem vals_snd : ∀ {kvs : List (Key × V)} {vs : List (Key × Value)}, KV kvs vs → Vals (kvs.map (·.2)) (vs.map (·.2))
  | _, _, .nil => .nil
  | _, _, .cons h t => .cons h.2 (vals_snd t)
section
variable {X : Cx}
/-- repr of such a value, where none is under way -/
def rReprV (K : PySem.W.Frag) : List V → Hp → VK → Prop := fun xs H Q => ∃ (v : V) (d : PyData), xs = [v] ∧ Vd K H v d ∧
  d.showable = true ∧ d.depth ≤ 32 ∧ d.shown.length ≤ sizeLine ∧ Q (.str d.shown) H
theorem call_reprV (gd : X.A.guards = some []) (hu : X.A.units + 64 < cLine) : CallR X (.builtin "repr") (rReprV X.K) := by
  intro pins s σ H xs us Q I r h
  obtain ⟨v, d, rfl, hd, h1, h3, h4, q⟩ := h
  obtain ⟨u, rfl, ru⟩ := vals1 r
  have fin : ∀ (h' : Heap) (t : Tok) (tk : Nat), (∀ b o, s.heap.get? b = some o → h'.get? b = some o) → EP X pins σ Q (.str d.shown t) { s with heap := h', toks := tk } := fun h' t tk hk => ⟨.str d.shown, H, I.kept hk, ⟨t, rfl⟩, q⟩
  have byRef : ∀ (a : Addr) (as : List Addr), u = .ref a → Reads s.heap (.ref a) d as → (d.hasDict = true → sysModules ∉ as) → wpAny (model X.prog X.w) X.A (call (.builtin "repr") [u]) (EP X pins σ Q) X.xe s := by
    intro a as eu rd hm
    subst eu
    exact repr_of_reads' rd h1 hm gd (by omega) (fun _ _ e => e) (fun h' t tk hk => fin h' t tk hk) h4
  cases hd with
  | plain dp nd =>
    cases dp with
    | non => cases ru; exact PySem.P.repr_of_none (fin s.heap _ _ fun _ _ e => e)
    | bl b => cases ru; exact PySem.P.repr_of_bool (fin s.heap _ _ fun _ _ e => e)
    | int i => obtain ⟨t, rfl⟩ := ru; exact PySem.P.repr_of_int (of_decide_eq_true h1) (fin s.heap _ _ fun _ _ e => e)
    | str x => obtain ⟨t, rfl⟩ := ru; exact PySem.P.repr_of_str (fin s.heap _ _ fun _ _ e => e) h4
    | lst sq al =>
      cases ru
      obtain ⟨as, rd⟩ := Dp.reads I _ _ _ (.lst sq al) rfl
      exact byRef _ as rfl rd fun z => by rw [nd] at z; cases z
    | tup sq al =>
      cases ru
      obtain ⟨as, rd⟩ := Dp.reads I _ _ _ (.tup sq al) rfl
      exact byRef _ as rfl rd fun z => by rw [nd] at z; cases z
  | @dct a kvs ds e ek ev =>
    cases ru
    obtain ⟨hz, hs0, vs, kv, hdo⟩ := (show ObjOk X.prog X.w H s.heap a (.dK kvs) from I.hok a _ e)
    obtain ⟨ep, ob, es, ho, ex, hdat, hko, hpr, hnd⟩ := hdo.dictAt
    have e1 : ReadsAll s.heap (es.toList.map (·.key)) (ds.map (·.1)) [] := by
      rw [ek]; exact reads_keys hpr kv
    have e2 : ReadsAll s.heap (es.toList.map (·.val)) (ds.map (·.2)) [] := by
      refine reads_scs ev ?_
      have e3 : es.toList.map (·.val) = vs.map (·.2) := pair_vals hpr
      rw [e3]; exact vals_snd kv
    refine byRef a (a :: [] ++ []) rfl (.dict ho ex.1 hdat e1 e2) fun _ z => ?_
    simp at z
    rw [← z] at hs0
    simp at hs0
end
end Ev
namespace Ev
open PySem L2 PySem.Spec PyProof.Rows
/-! An error that was caught stays in a local behind its suite: its object is told of from then on. -/
def Held (cls : Value) (d : Option Addr) (a : Addr) : HO := .ext fun h => ∃ oe : Obj, h.get? a = some oe ∧ Zc cls d oe ∧ ∃ vs : Array Value, oe.data = .fields vs
theorem held_ok {P : Program} {w : World} {H : Hp} {h : Heap} {a : Addr} {cls : Value} {d : Option Addr} {oe : Obj}
    (e : h.get? a = some oe) (z : Zc cls d oe) (f : ∃ vs : Array Value, oe.data = .fields vs) : ObjOk P w H h a (Held cls d a) :=
  ⟨⟨oe, e, z, f⟩, ⟨oe, e⟩, fun _ _ t k => by obtain ⟨o, q, r⟩ := t; exact ⟨o, k _ q, r⟩⟩
section
variable {X : Cx} {pins : List (Addr × Obj)} {σ : L2.St} {H : Hp} {s : Shared} {a : Addr} {cls : Value} {d : Option Addr} {oe : Obj}
theorem inv_hold (I : Inv X pins σ H s) (e : s.heap.get? a = some oe) (z : Zc cls d oe) (f : ∃ vs : Array Value, oe.data = .fields vs) (n : H a = none)
    (n0 : X.s_0.heap.get? a = none) (nL : a ≠ X.env.locals) (np : ∀ p ∈ X.pn ++ pins, p.1 ≠ a) : Inv X pins σ (upd H a (Held cls d a)) s := by
  have other : ∀ {b : Addr} {o : HO}, H b = some o → upd H a (Held cls d a) b = some o := fun {b o} q => by rw [upd_ne (ne_of_none q n)]; exact q
  constructor
  · exact I.ok
  · exact I.os
  · exact I.bare
  · constructor
    · exact I.base.keep
    · exact I.base.slot
    · intro b o q1 q2 q3
      have nb : b ≠ a := fun t => by rw [t, n0] at q1; cases q1
      rw [upd_ne nb]; exact I.base.free b o q1 q2 q3
    · exact I.base.there
    · exact fun b xs q => other (I.base.tups b xs q)
    · exact fun b o u q => other (I.base.frzs b o u q)
    · intro b ps q
      obtain ⟨more, t⟩ := I.base.tbls b ps q
      exact ⟨more, other t⟩
  · exact I.loc
  · exact I.cell
  · rw [upd_ne nL.symm]; exact I.free
  · intro x c q
    have nb : c ≠ a := fun t => by
      obtain ⟨v, o, q1, q2⟩ := I.cell x c q
      obtain ⟨vs, q3⟩ := f
      rw [t, e] at q1; cases q1
      rw [q3] at q2; cases q2
    rw [upd_ne nb]; exact I.freeC x c q
  · intro p hp
    obtain ⟨q1, q2, q3⟩ := I.pin p hp
    exact ⟨q1, by rw [upd_ne (np p hp)]; exact q2, q3⟩
  · intro b o q
    by_cases nb : b = a
    · subst nb
      rw [upd_same] at q
      cases q
      exact held_ok e z f
    · rw [upd_ne nb] at q
      exact (I.hok b o q).stay (fun _ _ _ t => t) (fun _ t => other t) (fun _ _ t => other t)
  · exact I.len
end
/-- what the clause wishes: the suite reads the error in slot i; behind it the error is told of, slot i is empty -/
def wHeld (K : PySem.W.Frag) (c : Value) (i : Nat) (ts : Addr → Value → Option Addr → TS) (Wout : WX) (n : Nat) (D : Ends) : WX := fun cls d σ H => σ.length = n →
  ∃ b, PySem.W.exmOne K cls c = some b ∧ (b = false → Wout cls d σ H) ∧ (b = true → ∀ a, H a = none →
    ts a cls d { nx := fun τ G => G a = none → D.nx (τ.set i none) (upd G a (Held cls d a)), rt := fun v G => D.rt v G, bk := fun τ G => D.bk (τ.set i none) G, ct := fun τ G => D.ct (τ.set i none) G } (σ.set i (some (.ref a))) H)
section
variable {X : Cx} {x n : Str} {c : Value} {i : Nat} {body suite : List Stmt} {b₀ : Stmt} {np pos pos' : Pos} {tb : WX → TS} {ts : Addr → Value → Option Addr → TS} {Wout : WX}
theorem ps_try_held (hs : X.stack = X.env :: X.outer) (hf : X.env.frame = some X.env.locals) (hex : X.ex = []) (hN : X.N.Nodup) (hi : X.N[i]? = some n) (hln : X.env.kindOf n = some .local) (hc : Names X x c) (tk : Takes X Wout)
    (hb : ∀ (W : WX) (pn : List (Addr × Obj)) (xe : Value → Shared → Prop), Takes (X.tr pn xe) W → PSs (X.tr pn xe) body (tb W))
    (hsu : ∀ (a : Addr) (oe : Obj) (cls : Value) (d : Option Addr) (pn : List (Addr × Obj)), Zc cls d oe → (∃ vs, oe.data = .fields vs) → PSs (X.suite a ((a, oe) :: pn)) (b₀ :: suite) (ts a cls d)) :
    PS X (.Try body [.ExceptHandler (some (.Name x np)) (some n) (b₀ :: suite) pos'] [] [] pos) (fun D σ H => tb (wHeld X.K c i ts Wout X.N.length D) D σ H) := by
  constructor
  intro pins s σ H D I h
  have ok := I.ok
  have frames : X.A.frames = some (X.env :: X.outer) := by rw [ok.frames, hs]
  have isLoc : Loc X.env.scope n := .inl hln
  let hands : List ExceptHandler := [.ExceptHandler (some (.Name x np)) (some n) (b₀ :: suite) pos']
  let land : Value → Shared → Prop := fun e s1 => wpAny (model X.prog X.w) X.A (noteFrame e X.env) (fun _ s2 => wpAny (model X.prog X.w) X.A (setFlight e none)
    (fun _ s3 => wpAny (model X.prog X.w) X.A (handleBy e X.env hands) (SP X pins D) X.xe s3) X.xe s2) X.xe s1
  have caught : Takes (X.tr (X.pn ++ pins) land) (wHeld X.K c i ts Wout X.N.length D) := by
    rintro u s' ⟨a, B, sI, pins', σ', H', cls, d, rfl, J', nb, up, sky, na, os, ag, wish⟩
    obtain ⟨b, hb1, hno, hyes⟩ := wish J'.len
    have J : Inv X pins σ' H' sI := J'.ofTry ok
    have sky2 : Sky B (X.env :: X.outer) a (Zc cls d) X.env.locals s'.heap := by rw [← hs]; exact sky
    refine Sky.land Zc.steady frames hf sky2 fun h3 fl3 up3 => ?_
    have J3 : Inv X pins σ' H' { s' with heap := h3 } := J.landed nb fl3.1 (up.trans up3) os ag
    obtain ⟨oe3, vs3, he3, hz3, hd3⟩ := fl3.there
    have nfr : a ∉ frs (X.env :: X.outer) := by
      intro hm
      obtain ⟨_, o2, e2, nf⟩ := fl3.2.2.1.mem hm
      rw [he3] at e2; cases e2
      exact nf _ hd3
    have nfr2 : a ∉ frs X.stack := by rw [hs]; exact nfr
    have nL : a ≠ X.env.locals := fun z => nfr (List.mem_filterMap.mpr ⟨_, List.mem_cons_self, by rw [hf, z]⟩)
    have nF : a ∉ X.fs := by
      intro hm
      obtain ⟨e, he, q⟩ := List.mem_filterMap.mp hm
      exact nfr (List.mem_filterMap.mpr ⟨e, List.mem_cons_of_mem _ he, q⟩)
    have nI : sI.heap.get? a = none := by
      cases q : sI.heap.get? a with
      | none => rfl
      | some o =>
        have z := nb a o q nfr2
        rw [fl3.2.1] at z; cases z
    have n0 : X.s_0.heap.get? a = none := by
      cases q : X.s_0.heap.get? a with
      | none => rfl
      | some o =>
        obtain ⟨o2, z⟩ := J.base.there a o q (by rw [hex]; simp)
        rw [nI] at z; cases z
    have npin : ∀ p ∈ X.pn ++ pins, p.1 ≠ a := fun p hp z => by
      have q := (J.pin p hp).1
      rw [z, nI] at q; cases q
    have S3 := J3.suite he3 hd3 na nL nF
    refine wpAny_handleBy_cons (codeAny_handlers_test ?_) (fun q => nomatch q)
    have LT : PySem.W.Looks (model X.prog X.w) h3 (typeOf (.ref a)) cls := by
      intro A Q E s k q
      exact wpAny_typeOf_ref (k _ _ he3) (by rw [hz3.1]; exact q)
    have LM := PySem.W.exm_one (M := model X.prog X.w) J3.kIn LT hb1
    have named : ∀ {Q E : Value → Shared → Prop}, Q c { s' with heap := h3 } → wpAny (model X.prog X.w) (X.A.mark (some (.ref a))) (eval (.Name x np) X.env) Q E { s' with heap := h3 } := by
      intro Q E q
      obtain ⟨g1, g2, g3⟩ := hc
      rcases g3 with m | ⟨m, v, nn⟩
      · exact ld_glob (X := X.suite a ((a, oe3) :: (X.pn ++ pins))) S3 g1 m q g2
      · exact ld_blt (X := X.suite a ((a, oe3) :: (X.pn ++ pins))) S3 g1 m v q nn g2
    refine named (LM.here ?_)
    cases b with
    | false =>
      refine wpAny_handleBy_nil (e := .ref a) (env := X.env) ?_
      obtain ⟨k1, k2, k3, oe, vs, T, oT, ts', he, hz, hd, h1, hr⟩ := id fl3
      unfold PySem.passOn
      refine wpAny_bind (wpAny_field he hd h1 ?_)
      rw [if_neg (by simp : ¬ ((Value.ref T == Value.none) = true))]
      have on : wpAny (model X.prog X.w) X.A (setFlight (.ref a) X.env.frame) (fun _ s4 => wpAny (model X.prog X.w) X.A (throw (.ref a) : Sem Flow) (SP X pins D) X.xe s4) X.xe { s' with heap := h3 } := by
        rw [hf]
        refine HandSPX.setFlight_upZ fl3 fun h4 hh4 up4 => ?_
        refine wpAny_throw (tk _ _ ⟨a, B, sI, pins, σ', H', cls, d, rfl, J, nb, (up.trans up3).trans up4, ?_, na, os, ag, hno rfl⟩)
        rw [hs]; exact .inr (.inr hh4)
      first
        | exact wpAny_bind (wpAny_pure (wpAny_bind on))
        | exact wpAny_bind on
    | true =>
      refine codeAny_handlers_suite_as (HandSPX.lands_againZ fl3 fun h4 fl4 up4 => ?_)
      have J4 : Inv X pins σ' H' { s' with heap := h4 } := J.landed nb fl4.1 ((up.trans up3).trans up4) os ag
      obtain ⟨oe4, vs4, he4, hz4, hd4⟩ := fl4.there
      refine store_ok (X := X.suite a ((a, oe4) :: (X.pn ++ pins))) (v := .ref a) (J4.suite he4 hd4 na nL nF) hN hi isLoc rfl (fun s5 S5 => ?_) (.inr hln)
      have suite := (hsu a oe4 cls d (X.pn ++ pins) hz4 ⟨_, hd4⟩).run [] s5 _ H' _ S5 (hyes rfl a na)
      refine wpAny_mono suite (fun f s6 hsp => ?_) (fun _ _ z => False.elim z)
      have gone : ∀ {τ : L2.St} {G : Hp} {Q : Shared → Prop}, Inv X pins τ G s6 → (∀ s7, Inv X pins (τ.set i none) G s7 → Q s7) →
          wpAny (model X.prog X.w) X.A (do bindName X.env n .none; unbindBehindTheSuite X.env n pos') (fun _ s7 => Q s7) X.xe s6 := by
        intro τ G Q S6 hq
        exact gone_ok S6 hN hi hln hq
      cases f with
      | next =>
        obtain ⟨τ, G, S6, q6⟩ := hsp
        obtain ⟨p1, p2, _⟩ := S6.pin (a, oe4) (List.mem_append_left _ List.mem_cons_self)
        exact gone (inv_hold (S6.unsuite ok) p1 hz4 ⟨_, hd4⟩ p2 n0 nL npin) fun s7 J7 => ⟨_, _, J7, q6 p2⟩
      | brk =>
        obtain ⟨τ, G, S6, q6⟩ := hsp
        exact gone (S6.unsuite ok) fun s7 J7 => ⟨_, _, J7, q6⟩
      | cont =>
        obtain ⟨τ, G, S6, q6⟩ := hsp
        exact gone (S6.unsuite ok) fun s7 J7 => ⟨_, _, J7, q6⟩
      | ret u =>
        obtain ⟨v, τ, G, S6, r6, q6⟩ := hsp
        exact gone (S6.unsuite ok) fun s7 J7 => ⟨_, _, _, J7, r6, q6⟩
  refine wpAny_Try_except (wpAny_mono ((hb _ (X.pn ++ pins) land caught).run [] s σ H D (I.toTry _) h) (fun f s1 hsp => ?_) (fun e s1 he => he))
  cases f with
  | next =>
    obtain ⟨τ, G, J, q⟩ := hsp
    exact wpAny_execs_nil ⟨τ, G, J.ofTry ok, q⟩
  | brk =>
    obtain ⟨τ, G, J, q⟩ := hsp
    exact ⟨τ, G, J.ofTry ok, q⟩
  | cont =>
    obtain ⟨τ, G, J, q⟩ := hsp
    exact ⟨τ, G, J.ofTry ok, q⟩
  | ret u =>
    obtain ⟨v, τ, G, J, r, q⟩ := hsp
    exact ⟨v, τ, G, J.ofTry ok, r, q⟩
end
/-- what the class of such an error says -/
structure HeldC (K : PySem.W.Frag) (C : Addr) : Prop where
  cl : (PySem.W.clsIn K C).isSome = true
  ga : PySem.W.findIn K (.ref C) "__getattribute__" = some (some (.builtin "BaseException.__getattribute__"))
  gg : PySem.W.findIn K (.ref C) "__getattr__" = some none
  ex : PySem.W.subIn K (.ref C) (.type "BaseException") = some true
  hd : PySem.W.hasDictIn K C = true
  ca : PySem.W.findIn K (.ref C) "__class__" = some (some (.builtin "object.__class__"))
  sp : PySem.W.specialIn K (.builtin "object.__class__") "__get__" = some (some (.builtin "getset_descriptor.__get__"))
  tk : PySem.W.takesIn K (.builtin "object.__class__") = some true
  mo : PySem.W.mroIn K C (.type "object") = some true
section
variable {X : Cx}
theorem held_at {pins : List (Addr × Obj)} {σ : L2.St} {H : Hp} {s : Shared} {a : Addr} {cls : Value} {d : Option Addr} (I : Inv X pins σ H s) (e : H a = some (Held cls d a)) :
    ∃ oe : Obj, s.heap.get? a = some oe ∧ Zc cls d oe ∧ ∃ vs : Array Value, oe.data = .fields vs := by
  have x : ObjOk X.prog X.w H s.heap a (.ext fun h => ∃ oe : Obj, h.get? a = some oe ∧ Zc cls d oe ∧ ∃ vs : Array Value, oe.data = .fields vs) := I.hok a _ e
  exact x.1
theorem held_inst {pins : List (Addr × Obj)} {σ : L2.St} {H : Hp} {s : Shared} {a C dd : Addr} {fs : List (Str × V)} (I : Inv X pins σ H s) (e : H a = some (Held (.ref C) (some dd) a)) (ed : H dd = some (.xd fs)) :
    ∃ (oe od : Obj) (mA : Str → Option Value), PySem.W.InstAt s.heap a oe C (some od) ∧ (∀ f, RelO (fs.lookup f) (mA f)) ∧ ∀ n, PySem.W.lookIn n od = some (mA n) := by
  obtain ⟨oe, he, hz, vs, hd⟩ := held_at I e
  obtain ⟨mA, hns, hr⟩ := (show ObjOk X.prog X.w H s.heap dd (.xd fs) from I.hok dd _ ed)
  obtain ⟨od, ho, hl⟩ := lookIn_ns hns
  exact ⟨oe, od, mA, ⟨he, hz.1, by unfold PySem.W.notCls; rw [hd] <;> rfl, by rw [hz.2]; exact ho⟩, hr, hl⟩
/-- isinstance(e, c), e such an error -/
def rIsHeld (K : PySem.W.Frag) : List V → Hp → VK → Prop := fun xs H Q => ∃ (a C dd : Addr) (fs : List (Str × V)) (c : V) (u : Value) (b : Bool),
  xs = [.ref a, c] ∧ H a = some (Held (.ref C) (some dd) a) ∧ H dd = some (.xd fs) ∧ HeldC K C ∧ ClsV c u ∧ PySem.W.kitOne K (.ref C) u = some b ∧ Q (.bl b) H
theorem call_isHeld : CallR X (.builtin "isinstance") (rIsHeld X.K) := by
  intro pins s σ H xs us Q I r h
  obtain ⟨a, C, dd, fs, c, u, b, rfl, ea, ed, T, k, e, q⟩ := h
  obtain ⟨u1, u2, rfl, r1, r2⟩ := vals2 r
  have e2 := k.eq r2
  subst e2
  cases r1
  obtain ⟨oe, od, mA, J, _, _⟩ := held_inst I ea ed
  exact PySem.W.kia_one (PySem.W.kitx_exc T.cl T.ga T.gg T.ex T.ca T.sp T.tk T.mo) I.kIn J e (fun z => nomatch z) fun tk => ⟨.bl b, H, I.tok tk, rfl, q⟩
/-- e.n, e such an error -/
def tHeldFld (K : PySem.W.Frag) (n : Str) (te : TE) : TE := fun σ H Q => te σ H fun x H1 => ∃ (a C dd : Addr) (fs : List (Str × V)) (v : V),
  x = .ref a ∧ H1 a = some (Held (.ref C) (some dd) a) ∧ H1 dd = some (.xd fs) ∧ HeldC K C ∧ PySem.W.findIn K (.ref C) n = some none ∧ fs.lookup n = some v ∧ Q v H1
theorem pe_heldFld {e : Expr} {te : TE} {pos : Pos} {n : Str} (he : PE X e te) (hb : attributeBase e n X.env (eval e X.env) = eval e X.env := by rfl) : PE X (.Attribute e n pos) (tHeldFld X.K n te) := by
  constructor
  intro pins s σ H Q I h
  refine attr_of hb (thn (he.run pins s σ H _ I h) fun u s1 hh => ?_)
  obtain ⟨x, H1, I1, rx, a, C, dd, fs, v, rfl, ea, ed, T, hno, l, q⟩ := hh
  obtain rfl : u = Value.ref a := rx
  obtain ⟨oe, od, mA, J, hr, hl⟩ := held_inst I1 ea ed
  obtain ⟨u, hu, ru⟩ := RelO.some_of (v := v) (o := mA n) (by rw [← l]; exact hr n)
  exact HandSPX.exc_get I1.kIn J T.ga T.gg T.ex (PySem.W.findObj_own T.hd hno rfl (by rw [hl, hu])) (handed_of ru) ⟨v, H1, I1.tok _, ru, q⟩
end
end Ev
namespace Ev
open PySem L2 PySem.Spec PyProof.Rows LamX
/-! The law's own call, where the law makes lambdas: the table of its code object is told of. -/
section
variable {P : Program} {w : World} {K : PySem.W.Frag} {mg mb : Str → Option Value}
theorem law_callT {k : Nat} {fa a c T : Addr} {fd : FuncData} {x : Str} {sp : Sp} {s : Shared} {vs : List Value} {ns : List Int}
    (inK : K.In s.heap) (ns1 : s.heap.Ns mainGlobals mg) (ns2 : s.heap.Ns builtinsNs mb) (blt : ∀ x : Str, x ≠ "__name__" → mb x = bootBuiltins x)
    (noLim : s.heap.NoLimit) (hg : s.gens = #[]) (hT : s.heap.get? T = some { cls := .none, data := .fields #[] }) (nT : K.lookup T = none) (hc : PySem.W.CodeHd s.heap c T)
    (hbm : ∃ (bm : Addr) (ob : Obj), mg "__builtins__" = some (.ref bm) ∧ bm ≠ builtinsNs ∧ s.heap.get? bm = some ob ∧ ob.cls = .type "module" ∧ ob.dict = some builtinsNs ∧ ob.data = .plain)
    (ha : s.heap.get? a = some { cls := .type "list", data := .seq vs.toArray }) (hi : IntsAre vs ns) (hl : ns.length ≤ sizeLine) (hr : Room k callerA)
    (F : ∀ base : Heap, K.In base → base.Ns mainGlobals mg → TabB base mg c T → FnG P w K mg base k fa fd [x] sp)
    (bt : ∀ (s : Shared) (u : Value), BindsTo s fd ⟨[u], []⟩ [(x, u)])
    (hsp : ∀ H : Hp, H T = some (.tbl #[]) → SqL K H a (ns.map V.int) → sp [.ref a] H (fun v _ => v = .bl true) fun _ _ _ => False) :
    codeAny (model P w) callerA (.call (.ref fa) ⟨[.ref a], []⟩)
      (fun r s' => r = .ok (.ret (.bool true)) ∧ OldK s.heap s'.heap ∧ s'.os = s.os ∧ AllBare s'.gens) s := by
  have rv := vals_ints hi
  have lv := hi.length
  have aT : a ≠ T := fun z => by
    rw [z, hT] at ha
    cases ha
  have key : ∀ H : Hp, H T = some (.tbl #[]) → (∀ b u, H b = some u → b ≠ T → b = a ∧ K.lookup a = none ∧ u = .frz { cls := .type "list", data := .seq vs.toArray } (.lst (ns.map V.int))) →
      SqL K H a (ns.map V.int) → codeAny (model P w) callerA (.call (.ref fa) ⟨[.ref a], []⟩)
        (fun r s' => r = .ok (.ret (.bool true)) ∧ OldK s.heap s'.heap ∧ s'.os = s.os ∧ AllBare s'.gens) s := by
    intro H eT only sq
    have ok : HOk P w H s.heap := by
      intro b u e
      by_cases zb : b = T
      · subst zb
        rw [eT] at e
        cases e
        exact hT
      · obtain ⟨rfl, _, rfl⟩ := only b u e zb
        exact ⟨ha, by rw [List.length_map]; exact hl, vs, _, rv, ha⟩
    have plain : ∀ {b : Addr} {o : Obj}, s.heap.get? b = some o → (∀ vs n, o.data ≠ .seq vs n) → o.data ≠ .fields #[] → H b = none := by
      intro b o e d1 d2
      cases q : H b with
      | none => rfl
      | some u =>
        by_cases zb : b = T
        · subst zb
          rw [hT] at e
          cases e
          exact absurd rfl d2
        · obtain ⟨rfl, _, _⟩ := only b u q zb
          rw [ha] at e
          cases e
          exact absurd rfl (d1 _ _)
    have names : ∀ {b : Addr} {m : Str → Option Value}, s.heap.Ns b m → (hidT s.heap H).Ns b m := by
      rintro b m ⟨o, es, n, e, d, r⟩
      exact ⟨o, es, n, hidT_get e (plain e (fun _ _ z => by rw [d] at z; cases z) fun z => by rw [d] at z; cases z), d, r⟩
    have inB : K.In (hidT s.heap H) := by
      intro b o e
      refine hidT_get (inK b o e) ?_
      cases q : H b with
      | none => rfl
      | some u =>
        by_cases zb : b = T
        · rw [zb, nT] at e
          cases e
        · obtain ⟨rfl, n, _⟩ := only b u q zb
          rw [n] at e
          cases e
    have tb : TabB (hidT s.heap H) mg c T := by
      obtain ⟨bm, ob, b1, b2, b3, b4, b5, b6⟩ := hbm
      refine ⟨?_, ⟨bm, ob, b1, b2, fun q => ?_, fun q => ?_, hidT_get b3 (plain b3 (fun _ _ z => by rw [b6] at z; cases z) fun z => by rw [b6] at z; cases z), b4, b5, b6⟩, fun z => ?_⟩
      · obtain ⟨o, us, file, tf, flags, tg, inF, text, tt, e1, r1, r2, r3, rest⟩ := hc
        refine ⟨o, us, file, tf, flags, tg, inF, text, tt, hidT_get e1 (plain e1 (fun _ _ z => by rw [r2] at z; cases z) fun z => ?_), r1, r2, r3, rest⟩
        rw [r2] at z
        cases z
        simp at r3
      · obtain ⟨o, es, n, e, d, _⟩ := ns1
        rw [q, e] at b3
        cases b3
        rw [d] at b6
        cases b6
      · rw [q, hT] at b3
        cases b3
        cases b6
      · obtain ⟨o, es, n, e, d, _⟩ := ns1
        rw [z, hT] at e
        cases e
        cases d
    obtain ⟨mc, l1, l2⟩ := noLim
    have md : Mod K mg (hidT s.heap H) := ⟨inB, names ns1, ⟨mb, names ns2, blt⟩, ⟨mc, names l1, l2⟩⟩
    have env : Env0 P w K mg (hidT s.heap H) callerA [] s H :=
      ⟨rfl, md, fun b o e => of_hidT e, Nat.le_of_eq (hidT_size _ _), trivial, (fun b hb => by cases hb), ok, .of_eq hg⟩
    have go := (F _ inB (names ns1) tb).goes callerA [] s H ⟨[.ref a], []⟩ [.ref a] [.ref a] _ _ hr rfl env (bt s (.ref a)) (.cons rfl .nil) (hsp H eT sq)
    refine codeAny_mono go fun r s2 h2 => ?_
    cases r with
    | error e => exact False.elim h2
    | ok fl =>
      cases fl with
      | next => exact False.elim h2
      | brk => exact False.elim h2
      | cont => exact False.elim h2
      | ret u =>
        obtain ⟨v, H2, os, bare, un, ok2, rr, q⟩ := h2
        obtain rfl : v = V.bl true := q
        obtain rfl : u = Value.bool true := rr
        have others : ∀ b o, b ≠ T → s.heap.get? b = some o → s2.heap.get? b = some o := by
          intro b o nb e
          cases q : H b with
          | none => exact un.keep b o e q (by intro z; cases z) (by simp)
          | some u =>
            obtain ⟨rfl, _, rfl⟩ := only b u q nb
            obtain ⟨e1, _⟩ := ok b _ q
            obtain ⟨e2, _⟩ := ok2 b _ (un.frzs b _ _ q)
            rw [e] at e1
            cases e1
            exact e2
        obtain ⟨more, eM⟩ := un.tbls T #[] eT
        have grown : s2.heap.get? T = some { cls := .none, data := .fields (#[] ++ more) } := ok2 T _ eM
        refine ⟨rfl, ⟨fun b o e => ?_, fun b o e => ?_⟩, os, bare⟩
        · by_cases nb : b = T
          · subst nb
            rw [hT] at e
            cases e
            exact .inr (.inl ⟨(hc.tab hT).isCodeTable, rfl, #[], more, rfl, grown⟩)
          · exact .inl (others b o nb e)
        · by_cases nb : b = T
          · subst nb
            exact ⟨_, grown⟩
          · exact ⟨o, others b o nb e⟩
  cases hk : K.lookup a with
  | none =>
    refine key (fun b => if b = T then some (.tbl #[]) else if b = a then some (.frz { cls := .type "list", data := .seq vs.toArray } (.lst (ns.map V.int))) else none) (if_pos rfl) (fun b u e nb => ?_)
      (.inl (.inr ⟨_, (if_neg aT).trans (if_pos rfl)⟩))
    rw [if_neg nb] at e
    by_cases z : b = a
    · rw [if_pos z] at e
      cases e
      exact ⟨z, hk, rfl⟩
    · rw [if_neg z] at e
      cases e
  | some o =>
    have e := inK a o hk
    rw [ha] at e
    cases e
    refine key (fun b => if b = T then some (.tbl #[]) else none) (if_pos rfl) (fun b u e nb => by rw [if_neg nb] at e; cases e) (.inr ⟨_, vs.toArray, _, hk, rfl, rfl, rfl, ?_, by simpa using rv⟩)
    rw [List.size_toArray, lv]
    exact hl
end
/-- the law's call, the table of another def's code object told -/
theorem walk_ofGT {l : PySem.W.OpenLaw} {n k : Nat} {q : Program} {loose : List Str} {XP : (Str → Option Value) → Heap → Prop} {YP : World → Heap → Prop}
    {d : DefRec} {x xr : Str} (hn : l.most = some n) (hn2 : n ≤ sizeLine) (hdf : d.params.defaults = []) (hr : Room k callerA) (hrec : ((recsOf q).any fun e => e.name == xr) = true)
    (F : ∀ (w : World) (mg : Str → Option Value) (fa : Addr) (h : Heap), YP w h → h.Ns mainGlobals mg → mg d.name = some (.ref fa) →
      ∃ (K : PySem.W.Frag) (fd fdr : FuncData) (sp : Sp) (fr c T : Addr) (o : Obj), K.In h ∧ (∀ (s : Shared) (u : Value), BindsTo s fd ⟨[u], []⟩ [(x, u)]) ∧
        mg xr = some (.ref fr) ∧ K.lookup fr = some o ∧ o.data = .func fdr ∧ fdr.code = .ref c ∧ PySem.W.codeHdIn K c T = true ∧ K.lookup T = none ∧
        (∀ (H : Hp) (a : Addr) (ns : List Int), ns.length ≤ n → H T = some (.tbl #[]) → SqL K H a (ns.map V.int) → sp [.ref a] H (fun v _ => v = .bl true) fun _ _ _ => False) ∧
        ∀ base : Heap, K.In base → base.Ns mainGlobals mg → TabB base mg c T → FnG l.prog w K mg base k fa fd [x] sp) :
    PySem.W.WalkO q loose XP YP l.row.toRowW d [] (fun f vs => PySem.call f vs) := by
  refine Att.attach_callB hn hdf fun w s0 s1 mg mb fa o pm cd doc a vs ns G Y h1 h2 h3 h4 h5 h6 h7 hbits h8 => ?_
  obtain ⟨K, fd, fdr, sp, fr, c, T, o1, inK, bt, k0, k1, k2, k3, kc, kT, hsp, hF⟩ := F w mg fa _ Y G.T.g h4
  have hc := PySem.W.codeHd_of_K inK kc
  have hT : s1.heap.get? T = some { cls := .none, data := .fields #[] } := by
    obtain ⟨dL, hm, e1⟩ := List.any_eq_true.mp hrec
    obtain ⟨a2, o2, fd2, c2, P2, g1, g2, g3, g4, g5, g6⟩ := G.T.tab dL hm
    rw [beq_iff_eq.mp e1, k0] at g1
    cases g1
    rw [inK _ _ k1] at g2
    cases g2
    rw [k2] at g3
    cases g3
    rw [k3] at g4
    cases g4
    obtain ⟨⟨oc, vc, e1, _, e3, e4⟩, hP⟩ := g6
    obtain ⟨oc', vs', file, tf, flags, tg, inF, text, tt, f1, f2, f3, f4, _⟩ := id hc
    rw [f1] at e1
    cases e1
    rw [f3] at e3
    cases e3
    rw [f4] at e4
    cases e4
    exact hP
  exact law_callT inK G.T.g G.T.b G.T.builtins G.T.nolimit h8 hT kT hc G.T.bmain h5 h6 (Nat.le_trans h7 hn2) hr hF bt (fun H eT sq => hsp H a ns h7 eT sq)
end Ev
namespace Ev
open PySem L2 PySem.Spec PyProof.Rows
/-- the five fields of a fill rule made of any two parts and two numbers -/
def widV (c j : Int) : Int := if c > j then c else j
def fillV (tv kv : V) (c j : Int) : List (Str × V) := [("times", tv), ("plus", kv), ("cut_of", .int c), ("join_of", .int j), ("width", .int (widV c j))]
theorem lk_hit {k : Str} {v : V} {l : List (Str × V)} : List.lookup k ((k, v) :: l) = some v := by simp [List.lookup]
theorem lk_miss {k k' : Str} {v : V} {l : List (Str × V)} (h : ¬ k = k') : List.lookup k ((k', v) :: l) = List.lookup k l := by
  have : (k == k') = false := by simpa using h
  simp [List.lookup, this]
theorem put_new {k : Str} {v : V} : ∀ {l : List (Str × V)}, (∀ e ∈ l, ¬ e.1 = k) → putF k v l = l ++ [(k, v)]
  | [], _ => rfl
  | (k', v') :: l, h => by
    show (if k' = k then _ else _) = _
    rw [if_neg (h _ List.mem_cons_self)]
    show (k', v') :: putF k v l = _
    rw [put_new (fun e he => h e (List.mem_cons_of_mem _ he))]
    rfl
theorem pf1 {a : V} : putF "times" a [] = ([("times", a)] : List (Str × V)) := rfl
theorem pf2 {a b : V} : putF "plus" b ([("times", a)] : List (Str × V)) = ([("times", a), ("plus", b)] : List (Str × V)) := put_new (by intro e0 he; simp only [List.mem_cons, List.not_mem_nil, or_false] at he; subst he; dsimp only; decide +kernel)
theorem pf3 {a b c : V} : putF "cut_of" c ([("times", a), ("plus", b)] : List (Str × V)) = ([("times", a), ("plus", b), ("cut_of", c)] : List (Str × V)) := put_new (by intro e0 he; simp only [List.mem_cons, List.not_mem_nil, or_false] at he; rcases he with rfl | rfl <;> (dsimp only; decide +kernel))
theorem pf4 {a b c d : V} : putF "join_of" d ([("times", a), ("plus", b), ("cut_of", c)] : List (Str × V)) = ([("times", a), ("plus", b), ("cut_of", c), ("join_of", d)] : List (Str × V)) := put_new (by intro e0 he; simp only [List.mem_cons, List.not_mem_nil, or_false] at he; rcases he with rfl | rfl | rfl <;> (dsimp only; decide +kernel))
theorem pf5 {a b c d e : V} : putF "width" e ([("times", a), ("plus", b), ("cut_of", c), ("join_of", d)] : List (Str × V)) = ([("times", a), ("plus", b), ("cut_of", c), ("join_of", d), ("width", e)] : List (Str × V)) := put_new (by intro e0 he; simp only [List.mem_cons, List.not_mem_nil, or_false] at he; rcases he with rfl | rfl | rfl | rfl <;> (dsimp only; decide +kernel))
/-- the class of fill rules -/
structure FCls (K : PySem.W.Frag) (C : Addr) : Prop where
  cl : Cls K C
  n1 : NoAttr K C "times"
  n2 : NoAttr K C "plus"
  n3 : NoAttr K C "cut_of"
  n4 : NoAttr K C "join_of"
  n5 : NoAttr K C "width"
def parts4 : List V := [.str "times", .str "plus", .str "cut_of", .str "join_of"]
/-- the tables PARTS and BOUNDS -/
structure TabF (K : PySem.W.Frag) (w : World) (mg : Str → Option Value) (TP D D1 D2 D3 : Addr) : Prop where
  gP : mg "PARTS" = some (.ref TP)
  tP : ∀ H : Hp, SqT K H TP parts4
  gB : mg "BOUNDS" = some (.ref D)
  kd : ∃ es n, KDict K w D es n
  l1 : PySem.W.nsIn K D "plus" = some (some (.ref D1))
  l2 : PySem.W.nsIn K D "cut_of" = some (some (.ref D2))
  l3 : PySem.W.nsIn K D "join_of" = some (some (.ref D3))
  t1 : ∀ H : Hp, SqT K H D1 [.int (-12), .int 12]
  t2 : ∀ H : Hp, SqT K H D2 [.int 1, .int 5]
  t3 : ∀ H : Hp, SqT K H D3 [.int 2, .int 6]
def partS (j : Nat) : Str := if j = 1 then "times" else if j = 2 then "plus" else if j = 3 then "cut_of" else "join_of"
/-- whether a value can be a part -/
def canB (j : Nat) (v : V) (o : Option (List V)) : Bool := if j = 1 then pairB 12 o else if j = 2 then inB (-12) 12 v else if j = 3 then inB 1 5 v else inB 2 6 v
def CanQ (j : Nat) (H : Hp) (v : V) (o : Option (List V)) : Prop := if j = 1 then PairQ H v o else IntQ H v
theorem CanQ.keep {j : Nat} {H H' : Hp} {v : V} {o : Option (List V)} (h : CanQ j H v o) (k : Same H H') : CanQ j H' v o := by
  unfold CanQ at h ⊢
  split
  · rw [if_pos (by assumption)] at h; exact PairQ.keep h k
  · rw [if_neg (by assumption)] at h; exact IntQ.keep h k
def spCan : Sp := fun vs H Q _ => ∃ (j : Nat) (v : V) (o : Option (List V)), vs = [.str (partS j), v] ∧ 1 ≤ j ∧ j ≤ 4 ∧ CanQ j H v o ∧ ∀ H', Same H H' → Q (.bl (canB j v o)) H'
section
variable {P : Program} {w : World} {K : PySem.W.Frag} {mg : Str → Option Value} {base : Heap}
theorem scCanBe : FnScope ["part", "value", "low", "high"] ["part", "value"] (defScope sCanBe) := ⟨rfl, rfl, rfl, by decide +kernel, rfl, by decide +kernel, by decide +kernel⟩
theorem ok_canBe {f TP D Da Db Dc : Addr} {fd : FuncData} (F : Fun K "can_be" "can_be" sCanBe f fd) (B : TabF K w mg TP D Da Db Dc) {t : Tok} (gM : mg "MOST_TIMES" = some (.int 12 t)) (D1 : Df P w K mg base 3 "is_pair" ["value", "most"] spPairA) (D2 : Df P w K mg base 2 "is_within" ["value", "least", "most"] spWithinA) : FnOk P w K mg base CX0 4 f fd ["part", "value"] spCan := by
  obtain ⟨f1, fd1, G1, g1, k1, b1⟩ := D1.ex
  obtain ⟨f2, fd2, G2, g2, k2, b2⟩ := D2.ex
  obtain ⟨es, n, kd⟩ := B.kd
  refine F.ok scCanBe (fun vs H Q E h => ?_) (fun cdv A outer s H vs Q E hr h => ?_)
  · obtain ⟨j, v, o, rfl, _⟩ := h
    rfl
  · obtain ⟨j, v, o, rfl, j1, j4, hv, kk⟩ := h
    refine ⟨_, (pss_cons (ps_if (pt_cmpR op_eq (pv 0) pe_str (nomark _))
        (pss_one (ps_ret (pe_call G1 hr (by rfl) g1 k1 b1 .nil pass0 (pa_cons (pv 1) (pa_cons (pe_glob (v := .int 12) rfl gM ⟨_, rfl⟩) pa_nil))))) pss_nil)
      (pss_cons (ps_asg (pe_ix ix_kdict (pe_glob (v := .ref D) (by rfl) B.gB rfl) (pv 0) (fun _ _ => rfl)) (pg_tup (by rfl) (pgs_cons (pg_name (i := 2) scCanBe.nd rfl (.inl rfl)) (pgs_cons (pg_name (i := 3) scCanBe.nd rfl (.inl rfl)) pgs_nil))))
      (pss_one (ps_ret (pe_call G2 (hr.mono (by decide)) (by rfl) g2 k2 b2 .nil pass0 (pa_cons (pv 1) (pa_cons (pv 2) (pa_cons (pv 3) pa_nil)))))))), ?_⟩
    refine ⟨_, rfl, rfl, _, rfl, ?_⟩
    rcases (show j = 1 ∨ j = 2 ∨ j = 3 ∨ j = 4 by omega) with rfl | rfl | rfl | rfl
    · rw [show decide (V.str (partS 1) = V.str "times") = true from decide_eq_true rfl]
      exact iteT ⟨_, rfl, v, _, _, rfl, hv, fun H' s1 => kk H' s1⟩
    · rw [show decide (V.str (partS 2) = V.str "times") = false from decide_eq_false fun z => absurd (V.str.inj z) (by decide +kernel)]
      refine iteF ⟨_, rfl, D, "plus", .ref Da, rfl, rfl, ⟨es, n, .ref Da, kd.at_, kd.lit, B.l1, rfl⟩, Da, _, rfl, B.t1 _, rfl, _, _, rfl, _, _, rfl, rfl, ?_⟩
      refine ⟨_, rfl, _, rfl, _, rfl, v, _, _, rfl, hv, ?_⟩
      exact kk _ (Same.refl _)
    · rw [show decide (V.str (partS 3) = V.str "times") = false from decide_eq_false fun z => absurd (V.str.inj z) (by decide +kernel)]
      refine iteF ⟨_, rfl, D, "cut_of", .ref Db, rfl, rfl, ⟨es, n, .ref Db, kd.at_, kd.lit, B.l2, rfl⟩, Db, _, rfl, B.t2 _, rfl, _, _, rfl, _, _, rfl, rfl, ?_⟩
      refine ⟨_, rfl, _, rfl, _, rfl, v, _, _, rfl, hv, ?_⟩
      exact kk _ (Same.refl _)
    · rw [show decide (V.str (partS 4) = V.str "times") = false from decide_eq_false fun z => absurd (V.str.inj z) (by decide +kernel)]
      refine iteF ⟨_, rfl, D, "join_of", .ref Dc, rfl, rfl, ⟨es, n, .ref Dc, kd.at_, kd.lit, B.l3, rfl⟩, Dc, _, rfl, B.t3 _, rfl, _, _, rfl, _, _, rfl, rfl, ?_⟩
      refine ⟨_, rfl, _, rfl, _, rfl, v, _, _, rfl, hv, ?_⟩
      exact kk _ (Same.refl _)
end
end Ev
namespace Ev
open PySem L2 PySem.Spec PyProof.Rows RZ
/-- which part of a fill rule is told first -/
def outF (o : Option (List V)) (kv cv jv : V) : Out := if pairB 12 o = false then .rule "times" else if inB (-12) 12 kv = false then .rule "plus" else if inB 1 5 cv = false then .rule "cut_of" else if inB 2 6 jv = false then .rule "join_of" else .ok
def valF (tv kv cv jv : V) (j : Nat) : V := if j = 1 then tv else if j = 2 then kv else if j = 3 then cv else jv
theorem outF_at {o : Option (List V)} {tv kv cv jv : V} {j : Nat} (j1 : 1 ≤ j) (j4 : j ≤ 4) (h : ∀ i, 1 ≤ i → i < j → canB i (valF tv kv cv jv i) o = true) (n : canB j (valF tv kv cv jv j) o = false) : outF o kv cv jv = .rule (partS j) := by
  unfold outF
  rcases (show j = 1 ∨ j = 2 ∨ j = 3 ∨ j = 4 by omega) with rfl | rfl | rfl | rfl
  · have n : pairB 12 o = false := n
    rw [if_pos n]; rfl
  · have h1 : pairB 12 o = true := h 1 (by decide) (by decide)
    have n : inB (-12) 12 kv = false := n
    rw [if_neg (by rw [h1]; simp), if_pos n]; rfl
  · have h1 : pairB 12 o = true := h 1 (by decide) (by decide)
    have h2 : inB (-12) 12 kv = true := h 2 (by decide) (by decide)
    have n : inB 1 5 cv = false := n
    rw [if_neg (by rw [h1]; simp), if_neg (by rw [h2]; simp), if_pos n]; rfl
  · have h1 : pairB 12 o = true := h 1 (by decide) (by decide)
    have h2 : inB (-12) 12 kv = true := h 2 (by decide) (by decide)
    have h3 : inB 1 5 cv = true := h 3 (by decide) (by decide)
    have n : inB 2 6 jv = false := n
    rw [if_neg (by rw [h1]; simp), if_neg (by rw [h2]; simp), if_neg (by rw [h3]; simp), if_pos n]; rfl
theorem outF_ok {o : Option (List V)} {tv kv cv jv : V} (h : ∀ i, 1 ≤ i → i ≤ 4 → canB i (valF tv kv cv jv i) o = true) : outF o kv cv jv = .ok ∧ (∃ c, cv = .int c) ∧ ∃ j, jv = .int j := by
  have h1 : pairB 12 o = true := h 1 (by decide) (by decide)
  have h2 : inB (-12) 12 kv = true := h 2 (by decide) (by decide)
  have h3 : inB 1 5 cv = true := h 3 (by decide) (by decide)
  have h4 : inB 2 6 jv = true := h 4 (by decide) (by decide)
  refine ⟨?_, ?_, ?_⟩
  · unfold outF
    rw [if_neg (by rw [h1]; simp), if_neg (by rw [h2]; simp), if_neg (by rw [h3]; simp), if_neg (by rw [h4]; simp)]
  · cases cv <;> first | exact ⟨_, rfl⟩ | (simp [inB] at h3)
  · cases jv <;> first | exact ⟨_, rfl⟩ | (simp [inB] at h4)
def spFillInit (C B N : Addr) : Sp := fun vs H Q E => ∃ (x dx : Addr) (tv kv cv jv : V) (o : Option (List V)), vs = [.ref x, tv, kv, cv, jv] ∧ H x = some (.ins C dx []) ∧ PairQ H tv o ∧ IntQ H kv ∧ IntQ H cv ∧ IntQ H jv ∧
  OutK B N H E (∀ c j, cv = .int c → jv = .int j → ∀ H', But x H H' → H' x = some (.ins C dx (fillV tv kv c j)) → Q .non H') (outF o kv cv jv)
section
variable {P : Program} {w : World} {K : PySem.W.Frag} {mg : Str → Option Value} {base : Heap}
theorem scFillRule_init : FnScope ["self", "times", "plus", "cut_of", "join_of", "part", "value"] ["self", "times", "plus", "cut_of", "join_of"] (defScope sFillRule_init) := ⟨rfl, rfl, rfl, by decide +kernel, rfl, by decide +kernel, by decide +kernel⟩
theorem ok_fillInit {f C B N TP D Da Db Dc : Addr} {fd : FuncData} {dvs : List V} {kws : List (Str × V)} (F : FunD K "__init__" "FillRule.__init__" (defArgs sFillRule_init) (defBody sFillRule_init) (defScope sFillRule_init) dvs kws f fd) (T : FCls K C) (mz : mg "zip" = none) (BT : TabF K w mg TP D Da Db Dc) (D1 : Df P w K mg base 4 "can_be" ["part", "value"] spCan) (EB : ErrC P w K mg base "BadRule" "part" B) : FnOk P w K mg base (L2.CX P w) 5 f fd ["self", "times", "plus", "cut_of", "join_of"] (spFillInit C B N) := by
  obtain ⟨f1, fd1, G1, g1, k1, b1⟩ := D1.ex
  obtain ⟨TC, gC, fi, fdi, iC, tI, GI, bI⟩ := id EB
  refine F.ok scFillRule_init (fun vs H Q E h => ?_) (fun cdv A outer s H vs Q E hr h => ?_)
  · obtain ⟨x, dx, tv, kv, cv, jv, o, rfl, _⟩ := h
    rfl
  · obtain ⟨x, dx, tv, kv, cv, jv, o, rfl, hx, hp, hk, hc, hj, h⟩ := h
    refine ⟨_, (pss_cons (ps_for (passes_of rfl) rfl (pi_zipA (by rfl) mz (pa_cons (pe_glob (v := .ref TP) rfl BT.gP rfl) (pa_cons (pe_tup (pa_cons (pv 1) (pa_cons (pv 2) (pa_cons (pv 3) (pa_cons (pv 4) pa_nil))))) pa_nil))) (pg_tup (by rfl) (pgs_cons (pg_name (i := 5) scFillRule_init.nd rfl (.inl rfl)) (pgs_cons (pg_name (i := 6) scFillRule_init.nd rfl (.inl rfl)) pgs_nil)))
        (pss_one (ps_if (pt_not (pt_val (pe_call G1 hr (by rfl) g1 k1 b1 .nil pass0 (pa_cons (pv 5) (pa_cons (pv 6) pa_nil)))))
          (pss_one (ps_raise rfl (takes_of rfl rfl rfl rfl) (pmk_oex TC iC tI GI (hr.mono (by decide)) bI .nil pass0 (by rfl) gC (pa_cons (pv 5) pa_nil)))) pss_nil)))
      (pss_cons (ps_fld (pv 0) (pv 1) rfl)
      (pss_cons (ps_fld (pv 0) (pv 2) rfl)
      (pss_cons (ps_fld (pv 0) (pv 3) rfl)
      (pss_cons (ps_fld (pv 0) (pv 4) rfl)
      (pss_one (ps_fld (pv 0) (pe_ifExp (pt_cmpR op_gt (pv 3) (pv 4) (nomark _)) (pv 3) (pv 4)) rfl))))))), ?_⟩
    refine ⟨_, rfl, _, rfl, _, rfl, _, rfl, (by show 4 ≤ sizeLine; decide), fun t nt => ⟨TP, t, parts4, [tv, kv, cv, jv], rfl, .inr ⟨BT.tP _, SqT.of upd_same, ?_⟩⟩⟩
    have s1 : Same H (upd H t (.tup [tv, kv, cv, jv])) := same_new nt
    have ht : upd H t (.tup [tv, kv, cv, jv]) t = some (.tup [tv, kv, cv, jv]) := upd_same
    generalize upd H t (.tup [tv, kv, cv, jv]) = H1 at s1 ht ⊢
    refine for_zipT (xs := parts4) (ys := [tv, kv, cv, jv]) rfl (fun m σ H' => (∃ v5 v6 : Option V, σ = [some (.ref x), some tv, some kv, some cv, some jv, v5, v6]) ∧ Same H1 H' ∧ ∀ i, 1 ≤ i → i ≤ m → canB i (valF tv kv cv jv i) o = true) ⟨⟨_, _, rfl⟩, Same.refl _, fun i a b => absurd (Nat.le_trans a b) (by decide)⟩ (fun i σ H' h => ⟨BT.tP _, SqT.of (h.2.1 _ _ ht)⟩) (fun i xv yv Tp σ H' ex ey h nT => ?_) (fun σ H' h => ?_)
    · obtain ⟨⟨v5, v6, rfl⟩, s2, ok⟩ := h
      have s3 : Same H1 (upd H' Tp (.tup [xv, yv])) := s2.trans (same_new nT)
      have hT : upd H' Tp (.tup [xv, yv]) Tp = some (.tup [xv, yv]) := upd_same
      generalize upd H' Tp (.tup [xv, yv]) = H2 at s3 hT ⊢
      have s03 : Same H H2 := s1.trans s3
      have hil : i < 4 := (List.getElem?_eq_some_iff.mp ex).1
      have hq : xv = .str (partS (i + 1)) ∧ yv = valF tv kv cv jv (i + 1) ∧ CanQ (i + 1) H2 yv o := by
        rcases (show i = 0 ∨ i = 1 ∨ i = 2 ∨ i = 3 by omega) with rfl | rfl | rfl | rfl
        · obtain rfl := Option.some.inj ex; obtain rfl := Option.some.inj ey
          exact ⟨rfl, rfl, hp.keep s03⟩
        · obtain rfl := Option.some.inj ex; obtain rfl := Option.some.inj ey
          exact ⟨rfl, rfl, hk.keep s03⟩
        · obtain rfl := Option.some.inj ex; obtain rfl := Option.some.inj ey
          exact ⟨rfl, rfl, hc.keep s03⟩
        · obtain rfl := Option.some.inj ex; obtain rfl := Option.some.inj ey
          exact ⟨rfl, rfl, hj.keep s03⟩
      obtain ⟨rfl, rfl, hq⟩ := hq
      refine ⟨Tp, _, rfl, SqT.of hT, rfl, _, _, rfl, _, _, rfl, rfl, ?_⟩
      refine ⟨_, rfl, _, rfl, i + 1, _, o, rfl, by omega, by omega, hq, fun H3 s4 => ⟨_, rfl, ?_⟩⟩
      cases z : canB (i + 1) (valF tv kv cv jv (i + 1)) o with
      | false =>
        rw [outF_at (by omega) (by omega) (fun m a b => ok m a (by omega)) z] at h
        exact iteT ⟨_, rfl, (by show 1 ≤ 1000; decide), fun a' na => raised (flat_str _) (h H3 (s03.trans s4)) a' na⟩
      | true =>
        refine iteF ⟨⟨_, _, rfl⟩, s3.trans s4, fun m a b => ?_⟩
        by_cases e : m = i + 1
        · rw [e]; exact z
        · exact ok m a (by omega)
    · obtain ⟨⟨v5, v6, rfl⟩, s2, ok⟩ := h
      obtain ⟨ho, ⟨c, rfl⟩, j, rfl⟩ := outF_ok ok
      rw [ho] at h
      have kk := fun H' => h c j rfl rfl H'
      have s3 := s1.trans s2
      refine ⟨_, rfl, _, rfl, x, C, dx, _, rfl, s3 _ _ hx, T.cl, T.n1, (by show 0 < 1000; decide), ?_⟩
      refine ⟨_, rfl, _, rfl, x, C, dx, _, rfl, upd_same, T.cl, T.n2, (by rw [pf1]; show 1 < 1000; decide), ?_⟩
      refine ⟨_, rfl, _, rfl, x, C, dx, _, rfl, upd_same, T.cl, T.n3, (by rw [pf1, pf2]; show 2 < 1000; decide), ?_⟩
      refine ⟨_, rfl, _, rfl, x, C, dx, _, rfl, upd_same, T.cl, T.n4, (by rw [pf1, pf2, pf3]; show 3 < 1000; decide), ?_⟩
      rw [pf1, pf2, pf3, pf4]
      have t4 : ∀ o1 o2 o3 o4 : HO, But x H (upd (upd (upd (upd H' x o1) x o2) x o3) x o4) := fun o1 o2 o3 o4 => (Same.but s3).trans (But.upd_at.trans (But.upd_at.trans (But.upd_at.trans But.upd_at)))
      refine ⟨_, rfl, _, rfl, _, _, rfl, rfl, _, rfl, ite2 (fun e => ?_) (fun e => ?_)⟩
      · have e := of_decide_eq_true e
        refine ⟨_, rfl, _, rfl, x, C, dx, _, rfl, upd_same, T.cl, T.n5, (by show 4 < 1000; decide), kk _ ((t4 _ _ _ _).trans But.upd_at) ?_⟩
        rw [upd_same, pf5]
        unfold fillV widV
        rw [if_pos e]
      · have e : ¬ (c > j) := fun z => e (decide_eq_true z)
        refine ⟨_, rfl, _, rfl, x, C, dx, _, rfl, upd_same, T.cl, T.n5, (by show 4 < 1000; decide), kk _ ((t4 _ _ _ _).trans But.upd_at) ?_⟩
        rw [upd_same, pf5]
        unfold fillV widV
        rw [if_neg e]
end
end Ev
namespace Ev
open PySem L2 PySem.Spec PyProof.Rows RZ
/-! ### list(d.values()) -/
def tListVals (te : TE) : TE := fun σ H Q => te σ H fun x H1 => ∃ (d : Addr) (kvs : List (Key × V)), x = .ref d ∧ H1 d = some (.dK kvs) ∧ ∀ p, H1 p = none → Q (.ref p) (upd H1 p (.lst (kvs.map (·.2))))
section
variable {X : Cx} {e : Expr} {te : TE} {p apos cpos pos : Pos}
theorem pe_listVals (hc : X.calm = true) (he : PE X e te) (hg : Gl X "list") (hm : X.mg "list" = none) (hv : bootBuiltins "list" = some (.type "list")) (hbase : attributeBase e "values" X.env (eval e X.env) = eval e X.env := by rfl) (hline : (apos.endLine == cpos.line) = true := by rfl)
    (hs : starEach [.Call (.Attribute e "values" apos) [] [] cpos] X.env = (false, eval (.Call (.Attribute e "values" apos) [] [] cpos) X.env) :: starEach [] X.env := by rfl) :
    PE X (.Call (.Name "list" p) [.Call (.Attribute e "values" apos) [] [] cpos] [] pos) (tListVals te) := by
  constructor
  intro pins s σ H Q I hq
  refine wpAny_Call_Name_kw (ld_blt I hg hm hv ?_)
  refine PyProof.Rows.callWith_type1 ?_ hs rfl
  rw [hs]
  show wpAny _ _ (spliced ((false, eval (.Call (.Attribute e "values" apos) [] [] cpos) X.env) :: backTo pos (starEach [] X.env))) _ _ s
  refine Calls.spliced_cons ?_
  refine wpAny_Call_method (T := "dict") (id := "dict.values") hbase rfl hline F.plainAttrs_dict F.slot_dict_values F.type_dict_values (thn (he.run pins s σ H _ I hq) fun u s1 hh => ?_)
  obtain ⟨x, H1, I1, rx, d, kvs, rfl, hd, q⟩ := hh
  obtain rfl : u = Value.ref d := rx
  obtain ⟨hz, hs0, vs, kv, hdo⟩ := I1.hok d _ hd
  obtain ⟨ep, hat⟩ := hdo.dictAt
  have lk : kvs.length = vs.length := Paired.length kv
  refine ⟨hdo.typeIs, hdo.mapOf.noDict, ?_⟩
  show wpAny _ _ (callWith cpos (.builtin "dict.values") [.ref d] [] []) _ X.xe s1
  refine method_meetsIn F.slot_dict_values F.entry_dict_values rfl (PySem.evalArgs_none ⟨rfl, hdo.typeIs, F.args_dict_values_1 _, _, meets_dict_values (mixKind X.prog X.w) d hs0, ⟨vs, hdo⟩, ?_⟩)
  refine Calls.spliced_nil ?_
  have I2 : Inv X pins σ H1 { s1 with heap := s1.heap.push { cls := .type "dict_values", data := .fields #[.ref d] } } := I1.kept (t' := s1.toks) fun b ob q => Heap.get?_push_of_some _ q
  refine PySem.W.kdl_call (PySem.W.kdl_values (knd := mixKind X.prog X.w) (kvs := vs) (ep := ep)) (I1.ok.hd hc) ⟨⟨_, Heap.get?_push_size _ rfl, rfl, rfl⟩, hat.push _⟩ (by omega) fun h' tk acc c' hk hD hacc => ?_
  have e2 : acc.toList = vs.map (·.2) := PySem.W.kdl_vals_eq acc.toList (by rw [Array.length_toList]; exact hacc.1) fun j v e => hacc.2 j v (by rw [← Array.getElem?_toList]; exact e)
  refine ⟨.ref _, upd H1 _ (.lst (kvs.map (·.2))), I2.laid (t' := tk) hk (Nat.le_refl _) (show ObjOk X.prog X.w _ _ _ (.lst (kvs.map (·.2))) from ⟨by rw [List.length_map]; exact hz, acc.toList, c', by rw [e2]; exact vals_snd kv, by rw [Array.toArray_toList]; exact hD⟩), rfl, q _ (I2.hok.fresh (Nat.le_refl _))⟩
end
/-! ### what stands in a value -/
def AllFlat (us : List V) : Prop := ∀ u ∈ us, ∃ T, Flat u T
inductive Hold (H : Hp) : V → List V → Bool → Prop
  | flat {v : V} {T : String} : Flat v T → Hold H v [] false
  | tup {a : Addr} {us : List V} : H a = some (.tup us) → AllFlat us → us.length ≤ 900 → Hold H (.ref a) us false
  | lst {a : Addr} {us : List V} : H a = some (.lst us) → AllFlat us → us.length ≤ 900 → Hold H (.ref a) us true
  | dct {a : Addr} {kvs : List (Key × V)} : H a = some (.dK kvs) → AllFlat (kvs.map (·.2)) → kvs.length ≤ 900 → (kvs.map (·.1)).Nodup → Hold H (.ref a) (kvs.map (·.2)) true
/-- the copy of a value -/
inductive Alike (H : Hp) : V → Hp → V → Prop
  | same {v : V} {H' : Hp} : Alike H v H' v
  | lst {a b : Addr} {us : List V} {H' : Hp} : H a = some (.lst us) → H' b = some (.lst us) → Alike H (.ref a) H' (.ref b)
  | dct {a b : Addr} {kvs : List (Key × V)} {H' : Hp} : H a = some (.dK kvs) → H' b = some (.dK kvs) → Alike H (.ref a) H' (.ref b)
theorem Hold.keep {H H' : Hp} {v : V} {us : List V} {b : Bool} (h : Hold H v us b) (k : Same H H') : Hold H' v us b := by
  cases h with
  | flat f => exact .flat f
  | tup e a l => exact .tup (k _ _ e) a l
  | lst e a l => exact .lst (k _ _ e) a l
  | dct e a l n => exact .dct (k _ _ e) a l n
theorem Hold.len {H : Hp} {v : V} {us : List V} {b : Bool} (h : Hold H v us b) : us.length ≤ 900 := by
  cases h with
  | flat f => exact Nat.zero_le _
  | tup e a l => exact l
  | lst e a l => exact l
  | dct e a l n => rw [List.length_map]; exact l
theorem Hold.items {H : Hp} {v : V} {us : List V} {b : Bool} (h : Hold H v us b) : AllFlat us := by
  cases h with
  | flat f => exact fun u z => by cases z
  | tup e a l => exact a
  | lst e a l => exact a
  | dct e a l n => exact a
theorem Hold.ty {H : Hp} {v : V} {us : List V} {b : Bool} (h : Hold H v us b) : ∃ T : String, (∀ (K : PySem.W.Frag) (H' : Hp), Same H H' → TyX K H' v (.type T)) ∧ ∃ b1 b2 b3, kitB T "list" = some b1 ∧ kitB T "tuple" = some b2 ∧ kitB T "dict" = some b3 ∧ b = (b1 || b3) := by
  cases h with
  | @flat v T f => exact ⟨T, fun K H' _ => f.ty K H', false, false, false, f.l, f.t, f.d, rfl⟩
  | tup e a l => exact ⟨"tuple", fun K H' k => .base (.tup (k _ _ e)), false, true, false, by decide +kernel, by decide +kernel, by decide +kernel, rfl⟩
  | lst e a l => exact ⟨"list", fun K H' k => .base (.lst (k _ _ e)), true, false, false, by decide +kernel, by decide +kernel, by decide +kernel, rfl⟩
  | dct e a l n => exact ⟨"dict", fun K H' k => .base (.dK (k _ _ e)), false, false, true, by decide +kernel, by decide +kernel, by decide +kernel, rfl⟩
theorem kit_any2 {K : PySem.W.Frag} {T a b : String} {r1 r2 : Bool} (h1 : kitB T a = some r1) (h2 : kitB T b = some r2) : PySem.W.kitAny K (.type T) [.type a, .type b] = some (r1 || r2) := by
  refine kitAny_cons (kit_ty h1) (fun e => ?_) (fun e => by rw [e]; rfl)
  refine kitAny_cons (kit_ty h2) (fun e2 => ?_) (fun e2 => by rw [e, e2]; rfl)
  rw [e, e2]
  exact kitAny_nil
def spPartsV : Sp := fun vs H Q _ => ∃ (v : V) (us : List V) (b : Bool), vs = [v] ∧ Hold H v us b ∧ ∀ (p : Addr) (H' : Hp), H p = none → Same H H' → H' p = some (.lst us) → Q (.ref p) H'
def spRebuilt : Sp := fun vs H Q _ => ∃ (v : V) (us : List V) (p : Addr), vs = [v, .ref p] ∧ Hold H v us true ∧ H p = some (.lst us) ∧ ∀ (v' : V) (H' : Hp), Same H H' → Alike H v H' v' → Q v' H'
def spKeptV : Sp := fun vs H Q _ => ∃ (v : V) (us : List V) (b : Bool), vs = [v] ∧ Hold H v us b ∧ ∀ (v' : V) (H' : Hp), Same H H' → Alike H v H' v' → Q v' H'
section
variable {P : Program} {w : World} {K : PySem.W.Frag} {mg : Str → Option Value} {base : Heap}
theorem ok_partsV {f : Addr} {fd : FuncData} (F : Fun K "parts_of" "parts_of" sParts f fd) (T : Blt mg) (md : mg "dict" = none) : FnOk P w K mg base CX0 1 f fd ["value"] spPartsV := by
  refine F.ok scParts (fun vs H Q E h => ?_) (fun cdv A outer s H vs Q E hr h => ?_)
  · obtain ⟨v, us, b, rfl, _⟩ := h
    rfl
  · obtain ⟨v, us, b, rfl, hh, kk⟩ := h
    refine ⟨_, pss_cons (ps_if (pt_val (pe_callB call_isiT (by rfl) T.isi (by decide +kernel) (pa_cons (pv 0) (pa_cons (pe_tup (pa_cons (pe_bltn (v := .ty "list") (by rfl) T.list (by decide +kernel) rfl) (pa_cons (pe_bltn (v := .ty "tuple") (by rfl) T.tuple (by decide +kernel) rfl) pa_nil))) pa_nil))))
        (pss_one (ps_ret (pe_callTy call_list_of (by rfl) T.list (by decide +kernel) (pa_cons (pv 0) pa_nil)))) pss_nil)
      (pss_one (ps_ret (pe_ifExp (pt_val (pe_callB call_isi (by rfl) T.isi (by decide +kernel) (pa_cons (pv 0) (pa_cons (pe_bltn (v := .ty "dict") (by rfl) md (by decide +kernel) rfl) pa_nil)))) (pe_listVals rfl (pv 0) (by rfl) T.list (by decide +kernel)) (pe_lst pa_nil)))), ?_⟩
    have fin : ∀ (tp p : Addr) (ntp : H tp = none) (np : upd H tp (.tup [.ty "list", .ty "tuple"]) p = none), Q (.ref p) (upd (upd H tp (.tup [.ty "list", .ty "tuple"])) p (.lst us)) := fun tp p ntp np =>
      kk p _ (Same.gone (same_new ntp) np) ((same_new ntp).trans (same_new np)) upd_same
    cases hh with
    | @flat v TT f =>
      refine ⟨_, rfl, (by show 2 ≤ sizeLine; decide), fun tp ntp => ⟨_, tp, _, _, _, false, rfl, upd_same, .cons (.ty _) (.cons (.ty _) .nil), f.ty _ _, kit_any2 f.l f.t, _, rfl, iteF ?_⟩⟩
      exact ⟨_, rfl, _, _, _, _, false, rfl, .ty _, f.ty _ _, kit_ty f.d, _, rfl, iteF ⟨(by show 0 ≤ sizeLine; decide), fun p np => fin tp p ntp np⟩⟩
    | tup e a l =>
      refine ⟨_, rfl, (by show 2 ≤ sizeLine; decide), fun tp ntp => ⟨_, tp, _, _, _, true, rfl, upd_same, .cons (.ty _) (.cons (.ty _) .nil), .base (.tup (same_new ntp _ _ e)), kit_any2 (r1 := false) (r2 := true) (by decide +kernel) (by decide +kernel), _, rfl, iteT ?_⟩⟩
      exact ⟨_, rfl, _, _, rfl, .inr (SqT.of (same_new ntp _ _ e)), fun p np => fin tp p ntp np⟩
    | lst e a l =>
      refine ⟨_, rfl, (by show 2 ≤ sizeLine; decide), fun tp ntp => ⟨_, tp, _, _, _, true, rfl, upd_same, .cons (.ty _) (.cons (.ty _) .nil), .base (.lst (same_new ntp _ _ e)), kit_any2 (r1 := true) (r2 := false) (by decide +kernel) (by decide +kernel), _, rfl, iteT ?_⟩⟩
      exact ⟨_, rfl, _, _, rfl, .inl (SqL.of (same_new ntp _ _ e)), fun p np => fin tp p ntp np⟩
    | dct e a l n =>
      refine ⟨_, rfl, (by show 2 ≤ sizeLine; decide), fun tp ntp => ⟨_, tp, _, _, _, false, rfl, upd_same, .cons (.ty _) (.cons (.ty _) .nil), .base (.dK (same_new ntp _ _ e)), kit_any2 (r1 := false) (r2 := false) (by decide +kernel) (by decide +kernel), _, rfl, iteF ?_⟩⟩
      exact ⟨_, rfl, _, _, _, _, true, rfl, .ty _, .base (.dK (same_new ntp _ _ e)), kit_ty (by decide +kernel), _, rfl, iteT ⟨_, rfl, _, _, rfl, same_new ntp _ _ e, fun p np => fin tp p ntp np⟩⟩
theorem putK_take {kvs : List (Key × V)} (n : (kvs.map (·.1)).Nodup) {i : Nat} {k : Key} {z : V} (e : kvs[i]? = some (k, z)) : putK (kvs.take i) k z = kvs.take (i + 1) := by
  have hi : i < kvs.length := (List.getElem?_eq_some_iff.mp e).1
  have ei : kvs[i] = (k, z) := (List.getElem?_eq_some_iff.mp e).2
  have new : ((kvs.take i).any fun kv => decide (kv.1 = k)) = false := by
    rw [List.any_eq_false]
    intro p hp hq
    obtain ⟨j, hj, ej⟩ := List.mem_take_iff_getElem.mp hp
    have hq : p.1 = k := of_decide_eq_true hq
    have h1 : (kvs.map (·.1))[j]'(by rw [List.length_map]; omega) = k := by rw [List.getElem_map, ej, hq]
    have h2 : (kvs.map (·.1))[i]'(by rw [List.length_map]; omega) = k := by rw [List.getElem_map, ei]
    have h3 := (List.getElem_inj n).mp (h1.trans h2.symm)
    omega
  unfold putK
  rw [new, if_neg (by decide), List.take_add_one, e]
  rfl
theorem scRebuilt : FnScope ["value", "parts", "key", "part"] ["value", "parts"] (defScope sRebuilt) := ⟨rfl, rfl, rfl, by decide +kernel, rfl, by decide +kernel, by decide +kernel⟩
theorem ok_rebuilt {f : Addr} {fd : FuncData} (F : Fun K "rebuilt" "rebuilt" sRebuilt f fd) (T : Blt mg) (md : mg "dict" = none) (mz : mg "zip" = none) : FnOk P w K mg base CX0 1 f fd ["value", "parts"] spRebuilt := by
  refine F.ok scRebuilt (fun vs H Q E h => ?_) (fun cdv A outer s H vs Q E hr h => ?_)
  · obtain ⟨v, us, p, rfl, _⟩ := h
    rfl
  · obtain ⟨v, us, p, rfl, hh, hp, kk⟩ := h
    refine ⟨_, pss_cons (ps_if (pt_val (pe_callB call_isi (by rfl) T.isi (by decide +kernel) (pa_cons (pv 0) (pa_cons (pe_bltn (v := .ty "dict") (by rfl) md (by decide +kernel) rfl) pa_nil))))
        (pss_one (ps_ret (pe_dc (g := gTup K 2 (gCons (gName 2) (gCons (gName 3) gNil))) (tt := tYes) (tk := tVar 2) (tv := tVar 3) (own := [("key", 2), ("part", 3)]) rfl scRebuilt.nd (pi_zip (by rfl) mz (pa_cons (pe_callTy (call_list_dK rfl) (by rfl) T.list (by decide +kernel) (pa_cons (pv 0) pa_nil)) (pa_cons (pv 1) pa_nil)))
          (blkOk_by (own := [("key", 2), ("part", 3)]) (N := ["value", "parts", "key", "part"]) (sc := defScope sRebuilt) (by decide +kernel))
          (fun _ _ _ _ _ => pg_tup (by rfl) (pgs_cons (pg_name (i := 2) scRebuilt.nd rfl (.inl rfl)) (pgs_cons (pg_name (i := 3) scRebuilt.nd rfl (.inl rfl)) pgs_nil))) (fun _ _ _ _ _ => pts_nil) (fun _ _ _ _ _ => pv 2) (fun _ _ _ _ _ => pv 3)))) pss_nil)
      (pss_one (ps_ret (pe_ifExp (pt_val (pe_callB call_isi (by rfl) T.isi (by decide +kernel) (pa_cons (pv 0) (pa_cons (pe_bltn (v := .ty "tuple") (by rfl) T.tuple (by decide +kernel) rfl) pa_nil)))) pe_never (pv 1)))), ?_⟩
    generalize eb : true = bb at hh
    cases hh with
    | flat f => cases eb
    | tup e a l => cases eb
    | lst e a l =>
      refine ⟨_, rfl, _, _, _, _, false, rfl, .ty _, .base (.lst e), kit_ty (by decide +kernel), _, rfl, iteF ?_⟩
      refine ⟨_, rfl, _, _, _, _, false, rfl, .ty _, .base (.lst e), kit_ty (by decide +kernel), _, rfl, iteF ⟨_, rfl, ?_⟩⟩
      exact kk _ H (Same.refl H) (.lst e hp)
    | @dct a kvs e al l n =>
      refine ⟨_, rfl, _, _, _, _, true, rfl, .ty _, .base (.dK e), kit_ty (by decide +kernel), _, rfl, iteT ?_⟩
      refine ⟨_, rfl, a, kvs, rfl, e, fun q nq => ⟨_, rfl, q, p, _, _, rfl, SqL.of upd_same, SqL.of (same_new nq _ _ hp), fun D nD => ?_⟩⟩
      have hq1 := same_new (o := .dK []) nD _ _ (upd_same (H := H) (a := q) (o := .lst (kvs.map fun kv => kV kv.1)))
      have hp1 := same_new (o := .dK []) nD _ _ (same_new (o := .lst (kvs.map fun kv => kV kv.1)) nq _ _ hp)
      have hD1 : upd (upd H q (.lst (kvs.map fun kv => kV kv.1))) D (.dK []) D = some (.dK []) := upd_same
      have nDp : D ≠ p := fun z => by rw [z, same_new nq _ _ hp] at nD; cases nD
      have nDq : D ≠ q := fun z => by rw [z, upd_same] at nD; cases nD
      have s1 : Same H (upd (upd H q (.lst (kvs.map fun kv => kV kv.1))) D (.dK [])) := (same_new nq).trans (same_new nD)
      have nDH : H D = none := Same.gone (same_new nq) nD
      generalize upd (upd H q (.lst (kvs.map fun kv => kV kv.1))) D (.dK []) = H1 at hq1 hp1 hD1 s1
      refine ⟨fun i m G => m = kvs.length - i ∧ i ≤ kvs.length ∧ But D H1 G ∧ G D = some (.dK (kvs.take i)), ⟨_, rfl, Nat.zero_le _, But.refl _ _, hD1⟩, ?_⟩
      rintro i m G ⟨rfl, hi, bt, gD⟩
      have gq := bt _ _ nDq.symm hq1
      have gp := bt _ _ nDp.symm hp1
      by_cases hlt : i < kvs.length
      · right
        have ek : (kvs.map fun kv => kV kv.1)[i]? = some (kV kvs[i].1) := by rw [List.getElem?_map, List.getElem?_eq_getElem hlt]; rfl
        have ev : (kvs.map (·.2))[i]? = some kvs[i].2 := by rw [List.getElem?_map, List.getElem?_eq_getElem hlt]; rfl
        refine ⟨⟨_, _, _, _, SqL.of gq, SqL.of gp, ek, ev⟩, fun G' => But D H1 G' ∧ G' D = some (.dK (kvs.take (i + 1))), fun G' ⟨b2, d2⟩ => ⟨_, by omega, rfl, hlt, b2, d2⟩, fun x G' y => ?_⟩
        obtain ⟨tp, x1, x2, rfl, nt, rfl, h1, h2⟩ := y
        have e1 := h1 _ (SqL.of gq)
        have e2 := h2 _ (SqL.of gp)
        rw [ek] at e1
        rw [ev] at e2
        obtain rfl := Option.some.inj e1
        obtain rfl := Option.some.inj e2
        have gD2 := same_new (o := .tup [kV kvs[i].1, kvs[i].2]) nt _ _ gD
        refine ⟨_, _, rfl, SqT.of upd_same, rfl, _, _, rfl, _, _, rfl, rfl, rfl, ?_⟩
        refine ⟨_, rfl, _, rfl, _, kvs[i].1, rfl, gD2, ?_, ?_, ?_⟩
        · rw [List.length_take]
          exact Nat.lt_of_le_of_lt (show _ ≤ 900 by omega) (by rw [sizeLine_eq]; decide)
        · exact bt.trans ((Same.but (same_new nt)).trans But.upd_at)
        · rw [upd_same, show putK (kvs.take i) kvs[i].1 kvs[i].2 = kvs.take (i + 1) from putK_take n (by rw [List.getElem?_eq_getElem hlt])]
      · left
        have ei : i = kvs.length := by omega
        refine ⟨⟨_, _, SqL.of gq, SqL.of gp, .inl (by rw [List.length_map]; omega)⟩, ?_⟩
        rw [ei, List.take_length] at gD
        exact kk _ G (fun b o z => bt _ _ (ne_of_none z nDH) (s1 _ _ z)) (.dct e gD)
end
end Ev
namespace Ev
open PySem L2 PySem.Spec PyProof.Rows RZ
theorem Alike.from {H H1 H' : Hp} {v v' : V} (k : Same H H1) (us : List V) (h : Hold H v us true) (a : Alike H1 v H' v') : Alike H v H' v' := by
  cases a with
  | same => exact .same
  | lst e1 e2 =>
    generalize eb : true = bb at h
    cases h with
    | flat f => cases eb
    | tup e a l => cases eb
    | lst e a l => rw [k _ _ e] at e1; cases e1; exact .lst e e2
    | dct e a l n => rw [k _ _ e] at e1; cases e1
  | dct e1 e2 =>
    generalize eb : true = bb at h
    cases h with
    | flat f => cases eb
    | tup e a l => cases eb
    | lst e a l => rw [k _ _ e] at e1; cases e1
    | dct e a l n => rw [k _ _ e] at e1; cases e1; exact .dct e e2
theorem flat_hold {H : Hp} {us : List V} (h : AllFlat us) {j : Nat} {u : V} (e : us[j]? = some u) : Hold H u [] false := by
  obtain ⟨T, f⟩ := h u (List.mem_of_getElem? e)
  exact .flat f
/-- the marks of the things -/
def marks (b : Bool) (n : Nat) : List Bool := b :: List.replicate n false
theorem marks_at {b : Bool} {n j : Nat} (h : j < n) : (marks b n)[j + 1]? = some false := by
  show (List.replicate n false)[j]? = some false
  rw [List.getElem?_replicate, if_pos h]
theorem ends_at {m n j : Nat} (h : j < m) : (List.replicate m (V.int (1 + (n : Int))))[j]? = some (V.int (1 + (n : Int))) := by
  rw [List.getElem?_replicate, if_pos h]
theorem cut_tail {x : V} {ys : List V} : cutV (x :: ys) (some 1) (some (1 + (ys.length : Int))) = ys := by
  unfold cutV
  have h1 : HT.sIx (x :: ys).length 0 (some 1) = 1 := by
    have := HT.sIx_nat (x :: ys).length 0 1
    rw [List.length_cons] at this ⊢
    rw [show ((1 : Nat) : Int) = 1 from rfl] at this
    rw [this]; omega
  have h2 : HT.sIx (x :: ys).length (x :: ys).length (some (1 + (ys.length : Int))) = ys.length + 1 := by
    have := HT.sIx_nat (x :: ys).length (x :: ys).length (ys.length + 1)
    rw [show ((ys.length + 1 : Nat) : Int) = 1 + (ys.length : Int) by omega] at this
    rw [this, List.length_cons]; omega
  rw [h1, h2, show (x :: ys).drop 1 = ys from rfl, show ys.length + 1 - 1 = ys.length by omega, List.take_length]
theorem cut_none {xs : List V} {h : Option Int} : cutV xs h h = [] ∨ h = none := by
  cases h with
  | none => exact .inr rfl
  | some k =>
    left
    unfold cutV
    have e : HT.sIx xs.length xs.length (some k) = HT.sIx xs.length 0 (some k) := rfl
    rw [e, Nat.sub_self, List.take_zero]
theorem cut_void {xs : List V} {k : Int} : cutV xs (some k) (some k) = [] := by
  rcases cut_none (xs := xs) (h := some k) with e | e
  · exact e
  · cases e
theorem ix_first {x : V} {ys : List V} : ixN (x :: ys).length 0 = some 0 := by
  unfold ixN
  rw [List.length_cons]
  simp
theorem any_none (n : Nat) : (List.replicate n false).any id = false := by
  rw [List.any_eq_false]
  intro x hx
  rw [List.eq_of_mem_replicate hx]
  decide
theorem Alike.put {H G : Hp} {v v' : V} {m : Addr} {xs : List V} {us : List V} (h : Alike H v G v') (hv : Hold H v us true) (hm : G m = some (.lst xs)) (nl : xs.length = us.length + 1) {o : HO} : Alike H v (upd G m o) v' := by
  cases h with
  | same => exact .same
  | lst e1 e2 =>
    refine .lst e1 ?_
    rw [upd_ne]
    · exact e2
    · intro z
      rw [z, hm] at e2
      cases e2
      generalize eb : true = bb at hv
      cases hv with
      | flat f => cases eb
      | tup e a l => cases eb
      | lst e a l => rw [e] at e1; cases e1; omega
      | dct e a l n => rw [e] at e1; cases e1
  | dct e1 e2 =>
    refine .dct e1 ?_
    rw [upd_ne]
    · exact e2
    · intro z
      rw [z, hm] at e2
      cases e2
abbrev sFlat : Stmt := sIsFlat
abbrev sCopied : Stmt := sCopiedDeep
theorem scCopied : FnScope ["value", "things", "ends", "at", "made", "loose", "place", "first", "end", "thing"] ["value"] (defScope sCopied) := ⟨rfl, rfl, rfl, by decide +kernel, rfl, by decide +kernel, by decide +kernel⟩
theorem scFlat : FnScope ["value", "part"] ["value"] (defScope sFlat) := ⟨rfl, rfl, rfl, by decide +kernel, rfl, by decide +kernel, by decide +kernel⟩
theorem kit_any3 {K : PySem.W.Frag} {T a b c : String} {r1 r2 r3 : Bool} (h1 : kitB T a = some r1) (h2 : kitB T b = some r2) (h3 : kitB T c = some r3) : PySem.W.kitAny K (.type T) [.type a, .type b, .type c] = some (r1 || (r2 || r3)) := by
  refine kitAny_cons (kit_ty h1) (fun e => ?_) (fun e => by rw [e]; rfl)
  rw [e]
  exact (kit_any2 h2 h3).trans rfl
def spFlat : Sp := fun vs H Q _ => ∃ (a : Addr) (us : List V), vs = [.ref a] ∧ H a = some (.tup us) ∧ AllFlat us ∧ us.length ≤ 900 ∧ ∀ H', Same H H' → Q (.bl true) H'
section
variable {P : Program} {w : World} {K : PySem.W.Frag} {mg : Str → Option Value} {base : Heap}
theorem ok_copied {f : Addr} {fd : FuncData} (F : Fun K "copied_deep" "copied_deep" sCopied f fd) (T : Blt mg) (md : mg "dict" = none) (ma : mg "any" = none) (D : Df P w K mg base 1 "parts_of" ["value"] spPartsV) (D2 : Df P w K mg base 1 "rebuilt" ["value", "parts"] spRebuilt) : FnOk P w K mg base CX0 2 f fd ["value"] spKeptV := by
  obtain ⟨f1, fd1, G1, g1, k1, b1⟩ := D.ex
  obtain ⟨f2, fd2, G2, g2, k2, b2⟩ := D2.ex
  refine F.ok scCopied (fun vs H Q E h => ?_) (fun cdv A outer s H vs Q E hr h => ?_)
  · obtain ⟨v, us, b, rfl, _⟩ := h
    rfl
  · obtain ⟨v, us, b, rfl, hh, kk⟩ := h
    refine ⟨_, pss_cons (ps_set (i := 1) scCopied.nd rfl (.inl rfl) (pe_lst (pa_cons (pv 0) pa_nil)))
      (pss_cons (ps_set (i := 2) scCopied.nd rfl (.inl rfl) (pe_lst pa_nil))
      (pss_cons (ps_set (i := 3) scCopied.nd rfl (.inl rfl) pe_int)
      (pss_cons (ps_while PassesOwn.never (pt_cmpR op_lt (pv 3) (pe_callB call_len_seq (by rfl) T.len PySem.boot_len (pa_cons (pv 1) pa_nil)) (nomark _))
        (pss_cons (ps_expr (pe_bm PySem.F.plainAttrs_list PySem.F.slot_list_extend PySem.F.type_list_extend mt_extend (pv 1) (pa_cons (pe_callTy call_list_of (by rfl) T.list (by decide +kernel) (pa_cons (pe_call G1 hr (by rfl) g1 k1 b1 .nil pass0 (pa_cons (pe_ix ix_list (pv 1) (pv 3) (fun _ _ => rfl)) pa_nil)) pa_nil)) pa_nil)))
        (pss_cons (ps_expr (pe_bm PySem.F.plainAttrs_list PySem.F.slot_list_append PySem.F.type_list_append mt_append (pv 2) (pa_cons (pe_callB call_len_seq (by rfl) T.len PySem.boot_len (pa_cons (pv 1) pa_nil)) pa_nil)))
        (pss_one (ps_aug (i := 3) scCopied.nd rfl (.inl rfl) pe_int ip_add)))))
      (pss_cons (ps_set (i := 4) scCopied.nd rfl (.inl rfl) (pe_callTy call_list_of (by rfl) T.list (by decide +kernel) (pa_cons (pv 1) pa_nil)))
      (pss_cons (ps_setLc (i := 5) (te := tCB (rIsiT K) (tCons (tVar 9) (tCons (tTup (tCons (tC (.ty "list")) (tCons (tC (.ty "dict")) tNil))) tNil))) (own := [("thing", 9)]) (g := gName 9) (by rfl) scCopied.nd rfl rfl (sw_true rfl rfl rfl (by decide +kernel)) (pi_list (pv 1))
          (blkOk_by (own := [("thing", 9)]) (N := ["value", "things", "ends", "at", "made", "loose", "place", "first", "end", "thing"]) (sc := defScope sCopied) (by decide +kernel))
          (fun _ _ _ _ _ => pg_name (i := 9) scCopied.nd rfl (.inl rfl)) (fun _ _ _ _ _ => pts_nil)
          (fun _ _ _ _ _ => pe_callB (id := "isinstance") call_isiT (by rfl) T.isi (by decide +kernel) (pa_cons (pv 9) (pa_cons (pe_tup (pa_cons (pe_bltn (v := .ty "list") (by rfl) T.list (by decide +kernel) rfl) (pa_cons (pe_bltn (v := .ty "dict") (by rfl) md (by decide +kernel) rfl) pa_nil))) pa_nil))))
      (pss_cons (ps_for PassesOwn.never rfl (pi_range3 rfl T.range (pa_cons (pe_op op_sub (pe_callB call_len_seq (by rfl) T.len PySem.boot_len (pa_cons (pv 1) pa_nil)) pe_int) (pa_cons (pe_un un_neg pe_int) (pa_cons (pe_un un_neg pe_int) pa_nil)))) (pg_name (i := 6) scCopied.nd rfl (.inl rfl))
        (pss_cons (ps_par (i := 7) (j := 8) rfl scCopied.nd rfl rfl (by decide) rfl rfl (pa_cons (pe_ifExp (pt_cmpR op_gt (pv 6) pe_int (nomark _)) (pe_ix ix_list (pv 2) (pe_op op_sub (pv 6) pe_int) (fun _ _ => rfl)) pe_int) (pa_cons (pe_ix ix_list (pv 2) (pv 6) (fun _ _ => rfl)) pa_nil)) (by rfl))
        (pss_cons (ps_if (pt_val (pe_callB (cr_any rfl) (by rfl) ma (by decide +kernel) (pa_cons (pe_slice sl_list (pv 5) (po_some (pv 7)) (po_some (pv 8))) pa_nil))) (pss_one ps_never) pss_nil)
        (pss_one (ps_if (pt_val (pe_ix ix_list (pv 5) (pv 6) (fun _ _ => rfl)))
          (pss_one (ps_asg (pe_call G2 hr (by rfl) g2 k2 b2 .nil pass0 (pa_cons (pe_ix ix_list (pv 1) (pv 6) (fun _ _ => rfl)) (pa_cons (pe_slice sl_list (pv 4) (po_some (pv 7)) (po_some (pv 8))) pa_nil))) (pg_sub (pv 4) (pv 6) set_list))) pss_nil)))))
      (pss_one (ps_ret (pe_ix ix_list (pv 4) pe_int (fun _ _ => rfl)))))))))), ?_⟩
    have hlen := hh.len
    have hit := hh.items
    have z1000 : ∀ {n : Nat}, n ≤ 902 → n ≤ sizeLine := fun h => Nat.le_trans h (by rw [sizeLine_eq]; decide)
    refine ⟨_, rfl, (by show 1 ≤ sizeLine; decide), fun t nt => ⟨(by show 0 ≤ sizeLine; decide), fun e ne => ?_⟩⟩
    have te : e ≠ t := fun z => by rw [z, upd_same] at ne; cases ne
    have s2 : Same H (upd (upd H t (.lst [v])) e (.lst [])) := (same_new nt).trans (same_new ne)
    have ht2 : upd (upd H t (.lst [v])) e (.lst []) t = some (.lst [v]) := same_new ne _ _ upd_same
    have he2 : upd (upd H t (.lst [v])) e (.lst []) e = some (.lst []) := upd_same
    have nte : H e = none := Same.gone (same_new nt) ne
    generalize upd (upd H t (.lst [v])) e (.lst []) = H2 at s2 ht2 he2 ⊢
    -- the walk over the things
    refine ⟨fun m σ H' => (m = us.length + 1 ∧ σ = [some v, some (.ref t), some (.ref e), some (.int 0), none, none, none, none, none, none] ∧ H' = H2) ∨
      (∃ k, k ≤ us.length ∧ m = us.length - k ∧ σ = [some v, some (.ref t), some (.ref e), some (.int (1 + (k : Int))), none, none, none, none, none, none] ∧ H' t = some (.lst (v :: us)) ∧ H' e = some (.lst (List.replicate (1 + k) (V.int (1 + (us.length : Int))))) ∧ Same H H'), ⟨_, .inl ⟨rfl, rfl, rfl⟩⟩, fun m σ H' h => ?_⟩
    rcases h with ⟨rfl, rfl, rfl⟩ | ⟨k, hk, rfl, rfl, ht, he, sm⟩
    · refine ⟨_, rfl, _, rfl, t, _, rfl, .inl (SqL.of ht2), _, _, rfl, rfl, _, rfl, ite2 (fun _ => ?_) (fun z => absurd (decide_eq_true (show (0 : Int) < ((1 : Nat) : Int) by decide)) z)⟩
      refine ⟨fun σ H' => σ = [some v, some (.ref t), some (.ref e), some (.int (1 + ((0 : Nat) : Int))), none, none, none, none, none, none] ∧ H' t = some (.lst (v :: us)) ∧ H' e = some (.lst (List.replicate (1 + 0) (V.int (1 + (us.length : Int))))) ∧ Same H H', fun σ' H' q => ⟨us.length, by omega, .inr ⟨0, Nat.zero_le _, rfl, q⟩⟩, ?_⟩
      refine ⟨_, rfl, .inl ⟨rfl, _, SqL.of ht2⟩, _, rfl, _, rfl, t, _, 0, v, rfl, rfl, SqL.of ht2, atI_nat (j := 0) rfl, v, us, b, rfl, hh.keep s2, fun p0 H30 np0 s30 hp0 => ⟨p0, _, rfl, .inl (SqL.of hp0), fun p np => ?_⟩⟩
      have s3 : Same H' (upd H30 p (.lst us)) := s30.trans (same_new np)
      have hp : upd H30 p (.lst us) p = some (.lst us) := upd_same
      generalize upd H30 p (.lst us) = H3 at s3 hp ⊢
      refine ⟨t, p, _, _, rfl, rfl, s3 _ _ ht2, hp, z1000 (by show 1 + us.length ≤ 902; omega), ?_⟩
      have he3 : upd H3 t (.lst ([v] ++ us)) e = some (.lst []) := by rw [upd_ne te]; exact s3 _ _ he2
      refine ⟨_, rfl, .inl ⟨rfl, _, SqL.of he3⟩, _, rfl, t, [v] ++ us, rfl, .inl (SqL.of upd_same), e, _, _, rfl, rfl, he3, (by show 0 < sizeLine; decide), ?_⟩
      refine ⟨_, rfl, _, _, rfl, rfl, rfl, ?_, ?_, fun b o q => ?_⟩
      · rw [upd_ne te.symm]; exact upd_same
      · have e1 : ((([v] ++ us).length : Nat) : Int) = 1 + (us.length : Int) := by rw [List.length_append, List.length_singleton]; omega
        rw [upd_same, e1]; rfl
      · rw [upd_ne (ne_of_none q nte), upd_ne (ne_of_none q nt)]
        exact s3 _ _ (s2 _ _ q)
    · by_cases hlt : k < us.length
      · have hge : (v :: us)[1 + k]? = some us[k] := by rw [Nat.add_comm]; exact List.getElem?_eq_getElem hlt
        have hix : atI (v :: us) (1 + (k : Int)) = some us[k] := by
          have := atI_nat (xs := v :: us) (j := 1 + k) hge
          rw [show ((1 + k : Nat) : Int) = 1 + (k : Int) by omega] at this
          exact this
        refine ⟨_, rfl, _, rfl, t, _, rfl, .inl (SqL.of ht), _, _, rfl, rfl, _, rfl, ite2 (fun _ => ?_) (fun z => absurd (decide_eq_true (show (1 + (k : Int)) < (((v :: us).length : Nat) : Int) by rw [List.length_cons]; omega)) z)⟩
        refine ⟨fun σ H' => σ = [some v, some (.ref t), some (.ref e), some (.int (1 + ((k + 1 : Nat) : Int))), none, none, none, none, none, none] ∧ H' t = some (.lst (v :: us)) ∧ H' e = some (.lst (List.replicate (1 + (k + 1)) (V.int (1 + (us.length : Int))))) ∧ Same H H', fun σ' H' q => ⟨us.length - (k + 1), by omega, .inr ⟨k + 1, hlt, rfl, q⟩⟩, ?_⟩
        refine ⟨_, rfl, .inl ⟨rfl, _, SqL.of ht⟩, _, rfl, _, rfl, t, _, _, us[k], rfl, rfl, SqL.of ht, hix, us[k], [], false, rfl, flat_hold hit (List.getElem?_eq_getElem hlt), fun p0 H30 np0 s30 hp0 => ⟨p0, _, rfl, .inl (SqL.of hp0), fun p np => ?_⟩⟩
        have s3 : Same H' (upd H30 p (.lst [])) := s30.trans (same_new np)
        have hp : upd H30 p (.lst []) p = some (.lst []) := upd_same
        generalize upd H30 p (.lst []) = H3 at s3 hp ⊢
        refine ⟨t, p, _, _, rfl, rfl, s3 _ _ ht, hp, z1000 (by show (v :: us).length + 0 ≤ 902; rw [List.length_cons]; omega), ?_⟩
        have he3 : upd H3 t (.lst ((v :: us) ++ [])) e = some (.lst (List.replicate (1 + k) (V.int (1 + (us.length : Int))))) := by rw [upd_ne te]; exact s3 _ _ he
        refine ⟨_, rfl, .inl ⟨rfl, _, SqL.of he3⟩, _, rfl, t, (v :: us) ++ [], rfl, .inl (SqL.of upd_same), e, _, _, rfl, rfl, he3, Nat.lt_of_lt_of_le (show (List.replicate (1 + k) (V.int (1 + (us.length : Int)))).length < 902 by rw [List.length_replicate]; omega) (z1000 (Nat.le_refl _)), ?_⟩
        refine ⟨_, rfl, _, _, rfl, rfl, ?_, ?_, ?_, fun b o q => ?_⟩
        · have e5 : (1 + (k : Int)) + 1 = 1 + ((k + 1 : Nat) : Int) := by omega
          show List.set _ 3 (some (V.int ((1 + (k : Int)) + 1))) = _
          rw [e5]; rfl
        · rw [upd_ne te.symm, upd_same, List.append_nil]
        · have e1 : ((((v :: us) ++ []).length : Nat) : Int) = 1 + (us.length : Int) := by rw [List.append_nil, List.length_cons]; omega
          rw [upd_same, e1, show 1 + (k + 1) = (1 + k) + 1 by omega, List.replicate_succ' (n := 1 + k)]
        · have e3 := s3 _ _ (sm _ _ q)
          rw [upd_ne (ne_of_none q nte), upd_ne (ne_of_none q nt)]
          exact e3
      · obtain rfl : k = us.length := by omega
        refine ⟨_, rfl, _, rfl, t, _, rfl, .inl (SqL.of ht), _, _, rfl, rfl, _, rfl, ite2 (fun z => absurd (of_decide_eq_true z) (show ¬ ((1 + (us.length : Int)) < (((v :: us).length : Nat) : Int)) by rw [List.length_cons]; omega)) (fun _ => ?_)⟩
        refine ⟨_, rfl, t, _, rfl, .inl (SqL.of ht), fun md nmd => ?_⟩
        have ht3 := same_new (o := .lst (v :: us)) nmd _ _ ht
        have he3 := same_new (o := .lst (v :: us)) nmd _ _ he
        have hm3 : upd H' md (.lst (v :: us)) md = some (.lst (v :: us)) := upd_same
        have sm3 := sm.trans (same_new (o := .lst (v :: us)) nmd)
        have nmH : H md = none := Same.gone sm nmd
        generalize upd H' md (.lst (v :: us)) = H3 at ht3 he3 hm3 sm3 ⊢
        refine ⟨_, rfl, t, rfl, ⟨_, SqL.of ht3⟩, fun D nD => ?_⟩
        refine lc_list (K := K) (a := t) (xs := v :: us) (fun i H' => H' D = some (.lst (((marks b us.length).take i).map V.bl)) ∧ But D H3 H') ⟨upd_same, But.upd_at⟩ (fun i H' _ q => SqL.of (q.2 _ _ (ne_of_none ht3 nD) ht3)) (fun i y H' hi ⟨e1, e2⟩ => ?_) (fun H' ⟨e1, e2⟩ => ?_)
        · have hil : i < us.length + 1 := (List.getElem?_eq_some_iff.mp hi).1
          obtain ⟨TT, r, hr1, ty, kit⟩ : ∃ (TT : String) (r : Bool), (marks b us.length)[i]? = some r ∧ (∀ (K : PySem.W.Frag) (G : Hp), Same H' G → TyX K G y (.type TT)) ∧ PySem.W.kitAny K (.type TT) [.type "list", .type "dict"] = some r := by
            cases i with
            | zero =>
              obtain rfl : v = y := Option.some.inj hi
              obtain ⟨TT, ty, b1, b2, b3, f1, f2, f3, eb⟩ := hh.ty
              refine ⟨TT, b, rfl, fun K G k => ty K G fun c o q => k _ _ (e2 _ _ (ne_of_none (sm3 _ _ q) nD) (sm3 _ _ q)), ?_⟩
              rw [eb]; exact kit_any2 f1 f3
            | succ j =>
              obtain ⟨TT, f⟩ := hit y (List.mem_of_getElem? (show us[j]? = some y from hi))
              exact ⟨TT, false, marks_at (by omega), fun K G _ => f.ty K G, kit_any2 f.l f.d⟩
          refine ⟨rfl, _, rfl, (by show 2 ≤ sizeLine; decide), fun tp ntp => ⟨y, tp, _, _, _, r, rfl, upd_same, .cons (.ty _) (.cons (.ty _) .nil), ty _ _ (same_new ntp), kit, _, same_new ntp _ _ e1, ?_, ?_, ?_⟩⟩
          · refine Nat.lt_of_lt_of_le (show _ < 902 from ?_) (z1000 (Nat.le_refl _))
            rw [List.length_map, List.length_take]; omega
          · rw [upd_same, List.take_add_one, hr1, List.map_append]; rfl
          · exact (e2.trans (Same.but (same_new ntp))).trans But.upd_at
        · have eM : (marks b us.length).take (v :: us).length = marks b us.length := by
            rw [List.take_of_length_le]
            show (List.replicate us.length false).length + 1 ≤ us.length + 1
            rw [List.length_replicate]; exact Nat.le_refl _
          rw [eM] at e1
          have s4 : Same H3 H' := fun b o q => e2 b o (ne_of_none q nD) q
          have ht4 := s4 _ _ ht3
          have he4 := s4 _ _ he3
          have hm4 := s4 _ _ hm3
          have s04 := sm3.trans s4
          have nDH : H D = none := Same.gone sm3 nD
          have lenI : ((((v :: us).length : Nat) : Int)) - 1 = (us.length : Int) := by rw [List.length_cons]; omega
          refine ⟨_, rfl, t, _, rfl, .inl (SqL.of ht4), _, _, rfl, rfl, _, rfl, _, rfl, (us.length : Int), -1, -1, us.length + 1, ?_, ?_, ?_⟩
          · show [V.int (((((v :: us).length : Nat) : Int)) - 1), V.int (-1), V.int (-1)] = _
            rw [lenI]
          · have h := RgC.neg (i := (us.length : Int)) (j := -1) (by omega) (by omega) (by decide) (by decide)
            rw [show ((us.length : Int) - -1).toNat = us.length + 1 by omega] at h
            exact h
          refine for_rangeC (lo := (us.length : Int)) (c := -1) (n := us.length + 1) (fun i σ H5 => (∃ v6 v7 v8 v9 : Option V, σ = [some v, some (.ref t), some (.ref e), some (.int (1 + (us.length : Int))), some (.ref md), some (.ref D), v6, v7, v8, v9]) ∧
            (i ≤ us.length → Same H' H5) ∧ (i = us.length + 1 → Same H H5 ∧ ∃ v', H5 md = some (.lst (v' :: us)) ∧ Alike H v H5 v')) ⟨⟨none, none, none, none, rfl⟩, fun _ => Same.refl _, fun z => by omega⟩ ?_ ?_
          · rintro i σ H5 hi ⟨⟨v6, v7, v8, v9, rfl⟩, u5, _⟩
            have s5 := u5 (by omega)
            clear u5
            have he5 := s5 _ _ he4
            have hD5 := s5 _ _ e1
            by_cases hlast : i = us.length
            · subst hlast
              have e0 : (us.length : Int) + ((us.length : Nat) : Int) * -1 = 0 := by omega
              rw [e0]
              refine ⟨_, rfl, _, _, rfl, rfl, _, rfl, ite2 (fun z => absurd (of_decide_eq_true z) (show ¬ ((0 : Int) < 0) by decide)) (fun _ => ?_)⟩
              refine ⟨_, rfl, _, rfl, e, _, _, _, rfl, rfl, SqL.of he5, atI_nat (j := 0) (ends_at (m := 1 + us.length) (by omega)), _, _, rfl, ?_⟩
              refine ⟨_, rfl, _, rfl, _, rfl, _, rfl, _, rfl, D, _, rfl, SqL.of hD5, fun sl nsl => ?_⟩
              have ecut : cutV ((marks b us.length).map V.bl) (some 1) (some (1 + (us.length : Int))) = (List.replicate us.length false).map V.bl := by
                have := cut_tail (x := V.bl b) (ys := (List.replicate us.length false).map V.bl)
                rw [List.length_map, List.length_replicate] at this
                exact this
              rw [ecut]
              refine ⟨sl, List.replicate us.length false, rfl, SqL.of upd_same, _, rfl, ?_⟩
              rw [any_none]
              refine iteF ?_
              have s6 := s5.trans (same_new (o := .lst ((List.replicate us.length false).map V.bl)) nsl)
              generalize upd H5 sl (.lst ((List.replicate us.length false).map V.bl)) = H6 at s6
              refine ⟨_, rfl, _, rfl, D, _, _, _, rfl, rfl, SqL.of (s6 _ _ e1), atI_nat (j := 0) rfl, _, rfl, ?_⟩
              cases b with
              | false => exact iteF ⟨⟨_, _, _, _, rfl⟩, fun z => by omega, fun _ => ⟨s04.trans s6, v, s6 _ _ hm4, .same⟩⟩
              | true =>
                refine iteT ⟨_, rfl, _, rfl, t, _, _, _, rfl, rfl, SqL.of (s6 _ _ ht4), atI_nat (j := 0) rfl, _, rfl, _, rfl, _, rfl, _, rfl, _, rfl, md, _, rfl, SqL.of (s6 _ _ hm4), fun q nq => ?_⟩
                rw [cut_tail]
                have s7 := s6.trans (same_new (o := .lst us) nq)
                have hq : upd H6 q (.lst us) q = some (.lst us) := upd_same
                generalize upd H6 q (.lst us) = H7 at s7 hq
                refine ⟨v, us, q, rfl, hh.keep (s04.trans s7), hq, fun v' H8 s8 al => ?_⟩
                have hm8 := s8 _ _ (s7 _ _ hm4)
                refine ⟨_, rfl, _, rfl, md, _, _, 0, rfl, rfl, hm8, ix_first, ?_⟩
                refine ⟨⟨_, _, _, _, rfl⟩, fun z => by omega, fun _ => ⟨fun c o z => ?_, v', upd_same, (al.from (s04.trans s7) us hh).put hh hm8 rfl⟩⟩
                rw [upd_ne (ne_of_none z nmH)]
                exact s8 _ _ (s7 _ _ (s04 _ _ z))
            · have hi2 : i < us.length := by omega
              obtain ⟨j, ej⟩ : ∃ j : Nat, us.length = i + j + 1 := ⟨us.length - i - 1, by omega⟩
              have e0 : (us.length : Int) + ((i : Nat) : Int) * -1 = ((j + 1 : Nat) : Int) := by omega
              rw [e0]
              have e9 : ((j + 1 : Nat) : Int) - 1 = ((j : Nat) : Int) := by omega
              refine ⟨_, rfl, _, _, rfl, rfl, _, rfl, ite2 (fun _ => ?_) (fun z => absurd (decide_eq_true (show (0 : Int) < ((j + 1 : Nat) : Int) by omega)) z)⟩
              have hfst : atI (List.replicate (1 + us.length) (V.int (1 + (us.length : Int)))) (((j + 1 : Nat) : Int) - 1) = some (V.int (1 + (us.length : Int))) := by
                rw [e9]
                exact atI_nat (ends_at (m := 1 + us.length) (by omega))
              refine ⟨_, rfl, _, rfl, _, _, rfl, rfl, e, _, _, V.int (1 + (us.length : Int)), rfl, rfl, SqL.of he5, hfst, ?_⟩
              refine ⟨_, rfl, _, rfl, e, _, _, _, rfl, rfl, SqL.of he5, atI_nat (j := j + 1) (ends_at (m := 1 + us.length) (by omega)), _, _, rfl, ?_⟩
              refine ⟨_, rfl, _, rfl, _, rfl, _, rfl, _, rfl, D, _, rfl, SqL.of hD5, fun sl nsl => ?_⟩
              rw [cut_void]
              refine ⟨sl, [], rfl, SqL.of upd_same, _, rfl, iteF ?_⟩
              refine ⟨_, rfl, _, rfl, D, _, _, _, rfl, rfl, SqL.of (same_new nsl _ _ hD5), atI_nat (j := j + 1) (show ((marks b us.length).map V.bl)[j + 1]? = some (V.bl false) by rw [List.getElem?_map, marks_at (by omega)]; rfl), _, rfl, iteF ?_⟩
              exact ⟨⟨_, _, _, _, rfl⟩, fun _ => s5.trans (same_new nsl), fun z => by omega⟩
          · rintro σ H5 ⟨⟨v6, v7, v8, v9, rfl⟩, _, s5⟩
            obtain ⟨s5, v', hm5, al⟩ := s5 rfl
            exact ⟨_, rfl, md, _, 0, v', rfl, rfl, SqL.of hm5, atI_nat (j := 0) rfl, kk _ H5 s5 al⟩
theorem ok_flat {f : Addr} {fd : FuncData} (F : Fun K "is_flat" "is_flat" sFlat f fd) (T : Blt mg) (md : mg "dict" = none) : FnOk P w K mg base CX0 2 f fd ["value"] spFlat := by
  refine F.ok scFlat (fun vs H Q E h => ?_) (fun cdv A outer s H vs Q E hr h => ?_)
  · obtain ⟨a, us, rfl, _⟩ := h
    rfl
  · obtain ⟨a, us, rfl, ha, af, hn, k⟩ := h
    refine ⟨_, pss_cons (ps_for PassesOwn.never rfl (pi_tup (pv 0)) (pg_name (i := 1) scFlat.nd rfl (.inl rfl))
        (pss_one (ps_if (pt_val (pe_callB call_isiT (by rfl) T.isi (by decide +kernel) (pa_cons (pv 1) (pa_cons (pe_tup (pa_cons (pe_bltn (v := .ty "list") (by rfl) T.list (by decide +kernel) rfl) (pa_cons (pe_bltn (v := .ty "tuple") (by rfl) T.tuple (by decide +kernel) rfl) (pa_cons (pe_bltn (v := .ty "dict") (by rfl) md (by decide +kernel) rfl) pa_nil)))) pa_nil)))) (pss_one ps_never) pss_nil)))
      (pss_one (ps_ret pe_bl)), ?_⟩
    refine ⟨_, rfl, a, rfl, ⟨_, SqT.of ha⟩, ?_⟩
    refine for_it (walk_tup (K := K) (a := a) (xs := us)) (fun i σ G => Same H G ∧ ∃ z, σ = [some (.ref a), z]) ⟨Same.refl _, _, rfl⟩ (fun i σ G _ h => SqT.of (h.1 _ _ ha)) (fun i v σ G2 G3 hi h y => ?_) (fun σ G h => ?_)
    · obtain ⟨s2, z, rfl⟩ := h
      obtain ⟨rfl, hx⟩ := y
      obtain ⟨TT, fl⟩ := af v (List.mem_of_getElem? hx)
      exact ⟨_, rfl, (by show 3 ≤ sizeLine; decide), fun tp ntp => ⟨v, tp, _, _, _, false, rfl, upd_same, .cons (.ty _) (.cons (.ty _) (.cons (.ty _) .nil)), fl.ty _ _, kit3 fl.l fl.t fl.d, _, rfl, iteF ⟨s2.trans (same_new ntp), _, rfl⟩⟩⟩
    · obtain ⟨s2, z, rfl⟩ := h
      exact k G s2
theorem ok_keptV {f : Addr} {fd : FuncData} (F : Fun K "kept" "kept" sKept f fd) (T : Blt mg) (md : mg "dict" = none) (D : Df P w K mg base 2 "is_flat" ["value"] spFlat) (D2 : Df P w K mg base 2 "copied_deep" ["value"] spKeptV) : FnOk P w K mg base CX0 3 f fd ["value"] spKeptV := by
  obtain ⟨f1, fd1, G1, g1, k1, b1⟩ := D.ex
  obtain ⟨f2, fd2, G2, g2, k2, b2⟩ := D2.ex
  refine F.ok scKept (fun vs H Q E h => ?_) (fun cdv A outer s H vs Q E hr h => ?_)
  · obtain ⟨v, us, b, rfl, _⟩ := h
    rfl
  · obtain ⟨v, us, b, rfl, hh, kk⟩ := h
    refine ⟨_, pss_cons (ps_if (pt_not (pt_val (pe_callB call_isiT (by rfl) T.isi (by decide +kernel) (pa_cons (pv 0) (pa_cons (pe_tup (pa_cons (pe_bltn (v := .ty "list") (by rfl) T.list (by decide +kernel) rfl) (pa_cons (pe_bltn (v := .ty "tuple") (by rfl) T.tuple (by decide +kernel) rfl) (pa_cons (pe_bltn (v := .ty "dict") (by rfl) md (by decide +kernel) rfl) pa_nil)))) pa_nil))))) (pss_one (ps_ret (pv 0))) pss_nil)
      (pss_cons (ps_if (PW.pt (pw_and (pt_val (pe_callB call_isi (by rfl) T.isi (by decide +kernel) (pa_cons (pv 0) (pa_cons (pe_bltn (v := .ty "tuple") (by rfl) T.tuple (by decide +kernel) rfl) pa_nil)))) (pw_and1 (pt_val (pe_call G1 hr (by rfl) g1 k1 b1 .nil pass0 (pa_cons (pv 0) pa_nil)))))) (pss_one (ps_ret (pv 0))) pss_nil)
      (pss_one (ps_ret (pe_call G2 hr (by rfl) g2 k2 b2 .nil pass0 (pa_cons (pv 0) pa_nil))))), ?_⟩
    cases hh with
    | @flat v TT fl =>
      refine ⟨_, rfl, (by show 3 ≤ sizeLine; decide), fun tp ntp => ⟨v, tp, _, _, _, false, rfl, upd_same, .cons (.ty _) (.cons (.ty _) (.cons (.ty _) .nil)), fl.ty _ _, kit3 fl.l fl.t fl.d, _, rfl, iteT ⟨_, rfl, ?_⟩⟩⟩
      exact kk _ _ (same_new ntp) .same
    | @tup a us e al l =>
      refine ⟨_, rfl, (by show 3 ≤ sizeLine; decide), fun tp ntp => ⟨_, tp, _, _, _, true, rfl, upd_same, .cons (.ty _) (.cons (.ty _) (.cons (.ty _) .nil)), .base (.tup (same_new ntp _ _ e)), kit_any3 (r1 := false) (r2 := true) (r3 := false) (by decide +kernel) (by decide +kernel) (by decide +kernel), _, rfl, iteF ?_⟩⟩
      have e1 := same_new (o := .tup [.ty "list", .ty "tuple", .ty "dict"]) ntp _ _ e
      refine ⟨_, rfl, _, _, _, _, true, rfl, .ty _, .base (.tup e1), kit_ty (by decide +kernel), _, rfl, iteT ?_⟩
      refine ⟨_, rfl, a, us, rfl, e1, al, l, fun H' s' => ⟨_, rfl, iteT ⟨_, rfl, ?_⟩⟩⟩
      exact kk _ _ ((same_new ntp).trans s') .same
    | @lst a us e al l =>
      refine ⟨_, rfl, (by show 3 ≤ sizeLine; decide), fun tp ntp => ⟨_, tp, _, _, _, true, rfl, upd_same, .cons (.ty _) (.cons (.ty _) (.cons (.ty _) .nil)), .base (.lst (same_new ntp _ _ e)), kit_any3 (r1 := true) (r2 := false) (r3 := false) (by decide +kernel) (by decide +kernel) (by decide +kernel), _, rfl, iteF ?_⟩⟩
      have s1 := same_new (H := H) (o := .tup [.ty "list", .ty "tuple", .ty "dict"]) ntp
      have e1 := s1 _ _ e
      refine ⟨_, rfl, _, _, _, _, false, rfl, .ty _, .base (.lst e1), kit_ty (by decide +kernel), _, rfl, iteF ?_⟩
      refine ⟨_, rfl, _, us, true, rfl, (Hold.lst e1 al l), fun v' H' s' al' => ?_⟩
      exact kk _ _ (s1.trans s') (al'.from s1 us (.lst e al l))
    | @dct a kvs e al l nd =>
      refine ⟨_, rfl, (by show 3 ≤ sizeLine; decide), fun tp ntp => ⟨_, tp, _, _, _, true, rfl, upd_same, .cons (.ty _) (.cons (.ty _) (.cons (.ty _) .nil)), .base (.dK (same_new ntp _ _ e)), kit_any3 (r1 := false) (r2 := false) (r3 := true) (by decide +kernel) (by decide +kernel) (by decide +kernel), _, rfl, iteF ?_⟩⟩
      have s1 := same_new (H := H) (o := .tup [.ty "list", .ty "tuple", .ty "dict"]) ntp
      have e1 := s1 _ _ e
      refine ⟨_, rfl, _, _, _, _, false, rfl, .ty _, .base (.dK e1), kit_ty (by decide +kernel), _, rfl, iteF ?_⟩
      refine ⟨_, rfl, _, _, true, rfl, (Hold.dct e1 al l nd), fun v' H' s' al' => ?_⟩
      exact kk _ _ (s1.trans s') (al'.from s1 _ (.dct e al l nd))
end
end Ev
namespace Ev
open PySem L2 PySem.Spec PyProof.Rows RZ
abbrev sBNInit : Stmt := sBadNumber_init
/-- a contract with a lesser promise -/
theorem FnOk.less {P : Program} {w : World} {K : PySem.W.Frag} {mg : Str → Option Value} {base : Heap} {CX : CXT} {k : Nat} {f : Addr} {fd : FuncData} {ps : List Str} {sp sp' : Sp}
    (F : FnOk P w K mg base CX k f fd ps sp) (h : ∀ vs H Q E, sp' vs H Q E → sp vs H Q E) : FnOk P w K mg base CX k f fd ps sp' :=
  ⟨fun vs H Q E t => F.len vs H Q E (h _ _ _ _ t), fun A above s H args us vs Q E hr env bt rv t => F.run A above s H args us vs Q E hr env bt rv (h _ _ _ _ t)⟩
/-- .. of a call that raises nothing -/
theorem FnOk.calm {P : Program} {w : World} {K : PySem.W.Frag} {mg : Str → Option Value} {base : Heap} {k : Nat} {f : Addr} {fd : FuncData} {ps : List Str} {sp sp' : Sp}
    (F : FnOk P w K mg base (L2.CX P w) k f fd ps sp) (h : ∀ vs H Q E, sp' vs H Q E → sp vs H Q fun _ _ _ => False) : FnOk P w K mg base CX0 k f fd ps sp' := by
  constructor
  · exact fun vs H Q E t => F.len vs H Q _ (h _ _ _ _ t)
  · intro A above s H args us vs Q E hr env bt rv t
    refine codeAny_mono (F.run A above s H args us vs Q _ hr env bt rv (h _ _ _ _ t)) fun r s2 q => ?_
    cases r with
    | error e =>
      obtain ⟨_, _, _, _, _, _, _, _, _, _, _, _, z⟩ := q
      exact z.elim
    | ok fl =>
      cases fl with
      | ret u => exact q
      | next => exact q
      | brk => exact q
      | cont => exact q
/-- an error's field -/
def Told (C : Addr) (n : Str) (H : Hp) (v : V) (E : XK) : Prop := ∀ (d : Addr) (v' : V) (H' : Hp), Same H H' → H d = none → H' d = some (.xd [(n, v')]) → Alike H v H' v' → E (.ref C) (some d) H'
def spExInit (C : Addr) (n : Str) : Sp := fun vs H Q _ => ∃ (a : Addr) (v : V) (us : List V) (b : Bool), vs = [.ref a, v] ∧ H a = some (exo a C none) ∧ Hold H v us b ∧
  ∀ (d : Addr) (v' : V) (H' : Hp), H d = none → H' a = some (exo a C (some d)) → H' d = some (exd d [(n, v')]) → (∀ b o, b ≠ a → H b = some o → H' b = some o) → Alike H v H' v' → Q .non H'
theorem Alike.on {H G G' : Hp} {v v' : V} (h : Alike H v G v') (k1 : ∀ b xs, G b = some (.lst xs) → G' b = some (.lst xs)) (k2 : ∀ b kvs, G b = some (.dK kvs) → G' b = some (.dK kvs)) : Alike H v G' v' := by
  cases h with
  | same => exact .same
  | lst e1 e2 => exact .lst e1 (k1 _ _ e2)
  | dct e1 e2 => exact .dct e1 (k2 _ _ e2)
theorem exo_lst {a C : Addr} {d : Option Addr} {xs : List V} : exo a C d ≠ .lst xs := fun z => by
  have z : HO.ext _ = HO.lst xs := z
  cases z
theorem exo_dK {a C : Addr} {d : Option Addr} {xs : List (Key × V)} : exo a C d ≠ .dK xs := fun z => by
  have z : HO.ext _ = HO.dK xs := z
  cases z
theorem exd_lst {a : Addr} {d : List (Str × V)} {xs : List V} : exd a d ≠ .lst xs := fun z => by
  have z : HO.ext _ = HO.lst xs := z
  cases z
theorem exd_dK {a : Addr} {d : List (Str × V)} {xs : List (Key × V)} : exd a d ≠ .dK xs := fun z => by
  have z : HO.ext _ = HO.dK xs := z
  cases z
/-- an error class of the package with one field n -/
structure ErrV (P : Program) (w : World) (K : PySem.W.Frag) (mg : Str → Option Value) (base : Heap) (x n : Str) (C : Addr) : Prop where
  cl : OexC K C
  g : mg x = some (.ref C)
  ex : ∃ (f : Addr) (fd : FuncData), PySem.W.findIn K (.ref C) "__init__" = some (some (.ref f)) ∧ PySem.W.typeIn K (.ref f) = some (.type "function") ∧ FnOk P w K mg base CX0 4 f fd ["self", n] (spExInit C n) ∧ Binds K fd ["self", n] []
section
variable {P : Program} {w : World} {K : PySem.W.Frag} {mg : Str → Option Value} {base : Heap}
theorem scBN : FnScope ["self", "value"] ["self", "value"] (defScope sBNInit) := ⟨rfl, rfl, rfl, by decide +kernel, rfl, by decide +kernel, by decide +kernel⟩
theorem ok_bn {f C : Addr} {fd : FuncData} (F : Fun K "__init__" "BadNumber.__init__" sBNInit f fd) (T : OexC K C) (no : PySem.W.findIn K (.ref C) "value" = some none) (D : Df P w K mg base 3 "kept" ["value"] spKeptV) : FnOk P w K mg base CX0 4 f fd ["self", "value"] (spExInit C "value") := by
  obtain ⟨f1, fd1, G1, g1, k1, b1⟩ := D.ex
  refine F.ok scBN (fun vs H Q E h => ?_) (fun cdv A outer s H vs Q E hr h => ?_)
  · obtain ⟨a, v, us, b, rfl, _⟩ := h
    rfl
  · obtain ⟨a, v, us, b, rfl, ha, hv, kk⟩ := h
    refine ⟨_, pss_one (ps_ost (pv 0) (pe_call G1 hr (by rfl) g1 k1 b1 .nil pass0 (pa_cons (pv 1) pa_nil))), ?_⟩
    refine ⟨_, rfl, v, us, b, rfl, hv, fun v' H1 s1 al => ⟨_, rfl, a, C, rfl, T, no, .inl ⟨s1 _ _ ha, fun dx nd dne => ?_⟩⟩⟩
    refine kk dx v' _ (s1.free nd) upd_same (by rw [upd_ne dne]; exact upd_same) (fun b o nb e => ?_) (al.on (fun b xs e => ?_) (fun b xs e => ?_))
    · rw [upd_ne nb, upd_ne (ne_of_none (s1 _ _ e) nd)]
      exact s1 _ _ e
    · have nb : b ≠ a := fun z => by rw [z, s1 _ _ ha] at e; exact exo_lst (Option.some.inj e)
      rw [upd_ne nb, upd_ne (ne_of_none e nd)]; exact e
    · have nb : b ≠ a := fun z => by rw [z, s1 _ _ ha] at e; exact exo_dK (Option.some.inj e)
      rw [upd_ne nb, upd_ne (ne_of_none e nd)]; exact e
/-- what the raising of such an error comes to -/
theorem raisedV {C : Addr} {n : Str} {H : Hp} {v : V} {E : XK} (hv : ∃ us b, Hold H v us b) (k : Told C n H v E) (a' : Addr) (na : H a' = none) :
    spExInit C n [.ref a', v] (upd H a' (exo a' C none)) (fun v' H2 => v' = .non ∧ ∃ (d : Addr) (fs : List (Str × V)), H2 a' = some (exo a' C (some d)) ∧ H2 d = some (exd d fs) ∧ H d = none ∧ E (.ref C) (some d) (upd (del H2 a') d (.xd fs))) (fun _ _ _ => False) := by
  obtain ⟨us, b, hv⟩ := hv
  refine ⟨a', v, us, b, rfl, upd_same, hv.keep (same_new na), fun d v' H' nd ha' hd bt al => ⟨rfl, d, _, ha', hd, ?_, ?_⟩⟩
  · have dne : d ≠ a' := fun z => by rw [z, upd_same] at nd; cases nd
    rw [upd_ne dne] at nd
    exact nd
  · have dne : d ≠ a' := fun z => by rw [z, upd_same] at nd; cases nd
    rw [upd_ne dne] at nd
    have hkeep : ∀ b o, H b = some o → upd (del H' a') d (.xd [(n, v')]) b = some o := fun b o e => by
      rw [upd_ne (ne_of_none e nd), del_ne (ne_of_none e na)]
      exact bt b o (ne_of_none e na) (by rw [upd_ne (ne_of_none e na)]; exact e)
    refine k d v' _ hkeep nd upd_same ?_
    have al2 : Alike H v H' v' := by
      cases al with
      | same => exact .same
      | lst e1 e2 =>
        rename_i a b us
        refine .lst ?_ e2
        have nb : a ≠ a' := fun z => by rw [z, upd_same] at e1; exact exo_lst (Option.some.inj e1)
        rw [upd_ne nb] at e1; exact e1
      | dct e1 e2 =>
        rename_i a b us
        refine .dct ?_ e2
        have nb : a ≠ a' := fun z => by rw [z, upd_same] at e1; exact exo_dK (Option.some.inj e1)
        rw [upd_ne nb] at e1; exact e1
    refine al2.on (fun b xs e => ?_) (fun b xs e => ?_)
    · have n1 : b ≠ a' := fun z => by rw [z, ha'] at e; exact exo_lst (Option.some.inj e)
      have n2 : b ≠ d := fun z => by rw [z, hd] at e; exact exd_lst (Option.some.inj e)
      rw [upd_ne n2, del_ne n1]; exact e
    · have n1 : b ≠ a' := fun z => by rw [z, ha'] at e; exact exo_dK (Option.some.inj e)
      have n2 : b ≠ d := fun z => by rw [z, hd] at e; exact exd_dK (Option.some.inj e)
      rw [upd_ne n2, del_ne n1]; exact e
def spNeedSize (C : Addr) : Sp := fun vs H Q E => ∃ v : V, vs = [v] ∧ IntQ H v ∧ ((inB 2 (10 ^ 12) v = true ∧ Q .non H) ∨ (inB 2 (10 ^ 12) v = false ∧ (∃ us b, Hold H v us b) ∧ Told C "value" H v E))
theorem scNeedSize : FnScope ["value"] ["value"] (defScope sNeedSize) := ⟨rfl, rfl, rfl, by decide +kernel, rfl, by decide +kernel, by decide +kernel⟩
theorem ok_needSize {f C : Addr} {fd : FuncData} (F : Fun K "need_size" "need_size" sNeedSize f fd) (D : Df P w K mg base 2 "is_within" ["value", "least", "most"] spWithinA) {t1 t2 : Tok} (gL : mg "LEAST_SIZE" = some (.int 2 t1)) (gM : mg "MOST_SIZE" = some (.int (10 ^ 12) t2)) (B : ErrV P w K mg base "BadNumber" "value" C) :
    FnOk P w K mg base (L2.CX P w) 6 f fd ["value"] (spNeedSize C) := by
  obtain ⟨fW, fdW, GW, gW, kW, bW⟩ := D.ex
  obtain ⟨TC, gC, fi, fdi, iC, tI, GI, bI⟩ := id B
  refine F.okX scNeedSize (fun vs H Q E h => ?_) (fun cdv A outer s H vs Q E hr h => ?_)
  · obtain ⟨v, rfl, _⟩ := h
    rfl
  · obtain ⟨v, rfl, hq, h⟩ := h
    refine ⟨_, pss_one (ps_if (pt_not (pt_val (pe_call GW (hr.mono (by decide)) (by rfl) gW kW bW .nil pass0 (pa_cons (pv 0) (pa_cons (pe_glob (v := .int 2) rfl gL ⟨_, rfl⟩) (pa_cons (pe_glob (v := .int (10 ^ 12)) rfl gM ⟨_, rfl⟩) pa_nil))))))
      (pss_one (ps_raise rfl (takes_of rfl rfl rfl rfl) (pmk_oex TC iC tI GI (hr.mono (by decide)) bI .nil pass0 (by rfl) gC (pa_cons (pv 0) pa_nil)))) pss_nil), ?_⟩
    rcases h with ⟨z, k⟩ | ⟨z, hv, k⟩
    · refine ⟨_, rfl, _, _, _, rfl, hq, _, rfl, ?_⟩
      rw [z]
      exact iteF k
    · have out : tMkO C (spExInit C "value") [] (tCons (tVar 0) tNil) [some v] H E := ⟨_, rfl, (by show 1 ≤ 1000; decide), fun a' na => raisedV hv k a' na⟩
      refine ⟨_, rfl, _, _, _, rfl, hq, _, rfl, ?_⟩
      rw [z]
      exact iteT out
end
end Ev
namespace Ev
open PySem L2 PySem.Spec PyProof.Rows RZ
/-! Fill rules. -/
structure Fr where
  p : Int
  q : Int
  k : Int
  c : Int
  j : Int
structure Fr.ok (r : Fr) : Prop where
  p1 : 1 ≤ r.p
  p2 : r.p ≤ 12
  q1 : 1 ≤ r.q
  q2 : r.q ≤ 12
  k1 : -12 ≤ r.k
  k2 : r.k ≤ 12
  c1 : 1 ≤ r.c
  c2 : r.c ≤ 5
  j1 : 2 ≤ r.j
  j2 : r.j ≤ 6
def Fr.wd (r : Fr) : Int := if r.c > r.j then r.c else r.j
def Fr.least (r : Fr) (m : Int) : Int := (r.p * m + r.k).fdiv r.q
def Fr.many (r : Fr) : Int := if r.c + 1 < r.j then r.c + 1 else r.j
def Fr.right (r : Fr) (m : Int) : Bool := decide (1 ≤ r.least m) && decide (r.many * r.least m ≤ (r.many - 1) * m + 1)
def fillF (a : Addr) (r : Fr) : List (Str × V) := [("times", .ref a), ("plus", .int r.k), ("cut_of", .int r.c), ("join_of", .int r.j), ("width", .int r.wd)]
def FAt (C : Addr) (H : Hp) (x : Addr) (r : Fr) : Prop := ∃ dx a, H x = some (.ins C dx (fillF a r)) ∧ H a = some (.tup [.int r.p, .int r.q])
theorem FAt.keep {C x : Addr} {H H' : Hp} {r : Fr} (h : FAt C H x r) (k : Same H H') : FAt C H' x r := by
  obtain ⟨dx, a, h1, h2⟩ := h
  exact ⟨dx, a, k _ _ h1, k _ _ h2⟩
theorem FAt.but {C x p : Addr} {H H' : Hp} {r : Fr} {xs : List V} (h : FAt C H x r) (hp : H p = some (.lst xs)) (k : But p H H') : FAt C H' x r := by
  obtain ⟨dx, a, h1, h2⟩ := h
  exact ⟨dx, a, k _ _ (ne_of h1 hp (by intro z; cases z)) h1, k _ _ (ne_of h2 hp (by intro z; cases z)) h2⟩
theorem fill_times (a : Addr) (r : Fr) : (fillF a r).lookup ("times" : Str) = some (.ref a) := lk_hit
theorem fill_plus (a : Addr) (r : Fr) : (fillF a r).lookup ("plus" : Str) = some (.int r.k) := (lk_miss (by decide +kernel)).trans lk_hit
theorem fill_cut (a : Addr) (r : Fr) : (fillF a r).lookup ("cut_of" : Str) = some (.int r.c) := (lk_miss (by decide +kernel)).trans ((lk_miss (by decide +kernel)).trans lk_hit)
theorem fill_join (a : Addr) (r : Fr) : (fillF a r).lookup ("join_of" : Str) = some (.int r.j) := (lk_miss (by decide +kernel)).trans ((lk_miss (by decide +kernel)).trans ((lk_miss (by decide +kernel)).trans lk_hit))
theorem fill_width (a : Addr) (r : Fr) : (fillF a r).lookup ("width" : Str) = some (.int r.wd) := (lk_miss (by decide +kernel)).trans ((lk_miss (by decide +kernel)).trans ((lk_miss (by decide +kernel)).trans ((lk_miss (by decide +kernel)).trans lk_hit)))
theorem fill_no (a : Addr) (r : Fr) {m : Str} (h1 : ¬ m = "times") (h2 : ¬ m = "plus") (h3 : ¬ m = "cut_of") (h4 : ¬ m = "join_of") (h5 : ¬ m = "width") : (fillF a r).lookup m = none := (lk_miss h1).trans ((lk_miss h2).trans ((lk_miss h3).trans ((lk_miss h4).trans ((lk_miss h5).trans rfl))))
def spLeastOf (C : Addr) : Sp := fun vs H Q _ => ∃ (x : Addr) (r : Fr) (m : Int), vs = [.ref x, .int m] ∧ FAt C H x r ∧ r.ok ∧ Q (.int (r.least m)) H
/-- a size asked of a rule: an answer, or an error with that value -/
def SizeK (N : Addr) (H : Hp) (E : XK) (v : V) (good : Int → Prop) : Prop := IntQ H v ∧ ((∃ m, v = .int m ∧ 2 ≤ m ∧ m ≤ 10 ^ 12 ∧ good m) ∨ (inB 2 (10 ^ 12) v = false ∧ (∃ us b, Hold H v us b) ∧ Told N "value" H v E))
theorem mw {q b : Int} (h1 : -b ≤ q) (h2 : q ≤ b) (hb : b ≤ 10 ^ 19) : -(2 ^ 64) < q ∧ q < 2 ^ 64 := ⟨by omega, by omega⟩
theorem inB_in {l m i : Int} (h1 : l ≤ i) (h2 : i ≤ m) : inB l m (.int i) = true := by
  show (decide (l ≤ i) && decide (i ≤ m)) = true
  rw [decide_eq_true h1, decide_eq_true h2]; rfl
section
variable {P : Program} {w : World} {K : PySem.W.Frag} {mg : Str → Option Value} {base : Heap}
theorem scLeastOf : FnScope ["rule", "most", "over", "under"] ["rule", "most"] (defScope sLeastOf) := ⟨rfl, rfl, rfl, by decide +kernel, rfl, by decide +kernel, by decide +kernel⟩
theorem ok_leastOf {f C : Addr} {fd : FuncData} (F : Fun K "least_of" "least_of" sLeastOf f fd) (T : FCls K C) : FnOk P w K mg base CX0 1 f fd ["rule", "most"] (spLeastOf C) := by
  refine F.ok scLeastOf (fun vs H Q E h => ?_) (fun cdv A outer s H vs Q E hr h => ?_)
  · obtain ⟨x, r, m, rfl, _⟩ := h
    rfl
  · obtain ⟨x, r, m, rfl, ⟨dx, a, hx, ha⟩, o, kk⟩ := h
    have o1 := o.q1; have o2 := o.q2
    refine ⟨_, (pss_cons (ps_asg (pe_fld (pv 0) rfl) (pg_tup (by rfl) (pgs_cons (pg_name (i := 2) scLeastOf.nd rfl (.inl rfl)) (pgs_cons (pg_name (i := 3) scLeastOf.nd rfl (.inl rfl)) pgs_nil))))
      (pss_one (ps_ret (pe_op op_fdivN (pe_op op_add (pe_op op_mul (pv 2) (pv 1)) (pe_fld (pv 0) rfl)) (pv 3))))), ?_⟩
    refine ⟨_, rfl, x, C, dx, _, _, rfl, hx, T.cl, T.n1, fill_times _ _, a, _, rfl, SqT.of ha, rfl, _, _, rfl, _, _, rfl, rfl, ?_⟩
    exact ⟨_, rfl, _, rfl, _, _, rfl, rfl, .inl (mw (b := 12) (by have := o.p1; omega) o.p2 (by decide)), _, rfl, x, C, dx, _, _, rfl, hx, T.cl, T.n2, fill_plus _ _, _, _, rfl, rfl, _, rfl, _, _, rfl, rfl, ⟨by omega, by omega⟩, kk⟩
end
end Ev
namespace Ev
open PySem L2 PySem.Spec PyProof.Rows
theorem Pen.new {L : Addr} {H : Hp} {p q : Addr} {B : Int} {o : HO} (h : Pen L H p B) (n : H q = none) : Pen L (upd H q o) p B := h.keep (fun b u e => by rw [upd_ne (ne_of_none e n)]; exact e)
theorem Pen.some {L : Addr} {H : Hp} {p : Addr} {B : Int} (h : Pen L H p B) : ∃ xs, H p = some (.lst xs) := by
  obtain ⟨ns, t, c, h1, _⟩ := h
  exact ⟨_, h1⟩
theorem Pen.ne {L : Addr} {H : Hp} {p q : Addr} {B : Int} (h : Pen L H p B) (n : H q = none) : q ≠ p := by
  obtain ⟨xs, e⟩ := h.some
  exact (ne_of_none e n).symm
theorem But.free {L p a : Addr} {H H' : Hp} {B : Int} (t : But p H H') (h : Pen L H' p B) (n : H' a = none) : H a = none := by
  cases e : H a with
  | none => rfl
  | some o =>
    have := t a o (h.ne n) e
    rw [n] at this
    cases this
def spPick : Sp := fun vs H Q _ => ∃ (p l L : Addr) (xs : List V) (B : Int), vs = [.ref p, .ref l] ∧ H l = some (.lst xs) ∧ l ≠ p ∧ 1 ≤ xs.length ∧ xs.length ≤ 1000 ∧ B ≤ 1000000 ∧ Pen L H p B ∧
  ∀ (d : V) (H' : Hp), d ∈ xs → But p H H' → Pen L H' p (B + 1) → Q d H'
def spPen (K : PySem.W.Frag) : Sp := fun vs H Q _ => ∃ (a : Addr) (ns : List Int), vs = [.ref a] ∧ SqL K H a (ns.map V.int) ∧ ns.length ≤ 63 ∧
  ∀ (p L : Addr) (H' : Hp), H p = none → Same H H' → Pen L H' p 0 → Q (.ref p) H'
def spLaw (K : PySem.W.Frag) : Sp := fun vs H Q _ => ∃ (a : Addr) (ns : List Int), vs = [.ref a] ∧ SqL K H a (ns.map V.int) ∧ ns.length ≤ 63 ∧ ∀ H', Q (.bl true) H'
theorem But.tup {L p a : Addr} {H H' : Hp} {B : Int} {xs : List V} (h : H a = some (.tup xs)) (pn : Pen L H p B) (t : But p H H') : H' a = some (.tup xs) := by
  obtain ⟨ys, e⟩ := pn.some
  exact t _ _ (ne_of h e (by intro z; cases z)) h
theorem Pen.put {L p D : Addr} {H : Hp} {B : Int} {o : HO} (h : Pen L H p B) (d1 : D ≠ p) (d2 : D ≠ L) : Pen L (upd H D o) p B := by
  obtain ⟨ns, t, c, h1, h2, h3⟩ := h
  exact ⟨ns, t, c, by rw [upd_ne d1.symm]; exact h1, by rw [upd_ne d2.symm]; exact h2, h3⟩
theorem Pen.neL {L p D : Addr} {H : Hp} {B : Int} (h : Pen L H p B) (n : H D = none) : D ≠ L := by
  obtain ⟨ns, t, c, h1, h2, h3⟩ := h
  exact (ne_of_none h2 n).symm
theorem cut_ints (ns : List Int) (h : Int) : ∃ ms : List Int, cutV (ns.map V.int) none (some h) = ms.map V.int ∧ ms.length ≤ ns.length := by
  unfold cutV
  generalize HT.sIx (ns.map V.int).length 0 none = x
  generalize HT.sIx (ns.map V.int).length (ns.map V.int).length (some h) - x = y
  refine ⟨(ns.drop x).take y, ?_, ?_⟩
  · rw [List.map_take, List.map_drop]
  · rw [List.length_take, List.length_drop]; omega
theorem int_at {ns : List Int} {i : Nat} {x : V} (h : (ns.map V.int)[i]? = some x) : ∃ n, ns[i]? = some n ∧ x = .int n := by
  rw [List.getElem?_map] at h
  cases z : ns[i]? with
  | none => rw [z] at h; cases h
  | some n => rw [z] at h; exact ⟨n, rfl, (Option.some.inj h).symm⟩
theorem m64 {q : Int} (h1 : 1 ≤ q) (h2 : q ≤ 8) : -(2 ^ 64) < q ∧ q < 2 ^ 64 := ⟨by omega, by omega⟩
section
variable {P : Program} {w : World} {K : PySem.W.Frag} {mg : Str → Option Value} {base : Heap}
theorem scPick : FnScope ["_law_pen_here", "_law_some"] ["_law_pen_here", "_law_some"] (defScope sPick) := ⟨rfl, rfl, rfl, by decide +kernel, rfl, by decide +kernel, by decide +kernel⟩
theorem ok_pick {f : Addr} {fd : FuncData} (F : Fun K "_law_pick" "_law_pick" sPick f fd) (T : Blt mg) (D : Df P w K mg base 1 "_law_draw" ["_law_pen_here", "_law_many"] spDraw) : FnOk P w K mg base CX0 2 f fd ["_law_pen_here", "_law_some"] spPick := by
  obtain ⟨f1, fd1, G1, g1, k1, b1⟩ := D.ex
  refine F.ok scPick (fun vs H Q E h => ?_) (fun cdv A outer s H vs Q E hr h => ?_)
  · obtain ⟨p, l, L, xs, B, rfl, _⟩ := h
    rfl
  · obtain ⟨p, l, L, xs, B, rfl, hl, hne, x1, x2, hB, hp, kk⟩ := h
    refine ⟨_, pss_one (ps_ret (pe_ix ix_list (pv 1) (pe_call G1 hr (by rfl) g1 k1 b1 .nil pass0 (pa_cons (pv 0) (pa_cons (pe_callB call_len_seq (by rfl) T.len PySem.boot_len (pa_cons (pv 1) pa_nil)) pa_nil))) (fun _ _ => rfl))), ?_⟩
    refine ⟨_, rfl, _, rfl, _, rfl, l, _, rfl, .inl (SqL.of hl), p, L, _, B, rfl, by omega, by omega, hB, hp, fun d H1 bt pn d0 d1 => ?_⟩
    obtain ⟨j, rfl⟩ := Int.eq_ofNat_of_zero_le d0
    have hj : j < xs.length := by omega
    refine ⟨l, xs, _, xs[j], rfl, rfl, SqL.of (bt _ _ hne hl), atI_nat (List.getElem?_eq_getElem hj), ?_⟩
    exact kk _ _ (List.getElem_mem hj) bt pn
theorem scPen : FnScope ["_law_script"] ["_law_script"] (defScope sPen) := ⟨rfl, rfl, rfl, by decide +kernel, rfl, by decide +kernel, by decide +kernel⟩
theorem ok_pen {f : Addr} {fd : FuncData} (F : Fun K "_law_pen" "_law_pen" sPen f fd) (T : Blt mg) : FnOk P w K mg base CX0 1 f fd ["_law_script"] (spPen K) := by
  refine F.ok scPen (fun vs H Q E h => ?_) (fun cdv A outer s H vs Q E hr h => ?_)
  · obtain ⟨a, ns, rfl, _⟩ := h
    rfl
  · obtain ⟨a, ns, rfl, hS, hlen, kk⟩ := h
    refine ⟨_, pss_one (ps_ret (pe_lst (pa_cons (pe_callTy call_list_of (by rfl) T.list (by decide +kernel) (pa_cons (pe_slice sl_list (pv 0) po_none (po_some pe_int)) pa_nil)) (pa_cons pe_int (pa_cons pe_int pa_nil))))), ?_⟩
    refine ⟨_, rfl, _, rfl, a, _, rfl, hS, fun l1 nl1 => ⟨l1, _, rfl, .inl (SqL.of upd_same), fun l2 nl2 => ⟨(by show 3 ≤ sizeLine; decide), fun p np => ?_⟩⟩⟩
    obtain ⟨ms, e1, e2⟩ := cut_ints ns 63
    rw [e1] at nl2 np ⊢
    have s1 : Same H (upd (upd H l1 (.lst (ms.map V.int))) l2 (.lst (ms.map V.int))) := (same_new nl1).trans (same_new nl2)
    have s2 := s1.trans (same_new (o := .lst [.ref l2, .int 0, .int 0]) np)
    refine kk p l2 _ ?_ s2 ⟨ms, 0, 0, upd_same, by rw [upd_ne (ne_of_none upd_same np)]; exact upd_same, ne_of_none upd_same np, by omega, by decide, by decide, by decide⟩
    cases z : H p with
    | none => rfl
    | some o => rw [s1 _ _ z] at np; cases np
end
end Ev
namespace Ev
open PySem L2 PySem.Spec PyProof.Rows RZ
def tupR (r : Fr) : List V := [.int r.p, .int r.q, .int r.k, .int r.c, .int r.j]
def spLNums : Sp := fun vs H Q _ => ∃ (p L : Addr) (B : Int), vs = [.ref p] ∧ B ≤ 900000 ∧ Pen L H p B ∧
  ∀ (a : Addr) (r : Fr) (H' : Hp), r.ok → H a = none → H' a = some (.tup (tupR r)) → But p H H' → Pen L H' p (B + 10) → Q (.ref a) H'
def spLRule (C : Addr) : Sp := fun vs H Q _ => ∃ (a : Addr) (r : Fr), vs = [.ref a] ∧ H a = some (.tup (tupR r)) ∧ r.ok ∧ ∀ x H', Same H H' → FAt C H' x r → Q (.ref x) H'
theorem i5_0 {a b c d e : V} : atI [a, b, c, d, e] 0 = some a := atI_nat (j := 0) rfl
theorem i5_1 {a b c d e : V} : atI [a, b, c, d, e] 1 = some b := atI_nat (j := 1) rfl
theorem i5_2 {a b c d e : V} : atI [a, b, c, d, e] 2 = some c := atI_nat (j := 2) rfl
theorem i5_3 {a b c d e : V} : atI [a, b, c, d, e] 3 = some d := atI_nat (j := 3) rfl
theorem i5_4 {a b c d e : V} : atI [a, b, c, d, e] 4 = some e := atI_nat (j := 4) rfl
section
variable {P : Program} {w : World} {K : PySem.W.Frag} {mg : Str → Option Value} {base : Heap}
theorem scLNumbers : FnScope ["_law_pen_here", "_law_kind", "_law_pair", "_law_extra"] ["_law_pen_here"] (defScope sLNumbers) := ⟨rfl, rfl, rfl, by decide +kernel, rfl, by decide +kernel, by decide +kernel⟩
theorem ok_lnums {f : Addr} {fd : FuncData} (F : Fun K "_law_numbers" "_law_numbers" sLNumbers f fd) (T : Blt mg) (D1 : Df P w K mg base 1 "_law_draw" ["_law_pen_here", "_law_many"] spDraw) : FnOk P w K mg base CX0 2 f fd ["_law_pen_here"] spLNums := by
  obtain ⟨f1, fd1, G1, g1, k1, b1⟩ := D1.ex
  refine F.ok scLNumbers (fun vs H Q E h => ?_) (fun cdv A outer s H vs Q E hr h => ?_)
  · obtain ⟨p, L, B, rfl, _⟩ := h
    rfl
  · obtain ⟨p, L, B, rfl, hB, pn, kk⟩ := h
    -- from the pair on
    obtain ⟨tR, hR, qR⟩ : ∃ t : TS, PSs (cxOf CX0 P w K mg base ["_law_pen_here", "_law_kind", "_law_pair", "_law_extra"] "_law_numbers" (defScope sLNumbers) f cdv A outer s H E).nox ((defBody sLNumbers).drop 3) t ∧ ∀ (G : Hp) (a : Addr) (u v kd : Int), G a = some (.tup [.int u, .int v]) → 1 ≤ u ∧ u ≤ 12 → 1 ≤ v ∧ v ≤ 12 → But p H G → Pen L G p (B + 4) →
        t { nx := fun _ H' => Q .non H', rt := Q } [some (.ref p), some (.int kd), some (.ref a), none] G := by
      refine ⟨_, (pss_cons (ps_set (i := 3) scLNumbers.nd rfl (.inl rfl) (pe_ifExp (pt_cmpR op_eq (pe_call G1 hr (by rfl) g1 k1 b1 .nil pass0 (pa_cons (pv 0) (pa_cons pe_int pa_nil))) pe_int (nomark _)) (pe_op op_sub (pe_call G1 hr (by rfl) g1 k1 b1 .nil pass0 (pa_cons (pv 0) (pa_cons pe_int pa_nil))) pe_int) pe_int))
        (pss_one (ps_ret (pe_tup (pa_cons (pe_ix ix_tup (pv 2) pe_int (fun _ _ => rfl)) (pa_cons (pe_ix ix_tup (pv 2) pe_int (fun _ _ => rfl)) (pa_cons (pv 3) (pa_cons (pe_op op_add pe_int (pe_call G1 hr (by rfl) g1 k1 b1 .nil pass0 (pa_cons (pv 0) (pa_cons pe_int pa_nil)))) (pa_cons (pe_op op_add pe_int (pe_call G1 hr (by rfl) g1 k1 b1 .nil pass0 (pa_cons (pv 0) (pa_cons pe_int pa_nil)))) pa_nil))))))))), ?_⟩
      intro G a u v kd ha hu hv bt pn
      have fin : ∀ (G2 : Hp) (e : Int), -12 ≤ e → e ≤ 12 → But p H G2 → G2 a = some (.tup [.int u, .int v]) → Pen L G2 p (B + 6) → ∀ (d1 d2 : Int) (G3 G4 : Hp), 0 ≤ d1 → d1 < 5 → 0 ≤ d2 → d2 < 5 → But p G2 G3 → But p G3 G4 → Pen L G4 p (B + 8) → ∀ t, G4 t = none → Q (.ref t) (upd G4 t (.tup [.int u, .int v, .int e, .int (1 + d1), .int (2 + d2)])) := by
        intro G2 e e1 e2 bt2 ha2 pn2 d1 d2 G3 G4 h1 h2 h3 h4 bt3 bt4 pn4 t nt
        have b4 : But p H G4 := bt2.trans (bt3.trans bt4)
        exact kk t ⟨u, v, e, 1 + d1, 2 + d2⟩ _ ⟨hu.1, hu.2, hv.1, hv.2, e1, e2, by show 1 ≤ 1 + d1; omega, by show 1 + d1 ≤ 5; omega, by show 2 ≤ 2 + d2; omega, by show 2 + d2 ≤ 6; omega⟩ (b4.free pn4 nt) upd_same (b4.trans (But.upd_new nt)) ((pn4.new nt).mono (by omega))
      refine ⟨_, rfl, p, L, _, _, rfl, by decide, by decide, by omega, pn, fun d G1 t1 p1 a1 c1 => ⟨rfl, _, rfl, ite2 (fun e => ?_) (fun e => ?_)⟩⟩
      · refine ⟨_, rfl, p, L, _, _, rfl, by decide, by decide, by omega, p1, fun d2 G2 t2 p2 a2 c2 => ⟨_, _, rfl, rfl, ?_⟩⟩
        have bt2 := bt.trans (t1.trans t2)
        have ha2 : G2 a = some (.tup [.int u, .int v]) := But.tup ha pn (t1.trans t2)
        refine ⟨_, rfl, a, _, _, _, rfl, rfl, SqT.of ha2, tup0, _, rfl, a, _, _, _, rfl, rfl, SqT.of ha2, tup1, _, rfl, _, rfl, p, L, _, _, rfl, by decide, by decide, by omega, p2, fun d3 G3 t3 p3 a3 c3 => ⟨_, _, rfl, rfl, ?_⟩⟩
        refine ⟨_, rfl, p, L, _, _, rfl, by decide, by decide, by omega, p3, fun d4 G4 t4 p4 a4 c4 => ⟨_, _, rfl, rfl, (by show 5 ≤ sizeLine; decide), fun t nt => ?_⟩⟩
        exact fin G2 (d2 - 12) (by omega) (by omega) bt2 ha2 (p2.mono (by omega)) d3 d4 G3 G4 a3 c3 a4 c4 t3 t4 (p4.mono (by omega)) t nt
      · have bt2 := bt.trans t1
        have ha2 : G1 a = some (.tup [.int u, .int v]) := But.tup ha pn t1
        refine ⟨_, rfl, a, _, _, _, rfl, rfl, SqT.of ha2, tup0, _, rfl, a, _, _, _, rfl, rfl, SqT.of ha2, tup1, _, rfl, _, rfl, p, L, _, _, rfl, by decide, by decide, by omega, p1, fun d3 G3 t3 p3 a3 c3 => ⟨_, _, rfl, rfl, ?_⟩⟩
        refine ⟨_, rfl, p, L, _, _, rfl, by decide, by decide, by omega, p3, fun d4 G4 t4 p4 a4 c4 => ⟨_, _, rfl, rfl, (by show 5 ≤ sizeLine; decide), fun t nt => ?_⟩⟩
        exact fin G1 0 (by omega) (by omega) bt2 ha2 (p1.mono (by omega)) d3 d4 G3 G4 a3 c3 a4 c4 t3 t4 (p4.mono (by omega)) t nt
    refine ⟨_, (pss_cons (ps_set (i := 1) scLNumbers.nd rfl (.inl rfl) (pe_call G1 hr (by rfl) g1 k1 b1 .nil pass0 (pa_cons (pv 0) (pa_cons pe_int pa_nil))))
      (pss_cons (ps_set (i := 2) scLNumbers.nd rfl (.inl rfl) (pe_ix ix_list (pe_lst (pa_cons (pe_tup (pa_cons pe_int (pa_cons pe_int pa_nil))) (pa_cons (pe_tup (pa_cons pe_int (pa_cons pe_int pa_nil))) (pa_cons (pe_tup (pa_cons pe_int (pa_cons pe_int pa_nil))) (pa_cons (pe_tup (pa_cons pe_int (pa_cons pe_int pa_nil))) (pa_cons (pe_tup (pa_cons pe_int (pa_cons pe_int pa_nil))) pa_nil)))))) (pv 1) (fun _ _ => rfl)))
      (pss_cons (ps_if (pt_cmpR op_gt (pv 1) pe_int (nomark _))
        (pss_one (ps_set (i := 2) scLNumbers.nd rfl (.inl rfl) (pe_tup (pa_cons (pe_op op_add pe_int (pe_call G1 hr (by rfl) g1 k1 b1 .nil pass0 (pa_cons (pv 0) (pa_cons pe_int pa_nil)))) (pa_cons (pe_op op_add pe_int (pe_call G1 hr (by rfl) g1 k1 b1 .nil pass0 (pa_cons (pv 0) (pa_cons pe_int pa_nil)))) pa_nil))))) pss_nil)
      hR))), ?_⟩
    refine ⟨_, rfl, p, L, _, _, rfl, by decide, by decide, by omega, pn, fun d H1 t1 p1 a1 c1 => ?_⟩
    refine ⟨(by show 2 ≤ sizeLine; decide), fun x1 n1 => ⟨(by show 2 ≤ sizeLine; decide), fun x2 n2 => ⟨(by show 2 ≤ sizeLine; decide), fun x3 n3 => ⟨(by show 2 ≤ sizeLine; decide), fun x4 n4 => ⟨(by show 2 ≤ sizeLine; decide), fun x5 n5 => ⟨(by show 5 ≤ sizeLine; decide), fun l nl => ?_⟩⟩⟩⟩⟩⟩
    -- five pairs
    have e1 : upd H1 x1 (.tup [.int 1, .int 2]) x1 = some (.tup [.int 1, .int 2]) := upd_same
    have s1 : Same H1 (upd H1 x1 (.tup [.int 1, .int 2])) := same_new n1
    generalize upd H1 x1 (.tup [.int 1, .int 2]) = G1 at e1 s1 n2 n3 n4 n5 nl ⊢
    have e2 : upd G1 x2 (.tup [.int 2, .int 3]) x2 = some (.tup [.int 2, .int 3]) := upd_same
    have s2 : Same G1 (upd G1 x2 (.tup [.int 2, .int 3])) := same_new n2
    generalize upd G1 x2 (.tup [.int 2, .int 3]) = G2 at e2 s2 n3 n4 n5 nl ⊢
    have e3 : upd G2 x3 (.tup [.int 3, .int 4]) x3 = some (.tup [.int 3, .int 4]) := upd_same
    have s3 : Same G2 (upd G2 x3 (.tup [.int 3, .int 4])) := same_new n3
    generalize upd G2 x3 (.tup [.int 3, .int 4]) = G3 at e3 s3 n4 n5 nl ⊢
    have e4 : upd G3 x4 (.tup [.int 1, .int 1]) x4 = some (.tup [.int 1, .int 1]) := upd_same
    have s4 : Same G3 (upd G3 x4 (.tup [.int 1, .int 1])) := same_new n4
    generalize upd G3 x4 (.tup [.int 1, .int 1]) = G4 at e4 s4 n5 nl ⊢
    have e5 : upd G4 x5 (.tup [.int 1, .int 1]) x5 = some (.tup [.int 1, .int 1]) := upd_same
    have s5 : Same G4 (upd G4 x5 (.tup [.int 1, .int 1])) := same_new n5
    generalize upd G4 x5 (.tup [.int 1, .int 1]) = G5 at e5 s5 nl ⊢
    have s6 : Same G5 (upd G5 l (.lst [.ref x1, .ref x2, .ref x3, .ref x4, .ref x5])) := same_new nl
    have hl : upd G5 l (.lst [.ref x1, .ref x2, .ref x3, .ref x4, .ref x5]) l = some (.lst [.ref x1, .ref x2, .ref x3, .ref x4, .ref x5]) := upd_same
    generalize upd G5 l (.lst [.ref x1, .ref x2, .ref x3, .ref x4, .ref x5]) = G6 at s6 hl ⊢
    have sa : Same H1 G6 := s1.trans (s2.trans (s3.trans (s4.trans (s5.trans s6))))
    obtain ⟨xa, u, v, hx, ha, hu, hv⟩ : ∃ (xa : Addr) (u v : Int), atI [V.ref x1, .ref x2, .ref x3, .ref x4, .ref x5] d = some (.ref xa) ∧ G6 xa = some (.tup [.int u, .int v]) ∧ (1 ≤ u ∧ u ≤ 12) ∧ (1 ≤ v ∧ v ≤ 12) := by
      rcases (show d = 0 ∨ d = 1 ∨ d = 2 ∨ d = 3 ∨ d = 4 by omega) with rfl | rfl | rfl | rfl | rfl
      · exact ⟨x1, 1, 2, i5_0, (s2.trans (s3.trans (s4.trans (s5.trans s6)))) _ _ e1, by decide, by decide⟩
      · exact ⟨x2, 2, 3, i5_1, (s3.trans (s4.trans (s5.trans s6))) _ _ e2, by decide, by decide⟩
      · exact ⟨x3, 3, 4, i5_2, (s4.trans (s5.trans s6)) _ _ e3, by decide, by decide⟩
      · exact ⟨x4, 1, 1, i5_3, (s5.trans s6) _ _ e4, by decide, by decide⟩
      · exact ⟨x5, 1, 1, i5_4, s6 _ _ e5, by decide, by decide⟩
    have p6 := p1.keep sa
    have b6 := t1.trans (Same.but sa)
    refine ⟨_, rfl, l, _, _, _, rfl, rfl, SqL.of hl, hx, ?_⟩
    refine ⟨_, rfl, _, _, rfl, rfl, _, rfl, ite2 (fun e => ?_) (fun e => ?_)⟩
    · refine ⟨_, rfl, p, L, _, _, rfl, by decide, by decide, by omega, p6, fun d3 G7 t3 p3 a3 c3 => ⟨_, _, rfl, rfl, ?_⟩⟩
      refine ⟨_, rfl, p, L, _, _, rfl, by decide, by decide, by omega, p3, fun d4 G8 t4 p4 a4 c4 => ⟨_, _, rfl, rfl, (by show 2 ≤ sizeLine; decide), fun t nt => ?_⟩⟩
      exact qR _ t (1 + d3) (1 + d4) d upd_same ⟨by omega, by omega⟩ ⟨by omega, by omega⟩ (b6.trans (t3.trans (t4.trans (But.upd_new nt)))) ((p4.new nt).mono (by omega))
    · exact qR G6 xa u v d ha hu hv b6 (p6.mono (by omega))
end
end Ev
namespace Ev
open PySem L2 PySem.Spec PyProof.Rows RZ
def spFillOk (C : Addr) : Sp := fun vs H Q _ => ∃ (x dx a : Addr) (r : Fr), vs = [.ref x, .ref a, .int r.k, .int r.c, .int r.j] ∧ H x = some (.ins C dx []) ∧ H a = some (.tup [.int r.p, .int r.q]) ∧ r.ok ∧
  ∀ H', But x H H' → H' x = some (.ins C dx (fillF a r)) → Q .non H'
theorem pairQ_int {H : Hp} {a : Addr} {i j : Int} (h : H a = some (.tup [.int i, .int j])) : PairQ H (.ref a) (some [.int i, .int j]) := ⟨a, rfl, h, (by show 2 ≤ 1000; decide), fun x m => by
  simp only [List.mem_cons, List.not_mem_nil, or_false] at m
  rcases m with rfl | rfl <;> exact .inl ⟨_, rfl⟩⟩
theorem outF_fr {r : Fr} (o : r.ok) : outF (some [.int r.p, .int r.q]) (.int r.k) (.int r.c) (.int r.j) = .ok := by
  unfold outF
  rw [if_neg (by show ¬ (inB 1 12 (.int r.p) && inB 1 12 (.int r.q)) = false; rw [inB_in o.p1 o.p2, inB_in o.q1 o.q2]; simp), if_neg (by rw [inB_in o.k1 o.k2]; simp), if_neg (by rw [inB_in o.c1 o.c2]; simp), if_neg (by rw [inB_in o.j1 o.j2]; simp)]
theorem fill_ok {C B N : Addr} {vs : List V} {H : Hp} {Q : VK} {E E' : XK} (h : spFillOk C vs H Q E) : spFillInit C B N vs H Q E' := by
  obtain ⟨x, dx, a, r, rfl, hx, ha, o, kk⟩ := h
  refine ⟨x, dx, _, _, _, _, _, rfl, hx, pairQ_int ha, .inl ⟨_, rfl⟩, .inl ⟨_, rfl⟩, .inl ⟨_, rfl⟩, ?_⟩
  rw [outF_fr o]
  intro c j ec ej H' b e
  obtain rfl := V.int.inj ec
  obtain rfl := V.int.inj ej
  exact kk H' b e
section
variable {P : Program} {w : World} {K : PySem.W.Frag} {mg : Str → Option Value} {base : Heap}
theorem scLRule : FnScope ["_law_told"] ["_law_told"] (defScope sLRule) := ⟨rfl, rfl, rfl, by decide +kernel, rfl, by decide +kernel, by decide +kernel⟩
theorem ok_lrule {f C fI : Addr} {fd fdI : FuncData} {g : List Value → List Value → List Value} (F : Fun K "_law_rule" "_law_rule" sLRule f fd) (gC : mg "FillRule" = some (.ref C)) (M : Mk K C fI)
    (GI : FnOk P w K mg base CX0 5 fI fdI ["self", "times", "plus", "cut_of", "join_of"] (spFillOk C)) (bI : KBn K fdI ["self", "times", "plus", "cut_of", "join_of"] 3 ["cut_of", "join_of"] g (fun vs zs => vs ++ zs)) :
    FnOk P w K mg base CX0 7 f fd ["_law_told"] (spLRule C) := by
  refine F.ok scLRule (fun vs H Q E h => ?_) (fun cdv A outer s H vs Q E hr h => ?_)
  · obtain ⟨a, r, rfl, _⟩ := h
    rfl
  · obtain ⟨a, r, rfl, ha, o, kk⟩ := h
    refine ⟨_, (pss_one (ps_ret (pe_makeN (n := 2) M GI hr (by rfl) gC bI pass0 (pa_cons (pe_tup (pa_cons (pe_ix ix_tup (pv 0) pe_int (fun _ _ => rfl)) (pa_cons (pe_ix ix_tup (pv 0) pe_int (fun _ _ => rfl)) pa_nil))) (pa_cons (pe_ix ix_tup (pv 0) pe_int (fun _ _ => rfl)) pa_nil)) (pk_cons (pe_ix ix_tup (pv 0) pe_int (fun _ _ => rfl)) (pk_cons (pe_ix ix_tup (pv 0) pe_int (fun _ _ => rfl)) pk_nil))))), ?_⟩
    refine ⟨_, rfl, a, _, _, _, rfl, rfl, SqT.of ha, i5_0, _, rfl, a, _, _, _, rfl, rfl, SqT.of ha, i5_1, (by show 2 ≤ sizeLine; decide), fun t nt => ?_⟩
    have s1 : Same H (upd H t (.tup [.int r.p, .int r.q])) := same_new nt
    have ht : upd H t (.tup [.int r.p, .int r.q]) t = some (.tup [.int r.p, .int r.q]) := upd_same
    generalize upd H t (.tup [.int r.p, .int r.q]) = H1 at s1 ht ⊢
    have ha1 := s1 _ _ ha
    refine ⟨_, rfl, a, _, _, _, rfl, rfl, SqT.of ha1, i5_2, _, rfl, a, _, _, _, rfl, rfl, SqT.of ha1, i5_3, _, rfl, a, _, _, _, rfl, rfl, SqT.of ha1, i5_4, rfl, rfl, fun x dx nx ndx nex => ?_⟩
    have keep : ∀ (o1 o2 : HO) (b : Addr) (u : HO), H1 b = some u → upd (upd H1 dx o1) x o2 b = some u := fun o1 o2 b u e => by
      rw [upd_ne (ne_of_none e nx), upd_ne (ne_of_none e ndx)]; exact e
    refine ⟨x, dx, t, r, rfl, upd_same, keep _ _ _ _ ht, o, fun H3 t3 hx3 => ⟨rfl, ?_⟩⟩
    have s3 : ∀ b u, H1 b = some u → H3 b = some u := fun b u e => t3 _ _ (ne_of_none e nx) (keep _ _ _ _ e)
    exact kk x H3 (fun b u e => s3 _ _ (s1 _ _ e)) ⟨dx, t, hx3, s3 _ _ ht⟩
end
end Ev
namespace Ev
open PySem L2 PySem.Spec PyProof.Rows RZ
def spCrucial (C : Addr) : Sp := fun vs H Q _ => ∃ (x : Addr) (r : Fr), vs = [.ref x] ∧ FAt C H x r ∧ Q (.int r.many) H
def spRightFor (C : Addr) : Sp := fun vs H Q _ => ∃ (x : Addr) (r : Fr) (m : Int), vs = [.ref x, .int m] ∧ FAt C H x r ∧ r.ok ∧ Q (.bl (r.right m)) H
theorem Fr.many_le {r : Fr} (o : r.ok) : 2 ≤ r.many ∧ r.many ≤ 6 := by
  have := o.c1; have := o.j1; have := o.j2
  unfold Fr.many
  by_cases z : r.c + 1 < r.j
  · rw [if_pos z]; omega
  · rw [if_neg z]; omega
section
variable {P : Program} {w : World} {K : PySem.W.Frag} {mg : Str → Option Value} {base : Heap}
theorem scCrucialOf : FnScope ["rule"] ["rule"] (defScope sCrucialOf) := ⟨rfl, rfl, rfl, by decide +kernel, rfl, by decide +kernel, by decide +kernel⟩
theorem ok_crucial {f C : Addr} {fd : FuncData} (F : Fun K "crucial_of" "crucial_of" sCrucialOf f fd) (T : FCls K C) : FnOk P w K mg base CX0 1 f fd ["rule"] (spCrucial C) := by
  refine F.ok scCrucialOf (fun vs H Q E h => ?_) (fun cdv A outer s H vs Q E hr h => ?_)
  · obtain ⟨x, r, rfl, _⟩ := h
    rfl
  · obtain ⟨x, r, rfl, ⟨dx, a, hx, ha⟩, kk⟩ := h
    refine ⟨_, (pss_one (ps_ret (pe_ifExp (pt_cmpR op_lt (pe_op op_add (pe_fld (pv 0) rfl) pe_int) (pe_fld (pv 0) rfl) (nomark _)) (pe_op op_add (pe_fld (pv 0) rfl) pe_int) (pe_fld (pv 0) rfl)))), ?_⟩
    refine ⟨_, rfl, x, C, dx, _, _, rfl, hx, T.cl, T.n3, fill_cut _ _, _, _, rfl, rfl, _, rfl, x, C, dx, _, _, rfl, hx, T.cl, T.n4, fill_join _ _, _, _, rfl, rfl, _, rfl, ite2 (fun e => ?_) (fun e => ?_)⟩
    · have e := of_decide_eq_true e
      unfold Fr.many at kk
      rw [if_pos e] at kk
      exact ⟨_, rfl, x, C, dx, _, _, rfl, hx, T.cl, T.n3, fill_cut _ _, _, _, rfl, rfl, kk⟩
    · have e : ¬ (r.c + 1 < r.j) := fun z => e (decide_eq_true z)
      unfold Fr.many at kk
      rw [if_neg e] at kk
      exact ⟨_, rfl, x, C, dx, _, _, rfl, hx, T.cl, T.n4, fill_join _ _, kk⟩
theorem scIsRightFor : FnScope ["rule", "most", "least", "many"] ["rule", "most"] (defScope sIsRightFor) := ⟨rfl, rfl, rfl, by decide +kernel, rfl, by decide +kernel, by decide +kernel⟩
theorem ok_rightFor {f C : Addr} {fd : FuncData} (F : Fun K "is_right_for" "is_right_for" sIsRightFor f fd) (D1 : Df P w K mg base 1 "least_of" ["rule", "most"] (spLeastOf C)) (D2 : Df P w K mg base 1 "crucial_of" ["rule"] (spCrucial C)) : FnOk P w K mg base CX0 2 f fd ["rule", "most"] (spRightFor C) := by
  obtain ⟨f1, fd1, G1, g1, k1, b1⟩ := D1.ex
  obtain ⟨f2, fd2, G2, g2, k2, b2⟩ := D2.ex
  refine F.ok scIsRightFor (fun vs H Q E h => ?_) (fun cdv A outer s H vs Q E hr h => ?_)
  · obtain ⟨x, r, m, rfl, _⟩ := h
    rfl
  · obtain ⟨x, r, m, rfl, fa, o, kk⟩ := h
    refine ⟨_, (pss_cons (ps_par (i := 2) (j := 3) (by rfl) scIsRightFor.nd rfl rfl (by decide) rfl rfl (pa_cons (pe_call G1 hr (by rfl) g1 k1 b1 .nil pass0 (pa_cons (pv 0) (pa_cons (pv 1) pa_nil))) (pa_cons (pe_call G2 hr (by rfl) g2 k2 b2 .nil pass0 (pa_cons (pv 0) pa_nil)) pa_nil)) (by rfl))
      (pss_one (ps_ret (pe_and (pe_cmpR op_le pe_int (pv 2) (nomark _)) (pe_one (pe_cmpR op_le (pe_op op_mul (pv 3) (pv 2)) (pe_op op_add (pe_op op_mul (pe_op op_sub (pv 3) pe_int) (pv 1)) pe_int) (nomark _))))))), ?_⟩
    refine ⟨_, rfl, _, rfl, x, r, m, rfl, fa, o, _, rfl, x, r, rfl, fa, _, _, rfl, ?_⟩
    have ⟨m1, m2⟩ := Fr.many_le o
    refine ⟨_, rfl, _, _, rfl, rfl, _, rfl, ite2 (fun e => ?_) (fun e => ?_)⟩
    · refine ⟨_, rfl, _, rfl, _, _, rfl, rfl, .inl (mw (b := 12) (by omega) (by omega) (by decide)), _, rfl, _, _, rfl, rfl, _, rfl, _, _, rfl, rfl, .inl (mw (b := 12) (by omega) (by omega) (by decide)), _, _, rfl, rfl, _, _, rfl, rfl, ?_⟩
      unfold Fr.right at kk
      rw [show decide (1 ≤ r.least m) = true from e, Bool.true_and] at kk
      exact kk
    · unfold Fr.right at kk
      rw [show decide (1 ≤ r.least m) = false from Bool.eq_false_iff.mpr e, Bool.false_and] at kk
      exact kk
end
end Ev
namespace Ev
open PySem L2 PySem.Spec PyProof.Rows RZ
abbrev nRS : List Str := ["rule", "size", "over", "under", "least", "many", "first", "slack", "fall", "later"]
abbrev nRSs : List Str := ["rule", "found", "size", "first", "last"]
/-! Spans of right sizes, as the program tells them. -/
def Fr.fall (r : Fr) : Int := r.many * r.p - (r.many - 1) * r.q
def Fr.slack (r : Fr) (s : Int) : Int := (r.many - 1) * s + 1 - r.many * r.least s
def Fr.first (r : Fr) (s : Int) : Int := if r.least s < 1 then -((r.least s - 1).fdiv r.p) else 0
def Fr.later (r : Fr) (s : Int) : Int := -((r.slack s).fdiv (-r.fall))
def Fr.span (r : Fr) (s : Int) : Int × Option Int :=
  if r.fall > 0 then (r.first s, some ((r.slack s).fdiv r.fall)) else if r.slack s ≥ 0 then (r.first s, none) else if r.fall = 0 then (r.first s, some (-1)) else ((if r.later s > r.first s then r.later s else r.first s), none)
def optV : Option Int → V
  | some i => .int i
  | none => .non
def spanV (r : Fr) (s : Int) : List V := [.int (r.span s).1, optV (r.span s).2]
def spanT (r : Fr) (s : Int) : List V := [.int s, .int (r.span s).1, optV (r.span s).2]
theorem Fr.fall_bd {r : Fr} (o : r.ok) : -60 ≤ r.fall ∧ r.fall ≤ 72 := by
  obtain ⟨m1, m2⟩ := Fr.many_le o
  have := o.p1; have := o.p2; have := o.q1; have := o.q2
  unfold Fr.fall
  obtain e | e | e | e | e : r.many = 2 ∨ r.many = 3 ∨ r.many = 4 ∨ r.many = 5 ∨ r.many = 6 := by omega
  all_goals rw [e]; constructor <;> omega
def spRSpan (C : Addr) : Sp := fun vs H Q _ => ∃ (x : Addr) (r : Fr) (s : Int), vs = [.ref x, .int s] ∧ FAt C H x r ∧ r.ok ∧ ∀ t H', Same H H' → H' t = some (.tup (spanV r s)) → Q (.ref t) H'
/-- a list of triples -/
def SpansAt (H : Hp) (r : Fr) (as : List Addr) : Prop := ∀ (i : Nat) (a : Addr), as[i]? = some a → H a = some (.tup (spanT r (2 + (i : Int))))
theorem SpansAt.keep {H H' : Hp} {r : Fr} {as : List Addr} (h : SpansAt H r as) (k : Same H H') : SpansAt H' r as := fun i a e => k _ _ (h i a e)
def spRSpans (C : Addr) : Sp := fun vs H Q _ => ∃ (x : Addr) (r : Fr), vs = [.ref x] ∧ FAt C H x r ∧ r.ok ∧ ∀ l as H', Same H H' → H' l = some (.lst (as.map V.ref)) → as.length = r.q.toNat → SpansAt H' r as → Q (.ref l) H'
section
variable {P : Program} {w : World} {K : PySem.W.Frag} {mg : Str → Option Value} {base : Heap}
theorem scRightSpan : FnScope nRS ["rule", "size"] (defScope sRightSpan) := ⟨rfl, rfl, rfl, by decide +kernel, rfl, by decide +kernel, by decide +kernel⟩
theorem ok_rightSpan {f C : Addr} {fd : FuncData} (F : Fun K "right_span" "right_span" sRightSpan f fd) (T : FCls K C) (D1 : Df P w K mg base 1 "least_of" ["rule", "most"] (spLeastOf C)) (D2 : Df P w K mg base 1 "crucial_of" ["rule"] (spCrucial C)) : FnOk P w K mg base CX0 2 f fd ["rule", "size"] (spRSpan C) := by
  obtain ⟨f1, fd1, G1, g1, k1, b1⟩ := D1.ex
  obtain ⟨f2, fd2, G2, g2, k2, b2⟩ := D2.ex
  refine F.ok scRightSpan (fun vs H Q E h => ?_) (fun cdv A outer s H vs Q E hr h => ?_)
  · obtain ⟨x, r, m, rfl, _⟩ := h
    rfl
  · obtain ⟨x, r, m, rfl, fa, o, kk⟩ := h
    obtain ⟨dx, a, hx, ha⟩ := id fa
    have p1 := o.p1; have p2 := o.p2; have q1 := o.q1; have q2 := o.q2
    obtain ⟨n1, n2⟩ := Fr.many_le o
    obtain ⟨f1', f2'⟩ := Fr.fall_bd o
    obtain ⟨tB, hB, qB⟩ : ∃ t : TS, PSs (cxOf CX0 P w K mg base nRS "right_span" (defScope sRightSpan) f cdv A outer s H E).nox ((defBody sRightSpan).drop 3) t ∧ ∀ (v7 v8 v9 : Option V),
        t { nx := fun _ H' => Q .non H', rt := Q } [some (.ref x), some (.int m), some (.int r.p), some (.int r.q), some (.int (r.least m)), some (.int r.many), some (.int (r.first m)), v7, v8, v9] H := by
      refine ⟨_, (pss_cons (ps_set (i := 7) scRightSpan.nd rfl (.inl rfl) (pe_op op_sub (pe_op op_add (pe_op op_mul (pe_op op_sub (pv 5) pe_int) (pv 1)) pe_int) (pe_op op_mul (pv 5) (pv 4))))
      (pss_cons (ps_set (i := 8) scRightSpan.nd rfl (.inl rfl) (pe_op op_sub (pe_op op_mul (pv 5) (pv 2)) (pe_op op_mul (pe_op op_sub (pv 5) pe_int) (pv 3))))
      (pss_cons (ps_if (pt_cmpR op_gt (pv 8) pe_int (nomark _))
        (pss_one (ps_ret (pe_tup (pa_cons (pv 6) (pa_cons (pe_op op_fdivN (pv 7) (pv 8)) pa_nil))))) pss_nil)
      (pss_cons (ps_if (pt_cmpR op_ge (pv 7) pe_int (nomark _))
        (pss_one (ps_ret (pe_tup (pa_cons (pv 6) (pa_cons pe_non pa_nil))))) pss_nil)
      (pss_cons (ps_if (pt_cmpR op_eq (pv 8) pe_int (nomark _))
        (pss_one (ps_ret (pe_tup (pa_cons (pv 6) (pa_cons (pe_un un_neg pe_int) pa_nil))))) pss_nil)
      (pss_cons (ps_set (i := 9) scRightSpan.nd rfl (.inl rfl) (pe_un un_neg (pe_op op_fdivN (pv 7) (pe_un un_neg (pv 8)))))
      (pss_one (ps_ret (pe_tup (pa_cons (pe_ifExp (pt_cmpR op_gt (pv 9) (pv 6) (nomark _)) (pv 9) (pv 6)) (pa_cons pe_non pa_nil))))))))))), ?_⟩
      intro v7 v8 v9
      refine ⟨_, rfl, _, _, rfl, rfl, _, rfl, _, _, rfl, rfl, .inl (mw (b := 12) (by omega) (by omega) (by decide)), _, _, rfl, rfl, _, rfl, _, rfl, _, _, rfl, rfl, .inl (mw (b := 12) (by omega) (by omega) (by decide)), _, _, rfl, rfl, ?_⟩
      refine ⟨_, rfl, _, rfl, _, _, rfl, rfl, .inl (mw (b := 12) (by omega) (by omega) (by decide)), _, rfl, _, _, rfl, rfl, _, rfl, _, _, rfl, rfl, .inl (mw (b := 12) (by omega) (by omega) (by decide)), _, _, rfl, rfl, ?_⟩
      have es : (r.many - 1) * m + 1 - r.many * r.least m = r.slack m := rfl
      have ef : r.many * r.p - (r.many - 1) * r.q = r.fall := rfl
      refine ⟨_, rfl, _, _, rfl, rfl, _, rfl, ite2 (fun e => ?_) (fun e => ?_)⟩
      · have e : r.fall > 0 := of_decide_eq_true e
        refine ⟨_, rfl, _, rfl, _, rfl, _, _, rfl, rfl, ⟨by omega, by omega⟩, (by show 2 ≤ sizeLine; decide), fun t nt => kk t _ (same_new nt) ?_⟩
        rw [upd_same]
        unfold spanV Fr.span
        rw [if_pos e]
        rfl
      · have e : ¬ r.fall > 0 := fun z => e (decide_eq_true z)
        refine ⟨_, rfl, _, _, rfl, rfl, _, rfl, ite2 (fun e2 => ?_) (fun e2 => ?_)⟩
        · have e2 : r.slack m ≥ 0 := of_decide_eq_true e2
          refine ⟨_, rfl, (by show 2 ≤ sizeLine; decide), fun t nt => kk t _ (same_new nt) ?_⟩
          rw [upd_same]
          unfold spanV Fr.span
          rw [if_neg e, if_pos e2]
          rfl
        · have e2 : ¬ r.slack m ≥ 0 := fun z => e2 (decide_eq_true z)
          refine ⟨_, rfl, rfl, _, rfl, ite2 (fun e3 => ?_) (fun e3 => ?_)⟩
          · have e3 : r.fall = 0 := V.int.inj (of_decide_eq_true e3)
            refine ⟨_, rfl, _, rfl, (by show 2 ≤ sizeLine; decide), fun t nt => kk t _ (same_new nt) ?_⟩
            rw [upd_same]
            unfold spanV Fr.span
            rw [if_neg e, if_neg e2, if_pos e3]
            rfl
          · have e3 : ¬ r.fall = 0 := fun z => e3 (decide_eq_true (congrArg V.int z))
            refine ⟨_, rfl, _, rfl, _, rfl, _, _, rfl, rfl, ⟨by omega, by omega⟩, _, rfl, ?_⟩
            have el : -((r.slack m).fdiv (-r.fall)) = r.later m := rfl
            refine ⟨_, rfl, _, rfl, _, _, rfl, rfl, _, rfl, ite2 (fun e4 => ?_) (fun e4 => ?_)⟩
            · have e4 : r.later m > r.first m := of_decide_eq_true e4
              refine ⟨_, rfl, (by show 2 ≤ sizeLine; decide), fun t nt => kk t _ (same_new nt) ?_⟩
              rw [upd_same]
              unfold spanV Fr.span
              rw [if_neg e, if_neg e2, if_neg e3, if_pos e4]
              rfl
            · have e4 : ¬ r.later m > r.first m := fun z => e4 (decide_eq_true z)
              refine ⟨_, rfl, (by show 2 ≤ sizeLine; decide), fun t nt => kk t _ (same_new nt) ?_⟩
              rw [upd_same]
              unfold spanV Fr.span
              rw [if_neg e, if_neg e2, if_neg e3, if_neg e4]
              rfl
    refine ⟨_, (pss_cons (ps_asg (pe_fld (pv 0) rfl) (pg_tup (by rfl) (pgs_cons (pg_name (i := 2) scRightSpan.nd rfl (.inl rfl)) (pgs_cons (pg_name (i := 3) scRightSpan.nd rfl (.inl rfl)) pgs_nil))))
    (pss_cons (ps_par (i := 4) (j := 5) (by rfl) scRightSpan.nd rfl rfl (by decide) rfl rfl (pa_cons (pe_call G1 hr (by rfl) g1 k1 b1 .nil pass0 (pa_cons (pv 0) (pa_cons (pv 1) pa_nil))) (pa_cons (pe_call G2 hr (by rfl) g2 k2 b2 .nil pass0 (pa_cons (pv 0) pa_nil)) pa_nil)) (by rfl))
    (pss_cons (ps_set (i := 6) scRightSpan.nd rfl (.inl rfl) (pe_ifExp (pt_cmpR op_lt (pv 4) pe_int (nomark _)) (pe_un un_neg (pe_op op_fdivN (pe_op op_sub (pv 4) pe_int) (pv 2))) pe_int))
    hB))), ?_⟩
    refine ⟨_, rfl, x, C, dx, _, _, rfl, hx, T.cl, T.n1, fill_times _ _, a, _, rfl, SqT.of ha, rfl, _, _, rfl, _, _, rfl, rfl, ?_⟩
    refine ⟨_, rfl, _, rfl, x, r, m, rfl, fa, o, _, rfl, x, r, rfl, fa, _, _, rfl, ?_⟩
    refine ⟨_, rfl, _, _, rfl, rfl, _, rfl, ite2 (fun e => ?_) (fun e => ?_)⟩
    · have e : r.least m < 1 := of_decide_eq_true e
      refine ⟨_, rfl, _, _, rfl, rfl, _, rfl, _, _, rfl, rfl, ⟨by omega, by omega⟩, _, rfl, ?_⟩
      have : -((r.least m - 1).fdiv r.p) = r.first m := by unfold Fr.first; rw [if_pos e]
      have q := qB none none none
      rw [← this] at q
      exact q
    · have e : ¬ r.least m < 1 := fun z => e (decide_eq_true z)
      have : (0 : Int) = r.first m := by unfold Fr.first; rw [if_neg e]
      have q := qB none none none
      rw [← this] at q
      exact q
theorem scRightSpans : FnScope nRSs ["rule"] (defScope sRightSpans) := ⟨rfl, rfl, rfl, by decide +kernel, rfl, by decide +kernel, by decide +kernel⟩
theorem ok_rightSpans {f C : Addr} {fd : FuncData} (F : Fun K "right_spans" "right_spans" sRightSpans f fd) (T : FCls K C) (B : Blt mg) {tl : Tok} (gL : mg "LEAST_SIZE" = some (.int 2 tl)) (D1 : Df P w K mg base 2 "right_span" ["rule", "size"] (spRSpan C)) : FnOk P w K mg base CX0 3 f fd ["rule"] (spRSpans C) := by
  obtain ⟨f1, fd1, G1, g1, k1, b1⟩ := D1.ex
  refine F.ok scRightSpans (fun vs H Q E h => ?_) (fun cdv A outer s H vs Q E hr h => ?_)
  · obtain ⟨x, r, rfl, _⟩ := h
    rfl
  · obtain ⟨x, r, rfl, fa, o, kk⟩ := h
    obtain ⟨dx, a, hx, ha⟩ := id fa
    have q1 := o.q1; have q2 := o.q2
    refine ⟨_, (pss_cons (ps_set (i := 1) scRightSpans.nd rfl (.inl rfl) (pe_lst pa_nil))
    (pss_cons (ps_for PassesOwn.never rfl (pi_range2 (by rfl) B.range (pa_cons (pe_glob (v := .int 2) rfl gL ⟨_, rfl⟩) (pa_cons (pe_op op_add (pe_glob (v := .int 2) rfl gL ⟨_, rfl⟩) (pe_ix ix_tup (pe_fld (pv 0) rfl) pe_int (fun _ _ => rfl))) pa_nil))) (pg_name (i := 2) scRightSpans.nd rfl (.inl rfl))
      (pss_cons (ps_asg (pe_call G1 hr (by rfl) g1 k1 b1 .nil pass0 (pa_cons (pv 0) (pa_cons (pv 2) pa_nil))) (pg_tup (by rfl) (pgs_cons (pg_name (i := 3) scRightSpans.nd rfl (.inl rfl)) (pgs_cons (pg_name (i := 4) scRightSpans.nd rfl (.inl rfl)) pgs_nil))))
      (pss_one (ps_expr (pe_bm PySem.F.plainAttrs_list PySem.F.slot_list_append PySem.F.type_list_append mt_append (pv 1) (pa_cons (pe_tup (pa_cons (pv 2) (pa_cons (pv 3) (pa_cons (pv 4) pa_nil)))) pa_nil))))))
    (pss_one (ps_ret (pv 1))))), ?_⟩
    refine ⟨(by show 0 ≤ sizeLine; decide), fun l nl => ?_⟩
    have s0 : Same H (upd H l (.lst [])) := same_new nl
    have hl : upd H l (.lst []) l = some (.lst []) := upd_same
    dsimp only
    generalize upd H l (.lst []) = H0 at s0 hl ⊢
    refine ⟨_, rfl, x, C, dx, _, _, rfl, s0 _ _ hx, T.cl, T.n1, fill_times _ _, a, _, _, _, rfl, rfl, SqT.of (s0 _ _ ha), tup1, _, _, rfl, rfl, _, _, rfl, ⟨by decide, by decide, by omega, by omega⟩, ?_⟩
    refine for_range (lo := 2) (n := (2 + r.q - 2).toNat) (fun i σ H2 => (∃ v2 v3 v4 : Option V, σ = [some (.ref x), some (.ref l), v2, v3, v4]) ∧ Same H H2 ∧ ∃ as : List Addr, H2 l = some (.lst (as.map V.ref)) ∧ as.length = i ∧ SpansAt H2 r as) ⟨⟨_, _, _, rfl⟩, s0, [], hl, rfl, fun i a e => by cases e⟩ (fun i σ H2 hi h => ?_) (fun σ H2 h => ?_)
    · obtain ⟨⟨v2, v3, v4, rfl⟩, sH, as, has, len, sp⟩ := h
      refine ⟨_, rfl, _, rfl, x, r, _, rfl, fa.keep sH, o, fun t H3 s3 ht => ?_⟩
      refine ⟨t, _, rfl, SqT.of ht, rfl, _, _, rfl, _, _, rfl, rfl, ?_⟩
      refine ⟨_, rfl, .inl ⟨rfl, _, SqL.of (s3 _ _ has)⟩, _, rfl, _, rfl, _, rfl, (by show 3 ≤ sizeLine; decide), fun t2 n2 => ⟨l, _, _, rfl, rfl, same_new n2 _ _ (s3 _ _ has), ?_, ?_⟩⟩
      · rw [List.length_map, len]
        exact Nat.lt_of_lt_of_le (show i < 13 by omega) (by decide)
      · have s4 : Same H3 (upd H3 t2 (.tup [.int (2 + (i : Int)), .int (r.span (2 + (i : Int))).1, optV (r.span (2 + (i : Int))).2])) := same_new n2
        have h4 : upd H3 t2 (.tup [.int (2 + (i : Int)), .int (r.span (2 + (i : Int))).1, optV (r.span (2 + (i : Int))).2]) t2 = some (.tup (spanT r (2 + (i : Int)))) := upd_same
        dsimp only
        generalize upd H3 t2 (.tup [.int (2 + (i : Int)), .int (r.span (2 + (i : Int))).1, optV (r.span (2 + (i : Int))).2]) = H4 at s4 h4 ⊢
        have s24 := s3.trans s4
        have keep : ∀ b o, b ≠ l → H4 b = some o → upd H4 l (.lst (as.map V.ref ++ [.ref t2])) b = some o := fun b o n e => by rw [upd_ne n]; exact e
        refine ⟨⟨_, _, _, rfl⟩, fun b u e => keep _ _ (fun z => ?_) (s24 _ _ (sH _ _ e)), as ++ [t2], ?_, ?_, ?_⟩
        · rw [z, nl] at e; cases e
        · rw [upd_same, List.map_append]; rfl
        · rw [List.length_append, len]; rfl
        · intro j b e
          by_cases z : j < as.length
          · rw [List.getElem?_append_left z] at e
            have := sp j b e
            refine keep _ _ (fun y => ?_) (s24 _ _ this)
            rw [y, has] at this; cases this
          · have jl : j = as.length := by
              have := (List.getElem?_eq_some_iff.mp e).1
              rw [List.length_append] at this
              have : j < as.length + 1 := this
              omega
            rw [jl, List.getElem?_append_right (Nat.le_refl _), Nat.sub_self] at e
            cases e
            rw [jl, len]
            refine keep _ _ (fun y => ?_) h4
            rw [y] at h4
            rw [s24 _ _ has] at h4
            cases h4
    · obtain ⟨⟨v2, v3, v4, rfl⟩, sH, as, has, len, sp⟩ := h
      refine ⟨_, rfl, kk l as H2 sH has ?_ sp⟩
      rw [len]
      congr 1
      omega
end
end Ev
namespace Ev
open PySem L2 PySem.Spec PyProof.Rows RZ
/-! What the spans mean, and that sizes below 300 tell all. -/
theorem Fr.least_add {r : Fr} (o : r.ok) (s t : Int) : r.least (s + r.q * t) = r.least s + r.p * t := by
  have := o.q1
  unfold Fr.least
  rw [show r.p * (s + r.q * t) + r.k = r.p * s + r.k + r.q * (r.p * t) by rw [Int.mul_add, ← Int.mul_assoc, ← Int.mul_assoc, Int.mul_comm r.p r.q]; omega]
  rw [Int.fdiv_eq_ediv_of_nonneg _ (by omega), Int.fdiv_eq_ediv_of_nonneg _ (by omega), Int.add_mul_ediv_left _ _ (by omega)]
theorem Fr.right_at {r : Fr} (o : r.ok) (s t : Int) : r.right (s + r.q * t) = true ↔ 1 ≤ r.least s + r.p * t ∧ r.fall * t ≤ r.slack s := by
  unfold Fr.right
  rw [Fr.least_add o, Bool.and_eq_true, decide_eq_true_iff, decide_eq_true_iff]
  have e : r.fall * t - r.slack s = r.many * (r.least s + r.p * t) - ((r.many - 1) * (s + r.q * t) + 1) := by
    unfold Fr.fall Fr.slack
    rw [Int.sub_mul, Int.mul_add, Int.mul_add, ← Int.mul_assoc, ← Int.mul_assoc]
    omega
  constructor
  · rintro ⟨a, b⟩; exact ⟨a, by omega⟩
  · rintro ⟨a, b⟩; exact ⟨a, by omega⟩
theorem fdiv_le {a b t : Int} (h : 0 < b) : t ≤ a.fdiv b ↔ b * t ≤ a := by
  rw [Int.fdiv_eq_ediv_of_nonneg _ (by omega), Int.le_ediv_iff_mul_le h, Int.mul_comm]
theorem ceil_le {a b t : Int} (h : 0 < b) : -(a.fdiv b) ≤ t ↔ -a ≤ b * t := by
  have := fdiv_le (a := a) (b := b) (t := -t) h
  rw [Int.mul_neg] at this
  omega
theorem Fr.first_nn {r : Fr} (o : r.ok) (s : Int) : 0 ≤ r.first s := by
  have := o.p1
  unfold Fr.first
  split
  · have := (ceil_le (a := r.least s - 1) (b := r.p) (t := -1) (by omega)).mp
    by_cases z : -((r.least s - 1).fdiv r.p) ≤ -1
    · have := this z; omega
    · omega
  · omega
theorem Fr.first_iff {r : Fr} (o : r.ok) (s : Int) {t : Int} (ht : 0 ≤ t) : r.first s ≤ t ↔ 1 ≤ r.least s + r.p * t := by
  have := o.p1
  have nn : 0 ≤ r.p * t := Int.mul_nonneg (by omega) ht
  unfold Fr.first
  split
  · rw [ceil_le (by omega)]
    omega
  · omega
theorem Fr.span_nn {r : Fr} (o : r.ok) (s : Int) : 0 ≤ (r.span s).1 := by
  have := Fr.first_nn o s
  unfold Fr.span
  split
  · exact this
  · split
    · exact this
    · split
      · exact this
      · dsimp only; split <;> omega
/-- which sizes are right: from the first time on, to the last -/
theorem Fr.span_right {r : Fr} (o : r.ok) (s : Int) {t : Int} (ht : 0 ≤ t) : r.right (s + r.q * t) = true ↔ (r.span s).1 ≤ t ∧ ∀ l, (r.span s).2 = some l → t ≤ l := by
  rw [Fr.right_at o, ← Fr.first_iff o s ht]
  unfold Fr.span
  split
  · rename_i f
    have : r.fall * t ≤ r.slack s ↔ t ≤ (r.slack s).fdiv r.fall := (fdiv_le f).symm
    constructor
    · rintro ⟨a, b⟩; exact ⟨a, fun l e => by cases e; exact this.mp b⟩
    · rintro ⟨a, b⟩; exact ⟨a, this.mpr (b _ rfl)⟩
  · rename_i f
    split
    · rename_i g
      have : r.fall * t ≤ 0 := Int.mul_nonpos_of_nonpos_of_nonneg (by omega) ht
      constructor
      · rintro ⟨a, b⟩; exact ⟨a, fun l e => by cases e⟩
      · rintro ⟨a, b⟩; exact ⟨a, by omega⟩
    · rename_i g
      split
      · rename_i z
        rw [z, Int.zero_mul]
        constructor
        · rintro ⟨a, b⟩; omega
        · rintro ⟨a, b⟩
          have := b _ rfl
          omega
      · rename_i z
        have : r.later s ≤ t ↔ r.fall * t ≤ r.slack s := by
          unfold Fr.later
          rw [ceil_le (by omega), Int.neg_mul]
          omega
        constructor
        · rintro ⟨a, b⟩
          have := this.mpr b
          exact ⟨by dsimp only; split <;> omega, fun l e => by cases e⟩
        · rintro ⟨a, b⟩
          have a : (if r.later s > r.first s then r.later s else r.first s) ≤ t := a
          have a1 : r.first s ≤ t := by split at a <;> omega
          have a2 : r.later s ≤ t := by split at a <;> omega
          exact ⟨a1, this.mp a2⟩
theorem least_lo {r : Fr} (o : r.ok) (s : Int) : r.p * s + r.k - r.q + 1 ≤ r.q * r.least s ∧ r.q * r.least s ≤ r.p * s + r.k := by
  have := o.q1
  have h1 := Int.emod_nonneg (r.p * s + r.k) (by omega : r.q ≠ 0)
  have h2 := Int.emod_lt_of_pos (r.p * s + r.k) (by omega : 0 < r.q)
  have h3 := Int.emod_def (r.p * s + r.k) r.q
  unfold Fr.least
  rw [Int.fdiv_eq_ediv_of_nonneg _ (by omega)]
  omega
/-- a way to bound a multiple -/
theorem bound_of {f x b : Int} (hf : 1 ≤ f) (h : f * x ≤ b) (hb : 0 ≤ b) : x ≤ b := by
  by_cases z : x ≤ 0
  · omega
  · have : 1 * x ≤ f * x := Int.mul_le_mul_of_nonneg_right hf (by omega)
    omega
theorem slack_q {r : Fr} (o : r.ok) (s : Int) : r.q * r.slack s ≤ r.q - r.fall * s - r.many * r.k + r.many * r.q - r.many ∧ - r.fall * s - r.many * r.k + r.q ≤ r.q * r.slack s := by
  obtain ⟨l1, l2⟩ := least_lo o s
  obtain ⟨n1, n2⟩ := Fr.many_le o
  have m1 : r.many * (r.p * s + r.k - r.q + 1) ≤ r.many * (r.q * r.least s) := Int.mul_le_mul_of_nonneg_left l1 (by omega)
  have m2 : r.many * (r.q * r.least s) ≤ r.many * (r.p * s + r.k) := Int.mul_le_mul_of_nonneg_left l2 (by omega)
  have e : r.q * r.slack s = (r.many - 1) * r.q * s + r.q - r.many * (r.q * r.least s) := by
    unfold Fr.slack
    rw [Int.mul_sub, Int.mul_add, ← Int.mul_assoc, Int.mul_comm r.q (r.many - 1), Int.mul_one, Int.mul_left_comm]
  have e2 : r.fall * s = r.many * (r.p * s) - (r.many - 1) * r.q * s := by
    unfold Fr.fall
    rw [Int.sub_mul, Int.mul_assoc]
  have e3 : r.many * (r.p * s + r.k - r.q + 1) = r.many * (r.p * s) + r.many * r.k - r.many * r.q + r.many := by
    rw [Int.mul_add, Int.mul_sub, Int.mul_add, Int.mul_one]
  have e4 : r.many * (r.p * s + r.k) = r.many * (r.p * s) + r.many * r.k := Int.mul_add ..
  rw [Int.neg_mul]
  omega
theorem mul_bd {a b A B : Int} (h1 : 0 ≤ a) (h2 : a ≤ A) (h3 : -B ≤ b) (h4 : b ≤ B) (hB : 0 ≤ B) : -(A * B) ≤ a * b ∧ a * b ≤ A * B := by
  have x1 : a * b ≤ a * B := Int.mul_le_mul_of_nonneg_left h4 h1
  have x2 : a * (-B) ≤ a * b := Int.mul_le_mul_of_nonneg_left h3 h1
  have x3 : a * B ≤ A * B := Int.mul_le_mul_of_nonneg_right h2 hB
  rw [Int.mul_neg] at x2
  omega
/-- the bounds: behind 200 nothing changes -/
theorem first_hi {r : Fr} (o : r.ok) {s : Int} (s1 : 2 ≤ s) (s2 : s ≤ r.q + 1) : s + r.q * r.first s ≤ 200 := by
  have p1 := o.p1; have p2 := o.p2; have q1 := o.q1; have q2 := o.q2; have k1 := o.k1
  unfold Fr.first
  split
  · rename_i h
    generalize e : -((r.least s - 1).fdiv r.p) = t
    have h1 : ¬ t ≤ t - 1 := by omega
    rw [← e, ceil_le (by omega)] at h1
    rw [e] at h1
    rw [Int.mul_sub, Int.mul_one] at h1
    obtain ⟨l1, l2⟩ := least_lo o s
    have m1 : r.q * (r.p * t - r.p) ≤ r.q * (-(r.least s - 1) - 1) := Int.mul_le_mul_of_nonneg_left (by omega) (by omega)
    have e1 : r.q * (r.p * t - r.p) = r.p * (r.q * t) - r.q * r.p := by rw [Int.mul_sub, Int.mul_left_comm]
    have e2 : r.q * (-(r.least s - 1) - 1) = -(r.q * r.least s) := by
      rw [show -(r.least s - 1) - 1 = -r.least s by omega, Int.mul_neg]
    have e3 : r.p * (s + r.q * t) = r.p * s + r.p * (r.q * t) := Int.mul_add ..
    have b1 := mul_bd (a := r.q) (b := r.p) (A := 12) (B := 12) (by omega) q2 (by omega) p2 (by decide)
    have := bound_of p1 (x := s + r.q * t) (b := 168) (by omega) (by decide)
    omega
  · omega
theorem span_hi {r : Fr} (o : r.ok) {s : Int} (s1 : 2 ≤ s) (s2 : s ≤ r.q + 1) : (∀ l, (r.span s).2 = some l → s + r.q * (l + 1) ≤ 200) ∧ ((r.span s).2 = none → s + r.q * (r.span s).1 ≤ 200) := by
  have p1 := o.p1; have p2 := o.p2; have q1 := o.q1; have q2 := o.q2; have k1 := o.k1; have k2 := o.k2
  obtain ⟨n1, n2⟩ := Fr.many_le o
  obtain ⟨f1, f2⟩ := Fr.fall_bd o
  have fh := first_hi o s1 s2
  obtain ⟨sl1, sl2⟩ := slack_q o s
  have b1 := mul_bd (a := r.many) (b := r.k) (A := 6) (B := 12) (by omega) n2 k1 k2 (by decide)
  have b2 := mul_bd (a := r.many) (b := r.q) (A := 6) (B := 12) (by omega) n2 (by omega) q2 (by decide)
  unfold Fr.span
  split
  · rename_i f
    refine ⟨fun l e => ?_, fun e => by cases e⟩
    cases e
    generalize e : (r.slack s).fdiv r.fall = t
    have h1 : t ≤ (r.slack s).fdiv r.fall := by omega
    rw [fdiv_le f] at h1
    have m1 : r.q * (r.fall * t) ≤ r.q * r.slack s := Int.mul_le_mul_of_nonneg_left h1 (by omega)
    have e1 : r.q * (r.fall * t) = r.fall * (r.q * t) := Int.mul_left_comm ..
    have e2 : r.fall * (s + r.q * t) = r.fall * s + r.fall * (r.q * t) := Int.mul_add ..
    have := bound_of (by omega : 1 ≤ r.fall) (x := s + r.q * t) (b := 156) (by omega) (by decide)
    rw [Int.mul_add, Int.mul_one]
    omega
  · rename_i f
    split
    · exact ⟨fun l e => by (cases e), fun _ => fh⟩
    · rename_i g
      split
      · refine ⟨fun l e => ?_, fun e => by cases e⟩
        cases e
        rw [show (-1 : Int) + 1 = 0 by decide, Int.mul_zero]
        omega
      · rename_i z
        refine ⟨fun l e => by (cases e), fun _ => ?_⟩
        dsimp only
        split
        · unfold Fr.later
          generalize e : -((r.slack s).fdiv (-r.fall)) = t
          have h1 : ¬ t ≤ t - 1 := by omega
          rw [← e, ceil_le (by omega)] at h1
          rw [e] at h1
          have m1 : r.q * (-r.fall * (t - 1)) ≤ r.q * (-r.slack s - 1) := Int.mul_le_mul_of_nonneg_left (by omega) (by omega)
          have e1 : r.q * (-r.fall * (t - 1)) = -r.fall * (r.q * t) - r.q * -r.fall := by
            rw [Int.mul_sub, Int.mul_one, Int.mul_sub, Int.mul_left_comm]
          have e2 : -r.fall * (s + r.q * t) = -r.fall * s + -r.fall * (r.q * t) := Int.mul_add ..
          have e3 : r.q * (-r.slack s - 1) = -(r.q * r.slack s) - r.q := by rw [Int.mul_sub, Int.mul_neg, Int.mul_one]
          have e4 : -r.fall * (s + r.q * t - r.q) = -r.fall * (s + r.q * t) - r.q * -r.fall := by rw [Int.mul_sub, Int.mul_comm (-r.fall) r.q]
          have := bound_of (by omega : 1 ≤ -r.fall) (x := s + r.q * t - r.q) (b := 72) (by omega) (by decide)
          omega
        · exact fh
end Ev
namespace Ev
open PySem L2 PySem.Spec PyProof.Rows RZ
def Fr.st (r : Fr) (s : Int) : Option Int := match (r.span s).2 with
  | none => none
  | some l => some (s + r.q * (if l ≥ (r.span s).1 then l + 1 else 0))
def Fr.spilt (r : Fr) : List Int := (List.range r.q.toNat).filterMap (fun (i : Nat) => r.st (2 + (i : Int)))
def Fr.bad (r : Fr) (x : Int) : Bool := decide (x > 1) && !(r.right x)
def Fr.dueN (r : Fr) (n : Nat) : List Int := ((List.range n).map (fun (i : Nat) => (i : Int))).filter r.bad
def Fr.dueW (r : Fr) : List Int := r.dueN 300
def Fr.wrongN (r : Fr) : List Int := (List.range r.q.toNat).flatMap fun (i : Nat) => (List.range (r.span (2 + (i : Int))).1.toNat).map fun (t : Nat) => 2 + (i : Int) + r.q * (t : Int)
def IsMin (m : Int) (l : List Int) : Prop := m ∈ l ∧ ∀ a, a ∈ l → m ≤ a
theorem IsMin.uniq {m m' : Int} {l l' : List Int} (h : IsMin m l) (h' : IsMin m' l') (e : ∀ a, a ∈ l ↔ a ∈ l') : m = m' := by
  have h1 := h.2 m' ((e m').mpr h'.1)
  have h2 := h'.2 m ((e m).mp h.1)
  omega
/-- two ascending lists of the same numbers are one -/
theorem asc_eq : ∀ {a b : List Int}, a.Pairwise (· < ·) → b.Pairwise (· < ·) → (∀ x, x ∈ a ↔ x ∈ b) → a = b
  | [], [], _, _, _ => rfl
  | [], y :: b, _, _, h => absurd ((h y).mpr List.mem_cons_self) (by simp)
  | x :: a, [], _, _, h => absurd ((h x).mp List.mem_cons_self) (by simp)
  | x :: a, y :: b, ha, hb, h => by
    obtain ⟨ha1, ha2⟩ := List.pairwise_cons.mp ha
    obtain ⟨hb1, hb2⟩ := List.pairwise_cons.mp hb
    have e : x = y := by
      rcases List.mem_cons.mp ((h x).mp List.mem_cons_self) with q | q
      · exact q
      · rcases List.mem_cons.mp ((h y).mpr List.mem_cons_self) with q' | q'
        · exact q'.symm
        · have := hb1 x q; have := ha1 y q'; omega
    subst e
    congr 1
    refine asc_eq ha2 hb2 fun z => ⟨fun m => ?_, fun m => ?_⟩
    · rcases List.mem_cons.mp ((h z).mp (List.mem_cons_of_mem _ m)) with q | q
      · have := ha1 z m; omega
      · exact q
    · rcases List.mem_cons.mp ((h z).mpr (List.mem_cons_of_mem _ m)) with q | q
      · have := hb1 z m; omega
      · exact q
theorem asc_of {a : List Int} (h1 : a.Pairwise (· ≤ ·)) (h2 : a.Pairwise (· ≠ ·)) : a.Pairwise (· < ·) := by
  induction a with
  | nil => exact .nil
  | cons x a ih =>
    obtain ⟨p1, p2⟩ := List.pairwise_cons.mp h1
    obtain ⟨q1, q2⟩ := List.pairwise_cons.mp h2
    refine List.pairwise_cons.mpr ⟨fun y m => ?_, ih p2 q2⟩
    have := p1 y m; have := q1 y m; omega
theorem mul12 {q t : Int} (h1 : 1 ≤ q) (h2 : q ≤ 12) : (q = 1 ∧ q * t = t) ∨ (q = 2 ∧ q * t = 2 * t) ∨ (q = 3 ∧ q * t = 3 * t) ∨ (q = 4 ∧ q * t = 4 * t) ∨ (q = 5 ∧ q * t = 5 * t) ∨ (q = 6 ∧ q * t = 6 * t) ∨ (q = 7 ∧ q * t = 7 * t) ∨ (q = 8 ∧ q * t = 8 * t) ∨ (q = 9 ∧ q * t = 9 * t) ∨ (q = 10 ∧ q * t = 10 * t) ∨ (q = 11 ∧ q * t = 11 * t) ∨ (q = 12 ∧ q * t = 12 * t) := by
  obtain rfl | rfl | rfl | rfl | rfl | rfl | rfl | rfl | rfl | rfl | rfl | rfl : q = 1 ∨ q = 2 ∨ q = 3 ∨ q = 4 ∨ q = 5 ∨ q = 6 ∨ q = 7 ∨ q = 8 ∨ q = 9 ∨ q = 10 ∨ q = 11 ∨ q = 12 := by omega
  all_goals simp
/-- each number from 2 on by its rest and its times -/
theorem split_at {q x : Int} (h1 : 1 ≤ q) (hx : 2 ≤ x) : ∃ i t : Nat, (i : Int) < q ∧ x = 2 + (i : Int) + q * (t : Int) ∧ (x - 2) % q = (i : Int) := by
  have e1 := Int.emod_nonneg (x - 2) (by omega : q ≠ 0)
  have e2 := Int.emod_lt_of_pos (x - 2) (by omega : 0 < q)
  have e3 := Int.emod_def (x - 2) q
  have e4 : 0 ≤ (x - 2) / q := Int.ediv_nonneg (by omega) (by omega)
  refine ⟨((x - 2) % q).toNat, ((x - 2) / q).toNat, by omega, ?_, by omega⟩
  rw [Int.toNat_of_nonneg e1, Int.toNat_of_nonneg e4]
  omega
theorem bad_at {r : Fr} (o : r.ok) {i t : Nat} : r.bad (2 + (i : Int) + r.q * (t : Int)) = false ↔ (r.span (2 + (i : Int))).1 ≤ (t : Int) ∧ ∀ l, (r.span (2 + (i : Int))).2 = some l → (t : Int) ≤ l := by
  rw [← Fr.span_right o (2 + (i : Int)) (by omega : 0 ≤ (t : Int))]
  have := o.q1
  have : 0 ≤ r.q * (t : Int) := Int.mul_nonneg (by omega) (by omega)
  unfold Fr.bad
  rw [decide_eq_true (by omega : 2 + (i : Int) + r.q * (t : Int) > 1), Bool.true_and]
  cases r.right (2 + (i : Int) + r.q * (t : Int)) <;> simp
theorem dueN_mem {r : Fr} {n : Nat} {x : Int} : x ∈ r.dueN n ↔ 0 ≤ x ∧ x < n ∧ r.bad x = true := by
  unfold Fr.dueN
  rw [List.mem_filter, List.mem_map]
  constructor
  · rintro ⟨⟨i, hi, rfl⟩, b⟩
    have := List.mem_range.mp hi
    exact ⟨by omega, by omega, b⟩
  · rintro ⟨a, b, c⟩
    exact ⟨⟨x.toNat, List.mem_range.mpr (by omega), by omega⟩, c⟩
theorem dueN_asc (r : Fr) (n : Nat) : (r.dueN n).Pairwise (· < ·) := by
  unfold Fr.dueN
  refine List.Pairwise.filter _ ?_
  rw [List.pairwise_map]
  exact List.pairwise_lt_range.imp fun h => by omega
theorem dueN_succ (r : Fr) (n : Nat) : r.dueN (n + 1) = r.dueN n ++ (if r.bad (n : Int) = true then [(n : Int)] else []) := by
  unfold Fr.dueN
  rw [List.range_succ, List.map_append, List.filter_append]
  congr 1
  simp only [List.map_cons, List.map_nil, List.filter_cons, List.filter_nil]
theorem spilt_nil {r : Fr} (h : r.spilt = []) {i : Nat} (hi : (i : Int) < r.q) : (r.span (2 + (i : Int))).2 = none := by
  unfold Fr.spilt at h
  rw [List.filterMap_eq_nil_iff] at h
  have := h i (List.mem_range.mpr (by omega))
  unfold Fr.st at this
  cases e : (r.span (2 + (i : Int))).2 with
  | none => rfl
  | some l => rw [e] at this; cases this
theorem wrongN_mem {r : Fr} {x : Int} : x ∈ r.wrongN ↔ ∃ i t : Nat, (i : Int) < r.q ∧ (t : Int) < (r.span (2 + (i : Int))).1 ∧ x = 2 + (i : Int) + r.q * (t : Int) := by
  unfold Fr.wrongN
  rw [List.mem_flatMap]
  constructor
  · rintro ⟨i, hi, m⟩
    obtain ⟨t, ht, rfl⟩ := List.mem_map.mp m
    have := List.mem_range.mp hi
    have := List.mem_range.mp ht
    exact ⟨i, t, by omega, by omega, rfl⟩
  · rintro ⟨i, t, h1, h2, rfl⟩
    exact ⟨i, List.mem_range.mpr (by omega), List.mem_map.mpr ⟨t, List.mem_range.mpr (by omega), rfl⟩⟩
theorem wrongN_ne {r : Fr} (o : r.ok) : r.wrongN.Pairwise (· ≠ ·) := by
  have q1 := o.q1; have q2 := o.q2
  unfold Fr.wrongN
  rw [List.pairwise_flatMap]
  constructor
  · intro i _
    rw [List.pairwise_map]
    refine List.pairwise_lt_range.imp fun {a b} h => ?_
    have := mul12 (t := (a : Int)) q1 q2
    have := mul12 (t := (b : Int)) q1 q2
    omega
  · refine (List.pairwise_lt_range (n := r.q.toNat)).imp_of_mem fun {a b} ma mb h x hx y hy => ?_
    obtain ⟨t, _, rfl⟩ := List.mem_map.mp hx
    obtain ⟨u, _, rfl⟩ := List.mem_map.mp hy
    have := List.mem_range.mp ma
    have := List.mem_range.mp mb
    have := mul12 (t := (t : Int)) q1 q2
    have := mul12 (t := (u : Int)) q1 q2
    omega
/-- the wrong sizes, sorted -/
theorem wrong_sorted {r : Fr} (o : r.ok) (h : r.spilt = []) {ns : List Int} (p : ns.Perm r.wrongN) (a : ns.Pairwise (· ≤ ·)) : ns = r.dueW := by
  have q1 := o.q1; have q2 := o.q2
  refine asc_eq (asc_of a ?_) (dueN_asc r 300) fun x => ?_
  · have : ns.Nodup ↔ r.wrongN.Nodup := p.nodup_iff
    exact this.mpr (wrongN_ne o)
  · rw [p.mem_iff, wrongN_mem, Fr.dueW, dueN_mem]
    constructor
    · rintro ⟨i, t, h1, h2, rfl⟩
      have hi := (span_hi o (s := 2 + (i : Int)) (by omega) (by omega)).2 (spilt_nil h h1)
      have m : r.q * ((t : Int) + 1) ≤ r.q * (r.span (2 + (i : Int))).1 := Int.mul_le_mul_of_nonneg_left (by omega) (by omega)
      rw [Int.mul_add, Int.mul_one] at m
      have : 0 ≤ r.q * (t : Int) := Int.mul_nonneg (by omega) (by omega)
      refine ⟨by omega, by omega, ?_⟩
      rw [← Bool.not_eq_false, bad_at o]
      rintro ⟨z, _⟩
      omega
    · rintro ⟨h1, h2, h3⟩
      have hx : 2 ≤ x := by
        unfold Fr.bad at h3
        rw [Bool.and_eq_true, decide_eq_true_iff] at h3
        omega
      obtain ⟨i, t, hi, rfl, _⟩ := split_at q1 hx
      refine ⟨i, t, hi, ?_, rfl⟩
      rw [← Bool.not_eq_false, bad_at o] at h3
      have e := spilt_nil h hi
      by_cases z : (r.span (2 + (i : Int))).1 ≤ (t : Int)
      · exact absurd ⟨z, fun l y => by rw [e] at y; cases y⟩ h3
      · omega
/-- the last sizes below 300 tell where it stays wrong -/
theorem last_none {r : Fr} (o : r.ok) {i t : Nat} (hi : (i : Int) < r.q) (h : 300 - r.q ≤ 2 + (i : Int) + r.q * (t : Int)) (e : r.st (2 + (i : Int)) = none) : r.bad (2 + (i : Int) + r.q * (t : Int)) = false := by
  have q1 := o.q1; have q2 := o.q2
  have e2 : (r.span (2 + (i : Int))).2 = none := by
    unfold Fr.st at e
    cases z : (r.span (2 + (i : Int))).2 with
    | none => rfl
    | some l => rw [z] at e; cases e
  rw [bad_at o]
  refine ⟨?_, fun l y => by rw [e2] at y; cases y⟩
  have hi := (span_hi o (s := 2 + (i : Int)) (by omega) (by omega)).2 e2
  have a1 := mul12 (t := (t : Int)) q1 q2
  have a2 := mul12 (t := (r.span (2 + (i : Int))).1) q1 q2
  omega
theorem last_some {r : Fr} (o : r.ok) {i t : Nat} {m : Int} (hi : (i : Int) < r.q) (h : 300 - r.q ≤ 2 + (i : Int) + r.q * (t : Int)) (e : r.st (2 + (i : Int)) = some m) :
    ∃ j : Nat, m = 2 + (i : Int) + r.q * (j : Int) ∧ j ≤ t ∧ (∀ u : Nat, j ≤ u → r.bad (2 + (i : Int) + r.q * (u : Int)) = true) ∧ (m - r.q < 2 ∨ r.bad (m - r.q) = false) := by
  have q1 := o.q1; have q2 := o.q2
  unfold Fr.st at e
  cases z : (r.span (2 + (i : Int))).2 with
  | none => rw [z] at e; cases e
  | some l =>
    rw [z] at e
    have e := Option.some.inj e
    have hi2 := (span_hi o (s := 2 + (i : Int)) (by omega) (by omega)).1 l z
    have nn := Fr.span_nn o (2 + (i : Int))
    have a1 := mul12 (t := (t : Int)) q1 q2
    have a2 := mul12 (t := l + 1) q1 q2
    by_cases c : l ≥ (r.span (2 + (i : Int))).1
    · rw [if_pos c] at e
      refine ⟨(l + 1).toNat, by rw [Int.toNat_of_nonneg (by omega)]; exact e.symm, by omega, fun u hu => ?_, .inr ?_⟩
      · rw [← Bool.not_eq_false, bad_at o]
        rintro ⟨_, y⟩
        have := y l z
        omega
      · have : m - r.q = 2 + (i : Int) + r.q * (l.toNat : Int) := by
          rw [Int.toNat_of_nonneg (by omega), ← e, Int.mul_add, Int.mul_one]
          omega
        rw [this, bad_at o]
        exact ⟨by omega, fun l' y => by rw [z] at y; cases y; omega⟩
    · rw [if_neg c] at e
      refine ⟨0, by rw [← e]; rfl, Nat.zero_le _, fun u _ => ?_, .inl ?_⟩
      · rw [← Bool.not_eq_false, bad_at o]
        rintro ⟨y1, y⟩
        have := y l z
        omega
      · rw [Int.mul_zero] at e
        omega
/-- where the last sizes lead to, in their order -/
def Fr.lastN (r : Fr) (n : Nat) : List Int := (List.range n).filterMap fun (i : Nat) => r.st (2 + (300 - r.q + (i : Int) - 2) % r.q)
theorem lastN_mem {r : Fr} (o : r.ok) (m : Int) : m ∈ r.spilt ↔ m ∈ r.lastN r.q.toNat := by
  have q1 := o.q1; have q2 := o.q2
  unfold Fr.spilt Fr.lastN
  rw [List.mem_filterMap, List.mem_filterMap]
  constructor
  · rintro ⟨i, hi, e⟩
    have hi := List.mem_range.mp hi
    obtain ⟨k, hk, ek⟩ : ∃ k : Nat, (k : Int) < r.q ∧ (300 - r.q + (k : Int) - 2) % r.q = (i : Int) := by
      have hi : (i : Int) < r.q := by omega
      generalize r.q = q at *
      obtain rfl | rfl | rfl | rfl | rfl | rfl | rfl | rfl | rfl | rfl | rfl | rfl : q = 1 ∨ q = 2 ∨ q = 3 ∨ q = 4 ∨ q = 5 ∨ q = 6 ∨ q = 7 ∨ q = 8 ∨ q = 9 ∨ q = 10 ∨ q = 11 ∨ q = 12 := by omega
      · exact ⟨(((i : Int) - 298) % 1).toNat, by omega, by omega⟩
      · exact ⟨(((i : Int) - 298) % 2).toNat, by omega, by omega⟩
      · exact ⟨(((i : Int) - 298) % 3).toNat, by omega, by omega⟩
      · exact ⟨(((i : Int) - 298) % 4).toNat, by omega, by omega⟩
      · exact ⟨(((i : Int) - 298) % 5).toNat, by omega, by omega⟩
      · exact ⟨(((i : Int) - 298) % 6).toNat, by omega, by omega⟩
      · exact ⟨(((i : Int) - 298) % 7).toNat, by omega, by omega⟩
      · exact ⟨(((i : Int) - 298) % 8).toNat, by omega, by omega⟩
      · exact ⟨(((i : Int) - 298) % 9).toNat, by omega, by omega⟩
      · exact ⟨(((i : Int) - 298) % 10).toNat, by omega, by omega⟩
      · exact ⟨(((i : Int) - 298) % 11).toNat, by omega, by omega⟩
      · exact ⟨(((i : Int) - 298) % 12).toNat, by omega, by omega⟩
    exact ⟨k, List.mem_range.mpr (by omega), by rw [ek]; exact e⟩
  · rintro ⟨k, hk, e⟩
    have := List.mem_range.mp hk
    have h1 := Int.emod_nonneg (300 - r.q + (k : Int) - 2) (by omega : r.q ≠ 0)
    have h2 := Int.emod_lt_of_pos (300 - r.q + (k : Int) - 2) (by omega : 0 < r.q)
    refine ⟨((300 - r.q + (k : Int) - 2) % r.q).toNat, List.mem_range.mpr (by omega), ?_⟩
    rw [Int.toNat_of_nonneg h1]
    exact e
theorem spilt_iff {r : Fr} (o : r.ok) : r.spilt = [] ↔ r.lastN r.q.toNat = [] := by
  rw [List.eq_nil_iff_forall_not_mem, List.eq_nil_iff_forall_not_mem]
  exact ⟨fun h a m => h a ((lastN_mem o a).mpr m), fun h a m => h a ((lastN_mem o a).mp m)⟩
end Ev
namespace Ev
open PySem L2 PySem.Spec PyProof.Rows
/-! == and != by an own __eq__, both answers, beside values of other types. -/
section
variable {prog : Program} {w : World} {A : Around} {E : Value → Shared → Prop} {s : Shared} {K : PySem.W.Frag} {x C f : Addr} {ox : Obj} {od : Option Obj} {y : Value}
theorem neEntry {Q : Fin → Shared → Prop} (room : A.units < cLine) (X : K.In s.heap) (I : PySem.W.InstAt s.heap x ox C od) (he : PySem.W.findIn K (.ref C) "__eq__" = some (some (.ref f))) (hf : PySem.W.isFn K (.ref f) = true)
    (h : wpAny (model prog w) A (call (.ref f) [.ref x, y]) (fun v s' => ∃ b, v = .bool b ∧ Q (.done (.ret (.bool (!b)))) s') E s) : wpAny (model prog w) A (Builtin.«object.__ne__» ⟨[.ref x, y], []⟩) Q E s := by
  have asked : wpAny (model prog w) A (callSpecialIfBound? (.ref x) (Str.ofString "__eq__") [y]) (fun r s' => ∃ b, r = some (.bool b) ∧ Q (.done (.ret (.bool (!b)))) s') E s := by
    refine PySem.W.ifBound_K X I he hf (wpAny_mono h (fun v s' hv => ?_) fun _ _ z => z)
    obtain ⟨b, rfl, q⟩ := hv
    exact ⟨b, rfl, q⟩
  unfold Builtin.«object.__ne__»
  repeat (first
    | (with_reducible refine wpAny_cRoomFor room ?_)
    | (refine wpAny_bind (m := callSpecialIfBound? (.ref x) (Str.ofString "__eq__") [y]) (wpAny_mono asked (fun r s' hr => ?_) fun _ _ z => z)
       obtain ⟨b, rfl, q⟩ := hr)
    | exact q
    | (exact wpAny_truthy_bool q)
    | wp_step)
theorem neCall {Q : Value → Shared → Prop} (room : A.in1.units < cLine) (X : K.In s.heap) (I : PySem.W.InstAt s.heap x ox C od) (hm : PySem.W.mroIn K C (.type "object") = some true) (he : PySem.W.findIn K (.ref C) "__eq__" = some (some (.ref f))) (hf : PySem.W.isFn K (.ref f) = true)
    (h : wpAny (model prog w) A.in1 (call (.ref f) [.ref x, y]) (fun v s' => ∃ b, v = .bool b ∧ Q (.bool (!b)) s') E s) : wpAny (model prog w) A (call (.builtin "object.__ne__") [.ref x, y]) Q E s :=
  wpAny_call (codeAny_call_builtin F.cmp_object.ne.plain F.cmpEntry_ne (PySem.W.check_slot F.cmpKind_ne F.cmpSplit_ne (I.type.andThen (PySem.W.looks_mroIn X hm)) (F.cmpArgs_ne _ _)
    (neEntry room X I he hf h)))
theorem neBound {Q : Option Value → Shared → Prop} {M : Model} (X : K.In s.heap) (I : PySem.W.InstAt s.heap x ox C od) (hn : PySem.W.findIn K (.ref C) "__ne__" = some (some (.builtin "object.__ne__")))
    (h : wpAny M A (call (.builtin "object.__ne__") [.ref x, y]) (fun v => Q (some v)) E s) : wpAny M A (callSpecialIfBound? (.ref x) "__ne__" [y]) Q E s := by
  have last : wpAny M A (call (.builtin "object.__ne__") ([.ref x] ++ [y]) >>= fun v => pure (some v)) Q E s := by
    refine wpAny_bind (wpAny_mono h (fun v s' z => ?_) fun _ _ z => z)
    exact wpAny_pure z
  simp only [callSpecialIfBound?, bindSpecialIfBound?]
  refine wpAny_holding (wpAny_bind (wpAny_bind (wpAny_bind (I.type.here ?_))))
  refine (PySem.W.looks_findIn X hn).here (wpAny_bind (wpAny_askSetting (wpAny_ite ?_)))
  have bd := F.cmp_object.ne.bind (.ref x)
  split
  · refine wpAny_bind (wpAny_of_eq bd ?_)
    exact wpAny_pure (by exact last)
  · refine wpAny_tryCatch (wpAny_bind (wpAny_of_eq bd ?_))
    exact wpAny_pure (by exact last)
theorem neRich {Q : Value → Shared → Prop} {tb : Value} (room : A.units + 1 < cLine) (X : K.In s.heap) (I : PySem.W.InstAt s.heap x ox C od) (hb : PySem.W.Looks (model prog w) s.heap (typeOf y) tb) (nf : PySem.W.notFirst K C tb = true)
    (hm : PySem.W.mroIn K C (.type "object") = some true) (hn : PySem.W.findIn K (.ref C) "__ne__" = some (some (.builtin "object.__ne__"))) (he : PySem.W.findIn K (.ref C) "__eq__" = some (some (.ref f))) (hf : PySem.W.isFn K (.ref f) = true)
    (h : wpAny (model prog w) A.in1 (call (.ref f) [.ref x, y]) (fun v s' => ∃ b, v = .bool b ∧ Q (.bool (!b)) s') E s) : wpAny (model prog w) A (richCompare .NotEq (.ref x) y) Q E s := by
  have one : wpAny (model prog w) A (tryCompare (.ref x) "__ne__" y) (fun r s' => ∃ b, r = some (.bool b) ∧ Q (.bool b) s') E s := by
    unfold tryCompare
    refine wpAny_bind (neBound X I hn (neCall (show A.in1.units < cLine from room) X I hm he hf (wpAny_mono h (fun v s' z => ?_) fun _ _ z => z)))
    obtain ⟨b, rfl, q⟩ := z
    exact ⟨b, rfl, wpAny_pure ⟨_, rfl, q⟩⟩
  unfold richCompare
  simp only [oneThing_ref]
  rw [cmpInfo_NotEq]
  refine wpAny_holding (wpAny_bind (wpAny_cRoomFor (Nat.lt_of_succ_lt room) ?_))
  refine wpAny_bind (I.type.here ?_)
  refine wpAny_bind (hb.here ?_)
  split
  · rename_i q
    have sub : PySem.W.subIn K tb (.ref C) = some false := by
      rcases Bool.or_eq_true_iff.mp nf with z | z
      · rw [beq_iff_eq.mp z] at q
        simp at q
      · exact beq_iff_eq.mp z
    refine wpAny_bind ((PySem.W.looks_subIn X sub).here ?_)
    simp only [Bool.false_eq_true, if_false]
    refine wpAny_bind (wpAny_mono one (fun r s' z => ?_) fun _ _ z => z)
    obtain ⟨b, rfl, q2⟩ := z
    exact wpAny_pure q2
  · refine wpAny_bind (wpAny_pure ?_)
    simp only [Bool.false_eq_true, if_false]
    refine wpAny_bind (wpAny_mono one (fun r s' z => ?_) fun _ _ z => z)
    obtain ⟨b, rfl, q2⟩ := z
    exact wpAny_pure q2
end
/-- which types come behind an own class -/
theorem nf_own {K : PySem.W.Frag} {C : Addr} : PySem.W.notFirst K C (.ref C) = true := by
  unfold PySem.W.notFirst
  simp
theorem nf_sub {K : PySem.W.Frag} {C : Addr} {t : Value} (h : PySem.W.subIn K t (.ref C) = some false) : PySem.W.notFirst K C t = true := by
  unfold PySem.W.notFirst
  rw [h]
  simp
theorem nf_ty {K : PySem.W.Frag} {C : Addr} {T : String} {l : List String} (h : fastBuiltinMro T = some (l.map Value.type)) : PySem.W.notFirst K C (.type T) = true := by
  refine nf_sub ?_
  show (fastBuiltinMro T).map (·.contains (.ref C)) = some false
  rw [h]
  have z : (l.map Value.type).contains (.ref C) = false := by
    rw [Bool.eq_false_iff]
    intro z
    have m := List.contains_iff_mem.mp z
    simp at m
  exact congrArg some z
section
variable {X : Cx} {CX : CXT} {C g : Addr} {n : Nat} {sp : Sp} {E : XK}
/-- what an own == promises for such values: a truth -/
def rOwnB (K : PySem.W.Frag) (C : Addr) (sp : Sp) (E : XK) (neg : Bool) : R2 := fun x y H Q => ∃ (a dx : Addr) (fs : List (Str × V)) (t : Value), x = .ref a ∧ H a = some (.ins C dx fs) ∧ TyX K H y t ∧ PySem.W.notFirst K C t = true ∧ sp [x, y] H (fun z H' => ∃ b, z = .bl b ∧ Q (.bl (neg ^^ b)) H') E
theorem op_eqO (he : PySem.W.findIn X.K (.ref C) "__eq__" = some (some (.ref g))) (hf : PySem.W.isFn X.K (.ref g) = true) (F : FnR X.prog X.w X.K X.mg X.base CX n g sp) (hr : Room n X.A) (hx : Passes CX X E) : OpR X (compareOp .Eq) (rOwnB X.K C sp E false) := by
  intro pins s σ H x y v u Q I rx ry h
  obtain ⟨a, dx, fs, t, rfl, ha, ty, nf, q⟩ := h
  cases (show v = Value.ref a from rx)
  obtain ⟨mA, J, _⟩ := ins_get I.hok ha
  obtain ⟨od, J, _⟩ := J.look
  obtain ⟨m, hF⟩ := I.fr
  obtain ⟨P, Z, hP, _⟩ := kit_of I ry ty
  show wpAny _ _ (richCompare .Eq (.ref a) u) _ _ s
  refine PySem.W.cmp_K (op := .Eq) hr.units0 hF I.ok.mod.kin J (Z.ty _ _ I.kIn hP) nf he hf ?_
  refine wpAny_mono (wpAny_call (SlX.run_at (us := [.ref a, u]) (ws := [.ref a, y]) F hr I.env0 hx I (.cons rfl (.cons ry .nil)) q)) (fun w' s' z => ?_) fun _ _ z => z
  obtain ⟨z', H', I', rz, b, rfl, q'⟩ := z
  cases (show w' = Value.bool b from rz)
  have q' : Q (.bl b) H' := by simpa using q'
  exact ⟨.bl b, H', I', rfl, q'⟩
theorem op_neO (he : PySem.W.findIn X.K (.ref C) "__eq__" = some (some (.ref g))) (hn : PySem.W.findIn X.K (.ref C) "__ne__" = some (some (.builtin "object.__ne__"))) (hm : PySem.W.mroIn X.K C (.type "object") = some true) (hf : PySem.W.isFn X.K (.ref g) = true)
    (F : FnR X.prog X.w X.K X.mg X.base CX n g sp) (hr : Room (n + 1) X.A) (hx : Passes CX X E) : OpR X (compareOp .NotEq) (rOwnB X.K C sp E true) := by
  intro pins s σ H x y v u Q I rx ry h
  obtain ⟨a, dx, fs, t, rfl, ha, ty, nf, q⟩ := h
  cases (show v = Value.ref a from rx)
  obtain ⟨mA, J, _⟩ := ins_get I.hok ha
  obtain ⟨od, J, _⟩ := J.look
  obtain ⟨P, Z, hP, _⟩ := kit_of I ry ty
  have hr1 : Room n X.A.in1 := hr.in1
  show wpAny _ _ (richCompare .NotEq (.ref a) u) _ _ s
  refine neRich (by have := hr1.units0; exact this) I.kIn J (Z.ty _ _ I.kIn hP) nf hm hn he hf ?_
  refine wpAny_mono (wpAny_call (SlX.run_at (us := [.ref a, u]) (ws := [.ref a, y]) F hr1 I.env0.in1 hx I (.cons rfl (.cons ry .nil)) q)) (fun w' s' z => ?_) fun _ _ z => z
  obtain ⟨z', H', I', rz, b, rfl, q'⟩ := z
  cases (show w' = Value.bool b from rz)
  have q' : Q (.bl (!b)) H' := by simpa using q'
  exact ⟨b, rfl, .bl (!b), H', I', rfl, q'⟩
end
end Ev
namespace Ev
open PySem L2 PySem.Spec PyProof.Rows
/-! bool(an instance) by an own __bool__. -/
section
variable {prog : Program} {w : World} {A : Around} {E : Value → Shared → Prop} {s : Shared} {K : PySem.W.Frag} {x C f : Addr} {ox : Obj} {od : Option Obj}
theorem truthyOwn {M : Model} {Q : Bool → Shared → Prop} (X : K.In s.heap) (I : PySem.W.InstAt s.heap x ox C od) (hs : PySem.W.findIn K (.ref C) "__bool__" = some (some (.ref f))) (hf : PySem.W.isFn K (.ref f) = true)
    (h : wpAny M A (call (.ref f) [.ref x]) (fun v s' => ∃ b, v = .bool b ∧ Q b s') E s) : wpAny M A (truthy (.ref x)) Q E s := by
  unfold truthy
  refine wpAny_bind (m := callSpecial? (.ref x) (Str.ofString "__bool__")) (PySem.W.special_fn X I hs (beq_iff_eq.mp hf) (wpAny_mono h (fun r s' z => ?_) fun _ _ z => z))
  obtain ⟨b, rfl, q⟩ := z
  exact wpAny_pure q
theorem boolRun {Q : Value → Shared → Prop} (X : K.In s.heap) (I : PySem.W.InstAt s.heap x ox C od) (hs : PySem.W.findIn K (.ref C) "__bool__" = some (some (.ref f))) (hf : PySem.W.isFn K (.ref f) = true)
    (h : wpAny (model prog w) A.in1.in1 (call (.ref f) [.ref x]) (fun v s' => ∃ b, v = .bool b ∧ Q (.bool b) s') E s) : wpAny (model prog w) A (call (.type "bool") [.ref x]) Q E s := by
  have g : MeetsIn prog w (Builtin.«bool.__new__» ⟨[.type "bool", .ref x], []⟩) (fun A' R s' => A' = A.in1 ∧ s' = s ∧ wpAny (model prog w) A.in1.in1 (call (.ref f) [.ref x]) (fun v s2 => ∃ b, v = .bool b ∧ R (.ok (.ret (.bool b))) s2) (fun e s2 => R (.error e) s2) s) :=
    .of_wp fun A' R s' h => by
      obtain ⟨rfl, rfl, h⟩ := h
      have hsub := F.conv_sub_bool
      have tr : ∀ {Q2 : Bool → Shared → Prop} {E2 : Value → Shared → Prop}, wpAny (model prog w) A.in1.in1 (call (.ref f) [.ref x]) (fun v s' => ∃ b, v = .bool b ∧ Q2 b s') E2 s' → wpAny (model prog w) A.in1.in1 (truthy (.ref x)) Q2 E2 s' := fun h => truthyOwn X I hs hf h
      repeat (any_goals (first | assumption | (with_reducible refine tr (wpAny_mono h (fun v s2 z => ?_) fun _ _ z => z); obtain ⟨b, rfl, q⟩ := z; refine ⟨b, rfl, ?_⟩) | wp_step))
      exact ⟨_, rfl, q⟩
  refine PySem.callType_newIn (S := _) F.called_bool F.newNe_bool (F.typeCall_bool_1 (.ref x)) (F.newCall_bool_1 (.ref x)) (fun obj => F.args_object_init_2 obj (.ref x)) F.entry_bool_new g ?_
  refine ⟨rfl, rfl, wpAny_mono h (fun v s' z => ?_) fun _ _ z => z⟩
  obtain ⟨b, rfl, q⟩ := z
  exact ⟨b, rfl, rfl, q⟩
end
section
variable {X : Cx} {CX : CXT} {C g : Addr} {n : Nat} {sp : Sp} {E : XK}
/-- bool(x), x an instance with an own __bool__: what that promises -/
def rBoolO (C : Addr) (sp : Sp) (E : XK) : List V → Hp → VK → Prop := fun xs H Q => ∃ (a dx : Addr) (fs : List (Str × V)), xs = [V.ref a] ∧ H a = some (.ins C dx fs) ∧ sp [.ref a] H (fun z H' => ∃ b : Bool, z = .bl b ∧ Q (.bl b) H') E
theorem call_boolO (hs : PySem.W.findIn X.K (.ref C) "__bool__" = some (some (.ref g))) (hf : PySem.W.isFn X.K (.ref g) = true) (F : FnR X.prog X.w X.K X.mg X.base CX n g sp) (hr : Room (n + 2) X.A) (hx : Passes CX X E) : CallR X (.type "bool") (rBoolO C sp E) := by
  intro pins s σ H xs us Q I r h
  obtain ⟨a, dx, fs, rfl, ha, q⟩ := h
  obtain ⟨u, rfl, ru⟩ := vals1 r
  cases (show u = Value.ref a from ru)
  obtain ⟨mA, J, _⟩ := ins_get I.hok ha
  obtain ⟨od, J, _⟩ := J.look
  have hr1 : Room n X.A.in1.in1 := (show Room (n + 1) X.A.in1 from hr.in1).in1
  refine boolRun I.kIn J hs hf (wpAny_mono (wpAny_call (SlX.run_at (us := [.ref a]) (ws := [.ref a]) F hr1 I.env0.in1.in1 hx I (.cons rfl .nil) q)) (fun w' s' z => ?_) fun _ _ z => z)
  obtain ⟨z', H', I', rz, b, rfl, q'⟩ := z
  cases (show w' = Value.bool b from rz)
  exact ⟨b, rfl, .bl b, H', I', rfl, q'⟩
end
end Ev
namespace Ev
open PySem L2 PySem.Spec PyProof.Rows RZ
/-! Fits and Spills: made, equal, true. -/
theorem sh_intsT (ns : List Int) : SeqAt.shaped (.tuple (ns.map PyData.int)) = true := by
  have h := sh_ints ns
  unfold SeqAt.shaped at h ⊢
  simpa [PyData.canLay0, PyData.depth] using h
theorem eqv_tupS (ps : List Int) : PyData.eqv (.tuple (ps.map PyData.int)) (.tuple (ps.map PyData.int)) = true := by
  have h : ∀ ps : List Int, PyData.eqvAll (ps.map PyData.int) (ps.map PyData.int) = true := by
    intro ps
    induction ps with
    | nil => simp [PyData.eqvAll]
    | cons a r ih => simp only [List.map_cons, PyData.eqvAll, ih, PyData.eqv]; simp
  simp only [PyData.eqv, h]
theorem hold_ints {H : Hp} {a : Addr} {ns : List Int} (h : H a = some (.tup (ns.map V.int))) (hl : ns.length ≤ 900) : Hold H (.ref a) (ns.map V.int) false :=
  .tup h (fun u z => by obtain ⟨n, _, rfl⟩ := List.mem_map.mp z; exact ⟨_, flat_int n⟩) (by rw [List.length_map]; exact hl)
theorem alike_flat {H H' : Hp} {v v' : V} (hv : ∀ a, v ≠ .ref a) (al : Alike H v H' v') : v' = v := by
  cases al with
  | same => rfl
  | lst => exact absurd rfl (hv _)
  | dct => exact absurd rfl (hv _)
theorem alike_tup {H H' : Hp} {a : Addr} {xs : List V} {v' : V} (h : H a = some (.tup xs)) (al : Alike H (.ref a) H' v') : v' = .ref a := by
  cases al with
  | same => rfl
  | lst e => rw [e] at h; cases h
  | dct e => rw [e] at h; cases h
/-- an instance's kind -/
structure InsT (K : PySem.W.Frag) (C : Addr) : Prop where
  ha : PySem.W.findIn K (.ref C) "__class__" = some (some (.builtin "object.__class__"))
  hn : PySem.W.specialIn K (.builtin "object.__class__") "__get__" = some (some (.builtin "getset_descriptor.__get__"))
  htk : PySem.W.takesIn K (.builtin "object.__class__") = some true
  hm : PySem.W.mroIn K C (.type "object") = some true
  ic : PySem.W.isClsIn K C = true
  tt : PySem.W.typeIn K (.ref C) = some (.type "type")
theorem kit_self {K : PySem.W.Frag} {C : Addr} : PySem.W.kitOne K (.ref C) (.ref C) = some true := by
  unfold PySem.W.kitOne
  rw [if_pos (by simp)]
def spBl (c : Bool) : Sp := fun vs H Q _ => ∃ v : V, vs = [v] ∧ Q (.bl c) H
structure FitC (K : PySem.W.Frag) (C : Addr) : Prop where
  cl : Cls K C
  n1 : NoAttr K C "size"
  n2 : NoAttr K C "wrong"
structure SpiC (K : PySem.W.Frag) (C : Addr) : Prop where
  cl : Cls K C
  n1 : NoAttr K C "size"
  n2 : NoAttr K C "step"
def fitF (n : Int) (a : Addr) : List (Str × V) := [("size", .int n), ("wrong", .ref a)]
def spiF (n m : Int) : List (Str × V) := [("size", .int n), ("step", .int m)]
def FitAt (C : Addr) (H : Hp) (x : Addr) (n : Int) (ws : List Int) : Prop := ∃ dx a, H x = some (.ins C dx (fitF n a)) ∧ H a = some (.tup (ws.map V.int))
def SpiAt (C : Addr) (H : Hp) (x : Addr) (n m : Int) : Prop := ∃ dx, H x = some (.ins C dx (spiF n m))
theorem FitAt.keep {C x : Addr} {H H' : Hp} {n : Int} {ws : List Int} (h : FitAt C H x n ws) (k : ∀ b o, H b = some o → H' b = some o) : FitAt C H' x n ws := by
  obtain ⟨dx, a, h1, h2⟩ := h
  exact ⟨dx, a, k _ _ h1, k _ _ h2⟩
theorem SpiAt.keep {C x : Addr} {H H' : Hp} {n m : Int} (h : SpiAt C H x n m) (k : ∀ b o, H b = some o → H' b = some o) : SpiAt C H' x n m := by
  obtain ⟨dx, h1⟩ := h
  exact ⟨dx, k _ _ h1⟩
theorem fit_size (n : Int) (a : Addr) : (fitF n a).lookup ("size" : Str) = some (.int n) := lk_hit
theorem fit_wrong (n : Int) (a : Addr) : (fitF n a).lookup ("wrong" : Str) = some (.ref a) := (lk_miss (by decide +kernel)).trans lk_hit
theorem spi_size (n m : Int) : (spiF n m).lookup ("size" : Str) = some (.int n) := lk_hit
theorem spi_step (n m : Int) : (spiF n m).lookup ("step" : Str) = some (.int m) := (lk_miss (by decide +kernel)).trans lk_hit
theorem fp1 {a : V} : putF "size" a [] = ([("size", a)] : List (Str × V)) := rfl
theorem fp2 {a b : V} : putF "wrong" b [("size", a)] = ([("size", a), ("wrong", b)] : List (Str × V)) := put_new (by intro e0 he; simp only [List.mem_cons, List.not_mem_nil, or_false] at he; subst he; dsimp only; decide +kernel)
theorem fp3 {a b : V} : putF "step" b [("size", a)] = ([("size", a), ("step", b)] : List (Str × V)) := put_new (by intro e0 he; simp only [List.mem_cons, List.not_mem_nil, or_false] at he; subst he; dsimp only; decide +kernel)
def spFitI (C : Addr) : Sp := fun vs H Q _ => ∃ (x dx a : Addr) (n : Int) (ws : List Int), vs = [.ref x, .int n, .ref a] ∧ H x = some (.ins C dx []) ∧ H a = some (.tup (ws.map V.int)) ∧ ws.length ≤ 900 ∧ ∀ H', But x H H' → H' x = some (.ins C dx (fitF n a)) → Q .non H'
def spSpiI (C : Addr) : Sp := fun vs H Q _ => ∃ (x dx : Addr) (n m : Int), vs = [.ref x, .int n, .int m] ∧ H x = some (.ins C dx []) ∧ ∀ H', But x H H' → H' x = some (.ins C dx (spiF n m)) → Q .non H'
def spFitE (C : Addr) : Sp := fun vs H Q _ => ∃ (x y : Addr) (n : Int) (ws : List Int), vs = [.ref x, .ref y] ∧ FitAt C H x n ws ∧ FitAt C H y n ws ∧ Q (.bl true) H
def spSpiE (C : Addr) : Sp := fun vs H Q _ => ∃ (x y : Addr) (n m : Int), vs = [.ref x, .ref y] ∧ SpiAt C H x n m ∧ SpiAt C H y n m ∧ Q (.bl true) H
section
variable {P : Program} {w : World} {K : PySem.W.Frag} {mg : Str → Option Value} {base : Heap}
theorem scFitI : FnScope ["self", "size", "wrong"] ["self", "size", "wrong"] (defScope sFits_init) := ⟨rfl, rfl, rfl, by decide +kernel, rfl, by decide +kernel, by decide +kernel⟩
theorem ok_fitI {f C : Addr} {fd : FuncData} (F : Fun K "__init__" "Fits.__init__" sFits_init f fd) (T : FitC K C) (D : Df P w K mg base 3 "kept" ["value"] spKeptV) : FnOk P w K mg base CX0 4 f fd ["self", "size", "wrong"] (spFitI C) := by
  obtain ⟨f1, fd1, G1, g1, k1, b1⟩ := D.ex
  refine F.ok scFitI (fun vs H Q E h => ?_) (fun cdv A outer s H vs Q E hr h => ?_)
  · obtain ⟨x, dx, a, n, ws, rfl, _⟩ := h
    rfl
  · obtain ⟨x, dx, a, n, ws, rfl, hx, ha, hl, kk⟩ := h
    refine ⟨_, (pss_cons (ps_fld (pv 0) (pe_call G1 hr (by rfl) g1 k1 b1 .nil pass0 (pa_cons (pv 1) pa_nil)) rfl)
      (pss_one (ps_fld (pv 0) (pe_call G1 hr (by rfl) g1 k1 b1 .nil pass0 (pa_cons (pv 2) pa_nil)) rfl))), ?_⟩
    have ax : a ≠ x := fun z => by rw [z, hx] at ha; cases ha
    refine ⟨_, rfl, .int n, [], false, rfl, .flat (flat_int n), fun v1 H1 s1 al => ?_⟩
    obtain rfl := alike_flat (fun a z => by cases z) al
    refine ⟨_, rfl, x, C, dx, _, rfl, s1 _ _ hx, T.cl, T.n1, (by show 0 < 1000; decide), ?_⟩
    rw [fp1]
    have x1 : upd H1 x (.ins C dx [("size", .int n)]) x = some (.ins C dx [("size", .int n)]) := upd_same
    have t1 : But x H (upd H1 x (.ins C dx [("size", .int n)])) := (Same.but s1).trans But.upd_at
    generalize upd H1 x (.ins C dx [("size", .int n)]) = G1' at x1 t1 ⊢
    refine ⟨_, rfl, .ref a, _, _, rfl, hold_ints (t1 _ _ ax ha) hl, fun v2 H2 s2 al => ?_⟩
    obtain rfl := alike_tup (t1 _ _ ax ha) al
    refine ⟨_, rfl, x, C, dx, _, rfl, s2 _ _ x1, T.cl, T.n2, (by show 1 < 1000; decide), ?_⟩
    rw [fp2]
    exact kk _ (t1.trans ((Same.but s2).trans But.upd_at)) upd_same
theorem scSpiI : FnScope ["self", "size", "step"] ["self", "size", "step"] (defScope sSpills_init) := ⟨rfl, rfl, rfl, by decide +kernel, rfl, by decide +kernel, by decide +kernel⟩
theorem ok_spiI {f C : Addr} {fd : FuncData} (F : Fun K "__init__" "Spills.__init__" sSpills_init f fd) (T : SpiC K C) (D : Df P w K mg base 3 "kept" ["value"] spKeptV) : FnOk P w K mg base CX0 4 f fd ["self", "size", "step"] (spSpiI C) := by
  obtain ⟨f1, fd1, G1, g1, k1, b1⟩ := D.ex
  refine F.ok scSpiI (fun vs H Q E h => ?_) (fun cdv A outer s H vs Q E hr h => ?_)
  · obtain ⟨x, dx, n, m, rfl, _⟩ := h
    rfl
  · obtain ⟨x, dx, n, m, rfl, hx, kk⟩ := h
    refine ⟨_, (pss_cons (ps_fld (pv 0) (pe_call G1 hr (by rfl) g1 k1 b1 .nil pass0 (pa_cons (pv 1) pa_nil)) rfl)
      (pss_one (ps_fld (pv 0) (pe_call G1 hr (by rfl) g1 k1 b1 .nil pass0 (pa_cons (pv 2) pa_nil)) rfl))), ?_⟩
    refine ⟨_, rfl, .int n, [], false, rfl, .flat (flat_int n), fun v1 H1 s1 al => ?_⟩
    obtain rfl := alike_flat (fun a z => by cases z) al
    refine ⟨_, rfl, x, C, dx, _, rfl, s1 _ _ hx, T.cl, T.n1, (by show 0 < 1000; decide), ?_⟩
    rw [fp1]
    have x1 : upd H1 x (.ins C dx [("size", .int n)]) x = some (.ins C dx [("size", .int n)]) := upd_same
    have t1 : But x H (upd H1 x (.ins C dx [("size", .int n)])) := (Same.but s1).trans But.upd_at
    generalize upd H1 x (.ins C dx [("size", .int n)]) = G1' at x1 t1 ⊢
    refine ⟨_, rfl, .int m, [], false, rfl, .flat (flat_int m), fun v2 H2 s2 al => ?_⟩
    obtain rfl := alike_flat (fun a z => by cases z) al
    refine ⟨_, rfl, x, C, dx, _, rfl, s2 _ _ x1, T.cl, T.n2, (by show 1 < 1000; decide), ?_⟩
    rw [fp3]
    exact kk _ (t1.trans ((Same.but s2).trans But.upd_at)) upd_same
theorem scFitE : FnScope ["self", "other"] ["self", "other"] (defScope sFits_eq) := ⟨rfl, rfl, rfl, by decide +kernel, rfl, by decide +kernel, by decide +kernel⟩
theorem ok_fitE {f C : Addr} {fd : FuncData} (F : Fun K "__eq__" "Fits.__eq__" sFits_eq f fd) (T : Blt mg) (TC : FitC K C) (IT : InsT K C) (gC : mg "Fits" = some (.ref C)) : FnOk P w K mg base CX0 1 f fd ["self", "other"] (spFitE C) := by
  refine F.ok scFitE (fun vs H Q E h => ?_) (fun cdv A outer s H vs Q E hr h => ?_)
  · obtain ⟨x, y, n, ws, rfl, _⟩ := h
    rfl
  · obtain ⟨x, y, n, ws, rfl, ⟨dx, a, hx, ha⟩, ⟨dy, a2, hy, ha2⟩, kk⟩ := h
    refine ⟨_, pss_one (ps_ret (pe_and (pe_callB call_isi (by rfl) T.isi (by decide +kernel) (pa_cons (pv 1) (pa_cons (pe_glob (v := .ref C) rfl gC rfl) pa_nil)))
      (pe_and (pe_cmpR op_eq (pe_fld (pv 0) rfl) (pe_fld (pv 1) rfl) (nomark _)) (pe_one (pe_cmpR (op_eqD (Room.units hr)) (pe_fld (pv 0) rfl) (pe_fld (pv 1) rfl) (nomark _)))))), ?_⟩
    refine ⟨_, rfl, _, _, _, _, true, rfl, .own C, .base (.ins hy TC.cl IT.ha IT.hn IT.htk IT.hm), kit_self, true, rfl, iteT ?_⟩
    refine ⟨_, rfl, x, C, dx, _, _, rfl, hx, TC.cl, TC.n1, fit_size _ _, _, rfl, y, C, dy, _, _, rfl, hy, TC.cl, TC.n1, fit_size _ _, rfl, _, rfl, ?_⟩
    rw [decide_eq_true rfl]
    refine iteT ⟨_, rfl, x, C, dx, _, _, rfl, hx, TC.cl, TC.n2, fit_wrong _ _, _, rfl, y, C, dy, _, _, rfl, hy, TC.cl, TC.n2, fit_wrong _ _, _, _, .tup (SqT.of ha) (dpInts ws), .tup (SqT.of ha2) (dpInts ws), sh_intsT _, sh_intsT _, ?_⟩
    rw [eqv_tupS]
    exact kk
theorem scSpiE : FnScope ["self", "other"] ["self", "other"] (defScope sSpills_eq) := ⟨rfl, rfl, rfl, by decide +kernel, rfl, by decide +kernel, by decide +kernel⟩
theorem ok_spiE {f C : Addr} {fd : FuncData} (F : Fun K "__eq__" "Spills.__eq__" sSpills_eq f fd) (T : Blt mg) (TC : SpiC K C) (IT : InsT K C) (gC : mg "Spills" = some (.ref C)) : FnOk P w K mg base CX0 1 f fd ["self", "other"] (spSpiE C) := by
  refine F.ok scSpiE (fun vs H Q E h => ?_) (fun cdv A outer s H vs Q E hr h => ?_)
  · obtain ⟨x, y, n, m, rfl, _⟩ := h
    rfl
  · obtain ⟨x, y, n, m, rfl, ⟨dx, hx⟩, ⟨dy, hy⟩, kk⟩ := h
    refine ⟨_, pss_one (ps_ret (pe_and (pe_callB call_isi (by rfl) T.isi (by decide +kernel) (pa_cons (pv 1) (pa_cons (pe_glob (v := .ref C) rfl gC rfl) pa_nil)))
      (pe_and (pe_cmpR op_eq (pe_fld (pv 0) rfl) (pe_fld (pv 1) rfl) (nomark _)) (pe_one (pe_cmpR op_eq (pe_fld (pv 0) rfl) (pe_fld (pv 1) rfl) (nomark _)))))), ?_⟩
    refine ⟨_, rfl, _, _, _, _, true, rfl, .own C, .base (.ins hy TC.cl IT.ha IT.hn IT.htk IT.hm), kit_self, true, rfl, iteT ?_⟩
    refine ⟨_, rfl, x, C, dx, _, _, rfl, hx, TC.cl, TC.n1, spi_size _ _, _, rfl, y, C, dy, _, _, rfl, hy, TC.cl, TC.n1, spi_size _ _, rfl, _, rfl, ?_⟩
    rw [decide_eq_true rfl]
    refine iteT ⟨_, rfl, x, C, dx, _, _, rfl, hx, TC.cl, TC.n2, spi_step _ _, _, rfl, y, C, dy, _, _, rfl, hy, TC.cl, TC.n2, spi_step _ _, rfl, ?_⟩
    rw [decide_eq_true rfl]
    exact kk
theorem scFitB : FnScope ["self"] ["self"] (defScope sFits_bool) := ⟨rfl, rfl, rfl, by decide +kernel, rfl, by decide +kernel, by decide +kernel⟩
theorem ok_fitB {f : Addr} {fd : FuncData} (F : Fun K "__bool__" "Fits.__bool__" sFits_bool f fd) : FnOk P w K mg base CX0 1 f fd ["self"] (spBl true) := by
  refine F.ok scFitB (fun vs H Q E h => ?_) (fun cdv A outer s H vs Q E hr h => ?_)
  · obtain ⟨v, rfl, _⟩ := h
    rfl
  · obtain ⟨v, rfl, k⟩ := h
    exact ⟨_, pss_one (ps_ret pe_bl), k⟩
theorem scSpiB : FnScope ["self"] ["self"] (defScope sSpills_bool) := ⟨rfl, rfl, rfl, by decide +kernel, rfl, by decide +kernel, by decide +kernel⟩
theorem ok_spiB {f : Addr} {fd : FuncData} (F : Fun K "__bool__" "Spills.__bool__" sSpills_bool f fd) : FnOk P w K mg base CX0 1 f fd ["self"] (spBl false) := by
  refine F.ok scSpiB (fun vs H Q E h => ?_) (fun cdv A outer s H vs Q E hr h => ?_)
  · obtain ⟨v, rfl, _⟩ := h
    rfl
  · obtain ⟨v, rfl, k⟩ := h
    exact ⟨_, pss_one (ps_ret pe_bl), k⟩
end
end Ev
namespace Ev
open PySem L2 PySem.Spec PyProof.Rows RZ
/-- the inner loop of a comprehension over a list and a range -/
theorem lc2_in {lo : Int} {n : Nat} {g1 : TG} {tt1 : TT} {te : TE} {vs1 : List Nat} {σ2 : L2.St} {H4 : Hp} {D : Addr} {Nx : Hp → Prop} (Pv : Nat → Hp → Prop) (h0 : Pv 0 H4)
    (hs : ∀ i H, i < n → Pv i H → g1 (.int (lo + i)) (wipe σ2 vs1) H fun σ3 H5 => wipe σ3 vs1 = wipe σ2 vs1 ∧ tt1 σ3 H5 fun b H6 =>
      if b = true then te σ3 H6 fun y H7 => ∃ acc, H7 D = some (.lst acc) ∧ acc.length < sizeLine ∧ Pv (i + 1) (upd H7 D (.lst (acc ++ [y]))) else Pv (i + 1) H6) (hd : ∀ H, Pv n H → Nx H) :
    ∃ W1 : Nat → Nat → Hp → Prop, (∃ m, W1 0 m H4) ∧ ∀ j k H, W1 j k H →
      ((Itr lo n).stop j H ∧ Nx H) ∨ ((Itr lo n).go j H ∧ ∃ Nx1 : Hp → Prop, (∀ H', Nx1 H' → ∃ k', k' < k ∧ W1 (j + 1) k' H') ∧ ∀ x H', (Itr lo n).yld j H x H' → g1 x (wipe σ2 vs1) H' fun σ3 H5 => wipe σ3 vs1 = wipe σ2 vs1 ∧ tt1 σ3 H5 fun b H6 =>
        if b = true then te σ3 H6 fun y H7 => ∃ acc, H7 D = some (.lst acc) ∧ acc.length < sizeLine ∧ Nx1 (upd H7 D (.lst (acc ++ [y]))) else Nx1 H6) := by
  refine ⟨fun i m H => m = n - i ∧ i ≤ n ∧ Pv i H, ⟨n, by simp, Nat.zero_le _, h0⟩, ?_⟩
  rintro i m H ⟨rfl, hi, p⟩
  by_cases hlt : i < n
  · refine .inr ⟨hlt, Pv (i + 1), fun H' p' => ⟨n - (i + 1), by omega, rfl, hlt, p'⟩, fun x H' y => ?_⟩
    obtain ⟨e, y⟩ := y
    subst e y
    exact hs i _ hlt p
  · have e : i = n := by omega
    subst e
    exact .inl ⟨Nat.le_refl _, hd H p⟩
/-- the outer one, over a list that stands still -/
theorem lc2_out {K : PySem.W.Frag} {a : Addr} {xs : List V} {wi1 : TI} {g g1 : TG} {tt tt1 : TT} {te : TE} {vs vs1 : List Nat} {σ : L2.St} {H1 : Hp} {D : Addr} {Qd : Hp → Prop} (Pv : Nat → Hp → Prop) (h0 : Pv 0 (upd H1 D (.lst []))) (hl : ∀ i H, i ≤ xs.length → Pv i H → SqL K H a xs)
    (hs : ∀ i x H, xs[i]? = some x → Pv i H → g x (wipe σ vs) H fun σ2 H2 => wipe σ2 vs = wipe σ vs ∧ tt σ2 H2 fun b H3 =>
      if b = true then wi1 σ2 H3 fun J1 H4 => ∃ W1 : Nat → Nat → Hp → Prop, (∃ m, W1 0 m H4) ∧ ∀ j k H, W1 j k H →
        (J1.stop j H ∧ Pv (i + 1) H) ∨ (J1.go j H ∧ ∃ Nx1 : Hp → Prop, (∀ H', Nx1 H' → ∃ k', k' < k ∧ W1 (j + 1) k' H') ∧ ∀ x H', J1.yld j H x H' → g1 x (wipe σ2 vs1) H' fun σ3 H5 => wipe σ3 vs1 = wipe σ2 vs1 ∧ tt1 σ3 H5 fun b H6 =>
          if b = true then te σ3 H6 fun y H7 => ∃ acc, H7 D = some (.lst acc) ∧ acc.length < sizeLine ∧ Nx1 (upd H7 D (.lst (acc ++ [y]))) else Nx1 H6)
      else Pv (i + 1) H3) (hd : ∀ H, Pv xs.length H → Qd H) :
    ∃ W : Nat → Nat → Hp → Prop, (∃ m, W 0 m (upd H1 D (.lst []))) ∧ ∀ i m H, W i m H →
      ((Itl K a).stop i H ∧ Qd H) ∨ ((Itl K a).go i H ∧ ∃ Nx : Hp → Prop, (∀ H', Nx H' → ∃ m', m' < m ∧ W (i + 1) m' H') ∧ ∀ x H', (Itl K a).yld i H x H' → g x (wipe σ vs) H' fun σ2 H2 => wipe σ2 vs = wipe σ vs ∧ tt σ2 H2 fun b H3 =>
        if b = true then wi1 σ2 H3 fun J1 H4 => ∃ W1 : Nat → Nat → Hp → Prop, (∃ m, W1 0 m H4) ∧ ∀ j k H, W1 j k H →
          (J1.stop j H ∧ Nx H) ∨ (J1.go j H ∧ ∃ Nx1 : Hp → Prop, (∀ H', Nx1 H' → ∃ k', k' < k ∧ W1 (j + 1) k' H') ∧ ∀ x H', J1.yld j H x H' → g1 x (wipe σ2 vs1) H' fun σ3 H5 => wipe σ3 vs1 = wipe σ2 vs1 ∧ tt1 σ3 H5 fun b H6 =>
            if b = true then te σ3 H6 fun y H7 => ∃ acc, H7 D = some (.lst acc) ∧ acc.length < sizeLine ∧ Nx1 (upd H7 D (.lst (acc ++ [y]))) else Nx1 H6)
        else Nx H3) := by
  refine ⟨fun i m H => m = xs.length - i ∧ i ≤ xs.length ∧ Pv i H, ⟨xs.length, by simp, Nat.zero_le _, h0⟩, ?_⟩
  rintro i m H ⟨rfl, hi, p⟩
  have q := hl i H hi p
  by_cases hlt : i < xs.length
  · refine .inr ⟨⟨xs, xs[i], q, by simp [hlt]⟩, Pv (i + 1), fun H' p' => ⟨xs.length - (i + 1), by omega, rfl, hlt, p'⟩, fun x H' y => ?_⟩
    obtain ⟨e, y⟩ := y
    subst e
    exact hs i x _ (y xs q) p
  · have e : i = xs.length := by omega
    subst e
    exact .inl ⟨⟨xs, q, Nat.le_refl _⟩, hd H p⟩
theorem tyes {σ : L2.St} {H : Hp} {Q : Bool → Hp → Prop} (h : Q true H) : tYes σ H Q := h
theorem at_last {ws : List Int} (h : 0 < ws.length) : atI (ws.map V.int) (-1) = some (.int (ws.getLastD 0)) := by
  unfold atI ixN
  rw [List.length_map, if_neg (by decide), if_pos (by omega)]
  show (ws.map V.int)[_]? = _
  rw [show ((-1 : Int) + (ws.length : Int)).toNat = ws.length - 1 by omega, List.getElem?_map, List.getElem?_eq_getElem (by omega)]
  have : ws ≠ [] := by intro z; rw [z] at h; exact absurd h (by decide)
  rw [List.getLastD_eq_getLast?, List.getLast?_eq_some_getLast this, List.getLast_eq_getElem]
  rfl
def sizeOf' (ws : List Int) : Int := if 0 < ws.length then ws.getLastD 0 + 1 else 2
theorem dueW_len (r : Fr) : r.dueW.length ≤ 300 := by
  unfold Fr.dueW Fr.dueN
  refine Nat.le_trans (List.length_filter_le _ _) ?_
  simp
/-- what is judged -/
def JudgedAt (F S : Addr) (H : Hp) (y : Addr) (r : Fr) : Prop := (r.spilt = [] ∧ FitAt F H y (sizeOf' r.dueW) r.dueW) ∨ (∃ m, IsMin m r.spilt ∧ SpiAt S H y m r.q)
def spJudge (C F S : Addr) : Sp := fun vs H Q _ => ∃ (x : Addr) (r : Fr), vs = [.ref x] ∧ FAt C H x r ∧ r.ok ∧ ∀ y H', Same H H' → JudgedAt F S H' y r → Q (.ref y) H'
def spNeedOk (C : Addr) : Sp := fun vs H Q _ => ∃ (x : Addr) (r : Fr), vs = [.ref x] ∧ FAt C H x r ∧ Q .non H
structure VMk (P : Program) (w : World) (K : PySem.W.Frag) (mg : Str → Option Value) (base : Heap) (F S : Addr) : Prop where
  gF : mg "Fits" = some (.ref F)
  gS : mg "Spills" = some (.ref S)
  mF : ∃ (f : Addr) (fd : FuncData), Mk K F f ∧ FnOk P w K mg base CX0 4 f fd ["self", "size", "wrong"] (spFitI F) ∧ Binds K fd ["self", "size", "wrong"] []
  mS : ∃ (f : Addr) (fd : FuncData), Mk K S f ∧ FnOk P w K mg base CX0 4 f fd ["self", "size", "step"] (spSpiI S) ∧ Binds K fd ["self", "size", "step"] []
theorem mk_fit {F : Addr} {H : Hp} {n : Int} {a : Addr} {ws : List Int} {E : XK} {Q : VK} (ha : H a = some (.tup (ws.map V.int))) (hl : ws.length ≤ 900) (k : ∀ y G, Same H G → FitAt F G y n ws → Q (.ref y) G) :
    ∀ x dx, H x = none → H dx = none → dx ≠ x → spFitI F (.ref x :: ([.int n, .ref a] ++ [])) (upd (upd H dx (.own x)) x (.ins F dx [])) (fun v H2 => v = .non ∧ Q (.ref x) H2) E := by
  intro x dx nx nd ne
  have n2 : (upd H dx (.own x)) x = none := by rw [upd_ne (fun z => ne z.symm)]; exact nx
  have s1 : Same H (upd (upd H dx (.own x)) x (.ins F dx [])) := (same_new nd).trans (same_new n2)
  refine ⟨x, dx, a, n, ws, rfl, upd_same, s1 _ _ ha, hl, fun H' bt hx => ⟨rfl, k x H' (fun c o e => ?_) ⟨dx, a, hx, bt _ _ (ne_of_none ha nx) (s1 _ _ ha)⟩⟩⟩
  exact bt c o (ne_of_none e nx) (s1 _ _ e)
theorem mk_spi {S : Addr} {H : Hp} {n m : Int} {E : XK} {Q : VK} (k : ∀ y G, Same H G → SpiAt S G y n m → Q (.ref y) G) :
    ∀ x dx, H x = none → H dx = none → dx ≠ x → spSpiI S (.ref x :: ([.int n, .int m] ++ [])) (upd (upd H dx (.own x)) x (.ins S dx [])) (fun v H2 => v = .non ∧ Q (.ref x) H2) E := by
  intro x dx nx nd ne
  have n2 : (upd H dx (.own x)) x = none := by rw [upd_ne (fun z => ne z.symm)]; exact nx
  have s1 : Same H (upd (upd H dx (.own x)) x (.ins S dx [])) := (same_new nd).trans (same_new n2)
  exact ⟨x, dx, n, m, rfl, upd_same, fun H' bt hx => ⟨rfl, k x H' (fun c o e => bt c o (ne_of_none e nx) (s1 _ _ e)) ⟨dx, hx⟩⟩⟩
/-- how far a list of triples is gone through -/
def Fr.spiltN (r : Fr) (n : Nat) : List Int := (List.range n).filterMap (fun (i : Nat) => r.st (2 + (i : Int)))
theorem spiltN_succ (r : Fr) (n : Nat) : r.spiltN (n + 1) = r.spiltN n ++ (match r.st (2 + (n : Int)) with | some m => [m] | none => []) := by
  unfold Fr.spiltN
  rw [List.range_succ, List.filterMap_append]
  congr 1
  simp only [List.filterMap_cons, List.filterMap_nil]
  cases r.st (2 + (n : Int)) <;> rfl
theorem spiltN_len (r : Fr) (n : Nat) : (r.spiltN n).length ≤ n := by
  unfold Fr.spiltN
  exact Nat.le_trans (List.length_filterMap_le _ _) (by simp)
def Fr.row (r : Fr) (i : Nat) (n : Nat) : List Int := (List.range n).map fun (t : Nat) => 2 + (i : Int) + r.q * (t : Int)
def Fr.wrongT (r : Fr) (n : Nat) : List Int := (List.range n).flatMap fun (i : Nat) => r.row i (r.span (2 + (i : Int))).1.toNat
theorem row_succ (r : Fr) (i n : Nat) : r.row i (n + 1) = r.row i n ++ [2 + (i : Int) + r.q * (n : Int)] := by
  unfold Fr.row
  rw [List.range_succ, List.map_append]; rfl
theorem wrongT_succ (r : Fr) (n : Nat) : r.wrongT (n + 1) = r.wrongT n ++ r.row n (r.span (2 + (n : Int))).1.toNat := by
  unfold Fr.wrongT
  rw [List.range_succ, List.flatMap_append]; simp
theorem row_len (r : Fr) (i n : Nat) : (r.row i n).length = n := by
  unfold Fr.row; simp
theorem wrongT_len {r : Fr} (h : ∀ i : Nat, (i : Int) < r.q → (r.span (2 + (i : Int))).1 ≤ 200) : ∀ n : Nat, (n : Int) ≤ r.q → (r.wrongT n).length ≤ 200 * n
  | 0, _ => by unfold Fr.wrongT; simp
  | n + 1, hn => by
    rw [wrongT_succ, List.length_append, row_len]
    have := wrongT_len h n (by omega)
    have := h n (by omega)
    omega
theorem first_200 {r : Fr} (o : r.ok) (h : r.spilt = []) (i : Nat) (hi : (i : Int) < r.q) : (r.span (2 + (i : Int))).1 ≤ 200 := by
  have := (span_hi o (s := 2 + (i : Int)) (by omega) (by omega)).2 (spilt_nil h hi)
  have := mul12 (t := (r.span (2 + (i : Int))).1) o.q1 o.q2
  have := Fr.span_nn o (2 + (i : Int))
  omega
abbrev nJ : List Str := ["rule", "step", "spans", "spilt", "size", "first", "last", "wrong", "_", "times"]
section
variable {P : Program} {w : World} {K : PySem.W.Frag} {mg : Str → Option Value} {base : Heap}
theorem scJudgeFill : FnScope nJ ["rule"] (defScope sJudgeFill) := ⟨rfl, rfl, rfl, by decide +kernel, rfl, by decide +kernel, by decide +kernel⟩
theorem ok_judge {f C A S : Addr} {fd : FuncData} (F : Fun K "judge_fill" "judge_fill" sJudgeFill f fd) (T : FCls K C) (B : Blt mg) (mso : mg "sorted" = none) (VM : VMk P w K mg base A S) {tl : Tok} (gL : mg "LEAST_SIZE" = some (.int 2 tl))
    (D0 : Df P w K mg base 5 "need_fill_rule" ["value"] (spNeedOk C)) (D1 : Df P w K mg base 3 "right_spans" ["rule"] (spRSpans C)) : FnOk P w K mg base CX0 6 f fd ["rule"] (spJudge C A S) := by
  obtain ⟨f0, fd0, G0, g0, k0, b0⟩ := D0.ex
  obtain ⟨f1, fd1, G1, g1, k1, b1⟩ := D1.ex
  obtain ⟨gF, gS, ⟨fF, fdF, MF, GF, bF⟩, ⟨fS, fdS, MS, GS, bS⟩⟩ := VM
  refine F.ok scJudgeFill (fun vs H Q E h => ?_) (fun cdv A' outer s H vs Q E hr h => ?_)
  · obtain ⟨x, r, rfl, _⟩ := h
    rfl
  · obtain ⟨x, r, rfl, fa, o, kk⟩ := h
    obtain ⟨dx, ta, hx, ha⟩ := id fa
    have q1 := o.q1; have q2 := o.q2
    refine ⟨_, (pss_cons (ps_expr (pe_call G0 hr (by rfl) g0 k0 b0 .nil pass0 (pa_cons (pv 0) pa_nil)))
    (pss_cons (ps_set (i := 1) scJudgeFill.nd rfl (.inr rfl) (pe_ix ix_tup (pe_fld (pv 0) rfl) pe_int (fun _ _ => rfl)))
    (pss_cons (ps_set (i := 2) scJudgeFill.nd rfl (.inl rfl) (pe_call G1 (hr.mono (by decide)) (by rfl) g1 k1 b1 .nil pass0 (pa_cons (pv 0) pa_nil)))
    (pss_cons (ps_setLc (i := 3) (own := [("size", 4), ("first", 5), ("last", 6)]) (g := gTup K 3 (gCons (gName 4) (gCons (gName 5) (gCons (gName 6) gNil)))) (by rfl) scJudgeFill.nd rfl rfl (sw_true rfl rfl rfl (by decide +kernel)) (pi_list (pv 2)) (blkOk_by (own := [("size", 4), ("first", 5), ("last", 6)]) (N := nJ) (sc := defScope sJudgeFill) (by decide +kernel)) (fun _ _ _ _ _ => (pg_tup (by rfl) (pgs_cons (pg_name (i := 4) scJudgeFill.nd rfl (.inl rfl)) (pgs_cons (pg_name (i := 5) scJudgeFill.nd rfl (.inl rfl)) (pgs_cons (pg_name (i := 6) scJudgeFill.nd rfl (.inl rfl)) pgs_nil))))) (fun _ _ _ _ _ => pts_one (pt_cmpR op_notN (pv 6) pe_non (nomark _))) (fun _ _ _ _ _ => (pe_op op_add (pv 4) (pe_op op_mul (pv 1) (pe_ifExp (pt_cmpR op_ge (pv 6) (pv 5) (nomark _)) (pe_op op_add (pv 6) pe_int) pe_int)))))
    (pss_cons (ps_if (pt_cmpR op_gt (pe_callB call_len_seq (by rfl) B.len PySem.boot_len (pa_cons (pv 3) pa_nil)) pe_int (nomark _))
      (pss_one (ps_ret (pe_make MS GS (hr.mono (by decide)) (by rfl) gS bS .nil pass0 (pa_cons (pe_callB (cr_min rfl) (by rfl) B.min (by decide +kernel) (pa_cons (pe_lc (own := [("size", 4)]) (g := gName 4) (tt := tYes) (by rfl) scJudgeFill.nd (pi_list (pv 3)) (blkOk_by (own := [("size", 4)]) (N := nJ) (sc := defScope sJudgeFill) (by decide +kernel)) (fun _ _ _ _ _ => pg_name (i := 4) scJudgeFill.nd rfl (.inl rfl)) (fun _ _ _ _ _ => pts_nil) (fun _ _ _ _ _ => (pe_callTy call_int1 (by rfl) B.int (by decide +kernel) (pa_cons (pv 4) pa_nil)))) pa_nil)) (pa_cons (pv 1) pa_nil))))) pss_nil)
    (pss_cons (ps_set (i := 7) scJudgeFill.nd rfl (.inl rfl) (pe_callB cr_sortedI (by rfl) mso (by decide +kernel) (pa_cons (pe_lc2 (own := [("size", 4), ("first", 5), ("_", 8), ("times", 9)]) (vs1 := [9]) (g := gTup K 3 (gCons (gName 4) (gCons (gName 5) (gCons (gName 8) gNil)))) (g1 := gName 9) (tt := tYes) (tt1 := tYes) (by rfl) scJudgeFill.nd (pi_list (pv 2)) (blkOk_by (own := [("size", 4), ("first", 5), ("_", 8), ("times", 9)]) (N := nJ) (sc := defScope sJudgeFill) (by decide +kernel)) (by decide) (fun _ _ _ _ _ => (pg_tup (by rfl) (pgs_cons (pg_name (i := 4) scJudgeFill.nd rfl (.inl rfl)) (pgs_cons (pg_name (i := 5) scJudgeFill.nd rfl (.inl rfl)) (pgs_cons (pg_name (i := 8) scJudgeFill.nd rfl (.inl rfl)) pgs_nil))))) (fun _ _ _ _ _ => pts_nil) (fun _ _ _ _ _ => pi_range1 (by rfl) B.range (pa_cons (pv 5) pa_nil)) (fun _ _ _ _ _ => pg_name (i := 9) scJudgeFill.nd rfl (.inl rfl)) (fun _ _ _ _ _ => pts_nil) (fun _ _ _ _ _ => (pe_callTy call_int1 (by rfl) B.int (by decide +kernel) (pa_cons (pe_op op_add (pv 4) (pe_op op_mul (pv 1) (pv 9))) pa_nil)))) pa_nil)))
    (pss_one (ps_ret (pe_make MF GF (hr.mono (by decide)) (by rfl) gF bF .nil pass0 (pa_cons (pe_ifExp (pt_cmpR op_gt (pe_callB call_len_seq (by rfl) B.len PySem.boot_len (pa_cons (pv 7) pa_nil)) pe_int (nomark _)) (pe_op op_add (pe_ix ix_list (pv 7) (pe_un un_neg pe_int) (fun _ _ => rfl)) pe_int) (pe_glob (v := .int 2) rfl gL ⟨_, rfl⟩)) (pa_cons (pe_callTy call_tuple_of (by rfl) B.tuple (by decide +kernel) (pa_cons (pv 7) pa_nil)) pa_nil))))))))))), ?_⟩
    refine ⟨_, rfl, x, r, rfl, fa, ?_⟩
    refine ⟨_, rfl, x, C, dx, _, _, rfl, hx, T.cl, T.n1, fill_times _ _, ta, _, _, _, rfl, rfl, SqT.of ha, tup1, ?_⟩
    refine ⟨_, rfl, x, r, rfl, fa, o, fun l as H1 s1 hl len sp => ?_⟩
    refine ⟨_, rfl, l, rfl, ⟨_, SqL.of hl⟩, fun D nD => lc_list (K := K) (a := l) (xs := as.map V.ref) (fun i H' => H' D = some (.lst ((r.spiltN i).map V.int)) ∧ Same H1 H') ⟨upd_same, same_new nD⟩ (fun i H' _ q => SqL.of (q.2 _ _ hl)) (fun i v H' hi h => ?_) (fun H' h => ?_)⟩
    · obtain ⟨hD, sH⟩ := h
      have iq : i < as.length := by
        have := (List.getElem?_eq_some_iff.mp hi).1
        rwa [List.length_map] at this
      have iq' : (i : Int) < r.q := by omega
      obtain ⟨b, hb, rfl⟩ : ∃ b, as[i]? = some b ∧ v = .ref b := by
        rw [List.getElem?_map] at hi
        cases z : as[i]? with
        | none => rw [z] at hi; cases hi
        | some b => rw [z] at hi; exact ⟨b, rfl, (Option.some.inj hi).symm⟩
      have hT := sH _ _ (sp i b hb)
      have hlen : ((r.spiltN i).map V.int).length < sizeLine := by
        rw [List.length_map]
        exact Nat.lt_of_le_of_lt (spiltN_len r i) (Nat.lt_of_lt_of_le (show i < 13 by omega) (by decide))
      refine ⟨b, _, rfl, SqT.of hT, rfl, _, _, rfl, _, _, rfl, _, _, rfl, rfl, rfl, _, rfl, rfl, _, rfl, ?_⟩
      rw [spiltN_succ]
      unfold Fr.st
      generalize r.span (2 + (i : Int)) = sp1
      obtain ⟨fi, la⟩ := sp1
      cases la with
      | none =>
        refine iteF ⟨?_, sH⟩
        rw [hD]
        simp
      | some z =>
        refine iteT ⟨_, rfl, _, rfl, _, rfl, _, rfl, _, _, rfl, rfl, _, rfl, ite2 (fun e => ?_) (fun e => ?_)⟩
        · have e : z ≥ fi := of_decide_eq_true e
          refine ⟨_, rfl, _, _, rfl, rfl, _, _, rfl, rfl, .inl (mw (b := 12) (by omega) q2 (by decide)), _, _, rfl, rfl, _, hD, hlen, ?_, fun b u q => by rw [upd_ne (ne_of_none q nD)]; exact sH _ _ q⟩
          rw [upd_same]
          dsimp only
          rw [if_pos e, List.map_append]
          rfl
        · have e : ¬ z ≥ fi := fun y => e (decide_eq_true y)
          refine ⟨_, _, rfl, rfl, .inl (mw (b := 12) (by omega) q2 (by decide)), _, _, rfl, rfl, _, hD, hlen, ?_, fun b u q => by rw [upd_ne (ne_of_none q nD)]; exact sH _ _ q⟩
          rw [upd_same]
          dsimp only
          rw [if_neg e, List.map_append]
          rfl
    · obtain ⟨hD, sH⟩ := h
      have el : r.spiltN (as.map V.ref).length = r.spilt := by
        rw [List.length_map, len]
        rfl
      rw [el] at hD
      have s2 := s1.trans sH
      have hl2 := sH _ _ hl
      have sp2 := sp.keep sH
      refine ⟨_, rfl, D, _, rfl, .inl (SqL.of hD), _, _, rfl, rfl, _, rfl, ite2 (fun e => ?_) (fun e => ?_)⟩
      · have e : (0 : Int) < ((r.spilt.map V.int).length : Nat) := of_decide_eq_true e
        rw [List.length_map] at e
        have sl : r.spilt.length ≤ 12 := Nat.le_trans (spiltN_len r r.q.toNat) (by omega)
        refine ⟨_, rfl, D, rfl, ⟨_, SqL.of hD⟩, fun D2 nD2 => lc_list (K := K) (a := D) (xs := r.spilt.map V.int) (fun i H3 => H3 D2 = some (.lst ((r.spilt.map V.int).take i)) ∧ Same H' H3) ⟨by rw [List.take_zero]; exact upd_same, same_new nD2⟩ (fun i H3 _ q => SqL.of (q.2 _ _ hD)) (fun i v H3 hi h => ?_) (fun H3 h => ?_)⟩
        · obtain ⟨hD2, s3⟩ := h
          obtain ⟨n, hn, rfl⟩ := int_at hi
          refine ⟨rfl, ?_⟩
          unfold tYes
          refine iteT ⟨_, rfl, .inl ⟨_, rfl, _, hD2, ?_, ?_, fun b u q => by rw [upd_ne (ne_of_none q nD2)]; exact s3 _ _ q⟩⟩
          · rw [List.length_take, List.length_map]
            exact Nat.lt_of_le_of_lt (show _ ≤ 12 by omega) (by decide)
          · rw [upd_same, List.take_add_one, hi]
            rfl
        · obtain ⟨hD2, s3⟩ := h
          rw [List.take_length] at hD2
          refine ⟨D2, r.spilt, rfl, SqL.of hD2, by omega, fun m hm hle => ?_⟩
          refine ⟨_, rfl, ?_⟩
          exact mk_spi fun y G s4 sy => kk y G ((s2.trans s3).trans s4) (.inr ⟨m, ⟨hm, hle⟩, sy⟩)
      · have e : ¬ (0 : Int) < ((r.spilt.map V.int).length : Nat) := fun z => e (decide_eq_true z)
        rw [List.length_map] at e
        have en : r.spilt = [] := List.eq_nil_of_length_eq_zero (by omega)
        have f200 := first_200 o en
        have small : ∀ n : Nat, n ≤ 3000 → n < sizeLine := fun n h => Nat.lt_of_le_of_lt h (by decide)
        refine ⟨_, rfl, l, rfl, ⟨_, SqL.of hl2⟩, fun D2 nD2 => lc2_out (K := K) (a := l) (xs := as.map V.ref) (fun i H3 => H3 D2 = some (.lst ((r.wrongT i).map V.int)) ∧ Same H' H3) ⟨upd_same, same_new nD2⟩ (fun i H3 _ q => SqL.of (q.2 _ _ hl2)) (fun i v H3 hi h => ?_) (fun H3 h => ?_)⟩
        · obtain ⟨hD2, s3⟩ := h
          have iq : i < as.length := by
            have := (List.getElem?_eq_some_iff.mp hi).1
            rwa [List.length_map] at this
          have iq' : (i : Int) < r.q := by omega
          obtain ⟨b, hb, rfl⟩ : ∃ b, as[i]? = some b ∧ v = .ref b := by
            rw [List.getElem?_map] at hi
            cases z : as[i]? with
            | none => rw [z] at hi; cases hi
            | some b => rw [z] at hi; exact ⟨b, rfl, (Option.some.inj hi).symm⟩
          have hT := s3 _ _ (sp2 i b hb)
          have fi := f200 i iq'
          have fn := Fr.span_nn o (2 + (i : Int))
          have wl := wrongT_len f200 i (by omega)
          refine ⟨b, _, rfl, SqT.of hT, rfl, _, _, rfl, _, _, rfl, _, _, rfl, rfl, rfl, ?_⟩
          refine tyes (iteT ⟨_, rfl, _, rfl, by omega, by omega, ?_⟩)
          refine lc2_in (g1 := gName 9) (tt1 := tYes) (vs1 := [9]) (lo := 0) (n := (r.span (2 + (i : Int))).1.toNat) (fun t H4 => H4 D2 = some (.lst ((r.wrongT i ++ r.row i t).map V.int)) ∧ Same H' H4) ⟨?_, s3⟩ (fun t H4 ht h => ?_) (fun H4 h => ?_)
          · rw [hD2]
            unfold Fr.row
            simp
          · obtain ⟨hD4, s4⟩ := h
            have e0 : (0 : Int) + (t : Int) = (t : Int) := by omega
            refine ⟨rfl, ?_⟩
            unfold tYes
            refine iteT ⟨_, rfl, _, rfl, _, rfl, _, _, rfl, rfl, .inl (mw (b := 12) (by omega) q2 (by decide)), _, _, rfl, rfl, .inl ⟨_, rfl, _, hD4, ?_, ?_, fun b u q => by rw [upd_ne (ne_of_none q nD2)]; exact s4 _ _ q⟩⟩
            · rw [List.length_map, List.length_append, row_len]
              exact small _ (by omega)
            · rw [upd_same, row_succ, e0, ← List.append_assoc, List.map_append (l₁ := r.wrongT i ++ r.row i t)]
              rfl
          · obtain ⟨hD4, s4⟩ := h
            rw [wrongT_succ]
            exact ⟨hD4, s4⟩
        · obtain ⟨hD2, s3⟩ := h
          have ew : r.wrongT (as.map V.ref).length = r.wrongN := by
            rw [List.length_map, len]
            rfl
          rw [ew] at hD2
          refine ⟨D2, _, rfl, SqL.of hD2, fun ns p perm asc np => ?_⟩
          obtain rfl := wrong_sorted o en perm asc
          have s4 : Same H' (upd H3 p (.lst (r.dueW.map V.int))) := s3.trans (same_new np)
          have hp : upd H3 p (.lst (r.dueW.map V.int)) p = some (.lst (r.dueW.map V.int)) := upd_same
          generalize upd H3 p (.lst (r.dueW.map V.int)) = H4 at s4 hp ⊢
          have dl := dueW_len r
          have fin : ∀ n : Int, n = sizeOf' r.dueW → ∀ σ3 : L2.St, σ3[7]? = some (some (.ref p)) → tCons (tCB (fun xs H Q => ∃ p ys, xs = [.ref p] ∧ ((SqL K H p ys ∧ ∀ l, H l = none → Q (.ref l) (upd H l (.tup ys))) ∨ (SqT K H p ys ∧ Q (.ref p) H))) (tCons (tVar 7) tNil)) tNil σ3 H4 (fun xs H5 => ∀ x dx, H5 x = none → H5 dx = none → dx ≠ x → spFitI A (.ref x :: ((.int n :: xs) ++ [])) (upd (upd H5 dx (.own x)) x (.ins A dx [])) (fun v H2 => v = .non ∧ Q (.ref x) H2) E0) := by
            intro n hn σ3 h7
            refine ⟨_, h7, p, _, rfl, .inl ⟨SqL.of hp, fun t nt => ?_⟩⟩
            refine mk_fit (ws := r.dueW) upd_same (by omega) fun y G s5 fy => kk y G ((s2.trans s4).trans ((same_new nt).trans s5)) (.inl ⟨en, ?_⟩)
            rw [← hn]
            exact fy
          refine ⟨_, rfl, p, _, rfl, .inl (SqL.of hp), _, _, rfl, rfl, _, rfl, ite2 (fun e2 => ?_) (fun e2 => ?_)⟩
          · have e2 : (0 : Int) < ((r.dueW.map V.int).length : Nat) := of_decide_eq_true e2
            rw [List.length_map] at e2
            refine ⟨_, rfl, _, rfl, p, _, _, _, rfl, rfl, SqL.of hp, at_last (by omega), _, _, rfl, rfl, ?_⟩
            exact fin _ (by unfold sizeOf'; rw [if_pos (by omega)]) _ rfl
          · have e2 : ¬ (0 : Int) < ((r.dueW.map V.int).length : Nat) := fun z => e2 (decide_eq_true z)
            rw [List.length_map] at e2
            exact fin 2 (by unfold sizeOf'; rw [if_neg (by omega)]) _ rfl
end
end Ev
namespace Ev
open PySem L2 PySem.Spec PyProof.Rows RZ
def spLLeast : Sp := fun vs H Q _ => ∃ (l : Addr) (r : Fr) (m : Int), vs = [.ref l, .int m] ∧ H l = some (.tup (tupR r)) ∧ r.ok ∧ Q (.int (r.least m)) H
def spLIsR : Sp := fun vs H Q _ => ∃ (l : Addr) (r : Fr) (m : Int), vs = [.ref l, .int m] ∧ H l = some (.tup (tupR r)) ∧ r.ok ∧ Q (.bl (r.right m)) H
theorem right_fine {r : Fr} (o : r.ok) {m : Int} (l1 : 1 ≤ r.least m) : r.right m = true ↔ (r.c + 1) * r.least m ≤ r.c * m + 1 ∧ r.j * r.least m ≤ (r.j - 1) * m + 1 := by
  have c1 := o.c1; have c2 := o.c2; have j1 := o.j1; have j2 := o.j2
  unfold Fr.right Fr.many
  generalize r.least m = a at *
  rw [decide_eq_true l1, Bool.true_and, decide_eq_true_iff]
  generalize r.c = c at *
  generalize r.j = j at *
  obtain rfl | rfl | rfl | rfl | rfl : c = 1 ∨ c = 2 ∨ c = 3 ∨ c = 4 ∨ c = 5 := by omega
  all_goals (obtain rfl | rfl | rfl | rfl | rfl : j = 2 ∨ j = 3 ∨ j = 4 ∨ j = 5 ∨ j = 6 := by omega) <;> first | rw [if_pos (by decide)] | rw [if_neg (by decide)]
  all_goals constructor <;> intro h <;> omega
theorem fine_iff {r : Fr} (o : r.ok) {m : Int} : (¬ (r.c * m + 1).fdiv (r.c + 1) < r.least m ∧ (r.j * r.least m - 1 + r.j - 2).fdiv (r.j - 1) ≤ m) ↔ (r.c + 1) * r.least m ≤ r.c * m + 1 ∧ r.j * r.least m ≤ (r.j - 1) * m + 1 := by
  have := o.c1; have := o.j1
  rw [Int.fdiv_eq_ediv_of_nonneg _ (by omega), Int.fdiv_eq_ediv_of_nonneg _ (by omega)]
  have a1 := Int.le_ediv_iff_mul_le (a := r.least m) (b := r.c * m + 1) (c := r.c + 1) (by omega)
  have a2 : (r.j * r.least m - 1 + r.j - 2) / (r.j - 1) < m + 1 ↔ r.j * r.least m - 1 + r.j - 2 < (m + 1) * (r.j - 1) := Int.ediv_lt_iff_lt_mul (by omega)
  rw [Int.add_mul, Int.one_mul, Int.mul_comm m (r.j - 1)] at a2
  rw [Int.mul_comm (r.least m)] at a1
  omega
section
variable {P : Program} {w : World} {K : PySem.W.Frag} {mg : Str → Option Value} {base : Heap}
theorem scLLeast : FnScope ["_law_told", "_law_top"] ["_law_told", "_law_top"] (defScope sLLeast) := ⟨rfl, rfl, rfl, by decide +kernel, rfl, by decide +kernel, by decide +kernel⟩
theorem ok_lleast {f : Addr} {fd : FuncData} (F : Fun K "_law_least" "_law_least" sLLeast f fd) : FnOk P w K mg base CX0 1 f fd ["_law_told", "_law_top"] spLLeast := by
  refine F.ok scLLeast (fun vs H Q E h => ?_) (fun cdv A outer s H vs Q E hr h => ?_)
  · obtain ⟨l, r, m, rfl, _⟩ := h
    rfl
  · obtain ⟨l, r, m, rfl, hl, o, k⟩ := h
    have := o.q1; have := o.q2
    refine ⟨_, (pss_one (ps_ret (pe_op op_fdivN (pe_op op_add (pe_op op_mul (pe_ix ix_tup (pv 0) pe_int (fun _ _ => rfl)) (pv 1)) (pe_ix ix_tup (pv 0) pe_int (fun _ _ => rfl))) (pe_ix ix_tup (pv 0) pe_int (fun _ _ => rfl))))), ?_⟩
    exact ⟨_, rfl, l, _, _, _, rfl, rfl, SqT.of hl, i5_0, _, rfl, _, _, rfl, rfl, .inl (mw (b := 12) (by have := o.p1; omega) o.p2 (by decide)), _, rfl, l, _, _, _, rfl, rfl, SqT.of hl, i5_2, _, _, rfl, rfl, _, rfl, l, _, _, _, rfl, rfl, SqT.of hl, i5_1, _, _, rfl, rfl, ⟨by omega, by omega⟩, k⟩
theorem scLIsR : FnScope ["_law_told", "_law_top", "_law_low", "_law_many", "_law_some"] ["_law_told", "_law_top"] (defScope sLIsRight) := ⟨rfl, rfl, rfl, by decide +kernel, rfl, by decide +kernel, by decide +kernel⟩
theorem ok_lisr {f : Addr} {fd : FuncData} (F : Fun K "_law_is_right" "_law_is_right" sLIsRight f fd) (D1 : Df P w K mg base 1 "_law_least" ["_law_told", "_law_top"] spLLeast) : FnOk P w K mg base CX0 2 f fd ["_law_told", "_law_top"] spLIsR := by
  obtain ⟨f1, fd1, G1, g1, k1, b1⟩ := D1.ex
  refine F.ok scLIsR (fun vs H Q E h => ?_) (fun cdv A outer s H vs Q E hr h => ?_)
  · obtain ⟨l, r, m, rfl, _⟩ := h
    rfl
  · obtain ⟨l, r, m, rfl, hl, o, k⟩ := h
    have := o.c1; have := o.c2; have := o.j1; have := o.j2
    have rf := right_fine o (m := m)
    have fi := fine_iff o (m := m)
    refine ⟨_, (pss_cons (ps_par3 (i := 2) (j := 3) (l := 4) (by rfl) scLIsR.nd rfl rfl rfl (by decide) (by decide) (by decide) rfl rfl rfl (pa_cons (pe_call G1 hr (by rfl) g1 k1 b1 .nil pass0 (pa_cons (pv 0) (pa_cons (pv 1) pa_nil))) (pa_cons (pe_ix ix_tup (pv 0) pe_int (fun _ _ => rfl)) (pa_cons (pe_ix ix_tup (pv 0) pe_int (fun _ _ => rfl)) pa_nil))) (by rfl))
      (pss_cons (ps_if (PW.pt (pw_or (pt_cmpR op_lt (pv 2) pe_int (nomark _)) (pw_or1 (pt_cmpR op_lt (pe_op op_fdivN (pe_op op_add (pe_op op_mul (pv 3) (pv 1)) pe_int) (pe_op op_add (pv 3) pe_int)) (pv 2) (nomark _)))))
        (pss_one (ps_ret pe_bl)) pss_nil)
      (pss_one (ps_ret (pe_cmpR op_le (pe_op op_fdivN (pe_op op_sub (pe_op op_add (pe_op op_sub (pe_op op_mul (pv 4) (pv 2)) pe_int) (pv 4)) pe_int) (pe_op op_sub (pv 4) pe_int)) (pv 1) (nomark _)))))), ?_⟩
    refine ⟨_, rfl, _, rfl, l, r, m, rfl, hl, o, _, rfl, l, _, _, _, rfl, rfl, SqT.of hl, i5_3, _, rfl, l, _, _, _, rfl, rfl, SqT.of hl, i5_4, _, _, _, rfl, ?_⟩
    refine ⟨_, rfl, _, _, rfl, rfl, _, rfl, ite2 (fun e => ?_) (fun e => ?_)⟩
    · have e : r.least m < 1 := of_decide_eq_true e
      have : r.right m = false := by
        unfold Fr.right
        rw [decide_eq_false (by omega), Bool.false_and]
      rw [this] at k
      exact k
    · have e : ¬ r.least m < 1 := fun z => e (decide_eq_true z)
      have rf := rf (by omega)
      refine ⟨_, rfl, _, rfl, _, _, rfl, rfl, .inl (mw (b := 12) (by omega) (by omega) (by decide)), _, _, rfl, rfl, _, rfl, _, _, rfl, rfl, _, _, rfl, rfl, ⟨by omega, by omega⟩, _, rfl, _, _, rfl, rfl, _, rfl, ite2 (fun e2 => ?_) (fun e2 => ?_)⟩
      · have e2 : (r.c * m + 1).fdiv (r.c + 1) < r.least m := of_decide_eq_true e2
        have : r.right m = false := Bool.eq_false_iff.mpr fun z => (fi.mpr (rf.mp z)).1 e2
        rw [this] at k
        exact k
      · have e2 : ¬ (r.c * m + 1).fdiv (r.c + 1) < r.least m := fun z => e2 (decide_eq_true z)
        refine ⟨_, rfl, _, rfl, _, _, rfl, rfl, .inl (mw (b := 12) (by omega) (by omega) (by decide)), _, _, rfl, rfl, _, rfl, _, _, rfl, rfl, _, _, rfl, rfl, _, rfl, _, _, rfl, rfl, _, _, rfl, rfl, ⟨by omega, by omega⟩, _, rfl, _, _, rfl, rfl, ?_⟩
        have : decide ((r.j * r.least m - 1 + r.j - 2).fdiv (r.j - 1) ≤ m) = r.right m := by
          rw [Bool.eq_iff_iff, decide_eq_true_iff]
          exact ⟨fun z => rf.mpr (fi.mp ⟨e2, z⟩), fun z => (fi.mpr (rf.mp z)).2⟩
        rw [← this] at k
        exact k
abbrev nNr : List Str := ["_law_pen_here", "_law_cut", "_law_join", "_law_many", "_law_by"]
theorem scLNear : FnScope nNr ["_law_pen_here"] (defScope sLNear) := ⟨rfl, rfl, rfl, by decide +kernel, rfl, by decide +kernel, by decide +kernel⟩
theorem near_ok {c j n d e : Int} (c0 : 0 ≤ c) (c1 : c < 5) (j0 : 0 ≤ j) (j1 : j < 5) (hn : n = (if 2 + j < 1 + c + 1 then 2 + j else 1 + c + 1)) (d0 : 0 ≤ d) (d1 : d < (12 : Int).fdiv n) (e0 : 0 ≤ e) (e1 : e < 25) : (Fr.mk ((n - 1) * (1 + d)) (n * (1 + d)) (e - 12) (1 + c) (2 + j)).ok := by
  have n2 : 2 ≤ n ∧ n ≤ 6 := by rw [hn]; split <;> omega
  rw [Int.fdiv_eq_ediv_of_nonneg _ (by omega)] at d1
  obtain ⟨b1, b2, b3, b4⟩ : 1 ≤ (n - 1) * (1 + d) ∧ (n - 1) * (1 + d) ≤ 12 ∧ 1 ≤ n * (1 + d) ∧ n * (1 + d) ≤ 12 := by
    obtain rfl | rfl | rfl | rfl | rfl : n = 2 ∨ n = 3 ∨ n = 4 ∨ n = 5 ∨ n = 6 := by omega
    all_goals (clear hn; omega)
  exact ⟨b1, b2, b3, b4, by show -12 ≤ e - 12; omega, by show e - 12 ≤ 12; omega, by show 1 ≤ 1 + c; omega, by show 1 + c ≤ 5; omega, by show 2 ≤ 2 + j; omega, by show 2 + j ≤ 6; omega⟩
theorem ok_lnear {f : Addr} {fd : FuncData} (F : Fun K "_law_near" "_law_near" sLNear f fd) (T : Blt mg) (D1 : Df P w K mg base 1 "_law_draw" ["_law_pen_here", "_law_many"] spDraw) : FnOk P w K mg base CX0 2 f fd ["_law_pen_here"] spLNums := by
  obtain ⟨f1, fd1, G1, g1, k1, b1⟩ := D1.ex
  refine F.ok scLNear (fun vs H Q E h => ?_) (fun cdv A outer s H vs Q E hr h => ?_)
  · obtain ⟨p, L, B, rfl, _⟩ := h
    rfl
  · obtain ⟨p, L, B, rfl, hB, pn, kk⟩ := h
    refine ⟨_, (pss_cons (ps_par (i := 1) (j := 2) (by rfl) scLNear.nd rfl rfl (by decide) rfl rfl (pa_cons (pe_op op_add pe_int (pe_call G1 hr (by rfl) g1 k1 b1 .nil pass0 (pa_cons (pv 0) (pa_cons pe_int pa_nil)))) (pa_cons (pe_op op_add pe_int (pe_call G1 hr (by rfl) g1 k1 b1 .nil pass0 (pa_cons (pv 0) (pa_cons pe_int pa_nil)))) pa_nil)) (by rfl))
    (pss_cons (ps_set (i := 3) scLNear.nd rfl (.inl rfl) (pe_callB (call_min2 rfl) (by rfl) T.min (by decide +kernel) (pa_cons (pe_callTy call_int1 (by rfl) T.int (by decide +kernel) (pa_cons (pe_op op_add (pv 1) pe_int) pa_nil)) (pa_cons (pe_callTy call_int1 (by rfl) T.int (by decide +kernel) (pa_cons (pv 2) pa_nil)) pa_nil))))
    (pss_cons (ps_set (i := 4) scLNear.nd rfl (.inl rfl) (pe_op op_add pe_int (pe_call G1 hr (by rfl) g1 k1 b1 .nil pass0 (pa_cons (pv 0) (pa_cons (pe_op op_fdivN pe_int (pv 3)) pa_nil)))))
    (pss_one (ps_ret (pe_tup (pa_cons (pe_op op_mul (pe_op op_sub (pv 3) pe_int) (pv 4)) (pa_cons (pe_op op_mul (pv 3) (pv 4)) (pa_cons (pe_op op_sub (pe_call G1 hr (by rfl) g1 k1 b1 .nil pass0 (pa_cons (pv 0) (pa_cons pe_int pa_nil))) pe_int) (pa_cons (pv 1) (pa_cons (pv 2) pa_nil))))))))))), ?_⟩
    refine ⟨_, rfl, p, L, _, _, rfl, by decide, by decide, by omega, pn, fun c H1 t1 p1 c0 c1 => ⟨_, _, rfl, rfl, ?_⟩⟩
    refine ⟨_, rfl, p, L, _, _, rfl, by decide, by decide, by omega, p1, fun j H2 t2 p2 j0 j1 => ⟨_, _, rfl, rfl, _, _, rfl, ?_⟩⟩
    refine ⟨_, rfl, _, _, rfl, rfl, .inl ⟨_, rfl, _, rfl, .inl ⟨_, rfl, _, _, rfl, ?_⟩⟩⟩
    obtain ⟨n, hn⟩ : ∃ n : Int, n = (if 2 + j < 1 + c + 1 then 2 + j else 1 + c + 1) := ⟨_, rfl⟩
    have n2 : 2 ≤ n ∧ n ≤ 6 := by rw [hn]; split <;> omega
    rw [← hn]
    have d12 : 1 ≤ (12 : Int).fdiv n ∧ (12 : Int).fdiv n ≤ 12 := by
      rw [Int.fdiv_eq_ediv_of_nonneg _ (by omega)]
      obtain rfl | rfl | rfl | rfl | rfl : n = 2 ∨ n = 3 ∨ n = 4 ∨ n = 5 ∨ n = 6 := by omega
      all_goals (constructor <;> decide)
    refine ⟨_, rfl, _, rfl, _, _, rfl, rfl, ⟨by omega, by omega⟩, p, L, _, _, rfl, by omega, by omega, by omega, p2, fun d H3 t3 p3 e0 e1 => ⟨_, _, rfl, rfl, ?_⟩⟩
    refine ⟨_, rfl, _, _, rfl, rfl, _, rfl, _, _, rfl, rfl, .inl (mw (b := 12) (by omega) (by omega) (by decide)), _, rfl, _, rfl, _, _, rfl, rfl, .inl (mw (b := 12) (by omega) (by omega) (by decide)), _, rfl, p, L, _, _, rfl, by decide, by decide, by omega, p3, fun e H4 t4 p4 x0 x1 => ⟨_, _, rfl, rfl, _, rfl, _, rfl, (by show 5 ≤ sizeLine; decide), fun t nt => ?_⟩⟩
    have bt := t1.trans (t2.trans (t3.trans t4))
    exact kk t ⟨(n - 1) * (1 + d), n * (1 + d), e - 12, 1 + c, 2 + j⟩ _ (near_ok c0 c1 j0 j1 hn e0 e1 x0 x1) (bt.free p4 nt) upd_same (bt.trans (But.upd_new nt)) ((p4.new nt).mono (by omega))
end
end Ev
namespace Ev
open PySem L2 PySem.Spec PyProof.Rows RZ
/-! What is due: the law's own walk over the sizes below 300. -/
def DueAt (H : Hp) (t : Addr) (r : Fr) : Prop := (r.spilt ≠ [] ∧ ∃ m, IsMin m r.spilt ∧ H t = some (.tup [.str "spills", .int m, .int r.q])) ∨ (r.spilt = [] ∧ ∃ a, H t = some (.tup [.str "fits", .int (sizeOf' r.dueW), .ref a]) ∧ H a = some (.tup (r.dueW.map V.int)))
def spDue : Sp := fun vs H Q _ => ∃ (l : Addr) (r : Fr), vs = [.ref l] ∧ H l = some (.tup (tupR r)) ∧ r.ok ∧ ∀ t H', Same H H' → DueAt H' t r → Q (.ref t) H'
def badL (r : Fr) (n : Nat) : List V := (List.range n).map fun (i : Nat) => V.bl (r.bad (i : Int))
theorem badL_succ (r : Fr) (n : Nat) : badL r (n + 1) = badL r n ++ [.bl (r.bad (n : Int))] := by
  unfold badL
  rw [List.range_succ, List.map_append]; rfl
theorem badL_len (r : Fr) (n : Nat) : (badL r n).length = n := by unfold badL; simp
theorem badL_at (r : Fr) {n : Nat} {x : Int} (h0 : 0 ≤ x) (h1 : x < n) : atI (badL r n) x = some (.bl (r.bad x)) := by
  obtain ⟨j, rfl⟩ := Int.eq_ofNat_of_zero_le h0
  have hj : j < n := by omega
  refine atI_nat ?_
  unfold badL
  rw [List.getElem?_map, List.getElem?_range hj]
  rfl
theorem lastN_succ (r : Fr) (n : Nat) : r.lastN (n + 1) = r.lastN n ++ (match r.st (2 + (300 - r.q + (n : Int) - 2) % r.q) with | some m => [m] | none => []) := by
  unfold Fr.lastN
  rw [List.range_succ, List.filterMap_append]
  congr 1
  simp only [List.filterMap_cons, List.filterMap_nil]
  cases r.st (2 + (300 - r.q + (n : Int) - 2) % r.q) <;> rfl
theorem lastN_len (r : Fr) (n : Nat) : (r.lastN n).length ≤ n := by
  unfold Fr.lastN
  exact Nat.le_trans (List.length_filterMap_le _ _) (by simp)
abbrev nDu : List Str := ["_law_told", "_law_step", "_law_bad", "_law_size", "_law_lasting", "_law_first", "_law_wrong"]
section
variable {P : Program} {w : World} {K : PySem.W.Frag} {mg : Str → Option Value} {base : Heap}
theorem scLDue : FnScope nDu ["_law_told"] (defScope sLDue) := ⟨rfl, rfl, rfl, by decide +kernel, rfl, by decide +kernel, by decide +kernel⟩
/-- the end: from the list of what lasts on -/
theorem due_end {f : Addr} {cdv : Value} {A : Around} {outer : List Env} {s : Shared} {H : Hp} {E : XK} (T : Blt mg) (hr : Room 2 (cxOf CX0 P w K mg base nDu "_law_due" (defScope sLDue) f cdv A outer s H E).nox.A) :
    ∃ t : TS, PSs (cxOf CX0 P w K mg base nDu "_law_due" (defScope sLDue) f cdv A outer s H E).nox ((defBody sLDue).drop 3) t ∧ ∀ (D : Ends) (G : Hp) (l b z : Addr) (r : Fr) (v3 v5 v6 : Option V), r.ok → G b = some (.lst (badL r 300)) → G z = some (.lst ((r.lastN r.q.toNat).map V.int)) →
      (∀ t G', Same G G' → DueAt G' t r → D.rt (.ref t) G') → t D [some (.ref l), some (.int r.q), some (.ref b), v3, some (.ref z), v5, v6] G := by
  have hu : (cxOf CX0 P w K mg base nDu "_law_due" (defScope sLDue) f cdv A outer s H E).nox.A.units + 64 < cLine := Room.units hr
  refine ⟨_, (pss_cons (ps_if (pt_cmpR (op_neD hu) (pv 4) (pe_lst pa_nil) (nomark _))
      (pss_one (ps_ret (pe_tup (pa_cons pe_str (pa_cons (pe_callB (cr_min rfl) (by rfl) T.min (by decide +kernel) (pa_cons (pe_lc (own := [("_law_size", 3)]) (g := gName 3) (tt := tYes) (by rfl) scLDue.nd (pi_list (pv 4)) (blkOk_by (own := [("_law_size", 3)]) (N := nDu) (sc := defScope sLDue) (by decide +kernel)) (fun _ _ _ _ _ => pg_name (i := 3) scLDue.nd rfl (.inl rfl)) (fun _ _ _ _ _ => pts_nil) (fun _ _ _ _ _ => (pe_callTy call_int1 (by rfl) T.int (by decide +kernel) (pa_cons (pv 3) pa_nil)))) pa_nil)) (pa_cons (pv 1) pa_nil)))))) pss_nil)
    (pss_cons (ps_setLc (i := 6) (own := [("_law_size", 3)]) (g := gName 3) (by rfl) scLDue.nd rfl rfl (sw_true rfl rfl rfl (by decide +kernel)) (pi_range1 (by rfl) T.range (pa_cons pe_int pa_nil)) (blkOk_by (own := [("_law_size", 3)]) (N := nDu) (sc := defScope sLDue) (by decide +kernel)) (fun _ _ _ _ _ => pg_name (i := 3) scLDue.nd rfl (.inl rfl)) (fun _ _ _ _ _ => pts_one (pt_val (pe_ix (r := rIxL K) (by exact ix_list) (pv 2) (pv 3) (fun _ _ => rfl)))) (fun _ _ _ _ _ => (pv 3)))
    (pss_one (ps_ret (pe_tup (pa_cons pe_str (pa_cons (pe_ifExp (pt_cmpR (op_neD hu) (pv 6) (pe_lst pa_nil) (nomark _)) (pe_op op_add (pe_ix ix_list (pv 6) (pe_un un_neg pe_int) (fun _ _ => rfl)) pe_int) pe_int) (pa_cons (pe_callTy call_tuple_of (by rfl) T.tuple (by decide +kernel) (pa_cons (pv 6) pa_nil)) pa_nil)))))))), ?_⟩
  intro D G l b z r v3 v5 v6 o hb hz fin
  have q1 := o.q1; have q2 := o.q2
  have ll := lastN_len r r.q.toNat
  refine ⟨_, rfl, (by show 0 ≤ sizeLine; decide), fun n1 nn1 => ?_⟩
  have s1 : Same G (upd G n1 (.lst [])) := same_new nn1
  have h1 : upd G n1 (.lst []) n1 = some (.lst []) := upd_same
  dsimp only
  generalize upd G n1 (.lst []) = G1 at s1 h1 ⊢
  refine ⟨_, _, .lst (SqL.of (s1 _ _ hz)) (dpInts _), .lst (SqL.of h1) .nil, sh_ints _, sh_ints [], ?_⟩
  rw [eqv_nil]
  refine ⟨_, rfl, ?_⟩
  cases hl : r.lastN r.q.toNat with
  | cons y ys =>
    refine iteT ?_
    rw [hl] at hz ll
    have ne : r.spilt ≠ [] := fun z => by rw [(spilt_iff o).mp z] at hl; cases hl
    have hz1 := s1 _ _ hz
    refine ⟨_, rfl, z, rfl, ⟨_, SqL.of hz1⟩, fun D2 nD2 => lc_list (K := K) (a := z) (xs := (y :: ys).map V.int) (fun i H3 => H3 D2 = some (.lst (((y :: ys).map V.int).take i)) ∧ Same G1 H3) ⟨by rw [List.take_zero]; exact upd_same, same_new nD2⟩ (fun i H3 _ q => SqL.of (q.2 _ _ hz1)) (fun i v H3 hi h => ?_) (fun H3 h => ?_)⟩
    · obtain ⟨hD2, s3⟩ := h
      obtain ⟨n, hn, rfl⟩ := int_at hi
      refine ⟨rfl, tyes (iteT ⟨_, rfl, .inl ⟨_, rfl, _, hD2, ?_, ?_, fun b u q => by rw [upd_ne (ne_of_none q nD2)]; exact s3 _ _ q⟩⟩)⟩
      · rw [List.length_take, List.length_map]
        exact Nat.lt_of_le_of_lt (show _ ≤ 12 by omega) (by decide)
      · rw [upd_same, List.take_add_one, hi]
        rfl
    · obtain ⟨hD2, s3⟩ := h
      rw [List.take_length] at hD2
      refine ⟨D2, y :: ys, rfl, SqL.of hD2, by simp, fun m hm hle => ?_⟩
      refine ⟨_, rfl, (by show 3 ≤ sizeLine; decide), fun t nt => fin t _ ((s1.trans s3).trans (same_new nt)) (.inl ⟨ne, m, ⟨?_, fun a ma => ?_⟩, upd_same⟩)⟩
      · rw [lastN_mem o, hl]; exact hm
      · rw [lastN_mem o, hl] at ma; exact hle a ma
  | nil =>
    refine iteF ?_
    have en : r.spilt = [] := (spilt_iff o).mpr hl
    have dl := dueW_len r
    have hb1 := s1 _ _ hb
    refine ⟨300, rfl, by decide, by decide, fun D2 nD2 => lc_range (lo := 0) (n := 300) (fun i H3 => H3 D2 = some (.lst ((r.dueN i).map V.int)) ∧ Same G1 H3) ⟨upd_same, same_new nD2⟩ (fun i H3 hi h => ?_) (fun H3 h => ?_)⟩
    · obtain ⟨hD2, s3⟩ := h
      have e0 : (0 : Int) + (i : Int) = (i : Int) := by omega
      rw [e0]
      refine ⟨rfl, _, rfl, _, rfl, b, _, _, _, rfl, rfl, SqL.of (s3 _ _ hb1), badL_at r (by omega) (by omega), _, rfl, ?_⟩
      rw [dueN_succ]
      cases hbd : r.bad (i : Int) with
      | false =>
        refine iteF ⟨?_, s3⟩
        rw [hD2]
        simp
      | true =>
        refine iteT ⟨_, rfl, _, hD2, ?_, ?_, fun b u q => by rw [upd_ne (ne_of_none q nD2)]; exact s3 _ _ q⟩
        · rw [List.length_map]
          refine Nat.lt_of_le_of_lt (show (r.dueN i).length ≤ 300 from ?_) (by decide)
          unfold Fr.dueN
          refine Nat.le_trans (List.length_filter_le _ _) ?_
          simp; omega
        · rw [upd_same, if_pos rfl, List.map_append]
          rfl
    · obtain ⟨hD2, s3⟩ := h
      have hD2 : H3 D2 = some (.lst (r.dueW.map V.int)) := hD2
      refine ⟨_, rfl, (by show 0 ≤ sizeLine; decide), fun n2 nn2 => ?_⟩
      have s4 : Same H3 (upd H3 n2 (.lst [])) := same_new nn2
      have h4 : upd H3 n2 (.lst []) n2 = some (.lst []) := upd_same
      dsimp only
      generalize upd H3 n2 (.lst []) = H4 at s4 h4 ⊢
      have hd4 := s4 _ _ hD2
      have ss := s1.trans (s3.trans s4)
      refine ⟨_, _, .lst (SqL.of hd4) (dpInts _), .lst (SqL.of h4) .nil, sh_ints _, sh_ints [], ?_⟩
      rw [eqv_nil]
      refine ⟨_, rfl, ?_⟩
      cases hw : r.dueW with
      | cons y ys =>
        refine iteT ⟨_, rfl, _, rfl, D2, _, _, _, rfl, rfl, SqL.of hd4, at_last (by rw [hw]; simp), _, _, rfl, rfl, ?_⟩
        refine ⟨_, rfl, D2, _, rfl, .inl ⟨SqL.of hd4, fun t nt => ⟨(by show 3 ≤ sizeLine; decide), fun t2 nt2 => ?_⟩⟩⟩
        refine fin t2 _ (ss.trans ((same_new nt).trans (same_new nt2))) (.inr ⟨en, t, ?_, same_new nt2 _ _ upd_same⟩)
        rw [upd_same]
        unfold sizeOf'
        rw [if_pos (by rw [hw]; simp)]
      | nil =>
        refine iteF ?_
        refine ⟨_, rfl, D2, _, rfl, .inl ⟨SqL.of hd4, fun t nt => ⟨(by show 3 ≤ sizeLine; decide), fun t2 nt2 => ?_⟩⟩⟩
        refine fin t2 _ (ss.trans ((same_new nt).trans (same_new nt2))) (.inr ⟨en, t, ?_, same_new nt2 _ _ upd_same⟩)
        rw [upd_same]
        unfold sizeOf'
        rw [if_neg (by rw [hw]; simp)]
end
end Ev
namespace Ev
open PySem L2 PySem.Spec PyProof.Rows RZ
theorem but_same {p : Addr} {H H' : Hp} (h : ∀ b o, b ≠ p → H b = some o → H' b = some o) : But p H H' := h
def loopBody : Stmt → List Stmt
  | .For _ _ b _ _ => b
  | _ => []
/-- the body of the loop over the last sizes -/
abbrev lastBody : List Stmt := loopBody ((defBody sLDue).getD 2 (.Pass ⟨0, 0, 0, 0⟩))
section
variable {P : Program} {w : World} {K : PySem.W.Frag} {mg : Str → Option Value} {base : Heap}
theorem ok_ldue {f : Addr} {fd : FuncData} (F : Fun K "_law_due" "_law_due" sLDue f fd) (T : Blt mg) (D1 : Df P w K mg base 2 "_law_is_right" ["_law_told", "_law_top"] spLIsR) : FnOk P w K mg base CX0 3 f fd ["_law_told"] spDue := by
  obtain ⟨f1, fd1, G1, g1, k1, b1⟩ := D1.ex
  refine F.ok scLDue (fun vs H Q E h => ?_) (fun cdv A outer s H vs Q E hr h => ?_)
  · obtain ⟨l, r, rfl, _⟩ := h
    rfl
  · obtain ⟨l, r, rfl, hl, o, kk⟩ := h
    have q1 := o.q1; have q2 := o.q2
    obtain ⟨tE, hE, qE⟩ := due_end (P := P) (w := w) (K := K) (mg := mg) (base := base) (f := f) (cdv := cdv) (A := A) (outer := outer) (s := s) (H := H) (E := E) T hr
    -- behind the walk
    obtain ⟨tI, hI, qI⟩ : ∃ t : TS, PSs (cxOf CX0 P w K mg base nDu "_law_due" (defScope sLDue) f cdv A outer s H E).nox (lastBody.drop 2) t ∧ ∀ (D' : Ends) (G : Hp) (D z : Addr) (v0 v1 v6 : Option V) (x y : Int) (zs : List Int), 0 ≤ y → y < 300 → G D = some (.lst (badL r 300)) → G z = some (.lst (zs.map V.int)) → zs.length < 1000 →
        (∀ (G' : Hp) (v3 v5 : Option V), But z G G' → G' z = some (.lst ((zs ++ (if r.bad y = true then [x] else [])).map V.int)) → D'.nx [v0, v1, some (.ref D), v3, some (.ref z), v5, v6] G') →
        t D' [v0, v1, some (.ref D), some (.int x), some (.ref z), some (.int y), v6] G := by
      refine ⟨_, (pss_one (ps_if (pt_val (pe_ix ix_list (pv 2) (pv 5) (fun _ _ => rfl)))
        (pss_one (ps_expr (pe_bm PySem.F.plainAttrs_list PySem.F.slot_list_append PySem.F.type_list_append mt_append (pv 4) (pa_cons (pv 3) pa_nil)))) pss_nil)), ?_⟩
      intro D' G D z v0 v1 v6 x y zs y0 y1 hD hz hl fin
      refine ⟨_, rfl, _, rfl, D, _, _, _, rfl, rfl, SqL.of hD, badL_at r y0 (by omega), _, rfl, ?_⟩
      cases hb : r.bad y with
      | true =>
        rw [hb, if_pos rfl] at fin
        refine iteT ⟨_, rfl, .inl ⟨rfl, _, SqL.of hz⟩, _, rfl, z, _, _, rfl, rfl, hz, ?_, ?_⟩
        · rw [List.length_map]
          exact Nat.lt_trans hl (by decide)
        · refine fin _ _ _ But.upd_at ?_
          rw [upd_same, List.map_append]
          rfl
      | false =>
        rw [hb, if_neg (by decide), List.append_nil] at fin
        exact iteF (fin _ _ _ (But.refl _ _) hz)
    refine ⟨_, (pss_cons (ps_asg (pe_tup (pa_cons (pe_ix ix_tup (pv 0) pe_int (fun _ _ => rfl)) (pa_cons (pe_lc (own := [("_law_size", 3)]) (g := gName 3) (tt := tYes) (by rfl) scLDue.nd (pi_range1 (by rfl) T.range (pa_cons pe_int pa_nil)) (blkOk_by (own := [("_law_size", 3)]) (N := nDu) (sc := defScope sLDue) (by decide +kernel)) (fun _ _ _ _ _ => pg_name (i := 3) scLDue.nd rfl (.inl rfl)) (fun _ _ _ _ _ => pts_nil) (fun _ _ _ _ _ => (pe_and (pe_cmpR op_gt (pv 3) pe_int (nomark _)) (pe_one (pe_not (pe_call G1 hr (by rfl) g1 k1 b1 .nil pass0 (pa_cons (pv 0) (pa_cons (pv 3) pa_nil)))))))) pa_nil))) (pg_tup (by rfl) (pgs_cons (pg_name (i := 1) scLDue.nd rfl (.inl rfl)) (pgs_cons (pg_name (i := 2) scLDue.nd rfl (.inr rfl)) pgs_nil))))
    (pss_cons (ps_set (i := 4) scLDue.nd rfl (.inl rfl) (pe_lst pa_nil))
    (pss_cons (ps_for PassesOwn.never rfl (pi_range2 (by rfl) T.range (pa_cons (pe_op op_sub pe_int (pv 1)) (pa_cons pe_int pa_nil))) (pg_name (i := 5) scLDue.nd rfl (.inl rfl))
      (pss_cons (ps_set (i := 3) scLDue.nd rfl (.inl rfl) (pv 5))
      (pss_cons (ps_while PassesOwn.never (PW.pt (pw_and (pt_cmpR op_ge (pe_op op_sub (pv 3) (pv 1)) pe_int (nomark _)) (pw_and (pt_val (pe_ix ix_list (pv 2) (pv 3) (fun _ _ => rfl))) (pw_and1 (pt_val (pe_ix ix_list (pv 2) (pe_op op_sub (pv 3) (pv 1)) (fun _ _ => rfl)))))))
        (pss_one (ps_set (i := 3) scLDue.nd rfl (.inl rfl) (pe_op op_sub (pv 3) (pv 1)))))
      hI)))
    hE))), ?_⟩
    refine ⟨_, rfl, l, _, _, _, rfl, rfl, SqT.of hl, i5_1, ?_⟩
    refine ⟨300, rfl, by decide, by decide, fun D nD => lc_range (lo := 0) (n := 300) (fun i H' => H' D = some (.lst (badL r i)) ∧ Same H H') ⟨upd_same, same_new nD⟩ (fun i H' hi h => ?_) (fun H' h => ?_)⟩
    · obtain ⟨hD, s1⟩ := h
      have e0 : (0 : Int) + (i : Int) = (i : Int) := by omega
      rw [e0]
      have fin : ∀ c : Bool, c = r.bad (i : Int) → ∃ acc, H' D = some (.lst acc) ∧ acc.length < sizeLine ∧ (upd H' D (.lst (acc ++ [V.bl c])) D = some (.lst (badL r (i + 1))) ∧ Same H (upd H' D (.lst (acc ++ [V.bl c])))) := by
        rintro c rfl
        refine ⟨_, hD, by rw [badL_len]; exact Nat.lt_trans hi (by decide), ?_, fun b u q => by rw [upd_ne (ne_of_none q nD)]; exact s1 _ _ q⟩
        rw [upd_same, badL_succ]
      refine ⟨rfl, tyes (iteT ⟨_, rfl, _, _, rfl, rfl, _, rfl, ite2 (fun e => ?_) (fun e => ?_)⟩)⟩
      · have e : (1 : Int) < (i : Int) := of_decide_eq_true e
        refine ⟨_, rfl, _, rfl, l, r, _, rfl, s1 _ _ hl, o, _, rfl, fin _ ?_⟩
        unfold Fr.bad
        rw [decide_eq_true e, Bool.true_and]
      · have e : ¬ (1 : Int) < (i : Int) := fun z => e (decide_eq_true z)
        refine fin _ ?_
        unfold Fr.bad
        rw [decide_eq_false e, Bool.false_and]
    · obtain ⟨hD, s1⟩ := h
      refine ⟨(by show 2 ≤ sizeLine; decide), fun tt nt => ?_⟩
      have s2 : Same H' (upd H' tt (.tup [.int r.q, .ref D])) := same_new nt
      have ht : upd H' tt (.tup [.int r.q, .ref D]) tt = some (.tup [.int r.q, .ref D]) := upd_same
      dsimp only
      generalize upd H' tt (.tup [.int r.q, .ref D]) = H1 at s2 ht ⊢
      refine ⟨tt, _, rfl, SqT.of ht, rfl, _, _, rfl, _, _, rfl, rfl, ?_⟩
      refine ⟨(by show 0 ≤ sizeLine; decide), fun z nz => ?_⟩
      have s3 : Same H1 (upd H1 z (.lst [])) := same_new nz
      have hz : upd H1 z (.lst []) z = some (.lst []) := upd_same
      dsimp only
      generalize upd H1 z (.lst []) = H2 at s3 hz ⊢
      have hD1 := s2 _ _ hD
      have zD : D ≠ z := fun y => by rw [y, nz] at hD1; cases hD1
      have hD2 := s3 _ _ hD1
      have sH := s1.trans (s2.trans s3)
      have keepH : ∀ H3, But z H2 H3 → Same H H3 := fun H3 bt b u e => by
        have e1 := s2 _ _ (s1 _ _ e)
        exact bt b u (fun y => by rw [y, nz] at e1; cases e1) (sH _ _ e)
      refine ⟨_, rfl, _, _, rfl, rfl, _, _, rfl, ⟨by omega, by omega, by decide, by decide⟩, ?_⟩
      refine for_range (lo := 300 - r.q) (n := (300 - (300 - r.q)).toNat) (fun i σ H3 => (∃ v3 v5 v6 : Option V, σ = [some (.ref l), some (.int r.q), some (.ref D), v3, some (.ref z), v5, v6]) ∧ But z H2 H3 ∧ H3 z = some (.lst ((r.lastN i).map V.int))) ⟨⟨_, _, _, rfl⟩, But.refl _ _, hz⟩ (fun i σ H3 hi h => ?_) (fun σ H3 h => ?_)
      · obtain ⟨⟨v3, v5, v6, rfl⟩, bt, hz3⟩ := h
        have hi' : (i : Int) < r.q := by omega
        have hD3 := bt _ _ zD hD2
        obtain ⟨x, t, hx, ef, em⟩ := split_at q1 (by omega : 2 ≤ 300 - r.q + (i : Int))
        have lsucc := lastN_succ r i
        rw [em] at lsucc
        refine ⟨_, rfl, ?_⟩
        have tn : 0 ≤ r.q * (t : Int) := Int.mul_nonneg (by omega) (by omega)
        -- the while
        refine ⟨fun μ σ H' => ∃ u : Nat, u = μ ∧ u ≤ t ∧ σ = [some (.ref l), some (.int r.q), some (.ref D), some (.int (2 + (x : Int) + r.q * (u : Int))), some (.ref z), some (.int (300 - r.q + (i : Int))), v6] ∧ H' = H3 ∧ (r.st (2 + (x : Int)) = none → u = t) ∧ (∀ (m : Int) (j : Nat), r.st (2 + (x : Int)) = some m → m = 2 + (x : Int) + r.q * (j : Int) → j ≤ t → j ≤ u), ⟨t, t, rfl, Nat.le_refl _, by rw [← ef]; rfl, rfl, fun _ => rfl, fun m j _ _ h => h⟩, ?_⟩
        rintro μ σ H' ⟨u, rfl, ut, rfl, rfl, c1, c2⟩
        have un : 0 ≤ r.q * (u : Int) := Int.mul_nonneg (by omega) (by omega)
        have ule : r.q * (u : Int) ≤ r.q * (t : Int) := Int.mul_le_mul_of_nonneg_left (by omega) (by omega)
        have hzl : (r.lastN i).length < 1000 := Nat.lt_of_le_of_lt (lastN_len r i) (by omega)
        -- the end of a turn
        have out : ∀ D' : Ends, (∀ (σ' : L2.St) (G' : Hp), ((∃ v3 v5 v6 : Option V, σ' = [some (.ref l), some (.int r.q), some (.ref D), v3, some (.ref z), v5, v6]) ∧ But z H2 G' ∧ G' z = some (.lst ((r.lastN (i + 1)).map V.int))) → D'.nx σ' G') → (r.st (2 + (x : Int)) = none → u = t) → (∀ m, r.st (2 + (x : Int)) = some m → m = 2 + (x : Int) + r.q * (u : Int)) → tI D' [some (.ref l), some (.int r.q), some (.ref D), some (.int (2 + (x : Int) + r.q * (u : Int))), some (.ref z), some (.int (300 - r.q + (i : Int))), v6] H' := by
          intro D' hD' e1 e2
          refine qI _ H' D z _ _ _ _ _ (r.lastN i) (by omega) (by omega) hD3 hz3 hzl fun G' v3 v5 bt' hz' => hD' _ _ ⟨⟨_, _, _, rfl⟩, bt.trans bt', ?_⟩
          rw [hz', lsucc]
          cases est : r.st (2 + (x : Int)) with
          | none =>
            rw [ef, last_none o hx (by omega) est]
            rfl
          | some m =>
            obtain ⟨j, _, jt, hb, _⟩ := last_some o hx (t := t) (by omega) est
            rw [ef, hb t jt, if_pos rfl, ← e2 m est]
        have bnn : ∀ y : Int, 0 ≤ y → y ≤ 2 + (x : Int) + r.q * (u : Int) → atI (badL r 300) y = some (.bl (r.bad y)) := fun y y0 y1 => badL_at r y0 (by omega)
        refine ⟨_, rfl, _, rfl, _, _, rfl, rfl, _, _, rfl, rfl, _, rfl, ?_⟩
        by_cases u0 : u = 0
        · -- at the beginning of its rest
          have un0 : r.q * (u : Int) = 0 := by rw [u0]; exact Int.mul_zero _
          rw [decide_eq_false (show ¬ (2 : Int) ≤ 2 + (x : Int) + r.q * (u : Int) - r.q by omega)]
          refine iteF (iteF (out _ (fun _ _ h => h) c1 fun m e => ?_))
          obtain ⟨j, ej, jt, _, _⟩ := last_some o hx (t := t) (by omega) e
          have := c2 m j e ej jt
          rw [ej, show j = u by omega]
        · obtain ⟨u', rfl⟩ : ∃ u', u = u' + 1 := ⟨u - 1, by omega⟩
          have eu : r.q * ((u' + 1 : Nat) : Int) = r.q * (u' : Int) + r.q := by
            rw [show ((u' + 1 : Nat) : Int) = (u' : Int) + 1 by omega, Int.mul_add, Int.mul_one]
          have un' : 0 ≤ r.q * (u' : Int) := Int.mul_nonneg (by omega) (by omega)
          rw [decide_eq_true (show (2 : Int) ≤ 2 + (x : Int) + r.q * ((u' + 1 : Nat) : Int) - r.q by omega)]
          refine iteT ⟨_, rfl, _, rfl, D, _, _, _, rfl, rfl, SqL.of hD3, bnn _ (by omega) (by omega), _, rfl, ?_⟩
          cases est : r.st (2 + (x : Int)) with
          | none =>
            have ut' := c1 est
            have bf : r.bad (2 + (x : Int) + r.q * ((u' + 1 : Nat) : Int)) = false := by
              rw [ut']
              exact last_none o hx (by omega) est
            rw [bf]
            exact iteF (iteF (out _ (fun _ _ h => h) c1 fun m e => by rw [est] at e; cases e))
          | some m =>
            obtain ⟨j, ej, jt, hb, hbk⟩ := last_some o hx (t := t) (by omega) est
            have ju := c2 m j est ej jt
            rw [hb (u' + 1) ju]
            refine iteT ⟨_, rfl, _, rfl, _, rfl, _, _, rfl, rfl, D, _, _, _, rfl, rfl, SqL.of hD3, bnn _ (by omega) (by omega), _, rfl, ?_⟩
            by_cases je : j = u' + 1
            · subst je
              have bf : r.bad (2 + (x : Int) + r.q * ((u' + 1 : Nat) : Int) - r.q) = false := by
                rw [ej] at hbk
                rcases hbk with h | h
                · omega
                · exact h
              rw [bf]
              refine iteF (out _ (fun _ _ h => h) c1 fun m' e => ?_)
              rw [est] at e
              cases e
              exact ej
            · have bf : r.bad (2 + (x : Int) + r.q * ((u' + 1 : Nat) : Int) - r.q) = true := by
                rw [show 2 + (x : Int) + r.q * ((u' + 1 : Nat) : Int) - r.q = 2 + (x : Int) + r.q * (u' : Int) by omega]
                exact hb u' (by omega)
              rw [bf]
              refine iteT ?_
              refine ⟨fun σ' H2 => σ' = [some (.ref l), some (.int r.q), some (.ref D), some (.int (2 + (x : Int) + r.q * (u' : Int))), some (.ref z), some (.int (300 - r.q + (i : Int))), v6] ∧ H2 = H', fun σ' H2 ⟨a1, a2⟩ => ⟨u', Nat.lt_succ_self _, u', rfl, by omega, a1, a2, fun e => (by cases e), fun m' j' e e' jt' => ?_⟩, ?_⟩
              · cases e
                have : r.q * (j' : Int) = r.q * (j : Int) := by omega
                have := Int.eq_of_mul_eq_mul_left (by omega) this
                omega
              · refine ⟨_, rfl, _, rfl, _, _, rfl, rfl, ?_, rfl⟩
                dsimp only
                rw [show 2 + (x : Int) + r.q * ((u' + 1 : Nat) : Int) - r.q = 2 + (x : Int) + r.q * (u' : Int) by omega]
                rfl
      · obtain ⟨⟨v3, v5, v6, rfl⟩, bt, hz3⟩ := h
        rw [show (300 - (300 - r.q)).toNat = r.q.toNat by omega] at hz3
        refine qE _ H3 l D z r _ _ _ o (bt _ _ zD hD2) hz3 fun t G' s' du => kk t G' (fun b u e => s' _ _ (keepH _ bt _ _ e)) du
end
end Ev
namespace Ev
open PySem L2 PySem.Spec PyProof.Rows RZ
/-! How the answers show. -/
theorem sm_log {n : Int} (h : n.natAbs ≤ 500) : n.natAbs.log2 < 9 := by
  by_cases z : n.natAbs = 0
  · rw [z]; decide
  · exact (Nat.log2_lt z).mpr (Nat.lt_of_le_of_lt h (by decide +kernel))
theorem sm_weight {n : Int} (h : n.natAbs ≤ 500) : (PyData.int n).weight ≤ 9 := by
  have := sm_log h
  simp only [PyData.weight]
  split <;> omega
theorem sm_show {n : Int} (h : n.natAbs ≤ 500) : (PyData.int n).showable = true := decide_eq_true (Nat.lt_trans (sm_log h) (by decide))
theorem sm_leaf {n : Int} (h : n.natAbs ≤ 500) : (PyData.int n).leavesShort 2000 = true := by
  have e := int_text_length_le (k := 1920) (by decide) (Nat.lt_of_lt_of_le (sm_log h) (by decide))
  refine decide_eq_true ?_
  show (Str.ofString (toString n)).length ≤ 2000
  rw [PySem.ofString_length]
  omega
theorem show_len {d : PyData} (h : d.leavesShort 2000 = true) (hw : d.weight ≤ 8000) : d.shown.length ≤ sizeLine := by
  have := PyData.shown_le 2000 (by decide) d h
  rw [sizeLine_eq]
  omega
def Sms (ns : List Int) : Prop := ∀ n ∈ ns, n.natAbs ≤ 500
theorem Sms.show {ns : List Int} (h : Sms ns) : PyData.showableAll (ns.map PyData.int) = true ∧ PyData.leavesShortAll 2000 (ns.map PyData.int) = true ∧ PyData.weightAll (ns.map PyData.int) ≤ 10 * ns.length ∧ PyData.hasDictAll (ns.map PyData.int) = false ∧ PyData.depthAll (ns.map PyData.int) = 0 := by
  induction ns with
  | nil => exact ⟨rfl, rfl, Nat.le_refl _, rfl, rfl⟩
  | cons n r ih =>
    obtain ⟨a, b, c, d, e⟩ := ih fun x hx => h x (List.mem_cons_of_mem _ hx)
    have hn := h n List.mem_cons_self
    have s1 := sm_show hn
    have w1 := sm_weight hn
    have l1 := sm_leaf hn
    refine ⟨?_, ?_, ?_, ?_, ?_⟩
    · rw [List.map_cons, PyData.showableAll, s1, a]; rfl
    · rw [List.map_cons, PyData.leavesShortAll, l1, b]; rfl
    · rw [List.map_cons, PyData.weightAll, List.length_cons]; omega
    · rw [List.map_cons, PyData.hasDictAll, d]; rfl
    · rw [List.map_cons, PyData.depthAll, e]; rfl
def fitD (n : Int) (ws : List Int) : PyData := .list [.int n, .tuple (ws.map PyData.int)]
theorem fit_show {n : Int} {ws : List Int} (hn : n.natAbs ≤ 500) (h : Sms ws) (z : ws.length ≤ 300) :
    (fitD n ws).showable = true ∧ (fitD n ws).hasDict = false ∧ (fitD n ws).depth ≤ 32 ∧ (fitD n ws).shown.length ≤ sizeLine := by
  obtain ⟨a1, a2, a3, a4, a5⟩ := h.show
  have s1 := sm_show hn
  have w1 := sm_weight hn
  have l1 := sm_leaf hn
  refine ⟨?_, ?_, ?_, show_len ?_ ?_⟩
  · simp only [fitD, PyData.showable, PyData.showableAll, a1, Bool.and_true, Bool.true_and] at s1 ⊢
    exact s1
  · simp only [fitD, PyData.hasDict, PyData.hasDictAll, a4, Bool.or_false]
  · simp only [fitD, PyData.depth, PyData.depthAll, a5]; decide
  · simp only [fitD, PyData.leavesShort, PyData.leavesShortAll, a2, Bool.and_true, Bool.true_and] at l1 ⊢
    exact l1
  · simp only [fitD, PyData.weight, PyData.weightAll] at w1 ⊢
    omega
theorem fit_dp {K : PySem.W.Frag} {G : Hp} {z a : Addr} {n : Int} {ws : List Int} (hz : G z = some (.lst [.int n, .ref a])) (ha : G a = some (.tup (ws.map V.int))) : Dp K G (.ref z) (fitD n ws) :=
  .lst (SqL.of hz) (.cons (.int _) (.cons (.tup (SqT.of ha) (dpInts ws)) .nil))
def spiD (n m : Int) : PyData := .list [.int n, .int m]
theorem spi_show {n m : Int} (hn : n.natAbs ≤ 500) (hm : m.natAbs ≤ 500) :
    (spiD n m).showable = true ∧ (spiD n m).hasDict = false ∧ (spiD n m).depth ≤ 32 ∧ (spiD n m).shown.length ≤ sizeLine := by
  have s1 := sm_show hn
  have w1 := sm_weight hn
  have l1 := sm_leaf hn
  have s2 := sm_show hm
  have w2 := sm_weight hm
  have l2 := sm_leaf hm
  refine ⟨?_, ?_, ?_, show_len ?_ ?_⟩
  · simp only [spiD, PyData.showable, PyData.showableAll, Bool.and_true, Bool.true_and] at s1 s2 ⊢
    rw [Bool.and_eq_true]
    exact ⟨s1, s2⟩
  · simp only [spiD, PyData.hasDict, PyData.hasDictAll, Bool.or_false]
  · simp only [spiD, PyData.depth, PyData.depthAll]; decide
  · simp only [spiD, PyData.leavesShort, PyData.leavesShortAll, Bool.and_true, Bool.true_and] at l1 l2 ⊢
    rw [Bool.and_eq_true]
    exact ⟨l1, l2⟩
  · simp only [spiD, PyData.weight, PyData.weightAll] at w1 w2 ⊢
    omega
theorem spi_dp {K : PySem.W.Frag} {G : Hp} {z : Addr} {n m : Int} (hz : G z = some (.lst [.int n, .int m])) : Dp K G (.ref z) (spiD n m) :=
  .lst (SqL.of hz) (.cons (.int _) (.cons (.int _) .nil))
theorem dueW_sm (r : Fr) : Sms r.dueW := fun n hn => by
  have := dueN_mem.mp hn
  omega
theorem sizeOf_sm (r : Fr) : (sizeOf' r.dueW).natAbs ≤ 500 := by
  unfold sizeOf'
  split
  · rename_i h
    have ne : r.dueW ≠ [] := by intro z; rw [z] at h; exact absurd h (by decide)
    have := dueW_sm r (r.dueW.getLastD 0) (by
      rw [List.getLastD_eq_getLast?, List.getLast?_eq_some_getLast ne]
      exact List.getLast_mem ne)
    have h2 : r.dueW.getLastD 0 ∈ r.dueW := by
      rw [List.getLastD_eq_getLast?, List.getLast?_eq_some_getLast ne]
      exact List.getLast_mem ne
    have := dueN_mem.mp h2
    omega
  · decide
theorem spilt_sm {r : Fr} (o : r.ok) {m : Int} (h : m ∈ r.spilt) : m.natAbs ≤ 500 := by
  have q1 := o.q1; have q2 := o.q2
  unfold Fr.spilt at h
  rw [List.mem_filterMap] at h
  obtain ⟨i, hi, e⟩ := h
  have hi := List.mem_range.mp hi
  unfold Fr.st at e
  cases z : (r.span (2 + (i : Int))).2 with
  | none => rw [z] at e; cases e
  | some l =>
    rw [z] at e
    have e := Option.some.inj e
    have hi2 := (span_hi o (s := 2 + (i : Int)) (by omega) (by omega)).1 l z
    have nn := Fr.span_nn o (2 + (i : Int))
    by_cases c : l ≥ (r.span (2 + (i : Int))).1
    · rw [if_pos c] at e
      have : 0 ≤ r.q * (l + 1) := Int.mul_nonneg (by omega) (by omega)
      omega
    · rw [if_neg c, Int.mul_zero] at e
      omega
end Ev
namespace Ev
open PySem L2 PySem.Spec PyProof.Rows RZ
/-! ### a def called by keywords alone -/
section
variable {X : Cx}
def tCallK0 (sp : Sp) (gV : List V → List V → List V) (E : XK) (tk : TA) : TE := fun σ H Q => tk σ H fun zs H2 => sp (gV [] zs) H2 Q E
theorem pe_callK0 {CX : CXT} {k : Nat} {f : Addr} {fd : FuncData} {ps ks : List Str} {sp : Sp} {E : XK} {x : Str} {p pos : Pos} {kws : List Keyword} {tk : TA} {g : List Value → List Value → List Value} {gV : List V → List V → List V}
    (F : FnOk X.prog X.w X.K X.mg X.base CX k f fd ps sp) (hr : Room k X.A) (hg : Gl X x) (hm : X.mg x = some (.ref f)) (hk : PySem.W.keepIn X.K (.ref f) = true) (hb : KBinds X.K fd ps ks g gV) (hx : Passes CX X E)
    (hkw : PK X kws tk) (hall : (backToKw pos (keywordEach kws X.env)).all (·.1.isSome) = true := by rfl) (hks : (backToKw pos (keywordEach kws X.env)).filterMap (·.1) = ks := by rfl)
    (hdb : (x == ("__debug__" : Str)) = false := by decide)
    (hpl : ((backTo pos (starEach [] X.env)).any (·.1) || (backToKw pos (keywordEach kws X.env)).any (·.1.isNone)) = false := by rfl) :
    PE X (.Call (.Name x p) [] kws pos) (tCallK0 sp gV E tk) := by
  refine ⟨fun pins s σ H Q I h => ?_⟩
  refine wpAny_Call_Name_kw (ld_glob I hg hm ?_ hdb)
  refine PySem.W.callWith_KW0 (first := []) (h₀ := X.base) I.ok.mod.kin hk hall ?_ hpl
  refine thn (hkw.run pos pins s σ H _ I h) fun ws s2 ⟨zs, H2, I2, rz, q2⟩ => ⟨I2.kIn, ?_⟩
  rw [hks]
  exact run_fnk (us := []) (vs := []) F hr hb hx I2 .nil rz q2
end
theorem mkr_fit {F : Addr} {H : Hp} {n : Int} {a x dx : Addr} {ws : List Int} {E : XK} {Q : VK} (nx : H x = none) (nd : H dx = none) (ne : dx ≠ x) (ha : H a = some (.tup (ws.map V.int))) (hl : ws.length ≤ 900) (k : ∀ G, Same H G → FitAt F G x n ws → Q .non G) :
    spFitI F (.ref x :: ([.int n, .ref a] ++ [])) (upd (upd H dx (.own x)) x (.ins F dx [])) Q E := by
  have n2 : (upd H dx (.own x)) x = none := by rw [upd_ne (fun z => ne z.symm)]; exact nx
  have s1 : Same H (upd (upd H dx (.own x)) x (.ins F dx [])) := (same_new nd).trans (same_new n2)
  refine ⟨x, dx, a, n, ws, rfl, upd_same, s1 _ _ ha, hl, fun H' bt hx => k H' (fun c o e => ?_) ⟨dx, a, hx, bt _ _ (ne_of_none ha nx) (s1 _ _ ha)⟩⟩
  exact bt c o (ne_of_none e nx) (s1 _ _ e)
theorem mkr_spi {S : Addr} {H : Hp} {n m : Int} {x dx : Addr} {E : XK} {Q : VK} (nx : H x = none) (nd : H dx = none) (ne : dx ≠ x) (k : ∀ G, Same H G → SpiAt S G x n m → Q .non G) :
    spSpiI S (.ref x :: ([.int n, .int m] ++ [])) (upd (upd H dx (.own x)) x (.ins S dx [])) Q E := by
  have n2 : (upd H dx (.own x)) x = none := by rw [upd_ne (fun z => ne z.symm)]; exact nx
  have s1 : Same H (upd (upd H dx (.own x)) x (.ins S dx [])) := (same_new nd).trans (same_new n2)
  exact ⟨x, dx, n, m, rfl, upd_same, fun H' bt hx => k H' (fun c o e => bt c o (ne_of_none e nx) (s1 _ _ e)) ⟨dx, hx⟩⟩
/-- one value by its name -/
def g0 {α : Type} : List α → List α → List α
  | [], ws => ws
  | _, _ => []
/-- the two answers -/
structure VB (P : Program) (w : World) (K : PySem.W.Frag) (mg : Str → Option Value) (base : Heap) (A S CV : Addr) : Prop where
  vm : VMk P w K mg base A S
  fA : FitC K A
  fS : SpiC K S
  iA : InsT K A
  iS : InsT K S
  gV : mg "Verdict" = some (.ref CV)
  vA : PySem.W.kitOne K (.ref A) (.ref CV) = some true
  vS : PySem.W.kitOne K (.ref S) (.ref CV) = some true
  eA : ∃ (f : Addr) (fd : FuncData), FnOk P w K mg base CX0 1 f fd ["self", "other"] (spFitE A) ∧ Binds K fd ["self", "other"] [] ∧ FnR P w K mg base CX0 1 f (spFitE A) ∧ PySem.W.findIn K (.ref A) "__eq__" = some (some (.ref f)) ∧ PySem.W.isFn K (.ref f) = true
  eS : ∃ (f : Addr) (fd : FuncData), FnOk P w K mg base CX0 1 f fd ["self", "other"] (spSpiE S) ∧ Binds K fd ["self", "other"] [] ∧ FnR P w K mg base CX0 1 f (spSpiE S) ∧ PySem.W.findIn K (.ref S) "__eq__" = some (some (.ref f)) ∧ PySem.W.isFn K (.ref f) = true
  nA : PySem.W.findIn K (.ref A) "__ne__" = some (some (.builtin "object.__ne__"))
  nS : PySem.W.findIn K (.ref S) "__ne__" = some (some (.builtin "object.__ne__"))
  bA : ∃ f, FnR P w K mg base CX0 1 f (spBl true) ∧ PySem.W.findIn K (.ref A) "__bool__" = some (some (.ref f)) ∧ PySem.W.isFn K (.ref f) = true
  bS : ∃ f, FnR P w K mg base CX0 1 f (spBl false) ∧ PySem.W.findIn K (.ref S) "__bool__" = some (some (.ref f)) ∧ PySem.W.isFn K (.ref f) = true
theorem FitAt.ty {K : PySem.W.Frag} {A y : Addr} {H : Hp} {n : Int} {ws : List Int} (F : FitC K A) (I : InsT K A) (h : FitAt A H y n ws) : TyX K H (.ref y) (.ref A) := by
  obtain ⟨dx, a, hx, _⟩ := h
  exact .base (.ins hx F.cl I.ha I.hn I.htk I.hm)
theorem SpiAt.ty {K : PySem.W.Frag} {A y : Addr} {H : Hp} {n m : Int} (F : SpiC K A) (I : InsT K A) (h : SpiAt A H y n m) : TyX K H (.ref y) (.ref A) := by
  obtain ⟨dx, hx⟩ := h
  exact .base (.ins hx F.cl I.ha I.hn I.htk I.hm)
/-- != of two equal ones -/
theorem fit_ne {K : PySem.W.Frag} {A x y : Addr} {H : Hp} {n : Int} {ws : List Int} {Q : VK} (F : FitC K A) (I : InsT K A) (hx : FitAt A H x n ws) (hy : FitAt A H y n ws) (q : Q (.bl false) H) : rOwnB K A (spFitE A) E0 true (.ref x) (.ref y) H Q := by
  obtain ⟨dx, a, ex, ea⟩ := id hx
  exact ⟨x, dx, _, _, rfl, ex, hy.ty F I, nf_own, x, y, n, ws, rfl, hx, hy, true, rfl, q⟩
theorem spi_ne {K : PySem.W.Frag} {A x y : Addr} {H : Hp} {n m : Int} {Q : VK} (F : SpiC K A) (I : InsT K A) (hx : SpiAt A H x n m) (hy : SpiAt A H y n m) (q : Q (.bl false) H) : rOwnB K A (spSpiE A) E0 true (.ref x) (.ref y) H Q := by
  obtain ⟨dx, ex⟩ := id hx
  exact ⟨x, dx, _, _, rfl, ex, hy.ty F I, nf_own, x, y, n, m, rfl, hx, hy, true, rfl, q⟩
/-- bool of either -/
def rBlV (A S : Addr) : List V → Hp → VK → Prop := fun xs H Q => ∃ x : Addr, xs = [.ref x] ∧ ((∃ n ws, FitAt A H x n ws ∧ Q (.bl true) H) ∨ ∃ n m, SpiAt S H x n m ∧ Q (.bl false) H)
theorem call_boolV {X : Cx} {A S CV : Addr} (B : VB X.prog X.w X.K X.mg X.base A S CV) (hr : Room 3 X.A) : CallR X (.type "bool") (rBlV A S) := by
  intro pins s σ H xs us Q I r h
  obtain ⟨x, rfl, h⟩ := h
  rcases h with ⟨n, ws, ⟨dx, a, ex, _⟩, q⟩ | ⟨n, m, ⟨dx, ex⟩, q⟩
  · obtain ⟨f, Ft, ht, hf⟩ := B.bA
    exact call_boolO (E := E0) ht hf Ft hr pass0 pins s σ H _ us Q I r ⟨x, dx, _, rfl, ex, .ref x, rfl, _, rfl, q⟩
  · obtain ⟨f, Ft, ht, hf⟩ := B.bS
    exact call_boolO (E := E0) ht hf Ft hr pass0 pins s σ H _ us Q I r ⟨x, dx, _, rfl, ex, .ref x, rfl, _, rfl, q⟩
def spRi : Sp := fun vs H Q _ => ∃ (l : Addr) (r : Fr), vs = [.ref l] ∧ H l = some (.tup (tupR r)) ∧ r.ok ∧ ∀ H', Same H H' → Q (.bl true) H'
abbrev nRi : List Str := ["_law_told", "_law_made", "_law_due_here", "_law_found"]
theorem at3_0 {a b c : V} : atI [a, b, c] 0 = some a := atI_nat (j := 0) rfl
theorem at3_1 {a b c : V} : atI [a, b, c] 1 = some b := atI_nat (j := 1) rfl
theorem at3_2 {a b c : V} : atI [a, b, c] 2 = some c := atI_nat (j := 2) rfl
section
variable {P : Program} {w : World} {K : PySem.W.Frag} {mg : Str → Option Value} {base : Heap}
theorem scRi : FnScope nRi ["_law_told"] (defScope sLRight) := ⟨rfl, rfl, rfl, by decide +kernel, rfl, by decide +kernel, by decide +kernel⟩
theorem ok_right {f C A S CV fj : Addr} {fd fdj : FuncData} (F : Fun K "_law_right" "_law_right" sLRight f fd) (T : Blt mg) (VV : VB P w K mg base A S CV) (D1 : Df P w K mg base 7 "_law_rule" ["_law_told"] (spLRule C)) (D2 : Df P w K mg base 3 "_law_due" ["_law_told"] spDue)
    (G3 : FnOk P w K mg base CX0 6 fj fdj ["rule"] (spJudge C A S)) (g3 : mg "judge_fill" = some (.ref fj)) (k3 : PySem.W.keepIn K (.ref fj) = true) (b3 : Binds K fdj ["rule"] []) (kb3 : KBinds K fdj ["rule"] ["rule"] g0 g0) : FnG P w K mg base 8 f fd ["_law_told"] spRi := by
  obtain ⟨f1, fd1, G1, g1, k1, b1⟩ := D1.ex
  obtain ⟨f2, fd2, G2, g2, k2, b2⟩ := D2.ex
  obtain ⟨gA, gS, ⟨fA, fdA, MA, GA, bA⟩, ⟨fS, fdS, MS, GS, bS⟩⟩ := VV.vm
  obtain ⟨eA, edA, _, _, EA, ea1, ea2⟩ := VV.eA
  obtain ⟨eS, edS, _, _, ES, es1, es2⟩ := VV.eS
  refine fng_of F scRi (fun vs H Q E h => ?_) (fun cdv A' outer s H vs Q E hr gd h => ?_)
  · obtain ⟨l, r, rfl, _⟩ := h
    rfl
  · obtain ⟨l, r, rfl, hl, o, kk⟩ := h
    have hu := Room.units hr
    have hr1 : Room 1 _ := hr.mono (show 1 ≤ 7 by decide)
    have hr2 : Room 2 _ := hr.mono (show 2 ≤ 7 by decide)
    refine ⟨_, (pss_cons (ps_par (i := 1) (j := 2) (by rfl) scRi.nd rfl rfl (by decide) rfl rfl (pa_cons (pe_call G1 hr (by rfl) g1 k1 b1 .nil pass0 (pa_cons (pv 0) pa_nil)) (pa_cons (pe_call G2 (hr.mono (by decide)) (by rfl) g2 k2 b2 .nil pass0 (pa_cons (pv 0) pa_nil)) pa_nil)) (by rfl))
    (pss_cons (ps_set (i := 3) scRi.nd rfl (.inl rfl) (pe_call G3 (hr.mono (by decide)) (by rfl) g3 k3 b3 .nil pass0 (pa_cons (pv 1) pa_nil)))
    (pss_cons (ps_if (PW.pt (pw_or (pt_not (pt_val (pe_callB call_isi (by rfl) T.isi (by decide +kernel) (pa_cons (pv 3) (pa_cons (pe_glob (v := .ref CV) rfl VV.gV rfl) pa_nil))))) (pw_or (pt_cmpR (r := fun x y H Q => rOwnB K A (spFitE A) E0 true x y H Q ∨ rOwnB K S (spSpiE S) E0 true x y H Q) (by exact OpR.or (op_neO (E := E0) ea1 VV.nA VV.iA.hm ea2 EA hr2 pass0) (op_neO (E := E0) es1 VV.nS VV.iS.hm es2 ES hr2 pass0)) (pe_callK0 G3 (hr.mono (by decide)) (by rfl) g3 k3 kb3 (E := E0) pass0 (pk_cons (pv 1) pk_nil)) (pv 3) (nomark _)) (pw_or1 (pt_cmpR op_ne (pe_callTy (r := rBlV A S) (by exact call_boolV VV (hr.mono (by decide))) (by rfl) T.bool (by decide +kernel) (pa_cons (pv 3) pa_nil)) (pe_cmpR op_eq (pe_ix ix_tup (pv 2) pe_int (fun _ _ => rfl)) pe_str (nomark _)) (nomark _))))))
      (pss_one (ps_ret pe_bl)) pss_nil)
    (pss_cons (ps_if (pt_cmpR op_eq (pe_ix ix_tup (pv 2) pe_int (fun _ _ => rfl)) pe_str (nomark _))
      (pss_cons (ps_if (PW.pt (pw_or (pt_not (pt_val (pe_callB call_isi (by rfl) T.isi (by decide +kernel) (pa_cons (pv 3) (pa_cons (pe_glob (v := .ref A) rfl gA rfl) pa_nil))))) (pw_or1 (pt_cmpR (op_neO (E := E0) ea1 VV.nA VV.iA.hm ea2 EA hr2 pass0) (pv 3) (pe_make MA GA (hr.mono (by decide)) (by rfl) gA bA .nil pass0 (pa_cons (pe_ix ix_tup (pv 2) pe_int (fun _ _ => rfl)) (pa_cons (pe_ix ix_tup (pv 2) pe_int (fun _ _ => rfl)) pa_nil))) (nomark _)))))
        (pss_one (ps_ret pe_bl)) pss_nil)
      (pss_one (ps_ret (pe_cmpR op_eq (pe_callB (call_repr gd hu) (by rfl) T.repr (by decide +kernel) (pa_cons (pe_lst (pa_cons (pe_fld (pv 3) rfl) (pa_cons (pe_fld (pv 3) rfl) pa_nil))) pa_nil)) (pe_callB (call_repr gd hu) (by rfl) T.repr (by decide +kernel) (pa_cons (pe_lst (pa_cons (pe_ix ix_tup (pv 2) pe_int (fun _ _ => rfl)) (pa_cons (pe_ix ix_tup (pv 2) pe_int (fun _ _ => rfl)) pa_nil))) pa_nil)) (nomark _))))) pss_nil)
    (pss_cons (ps_if (PW.pt (pw_or (pt_not (pt_val (pe_callB call_isi (by rfl) T.isi (by decide +kernel) (pa_cons (pv 3) (pa_cons (pe_glob (v := .ref S) rfl gS rfl) pa_nil))))) (pw_or1 (pt_cmpR (op_neO (E := E0) es1 VV.nS VV.iS.hm es2 ES hr2 pass0) (pv 3) (pe_make MS GS (hr.mono (by decide)) (by rfl) gS bS .nil pass0 (pa_cons (pe_ix ix_tup (pv 2) pe_int (fun _ _ => rfl)) (pa_cons (pe_ix ix_tup (pv 2) pe_int (fun _ _ => rfl)) pa_nil))) (nomark _)))))
      (pss_one (ps_ret pe_bl)) pss_nil)
    (pss_one (ps_ret (pe_cmpR op_eq (pe_callB (call_repr gd hu) (by rfl) T.repr (by decide +kernel) (pa_cons (pe_lst (pa_cons (pe_fld (pv 3) rfl) (pa_cons (pe_fld (pv 3) rfl) pa_nil))) pa_nil)) (pe_callB (call_repr gd hu) (by rfl) T.repr (by decide +kernel) (pa_cons (pe_lst (pa_cons (pe_ix ix_tup (pv 2) pe_int (fun _ _ => rfl)) (pa_cons (pe_ix ix_tup (pv 2) pe_int (fun _ _ => rfl)) pa_nil))) pa_nil)) (nomark _))))))))), ?_⟩
    refine ⟨_, rfl, l, r, rfl, hl, o, fun x H1 s1 fa => ?_⟩
    refine ⟨_, rfl, l, r, rfl, s1 _ _ hl, o, fun t H2 s2 du => ⟨_, _, rfl, ?_⟩⟩
    refine ⟨_, rfl, x, r, rfl, fa.keep s2, o, fun y H3 s3 ju => ?_⟩
    have fa3 := (fa.keep s2).keep s3
    have sf : ¬ (V.str "spills" = V.str "fits") := fun z => absurd (V.str.inj z) (by decide +kernel)
    rcases ju with ⟨en, fy⟩ | ⟨m, hm, sy⟩
    · -- fits
      obtain ⟨a, ht, ha⟩ : ∃ a, H2 t = some (.tup [.str "fits", .int (sizeOf' r.dueW), .ref a]) ∧ H2 a = some (.tup (r.dueW.map V.int)) := by
        rcases du with ⟨ne, _⟩ | ⟨_, h⟩
        · exact absurd en ne
        · exact h
      have ht3 := s3 _ _ ht
      have ha3 := s3 _ _ ha
      refine ⟨_, rfl, _, _, _, _, true, rfl, .own CV, fy.ty VV.fA VV.iA, VV.vA, _, rfl, iteF ?_⟩
      refine ⟨_, rfl, x, r, rfl, fa3, o, fun y2 H4 s4 ju2 => ?_⟩
      have fy2 : FitAt A H4 y2 (sizeOf' r.dueW) r.dueW := by
        rcases ju2 with ⟨_, h⟩ | ⟨m, hm, _⟩
        · exact h
        · rw [en] at hm; exact absurd hm.1 (by simp)
      have fy4 := fy.keep s4
      have ht4 := s4 _ _ ht3
      have ha4 := s4 _ _ ha3
      refine ⟨_, rfl, .inl (fit_ne VV.fA VV.iA fy2 fy4 ⟨_, rfl, iteF ?_⟩)⟩
      refine ⟨_, rfl, y, rfl, .inl ⟨_, _, fy4, ?_⟩⟩
      refine ⟨_, rfl, t, _, _, _, rfl, rfl, SqT.of ht4, at3_0, rfl, rfl, _, rfl, iteNS (by rw [decide_eq_true rfl]) ?_⟩
      refine ⟨_, rfl, t, _, _, _, rfl, rfl, SqT.of ht4, at3_0, rfl, _, rfl, ?_⟩
      rw [decide_eq_true rfl]
      refine iteT ?_
      refine ⟨_, rfl, _, _, _, _, true, rfl, .own A, fy4.ty VV.fA VV.iA, kit_self, _, rfl, iteF ?_⟩
      refine ⟨_, rfl, _, rfl, t, _, _, _, rfl, rfl, SqT.of ht4, at3_1, _, rfl, t, _, _, _, rfl, rfl, SqT.of ht4, at3_2, ?_⟩
      refine fun y3 dy3 ny3 nd3 ne3 => mkr_fit (ws := r.dueW) ny3 nd3 ne3 ha4 (Nat.le_trans (dueW_len r) (by decide)) fun H5 s5 fy3 => ⟨rfl, ?_⟩
      have fy5 := fy4.keep s5
      refine fit_ne VV.fA VV.iA fy5 fy3 ⟨_, rfl, iteF ?_⟩
      obtain ⟨dy, ya, hy, hya⟩ := fy5
      have ht5 := s5 _ _ ht4
      have ha5 := s5 _ _ ha4
      obtain ⟨w1, w2, w3, w4⟩ := fit_show (sizeOf_sm r) (dueW_sm r) (dueW_len r)
      refine ⟨_, rfl, y, A, dy, _, _, rfl, hy, VV.fA.cl, VV.fA.n1, fit_size _ _, _, rfl, y, A, dy, _, _, rfl, hy, VV.fA.cl, VV.fA.n2, fit_wrong _ _, (by show 2 ≤ sizeLine; decide), fun l1 n1 => ?_⟩
      have s6 := same_new (o := .lst [.int (sizeOf' r.dueW), .ref ya]) n1
      have h6 : upd H5 l1 (.lst [.int (sizeOf' r.dueW), .ref ya]) l1 = some (.lst [.int (sizeOf' r.dueW), .ref ya]) := upd_same
      dsimp only
      generalize upd H5 l1 (.lst [.int (sizeOf' r.dueW), .ref ya]) = H6 at s6 h6 ⊢
      refine ⟨l1, fitD _ _, rfl, fit_dp h6 (s6 _ _ hya), w1, w2, w3, w4, ?_⟩
      refine ⟨_, rfl, t, _, _, _, rfl, rfl, SqT.of (s6 _ _ ht5), at3_1, _, rfl, t, _, _, _, rfl, rfl, SqT.of (s6 _ _ ht5), at3_2, (by show 2 ≤ sizeLine; decide), fun l2 n2 => ?_⟩
      have s7 := same_new (o := .lst [.int (sizeOf' r.dueW), .ref a]) n2
      have h7 : upd H6 l2 (.lst [.int (sizeOf' r.dueW), .ref a]) l2 = some (.lst [.int (sizeOf' r.dueW), .ref a]) := upd_same
      dsimp only
      generalize upd H6 l2 (.lst [.int (sizeOf' r.dueW), .ref a]) = H7 at s7 h7 ⊢
      refine ⟨l2, fitD _ _, rfl, fit_dp h7 (s7 _ _ (s6 _ _ ha5)), w1, w2, w3, w4, ?_⟩
      refine ⟨rfl, ?_⟩
      rw [decide_eq_true rfl]
      exact kk _ (s1.trans (s2.trans (s3.trans (s4.trans (Same.trans s5 (s6.trans s7))))))
    · -- spills
      have ne : r.spilt ≠ [] := fun z => by rw [z] at hm; exact absurd hm.1 (by simp)
      have ht : H2 t = some (.tup [.str "spills", .int m, .int r.q]) := by
        rcases du with ⟨_, m', hm', h⟩ | ⟨z, _⟩
        · rw [IsMin.uniq hm hm' fun _ => Iff.rfl]; exact h
        · exact absurd z ne
      have ht3 := s3 _ _ ht
      refine ⟨_, rfl, _, _, _, _, true, rfl, .own CV, sy.ty VV.fS VV.iS, VV.vS, _, rfl, iteF ?_⟩
      refine ⟨_, rfl, x, r, rfl, fa3, o, fun y2 H4 s4 ju2 => ?_⟩
      have sy2 : SpiAt S H4 y2 m r.q := by
        rcases ju2 with ⟨z, _⟩ | ⟨m', hm', h⟩
        · exact absurd z ne
        · rw [IsMin.uniq hm hm' fun _ => Iff.rfl]; exact h
      have sy4 := sy.keep s4
      have ht4 := s4 _ _ ht3
      refine ⟨_, rfl, .inr (spi_ne VV.fS VV.iS sy2 sy4 ⟨_, rfl, iteF ?_⟩)⟩
      refine ⟨_, rfl, y, rfl, .inr ⟨_, _, sy4, ?_⟩⟩
      refine ⟨_, rfl, t, _, _, _, rfl, rfl, SqT.of ht4, at3_0, rfl, rfl, _, rfl, iteNS (by rw [decide_eq_false sf]) ?_⟩
      refine ⟨_, rfl, t, _, _, _, rfl, rfl, SqT.of ht4, at3_0, rfl, _, rfl, ?_⟩
      rw [decide_eq_false sf]
      refine iteF ?_
      refine ⟨_, rfl, _, _, _, _, true, rfl, .own S, sy4.ty VV.fS VV.iS, kit_self, _, rfl, iteF ?_⟩
      refine ⟨_, rfl, _, rfl, t, _, _, _, rfl, rfl, SqT.of ht4, at3_1, _, rfl, t, _, _, _, rfl, rfl, SqT.of ht4, at3_2, ?_⟩
      refine fun y3 dy3 ny3 nd3 ne3 => mkr_spi ny3 nd3 ne3 fun H5 s5 sy3 => ⟨rfl, ?_⟩
      have sy5 := sy4.keep s5
      refine spi_ne VV.fS VV.iS sy5 sy3 ⟨_, rfl, iteF ?_⟩
      obtain ⟨dy, hy⟩ := sy5
      have ht5 := s5 _ _ ht4
      have q1 := o.q1; have q2 := o.q2
      obtain ⟨w1, w2, w3, w4⟩ := spi_show (n := m) (m := r.q) (spilt_sm o hm.1) (by omega)
      refine ⟨_, rfl, y, S, dy, _, _, rfl, hy, VV.fS.cl, VV.fS.n1, spi_size _ _, _, rfl, y, S, dy, _, _, rfl, hy, VV.fS.cl, VV.fS.n2, spi_step _ _, (by show 2 ≤ sizeLine; decide), fun l1 n1 => ?_⟩
      have s6 := same_new (o := .lst [.int m, .int r.q]) n1
      have h6 : upd H5 l1 (.lst [.int m, .int r.q]) l1 = some (.lst [.int m, .int r.q]) := upd_same
      dsimp only
      generalize upd H5 l1 (.lst [.int m, .int r.q]) = H6 at s6 h6 ⊢
      refine ⟨l1, spiD _ _, rfl, spi_dp h6, w1, w2, w3, w4, ?_⟩
      refine ⟨_, rfl, t, _, _, _, rfl, rfl, SqT.of (s6 _ _ ht5), at3_1, _, rfl, t, _, _, _, rfl, rfl, SqT.of (s6 _ _ ht5), at3_2, (by show 2 ≤ sizeLine; decide), fun l2 n2 => ?_⟩
      have s7 := same_new (o := .lst [.int m, .int r.q]) n2
      have h7 : upd H6 l2 (.lst [.int m, .int r.q]) l2 = some (.lst [.int m, .int r.q]) := upd_same
      dsimp only
      generalize upd H6 l2 (.lst [.int m, .int r.q]) = H7 at s7 h7 ⊢
      refine ⟨l2, spiD _ _, rfl, spi_dp h7, w1, w2, w3, w4, ?_⟩
      refine ⟨rfl, ?_⟩
      rw [decide_eq_true rfl]
      exact kk _ (s1.trans (s2.trans (s3.trans (s4.trans (Same.trans s5 (s6.trans s7))))))
end
end Ev
namespace Ev
open PySem L2 PySem.Spec PyProof.Rows RZ
theorem mk_fill {C x dx t : Addr} {r : Fr} {H : Hp} {Q : VK} {E : XK} (nx : H x = none) (ndx : H dx = none) (ht : H t = some (.tup [.int r.p, .int r.q])) (o : r.ok) (k : ∀ H', Same H H' → FAt C H' x r → Q .non H') :
    spFillOk C [.ref x, .ref t, .int r.k, .int r.c, .int r.j] (upd (upd H dx (.own x)) x (.ins C dx [])) Q E := by
  have keep : ∀ (b : Addr) (u : HO), H b = some u → upd (upd H dx (.own x)) x (.ins C dx []) b = some u := fun b u e => by
    rw [upd_ne (ne_of_none e nx), upd_ne (ne_of_none e ndx)]; exact e
  refine ⟨x, dx, t, r, rfl, upd_same, keep _ _ ht, o, fun H3 t3 hx3 => ?_⟩
  have s3 : Same H H3 := fun b u e => t3 _ _ (ne_of_none e nx) (keep _ _ e)
  exact k H3 s3 ⟨dx, t, hx3, s3 _ _ ht⟩
def r1 : Fr := ⟨1, 2, 0, 1, 2⟩
def r2 : Fr := ⟨2, 3, 0, 2, 3⟩
def r3 : Fr := ⟨2, 3, 0, 1, 3⟩
def r4 : Fr := ⟨1, 1, 0, 1, 2⟩
theorem r1_ok : r1.ok := ⟨by decide, by decide, by decide, by decide, by decide, by decide, by decide, by decide, by decide, by decide⟩
theorem r2_ok : r2.ok := ⟨by decide, by decide, by decide, by decide, by decide, by decide, by decide, by decide, by decide, by decide⟩
theorem r3_ok : r3.ok := ⟨by decide, by decide, by decide, by decide, by decide, by decide, by decide, by decide, by decide, by decide⟩
theorem r4_ok : r4.ok := ⟨by decide, by decide, by decide, by decide, by decide, by decide, by decide, by decide, by decide, by decide⟩
theorem r1_sp : r1.spilt = [] := by decide +kernel
theorem r2_sp : r2.spilt = [] := by decide +kernel
theorem r1_du : r1.dueW = [] := by decide +kernel
theorem r2_du : r2.dueW = [] := by decide +kernel
theorem r3_sp : IsMin 6 r3.spilt := by
  have e : r3.spilt = [8, 6, 10] ∨ r3.spilt = r3.spilt := .inr rfl
  constructor
  · decide +kernel
  · have : ∀ a ∈ r3.spilt, (6 : Int) ≤ a := by decide +kernel
    exact this
theorem r4_sp : IsMin 2 r4.spilt := by
  constructor
  · decide +kernel
  · have : ∀ a ∈ r4.spilt, (2 : Int) ≤ a := by decide +kernel
    exact this
theorem judged_fit {A S y : Addr} {H : Hp} {r : Fr} (h : JudgedAt A S H y r) (e : r.spilt = []) (d : r.dueW = []) : FitAt A H y 2 [] := by
  rcases h with ⟨_, h⟩ | ⟨m, hm, _⟩
  · rw [d] at h
    exact h
  · rw [e] at hm
    exact absurd hm.1 (by simp)
theorem judged_spi {A S y : Addr} {H : Hp} {r : Fr} {m : Int} (h : JudgedAt A S H y r) (e : IsMin m r.spilt) : SpiAt S H y m r.q := by
  rcases h with ⟨z, _⟩ | ⟨m', hm, h⟩
  · rw [z] at e
    exact absurd e.1 (by simp)
  · rw [IsMin.uniq e hm fun _ => Iff.rfl]
    exact h
theorem JudgedAt.keep {A S y : Addr} {H H' : Hp} {r : Fr} (h : JudgedAt A S H y r) (k : ∀ b o, H b = some o → H' b = some o) : JudgedAt A S H' y r := by
  rcases h with ⟨a, h⟩ | ⟨m, hm, h⟩
  · exact .inl ⟨a, h.keep k⟩
  · exact .inr ⟨m, hm, h.keep k⟩
/-- rules made in the three ways of the law -/
structure FlB (P : Program) (w : World) (K : PySem.W.Frag) (mg : Str → Option Value) (base : Heap) (C : Addr) : Prop where
  gC : mg "FillRule" = some (.ref C)
  fs : ∃ (f : Addr) (fd : FuncData) (ds : List Value) (g1 g2 : List Value → List Value → List Value), Mk K C f ∧ FnOk P w K mg base CX0 5 f fd ["self", "times", "plus", "cut_of", "join_of"] (spFillOk C) ∧
    Vals [.int 0, .int 1, .int 2] ds ∧ Binds K fd ["self", "times", "plus", "cut_of", "join_of"] ds ∧
    KBn K fd ["self", "times", "plus", "cut_of", "join_of"] 2 ["cut_of", "join_of"] g2 (fun vs zs => vs ++ ([.int 0] ++ zs)) ∧ KBn K fd ["self", "times", "plus", "cut_of", "join_of"] 2 ["join_of"] g1 (fun vs zs => vs ++ ([.int 0] ++ ([.int 1] ++ zs)))
def DV (A S : Addr) : Eqv := fun x y H => DIns A (fun a b H => ∃ n ws, FitAt A H a n ws ∧ FitAt A H b n ws) x y H ∨ DIns S (fun a b H => ∃ n m, SpiAt S H a n m ∧ SpiAt S H b n m) x y H
theorem mon_DV (A S : Addr) : Mon (DV A S) := Mon.or (mon_ins fun a b H H' e ⟨n, ws, h1, h2⟩ => ⟨n, ws, h1.keep e, h2.keep e⟩) (mon_ins fun a b H H' e ⟨n, m, h1, h2⟩ => ⟨n, m, h1.keep e, h2.keep e⟩)
theorem dv_fit {A S x y : Addr} {H : Hp} {n : Int} {ws : List Int} (h1 : FitAt A H x n ws) (h2 : FitAt A H y n ws) : DV A S (.ref x) (.ref y) H := by
  obtain ⟨dx, a, e1, _⟩ := id h1
  obtain ⟨dy, b, e2, _⟩ := id h2
  exact .inl ⟨x, y, dx, dy, _, _, rfl, rfl, e1, e2, n, ws, h1, h2⟩
theorem dv_spi {A S x y : Addr} {H : Hp} {n m : Int} (h1 : SpiAt S H x n m) (h2 : SpiAt S H y n m) : DV A S (.ref x) (.ref y) H := by
  obtain ⟨dx, e1⟩ := id h1
  obtain ⟨dy, e2⟩ := id h2
  exact .inr ⟨x, y, dx, dy, _, _, rfl, rfl, e1, e2, n, m, h1, h2⟩
theorem eqG_V {X : Cx} {A S CV : Addr} (V : VB X.prog X.w X.K X.mg X.base A S CV) : EqG X 1 (DV A S) := by
  obtain ⟨f, fd, G, b, _, h1, h2⟩ := V.eA
  obtain ⟨f', fd', G', b', _, h1', h2'⟩ := V.eS
  refine EqG.or (eqG_ins (E := E0) (FnOk.less G fun vs H Q E h => ?_) h1 h2 b pass0) (eqG_ins (E := E0) (FnOk.less G' fun vs H Q E h => ?_) h1' h2' b' pass0)
  · obtain ⟨x, y, rfl, ⟨n, ws, a1, a2⟩, k⟩ := h
    exact ⟨x, y, n, ws, rfl, a1, a2, k H Ext.rfl'⟩
  · obtain ⟨x, y, rfl, ⟨n, m, a1, a2⟩, k⟩ := h
    exact ⟨x, y, n, m, rfl, a1, a2, k H Ext.rfl'⟩
abbrev nLaw : List Str := ["_law_script", "_law_pen_here", "_law_turn", "_law_told", "_law_some", "_law_due_here", "_law_made"]
def rules4 : List Fr := [r1, r2, r3, r4]
section
variable {P : Program} {w : World} {K : PySem.W.Frag} {mg : Str → Option Value} {base : Heap}
theorem scLaw : FnScope nLaw ["_law_script"] (defScope sLaw) := ⟨rfl, rfl, rfl, by decide +kernel, rfl, by decide +kernel, by decide +kernel⟩
/-- the last row: four rules and what is due -/
theorem law_cmp {f C A S CV : Addr} {cdv : Value} {A' : Around} {outer : List Env} {s : Shared} {H : Hp} {E : XK} (VV : VB P w K mg base A S CV) (D1 : Df P w K mg base 6 "judge_fill" ["rule"] (spJudge C A S)) (hr : Room 8 (cxOf CX0 P w K mg base nLaw "law" (defScope sLaw) f cdv A' outer s H E).nox.A) :
    ∃ t : TS, PSs (cxOf CX0 P w K mg base nLaw "law" (defScope sLaw) f cdv A' outer s H E).nox ((defBody sLaw).drop 4) t ∧ ∀ (D : Ends) (G : Hp) (l4 l5 x1 x2 x3 x4 y1 y2 y3 y4 : Addr) (v0 v1 v2 v3 v6 : Option V), G l4 = some (.lst [.ref x1, .ref x2, .ref x3, .ref x4]) → G l5 = some (.lst [.ref y1, .ref y2, .ref y3, .ref y4]) →
      FAt C G x1 r1 → FAt C G x2 r2 → FAt C G x3 r3 → FAt C G x4 r4 → FitAt A G y1 2 [] → FitAt A G y2 2 [] → SpiAt S G y3 6 3 → SpiAt S G y4 2 1 → (∀ G', D.rt (.bl true) G') → t D [v0, v1, v2, v3, some (.ref l4), some (.ref l5), v6] G := by
  obtain ⟨fj, fdj, G1, g1, k1, b1⟩ := D1.ex
  have hr2 : Room 2 (cxOf CX0 P w K mg base nLaw "law" (defScope sLaw) f cdv A' outer s H E).nox.A := hr.mono (by decide)
  refine ⟨_, (pss_one (ps_ret (pe_cmpR (r := rEqG (DList (DV A S))) (by exact op_eqG (rcG_list (mon_DV A S) (eqG_V VV)) hr2) (pe_lc (own := [("_law_made", 6)]) (g := gName 6) (tt := tYes) (by rfl) scLaw.nd (pi_list (pv 4)) (blkOk_by (own := [("_law_made", 6)]) (N := nLaw) (sc := defScope sLaw) (by decide +kernel)) (fun _ _ _ _ _ => pg_name (i := 6) scLaw.nd rfl (.inl rfl)) (fun _ _ _ _ _ => pts_nil) (fun _ _ _ _ _ => (pe_call G1 (hr.mono (by decide)) (by rfl) g1 k1 b1 .nil pass0 (pa_cons (pv 6) pa_nil)))) (pv 5) (nomark _)))), ?_⟩
  intro D G l4 l5 x1 x2 x3 x4 y1 y2 y3 y4 v0 v1 v2 v3 v6 h4 h5 f1 f2 f3 f4 g1' g2' g3' g4' fin
  refine ⟨_, rfl, l4, rfl, ⟨_, SqL.of h4⟩, fun L nL => lc_list (K := K) (a := l4) (xs := [.ref x1, .ref x2, .ref x3, .ref x4]) (fun i H' => Same G H' ∧ ∃ zs : List Addr, H' L = some (.lst (zs.map V.ref)) ∧ zs.length = i ∧ ∀ (j : Nat) (z : Addr) (r : Fr), zs[j]? = some z → rules4[j]? = some r → JudgedAt A S H' z r) ⟨same_new nL, [], upd_same, rfl, fun j z r e => by cases e⟩ (fun i H' _ q => SqL.of (q.1 _ _ h4)) (fun i v H' hi h => ?_) (fun H' h => ?_)⟩
  · obtain ⟨sG, zs, hL, len, ju⟩ := h
    obtain ⟨x, r, rfl, hr, ok, fa⟩ : ∃ (x : Addr) (r : Fr), v = .ref x ∧ rules4[i]? = some r ∧ r.ok ∧ FAt C H' x r := by
      have hlt : i < 4 := (List.getElem?_eq_some_iff.mp hi).1
      rcases (show i = 0 ∨ i = 1 ∨ i = 2 ∨ i = 3 by omega) with rfl | rfl | rfl | rfl
      · obtain rfl := Option.some.inj hi; exact ⟨x1, r1, rfl, rfl, r1_ok, f1.keep sG⟩
      · obtain rfl := Option.some.inj hi; exact ⟨x2, r2, rfl, rfl, r2_ok, f2.keep sG⟩
      · obtain rfl := Option.some.inj hi; exact ⟨x3, r3, rfl, rfl, r3_ok, f3.keep sG⟩
      · obtain rfl := Option.some.inj hi; exact ⟨x4, r4, rfl, rfl, r4_ok, f4.keep sG⟩
    refine ⟨rfl, tyes (iteT ⟨_, rfl, x, r, rfl, fa, ok, fun y H2 s2 jy => ⟨_, s2 _ _ hL, ?_, fun b u q => ?_, zs ++ [y], ?_, ?_, ?_⟩⟩)⟩
    · rw [List.length_map, len]
      have hlt : i < 4 := (List.getElem?_eq_some_iff.mp hi).1
      exact Nat.lt_trans hlt (by decide)
    · rw [upd_ne (ne_of_none q nL)]; exact s2 _ _ (sG _ _ q)
    · rw [upd_same, List.map_append]; rfl
    · rw [List.length_append, len]; rfl
    · intro j z r' e er
      have kp : ∀ (b : Addr) (C' dx : Addr) (fs : List (Str × V)), H2 b = some (.ins C' dx fs) → upd H2 L (.lst (zs.map V.ref ++ [.ref y])) b = some (.ins C' dx fs) := fun b C' dx fs q => by
        rw [upd_ne]; · exact q
        intro e2; rw [e2, s2 _ _ hL] at q; cases q
      have kt : ∀ (b : Addr) (xs : List V), H2 b = some (.tup xs) → upd H2 L (.lst (zs.map V.ref ++ [.ref y])) b = some (.tup xs) := fun b xs q => by
        rw [upd_ne]; · exact q
        intro e2; rw [e2, s2 _ _ hL] at q; cases q
      have kj : ∀ (z : Addr) (r : Fr), JudgedAt A S H2 z r → JudgedAt A S (upd H2 L (.lst (zs.map V.ref ++ [.ref y]))) z r := fun z r h => by
        rcases h with ⟨a, dx, b, h1, h2⟩ | ⟨m, hm, dx, h1⟩
        · exact .inl ⟨a, dx, b, kp _ _ _ _ h1, kt _ _ h2⟩
        · exact .inr ⟨m, hm, dx, kp _ _ _ _ h1⟩
      by_cases c : j < zs.length
      · rw [List.getElem?_append_left c] at e
        exact kj _ _ ((ju j z r' e er).keep s2)
      · have jl : j = zs.length := by
          have := (List.getElem?_eq_some_iff.mp e).1
          rw [List.length_append] at this
          have : j < zs.length + 1 := this
          omega
        rw [jl, List.getElem?_append_right (Nat.le_refl _), Nat.sub_self] at e
        cases e
        rw [jl, len, hr] at er
        cases er
        exact kj _ _ jy
  · obtain ⟨sG, zs, hL, len, ju⟩ := h
    obtain ⟨z1, z2, z3, z4, rfl⟩ : ∃ z1 z2 z3 z4, zs = [z1, z2, z3, z4] := by
      match zs, len with
      | [a, b, c, d], _ => exact ⟨a, b, c, d, rfl⟩
    refine ⟨_, rfl, ⟨L, l5, _, _, rfl, rfl, hL, sG _ _ h5, ?_⟩, fun H3 _ => fin H3⟩
    have j1 := judged_fit (ju 0 z1 r1 rfl rfl) r1_sp r1_du
    have j2 := judged_fit (ju 1 z2 r2 rfl rfl) r2_sp r2_du
    have j3 := judged_spi (ju 2 z3 r3 rfl rfl) r3_sp
    have j4 := judged_spi (ju 3 z4 r4 rfl rfl) r4_sp
    exact .cons (dv_fit j1 (g1'.keep sG)) (.cons (dv_fit j2 (g2'.keep sG)) (.cons (dv_spi j3 (g3'.keep sG)) (.cons (dv_spi j4 (g4'.keep sG)) .nil)))
end
end Ev
namespace Ev
open PySem L2 PySem.Spec PyProof.Rows RZ
section
variable {P : Program} {w : World} {K : PySem.W.Frag} {mg : Str → Option Value} {base : Heap}
/-- what is due is made -/
theorem law_due {f C A S CV : Addr} {cdv : Value} {A' : Around} {outer : List Env} {s : Shared} {H : Hp} {E : XK} (VV : VB P w K mg base A S CV) (D1 : Df P w K mg base 6 "judge_fill" ["rule"] (spJudge C A S)) (hr : Room 8 (cxOf CX0 P w K mg base nLaw "law" (defScope sLaw) f cdv A' outer s H E).nox.A) :
    ∃ t : TS, PSs (cxOf CX0 P w K mg base nLaw "law" (defScope sLaw) f cdv A' outer s H E).nox ((defBody sLaw).drop 3) t ∧ ∀ (D : Ends) (G : Hp) (l4 x1 x2 x3 x4 : Addr) (v0 v1 v2 v3 v5 v6 : Option V), G l4 = some (.lst [.ref x1, .ref x2, .ref x3, .ref x4]) →
      FAt C G x1 r1 → FAt C G x2 r2 → FAt C G x3 r3 → FAt C G x4 r4 → (∀ G', D.rt (.bl true) G') → t D [v0, v1, v2, v3, some (.ref l4), v5, v6] G := by
  obtain ⟨gA, gS, ⟨fA, fdA, MA, GA, bA⟩, ⟨fS, fdS, MS, GS, bS⟩⟩ := VV.vm
  obtain ⟨tE, hE, qE⟩ := law_cmp (f := f) (cdv := cdv) (outer := outer) (s := s) (H := H) (E := E) VV D1 hr
  have hr5 : Room 5 (cxOf CX0 P w K mg base nLaw "law" (defScope sLaw) f cdv A' outer s H E).nox.A := hr.mono (by decide)
  refine ⟨_, (pss_cons (ps_set (i := 5) scLaw.nd rfl (.inl rfl) (pe_lst (pa_cons (pe_make MA GA hr5 (by rfl) gA bA .nil pass0 (pa_cons pe_int (pa_cons (pe_tup pa_nil) pa_nil))) (pa_cons (pe_make MA GA hr5 (by rfl) gA bA .nil pass0 (pa_cons pe_int (pa_cons (pe_tup pa_nil) pa_nil))) (pa_cons (pe_make MS GS hr5 (by rfl) gS bS .nil pass0 (pa_cons pe_int (pa_cons pe_int pa_nil))) (pa_cons (pe_make MS GS hr5 (by rfl) gS bS .nil pass0 (pa_cons pe_int (pa_cons pe_int pa_nil))) pa_nil))))))
    hE), ?_⟩
  intro D G l4 x1 x2 x3 x4 v0 v1 v2 v3 v5 v6 h4 f1 f2 f3 f4 fin
  refine ⟨(by show 0 ≤ sizeLine; decide), fun t1 nt1 => ?_⟩
  have s1 : Same G (upd G t1 (.tup [])) := same_new nt1
  have e1 : upd G t1 (.tup []) t1 = some (.tup ([] : List V)) := upd_same
  dsimp only
  generalize upd G t1 (.tup []) = G1 at s1 e1 ⊢
  refine fun y1 d1 ny1 nd1 ne1 => mkr_fit (ws := []) ny1 nd1 ne1 e1 (by decide) fun G2 s2 a1 => ⟨rfl, ?_⟩
  refine ⟨(by show 0 ≤ sizeLine; decide), fun t2 nt2 => ?_⟩
  have s3 : Same G2 (upd G2 t2 (.tup [])) := same_new nt2
  have e2 : upd G2 t2 (.tup []) t2 = some (.tup ([] : List V)) := upd_same
  dsimp only
  generalize upd G2 t2 (.tup []) = G3 at s3 e2 ⊢
  refine fun y2 d2 ny2 nd2 ne2 => mkr_fit (ws := []) ny2 nd2 ne2 e2 (by decide) fun G4 s4 a2 => ⟨rfl, ?_⟩
  refine fun y3 d3 ny3 nd3 ne3 => mkr_spi ny3 nd3 ne3 fun G5 s5 a3 => ⟨rfl, ?_⟩
  refine fun y4 d4 ny4 nd4 ne4 => mkr_spi ny4 nd4 ne4 fun G6 s6 a4 => ⟨rfl, ?_⟩
  refine ⟨(by show 4 ≤ sizeLine; decide), fun l5 n5 => ?_⟩
  have s7 := same_new (o := .lst [.ref y1, .ref y2, .ref y3, .ref y4]) n5
  have h5 : upd G6 l5 (.lst [.ref y1, .ref y2, .ref y3, .ref y4]) l5 = some (.lst [.ref y1, .ref y2, .ref y3, .ref y4]) := upd_same
  generalize upd G6 l5 (.lst [.ref y1, .ref y2, .ref y3, .ref y4]) = G7 at s7 h5 ⊢
  have k4 := (s4.trans (s5.trans (s6.trans s7)))
  have kk := s1.trans (Same.trans s2 (s3.trans k4))
  exact qE D G7 l4 l5 x1 x2 x3 x4 y1 y2 y3 y4 _ _ _ _ _ (kk _ _ h4) h5 (f1.keep kk) (f2.keep kk) (f3.keep kk) (f4.keep kk) (a1.keep (s3.trans k4)) (a2.keep (Same.trans s5 (s6.trans s7))) (a3.keep (Same.trans s6 s7)) (a4.keep s7) fin
/-- four rules are made -/
theorem law_rules {f C A S CV : Addr} {cdv : Value} {A' : Around} {outer : List Env} {s : Shared} {H : Hp} {E : XK} (FB : FlB P w K mg base C) (VV : VB P w K mg base A S CV) (D1 : Df P w K mg base 6 "judge_fill" ["rule"] (spJudge C A S)) (hr : Room 8 (cxOf CX0 P w K mg base nLaw "law" (defScope sLaw) f cdv A' outer s H E).nox.A) :
    ∃ t : TS, PSs (cxOf CX0 P w K mg base nLaw "law" (defScope sLaw) f cdv A' outer s H E).nox ((defBody sLaw).drop 2) t ∧ ∀ (D : Ends) (G : Hp) (v0 v1 v2 v3 v4 v5 v6 : Option V), (∀ G', D.rt (.bl true) G') → t D [v0, v1, v2, v3, v4, v5, v6] G := by
  obtain ⟨gC, fI, fdI, ds, g1, g2, M, GI, rds, b0, b2, b1⟩ := FB
  obtain ⟨tE, hE, qE⟩ := law_due (f := f) (cdv := cdv) (outer := outer) (s := s) (H := H) (E := E) VV D1 hr
  have hr6 : Room 6 (cxOf CX0 P w K mg base nLaw "law" (defScope sLaw) f cdv A' outer s H E).nox.A := hr.mono (by decide)
  refine ⟨_, (pss_cons (ps_set (i := 4) scLaw.nd rfl (.inl rfl) (pe_lst (pa_cons (pe_make M GI hr6 (by rfl) gC b0 rds pass0 (pa_cons (pe_tup (pa_cons pe_int (pa_cons pe_int pa_nil))) pa_nil)) (pa_cons (pe_makeN (n := 1) M GI hr6 (by rfl) gC b2 pass0 (pa_cons (pe_tup (pa_cons pe_int (pa_cons pe_int pa_nil))) pa_nil) (pk_cons pe_int (pk_cons pe_int pk_nil))) (pa_cons (pe_makeN (n := 1) M GI hr6 (by rfl) gC b1 pass0 (pa_cons (pe_tup (pa_cons pe_int (pa_cons pe_int pa_nil))) pa_nil) (pk_cons pe_int pk_nil)) (pa_cons (pe_make M GI hr6 (by rfl) gC b0 rds pass0 (pa_cons (pe_tup (pa_cons pe_int (pa_cons pe_int pa_nil))) pa_nil)) pa_nil))))))
    hE), ?_⟩
  intro D G v0 v1 v2 v3 v4 v5 v6 fin
  refine ⟨(by show 2 ≤ sizeLine; decide), fun t1 nt1 => ?_⟩
  have e1 : upd G t1 (.tup [.int 1, .int 2]) t1 = some (.tup [.int 1, .int 2]) := upd_same
  dsimp only
  generalize upd G t1 (.tup [.int 1, .int 2]) = G1 at e1 ⊢
  refine fun x1 d1 nx1 nd1 ne1 => mk_fill (r := r1) nx1 nd1 e1 r1_ok fun G2 s2 f1 => ⟨rfl, ?_⟩
  refine ⟨(by show 2 ≤ sizeLine; decide), fun t2 nt2 => ?_⟩
  have s3 : Same G2 (upd G2 t2 (.tup [.int 2, .int 3])) := same_new nt2
  have e2 : upd G2 t2 (.tup [.int 2, .int 3]) t2 = some (.tup [.int 2, .int 3]) := upd_same
  dsimp only
  generalize upd G2 t2 (.tup [.int 2, .int 3]) = G3 at s3 e2 ⊢
  refine ⟨rfl, rfl, fun x2 d2 nx2 nd2 ne2 => mk_fill (r := r2) nx2 nd2 e2 r2_ok fun G4 s4 f2 => ⟨rfl, ?_⟩⟩
  refine ⟨(by show 2 ≤ sizeLine; decide), fun t3 nt3 => ?_⟩
  have s5 : Same G4 (upd G4 t3 (.tup [.int 2, .int 3])) := same_new nt3
  have e3 : upd G4 t3 (.tup [.int 2, .int 3]) t3 = some (.tup [.int 2, .int 3]) := upd_same
  dsimp only
  generalize upd G4 t3 (.tup [.int 2, .int 3]) = G5 at s5 e3 ⊢
  refine ⟨rfl, rfl, fun x3 d3 nx3 nd3 ne3 => mk_fill (r := r3) nx3 nd3 e3 r3_ok fun G6 s6 f3 => ⟨rfl, ?_⟩⟩
  refine ⟨(by show 2 ≤ sizeLine; decide), fun t4 nt4 => ?_⟩
  have s7 : Same G6 (upd G6 t4 (.tup [.int 1, .int 1])) := same_new nt4
  have e4 : upd G6 t4 (.tup [.int 1, .int 1]) t4 = some (.tup [.int 1, .int 1]) := upd_same
  dsimp only
  generalize upd G6 t4 (.tup [.int 1, .int 1]) = G7 at s7 e4 ⊢
  refine fun x4 d4 nx4 nd4 ne4 => mk_fill (r := r4) nx4 nd4 e4 r4_ok fun G8 s8 f4 => ⟨rfl, ?_⟩
  refine ⟨(by show 4 ≤ sizeLine; decide), fun l4 n4 => ?_⟩
  have s9 := same_new (o := .lst [.ref x1, .ref x2, .ref x3, .ref x4]) n4
  have h4 : upd G8 l4 (.lst [.ref x1, .ref x2, .ref x3, .ref x4]) l4 = some (.lst [.ref x1, .ref x2, .ref x3, .ref x4]) := upd_same
  generalize upd G8 l4 (.lst [.ref x1, .ref x2, .ref x3, .ref x4]) = G9 at s9 h4 ⊢
  have k3 := s7.trans (Same.trans s8 s9)
  have k2 := s5.trans (Same.trans s6 k3)
  have k1 := s3.trans (Same.trans s4 k2)
  exact qE D G9 l4 x1 x2 x3 x4 _ _ _ _ _ _ h4 (f1.keep k1) (f2.keep k2) (f3.keep k3) (f4.keep s9) fin
theorem ok_law {f C A S CV f9 : Addr} {fd fd9 : FuncData} (F : Fun K "law" "law" sLaw f fd) (T : Blt mg) (FB : FlB P w K mg base C) (VV : VB P w K mg base A S CV) (DJ : Df P w K mg base 6 "judge_fill" ["rule"] (spJudge C A S))
    (D : Df P w K mg base 1 "_law_pen" ["_law_script"] (spPen K)) (D0 : Df P w K mg base 1 "_law_draw" ["_law_pen_here", "_law_many"] spDraw) (D1 : Df P w K mg base 2 "_law_near" ["_law_pen_here"] spLNums) (D2 : Df P w K mg base 2 "_law_numbers" ["_law_pen_here"] spLNums)
    (G9 : FnG P w K mg base 8 f9 fd9 ["_law_told"] spRi) (g9 : mg "_law_right" = some (.ref f9)) (k9 : PySem.W.keepIn K (.ref f9) = true) (b9 : Binds K fd9 ["_law_told"] []) :
    FnG P w K mg base 9 f fd ["_law_script"] (spLaw K) := by
  obtain ⟨fp, fdp, Gp, gp, kp, bp⟩ := D.ex
  obtain ⟨f0, fd0, G0, g0, k0, b0⟩ := D0.ex
  obtain ⟨f1, fd1, G1, g1, k1, b1⟩ := D1.ex
  obtain ⟨f2, fd2, G2, g2, k2, b2⟩ := D2.ex
  refine fng_of F scLaw (fun vs H Q E h => ?_) (fun cdv A' outer s H vs Q E hr gd h => ?_)
  · obtain ⟨a, ns, rfl, _⟩ := h
    rfl
  · obtain ⟨a, ns, rfl, hS, hlen, kk⟩ := h
    have hr1 : Room 1 _ := hr.mono (show 1 ≤ 8 by decide)
    have hr2 : Room 2 _ := hr.mono (show 2 ≤ 8 by decide)
    obtain ⟨tE, hE, qE⟩ := law_rules (f := f) (cdv := cdv) (outer := outer) (s := s) (H := H) (E := E) FB VV DJ hr
    refine ⟨_, (pss_cons (ps_set (i := 1) scLaw.nd rfl (.inl rfl) (pe_call Gp hr1 (by rfl) gp kp bp .nil pass0 (pa_cons (pv 0) pa_nil)))
    (pss_cons (ps_for PassesOwn.never rfl (pi_range1 (by rfl) T.range (pa_cons pe_int pa_nil)) (pg_name (i := 2) scLaw.nd rfl (.inl rfl))
      (pss_cons (ps_set (i := 3) scLaw.nd rfl (.inl rfl) (pe_ifExp (pt_cmpR op_eq (pe_call G0 hr1 (by rfl) g0 k0 b0 .nil pass0 (pa_cons (pv 1) (pa_cons pe_int pa_nil))) pe_int (nomark _)) (pe_call G1 hr2 (by rfl) g1 k1 b1 .nil pass0 (pa_cons (pv 1) pa_nil)) (pe_call G2 hr2 (by rfl) g2 k2 b2 .nil pass0 (pa_cons (pv 1) pa_nil))))
      (pss_one (ps_if (pt_not (pt_val (pe_callG (E := E0) G9 hr gd (by rfl) g9 k9 b9 (pa_cons (pv 3) pa_nil))))
        (pss_one (ps_ret pe_bl)) pss_nil))))
    hE)), ?_⟩
    refine ⟨_, rfl, a, ns, rfl, hS, hlen, fun p L H1 np s1 pn0 => ?_⟩
    refine ⟨4, rfl, by decide, by decide, for_range (n := 4) (fun i σ H2 => (∃ v2 v3 : Option V, σ = [some (.ref a), some (.ref p), v2, v3, none, none, none]) ∧ Pen L H2 p (20 * (i : Int))) ⟨⟨_, _, rfl⟩, pn0.mono (by decide)⟩ (fun i σ H2 hi h => ?_) (fun σ H2 h => ?_)⟩
    · obtain ⟨⟨v2, v3, rfl⟩, pn⟩ := h
      refine ⟨_, rfl, p, L, _, _, rfl, by decide, by decide, by omega, pn, fun d H3 t3 p3 d0 d1 => ⟨rfl, _, rfl, ite2 (fun e => ?_) (fun e => ?_)⟩⟩
      · refine ⟨_, rfl, p, L, _, rfl, by omega, p3, fun l r H4 o nl hl bt pn1 => ?_⟩
        refine ⟨_, rfl, l, r, rfl, hl, o, fun H5 s5 => ⟨_, rfl, iteF ⟨⟨_, _, rfl⟩, (pn1.keep s5).mono (by omega)⟩⟩⟩
      · refine ⟨_, rfl, p, L, _, rfl, by omega, p3, fun l r H4 o nl hl bt pn1 => ?_⟩
        refine ⟨_, rfl, l, r, rfl, hl, o, fun H5 s5 => ⟨_, rfl, iteF ⟨⟨_, _, rfl⟩, (pn1.keep s5).mono (by omega)⟩⟩⟩
    · obtain ⟨⟨v2, v3, rfl⟩, pn⟩ := h
      exact qE _ H2 _ _ _ _ _ _ _ fun G' => kk G'
end
end Ev
namespace Ev
open PySem L2 PySem.Spec PyProof.Rows RZ
structure FTwo (K : PySem.W.Frag) (C : Addr) : Prop where
  cl : FCls K C
  it : InsT K C
theorem tyF {K : PySem.W.Frag} {C : Addr} {H : Hp} {x dx : Addr} {fs : List (Str × V)} (R : FTwo K C) (h : H x = some (.ins C dx fs)) : TyX K H (.ref x) (.ref C) := .base (.ins h R.cl.cl R.it.ha R.it.hn R.it.htk R.it.hm)
def spNeedF (K : PySem.W.Frag) (C B N : Addr) : Sp := fun vs H Q E => ∃ rv : V, vs = [rv] ∧ ((∃ t : Value, TyX K H rv t ∧ PySem.W.kitOne K t (.ref C) = some false ∧ ∀ g : Prop, OutK B N H E g (.rule "rule")) ∨ (∃ (x : Addr) (r : Fr), rv = .ref x ∧ FAt C H x r ∧ Q .non H))
section
variable {P : Program} {w : World} {K : PySem.W.Frag} {mg : Str → Option Value} {base : Heap}
theorem scNeedF : FnScope ["value"] ["value"] (defScope sNeedFillRule) := ⟨rfl, rfl, rfl, by decide +kernel, rfl, by decide +kernel, by decide +kernel⟩
theorem ok_needF {f C B N : Addr} {fd : FuncData} (F : Fun K "need_fill_rule" "need_fill_rule" sNeedFillRule f fd) (T : Blt mg) (R : FTwo K C) (gC : mg "FillRule" = some (.ref C)) (EB : ErrC P w K mg base "BadRule" "part" B) : FnOk P w K mg base (L2.CX P w) 5 f fd ["value"] (spNeedF K C B N) := by
  obtain ⟨TC, gB, fi, fdi, iC, tI, GI, bI⟩ := id EB
  refine F.okX scNeedF (fun vs H Q E h => ?_) (fun cdv A outer s H vs Q E hr h => ?_)
  · obtain ⟨rv, rfl, _⟩ := h
    rfl
  · obtain ⟨rv, rfl, h⟩ := h
    refine ⟨_, (pss_one (ps_if (pt_not (pt_val (pe_callB call_isi (by rfl) T.isi (by decide +kernel) (pa_cons (pv 0) (pa_cons (pe_glob (v := .ref C) rfl gC rfl) pa_nil)))))
      (pss_one (ps_raise rfl (takes_of rfl rfl rfl rfl) (pmk_oex TC iC tI GI (hr.mono (by decide)) bI .nil pass0 (by rfl) gB (pa_cons pe_str pa_nil)))) pss_nil)), ?_⟩
    rcases h with ⟨t, ty, kt, ho⟩ | ⟨x, r, rfl, ⟨dx, a, hx, ha⟩, k⟩
    · refine ⟨_, rfl, _, _, _, _, false, rfl, .own C, ty, kt, _, rfl, ?_⟩
      exact iteT ⟨(by show 1 ≤ 1000; decide), fun a' na => raised (flat_str "rule") (ho True H (Same.refl H)) a' na⟩
    · exact ⟨_, rfl, _, _, _, _, true, rfl, .own C, tyF R hx, kit_self, _, rfl, iteF k⟩
theorem need_ok {K : PySem.W.Frag} {C B N : Addr} {vs : List V} {H : Hp} {Q : VK} {E E' : XK} (h : spNeedOk C vs H Q E) : spNeedF K C B N vs H Q E' := by
  obtain ⟨x, r, rfl, fa, q⟩ := h
  exact ⟨.ref x, rfl, .inr ⟨x, r, rfl, fa, q⟩⟩
end
end Ev
namespace Ev
open PySem L2 PySem.Spec PyProof.Rows
theorem kit_clsB {K : PySem.W.Frag} {t : Value} {C : Addr} {b : Bool} (h1 : PySem.W.isClsIn K C = true) (h2 : PySem.W.typeIn K (.ref C) = some (.type "type")) (h3 : PySem.W.subIn K t (.ref C) = some b) : PySem.W.kitCls K t (.ref C) = some b := by
  have h1 : (PySem.W.clsIn K C).isSome = true := h1
  unfold PySem.W.kitCls
  simp only [h1, h2, h3]
  cases b <;> decide
theorem kit_own {K : PySem.W.Frag} {t : Value} {C : Addr} (h1 : PySem.W.isClsIn K C = true) (h2 : PySem.W.typeIn K (.ref C) = some (.type "type")) (h3 : PySem.W.subIn K t (.ref C) = some true) : PySem.W.kitOne K t (.ref C) = some true := by
  unfold PySem.W.kitOne
  split
  · rfl
  · exact kit_clsB h1 h2 h3
theorem fnr_of {P : Program} {w : World} {K : PySem.W.Frag} {mg : Str → Option Value} {base : Heap} {CX : CXT} {k : Nat} {f : Addr} {fd : FuncData} {ps : List Str} {sp : Sp} (F : FnOk P w K mg base CX k f fd ps sp) (b : Binds K fd ps []) : FnR P w K mg base CX k f sp := by
  intro A above s H us vs Q E room env rv hs
  have hl : us.length = ps.length := rv.length.symm.trans (F.len _ _ _ _ hs)
  have bt := b s us (env.mod.kin.keeps fun b o e => (env.bs b o e).1) (by rw [List.append_nil]; exact hl)
  rw [List.append_nil] at bt
  exact F.run A above s H ⟨us, []⟩ us vs Q E room env bt rv hs
theorem kb_one {K : PySem.W.Frag} {x qual y : Str} {st : Stmt} {f : Addr} {fd : FuncData} (F : Fun K x qual st f fd)
    (h : ∀ (kV doc pm : Value) (an : Option Addr) (cdv ct b : Value), bindArgs (PySem.W.fnOf x qual (defArgs st) (defBody st) (defScope st) .none kV doc pm an cdv ct) ⟨[], ([y] : List Str).zip [b]⟩ = pure (([y] : List Str).zip [b])) : KBinds K fd [y] [y] g0 g0 := by
  obtain ⟨oc, od, kV, doc, pm, an, cdv, ct, osl, rfl, lk, hcd⟩ := F.ex
  refine ⟨fun s us ws _ hl => ?_, fun rv rz => ?_⟩
  · match us, ws, hl with
    | [], [b], _ => exact .of_eq (h _ _ _ _ _ _ _)
    | _ :: _, _, hl => cases hl
  · cases rv with
    | nil => exact rz
    | cons _ _ => exact .nil
theorem sqT_K {K : PySem.W.Frag} {H : Hp} {a : Addr} {od : Option Addr} {us : List Value} {n : Nat} {sl : Array (Option Value)} {xs : List V} (h : K.lookup a = some ⟨.type "tuple", od, .seq us.toArray n, sl⟩) (hl : xs.length ≤ 1000) (r : Vals xs us) : SqT K H a xs := by
  have hl2 : us.length ≤ 1000 := by rw [← r.length]; exact hl
  exact .inr ⟨_, us.toArray, n, h, rfl, rfl, by rw [List.size_toArray]; exact Nat.le_trans hl2 (by decide), by simpa using r⟩
set_option maxHeartbeats 4000000 in
theorem all_mk {l : PySem.W.OpenLaw} {w : World} {K : PySem.W.Frag} {h : Heap} {mg : Str → Option Value} {f0 f1 f2 f3 f4 f5 f6 f7 f8 f9 f10 f11 f12 f13 f14 f15 f16 f17 f18 f19 f20 f21 f22 f23 f24 C A S CV T50 KD50 f50 f51 f52 f53 f54 f55 f56 BR f61 TP DB D1 D2 D3 fa : Addr} {od0 an0 od1 an1 od2 an2 od3 an3 od4 an4 od5 an5 od6 an6 od7 an7 od8 an8 od9 an9 od10 an10 od11 an11 od12 an12 od13 an13 od14 an14 od15 an15 od16 an16 od17 an17 od18 an18 od19 an19 od20 an20 od21 an21 od22 an22 od23 an23 od24 an24 td50 od50 an50 od51 an51 od52 an52 od53 an53 od54 an54 od55 an55 od56 an56 od61 an61 odTP odD1 odD2 odD3 : Option Addr} {sl0 sl1 sl2 sl3 sl4 sl5 sl6 sl7 sl8 sl9 sl10 sl11 sl12 sl13 sl14 sl15 sl16 sl17 sl18 sl19 sl20 sl21 sl22 sl23 sl24 ts50 sl50 sl51 sl52 sl53 sl54 sl55 sl56 sl61 slTP slD1 slD2 slD3 : Array (Option Value)} {oc0 dc0 pm0 cd0 ct0 kV0 oc1 dc1 pm1 cd1 ct1 kV1 oc2 dc2 pm2 cd2 ct2 kV2 oc3 dc3 pm3 cd3 ct3 kV3 oc4 dc4 pm4 cd4 ct4 kV4 oc5 dc5 pm5 cd5 ct5 kV5 oc6 dc6 pm6 cd6 ct6 kV6 oc7 dc7 pm7 cd7 ct7 kV7 oc8 dc8 pm8 cd8 ct8 kV8 oc9 dc9 pm9 cd9 ct9 kV9 oc10 dc10 pm10 cd10 ct10 kV10 oc11 dc11 pm11 cd11 ct11 kV11 oc12 dc12 pm12 cd12 ct12 kV12 oc13 dc13 pm13 cd13 ct13 kV13 oc14 dc14 pm14 cd14 ct14 kV14 oc15 dc15 pm15 cd15 ct15 kV15 oc16 dc16 pm16 cd16 ct16 kV16 oc17 dc17 pm17 cd17 ct17 kV17 oc18 dc18 pm18 cd18 ct18 kV18 oc19 dc19 pm19 cd19 ct19 kV19 oc20 dc20 pm20 cd20 ct20 kV20 oc21 dc21 pm21 cd21 ct21 kV21 oc22 dc22 pm22 cd22 ct22 kV22 oc23 dc23 pm23 cd23 ct23 kV23 oc24 dc24 pm24 cd24 ct24 kV24 tc50 oc50 dc50 pm50 cd50 ct50 oc51 dc51 pm51 cd51 ct51 kV51 oc52 dc52 pm52 cd52 ct52 kV52 oc53 dc53 pm53 cd53 ct53 kV53 oc54 dc54 pm54 cd54 ct54 kV54 oc55 dc55 pm55 cd55 ct55 kV55 oc56 dc56 pm56 cd56 ct56 kV56 oc61 dc61 pm61 cd61 ct61 kV61 : Value} {tt500 tk500 tk501 tgT tgL uTP0 uTP1 uTP2 uTP3 tkDB0 tkDB1 tkDB2 uD10 uD11 uD20 uD21 uD30 uD31 : Tok} {tn50 nTP nDB nD1 nD2 nD3 : Nat} {hDB0 hDB1 hDB2 : Int} {nmBR qBR nsBR bsBR bmBR snBR subBR abBR colBR ddBR k0BR k1BR k2BR k3BR k5BR : _} (X : K.In h) (G : h.Ns mainGlobals mg) (hfa : mg "law" = some (.ref fa))
    (a0 : PySem.W.nsIn K mainGlobals "is_integer" = some (some (.ref f0)))
    (l0 : K.lookup f0 = some ⟨oc0, od0, .func (PySem.W.fnOf "is_integer" "is_integer" (defArgs sIsInt) (defBody sIsInt) (defScope sIsInt) .none kV0 dc0 pm0 an0 cd0 ct0), sl0⟩)
    (c0 : PySem.W.codeIn K cd0 "is_integer" = true)
    (k0 : PySem.W.keepIn K (.ref f0) = true)
    (a1 : PySem.W.nsIn K mainGlobals "is_within" = some (some (.ref f1)))
    (l1 : K.lookup f1 = some ⟨oc1, od1, .func (PySem.W.fnOf "is_within" "is_within" (defArgs sWithin) (defBody sWithin) (defScope sWithin) .none kV1 dc1 pm1 an1 cd1 ct1), sl1⟩)
    (c1 : PySem.W.codeIn K cd1 "is_within" = true)
    (k1 : PySem.W.keepIn K (.ref f1) = true)
    (a2 : PySem.W.nsIn K mainGlobals "is_pair" = some (some (.ref f2)))
    (l2 : K.lookup f2 = some ⟨oc2, od2, .func (PySem.W.fnOf "is_pair" "is_pair" (defArgs sPair) (defBody sPair) (defScope sPair) .none kV2 dc2 pm2 an2 cd2 ct2), sl2⟩)
    (c2 : PySem.W.codeIn K cd2 "is_pair" = true)
    (k2 : PySem.W.keepIn K (.ref f2) = true)
    (a3 : PySem.W.nsIn K mainGlobals "can_be" = some (some (.ref f3)))
    (l3 : K.lookup f3 = some ⟨oc3, od3, .func (PySem.W.fnOf "can_be" "can_be" (defArgs sCanBe) (defBody sCanBe) (defScope sCanBe) .none kV3 dc3 pm3 an3 cd3 ct3), sl3⟩)
    (c3 : PySem.W.codeIn K cd3 "can_be" = true)
    (k3 : PySem.W.keepIn K (.ref f3) = true)
    (a4 : PySem.W.nsIn K mainGlobals "least_of" = some (some (.ref f4)))
    (l4 : K.lookup f4 = some ⟨oc4, od4, .func (PySem.W.fnOf "least_of" "least_of" (defArgs sLeastOf) (defBody sLeastOf) (defScope sLeastOf) .none kV4 dc4 pm4 an4 cd4 ct4), sl4⟩)
    (c4 : PySem.W.codeIn K cd4 "least_of" = true)
    (k4 : PySem.W.keepIn K (.ref f4) = true)
    (a5 : PySem.W.nsIn K mainGlobals "crucial_of" = some (some (.ref f5)))
    (l5 : K.lookup f5 = some ⟨oc5, od5, .func (PySem.W.fnOf "crucial_of" "crucial_of" (defArgs sCrucialOf) (defBody sCrucialOf) (defScope sCrucialOf) .none kV5 dc5 pm5 an5 cd5 ct5), sl5⟩)
    (c5 : PySem.W.codeIn K cd5 "crucial_of" = true)
    (k5 : PySem.W.keepIn K (.ref f5) = true)
    (a6 : PySem.W.nsIn K mainGlobals "need_fill_rule" = some (some (.ref f6)))
    (l6 : K.lookup f6 = some ⟨oc6, od6, .func (PySem.W.fnOf "need_fill_rule" "need_fill_rule" (defArgs sNeedFillRule) (defBody sNeedFillRule) (defScope sNeedFillRule) .none kV6 dc6 pm6 an6 cd6 ct6), sl6⟩)
    (c6 : PySem.W.codeIn K cd6 "need_fill_rule" = true)
    (k6 : PySem.W.keepIn K (.ref f6) = true)
    (a7 : PySem.W.nsIn K mainGlobals "right_span" = some (some (.ref f7)))
    (l7 : K.lookup f7 = some ⟨oc7, od7, .func (PySem.W.fnOf "right_span" "right_span" (defArgs sRightSpan) (defBody sRightSpan) (defScope sRightSpan) .none kV7 dc7 pm7 an7 cd7 ct7), sl7⟩)
    (c7 : PySem.W.codeIn K cd7 "right_span" = true)
    (k7 : PySem.W.keepIn K (.ref f7) = true)
    (a8 : PySem.W.nsIn K mainGlobals "right_spans" = some (some (.ref f8)))
    (l8 : K.lookup f8 = some ⟨oc8, od8, .func (PySem.W.fnOf "right_spans" "right_spans" (defArgs sRightSpans) (defBody sRightSpans) (defScope sRightSpans) .none kV8 dc8 pm8 an8 cd8 ct8), sl8⟩)
    (c8 : PySem.W.codeIn K cd8 "right_spans" = true)
    (k8 : PySem.W.keepIn K (.ref f8) = true)
    (a9 : PySem.W.nsIn K mainGlobals "judge_fill" = some (some (.ref f9)))
    (l9 : K.lookup f9 = some ⟨oc9, od9, .func (PySem.W.fnOf "judge_fill" "judge_fill" (defArgs sJudgeFill) (defBody sJudgeFill) (defScope sJudgeFill) .none kV9 dc9 pm9 an9 cd9 ct9), sl9⟩)
    (c9 : PySem.W.codeIn K cd9 "judge_fill" = true)
    (k9 : PySem.W.keepIn K (.ref f9) = true)
    (a10 : PySem.W.nsIn K mainGlobals "kept" = some (some (.ref f10)))
    (l10 : K.lookup f10 = some ⟨oc10, od10, .func (PySem.W.fnOf "kept" "kept" (defArgs sKept) (defBody sKept) (defScope sKept) .none kV10 dc10 pm10 an10 cd10 ct10), sl10⟩)
    (c10 : PySem.W.codeIn K cd10 "kept" = true)
    (k10 : PySem.W.keepIn K (.ref f10) = true)
    (a11 : PySem.W.nsIn K mainGlobals "parts_of" = some (some (.ref f11)))
    (l11 : K.lookup f11 = some ⟨oc11, od11, .func (PySem.W.fnOf "parts_of" "parts_of" (defArgs sParts) (defBody sParts) (defScope sParts) .none kV11 dc11 pm11 an11 cd11 ct11), sl11⟩)
    (c11 : PySem.W.codeIn K cd11 "parts_of" = true)
    (k11 : PySem.W.keepIn K (.ref f11) = true)
    (a12 : PySem.W.nsIn K mainGlobals "is_flat" = some (some (.ref f12)))
    (l12 : K.lookup f12 = some ⟨oc12, od12, .func (PySem.W.fnOf "is_flat" "is_flat" (defArgs sFlat) (defBody sFlat) (defScope sFlat) .none kV12 dc12 pm12 an12 cd12 ct12), sl12⟩)
    (c12 : PySem.W.codeIn K cd12 "is_flat" = true)
    (k12 : PySem.W.keepIn K (.ref f12) = true)
    (a13 : PySem.W.nsIn K mainGlobals "copied_deep" = some (some (.ref f13)))
    (l13 : K.lookup f13 = some ⟨oc13, od13, .func (PySem.W.fnOf "copied_deep" "copied_deep" (defArgs sCopied) (defBody sCopied) (defScope sCopied) .none kV13 dc13 pm13 an13 cd13 ct13), sl13⟩)
    (c13 : PySem.W.codeIn K cd13 "copied_deep" = true)
    (k13 : PySem.W.keepIn K (.ref f13) = true)
    (a14 : PySem.W.nsIn K mainGlobals "rebuilt" = some (some (.ref f14)))
    (l14 : K.lookup f14 = some ⟨oc14, od14, .func (PySem.W.fnOf "rebuilt" "rebuilt" (defArgs sRebuilt) (defBody sRebuilt) (defScope sRebuilt) .none kV14 dc14 pm14 an14 cd14 ct14), sl14⟩)
    (c14 : PySem.W.codeIn K cd14 "rebuilt" = true)
    (k14 : PySem.W.keepIn K (.ref f14) = true)
    (a15 : PySem.W.nsIn K mainGlobals "_law_pen" = some (some (.ref f15)))
    (l15 : K.lookup f15 = some ⟨oc15, od15, .func (PySem.W.fnOf "_law_pen" "_law_pen" (defArgs sPen) (defBody sPen) (defScope sPen) .none kV15 dc15 pm15 an15 cd15 ct15), sl15⟩)
    (c15 : PySem.W.codeIn K cd15 "_law_pen" = true)
    (k15 : PySem.W.keepIn K (.ref f15) = true)
    (a16 : PySem.W.nsIn K mainGlobals "_law_draw" = some (some (.ref f16)))
    (l16 : K.lookup f16 = some ⟨oc16, od16, .func (PySem.W.fnOf "_law_draw" "_law_draw" (defArgs sDraw) (defBody sDraw) (defScope sDraw) .none kV16 dc16 pm16 an16 cd16 ct16), sl16⟩)
    (c16 : PySem.W.codeIn K cd16 "_law_draw" = true)
    (k16 : PySem.W.keepIn K (.ref f16) = true)
    (a17 : PySem.W.nsIn K mainGlobals "_law_numbers" = some (some (.ref f17)))
    (l17 : K.lookup f17 = some ⟨oc17, od17, .func (PySem.W.fnOf "_law_numbers" "_law_numbers" (defArgs sLNumbers) (defBody sLNumbers) (defScope sLNumbers) .none kV17 dc17 pm17 an17 cd17 ct17), sl17⟩)
    (c17 : PySem.W.codeIn K cd17 "_law_numbers" = true)
    (k17 : PySem.W.keepIn K (.ref f17) = true)
    (a18 : PySem.W.nsIn K mainGlobals "_law_rule" = some (some (.ref f18)))
    (l18 : K.lookup f18 = some ⟨oc18, od18, .func (PySem.W.fnOf "_law_rule" "_law_rule" (defArgs sLRule) (defBody sLRule) (defScope sLRule) .none kV18 dc18 pm18 an18 cd18 ct18), sl18⟩)
    (c18 : PySem.W.codeIn K cd18 "_law_rule" = true)
    (k18 : PySem.W.keepIn K (.ref f18) = true)
    (a19 : PySem.W.nsIn K mainGlobals "_law_least" = some (some (.ref f19)))
    (l19 : K.lookup f19 = some ⟨oc19, od19, .func (PySem.W.fnOf "_law_least" "_law_least" (defArgs sLLeast) (defBody sLLeast) (defScope sLLeast) .none kV19 dc19 pm19 an19 cd19 ct19), sl19⟩)
    (c19 : PySem.W.codeIn K cd19 "_law_least" = true)
    (k19 : PySem.W.keepIn K (.ref f19) = true)
    (a20 : PySem.W.nsIn K mainGlobals "_law_is_right" = some (some (.ref f20)))
    (l20 : K.lookup f20 = some ⟨oc20, od20, .func (PySem.W.fnOf "_law_is_right" "_law_is_right" (defArgs sLIsRight) (defBody sLIsRight) (defScope sLIsRight) .none kV20 dc20 pm20 an20 cd20 ct20), sl20⟩)
    (c20 : PySem.W.codeIn K cd20 "_law_is_right" = true)
    (k20 : PySem.W.keepIn K (.ref f20) = true)
    (a21 : PySem.W.nsIn K mainGlobals "_law_near" = some (some (.ref f21)))
    (l21 : K.lookup f21 = some ⟨oc21, od21, .func (PySem.W.fnOf "_law_near" "_law_near" (defArgs sLNear) (defBody sLNear) (defScope sLNear) .none kV21 dc21 pm21 an21 cd21 ct21), sl21⟩)
    (c21 : PySem.W.codeIn K cd21 "_law_near" = true)
    (k21 : PySem.W.keepIn K (.ref f21) = true)
    (a22 : PySem.W.nsIn K mainGlobals "_law_due" = some (some (.ref f22)))
    (l22 : K.lookup f22 = some ⟨oc22, od22, .func (PySem.W.fnOf "_law_due" "_law_due" (defArgs sLDue) (defBody sLDue) (defScope sLDue) .none kV22 dc22 pm22 an22 cd22 ct22), sl22⟩)
    (c22 : PySem.W.codeIn K cd22 "_law_due" = true)
    (k22 : PySem.W.keepIn K (.ref f22) = true)
    (a23 : PySem.W.nsIn K mainGlobals "_law_right" = some (some (.ref f23)))
    (l23 : K.lookup f23 = some ⟨oc23, od23, .func (PySem.W.fnOf "_law_right" "_law_right" (defArgs sLRight) (defBody sLRight) (defScope sLRight) .none kV23 dc23 pm23 an23 cd23 ct23), sl23⟩)
    (c23 : PySem.W.codeIn K cd23 "_law_right" = true)
    (k23 : PySem.W.keepIn K (.ref f23) = true)
    (a24 : PySem.W.nsIn K mainGlobals "law" = some (some (.ref f24)))
    (l24 : K.lookup f24 = some ⟨oc24, od24, .func (PySem.W.fnOf "law" "law" (defArgs sLaw) (defBody sLaw) (defScope sLaw) .none kV24 dc24 pm24 an24 cd24 ct24), sl24⟩)
    (c24 : PySem.W.codeIn K cd24 "law" = true)
    (k24 : PySem.W.keepIn K (.ref f24) = true)
    (aC : PySem.W.nsIn K mainGlobals "FillRule" = some (some (.ref C)))
    (pgC : PySem.W.plainGet K C Str.empty = true)
    (hdC : PySem.W.hasDictIn K C = true)
    (poC : PySem.W.plainOver K C = true)
    (saC : PySem.W.findIn K (.ref C) "__setattr__" = some (some (.builtin "object.__setattr__")))
    (mkC : PySem.W.makesIn K C = true)
    (kcC : PySem.W.keepIn K (.ref C) = true)
    (n0C : PySem.W.findIn K (.ref C) "times" = some none)
    (n1C : PySem.W.findIn K (.ref C) "plus" = some none)
    (n2C : PySem.W.findIn K (.ref C) "cut_of" = some none)
    (n3C : PySem.W.findIn K (.ref C) "join_of" = some none)
    (n4C : PySem.W.findIn K (.ref C) "width" = some none)
    (aA : PySem.W.nsIn K mainGlobals "Fits" = some (some (.ref A)))
    (pgA : PySem.W.plainGet K A Str.empty = true)
    (hdA : PySem.W.hasDictIn K A = true)
    (poA : PySem.W.plainOver K A = true)
    (saA : PySem.W.findIn K (.ref A) "__setattr__" = some (some (.builtin "object.__setattr__")))
    (mkA : PySem.W.makesIn K A = true)
    (kcA : PySem.W.keepIn K (.ref A) = true)
    (n0A : PySem.W.findIn K (.ref A) "size" = some none)
    (n1A : PySem.W.findIn K (.ref A) "wrong" = some none)
    (aS : PySem.W.nsIn K mainGlobals "Spills" = some (some (.ref S)))
    (pgS : PySem.W.plainGet K S Str.empty = true)
    (hdS : PySem.W.hasDictIn K S = true)
    (poS : PySem.W.plainOver K S = true)
    (saS : PySem.W.findIn K (.ref S) "__setattr__" = some (some (.builtin "object.__setattr__")))
    (mkS : PySem.W.makesIn K S = true)
    (kcS : PySem.W.keepIn K (.ref S) = true)
    (n0S : PySem.W.findIn K (.ref S) "size" = some none)
    (n1S : PySem.W.findIn K (.ref S) "step" = some none)
    (hcC : PySem.W.findIn K (.ref C) "__class__" = some (some (.builtin "object.__class__")))
    (moC : PySem.W.mroIn K C (.type "object") = some true)
    (hcA : PySem.W.findIn K (.ref A) "__class__" = some (some (.builtin "object.__class__")))
    (moA : PySem.W.mroIn K A (.type "object") = some true)
    (hcS : PySem.W.findIn K (.ref S) "__class__" = some (some (.builtin "object.__class__")))
    (moS : PySem.W.mroIn K S (.type "object") = some true)
    (aCV : PySem.W.nsIn K mainGlobals "Verdict" = some (some (.ref CV)))
    (icC : PySem.W.isClsIn K C = true)
    (ttC : PySem.W.typeIn K (.ref C) = some (.type "type"))
    (icA : PySem.W.isClsIn K A = true)
    (ttA : PySem.W.typeIn K (.ref A) = some (.type "type"))
    (icS : PySem.W.isClsIn K S = true)
    (ttS : PySem.W.typeIn K (.ref S) = some (.type "type"))
    (icCV : PySem.W.isClsIn K CV = true)
    (ttCV : PySem.W.typeIn K (.ref CV) = some (.type "type"))
    (neA : PySem.W.findIn K (.ref A) "__ne__" = some (some (.builtin "object.__ne__")))
    (svA : PySem.W.subIn K (.ref A) (.ref CV) = some true)
    (neS : PySem.W.findIn K (.ref S) "__ne__" = some (some (.builtin "object.__ne__")))
    (svS : PySem.W.subIn K (.ref S) (.ref CV) = some true)
    (ikn : PySem.W.specialIn K (.builtin "object.__class__") "__get__" = some (some (.builtin "getset_descriptor.__get__")))
    (ikt : PySem.W.takesIn K (.builtin "object.__class__") = some true)
    (m50 : PySem.W.findIn K (.ref C) "__init__" = some (some (.ref f50)))
    (i50 : PySem.W.isFn K (.ref f50) = true)
    (l50 : K.lookup f50 = some ⟨oc50, od50, .func (PySem.W.fnOf "__init__" "FillRule.__init__" (defArgs sFillRule_init) (defBody sFillRule_init) (defScope sFillRule_init) (.ref T50) (.ref KD50) dc50 pm50 an50 cd50 ct50), sl50⟩)
    (c50 : PySem.W.codeIn K cd50 "FillRule.__init__" = true)
    (k50 : PySem.W.keepIn K (.ref f50) = true)
    (t50 : K.lookup T50 = some ⟨tc50, td50, .seq #[Value.int 0 tt500] tn50, ts50⟩)
    (kd500 : PySem.W.nsIn K KD50 "cut_of" = some (some (.int 1 tk500)))
    (kd501 : PySem.W.nsIn K KD50 "join_of" = some (some (.int 2 tk501)))
    (m51 : PySem.W.findIn K (.ref A) "__init__" = some (some (.ref f51)))
    (i51 : PySem.W.isFn K (.ref f51) = true)
    (l51 : K.lookup f51 = some ⟨oc51, od51, .func (PySem.W.fnOf "__init__" "Fits.__init__" (defArgs sFits_init) (defBody sFits_init) (defScope sFits_init) .none kV51 dc51 pm51 an51 cd51 ct51), sl51⟩)
    (c51 : PySem.W.codeIn K cd51 "Fits.__init__" = true)
    (k51 : PySem.W.keepIn K (.ref f51) = true)
    (m52 : PySem.W.findIn K (.ref A) "__eq__" = some (some (.ref f52)))
    (i52 : PySem.W.isFn K (.ref f52) = true)
    (l52 : K.lookup f52 = some ⟨oc52, od52, .func (PySem.W.fnOf "__eq__" "Fits.__eq__" (defArgs sFits_eq) (defBody sFits_eq) (defScope sFits_eq) .none kV52 dc52 pm52 an52 cd52 ct52), sl52⟩)
    (c52 : PySem.W.codeIn K cd52 "Fits.__eq__" = true)
    (k52 : PySem.W.keepIn K (.ref f52) = true)
    (m53 : PySem.W.findIn K (.ref A) "__bool__" = some (some (.ref f53)))
    (i53 : PySem.W.isFn K (.ref f53) = true)
    (l53 : K.lookup f53 = some ⟨oc53, od53, .func (PySem.W.fnOf "__bool__" "Fits.__bool__" (defArgs sFits_bool) (defBody sFits_bool) (defScope sFits_bool) .none kV53 dc53 pm53 an53 cd53 ct53), sl53⟩)
    (c53 : PySem.W.codeIn K cd53 "Fits.__bool__" = true)
    (k53 : PySem.W.keepIn K (.ref f53) = true)
    (m54 : PySem.W.findIn K (.ref S) "__init__" = some (some (.ref f54)))
    (i54 : PySem.W.isFn K (.ref f54) = true)
    (l54 : K.lookup f54 = some ⟨oc54, od54, .func (PySem.W.fnOf "__init__" "Spills.__init__" (defArgs sSpills_init) (defBody sSpills_init) (defScope sSpills_init) .none kV54 dc54 pm54 an54 cd54 ct54), sl54⟩)
    (c54 : PySem.W.codeIn K cd54 "Spills.__init__" = true)
    (k54 : PySem.W.keepIn K (.ref f54) = true)
    (m55 : PySem.W.findIn K (.ref S) "__eq__" = some (some (.ref f55)))
    (i55 : PySem.W.isFn K (.ref f55) = true)
    (l55 : K.lookup f55 = some ⟨oc55, od55, .func (PySem.W.fnOf "__eq__" "Spills.__eq__" (defArgs sSpills_eq) (defBody sSpills_eq) (defScope sSpills_eq) .none kV55 dc55 pm55 an55 cd55 ct55), sl55⟩)
    (c55 : PySem.W.codeIn K cd55 "Spills.__eq__" = true)
    (k55 : PySem.W.keepIn K (.ref f55) = true)
    (m56 : PySem.W.findIn K (.ref S) "__bool__" = some (some (.ref f56)))
    (i56 : PySem.W.isFn K (.ref f56) = true)
    (l56 : K.lookup f56 = some ⟨oc56, od56, .func (PySem.W.fnOf "__bool__" "Spills.__bool__" (defArgs sSpills_bool) (defBody sSpills_bool) (defScope sSpills_bool) .none kV56 dc56 pm56 an56 cd56 ct56), sl56⟩)
    (c56 : PySem.W.codeIn K cd56 "Spills.__bool__" = true)
    (k56 : PySem.W.keepIn K (.ref f56) = true)
    (aBR : PySem.W.nsIn K mainGlobals "BadRule" = some (some (.ref BR)))
    (icBR : PySem.W.isClsIn K BR = true)
    (ttBR : PySem.W.typeIn K (.ref BR) = some (.type "type"))
    (gaBR : PySem.W.findIn K (.ref BR) "__getattribute__" = some (some (.builtin "BaseException.__getattribute__")))
    (ggBR : PySem.W.findIn K (.ref BR) "__getattr__" = some none)
    (hdBR : PySem.W.hasDictIn K BR = true)
    (hcBR : PySem.W.findIn K (.ref BR) "__class__" = some (some (.builtin "object.__class__")))
    (moBR : PySem.W.mroIn K BR (.type "object") = some true)
    (saBR : PySem.W.findIn K (.ref BR) "__setattr__" = some (some (.builtin "object.__setattr__")))
    (exBR : PySem.W.subIn K (.ref BR) (.type "BaseException") = some true)
    (keBR : PySem.W.keepIn K (.ref BR) = true)
    (vEBR : PySem.W.subIn K (.ref BR) (.type "ValueError") = some true)
    (sSBR : PySem.W.subIn K (.ref BR) (.ref BR) = some true)
    (no0BR : PySem.W.findIn K (.ref BR) "part" = some none)
    (lxBR : K.lookup BR = some (excClassObj nmBR qBR BR nsBR bsBR bmBR true snBR subBR abBR colBR ddBR k0BR k1BR k2BR k3BR k5BR "ValueError.__new__"))
    (rxBR : PySem.HandSPX.refsVE bmBR = true)
    (m61 : PySem.W.findIn K (.ref BR) "__init__" = some (some (.ref f61)))
    (l61 : K.lookup f61 = some ⟨oc61, od61, .func (PySem.W.fnOf "__init__" "BadRule.__init__" (defArgs sBRInit) (defBody sBRInit) (defScope sBRInit) .none kV61 dc61 pm61 an61 cd61 ct61), sl61⟩)
    (c61 : PySem.W.codeIn K cd61 "BadRule.__init__" = true)
    (k61 : PySem.W.keepIn K (.ref f61) = true)
    (ty61 : PySem.W.typeIn K (.ref f61) = some (.type "function"))
    (hgT : PySem.W.nsIn K mainGlobals "MOST_TIMES" = some (some (.int 12 tgT)))
    (hgL : PySem.W.nsIn K mainGlobals "LEAST_SIZE" = some (some (.int 2 tgL)))
    (aTP : PySem.W.nsIn K mainGlobals "PARTS" = some (some (.ref TP)))
    (lTP : K.lookup TP = some ⟨.type "tuple", odTP, .seq #[.str "times" uTP0, .str "plus" uTP1, .str "cut_of" uTP2, .str "join_of" uTP3] nTP, slTP⟩)
    (aDB : PySem.W.nsIn K mainGlobals "BOUNDS" = some (some (.ref DB)))
    (lDB : K.lookup DB = some ⟨.type "dict", none, .dict #[⟨hDB0, .str "plus" tkDB0, .ref D1⟩, ⟨hDB1, .str "cut_of" tkDB1, .ref D2⟩, ⟨hDB2, .str "join_of" tkDB2, .ref D3⟩] nDB, #[]⟩)
    (hkDB0 : hDB0 = PyData.keyHash w.params "plus")
    (nsDB0 : PySem.W.nsIn K DB "plus" = some (some (.ref D1)))
    (hkDB1 : hDB1 = PyData.keyHash w.params "cut_of")
    (nsDB1 : PySem.W.nsIn K DB "cut_of" = some (some (.ref D2)))
    (hkDB2 : hDB2 = PyData.keyHash w.params "join_of")
    (nsDB2 : PySem.W.nsIn K DB "join_of" = some (some (.ref D3)))
    (lowDB : (DB == sysModules) = false)
    (lD1 : K.lookup D1 = some ⟨.type "tuple", odD1, .seq #[.int (-12) uD10, .int 12 uD11] nD1, slD1⟩)
    (lD2 : K.lookup D2 = some ⟨.type "tuple", odD2, .seq #[.int 1 uD20, .int 5 uD21] nD2, slD2⟩)
    (lD3 : K.lookup D3 = some ⟨.type "tuple", odD3, .seq #[.int 2 uD30, .int 6 uD31] nD3, slD3⟩)
    (zint : PySem.W.nsIn K mainGlobals "int" = some none)
    (zlen : PySem.W.nsIn K mainGlobals "len" = some none)
    (zabs : PySem.W.nsIn K mainGlobals "abs" = some none)
    (zlist : PySem.W.nsIn K mainGlobals "list" = some none)
    (zmin : PySem.W.nsIn K mainGlobals "min" = some none)
    (zmax : PySem.W.nsIn K mainGlobals "max" = some none)
    (zisinstance : PySem.W.nsIn K mainGlobals "isinstance" = some none)
    (zbool : PySem.W.nsIn K mainGlobals "bool" = some none)
    (ztuple : PySem.W.nsIn K mainGlobals "tuple" = some none)
    (zall : PySem.W.nsIn K mainGlobals "all" = some none)
    (zrange : PySem.W.nsIn K mainGlobals "range" = some none)
    (zrepr : PySem.W.nsIn K mainGlobals "repr" = some none)
    (zany : PySem.W.nsIn K mainGlobals "any" = some none)
    (zdict : PySem.W.nsIn K mainGlobals "dict" = some none)
    (zzip : PySem.W.nsIn K mainGlobals "zip" = some none)
    (zsorted : PySem.W.nsIn K mainGlobals "sorted" = some none) :
    ∃ fd : FuncData, (∀ (s : Shared) (v : Value), BindsTo s fd ⟨[v], []⟩ [("_law_script", v)]) ∧ ∀ base : Heap, K.In base → base.Ns mainGlobals mg → FnG l.prog w K mg base 9 fa fd ["_law_script"] (spLaw K) := by
  have e := hfa.symm.trans (PySem.W.mg_of X G a24)
  cases e
  have F0 := fun_mk (st := sIsInt) l0 c0 k0
  have b0 := F0.binds (ps := ["value"]) fun _ _ _ _ _ _ us hl => match us, hl with | [_], _ => rfl
  have F1 := fun_mk (st := sWithin) l1 c1 k1
  have b1 := F1.binds (ps := ["value", "least", "most"]) fun _ _ _ _ _ _ us hl => match us, hl with | [_, _, _], _ => rfl
  have F2 := fun_mk (st := sPair) l2 c2 k2
  have b2 := F2.binds (ps := ["value", "most"]) fun _ _ _ _ _ _ us hl => match us, hl with | [_, _], _ => rfl
  have F3 := fun_mk (st := sCanBe) l3 c3 k3
  have b3 := F3.binds (ps := ["part", "value"]) fun _ _ _ _ _ _ us hl => match us, hl with | [_, _], _ => rfl
  have F4 := fun_mk (st := sLeastOf) l4 c4 k4
  have b4 := F4.binds (ps := ["rule", "most"]) fun _ _ _ _ _ _ us hl => match us, hl with | [_, _], _ => rfl
  have F5 := fun_mk (st := sCrucialOf) l5 c5 k5
  have b5 := F5.binds (ps := ["rule"]) fun _ _ _ _ _ _ us hl => match us, hl with | [_], _ => rfl
  have F6 := fun_mk (st := sNeedFillRule) l6 c6 k6
  have b6 := F6.binds (ps := ["value"]) fun _ _ _ _ _ _ us hl => match us, hl with | [_], _ => rfl
  have F7 := fun_mk (st := sRightSpan) l7 c7 k7
  have b7 := F7.binds (ps := ["rule", "size"]) fun _ _ _ _ _ _ us hl => match us, hl with | [_, _], _ => rfl
  have F8 := fun_mk (st := sRightSpans) l8 c8 k8
  have b8 := F8.binds (ps := ["rule"]) fun _ _ _ _ _ _ us hl => match us, hl with | [_], _ => rfl
  have F9 := fun_mk (st := sJudgeFill) l9 c9 k9
  have b9 := F9.binds (ps := ["rule"]) fun _ _ _ _ _ _ us hl => match us, hl with | [_], _ => rfl
  have F10 := fun_mk (st := sKept) l10 c10 k10
  have b10 := F10.binds (ps := ["value"]) fun _ _ _ _ _ _ us hl => match us, hl with | [_], _ => rfl
  have F11 := fun_mk (st := sParts) l11 c11 k11
  have b11 := F11.binds (ps := ["value"]) fun _ _ _ _ _ _ us hl => match us, hl with | [_], _ => rfl
  have F12 := fun_mk (st := sFlat) l12 c12 k12
  have b12 := F12.binds (ps := ["value"]) fun _ _ _ _ _ _ us hl => match us, hl with | [_], _ => rfl
  have F13 := fun_mk (st := sCopied) l13 c13 k13
  have b13 := F13.binds (ps := ["value"]) fun _ _ _ _ _ _ us hl => match us, hl with | [_], _ => rfl
  have F14 := fun_mk (st := sRebuilt) l14 c14 k14
  have b14 := F14.binds (ps := ["value", "parts"]) fun _ _ _ _ _ _ us hl => match us, hl with | [_, _], _ => rfl
  have F15 := fun_mk (st := sPen) l15 c15 k15
  have b15 := F15.binds (ps := ["_law_script"]) fun _ _ _ _ _ _ us hl => match us, hl with | [_], _ => rfl
  have F16 := fun_mk (st := sDraw) l16 c16 k16
  have b16 := F16.binds (ps := ["_law_pen_here", "_law_many"]) fun _ _ _ _ _ _ us hl => match us, hl with | [_, _], _ => rfl
  have F17 := fun_mk (st := sLNumbers) l17 c17 k17
  have b17 := F17.binds (ps := ["_law_pen_here"]) fun _ _ _ _ _ _ us hl => match us, hl with | [_], _ => rfl
  have F18 := fun_mk (st := sLRule) l18 c18 k18
  have b18 := F18.binds (ps := ["_law_told"]) fun _ _ _ _ _ _ us hl => match us, hl with | [_], _ => rfl
  have F19 := fun_mk (st := sLLeast) l19 c19 k19
  have b19 := F19.binds (ps := ["_law_told", "_law_top"]) fun _ _ _ _ _ _ us hl => match us, hl with | [_, _], _ => rfl
  have F20 := fun_mk (st := sLIsRight) l20 c20 k20
  have b20 := F20.binds (ps := ["_law_told", "_law_top"]) fun _ _ _ _ _ _ us hl => match us, hl with | [_, _], _ => rfl
  have F21 := fun_mk (st := sLNear) l21 c21 k21
  have b21 := F21.binds (ps := ["_law_pen_here"]) fun _ _ _ _ _ _ us hl => match us, hl with | [_], _ => rfl
  have F22 := fun_mk (st := sLDue) l22 c22 k22
  have b22 := F22.binds (ps := ["_law_told"]) fun _ _ _ _ _ _ us hl => match us, hl with | [_], _ => rfl
  have F23 := fun_mk (st := sLRight) l23 c23 k23
  have b23 := F23.binds (ps := ["_law_told"]) fun _ _ _ _ _ _ us hl => match us, hl with | [_], _ => rfl
  have F24 := fun_mk (st := sLaw) l24 c24 k24
  have b24 := F24.binds (ps := ["_law_script"]) fun _ _ _ _ _ _ us hl => match us, hl with | [_], _ => rfl
  have F51 := fun_mk (st := sFits_init) l51 c51 k51
  have b51 := F51.binds (ps := ["self", "size", "wrong"]) fun _ _ _ _ _ _ us hl => match us, hl with | [_, _, _], _ => rfl
  have F52 := fun_mk (st := sFits_eq) l52 c52 k52
  have b52 := F52.binds (ps := ["self", "other"]) fun _ _ _ _ _ _ us hl => match us, hl with | [_, _], _ => rfl
  have F53 := fun_mk (st := sFits_bool) l53 c53 k53
  have b53 := F53.binds (ps := ["self"]) fun _ _ _ _ _ _ us hl => match us, hl with | [_], _ => rfl
  have F54 := fun_mk (st := sSpills_init) l54 c54 k54
  have b54 := F54.binds (ps := ["self", "size", "step"]) fun _ _ _ _ _ _ us hl => match us, hl with | [_, _, _], _ => rfl
  have F55 := fun_mk (st := sSpills_eq) l55 c55 k55
  have b55 := F55.binds (ps := ["self", "other"]) fun _ _ _ _ _ _ us hl => match us, hl with | [_, _], _ => rfl
  have F56 := fun_mk (st := sSpills_bool) l56 c56 k56
  have b56 := F56.binds (ps := ["self"]) fun _ _ _ _ _ _ us hl => match us, hl with | [_], _ => rfl
  have F61 := fun_mk (st := sBRInit) l61 c61 k61
  have b61 := F61.binds (ps := ["self", "part"]) fun _ _ _ _ _ _ us hl => match us, hl with | [_, _], _ => rfl
  refine ⟨PySem.W.fnOf "law" "law" (defArgs sLaw) (defBody sLaw) (defScope sLaw) .none kV24 dc24 pm24 an24 cd24 ct24, fun s v => .of_eq rfl, fun base _ _ => ?_⟩
  have T : Blt mg := ⟨PySem.W.mg_none_of X G zint, PySem.W.mg_none_of X G zlen, PySem.W.mg_none_of X G zabs, PySem.W.mg_none_of X G zlist, PySem.W.mg_none_of X G zmin, PySem.W.mg_none_of X G zmax, PySem.W.mg_none_of X G zisinstance, PySem.W.mg_none_of X G zbool, PySem.W.mg_none_of X G ztuple, PySem.W.mg_none_of X G zall, PySem.W.mg_none_of X G zrange, PySem.W.mg_none_of X G zrepr⟩
  have FC : FCls K C := ⟨⟨pgC, hdC, poC, saC⟩, n0C, n1C, n2C, n3C, n4C⟩
  have IT : InsT K C := ⟨hcC, ikn, ikt, moC, icC, ttC⟩
  have R2 : FTwo K C := ⟨FC, IT⟩
  have TA : FitC K A := ⟨⟨pgA, hdA, poA, saA⟩, n0A, n1A⟩
  have TS : SpiC K S := ⟨⟨pgS, hdS, poS, saS⟩, n0S, n1S⟩
  have IA : InsT K A := ⟨hcA, ikn, ikt, moA, icA, ttA⟩
  have IS : InsT K S := ⟨hcS, ikn, ikt, moS, icS, ttS⟩
  have TBF : TabF K w mg TP DB D1 D2 D3 := ⟨PySem.W.mg_of X G aTP, fun _ => sqT_K lTP (by decide) (.cons ⟨_, rfl⟩ ( .cons ⟨_, rfl⟩ ( .cons ⟨_, rfl⟩ (.cons ⟨_, rfl⟩ .nil)))), PySem.W.mg_of X G aDB, ⟨_, _, ⟨lDB, ⟨⟨_, _, rfl, hkDB0⟩, ⟨_, _, rfl, hkDB1⟩, ⟨_, _, rfl, hkDB2⟩, trivial⟩, lowDB⟩⟩, nsDB0, nsDB1, nsDB2, fun _ => sqT_K lD1 (by decide) (.cons ⟨_, rfl⟩ (.cons ⟨_, rfl⟩ .nil)), fun _ => sqT_K lD2 (by decide) (.cons ⟨_, rfl⟩ (.cons ⟨_, rfl⟩ .nil)), fun _ => sqT_K lD3 (by decide) (.cons ⟨_, rfl⟩ (.cons ⟨_, rfl⟩ .nil))⟩
  have D50 : FunD K "__init__" "FillRule.__init__" (defArgs sFillRule_init) (defBody sFillRule_init) (defScope sFillRule_init) [.int 0] [("cut_of", .int 1), ("join_of", .int 2)] f50 _ := ⟨⟨_, _, _, _, _, _, _, _, _, _, rfl, l50, c50, .inr ⟨by simp, T50, _, [Value.int 0 tt500], tn50, rfl, t50, rfl, .cons ⟨_, rfl⟩ .nil⟩, .inr ⟨KD50, rfl, fun z hz => by
    rcases List.mem_cons.mp hz with rfl | hz
    · exact ⟨_, kd500, ⟨_, rfl⟩⟩
    · rw [List.mem_singleton.mp hz]; exact ⟨_, kd501, ⟨_, rfl⟩⟩⟩⟩, k50⟩
  obtain ⟨its50, b50⟩ := FunD.kbindsD (ps := ["self", "times", "plus", "cut_of", "join_of"]) D50 3 ["cut_of", "join_of"] (fun us _ ws => us ++ ws) (by simp) (fun r1 _ r2 => r1.append r2)
    (fun _ _ _ _ _ _ _ us its ws h1 h2 h3 => match us, its, ws, h1, h2, h3 with | [_, _, _], [_], [_, _], _, _, _ => ⟨_, rfl, rfl⟩)
  obtain ⟨its50b, mv50b, b50b⟩ := FunD.kbinds (ps := ["self", "times", "plus", "cut_of", "join_of"]) D50 2 ["join_of"] [("cut_of", .int 1)] (fun us its mv ws => us ++ (its ++ (mv ++ ws))) (by simp) (by simp) (fun q hq => by rw [List.mem_singleton.mp hq]; exact List.mem_cons_self ..) (fun r1 r2 r3 r4 => r1.append (r2.append (r3.append r4)))
    (fun _ _ _ _ _ _ _ us its mv ws h1 h2 h3 h4 => match us, its, mv, ws, h1, h2, h3, h4 with | [_, _], [_], [_], [_], _, _, _, _ => ⟨_, rfl, ⟨_, _, _, _, _, _, rfl, rfl, rfl⟩⟩)
  obtain ⟨its50c, b50c⟩ := FunD.kbindsD (ps := ["self", "times", "plus", "cut_of", "join_of"]) D50 2 ["cut_of", "join_of"] (fun us its ws => us ++ (its ++ ws)) (by simp) (fun r1 r2 r3 => r1.append (r2.append r3))
    (fun _ _ _ _ _ _ _ us its ws h1 h2 h3 => match us, its, ws, h1, h2, h3 with | [_, _], [_], [_, _], _, _, _ => ⟨_, rfl, rfl⟩)
  obtain ⟨ds50, rds50, b50d⟩ := FunD.binds (ps := ["self", "times", "plus", "cut_of", "join_of"]) D50 2 0 (by simp) rfl
    (fun _ _ _ _ _ _ _ us its ks h1 h2 h3 => match us, its, ks, h1, h2, h3 with | [_, _], [_], [_, _], _, _, _ => ⟨_, rfl, _, _, _, _, _, _, rfl, rfl, ⟨_, _, _, _, _, _, rfl, rfl, rfl⟩⟩) (by simp)
  have d0 : Df l.prog w K mg base 1 "is_integer" ["value"] _ := ⟨f0, _, ok_isInt F0 T, PySem.W.mg_of X G a0, F0.kp, b0⟩
  have d1 : Df l.prog w K mg base 2 "is_within" ["value", "least", "most"] _ := ⟨f1, _, ok_within F1 d0, PySem.W.mg_of X G a1, F1.kp, b1⟩
  have d2 : Df l.prog w K mg base 3 "is_pair" ["value", "most"] _ := ⟨f2, _, ok_pair F2 T d1, PySem.W.mg_of X G a2, F2.kp, b2⟩
  have d3 : Df l.prog w K mg base 4 "can_be" ["part", "value"] _ := ⟨f3, _, ok_canBe F3 TBF (PySem.W.mg_of X G hgT) d2 d1, PySem.W.mg_of X G a3, F3.kp, b3⟩
  have d11 : Df l.prog w K mg base 1 "parts_of" ["value"] _ := ⟨f11, _, ok_parts F11 T (PySem.W.mg_none_of X G zdict), PySem.W.mg_of X G a11, F11.kp, b11⟩
  have d10 : Df l.prog w K mg base 2 "kept" ["value"] _ := ⟨f10, _, ok_kept F10 T (PySem.W.mg_none_of X G zdict) (PySem.W.mg_none_of X G zany) d11, PySem.W.mg_of X G a10, F10.kp, b10⟩
  have dPV : Df l.prog w K mg base 1 "parts_of" ["value"] _ := ⟨f11, _, ok_partsV F11 T (PySem.W.mg_none_of X G zdict), PySem.W.mg_of X G a11, F11.kp, b11⟩
  have d14 : Df l.prog w K mg base 1 "rebuilt" ["value", "parts"] _ := ⟨f14, _, ok_rebuilt F14 T (PySem.W.mg_none_of X G zdict) (PySem.W.mg_none_of X G zzip), PySem.W.mg_of X G a14, F14.kp, b14⟩
  have d12 : Df l.prog w K mg base 2 "is_flat" ["value"] _ := ⟨f12, _, ok_flat F12 T (PySem.W.mg_none_of X G zdict), PySem.W.mg_of X G a12, F12.kp, b12⟩
  have d13 : Df l.prog w K mg base 2 "copied_deep" ["value"] _ := ⟨f13, _, ok_copied F13 T (PySem.W.mg_none_of X G zdict) (PySem.W.mg_none_of X G zany) dPV d14, PySem.W.mg_of X G a13, F13.kp, b13⟩
  have dKV : Df l.prog w K mg base 3 "kept" ["value"] _ := ⟨f10, _, ok_keptV F10 T (PySem.W.mg_none_of X G zdict) d12 d13, PySem.W.mg_of X G a10, F10.kp, b10⟩
  have d4 : Df l.prog w K mg base 1 "least_of" ["rule", "most"] _ := ⟨f4, _, ok_leastOf F4 FC, PySem.W.mg_of X G a4, F4.kp, b4⟩
  have d5 : Df l.prog w K mg base 1 "crucial_of" ["rule"] _ := ⟨f5, _, ok_crucial F5 FC, PySem.W.mg_of X G a5, F5.kp, b5⟩
  have d7 : Df l.prog w K mg base 2 "right_span" ["rule", "size"] _ := ⟨f7, _, ok_rightSpan F7 FC d4 d5, PySem.W.mg_of X G a7, F7.kp, b7⟩
  have d8 : Df l.prog w K mg base 3 "right_spans" ["rule"] _ := ⟨f8, _, ok_rightSpans F8 FC T (PySem.W.mg_of X G hgL) d7, PySem.W.mg_of X G a8, F8.kp, b8⟩
  have oR : OexC K BR := ⟨⟨_, _, _, _, _, _, _, _, _, _, _, _, _, _, _, lxBR, rxBR⟩, saBR, exBR, ttBR, keBR⟩
  have G61 := ok_br (P := l.prog) (w := w) (mg := mg) (base := base) F61 oR no0BR d10
  have EB : ErrC l.prog w K mg base "BadRule" "part" BR := ⟨oR, (PySem.W.mg_of X G aBR), _, _, m61, ty61, G61, b61⟩
  have GNF := ok_needF (P := l.prog) (w := w) (mg := mg) (base := base) (N := BR) F6 T R2 (PySem.W.mg_of X G aC) EB
  have d6 : Df l.prog w K mg base 5 "need_fill_rule" ["value"] (spNeedOk C) := ⟨f6, _, FnOk.calm GNF (fun vs H Q E h => need_ok h), PySem.W.mg_of X G a6, F6.kp, b6⟩
  have GF := ok_fillInit (P := l.prog) (w := w) (mg := mg) (base := base) (N := BR) D50 FC (PySem.W.mg_none_of X G zzip) TBF d3 EB
  have GO : FnOk l.prog w K mg base CX0 5 f50 _ ["self", "times", "plus", "cut_of", "join_of"] (spFillOk C) := FnOk.calm GF fun vs H Q E h => fill_ok h
  have MK : Mk K C f50 := ⟨mkC, m50, i50, kcC⟩
  have MA : Mk K A f51 := ⟨mkA, m51, i51, kcA⟩
  have MS : Mk K S f54 := ⟨mkS, m54, i54, kcS⟩
  have GA := ok_fitI (P := l.prog) (w := w) (mg := mg) (base := base) F51 TA dKV
  have GS := ok_spiI (P := l.prog) (w := w) (mg := mg) (base := base) F54 TS dKV
  have EA := ok_fitE (P := l.prog) (w := w) (mg := mg) (base := base) F52 T TA IA (PySem.W.mg_of X G aA)
  have ES := ok_spiE (P := l.prog) (w := w) (mg := mg) (base := base) F55 T TS IS (PySem.W.mg_of X G aS)
  have BA := ok_fitB (P := l.prog) (w := w) (K := K) (mg := mg) (base := base) F53
  have BS := ok_spiB (P := l.prog) (w := w) (K := K) (mg := mg) (base := base) F56
  have VM : VMk l.prog w K mg base A S := ⟨(PySem.W.mg_of X G aA), (PySem.W.mg_of X G aS), ⟨f51, _, MA, GA, b51⟩, ⟨f54, _, MS, GS, b54⟩⟩
  have VV : VB l.prog w K mg base A S CV := ⟨VM, TA, TS, IA, IS, (PySem.W.mg_of X G aCV), kit_own icCV ttCV svA, kit_own icCV ttCV svS, ⟨f52, _, EA, b52, fnr_of EA b52, m52, i52⟩, ⟨f55, _, ES, b55, fnr_of ES b55, m55, i55⟩, neA, neS, ⟨_, fnr_of BA b53, m53, i53⟩, ⟨_, fnr_of BS b56, m56, i56⟩⟩
  have FB : FlB l.prog w K mg base C := ⟨(PySem.W.mg_of X G aC), ⟨f50, _, ds50, _, _, MK, GO, rds50, b50d, b50c, b50b⟩⟩
  have d9 : Df l.prog w K mg base 6 "judge_fill" ["rule"] _ := ⟨f9, _, ok_judge F9 FC T (PySem.W.mg_none_of X G zsorted) VM (PySem.W.mg_of X G hgL) d6 d8, PySem.W.mg_of X G a9, F9.kp, b9⟩
  have d15 : Df l.prog w K mg base 1 "_law_pen" ["_law_script"] _ := ⟨f15, _, ok_pen F15 T, PySem.W.mg_of X G a15, F15.kp, b15⟩
  have d16 : Df l.prog w K mg base 1 "_law_draw" ["_law_pen_here", "_law_many"] _ := ⟨f16, _, ok_draw F16 T, PySem.W.mg_of X G a16, F16.kp, b16⟩
  have d17 : Df l.prog w K mg base 2 "_law_numbers" ["_law_pen_here"] _ := ⟨f17, _, ok_lnums F17 T d16, PySem.W.mg_of X G a17, F17.kp, b17⟩
  have d21 : Df l.prog w K mg base 2 "_law_near" ["_law_pen_here"] _ := ⟨f21, _, ok_lnear F21 T d16, PySem.W.mg_of X G a21, F21.kp, b21⟩
  have d18 : Df l.prog w K mg base 7 "_law_rule" ["_law_told"] _ := ⟨f18, _, ok_lrule F18 (PySem.W.mg_of X G aC) MK GO b50, PySem.W.mg_of X G a18, F18.kp, b18⟩
  have d19 : Df l.prog w K mg base 1 "_law_least" ["_law_told", "_law_top"] _ := ⟨f19, _, ok_lleast F19, PySem.W.mg_of X G a19, F19.kp, b19⟩
  have d20 : Df l.prog w K mg base 2 "_law_is_right" ["_law_told", "_law_top"] _ := ⟨f20, _, ok_lisr F20 d19, PySem.W.mg_of X G a20, F20.kp, b20⟩
  have d22 : Df l.prog w K mg base 3 "_law_due" ["_law_told"] _ := ⟨f22, _, ok_ldue F22 T d20, PySem.W.mg_of X G a22, F22.kp, b22⟩
  have GJ := ok_judge (P := l.prog) (w := w) (base := base) F9 FC T (PySem.W.mg_none_of X G zsorted) VM (PySem.W.mg_of X G hgL) d6 d8
  have GR := ok_right (P := l.prog) (w := w) (base := base) F23 T VV d18 d22 GJ (PySem.W.mg_of X G a9) F9.kp b9 (kb_one F9 fun _ _ _ _ _ _ _ => rfl)
  exact ok_law F24 T FB VV d9 d15 d16 d21 d17 GR (PySem.W.mg_of X G a23) F23.kp b23
end Ev
open PySem PySem.W PyProof.Rows
set_option maxRecDepth 100000 in
set_option maxHeartbeats 0 in
theorem PySem.Challenge.cw_evenrules_k72_whole_fills_judged_holds : PySem.Challenge.rw_evenrules_k72_whole_fills_judged.Holds := by
  exact hd (by
    k_fill
    refine Ev.walk_ofG (l := PySem.Challenge.rw_evenrules_k72_whole_fills_judged) (n := 63) (k := 9) (x := "_law_script") (sp := fun w => Ev.spLaw _) rfl (by decide) rfl ⟨rfl, by decide, by decide⟩ (fun w h Y => PySem.W.kIn_of Y) ?F (fun _ _ a ns hl hS => ⟨a, ns, rfl, hS, hl, fun _ => rfl⟩)
    case F =>
      intro w mg fa h KX G hmg
      refine' Ev.all_mk KX G hmg ?a0 ?l0 ?c0 ?k0 ?a1 ?l1 ?c1 ?k1 ?a2 ?l2 ?c2 ?k2 ?a3 ?l3 ?c3 ?k3 ?a4 ?l4 ?c4 ?k4 ?a5 ?l5 ?c5 ?k5 ?a6 ?l6 ?c6 ?k6 ?a7 ?l7 ?c7 ?k7 ?a8 ?l8 ?c8 ?k8 ?a9 ?l9 ?c9 ?k9 ?a10 ?l10 ?c10 ?k10 ?a11 ?l11 ?c11 ?k11 ?a12 ?l12 ?c12 ?k12 ?a13 ?l13 ?c13 ?k13 ?a14 ?l14 ?c14 ?k14 ?a15 ?l15 ?c15 ?k15 ?a16 ?l16 ?c16 ?k16 ?a17 ?l17 ?c17 ?k17 ?a18 ?l18 ?c18 ?k18 ?a19 ?l19 ?c19 ?k19 ?a20 ?l20 ?c20 ?k20 ?a21 ?l21 ?c21 ?k21 ?a22 ?l22 ?c22 ?k22 ?a23 ?l23 ?c23 ?k23 ?a24 ?l24 ?c24 ?k24 ?aC ?pgC ?hdC ?poC ?saC ?mkC ?kcC ?n0C ?n1C ?n2C ?n3C ?n4C ?aA ?pgA ?hdA ?poA ?saA ?mkA ?kcA ?n0A ?n1A ?aS ?pgS ?hdS ?poS ?saS ?mkS ?kcS ?n0S ?n1S ?hcC ?moC ?hcA ?moA ?hcS ?moS ?aCV ?icC ?ttC ?icA ?ttA ?icS ?ttS ?icCV ?ttCV ?neA ?svA ?neS ?svS ?ikn ?ikt ?m50 ?i50 ?l50 ?c50 ?k50 ?t50 ?kd500 ?kd501 ?m51 ?i51 ?l51 ?c51 ?k51 ?m52 ?i52 ?l52 ?c52 ?k52 ?m53 ?i53 ?l53 ?c53 ?k53 ?m54 ?i54 ?l54 ?c54 ?k54 ?m55 ?i55 ?l55 ?c55 ?k55 ?m56 ?i56 ?l56 ?c56 ?k56 ?aBR ?icBR ?ttBR ?gaBR ?ggBR ?hdBR ?hcBR ?moBR ?saBR ?exBR ?keBR ?vEBR ?sSBR ?no0BR ?lxBR ?rxBR ?m61 ?l61 ?c61 ?k61 ?ty61 ?hgT ?hgL ?aTP ?lTP ?aDB ?lDB ?hkDB0 ?nsDB0 ?hkDB1 ?nsDB1 ?hkDB2 ?nsDB2 ?lowDB ?lD1 ?lD2 ?lD3 ?zint ?zlen ?zabs ?zlist ?zmin ?zmax ?zisinstance ?zbool ?ztuple ?zall ?zrange ?zrepr ?zany ?zdict ?zzip ?zsorted
      (case a0 => k_is)
      (case l0 => k_is)
      (case c0 => k_is)
      (case k0 => k_is)
      (case a1 => k_is)
      (case l1 => k_is)
      (case c1 => k_is)
      (case k1 => k_is)
      (case a2 => k_is)
      (case l2 => k_is)
      (case c2 => k_is)
      (case k2 => k_is)
      (case a3 => k_is)
      (case l3 => k_is)
      (case c3 => k_is)
      (case k3 => k_is)
      (case a4 => k_is)
      (case l4 => k_is)
      (case c4 => k_is)
      (case k4 => k_is)
      (case a5 => k_is)
      (case l5 => k_is)
      (case c5 => k_is)
      (case k5 => k_is)
      (case a6 => k_is)
      (case l6 => k_is)
      (case c6 => k_is)
      (case k6 => k_is)
      (case a7 => k_is)
      (case l7 => k_is)
      (case c7 => k_is)
      (case k7 => k_is)
      (case a8 => k_is)
      (case l8 => k_is)
      (case c8 => k_is)
      (case k8 => k_is)
      (case a9 => k_is)
      (case l9 => k_is)
      (case c9 => k_is)
      (case k9 => k_is)
      (case a10 => k_is)
      (case l10 => k_is)
      (case c10 => k_is)
      (case k10 => k_is)
      (case a11 => k_is)
      (case l11 => k_is)
      (case c11 => k_is)
      (case k11 => k_is)
      (case a12 => k_is)
      (case l12 => k_is)
      (case c12 => k_is)
      (case k12 => k_is)
      (case a13 => k_is)
      (case l13 => k_is)
      (case c13 => k_is)
      (case k13 => k_is)
      (case a14 => k_is)
      (case l14 => k_is)
      (case c14 => k_is)
      (case k14 => k_is)
      (case a15 => k_is)
      (case l15 => k_is)
      (case c15 => k_is)
      (case k15 => k_is)
      (case a16 => k_is)
      (case l16 => k_is)
      (case c16 => k_is)
      (case k16 => k_is)
      (case a17 => k_is)
      (case l17 => k_is)
      (case c17 => k_is)
      (case k17 => k_is)
      (case a18 => k_is)
      (case l18 => k_is)
      (case c18 => k_is)
      (case k18 => k_is)
      (case a19 => k_is)
      (case l19 => k_is)
      (case c19 => k_is)
      (case k19 => k_is)
      (case a20 => k_is)
      (case l20 => k_is)
      (case c20 => k_is)
      (case k20 => k_is)
      (case a21 => k_is)
      (case l21 => k_is)
      (case c21 => k_is)
      (case k21 => k_is)
      (case a22 => k_is)
      (case l22 => k_is)
      (case c22 => k_is)
      (case k22 => k_is)
      (case a23 => k_is)
      (case l23 => k_is)
      (case c23 => k_is)
      (case k23 => k_is)
      (case a24 => k_is)
      (case l24 => k_is)
      (case c24 => k_is)
      (case k24 => k_is)
      (case aC => k_is)
      (case pgC => k_is)
      (case hdC => k_is)
      (case poC => k_is)
      (case saC => k_is)
      (case mkC => k_is)
      (case kcC => k_is)
      (case n0C => k_is)
      (case n1C => k_is)
      (case n2C => k_is)
      (case n3C => k_is)
      (case n4C => k_is)
      (case aA => k_is)
      (case pgA => k_is)
      (case hdA => k_is)
      (case poA => k_is)
      (case saA => k_is)
      (case mkA => k_is)
      (case kcA => k_is)
      (case n0A => k_is)
      (case n1A => k_is)
      (case aS => k_is)
      (case pgS => k_is)
      (case hdS => k_is)
      (case poS => k_is)
      (case saS => k_is)
      (case mkS => k_is)
      (case kcS => k_is)
      (case n0S => k_is)
      (case n1S => k_is)
      (case hcC => k_is)
      (case moC => k_is)
      (case hcA => k_is)
      (case moA => k_is)
      (case hcS => k_is)
      (case moS => k_is)
      (case aCV => k_is)
      (case icC => k_is)
      (case ttC => k_is)
      (case icA => k_is)
      (case ttA => k_is)
      (case icS => k_is)
      (case ttS => k_is)
      (case icCV => k_is)
      (case ttCV => k_is)
      (case neA => k_is)
      (case svA => k_is)
      (case neS => k_is)
      (case svS => k_is)
      (case ikn => k_is)
      (case ikt => k_is)
      (case m50 => k_is)
      (case i50 => k_is)
      (case l50 => k_is)
      (case c50 => k_is)
      (case k50 => k_is)
      (case t50 => k_is)
      (case kd500 => k_is)
      (case kd501 => k_is)
      (case m51 => k_is)
      (case i51 => k_is)
      (case l51 => k_is)
      (case c51 => k_is)
      (case k51 => k_is)
      (case m52 => k_is)
      (case i52 => k_is)
      (case l52 => k_is)
      (case c52 => k_is)
      (case k52 => k_is)
      (case m53 => k_is)
      (case i53 => k_is)
      (case l53 => k_is)
      (case c53 => k_is)
      (case k53 => k_is)
      (case m54 => k_is)
      (case i54 => k_is)
      (case l54 => k_is)
      (case c54 => k_is)
      (case k54 => k_is)
      (case m55 => k_is)
      (case i55 => k_is)
      (case l55 => k_is)
      (case c55 => k_is)
      (case k55 => k_is)
      (case m56 => k_is)
      (case i56 => k_is)
      (case l56 => k_is)
      (case c56 => k_is)
      (case k56 => k_is)
      (case aBR => k_is)
      (case icBR => k_is)
      (case ttBR => k_is)
      (case gaBR => k_is)
      (case ggBR => k_is)
      (case hdBR => k_is)
      (case hcBR => k_is)
      (case moBR => k_is)
      (case saBR => k_is)
      (case exBR => k_is)
      (case keBR => k_is)
      (case vEBR => k_is)
      (case sSBR => k_is)
      (case no0BR => k_is)
      (case lxBR => k_is)
      (case rxBR => decide +kernel)
      (case m61 => k_is)
      (case l61 => k_is)
      (case c61 => k_is)
      (case k61 => k_is)
      (case ty61 => k_is)
      (case hgT => k_is)
      (case hgL => k_is)
      (case aTP => k_is)
      (case lTP => k_is)
      (case aDB => k_is)
      (case lDB => k_is)
      (case hkDB0 => rfl)
      (case nsDB0 => first | k_is | kernel_rfl)
      (case hkDB1 => rfl)
      (case nsDB1 => first | k_is | kernel_rfl)
      (case hkDB2 => rfl)
      (case nsDB2 => first | k_is | kernel_rfl)
      (case lowDB => kernel_rfl)
      (case lD1 => k_is)
      (case lD2 => k_is)
      (case lD3 => k_is)
      (case zint => k_is)
      (case zlen => k_is)
      (case zabs => k_is)
      (case zlist => k_is)
      (case zmin => k_is)
      (case zmax => k_is)
      (case zisinstance => k_is)
      (case zbool => k_is)
      (case ztuple => k_is)
      (case zall => k_is)
      (case zrange => k_is)
      (case zrepr => k_is)
      (case zany => k_is)
      (case zdict => k_is)
      (case zzip => k_is)
      (case zsorted => k_is))
