import PyProof.Rows.All
import Wide.All
import OpenK.AllK
import Wide.FinOn
import HandS.ForMost
import HandS.Wide
import HandS.Codes
import HandS.IsInst
import HandS.Defaults
import HandS.MakeKw
import HandS.MakeKwOnly
import HandS.ClsMeth
import HandS.TupAny
import HandS.Style
import HandS.Zip
import HandS.Conv
import HandS.Walk
import HandS.Lambda
import HandS.Iter
import HandS.ExcInit
import HandS.ForExc
import KE.KExcIs
import HandS.EndTab
import HandS.DictComp
import HandS.DeepEq
import KE.KDictList
import KE.DataEq
import HandS.Star
import HandS.WideBits
import HandS.OwnIter
import HandS.SlotsOwn
import HandS.IterVal
import HandS.Property
import HandS.OwnEq
import HandS.More
import PyProof.InstNe
import HandS.TupMul
import HandS.ExcOwn
import KE.GoesEnum
import KE.GoesEnumKw
import KE.GoesMore
import PyProof.Rows.CallKw2
import PyProof.EnumMake
import PySem.Challenge.RW_evenrules_k78_whole_rows_behind_deeds
open PySem PySem.W PyProof.Rows
set_option Elab.async false
set_option linter.all false
set_option maxRecDepth 100000 in
set_option maxHeartbeats 0 in
open_top hd for PySem.Challenge.rw_evenrules_k78_whole_rows_behind_deeds
set_option maxRecDepth 100000
set_option maxHeartbeats 4000000
namespace Ev
open PySem L2
def top (i : Nat) : Stmt := PySem.Challenge.pw_evenrules_k78_whole_rows_behind_deeds.main.body.getD i (.Pass ⟨0, 0, 0, 0⟩)
abbrev sWall : Stmt := top 0
abbrev sKept : Stmt := top 2
abbrev sIsFlat : Stmt := top 3
abbrev sCopiedDeep : Stmt := top 4
abbrev sPartsOf : Stmt := top 5
abbrev sRebuilt : Stmt := top 6
abbrev sBadRule_init : Stmt := inClass (top 9) 0
abbrev sBadNumber_init : Stmt := inClass (top 10) 0
abbrev sBadOther_init : Stmt := inClass (top 11) 0
abbrev sBadPages_init : Stmt := inClass (top 12) 0
abbrev sBadText_init : Stmt := inClass (top 13) 0
abbrev sTooMany_init : Stmt := inClass (top 14) 0
abbrev sIsInt : Stmt := top 16
abbrev sWithin : Stmt := top 17
abbrev sLeastOf : Stmt := top 21
abbrev sIsKept : Stmt := top 22
abbrev sDealt : Stmt := top 23
abbrev sPageAt : Stmt := top 24
abbrev sPageFor : Stmt := top 25
abbrev sBehindPut : Stmt := top 26
abbrev sBehindTake : Stmt := top 27
abbrev sGroupOf : Stmt := top 28
abbrev sDealtAnew : Stmt := top 29
abbrev sNumberWord : Stmt := top 33
abbrev sPairWord : Stmt := top 34
abbrev sReadNumber : Stmt := top 35
abbrev sReadPair : Stmt := top 36
abbrev sPair : Stmt := top 39
abbrev sWordValue : Stmt := top 40
abbrev sFillRule_init : Stmt := inClass (top 47) 0
abbrev sFillRule_least_fill : Stmt := inClass (top 47) 1
abbrev sFillRule_fits : Stmt := inClass (top 47) 2
abbrev sFillRule_eq : Stmt := inClass (top 47) 3
abbrev sFillRule_str : Stmt := inClass (top 47) 4
abbrev sFillRule_read : Stmt := inClass (top 47) 5
abbrev sCanBe : Stmt := top 48
abbrev sWrongFillWord : Stmt := top 49
abbrev sNeedFillRule : Stmt := top 50
abbrev sNeedSize : Stmt := top 51
abbrev sNeedPageSize : Stmt := top 52
abbrev sRow_init : Stmt := inClass (top 56) 0
abbrev sRow_len : Stmt := inClass (top 56) 1
abbrev sRow_iter : Stmt := inClass (top 56) 2
abbrev sRow_total : Stmt := inClass (top 56) 3
abbrev sRow_is_young : Stmt := inClass (top 56) 4
abbrev sRow_keeps : Stmt := inClass (top 56) 5
abbrev sRow_page_of : Stmt := inClass (top 56) 6
abbrev sRow_put : Stmt := inClass (top 56) 7
abbrev sRow_take : Stmt := inClass (top 56) 8
abbrev sRow_eq : Stmt := inClass (top 56) 9
abbrev sNeedUpTo : Stmt := top 57
abbrev sPen : Stmt := top 59
abbrev sDraw : Stmt := top 60
abbrev sPick : Stmt := top 61
abbrev sLNumbers : Stmt := top 62
abbrev sLRule : Stmt := top 63
abbrev sLLeast : Stmt := top 64
abbrev sLWorld : Stmt := top 65
abbrev sLDealt : Stmt := top 66
abbrev sLPage : Stmt := top 67
abbrev sLGrouped : Stmt := top 68
abbrev sLPut : Stmt := top 69
abbrev sLTake : Stmt := top 70
abbrev sLKeeps : Stmt := top 71
abbrev sLFills : Stmt := top 72
abbrev sLSpot : Stmt := top 73
abbrev sLDeedRight : Stmt := top 74
abbrev sLFullRight : Stmt := top 75
abbrev sLaw : Stmt := top 76
end Ev
namespace Ev
open PySem L2
/-- all that was tracked is as it was, but at p -/
def But (p : Addr) (H H' : Hp) : Prop := ∀ b o, b ≠ p → H b = some o → H' b = some o
theorem But.refl (p : Addr) (H : Hp) : But p H H := fun _ _ _ e => e
theorem But.trans {p : Addr} {H H1 H2 : Hp} (a : But p H H1) (b : But p H1 H2) : But p H H2 := fun c o n e => b c o n (a c o n e)
theorem Same.but {p : Addr} {H H' : Hp} (a : Same H H') : But p H H' := fun c o _ e => a c o e
theorem But.upd_new {p q : Addr} {H : Hp} {o : HO} (h : H q = none) : But p H (upd H q o) := fun b u _ e => by
  rw [upd_ne (ne_of_none e h)]; exact e
theorem But.upd_at {p : Addr} {H : Hp} {o : HO} : But p H (upd H p o) := fun b u n e => by
  rw [upd_ne n]; exact e
/-- the pen: a list of a list of ints, how often it was asked, and a rest -/
def Pen (L : Addr) (H : Hp) (p : Addr) (B : Int) : Prop := ∃ (ns : List Int) (turn carry : Int),
  H p = some (.lst [.ref L, .int turn, .int carry]) ∧ H L = some (.lst (ns.map V.int)) ∧ L ≠ p ∧ ns.length ≤ 63 ∧ 0 ≤ turn ∧ turn ≤ B ∧ 0 ≤ carry
theorem Pen.keep {L : Addr} {H H' : Hp} {p : Addr} {B : Int} (h : Pen L H p B) (k : Same H H') : Pen L H' p B := by
  obtain ⟨ns, t, c, h1, h2, h3, h4, h5, h6, h7⟩ := h
  exact ⟨ns, t, c, k _ _ h1, k _ _ h2, h3, h4, h5, h6, h7⟩
theorem Pen.mono {L : Addr} {H : Hp} {p : Addr} {B B' : Int} (h : Pen L H p B) (k : B ≤ B') : Pen L H p B' := by
  obtain ⟨ns, t, c, h1, h2, h3, h4, h5, h6, h7⟩ := h
  exact ⟨ns, t, c, h1, h2, h3, h4, h5, by omega, h7⟩
def spDraw : Sp := fun vs H Q _ => ∃ (p L : Addr) (m B : Int), vs = [.ref p, .int m] ∧ 1 ≤ m ∧ m ≤ 1000000000000000000000000000000000000000000000000000000000000 ∧ B ≤ 1000000 ∧ Pen L H p B ∧
  ∀ (d : Int) (H' : Hp), But p H H' → Pen L H' p (B + 1) → 0 ≤ d → d < m → Q (.int d) H'
theorem dpInts {K : PySem.W.Frag} {H : Hp} : ∀ ns : List Int, DpAll K H (ns.map V.int) (ns.map PyData.int)
  | [] => .nil
  | n :: r => .cons (.int n) (dpInts r)
theorem sh_ints (ns : List Int) : SeqAt.shaped (.list (ns.map PyData.int)) = true := by
  have h1 : ∀ ns : List Int, PyData.canLayAll0 (ns.map PyData.int) = true := by
    intro ns
    induction ns with
    | nil => rfl
    | cons n r ih => simp [PyData.canLayAll0, PyData.canLay0, ih]
  have h2 : ∀ ns : List Int, PyData.depthAll (ns.map PyData.int) ≤ 1 := by
    intro ns
    induction ns with
    | nil => simp [PyData.depthAll]
    | cons n r ih => simp [PyData.depthAll, PyData.depth]; omega
  unfold SeqAt.shaped
  rw [Bool.and_eq_true]
  refine ⟨by simp [PyData.canLay0, h1], decide_eq_true ?_⟩
  have := h2 ns
  simp [PyData.depth]; omega
theorem eqv_nil (ns : List Int) : PyData.eqv (.list (ns.map PyData.int)) (.list []) = ns.isEmpty := by
  cases ns <;> simp [PyData.eqv, PyData.eqvAll]
section
variable {P : Program} {w : World} {K : PySem.W.Frag} {mg : Str → Option Value} {base : Heap}
/-- built-ins that the program does not cover -/
structure Blt (mg : Str → Option Value) : Prop where
  int : mg "int" = none
  len : mg "len" = none
  abs : mg "abs" = none
  list : mg "list" = none
  min : mg "min" = none
  max : mg "max" = none
  isi : mg "isinstance" = none
  bool : mg "bool" = none
  tuple : mg "tuple" = none
  all : mg "all" = none
  range : mg "range" = none
  repr : mg "repr" = none
theorem scD : FnScope ["_law_pen_here", "_law_many", "_law_digit", "_law_spot_here", "_law_cell", "_law_great", "_law_mixed"] ["_law_pen_here", "_law_many"] (defScope sDraw) := ⟨rfl, rfl, rfl, by decide +kernel, rfl, by decide +kernel, by decide +kernel⟩
theorem fmod_lo (a : Int) {m : Int} (h : 1 ≤ m) : 0 ≤ a.fmod m := by rw [Int.fmod_eq_emod_of_nonneg a (by omega)]; exact Int.emod_nonneg a (by omega)
theorem fmod_hi (a : Int) {m : Int} (h : 1 ≤ m) : a.fmod m < m := by rw [Int.fmod_eq_emod_of_nonneg a (by omega)]; exact Int.emod_lt_of_pos a (by omega)
theorem fdiv_lo {a m : Int} (h : 1 ≤ m) (h0 : 0 ≤ a) : 0 ≤ a.fdiv m := by rw [Int.fdiv_eq_ediv_of_nonneg a (by omega)]; exact Int.ediv_nonneg h0 (by omega)
theorem cell_at {ns : List Int} (h : ns ≠ []) (t : Int) : ∃ c : Int, atI (ns.map V.int) (t.fmod (((ns.map V.int).length : Nat) : Int)) = some (V.int c) := by
  rw [List.length_map]
  have l : 0 < ns.length := List.length_pos_iff.mpr h
  have h1 : 0 ≤ t.fmod (ns.length : Int) := fmod_lo t (by omega)
  have h2 : t.fmod (ns.length : Int) < ns.length := fmod_hi t (by omega)
  generalize t.fmod (ns.length : Int) = i at h1 h2
  obtain ⟨j, rfl⟩ := Int.eq_ofNat_of_zero_le h1
  have hj : j < ns.length := by omega
  exact ⟨ns[j], atI_nat (by rw [List.getElem?_map, List.getElem?_eq_getElem hj]; rfl)⟩
theorem mul_le_of {a b A B : Int} (a0 : 0 ≤ a) (b0 : 0 ≤ b) (ha : a ≤ A) (hb : b ≤ B) : 0 ≤ a * b ∧ a * b ≤ A * B :=
  ⟨Int.mul_nonneg a0 b0, Int.mul_le_mul ha hb b0 (by omega)⟩
theorem bound1 (c : Int) {M C D t : Int} (hM : 1 ≤ M) (hM2 : M ≤ 4294967296) (hC : 0 ≤ C ∧ C ≤ 1000000) (hD : 0 ≤ D ∧ D ≤ 1000000) (h0 : 0 ≤ t) (h1 : t ≤ 1000000) : (c.fmod M + C * t + D).natAbs < 2 ^ 64 := by
  have a1 := fmod_lo c hM
  have a2 := fmod_hi c hM
  have ⟨a3, a4⟩ := mul_le_of hC.1 h0 hC.2 h1
  omega
theorem bound2 {x C5 C6 C7 t : Int} (hx : 0 ≤ x ∧ x < 4294967296) (h5 : 0 ≤ C5 ∧ C5 ≤ 1000000) (h6 : 0 ≤ C6 ∧ C6 ≤ 1000000) (h7 : 0 ≤ C7 ∧ C7 ≤ 1000000) (h0 : 0 ≤ t) (h1 : t ≤ 1000000) :
    (x * (2 * t + C5) + C6 * t * t + C7).natAbs < 2 ^ 64 := by
  have ⟨a1, a2⟩ := mul_le_of (b := 2 * t + C5) (A := 4294967296) (B := 3000000) hx.1 (by omega) (by omega) (by omega)
  have ⟨a3, a4⟩ := mul_le_of h6.1 h0 h6.2 h1
  have ⟨a5, a6⟩ := mul_le_of a3 h0 a4 h1
  omega
theorem great_nn {c e : Int} (h : e ≤ (if c < 0 then -c else c)) (b : Bool) : 0 ≤ 2 * ((if c < 0 then -c else c) - e) + (if b = true then 1 else 0) := by
  cases b
  · rw [if_neg Bool.false_ne_true]; omega
  · rw [if_pos rfl]; omega
theorem lt64 {x : Int} (h : 0 ≤ x ∧ x < 4294967296) : -(2 ^ 64) < x ∧ x < 2 ^ 64 := ⟨by omega, by omega⟩
theorem nz {M : Int} (h : 0 < M) : M ≠ 0 := by omega
theorem divW {i m : Int} (h : 1 ≤ m) (h2 : m ≤ 1000000000000000000000000000000000000000000000000000000000000) : CDivW i m := wide_div (b := 200) (by omega) (by omega) (by decide) (by decide)
theorem ediv_lo {a m : Int} (h : 1 ≤ m) (h0 : 0 ≤ a) : 0 ≤ a / m := Int.ediv_nonneg h0 (by omega)
theorem ok_draw {f : Addr} {fd : FuncData} (F : Fun K "_law_draw" "_law_draw" sDraw f fd) (T : Blt mg) : FnOk P w K mg base CX0 1 f fd ["_law_pen_here", "_law_many"] spDraw := by
  refine F.ok scD (fun vs H Q E h => ?_) (fun cdv A outer s H vs Q E hr h => ?_)
  · obtain ⟨p, L, m, B, rfl, _⟩ := h
    rfl
  · obtain ⟨p, L, m, B, rfl, hm, hm2, hB, ⟨ns, tn, ca, hp, hL, Lp, hlen, t0, tB, c0⟩, k⟩ := h
    have hu := hu_of hr
    refine ⟨_, pss_cons (ps_if (pt_cmpR op_gt (pe_ix ix_list (pv 0) pe_int (fun _ _ => rfl)) pe_int (nomark _))
        (pss_cons (ps_set (i := 2) scD.nd rfl (.inl rfl) (pe_op op_modN (pe_callTy call_int1 (by rfl) T.int (by decide +kernel) (pa_cons (pe_ix ix_list (pv 0) pe_int (fun _ _ => rfl)) pa_nil)) (pv 1)))
        (pss_cons (ps_asg (pe_op op_fdivW (pe_callTy call_int1 (by rfl) T.int (by decide +kernel) (pa_cons (pe_ix ix_list (pv 0) pe_int (fun _ _ => rfl)) pa_nil)) (pv 1)) (pg_sub (pv 0) pe_int set_list))
        (pss_one (ps_ret (pv 2))))) pss_nil)
      (pss_cons (ps_set (i := 3) scD.nd rfl (.inl rfl) (pe_ix ix_list (pv 0) pe_int (fun _ _ => rfl)))
      (pss_cons (ps_asg (pe_op op_add (pv 3) pe_int) (pg_sub (pv 0) pe_int set_list))
      (pss_cons (ps_set (i := 4) scD.nd rfl (.inl rfl) (pe_op op_add (pe_op op_mul pe_int (pv 3)) pe_int))
      (pss_cons (ps_if (pt_cmpR (op_neD hr.units) (pe_ix ix_list (pv 0) pe_int (fun _ _ => rfl)) (pe_lst pa_nil) (nomark _))
        (pss_one (ps_set (i := 4) scD.nd rfl (.inl rfl) (pe_ix ix_list (pe_ix ix_list (pv 0) pe_int (fun _ _ => rfl))
          (pe_op op_modN (pe_callTy call_int1 (by rfl) T.int (by decide +kernel) (pa_cons (pv 3) pa_nil)) (pe_callB call_len_seq (by rfl) T.len PySem.boot_len (pa_cons (pe_ix ix_list (pv 0) pe_int (fun _ _ => rfl)) pa_nil))) (fun _ _ => rfl)))) pss_nil)
      (pss_cons (ps_if (PW.pt (pw_and (pt_cmpR op_lt (pv 3) (pe_callB call_len_seq (by rfl) T.len PySem.boot_len (pa_cons (pe_ix ix_list (pv 0) pe_int (fun _ _ => rfl)) pa_nil)) (nomark _))
          (pw_and1 (pt_cmpR op_ge (pe_callB call_abs (by rfl) T.abs (by decide +kernel) (pa_cons (pv 4) pa_nil)) (pe_op op_pow pe_int pe_int) (nomark _)))))
        (pss_cons (ps_set (i := 5) scD.nd rfl (.inl rfl) (pe_op op_add (pe_op op_mul pe_int (pe_op op_sub (pe_callB call_abs (by rfl) T.abs (by decide +kernel) (pa_cons (pv 4) pa_nil)) (pe_op op_pow pe_int pe_int)))
            (pe_callTy call_int1 (by rfl) T.int (by decide +kernel) (pa_cons (pe_cmpR op_lt (pv 4) pe_int (nomark _)) pa_nil))))
        (pss_cons (ps_asg (pe_op op_fdivW (pe_callTy call_int1 (by rfl) T.int (by decide +kernel) (pa_cons (pv 5) pa_nil)) (pv 1)) (pg_sub (pv 0) pe_int set_list))
        (pss_one (ps_ret (pe_op op_modN (pe_callTy call_int1 (by rfl) T.int (by decide +kernel) (pa_cons (pv 5) pa_nil)) (pv 1)))))) pss_nil)
      (pss_cons (ps_set (i := 6) scD.nd rfl (.inl rfl) (pe_op op_modN (pe_callTy call_int1 (by rfl) T.int (by decide +kernel) (pa_cons (pe_op op_pow (pe_op op_add (pe_op op_add
          (pe_op op_modN (pe_callTy call_int1 (by rfl) T.int (by decide +kernel) (pa_cons (pv 4) pa_nil)) pe_int) (pe_op op_mul pe_int (pv 3))) pe_int) pe_int) pa_nil)) pe_int))
      (pss_cons (ps_set (i := 6) scD.nd rfl (.inl rfl) (pe_op op_modN (pe_callTy call_int1 (by rfl) T.int (by decide +kernel) (pa_cons (pe_op op_pow (pe_op op_add (pe_op op_add
          (pe_op op_mul (pv 6) (pe_op op_add (pe_op op_mul pe_int (pv 3)) pe_int)) (pe_op op_mul (pe_op op_mul pe_int (pv 3)) (pv 3))) pe_int) pe_int) pa_nil)) pe_int))
      (pss_one (ps_ret (pe_op op_modN (pe_callTy call_int1 (by rfl) T.int (by decide +kernel) (pa_cons (pe_op op_fdivN (pv 6) pe_int) pa_nil)) (pv 1))))))))))), ?_⟩
    have i2 : ∀ {a b c : V}, atI [a, b, c] 2 = some c := fun {a b c} => atI_nat (j := 2) rfl
    have i1 : ∀ {a b c : V}, atI [a, b, c] 1 = some b := fun {a b c} => atI_nat (j := 1) rfl
    have i0 : ∀ {a b c : V}, atI [a, b, c] 0 = some a := fun {a b c} => atI_nat (j := 0) rfl
    -- if pen[2] > 0
    refine ⟨_, rfl, p, _, 2, _, rfl, rfl, SqL.of hp, i2, _, _, rfl, rfl, _, rfl, ite2 (fun e => ?_) (fun e => ?_)⟩
    · -- digit
      refine ⟨_, rfl, p, _, 2, _, rfl, rfl, SqL.of hp, i2, .inl ⟨_, rfl, _, rfl, _, _, rfl, rfl, (by omega), ?_⟩⟩
      refine ⟨_, rfl, p, _, 2, _, rfl, rfl, SqL.of hp, i2, .inl ⟨_, rfl, _, rfl, _, _, rfl, rfl, divW hm hm2, _, rfl, p, _, _, 2, rfl, rfl, hp, rfl, ?_⟩⟩
      refine ⟨_, rfl, ?_⟩
      exact k _ _ But.upd_at ⟨ns, tn, _, upd_same, by rw [upd_ne Lp]; exact hL, Lp, hlen, t0, by omega, ediv_lo hm c0⟩ (fmod_lo _ hm) (fmod_hi _ hm)
    · -- turn
      refine ⟨_, rfl, p, _, 1, _, rfl, rfl, SqL.of hp, i1, ?_⟩
      refine ⟨_, rfl, _, _, rfl, rfl, _, rfl, p, _, _, 1, rfl, rfl, hp, rfl, ?_⟩
      have hp1 : upd H p (.lst ([V.ref L, V.int tn, V.int ca].set 1 (V.int (tn + 1)))) p = some (.lst [.ref L, .int (tn + 1), .int ca]) := upd_same
      have hL1 : upd H p (.lst ([V.ref L, V.int tn, V.int ca].set 1 (V.int (tn + 1)))) L = some (.lst (ns.map V.int)) := by rw [upd_ne Lp]; exact hL
      have b1 : But p H (upd H p (.lst ([V.ref L, V.int tn, V.int ca].set 1 (V.int (tn + 1))))) := But.upd_at
      generalize upd H p (.lst ([V.ref L, V.int tn, V.int ca].set 1 (V.int (tn + 1)))) = H1 at hp1 hL1 b1 ⊢
      -- cell = c * turn + c'
      refine ⟨_, rfl, _, _, rfl, rfl, .inl ⟨by decide, by decide⟩, _, _, rfl, rfl, ?_⟩
      -- if pen[0] != []
      refine ⟨_, rfl, p, _, 0, _, rfl, rfl, SqL.of hp1, i0, by decide, fun l hl => ?_⟩
      have n1 : p ≠ l := ne_of_none hp1 hl
      have n2 : L ≠ l := ne_of_none hL1 hl
      have hp2 : upd H1 l (.lst []) p = some (.lst [.ref L, .int (tn + 1), .int ca]) := by rw [upd_ne n1]; exact hp1
      have hL2 : upd H1 l (.lst []) L = some (.lst (ns.map V.int)) := by rw [upd_ne n2]; exact hL1
      have hl2 : upd H1 l (.lst []) l = some (.lst []) := upd_same
      have b2 : But p H (upd H1 l (.lst [])) := b1.trans (But.upd_new hl)
      clear b1 hp1 hL1
      generalize upd H1 l (.lst []) = H2 at hp2 hL2 hl2 b2
      refine ⟨_, _, .lst (SqL.of hL2) (dpInts ns), .lst (SqL.of hl2) .nil, sh_ints ns, sh_ints [], _, rfl, ?_⟩
      rw [eqv_nil]
      -- the rest, for any cell
      have hcell : ∀ c : Int, ∃ j : Int, (if c < 0 then -c else c) = j ∧ 0 ≤ j := fun c => by
        by_cases z : c < 0
        · exact ⟨_, rfl, by rw [if_pos z]; omega⟩
        · exact ⟨_, rfl, by rw [if_neg z]; omega⟩
      have fin : ∀ H' : Hp, H' p = some (.lst [.ref L, .int (tn + 1), .int ca]) → H' L = some (.lst (ns.map V.int)) → But p H H' → Pen L H' p (B + 1) := fun H' e1 e2 _ =>
        ⟨ns, tn + 1, ca, e1, e2, Lp, hlen, by omega, by omega, c0⟩
      have ht : tn ≤ 1000000 := by omega
      have hm6 : 0 ≤ 66905 * tn ∧ 66905 * tn ≤ 66905 * 1000000 := mul_le_of (by decide) t0 (Int.le_refl _) ht
      have hq : ∀ {x m : Int}, 1 ≤ m → m ≤ 4294967296 → 0 ≤ x.fmod m ∧ x.fmod m < 4294967296 := fun {x m} h1 h2 => ⟨fmod_lo x h1, by have := fmod_hi x h1; omega⟩
      cases hn : ns with
      | nil =>
        refine iteF ?_
        refine ⟨_, rfl, _, rfl, p, _, 0, _, rfl, rfl, SqL.of hp2, i0, L, _, rfl, .inl (SqL.of hL2), _, _, rfl, rfl, _, rfl, ite2 (fun e1 => ?_) (fun e1 => ?_)⟩
        · refine ⟨_, rfl, _, rfl, _, _, rfl, rfl, ⟨by decide, by decide, by decide⟩, _, _, rfl, rfl, _, rfl, ite2 (fun e2 => ?_) (fun e2 => ?_)⟩
          · refine ⟨_, rfl, _, rfl, _, _, rfl, rfl, ⟨by decide, by decide, by decide⟩, _, _, rfl, rfl, _, _, rfl, rfl, .inl ⟨by decide, by decide⟩, _, rfl, _, _, rfl, rfl, .inr ⟨_, rfl, _, _, rfl, rfl, ?_⟩⟩
            refine ⟨_, rfl, .inl ⟨_, rfl, _, rfl, _, _, rfl, rfl, divW hm hm2, _, rfl, p, _, _, 2, rfl, rfl, hp2, rfl, ?_⟩⟩
            refine ⟨_, rfl, .inl ⟨_, rfl, _, rfl, _, _, rfl, rfl, (by omega), ?_⟩⟩
            refine k _ _ (b2.trans But.upd_at) ⟨_, tn + 1, _, upd_same, by rw [upd_ne Lp]; exact hL2, Lp, hlen, by omega, by omega, ediv_lo hm ?_⟩ (fmod_lo _ hm) (fmod_hi _ hm)
            have e3 := of_decide_eq_true e2
            exact great_nn e3 _
          · skip
            refine ⟨_, rfl, .inl ⟨_, rfl, _, _, rfl, rfl, nz (by decide), _, rfl, _, _, rfl, rfl, .inl ⟨by decide, by decide⟩, _, _, rfl, rfl, _, _, rfl, rfl, _, _, rfl, rfl, ⟨by decide, by decide, bound1 _ (by decide) (by decide) (by decide) (by decide) t0 ht⟩, .inl ⟨_, rfl, _, _, rfl, rfl, nz (by decide), ?_⟩⟩⟩
            refine ⟨_, rfl, _, rfl, _, _, rfl, rfl, .inl ⟨by decide, by decide⟩, _, _, rfl, rfl, _, _, rfl, rfl, .inl ?_, _, rfl, _, _, rfl, rfl, .inl ⟨by decide, by decide⟩, _, rfl, _, _, rfl, rfl, .inl ?_, _, _, rfl, rfl, _, _, rfl, rfl, _, _, rfl, rfl, ⟨by decide, by decide, ?_⟩, .inl ⟨_, rfl, _, _, rfl, rfl, nz (by decide), ?_⟩⟩
            · exact lt64 (hq (by decide) (by decide))
            · exact ⟨by omega, by omega⟩
            · exact bound2 (hq (by decide) (by decide)) (by decide) (by decide) (by decide) t0 ht
            · refine ⟨_, rfl, _, _, rfl, rfl, ⟨by decide, by decide⟩, .inl ⟨_, rfl, _, rfl, _, _, rfl, rfl, (by omega), ?_⟩⟩
              exact k _ _ b2 (fin _ hp2 hL2 b2) (fmod_lo _ hm) (fmod_hi _ hm)
        · skip
          refine ⟨_, rfl, .inl ⟨_, rfl, _, _, rfl, rfl, nz (by decide), _, rfl, _, _, rfl, rfl, .inl ⟨by decide, by decide⟩, _, _, rfl, rfl, _, _, rfl, rfl, _, _, rfl, rfl, ⟨by decide, by decide, bound1 _ (by decide) (by decide) (by decide) (by decide) t0 ht⟩, .inl ⟨_, rfl, _, _, rfl, rfl, nz (by decide), ?_⟩⟩⟩
          refine ⟨_, rfl, _, rfl, _, _, rfl, rfl, .inl ⟨by decide, by decide⟩, _, _, rfl, rfl, _, _, rfl, rfl, .inl ?_, _, rfl, _, _, rfl, rfl, .inl ⟨by decide, by decide⟩, _, rfl, _, _, rfl, rfl, .inl ?_, _, _, rfl, rfl, _, _, rfl, rfl, _, _, rfl, rfl, ⟨by decide, by decide, ?_⟩, .inl ⟨_, rfl, _, _, rfl, rfl, nz (by decide), ?_⟩⟩
          · exact lt64 (hq (by decide) (by decide))
          · exact ⟨by omega, by omega⟩
          · exact bound2 (hq (by decide) (by decide)) (by decide) (by decide) (by decide) t0 ht
          · refine ⟨_, rfl, _, _, rfl, rfl, ⟨by decide, by decide⟩, .inl ⟨_, rfl, _, rfl, _, _, rfl, rfl, (by omega), ?_⟩⟩
            exact k _ _ b2 (fin _ hp2 hL2 b2) (fmod_lo _ hm) (fmod_hi _ hm)
      | cons n0 nr =>
        refine iteT ?_
        obtain ⟨c, hc⟩ := cell_at (ns := ns) (by rw [hn]; exact List.cons_ne_nil _ _) tn
        refine ⟨_, rfl, p, _, 0, _, rfl, rfl, SqL.of hp2, i0, _, rfl, .inl ⟨_, rfl, _, rfl, p, _, 0, _, rfl, rfl, SqL.of hp2, i0, L, _, rfl, .inl (SqL.of hL2), _, _, rfl, rfl, (by rw [List.length_map, hn, List.length_cons]; omega), L, _, _, _, rfl, rfl, SqL.of hL2, hc, ?_⟩⟩
        refine ⟨_, rfl, _, rfl, p, _, 0, _, rfl, rfl, SqL.of hp2, i0, L, _, rfl, .inl (SqL.of hL2), _, _, rfl, rfl, _, rfl, ite2 (fun e1 => ?_) (fun e1 => ?_)⟩
        · refine ⟨_, rfl, _, rfl, _, _, rfl, rfl, ⟨by decide, by decide, by decide⟩, _, _, rfl, rfl, _, rfl, ite2 (fun e2 => ?_) (fun e2 => ?_)⟩
          · refine ⟨_, rfl, _, rfl, _, _, rfl, rfl, ⟨by decide, by decide, by decide⟩, _, _, rfl, rfl, _, _, rfl, rfl, .inl ⟨by decide, by decide⟩, _, rfl, _, _, rfl, rfl, .inr ⟨_, rfl, _, _, rfl, rfl, ?_⟩⟩
            refine ⟨_, rfl, .inl ⟨_, rfl, _, rfl, _, _, rfl, rfl, divW hm hm2, _, rfl, p, _, _, 2, rfl, rfl, hp2, rfl, ?_⟩⟩
            refine ⟨_, rfl, .inl ⟨_, rfl, _, rfl, _, _, rfl, rfl, (by omega), ?_⟩⟩
            refine k _ _ (b2.trans But.upd_at) ⟨_, tn + 1, _, upd_same, by rw [upd_ne Lp]; exact hL2, Lp, hlen, by omega, by omega, ediv_lo hm ?_⟩ (fmod_lo _ hm) (fmod_hi _ hm)
            have e3 := of_decide_eq_true e2
            exact great_nn e3 _
          · skip
            refine ⟨_, rfl, .inl ⟨_, rfl, _, _, rfl, rfl, nz (by decide), _, rfl, _, _, rfl, rfl, .inl ⟨by decide, by decide⟩, _, _, rfl, rfl, _, _, rfl, rfl, _, _, rfl, rfl, ⟨by decide, by decide, bound1 _ (by decide) (by decide) (by decide) (by decide) t0 ht⟩, .inl ⟨_, rfl, _, _, rfl, rfl, nz (by decide), ?_⟩⟩⟩
            refine ⟨_, rfl, _, rfl, _, _, rfl, rfl, .inl ⟨by decide, by decide⟩, _, _, rfl, rfl, _, _, rfl, rfl, .inl ?_, _, rfl, _, _, rfl, rfl, .inl ⟨by decide, by decide⟩, _, rfl, _, _, rfl, rfl, .inl ?_, _, _, rfl, rfl, _, _, rfl, rfl, _, _, rfl, rfl, ⟨by decide, by decide, ?_⟩, .inl ⟨_, rfl, _, _, rfl, rfl, nz (by decide), ?_⟩⟩
            · exact lt64 (hq (by decide) (by decide))
            · exact ⟨by omega, by omega⟩
            · exact bound2 (hq (by decide) (by decide)) (by decide) (by decide) (by decide) t0 ht
            · refine ⟨_, rfl, _, _, rfl, rfl, ⟨by decide, by decide⟩, .inl ⟨_, rfl, _, rfl, _, _, rfl, rfl, (by omega), ?_⟩⟩
              exact k _ _ b2 (fin _ hp2 hL2 b2) (fmod_lo _ hm) (fmod_hi _ hm)
        · skip
          refine ⟨_, rfl, .inl ⟨_, rfl, _, _, rfl, rfl, nz (by decide), _, rfl, _, _, rfl, rfl, .inl ⟨by decide, by decide⟩, _, _, rfl, rfl, _, _, rfl, rfl, _, _, rfl, rfl, ⟨by decide, by decide, bound1 _ (by decide) (by decide) (by decide) (by decide) t0 ht⟩, .inl ⟨_, rfl, _, _, rfl, rfl, nz (by decide), ?_⟩⟩⟩
          refine ⟨_, rfl, _, rfl, _, _, rfl, rfl, .inl ⟨by decide, by decide⟩, _, _, rfl, rfl, _, _, rfl, rfl, .inl ?_, _, rfl, _, _, rfl, rfl, .inl ⟨by decide, by decide⟩, _, rfl, _, _, rfl, rfl, .inl ?_, _, _, rfl, rfl, _, _, rfl, rfl, _, _, rfl, rfl, ⟨by decide, by decide, ?_⟩, .inl ⟨_, rfl, _, _, rfl, rfl, nz (by decide), ?_⟩⟩
          · exact lt64 (hq (by decide) (by decide))
          · exact ⟨by omega, by omega⟩
          · exact bound2 (hq (by decide) (by decide)) (by decide) (by decide) (by decide) t0 ht
          · refine ⟨_, rfl, _, _, rfl, rfl, ⟨by decide, by decide⟩, .inl ⟨_, rfl, _, rfl, _, _, rfl, rfl, (by omega), ?_⟩⟩
            exact k _ _ b2 (fin _ hp2 hL2 b2) (fmod_lo _ hm) (fmod_hi _ hm)
end
end Ev
namespace Ev
open PySem L2 PySem.Spec PyProof.Rows
abbrev sParts : Stmt := sPartsOf
abbrev sBRInit : Stmt := sBadRule_init

abbrev sNums : Stmt := sLNumbers
abbrev sRule : Stmt := sLRule
theorem same_new {H : Hp} {q : Addr} {o : HO} (n : H q = none) : Same H (upd H q o) := fun b u e => by rw [upd_ne (ne_of_none e n)]; exact e
theorem Same.gone {H H' : Hp} {p : Addr} (k : Same H H') (n : H' p = none) : H p = none := by
  cases z : H p with
  | none => rfl
  | some o => rw [k _ _ z] at n; cases n
/-- a def that stands under its name -/
structure Df (P : Program) (w : World) (K : PySem.W.Frag) (mg : Str → Option Value) (base : Heap) (k : Nat) (x : Str) (ps : List Str) (sp : Sp) : Prop where
  ex : ∃ (f : Addr) (fd : FuncData), FnOk P w K mg base CX0 k f fd ps sp ∧ mg x = some (.ref f) ∧ PySem.W.keepIn K (.ref f) = true ∧ Binds K fd ps []
theorem extN_refl (H : Hp) : LamX.ExtN H H := fun _ _ e _ => e
theorem sx {H H1 H2 : Hp} (k : Same H H1) (q : LamX.ExtN H1 H2) : LamX.ExtN H H2 := fun b o e t => q b o (k b o e) t
theorem xx {H H1 H2 : Hp} (k : LamX.ExtN H H1) (q : LamX.ExtN H1 H2) : LamX.ExtN H H2 := fun b o e t => q b o (k b o e t) t
/-- no integer -/
def NoInt (H : Hp) (v : V) : Prop := (∀ i, v ≠ .int i) ∧ ∃ (T : String) (b c : Bool), (∀ (K : PySem.W.Frag) (H' : Hp), LamX.ExtN H H' → TyX K H' v (.type T)) ∧ kitB T "int" = some b ∧ kitB T "bool" = some c ∧ (b = true → c = true)
theorem NoInt.keep {H H' : Hp} {v : V} (h : NoInt H v) (k : Same H H') : NoInt H' v := by
  obtain ⟨n, T, b, c, ty, r⟩ := h
  exact ⟨n, T, b, c, fun K G q => ty K G (sx k q), r⟩
theorem NoInt.ext {H H' : Hp} {v : V} (h : NoInt H v) (k : LamX.ExtN H H') : NoInt H' v := by
  obtain ⟨n, T, b, c, ty, r⟩ := h
  exact ⟨n, T, b, c, fun K G q => ty K G (xx k q), r⟩
/-- an integer or none -/
def IntQ (H : Hp) (v : V) : Prop := (∃ i, v = .int i) ∨ NoInt H v
theorem IntQ.keep {H H' : Hp} {v : V} (h : IntQ H v) (k : Same H H') : IntQ H' v := h.imp id fun n => n.keep k
theorem IntQ.ext {H H' : Hp} {v : V} (h : IntQ H v) (k : LamX.ExtN H H') : IntQ H' v := h.imp id fun n => n.ext k
def isI : V → Bool
  | .int _ => true
  | _ => false
def inB (l m : Int) : V → Bool
  | .int i => decide (l ≤ i) && decide (i ≤ m)
  | _ => false
theorem isI_no {H : Hp} {v : V} (h : NoInt H v) : isI v = false := by
  cases v <;> first | rfl | exact absurd rfl (h.1 _)
theorem inB_no {H : Hp} {v : V} (h : NoInt H v) (l m : Int) : inB l m v = false := by
  cases v <;> first | rfl | exact absurd rfl (h.1 _)
/-- what stands in such a tuple -/
def Scal (v : V) : Prop := (∃ i, v = .int i) ∨ (∃ b, v = .bl b) ∨ v = .str "2"
theorem noInt_bl (H : Hp) (b : Bool) : NoInt H (.bl b) := ⟨fun i z => (by cases z), "bool", true, true, fun _ _ _ => .base (.bl b), by decide +kernel, by decide +kernel, fun _ => rfl⟩
theorem noInt_str (H : Hp) (x : Str) : NoInt H (.str x) := ⟨fun i z => (by cases z), "str", false, false, fun _ _ _ => .base (.str x), by decide +kernel, by decide +kernel, fun z => z⟩
theorem Scal.q {H : Hp} {v : V} (h : Scal v) : IntQ H v := by
  rcases h with ⟨i, rfl⟩ | ⟨b, rfl⟩ | rfl
  · exact .inl ⟨i, rfl⟩
  · exact .inr (noInt_bl H b)
  · exact .inr (noInt_str H _)
/-- no tuple -/
def NoTup (H : Hp) (v : V) : Prop := ∃ T : String, (∀ (K : PySem.W.Frag) (H' : Hp), LamX.ExtN H H' → TyX K H' v (.type T)) ∧ kitB T "tuple" = some false
theorem NoTup.keep {H H' : Hp} {v : V} (h : NoTup H v) (k : Same H H') : NoTup H' v := by
  obtain ⟨T, ty, r⟩ := h
  exact ⟨T, fun K G q => ty K G (sx k q), r⟩
theorem NoTup.ext {H H' : Hp} {v : V} (h : NoTup H v) (k : LamX.ExtN H H') : NoTup H' v := by
  obtain ⟨T, ty, r⟩ := h
  exact ⟨T, fun K G q => ty K G (xx k q), r⟩
/-- a tuple of such values, or no tuple: xs tells which -/
def PairQ (H : Hp) (v : V) : Option (List V) → Prop
  | some xs => ∃ a, v = .ref a ∧ H a = some (.tup xs) ∧ xs.length ≤ 1000 ∧ ∀ x ∈ xs, Scal x
  | none => NoTup H v
theorem PairQ.keep {H H' : Hp} {v : V} {o : Option (List V)} (h : PairQ H v o) (k : Same H H') : PairQ H' v o := by
  cases o with
  | none => exact NoTup.keep h k
  | some xs =>
    obtain ⟨a, e, h1, h2, h3⟩ := h
    exact ⟨a, e, k _ _ h1, h2, h3⟩
theorem PairQ.ext {H H' : Hp} {v : V} {o : Option (List V)} (h : PairQ H v o) (k : LamX.ExtN H H') : PairQ H' v o := by
  cases o with
  | none => exact NoTup.ext h k
  | some xs =>
    obtain ⟨a, e, h1, h2, h3⟩ := h
    exact ⟨a, e, k _ _ h1 (fun _ z => by cases z), h2, h3⟩
def pairB (m : Int) : Option (List V) → Bool
  | some [x, y] => inB 1 m x && inB 1 m y
  | _ => false
def leV : V → V → Bool
  | .int i, .int j => decide (j ≤ i)
  | _, _ => false
def timesB : Option (List V) → Bool
  | some [x, y] => (inB 1 6 x && inB 1 6 y) && leV x y
  | _ => false
def spIsIntA : Sp := fun vs H Q _ => ∃ v : V, vs = [v] ∧ IntQ H v ∧ Q (.bl (isI v)) H
def spWithinA : Sp := fun vs H Q _ => ∃ (v : V) (l m : Int), vs = [v, .int l, .int m] ∧ IntQ H v ∧ Q (.bl (inB l m v)) H
def spPairA : Sp := fun vs H Q _ => ∃ (v : V) (o : Option (List V)) (m : Int), vs = [v, .int m] ∧ PairQ H v o ∧ ∀ H', Same H H' → Q (.bl (pairB m o)) H'
def spTimesA : Sp := fun vs H Q _ => ∃ (v : V) (o : Option (List V)), vs = [v] ∧ PairQ H v o ∧ ∀ H', Same H H' → Q (.bl (timesB o)) H'
def spPlusA : Sp := fun vs H Q _ => ∃ v : V, vs = [v] ∧ IntQ H v ∧ Q (.bl (inB (-6) 6 v)) H
def spTurnA : Sp := fun vs H Q _ => ∃ (v : V) (o : Option (List V)), vs = [v] ∧ PairQ H v o ∧ ∀ H', Same H H' → Q (.bl (pairB 8 o)) H'
theorem lc_pureV {J : It} {n : Nat} {G : Hp → Prop} {Y : Nat → Hp → V → Hp → Prop} (W : Walk J n G Y) {g : TG} {tt : TT} {te : TE} {vs : List Nat} {σ : L2.St} {H1 : Hp} {D : Addr} {Qd : Hp → Prop} (rs : List V) (hn : rs.length = n) (hb : n ≤ 4000)
    (hG : ∀ H, But D H1 H → G H)
    (step : ∀ (i : Nat) (x : V) (H H' : Hp) (r : V), i < n → rs[i]? = some r → But D H1 H → (∃ acc, H D = some (.lst acc)) → Y i H x H' → ∀ (R : VK) (Wk : Hp → Prop), (∀ H4, Same H H4 → R r H4) →
      g x (wipe σ vs) H' fun σ2 H2 => wipe σ2 vs = wipe σ vs ∧ tt σ2 H2 fun b H3 => if b = true then te σ2 H3 R else Wk H3)
    (fin : ∀ H, But D H1 H → H D = some (.lst rs) → Qd H) :
    ∃ W : Nat → Nat → Hp → Prop, (∃ m, W 0 m (upd H1 D (HO.lst []))) ∧ ∀ (i m : Nat) (H : Hp), W i m H → J.stop i H ∧ Qd H ∨ J.go i H ∧ ∃ Nx : Hp → Prop, (∀ (H' : Hp), Nx H' → ∃ m', m' < m ∧ W (i + 1) m' H') ∧
      ∀ (x : V) (H' : Hp), J.yld i H x H' → g x (wipe σ vs) H' fun σ2 H2 => wipe σ2 vs = wipe σ vs ∧ tt σ2 H2 fun b H3 =>
        if b = true then te σ2 H3 fun y H4 => ∃ acc, H4 D = some (HO.lst acc) ∧ acc.length < sizeLine ∧ Nx (upd H4 D (HO.lst (acc ++ [y]))) else Nx H3 := by
  refine lc_it W (fun i H => H D = some (.lst (rs.take i)) ∧ But D H1 H) ⟨upd_same, But.upd_at⟩ (fun i H _ h => hG H h.2) (fun i x H H' hi h y => ?_) (fun H h => ?_)
  · obtain ⟨e1, e2⟩ := h
    have hr : rs[i]? = some rs[i] := List.getElem?_eq_getElem (by omega)
    refine step i x H H' rs[i] hi hr e2 ⟨_, e1⟩ y _ _ fun H4 s4 => ⟨_, s4 _ _ e1, ?_, ?_, ?_⟩
    · rw [List.length_take]
      exact Nat.lt_of_le_of_lt (Nat.min_le_left _ _) (Nat.lt_of_lt_of_le (show i < 4000 by omega) (by decide))
    · rw [List.take_add_one, hr]
      exact upd_same
    · exact fun c o nc ec => by rw [upd_ne nc]; exact s4 _ _ (e2 c o nc ec)
  · obtain ⟨e1, e2⟩ := h
    rw [← hn, List.take_length] at e1
    exact fin H e2 e1
section
variable {P : Program} {w : World} {K : PySem.W.Frag} {mg : Str → Option Value} {base : Heap}
theorem tup1 {a b : V} : atI [a, b] 1 = some b := atI_nat (j := 1) rfl
theorem tup0 {a b : V} : atI [a, b] 0 = some a := atI_nat (j := 0) rfl
theorem scIsInt : FnScope ["value"] ["value"] (defScope sIsInt) := ⟨rfl, rfl, rfl, by decide +kernel, rfl, by decide +kernel, by decide +kernel⟩
theorem ok_isInt {f : Addr} {fd : FuncData} (F : Fun K "is_integer" "is_integer" sIsInt f fd) (T : Blt mg) : FnOk P w K mg base CX0 1 f fd ["value"] spIsIntA := by
  refine F.ok scIsInt (fun vs H Q E h => ?_) (fun cdv A outer s H vs Q E hr h => ?_)
  · obtain ⟨v, rfl, _⟩ := h
    rfl
  · obtain ⟨v, rfl, h, k⟩ := h
    refine ⟨_, pss_one (ps_ret (pe_and (pe_callB call_isi (by rfl) T.isi (by decide +kernel) (pa_cons (pv 0) (pa_cons (pe_bltn (v := .ty "int") (by rfl) T.int (by decide +kernel) rfl) pa_nil)))
      (pe_one (pe_not (pe_callB call_isi (by rfl) T.isi (by decide +kernel) (pa_cons (pv 0) (pa_cons (pe_bltn (v := .ty "bool") (by rfl) T.bool (by decide +kernel) rfl) pa_nil))))))), ?_⟩
    rcases h with ⟨i, rfl⟩ | no
    · exact ⟨_, rfl, _, _, _, _, true, rfl, .ty _, .base (.int i), kit_ty (by decide +kernel), true, rfl, iteT ⟨_, rfl, _, _, _, _, false, rfl, .ty _, .base (.int i), kit_ty (by decide +kernel), _, rfl, k⟩⟩
    · rw [isI_no no] at k
      obtain ⟨_, TT, b, c, ty, e1, e2, e3⟩ := no
      refine ⟨_, rfl, _, _, _, _, b, rfl, .ty _, ty _ _ (extN_refl H), kit_ty e1, b, rfl, ?_⟩
      cases b with
      | false => exact iteF k
      | true => exact iteT ⟨_, rfl, _, _, _, _, true, rfl, .ty _, ty _ _ (extN_refl H), kit_ty (by rw [e2, e3 rfl]), _, rfl, k⟩
theorem scWithin : FnScope ["value", "least", "most"] ["value", "least", "most"] (defScope sWithin) := ⟨rfl, rfl, rfl, by decide +kernel, rfl, by decide +kernel, by decide +kernel⟩
theorem ok_within {f : Addr} {fd : FuncData} (F : Fun K "is_within" "is_within" sWithin f fd) (D : Df P w K mg base 1 "is_integer" ["value"] spIsIntA) : FnOk P w K mg base CX0 2 f fd ["value", "least", "most"] spWithinA := by
  obtain ⟨fI, fdI, GI, gI, kI, bI⟩ := D.ex
  refine F.ok scWithin (fun vs H Q E h => ?_) (fun cdv A outer s H vs Q E hr h => ?_)
  · obtain ⟨v, l, m, rfl, _⟩ := h
    rfl
  · obtain ⟨v, l, m, rfl, h, k⟩ := h
    refine ⟨_, pss_one (ps_ret (pe_and (pe_call GI hr (by rfl) gI kI bI .nil pass0 (pa_cons (pv 0) pa_nil)) (pe_one (pe_chain op_le op_le (pv 1) (pv 0) (pv 2))))), ?_⟩
    refine ⟨_, rfl, _, rfl, h, ?_⟩
    rcases h with ⟨i, rfl⟩ | no
    · refine ⟨true, rfl, iteT ⟨_, rfl, _, rfl, _, _, rfl, rfl, _, rfl, ?_⟩⟩
      have k : Q (.bl (decide (l ≤ i) && decide (i ≤ m))) H := k
      by_cases z : l ≤ i
      · rw [decide_eq_true z] at k ⊢
        refine iteT ⟨_, rfl, _, _, rfl, rfl, ?_⟩
        exact k
      · rw [decide_eq_false z] at k ⊢
        exact iteF k
    · rw [inB_no no] at k
      rw [isI_no no]
      exact ⟨false, rfl, iteF k⟩
theorem scPair : FnScope ["value", "most", "item"] ["value", "most"] (defScope sPair) := ⟨rfl, rfl, rfl, by decide +kernel, rfl, by decide +kernel, by decide +kernel⟩
theorem pairB_len {m : Int} {xs : List V} (h : xs.length ≠ 2) : pairB m (some xs) = false := by
  match xs, h with
  | [], _ => rfl
  | [_], _ => rfl
  | [_, _], h => exact absurd rfl h
  | _ :: _ :: _ :: _, _ => rfl
theorem ok_pair {f : Addr} {fd : FuncData} (F : Fun K "is_pair" "is_pair" sPair f fd) (T : Blt mg) (D : Df P w K mg base 2 "is_within" ["value", "least", "most"] spWithinA) : FnOk P w K mg base CX0 3 f fd ["value", "most"] spPairA := by
  obtain ⟨fW, fdW, GW, gW, kW, bW⟩ := D.ex
  refine F.ok scPair (fun vs H Q E h => ?_) (fun cdv A outer s H vs Q E hr h => ?_)
  · obtain ⟨v, o, m, rfl, _⟩ := h
    rfl
  · obtain ⟨v, o, m, rfl, hv, k⟩ := h
    refine ⟨_, pss_one (ps_ret (pe_and (pe_callB call_isi (by rfl) T.isi (by decide +kernel) (pa_cons (pv 0) (pa_cons (pe_bltn (v := .ty "tuple") (by rfl) T.tuple (by decide +kernel) rfl) pa_nil)))
      (pe_and (pe_cmpR op_eq (pe_callB call_len_seq (by rfl) T.len PySem.boot_len (pa_cons (pv 0) pa_nil)) pe_int (nomark _))
      (pe_one (pe_callB (cr_all rfl) (by rfl) T.all (by decide +kernel) (pa_cons (pe_lc (own := [("item", 2)]) (g := gName 2) (tt := tYes) (te := tCall spWithinA [] E0 (tCons (tVar 2) (tCons (tC (.int 1)) (tCons (tVar 1) tNil)))) (by rfl) scPair.nd (pi_tup (pv 0)) (blkOk_by (own := [("item", 2)]) (N := ["value", "most", "item"]) (sc := defScope sPair) (by decide +kernel))
          (fun _ _ _ _ _ => pg_name (i := 2) scPair.nd rfl (.inl rfl)) (fun _ _ _ _ _ => pts_nil) (fun _ _ _ _ _ => pe_call GW hr (by rfl) gW kW bW .nil pass0 (pa_cons (pv 2) (pa_cons pe_int (pa_cons (pv 1) pa_nil))))) pa_nil)))))), ?_⟩
    cases o with
    | none =>
      obtain ⟨TT, ty, e⟩ := hv
      exact ⟨_, rfl, _, _, _, _, false, rfl, .ty _, ty _ _ (extN_refl H), kit_ty e, false, rfl, iteF (k H (Same.refl H))⟩
    | some xs =>
      obtain ⟨a, rfl, ha, hl, hq⟩ := hv
      refine ⟨_, rfl, _, _, _, _, true, rfl, .ty _, .base (.tup ha), kit_ty (by decide +kernel), true, rfl, iteT ⟨_, rfl, a, _, rfl, .inr (SqT.of ha), rfl, _, rfl, ite2 (fun e => ?_) (fun e => ?_)⟩⟩
      · have e : xs.length = 2 := by
          have e' : (xs.length : Int) = 2 := by simpa using e
          omega
        refine ⟨_, rfl, a, rfl, ⟨_, SqT.of ha⟩, fun D nD => ?_⟩
        have aD := ne_of_none ha nD
        refine lc_pureV (n := xs.length) (walk_tup (xs := xs)) (xs.map fun x => V.bl (inB 1 m x)) (List.length_map _) (by omega) (fun H' h => SqT.of (h _ _ aD ha)) (fun i v H2 H' r hi hr bt _ y R Wk kk => ?_) (fun H' bt hD => ?_)
        · obtain ⟨rfl, hv⟩ := y
          have er : r = V.bl (inB 1 m v) := by
            rw [List.getElem?_map, hv] at hr
            exact (Option.some.inj hr).symm
          subst er
          have sq : IntQ H' v := (hq v (List.mem_of_getElem? hv)).q
          exact ⟨rfl, _, rfl, _, rfl, v, 1, m, rfl, sq, kk _ (Same.refl _)⟩
        · have s1 : Same H H' := fun c o e => bt c o (ne_of_none e nD) e
          have eq : (xs.map fun x => V.bl (inB 1 m x)) = (xs.map fun x => inB 1 m x).map V.bl := by rw [List.map_map]; rfl
          rw [eq] at hD
          refine ⟨D, _, rfl, SqL.of hD, ?_⟩
          match xs, e with
          | [x, y], _ =>
            have := k H' s1
            simpa [pairB] using this
      · have e : xs.length ≠ 2 := by
          have e' : ¬ (xs.length : Int) = 2 := by simpa using e
          omega
        have := k H (Same.refl H)
        rw [pairB_len e] at this
        simpa using this
theorem inB_int {l m : Int} {v : V} (h : inB l m v = true) : ∃ i, v = .int i ∧ l ≤ i ∧ i ≤ m := by
  cases v <;> first | cases h | skip
  rename_i i
  have h : (decide (l ≤ i) && decide (i ≤ m)) = true := h
  rw [Bool.and_eq_true, decide_eq_true_eq, decide_eq_true_eq] at h
  exact ⟨i, rfl, h.1, h.2⟩
theorem pair_cases (m : Int) (o : Option (List V)) : (∃ i j, o = some [.int i, .int j] ∧ (1 ≤ i ∧ i ≤ m) ∧ (1 ≤ j ∧ j ≤ m) ∧ pairB m o = true) ∨ pairB m o = false := by
  cases z : pairB m o with
  | false => exact .inr rfl
  | true =>
    refine .inl ?_
    match o, z with
    | some [x, y], z =>
      have z : (inB 1 m x && inB 1 m y) = true := z
      rw [Bool.and_eq_true] at z
      obtain ⟨i, rfl, h1, h2⟩ := inB_int z.1
      obtain ⟨j, rfl, h3, h4⟩ := inB_int z.2
      exact ⟨i, j, rfl, ⟨h1, h2⟩, ⟨h3, h4⟩, rfl⟩
end
end Ev
namespace Ev
open PySem L2 PySem.Spec PyProof.Rows
section
variable {X : Cx}
theorem pe_never {e : Expr} : PE X e (fun _ _ _ => False) := ⟨fun _ _ _ _ _ _ h => h.elim⟩
end
/-- v is a value of the built-in type T, one that holds nothing -/
structure Flat (v : V) (T : String) : Prop where
  ty : ∀ (K : PySem.W.Frag) (H : Hp), TyX K H v (.type T)
  l : kitB T "list" = some false
  t : kitB T "tuple" = some false
  d : kitB T "dict" = some false
theorem flat_int (i : Int) : Flat (.int i) "int" := ⟨fun _ _ => .base (.int i), by decide +kernel, by decide +kernel, by decide +kernel⟩
theorem flat_str (x : Str) : Flat (.str x) "str" := ⟨fun _ _ => .base (.str x), by decide +kernel, by decide +kernel, by decide +kernel⟩
theorem kit2 {K : PySem.W.Frag} {T a b : String} (h1 : kitB T a = some false) (h2 : kitB T b = some false) : PySem.W.kitAny K (.type T) [.type a, .type b] = some false :=
  kitAny_cons (kit_ty h1) (fun _ => kitAny_cons (kit_ty h2) (fun _ => kitAny_nil) (fun z => by cases z)) (fun z => by cases z)
def spParts : Sp := fun vs H Q _ => ∃ (v : V) (T : String), vs = [v] ∧ Flat v T ∧ ∀ (p : Addr) (H' : Hp), H p = none → Same H H' → H' p = some (.lst []) → Q (.ref p) H'
def spKept : Sp := fun vs H Q _ => ∃ (v : V) (T : String), vs = [v] ∧ Flat v T ∧ ∀ (H' : Hp), Same H H' → Q v H'
section
variable {P : Program} {w : World} {K : PySem.W.Frag} {mg : Str → Option Value} {base : Heap}
theorem scParts : FnScope ["value"] ["value"] (defScope sParts) := ⟨rfl, rfl, rfl, by decide +kernel, rfl, by decide +kernel, by decide +kernel⟩
theorem ok_parts {f : Addr} {fd : FuncData} (F : Fun K "parts_of" "parts_of" sParts f fd) (T : Blt mg) (md : mg "dict" = none) : FnOk P w K mg base CX0 1 f fd ["value"] spParts := by
  refine F.ok scParts (fun vs H Q E h => ?_) (fun cdv A outer s H vs Q E hr h => ?_)
  · obtain ⟨v, TT, rfl, _⟩ := h
    rfl
  · obtain ⟨v, TT, rfl, fl, kk⟩ := h
    refine ⟨_, pss_cons (ps_if (pt_val (pe_callB call_isiT (by rfl) T.isi (by decide +kernel) (pa_cons (pv 0) (pa_cons (pe_tup (pa_cons (pe_bltn (v := .ty "list") (by rfl) T.list (by decide +kernel) rfl) (pa_cons (pe_bltn (v := .ty "tuple") (by rfl) T.tuple (by decide +kernel) rfl) pa_nil))) pa_nil)))) (pss_one ps_never) pss_nil)
      (pss_one (ps_ret (pe_ifExp (pt_val (pe_callB call_isi (by rfl) T.isi (by decide +kernel) (pa_cons (pv 0) (pa_cons (pe_bltn (v := .ty "dict") (by rfl) md (by decide +kernel) rfl) pa_nil)))) pe_never (pe_lst pa_nil)))), ?_⟩
    refine ⟨_, rfl, (by show 2 ≤ sizeLine; decide), fun tp ntp => ⟨v, tp, _, _, _, false, rfl, upd_same, .cons (.ty _) (.cons (.ty _) .nil), fl.ty _ _, kit2 fl.l fl.t, _, rfl, iteF ?_⟩⟩
    refine ⟨_, rfl, v, _, _, _, false, rfl, .ty _, fl.ty _ _, kit_ty fl.d, _, rfl, iteF ⟨(by show 0 ≤ sizeLine; decide), fun p np => ?_⟩⟩
    refine kk p _ ?_ (fun b o e => ?_) upd_same
    · cases e : H p with
      | none => rfl
      | some o => rw [upd_ne (ne_of_none e ntp), e] at np; cases np
    · have e1 : upd H tp (.tup [.ty "list", .ty "tuple"]) b = some o := by rw [upd_ne (ne_of_none e ntp)]; exact e
      rw [upd_ne (ne_of_none e1 np)]; exact e1
theorem kit3 {K : PySem.W.Frag} {T a b c : String} (h1 : kitB T a = some false) (h2 : kitB T b = some false) (h3 : kitB T c = some false) : PySem.W.kitAny K (.type T) [.type a, .type b, .type c] = some false :=
  kitAny_cons (kit_ty h1) (fun _ => kitAny_cons (kit_ty h2) (fun _ => kitAny_cons (kit_ty h3) (fun _ => kitAny_nil) (fun z => by cases z)) (fun z => by cases z)) (fun z => by cases z)
theorem scKept : FnScope ["value"] ["value"] (defScope sKept) := ⟨rfl, rfl, rfl, by decide +kernel, rfl, by decide +kernel, by decide +kernel⟩
theorem ok_kept {f : Addr} {fd : FuncData} (F : Fun K "kept" "kept" sKept f fd) (T : Blt mg) (md : mg "dict" = none) (ma : mg "any" = none) (D : Df P w K mg base 1 "parts_of" ["value"] spParts) : FnOk P w K mg base CX0 2 f fd ["value"] spKept := by
  refine F.ok scKept (fun vs H Q E h => ?_) (fun cdv A outer s H vs Q E hr h => ?_)
  · obtain ⟨v, TT, rfl, _⟩ := h
    rfl
  · obtain ⟨v, TT, rfl, fl, kk⟩ := h
    refine ⟨_, pss_cons (ps_if (pt_not (pt_val (pe_callB call_isiT (by rfl) T.isi (by decide +kernel) (pa_cons (pv 0) (pa_cons (pe_tup (pa_cons (pe_bltn (v := .ty "list") (by rfl) T.list (by decide +kernel) rfl) (pa_cons (pe_bltn (v := .ty "tuple") (by rfl) T.tuple (by decide +kernel) rfl) (pa_cons (pe_bltn (v := .ty "dict") (by rfl) md (by decide +kernel) rfl) pa_nil)))) pa_nil))))) (pss_one (ps_ret (pv 0))) pss_nil)
      (pss_cons ps_never (pss_one ps_never)), ?_⟩
    refine ⟨_, rfl, (by show 3 ≤ sizeLine; decide), fun tp ntp => ⟨v, tp, _, _, _, false, rfl, upd_same, .cons (.ty _) (.cons (.ty _) (.cons (.ty _) .nil)), fl.ty _ _, kit3 fl.l fl.t fl.d, _, rfl, iteT ⟨_, rfl, ?_⟩⟩⟩
    exact kk _ (fun b u e => by rw [upd_ne (ne_of_none e ntp)]; exact e)
end
end Ev
namespace Ev
open PySem L2 PySem.Spec PyProof.Rows
/-! Promises of defs that are called while no repr is under way (so what they make can be shown). -/
structure FnG (P : Program) (w : World) (K : PySem.W.Frag) (mg : Str → Option Value) (base : Heap) (k : Nat) (f : Addr)
    (fd : FuncData) (ps : List Str) (sp : Sp) : Prop where
  many : ∀ vs H Q E, sp vs H Q E → vs.length = ps.length
  goes : ∀ (A : Around) (above : List Env) (s : Shared) (H : Hp) (args : Args) (us : List Value) (vs : List V) (Q : VK)
    (E : XK), Room k A → A.guards = some [] → Env0 P w K mg base A above s H → BindsTo s fd args (ps.zip us) → Vals vs us →
    sp vs H Q E → codeAny (model P w) A (.call (.ref f) args) (CR CX0 above P w H s Q E) s
theorem FnG.of {P : Program} {w : World} {K : PySem.W.Frag} {mg : Str → Option Value} {base : Heap} {k : Nat} {f : Addr}
    {fd : FuncData} {ps : List Str} {sp : Sp} (F : FnOk P w K mg base CX0 k f fd ps sp) : FnG P w K mg base k f fd ps sp :=
  ⟨F.len, fun A above s H args us vs Q E hr _ => F.run A above s H args us vs Q E hr⟩
section
variable {P : Program} {w : World} {K : PySem.W.Frag} {mg : Str → Option Value} {base : Heap}
/-- a def by its body, where no repr is under way -/
theorem fng_code {x qual : Str} {st : Stmt} {f : Addr} {fd : FuncData} {N ps : List Str} {k : Nat} {sp : Sp} (F : Fun K x qual st f fd)
    (S : FnScope N ps (defScope st)) (many : ∀ vs H Q E, sp vs H Q E → vs.length = ps.length)
    (body : ∀ (cdv : Value), fd.code = cdv → ∀ (A : Around) (above : List Env) (s : Shared) (H : Hp) (vs : List V) (Q : VK) (E : XK),
      Room k (A.deeper (envOfC qual (defScope st) s.heap.objs.size f cdv)) → A.guards = some [] → sp vs H Q E →
      ∃ t, PSs (cxOf CX0 P w K mg base N qual (defScope st) f cdv A above s H E).nox (defBody st) t ∧
        t { nx := fun _ H' => Q .non H', rt := Q } (start N vs) H) : FnG P w K mg base (k + 1) f fd ps sp := by
  obtain ⟨oc, od, kV, doc, pm, an, cdv, ct, osl, rfl, lk, hcd⟩ := F.ex
  constructor
  · exact many
  · intro A above s H args us vs Q E room gd env bt rv hs
    have inK : K.In s.heap := env.mod.kin.keeps fun b o e => (env.bs b o e).1
    have noLim : s.heap.NoLimit := env.mod.nolimit.keeps fun b o e => (env.bs b o e).1
    have kinds : ∀ y ∈ ps.zip us, (defScope st).names.lookup y.1 = some .local ∨
        ((defScope st).names.lookup y.1 = some .cell ∧ ((cellsFrom (s.heap.objs.size + 1) (defScope st).names []).lookup y.1).isSome = true) := by
      rintro ⟨n, v⟩ hy
      cases S.par n (List.of_mem_zip hy).1 with
      | inl q => exact .inl q
      | inr q => exact .inr ⟨q, PySem.W.cellsFrom_some _ _ _ (.inl q)⟩
    refine codeAny_call_function room.depth (inK _ _ lk) rfl S.co S.gen rfl (PySem.W.codeRec_of inK hcd) (bt _ _ _ _ ?_)
    refine wpAny_newFunctionEnv_cells S.kind kinds fun e2 he s2 x => ?_
    subst he
    refine ⟨noLim.keeps x.toInCall.keep, codeAny_func ?_⟩
    obtain ⟨t, ht, hq⟩ := body cdv rfl A above s H vs Q E (room.deeper _) gd hs
    have inv := inv_start (CX := CX0) (E := E) S room.hd env (many _ _ _ _ hs) rv x
    refine wpAny_mono (ht.nox.run [] s2 (start N vs) H _ inv hq) (fun fl s3 h3 => ?_) fun e s3 h3 => h3
    cases fl with
    | ret u =>
      obtain ⟨v, σ3, H3, J, rr, q⟩ := h3
      exact ⟨v, H3, J.os, J.bare, J.base, J.hok, rr, q⟩
    | next =>
      obtain ⟨σ3, H3, J, q⟩ := h3
      exact ⟨.non, H3, J.os, J.bare, J.base, J.hok, rfl, q⟩
    | brk =>
      obtain ⟨_, _, _, z⟩ := h3
      exact False.elim z
    | cont =>
      obtain ⟨_, _, _, z⟩ := h3
      exact False.elim z
theorem fng_of {x qual : Str} {st : Stmt} {f : Addr} {fd : FuncData} {N ps : List Str} {k : Nat} {sp : Sp} (F : Fun K x qual st f fd)
    (S : FnScope N ps (defScope st)) (many : ∀ vs H Q E, sp vs H Q E → vs.length = ps.length)
    (body : ∀ (cdv : Value) (A : Around) (above : List Env) (s : Shared) (H : Hp) (vs : List V) (Q : VK) (E : XK),
      Room k (A.deeper (envOfC qual (defScope st) s.heap.objs.size f cdv)) → A.guards = some [] → sp vs H Q E →
      ∃ t, PSs (cxOf CX0 P w K mg base N qual (defScope st) f cdv A above s H E).nox (defBody st) t ∧
        t { nx := fun _ H' => Q .non H', rt := Q } (start N vs) H) : FnG P w K mg base (k + 1) f fd ps sp :=
  fng_code F S many fun cdv _ => body cdv
end
section
variable {X : Cx}
/-- f(e, ..) of such a def -/
theorem pe_callG {k : Nat} {f : Addr} {fd : FuncData} {ps : List Str} {sp : Sp} {E : XK} {x : Str} {p pos : Pos} {e : Expr} {es : List Expr} {t : TA}
    (F : FnG X.prog X.w X.K X.mg X.base k f fd ps sp) (room : Room k X.A) (gd : X.A.guards = some []) (hg : Gl X x)
    (hm : X.mg x = some (.ref f)) (kp : PySem.W.keepIn X.K (.ref f) = true) (hb : Binds X.K fd ps []) (ha : PA X (e :: es) t)
    (hdb : (x == ("__debug__" : Str)) = false := by decide)
    (he : starEach (e :: es) X.env = (false, eval e X.env) :: starEach es X.env := by rfl)
    (hpl : (backTo pos (starEach es X.env)).any (·.1) = false := by rfl) :
    PE X (.Call (.Name x p) (e :: es) [] pos) (tCall sp [] E t) := by
  constructor
  intro pins s σ H Q I h
  refine wpAny_Call_Name_kw (ld_glob I hg hm ?_ hdb)
  refine PySem.W.callWith_K (h₀ := X.base) I.ok.mod.kin kp (thn (ha.run pos pins s σ H _ I h) fun us s1 d => ?_) he hpl
  obtain ⟨vs, H1, I1, rv, q⟩ := d
  refine ⟨I1.kIn, ?_⟩
  have q : sp vs H1 Q E := by
    have q' : sp (vs ++ []) H1 Q E := q
    rw [List.append_nil] at q'
    exact q'
  have hl : us.length = ps.length := rv.length.symm.trans (F.many _ _ _ _ q)
  have bt := hb s1 us I1.kIn (by rw [List.append_nil]; exact hl)
  rw [List.append_nil] at bt
  refine wpAny_call (codeAny_mono (F.goes X.A X.stack s1 H1 ⟨us, []⟩ us vs Q E room gd I1.env0 bt rv q) fun r s2 h2 => ?_)
  cases r with
  | error e => exact False.elim h2
  | ok fl =>
    cases fl with
    | ret u => exact I1.after h2
    | next => exact False.elim h2
    | brk => exact False.elim h2
    | cont => exact False.elim h2
/-- repr of data, where none is under way -/
def rRepr (K : PySem.W.Frag) : List V → Hp → VK → Prop := fun xs H Q => ∃ (a : Addr) (d : PyData), xs = [.ref a] ∧ Dp K H (.ref a) d ∧
  d.showable = true ∧ d.hasDict = false ∧ d.depth ≤ 32 ∧ d.shown.length ≤ sizeLine ∧ Q (.str d.shown) H
theorem call_repr (gd : X.A.guards = some []) (hu : X.A.units + 64 < cLine) : CallR X (.builtin "repr") (rRepr X.K) := by
  intro pins s σ H xs us Q I r h
  obtain ⟨a, d, rfl, hd, h1, h2, h3, h4, q⟩ := h
  cases r with
  | cons r1 r2 =>
    cases r2
    cases r1
    obtain ⟨as, rd⟩ := Dp.reads I d (.ref a) (.ref a) hd rfl
    exact repr_of_reads' rd h1 (fun z => by rw [h2] at z; cases z) gd (by omega) (fun _ _ e => e)
      (fun h' u tk hk => ⟨.str d.shown, H, I.kept hk, ⟨u, rfl⟩, q⟩) h4
end
/-! ### the law's own call -/
section
variable {P : Program} {w : World} {K : PySem.W.Frag} {mg mb : Str → Option Value}
theorem law_callG {k : Nat} {fa a : Addr} {fd : FuncData} {x : Str} {sp : Sp} {s : Shared} {vs : List Value} {ns : List Int}
    (inK : K.In s.heap) (ns1 : s.heap.Ns mainGlobals mg) (ns2 : s.heap.Ns builtinsNs mb) (blt : ∀ x : Str, x ≠ "__name__" → mb x = bootBuiltins x)
    (noLim : s.heap.NoLimit) (hg : s.gens = #[]) (ha : s.heap.get? a = some { cls := .type "list", data := .seq vs.toArray })
    (hi : IntsAre vs ns) (hl : ns.length ≤ sizeLine) (hr : Room k callerA)
    (F : ∀ base : Heap, K.In base → base.Ns mainGlobals mg → FnG P w K mg base k fa fd [x] sp)
    (bt : ∀ (s : Shared) (u : Value), BindsTo s fd ⟨[u], []⟩ [(x, u)])
    (hsp : ∀ H : Hp, SqL K H a (ns.map V.int) → sp [.ref a] H (fun v _ => v = .bl true) fun _ _ _ => False) :
    codeAny (model P w) callerA (.call (.ref fa) ⟨[.ref a], []⟩)
      (fun r s' => r = .ok (.ret (.bool true)) ∧ OldK s.heap s'.heap ∧ s'.os = s.os ∧ AllBare s'.gens) s := by
  have rv := vals_ints hi
  have lv := hi.length
  have key : ∀ H : Hp, (∀ b u, H b = some u → b = a ∧ K.lookup a = none ∧ u = .frz { cls := .type "list", data := .seq vs.toArray } (.lst (ns.map V.int))) →
      SqL K H a (ns.map V.int) → codeAny (model P w) callerA (.call (.ref fa) ⟨[.ref a], []⟩)
        (fun r s' => r = .ok (.ret (.bool true)) ∧ OldK s.heap s'.heap ∧ s'.os = s.os ∧ AllBare s'.gens) s := by
    intro H only sq
    have ok : HOk P w H s.heap := by
      intro b u e
      obtain ⟨rfl, _, rfl⟩ := only b u e
      exact ⟨ha, by rw [List.length_map]; exact hl, vs, _, rv, ha⟩
    have plain : ∀ {b : Addr} {o : Obj} {es : Array DictEntry} {n : Nat}, s.heap.get? b = some o → o.data = .dict es n → H b = none := by
      intro b o es n e d
      cases q : H b with
      | none => rfl
      | some u =>
        obtain ⟨rfl, _, _⟩ := only b u q
        rw [ha] at e
        cases e
        exact nomatch d
    have names : ∀ {b : Addr} {m : Str → Option Value}, s.heap.Ns b m → (hidT s.heap H).Ns b m := by
      rintro b m ⟨o, es, n, e, d, r⟩
      exact ⟨o, es, n, hidT_get e (plain e d), d, r⟩
    have inB : K.In (hidT s.heap H) := by
      intro b o e
      refine hidT_get (inK b o e) ?_
      cases q : H b with
      | none => rfl
      | some u =>
        obtain ⟨rfl, n, _⟩ := only b u q
        rw [n] at e
        cases e
    obtain ⟨mc, l1, l2⟩ := noLim
    have md : Mod K mg (hidT s.heap H) := ⟨inB, names ns1, ⟨mb, names ns2, blt⟩, ⟨mc, names l1, l2⟩⟩
    have env : Env0 P w K mg (hidT s.heap H) callerA [] s H :=
      ⟨rfl, md, fun b o e => of_hidT e, Nat.le_of_eq (hidT_size _ _), trivial, (fun b hb => by cases hb), ok, .of_eq hg⟩
    have go := (F _ inB (names ns1)).goes callerA [] s H ⟨[.ref a], []⟩ [.ref a] [.ref a] _ _ hr rfl env (bt s (.ref a)) (.cons rfl .nil) (hsp H sq)
    refine codeAny_mono go fun r s2 h2 => ?_
    cases r with
    | error e => exact False.elim h2
    | ok fl =>
      cases fl with
      | next => exact False.elim h2
      | brk => exact False.elim h2
      | cont => exact False.elim h2
      | ret u =>
        obtain ⟨v, H2, os, bare, un, ok2, rr, q⟩ := h2
        obtain rfl : v = V.bl true := q
        obtain rfl : u = Value.bool true := rr
        refine ⟨rfl, OldK.of_keep fun b o e => ?_, os, bare⟩
        cases q : H b with
        | none => exact un.keep b o e q (by intro z; cases z) (by simp)
        | some u =>
          obtain ⟨rfl, _, rfl⟩ := only b u q
          obtain ⟨e1, _⟩ := ok b _ q
          obtain ⟨e2, _⟩ := ok2 b _ (un.frzs b _ _ q)
          rw [e] at e1
          cases e1
          exact e2
  cases hk : K.lookup a with
  | none =>
    refine key (fun b => if b = a then some (.frz { cls := .type "list", data := .seq vs.toArray } (.lst (ns.map V.int))) else none) (fun b u e => ?_) (.inl (.inr ⟨_, if_pos rfl⟩))
    by_cases z : b = a
    · rw [if_pos z] at e
      cases e
      exact ⟨z, hk, rfl⟩
    · rw [if_neg z] at e
      cases e
  | some o =>
    have e := inK a o hk
    rw [ha] at e
    cases e
    refine key (fun _ => none) (fun b u e => by cases e) (.inr ⟨_, vs.toArray, _, hk, rfl, rfl, rfl, ?_, by simpa using rv⟩)
    rw [List.size_toArray, lv]
    exact hl
end
theorem walk_ofG {l : PySem.W.OpenLaw} {n k : Nat} {q : Program} {loose : List Str} {XP : (Str → Option Value) → Heap → Prop} {YP : World → Heap → Prop}
    {d : DefRec} {K : Params → PySem.W.Frag} {sp : World → Sp} {x : Str} (hn : l.most = some n) (hn2 : n ≤ sizeLine) (hdf : d.params.defaults = [])
    (hr : Room k callerA) (hY : ∀ (w : World) (h : Heap), YP w h → (K w.params).In h)
    (F : ∀ (w : World) (mg : Str → Option Value) (fa : Addr) (h : Heap), (K w.params).In h → h.Ns mainGlobals mg → mg d.name = some (.ref fa) →
      ∃ fd : FuncData, (∀ (s : Shared) (u : Value), BindsTo s fd ⟨[u], []⟩ [(x, u)]) ∧
        ∀ base : Heap, (K w.params).In base → base.Ns mainGlobals mg → FnG l.prog w (K w.params) mg base k fa fd [x] (sp w))
    (hsp : ∀ (w : World) (H : Hp) (a : Addr) (ns : List Int), ns.length ≤ n → SqL (K w.params) H a (ns.map V.int) → sp w [.ref a] H (fun v _ => v = .bl true) fun _ _ _ => False) :
    PySem.W.WalkO q loose XP YP l.row.toRowW d [] (fun f vs => PySem.call f vs) := by
  refine Att.attach_call hn hdf fun w s0 s1 mg mb fa o pm cd doc a vs ns G Y h1 h2 h3 h4 h5 h6 h7 h8 => ?_
  obtain ⟨fd, bt, hF⟩ := F w mg fa _ (hY w _ Y) G.T.g h4
  exact law_callG (hY w _ Y) G.T.g G.T.b G.T.builtins G.T.nolimit h8 h5 h6 (Nat.le_trans h7 hn2) hr hF bt (fun H sq => hsp w H a ns h7 sq)
end Ev
namespace Ev
open PySem L2 PySem.Spec PyProof.Rows
theorem walk_ofGE {l : PySem.W.OpenLaw} {n k : Nat} {q : Program} {loose : List Str} {XP : (Str → Option Value) → Heap → Prop} {YP : World → Heap → Prop}
    {d : DefRec} {x : Str} (hn : l.most = some n) (hn2 : n ≤ sizeLine) (hdf : d.params.defaults = []) (hr : Room k callerA)
    (F : ∀ (w : World) (mg : Str → Option Value) (fa : Addr) (h : Heap), YP w h → h.Ns mainGlobals mg → mg d.name = some (.ref fa) →
      ∃ (K : PySem.W.Frag) (fd : FuncData) (sp : Sp), K.In h ∧ (∀ (s : Shared) (u : Value), BindsTo s fd ⟨[u], []⟩ [(x, u)]) ∧
        (∀ (H : Hp) (a : Addr) (ns : List Int), ns.length ≤ n → SqL K H a (ns.map V.int) → sp [.ref a] H (fun v _ => v = .bl true) fun _ _ _ => False) ∧
        ∀ base : Heap, K.In base → base.Ns mainGlobals mg → FnG l.prog w K mg base k fa fd [x] sp) :
    PySem.W.WalkO q loose XP YP l.row.toRowW d [] (fun f vs => PySem.call f vs) := by
  refine Att.attach_call hn hdf fun w s0 s1 mg mb fa o pm cd doc a vs ns G Y h1 h2 h3 h4 h5 h6 h7 h8 => ?_
  obtain ⟨K, fd, sp, inK, bt, hsp, hF⟩ := F w mg fa _ Y G.T.g h4
  exact law_callG inK G.T.g G.T.b G.T.builtins G.T.nolimit h8 h5 h6 (Nat.le_trans h7 hn2) hr hF bt (fun H sq => hsp H a ns h7 sq)
end Ev
namespace Ev
open PySem L2 PySem.Spec PyProof.Rows
/-- an error of the class C with the field n is told -/
def TellE (C : Addr) (n : Str) (v : V) (H : Hp) (E : XK) : Prop := ∀ (d : Addr) (H' : Hp), Same H H' → H d = none → H' d = some (.xd [(n, v)]) → E (.ref C) (some d) H'
def spErrI (C : Addr) (n : Str) : Sp := fun vs H Q _ => ∃ (a : Addr) (v : V) (T : String), vs = [.ref a, v] ∧ Flat v T ∧ H a = some (exo a C none) ∧
  ∀ (d : Addr) (H' : Hp), H d = none → H' a = some (exo a C (some d)) → H' d = some (exd d [(n, v)]) → (∀ b o, b ≠ a → H b = some o → H' b = some o) → Q .non H'
/-- an error class of the package with one field n -/
structure ErrC (P : Program) (w : World) (K : PySem.W.Frag) (mg : Str → Option Value) (base : Heap) (x n : Str) (C : Addr) : Prop where
  cl : OexC K C
  g : mg x = some (.ref C)
  ex : ∃ (f : Addr) (fd : FuncData), PySem.W.findIn K (.ref C) "__init__" = some (some (.ref f)) ∧ PySem.W.typeIn K (.ref f) = some (.type "function") ∧ FnOk P w K mg base CX0 3 f fd ["self", n] (spErrI C n) ∧ Binds K fd ["self", n] []
inductive Out
  | ok
  | rule (m : Str)
  | halves (w : Int)
def OutK (B N : Addr) (H : Hp) (E : XK) (good : Prop) : Out → Prop
  | .ok => good
  | .rule m => ∀ H1, Same H H1 → TellE B "part" (.str m) H1 E
  | .halves w => ∀ H1, Same H H1 → TellE N "weight" (.int w) H1 E
theorem OutK.mono {B N : Addr} {H H2 : Hp} {E : XK} {g g' : Prop} {o : Out} (h : OutK B N H E g o) (k : Same H H2) (f : g → g') : OutK B N H2 E g' o := by
  cases o with
  | ok => exact f h
  | rule m => exact fun H1 s => h H1 (k.trans s)
  | halves w => exact fun H1 s => h H1 (k.trans s)
/-- what the raising of such an error comes to -/
theorem raised {C : Addr} {n : Str} {H : Hp} {v : V} {T : String} {E : XK} (hv : Flat v T) (k : TellE C n v H E) (a' : Addr) (na : H a' = none) :
    spErrI C n [.ref a', v] (upd H a' (exo a' C none)) (fun v' H2 => v' = .non ∧ ∃ (d : Addr) (fs : List (Str × V)), H2 a' = some (exo a' C (some d)) ∧ H2 d = some (exd d fs) ∧ H d = none ∧ E (.ref C) (some d) (upd (del H2 a') d (.xd fs))) (fun _ _ _ => False) := by
  refine ⟨a', v, T, rfl, hv, upd_same, fun d H' nd ha' hd bt => ⟨rfl, d, _, ha', hd, ?_, ?_⟩⟩
  · have dne : d ≠ a' := fun z => by rw [z, upd_same] at nd; cases nd
    rw [upd_ne dne] at nd
    exact nd
  · have dne : d ≠ a' := fun z => by rw [z, upd_same] at nd; cases nd
    rw [upd_ne dne] at nd
    refine k d _ (fun b o e => ?_) nd upd_same
    rw [upd_ne (ne_of_none e nd), del_ne (ne_of_none e na)]
    exact bt b o (ne_of_none e na) (by rw [upd_ne (ne_of_none e na)]; exact e)
section
variable {P : Program} {w : World} {K : PySem.W.Frag} {mg : Str → Option Value} {base : Heap}
theorem scBR : FnScope ["self", "part"] ["self", "part"] (defScope sBRInit) := ⟨rfl, rfl, rfl, by decide +kernel, rfl, by decide +kernel, by decide +kernel⟩
theorem ok_br {f C : Addr} {fd : FuncData} (F : Fun K "__init__" "BadRule.__init__" sBRInit f fd) (T : OexC K C) (no : PySem.W.findIn K (.ref C) "part" = some none) (D : Df P w K mg base 2 "kept" ["value"] spKept) : FnOk P w K mg base CX0 3 f fd ["self", "part"] (spErrI C "part") := by
  obtain ⟨f1, fd1, G1, g1, k1, b1⟩ := D.ex
  refine F.ok scBR (fun vs H Q E h => ?_) (fun cdv A outer s H vs Q E hr h => ?_)
  · obtain ⟨a, v, TT, rfl, _⟩ := h
    rfl
  · obtain ⟨a, v, TT, rfl, fl, ha, kk⟩ := h
    refine ⟨_, pss_one (ps_ost (pv 0) (pe_call G1 hr (by rfl) g1 k1 b1 .nil pass0 (pa_cons (pv 1) pa_nil))), ?_⟩
    refine ⟨_, rfl, v, TT, rfl, fl, fun H1 s1 => ⟨_, rfl, a, C, rfl, T, no, .inl ⟨s1 _ _ ha, fun dx nd dne => ?_⟩⟩⟩
    refine kk dx _ (Same.gone s1 nd) upd_same (by rw [upd_ne dne]; exact upd_same) fun b o nb e => ?_
    rw [upd_ne nb, upd_ne (ne_of_none (s1 _ _ e) nd)]
    exact s1 _ _ e
/-- a def that may raise, under its name -/
structure DfX (P : Program) (w : World) (K : PySem.W.Frag) (mg : Str → Option Value) (base : Heap) (k : Nat) (x : Str) (ps : List Str) (sp : Sp) : Prop where
  ex : ∃ (f : Addr) (fd : FuncData), FnOk P w K mg base (L2.CX P w) k f fd ps sp ∧ mg x = some (.ref f) ∧ PySem.W.keepIn K (.ref f) = true ∧ Binds K fd ps []
end
end Ev
namespace Ev
open PySem L2 PySem.Spec PyProof.Rows
/-! ### repr of a value that holds nothing but scalars -/
def sclr : V → PyData → Bool
  | .non, .none => true
  | .bl a, .bool b => a == b
  | .int a, .int b => decide (a = b)
  | .str a, .str b => a == b
  | _, _ => false
def keyD : Key → PyData
  | .inl i => .int i
  | .inr x => .str x
inductive Vd (K : PySem.W.Frag) (H : Hp) : V → PyData → Prop
  | plain {v : V} {d : PyData} : Dp K H v d → d.hasDict = false → Vd K H v d
  | dct {a : Addr} {kvs : List (Key × V)} {ds : List (PyData × PyData)} : H a = some (.dK kvs) → ds.map (·.1) = kvs.map (fun p => keyD p.1) → Paired (fun v d => sclr v d = true) (kvs.map (·.2)) (ds.map (·.2)) → Vd K H (.ref a) (.dict ds)
theorem reads_sc {h : Heap} {v : V} {d : PyData} {u : Value} (e : sclr v d = true) (r : RelV v u) : Reads h u d [] := by
  cases v <;> cases d <;> first | cases e | skip
  · cases (show u = Value.none from r); exact .none
  · obtain rfl := beq_iff_eq.mp e
    cases (show u = Value.bool _ from r); exact .bool _
  · obtain rfl := of_decide_eq_true e
    obtain ⟨t, q⟩ := (show ∃ t, u = Value.int _ t from r); cases q; exact .int _ _
  · obtain rfl := beq_iff_eq.mp e
    obtain ⟨t, q⟩ := (show ∃ t, u = Value.str _ t from r); cases q; exact .str _ _
theorem reads_scs {h : Heap} : ∀ {vs : List V} {ds : List PyData} {us : List Value}, Paired (fun v d => sclr v d = true) vs ds → Vals vs us → ReadsAll h us ds []
  | _, _, _, .nil, .nil => .nil
  | _, _, _, .cons e t, .cons r q => .cons (as := []) (bs := []) (reads_sc e r) (reads_scs t q)
theorem pair_vals {P : Program} {w : World} : ∀ {es : List DictEntry} {vs : List (Key × Value)}, Pairs (mixKind P w) es vs → es.map (·.val) = vs.map (·.2)
  | _, _, .nil => rfl
  | _, _, .cons h1 h2 t => by
    rw [List.map_cons, List.map_cons, h2, pair_vals t]
theorem reads_keys {P : Program} {w : World} {h : Heap} : ∀ {es : List DictEntry} {kvs : List (Key × V)} {vs : List (Key × Value)}, Pairs (mixKind P w) es vs → KV kvs vs → ReadsAll h (es.map (·.key)) (kvs.map fun p => keyD p.1) []
  | _, _, _, .nil, .nil => .nil
  | _, _, _, .cons h1 h2 t, .cons r q => by
    refine .cons (as := []) (bs := []) ?_ (reads_keys t q)
    dsimp only
    rw [r.1]
    rcases keyIs_shape (show keyIs _ _ = true from h1) with ⟨i, tk, e1, e2⟩ | ⟨x, tk, e1, e2⟩
    · rw [e1, e2]; exact .int _ _
    · rw [e1, e2]; exact .str _ _
theorem vals_snd : ∀ {kvs : List (Key × V)} {vs : List (Key × Value)}, KV kvs vs → Vals (kvs.map (·.2)) (vs.map (·.2))
  | _, _, .nil => .nil
  | _, _, .cons h t => .cons h.2 (vals_snd t)
section
variable {X : Cx}
/-- repr of such a value, where none is under way -/
def rReprV (K : PySem.W.Frag) : List V → Hp → VK → Prop := fun xs H Q => ∃ (v : V) (d : PyData), xs = [v] ∧ Vd K H v d ∧
  d.showable = true ∧ d.depth ≤ 32 ∧ d.shown.length ≤ sizeLine ∧ Q (.str d.shown) H
theorem call_reprV (gd : X.A.guards = some []) (hu : X.A.units + 64 < cLine) : CallR X (.builtin "repr") (rReprV X.K) := by
  intro pins s σ H xs us Q I r h
  obtain ⟨v, d, rfl, hd, h1, h3, h4, q⟩ := h
  obtain ⟨u, rfl, ru⟩ := vals1 r
  have fin : ∀ (h' : Heap) (t : Tok) (tk : Nat), (∀ b o, s.heap.get? b = some o → h'.get? b = some o) → EP X pins σ Q (.str d.shown t) { s with heap := h', toks := tk } := fun h' t tk hk => ⟨.str d.shown, H, I.kept hk, ⟨t, rfl⟩, q⟩
  have byRef : ∀ (a : Addr) (as : List Addr), u = .ref a → Reads s.heap (.ref a) d as → (d.hasDict = true → sysModules ∉ as) → wpAny (model X.prog X.w) X.A (call (.builtin "repr") [u]) (EP X pins σ Q) X.xe s := by
    intro a as eu rd hm
    subst eu
    exact repr_of_reads' rd h1 hm gd (by omega) (fun _ _ e => e) (fun h' t tk hk => fin h' t tk hk) h4
  cases hd with
  | plain dp nd =>
    cases dp with
    | non => cases ru; exact PySem.P.repr_of_none (fin s.heap _ _ fun _ _ e => e)
    | bl b => cases ru; exact PySem.P.repr_of_bool (fin s.heap _ _ fun _ _ e => e)
    | int i => obtain ⟨t, rfl⟩ := ru; exact PySem.P.repr_of_int (of_decide_eq_true h1) (fin s.heap _ _ fun _ _ e => e)
    | str x => obtain ⟨t, rfl⟩ := ru; exact PySem.P.repr_of_str (fin s.heap _ _ fun _ _ e => e) h4
    | lst sq al =>
      cases ru
      obtain ⟨as, rd⟩ := Dp.reads I _ _ _ (.lst sq al) rfl
      exact byRef _ as rfl rd fun z => by rw [nd] at z; cases z
    | tup sq al =>
      cases ru
      obtain ⟨as, rd⟩ := Dp.reads I _ _ _ (.tup sq al) rfl
      exact byRef _ as rfl rd fun z => by rw [nd] at z; cases z
  | @dct a kvs ds e ek ev =>
    cases ru
    obtain ⟨hz, hs0, vs, kv, hdo⟩ := (show ObjOk X.prog X.w H s.heap a (.dK kvs) from I.hok a _ e)
    obtain ⟨ep, ob, es, ho, ex, hdat, hko, hpr, hnd⟩ := hdo.dictAt
    have e1 : ReadsAll s.heap (es.toList.map (·.key)) (ds.map (·.1)) [] := by
      rw [ek]; exact reads_keys hpr kv
    have e2 : ReadsAll s.heap (es.toList.map (·.val)) (ds.map (·.2)) [] := by
      refine reads_scs ev ?_
      have e3 : es.toList.map (·.val) = vs.map (·.2) := pair_vals hpr
      rw [e3]; exact vals_snd kv
    refine byRef a (a :: [] ++ []) rfl (.dict ho ex.1 hdat e1 e2) fun _ z => ?_
    simp at z
    rw [← z] at hs0
    simp at hs0
end
end Ev
namespace Ev
open PySem L2 PySem.Spec PyProof.Rows
/-! An error that was caught stays in a local behind its suite: its object is told of from then on. -/
def Held (cls : Value) (d : Option Addr) (a : Addr) : HO := .ext fun h => ∃ oe : Obj, h.get? a = some oe ∧ Zc cls d oe ∧ ∃ vs : Array Value, oe.data = .fields vs
theorem held_ok {P : Program} {w : World} {H : Hp} {h : Heap} {a : Addr} {cls : Value} {d : Option Addr} {oe : Obj}
    (e : h.get? a = some oe) (z : Zc cls d oe) (f : ∃ vs : Array Value, oe.data = .fields vs) : ObjOk P w H h a (Held cls d a) :=
  ⟨⟨oe, e, z, f⟩, ⟨oe, e⟩, fun _ _ t k => by obtain ⟨o, q, r⟩ := t; exact ⟨o, k _ q, r⟩⟩
section
variable {X : Cx} {pins : List (Addr × Obj)} {σ : L2.St} {H : Hp} {s : Shared} {a : Addr} {cls : Value} {d : Option Addr} {oe : Obj}
theorem inv_hold (I : Inv X pins σ H s) (e : s.heap.get? a = some oe) (z : Zc cls d oe) (f : ∃ vs : Array Value, oe.data = .fields vs) (n : H a = none)
    (n0 : X.s_0.heap.get? a = none) (nL : a ≠ X.env.locals) (np : ∀ p ∈ X.pn ++ pins, p.1 ≠ a) : Inv X pins σ (upd H a (Held cls d a)) s := by
  have other : ∀ {b : Addr} {o : HO}, H b = some o → upd H a (Held cls d a) b = some o := fun {b o} q => by rw [upd_ne (ne_of_none q n)]; exact q
  constructor
  · exact I.ok
  · exact I.os
  · exact I.bare
  · constructor
    · exact I.base.keep
    · exact I.base.slot
    · intro b o q1 q2 q3
      have nb : b ≠ a := fun t => by rw [t, n0] at q1; cases q1
      rw [upd_ne nb]; exact I.base.free b o q1 q2 q3
    · exact I.base.there
    · exact fun b xs q => other (I.base.tups b xs q)
    · exact fun b o u q => other (I.base.frzs b o u q)
    · intro b ps q
      obtain ⟨more, t⟩ := I.base.tbls b ps q
      exact ⟨more, other t⟩
  · exact I.loc
  · exact I.cell
  · rw [upd_ne nL.symm]; exact I.free
  · intro x c q
    have nb : c ≠ a := fun t => by
      obtain ⟨v, o, q1, q2⟩ := I.cell x c q
      obtain ⟨vs, q3⟩ := f
      rw [t, e] at q1; cases q1
      rw [q3] at q2; cases q2
    rw [upd_ne nb]; exact I.freeC x c q
  · intro p hp
    obtain ⟨q1, q2, q3⟩ := I.pin p hp
    exact ⟨q1, by rw [upd_ne (np p hp)]; exact q2, q3⟩
  · intro b o q
    by_cases nb : b = a
    · subst nb
      rw [upd_same] at q
      cases q
      exact held_ok e z f
    · rw [upd_ne nb] at q
      exact (I.hok b o q).stay (fun _ _ _ t => t) (fun _ t => other t) (fun _ _ t => other t)
  · exact I.len
end
/-- what the clause wishes: the suite reads the error in slot i; behind it the error is told of, slot i is empty -/
def wHeld (K : PySem.W.Frag) (c : Value) (i : Nat) (ts : Addr → Value → Option Addr → TS) (Wout : WX) (n : Nat) (D : Ends) : WX := fun cls d σ H => σ.length = n →
  ∃ b, PySem.W.exmOne K cls c = some b ∧ (b = false → Wout cls d σ H) ∧ (b = true → ∀ a, H a = none →
    ts a cls d { nx := fun τ G => G a = none → D.nx (τ.set i none) (upd G a (Held cls d a)), rt := fun v G => D.rt v G, bk := fun τ G => D.bk (τ.set i none) G, ct := fun τ G => D.ct (τ.set i none) G } (σ.set i (some (.ref a))) H)
section
variable {X : Cx} {x n : Str} {c : Value} {i : Nat} {body suite : List Stmt} {b₀ : Stmt} {np pos pos' : Pos} {tb : WX → TS} {ts : Addr → Value → Option Addr → TS} {Wout : WX}
theorem ps_try_held (hs : X.stack = X.env :: X.outer) (hf : X.env.frame = some X.env.locals) (hex : X.ex = []) (hN : X.N.Nodup) (hi : X.N[i]? = some n) (hln : X.env.kindOf n = some .local) (hc : Names X x c) (tk : Takes X Wout)
    (hb : ∀ (W : WX) (pn : List (Addr × Obj)) (xe : Value → Shared → Prop), Takes (X.tr pn xe) W → PSs (X.tr pn xe) body (tb W))
    (hsu : ∀ (a : Addr) (oe : Obj) (cls : Value) (d : Option Addr) (pn : List (Addr × Obj)), Zc cls d oe → (∃ vs, oe.data = .fields vs) → PSs (X.suite a ((a, oe) :: pn)) (b₀ :: suite) (ts a cls d)) :
    PS X (.Try body [.ExceptHandler (some (.Name x np)) (some n) (b₀ :: suite) pos'] [] [] pos) (fun D σ H => tb (wHeld X.K c i ts Wout X.N.length D) D σ H) := by
  constructor
  intro pins s σ H D I h
  have ok := I.ok
  have frames : X.A.frames = some (X.env :: X.outer) := by rw [ok.frames, hs]
  have isLoc : Loc X.env.scope n := .inl hln
  let hands : List ExceptHandler := [.ExceptHandler (some (.Name x np)) (some n) (b₀ :: suite) pos']
  let land : Value → Shared → Prop := fun e s1 => wpAny (model X.prog X.w) X.A (noteFrame e X.env) (fun _ s2 => wpAny (model X.prog X.w) X.A (setFlight e none)
    (fun _ s3 => wpAny (model X.prog X.w) X.A (handleBy e X.env hands) (SP X pins D) X.xe s3) X.xe s2) X.xe s1
  have caught : Takes (X.tr (X.pn ++ pins) land) (wHeld X.K c i ts Wout X.N.length D) := by
    rintro u s' ⟨a, B, sI, pins', σ', H', cls, d, rfl, J', nb, up, sky, na, os, ag, wish⟩
    obtain ⟨b, hb1, hno, hyes⟩ := wish J'.len
    have J : Inv X pins σ' H' sI := J'.ofTry ok
    have sky2 : Sky B (X.env :: X.outer) a (Zc cls d) X.env.locals s'.heap := by rw [← hs]; exact sky
    refine Sky.land Zc.steady frames hf sky2 fun h3 fl3 up3 => ?_
    have J3 : Inv X pins σ' H' { s' with heap := h3 } := J.landed nb fl3.1 (up.trans up3) os ag
    obtain ⟨oe3, vs3, he3, hz3, hd3⟩ := fl3.there
    have nfr : a ∉ frs (X.env :: X.outer) := by
      intro hm
      obtain ⟨_, o2, e2, nf⟩ := fl3.2.2.1.mem hm
      rw [he3] at e2; cases e2
      exact nf _ hd3
    have nfr2 : a ∉ frs X.stack := by rw [hs]; exact nfr
    have nL : a ≠ X.env.locals := fun z => nfr (List.mem_filterMap.mpr ⟨_, List.mem_cons_self, by rw [hf, z]⟩)
    have nF : a ∉ X.fs := by
      intro hm
      obtain ⟨e, he, q⟩ := List.mem_filterMap.mp hm
      exact nfr (List.mem_filterMap.mpr ⟨e, List.mem_cons_of_mem _ he, q⟩)
    have nI : sI.heap.get? a = none := by
      cases q : sI.heap.get? a with
      | none => rfl
      | some o =>
        have z := nb a o q nfr2
        rw [fl3.2.1] at z; cases z
    have n0 : X.s_0.heap.get? a = none := by
      cases q : X.s_0.heap.get? a with
      | none => rfl
      | some o =>
        obtain ⟨o2, z⟩ := J.base.there a o q (by rw [hex]; simp)
        rw [nI] at z; cases z
    have npin : ∀ p ∈ X.pn ++ pins, p.1 ≠ a := fun p hp z => by
      have q := (J.pin p hp).1
      rw [z, nI] at q; cases q
    have S3 := J3.suite he3 hd3 na nL nF
    refine wpAny_handleBy_cons (codeAny_handlers_test ?_) (fun q => nomatch q)
    have LT : PySem.W.Looks (model X.prog X.w) h3 (typeOf (.ref a)) cls := by
      intro A Q E s k q
      exact wpAny_typeOf_ref (k _ _ he3) (by rw [hz3.1]; exact q)
    have LM := PySem.W.exm_one (M := model X.prog X.w) J3.kIn LT hb1
    have named : ∀ {Q E : Value → Shared → Prop}, Q c { s' with heap := h3 } → wpAny (model X.prog X.w) (X.A.mark (some (.ref a))) (eval (.Name x np) X.env) Q E { s' with heap := h3 } := by
      intro Q E q
      obtain ⟨g1, g2, g3⟩ := hc
      rcases g3 with m | ⟨m, v, nn⟩
      · exact ld_glob (X := X.suite a ((a, oe3) :: (X.pn ++ pins))) S3 g1 m q g2
      · exact ld_blt (X := X.suite a ((a, oe3) :: (X.pn ++ pins))) S3 g1 m v q nn g2
    refine named (LM.here ?_)
    cases b with
    | false =>
      refine wpAny_handleBy_nil (e := .ref a) (env := X.env) ?_
      obtain ⟨k1, k2, k3, oe, vs, T, oT, ts', he, hz, hd, h1, hr⟩ := id fl3
      unfold PySem.passOn
      refine wpAny_bind (wpAny_field he hd h1 ?_)
      rw [if_neg (by simp : ¬ ((Value.ref T == Value.none) = true))]
      have on : wpAny (model X.prog X.w) X.A (setFlight (.ref a) X.env.frame) (fun _ s4 => wpAny (model X.prog X.w) X.A (throw (.ref a) : Sem Flow) (SP X pins D) X.xe s4) X.xe { s' with heap := h3 } := by
        rw [hf]
        refine HandSPX.setFlight_upZ fl3 fun h4 hh4 up4 => ?_
        refine wpAny_throw (tk _ _ ⟨a, B, sI, pins, σ', H', cls, d, rfl, J, nb, (up.trans up3).trans up4, ?_, na, os, ag, hno rfl⟩)
        rw [hs]; exact .inr (.inr hh4)
      first
        | exact wpAny_bind (wpAny_pure (wpAny_bind on))
        | exact wpAny_bind on
    | true =>
      refine codeAny_handlers_suite_as (HandSPX.lands_againZ fl3 fun h4 fl4 up4 => ?_)
      have J4 : Inv X pins σ' H' { s' with heap := h4 } := J.landed nb fl4.1 ((up.trans up3).trans up4) os ag
      obtain ⟨oe4, vs4, he4, hz4, hd4⟩ := fl4.there
      refine store_ok (X := X.suite a ((a, oe4) :: (X.pn ++ pins))) (v := .ref a) (J4.suite he4 hd4 na nL nF) hN hi isLoc rfl (fun s5 S5 => ?_) (.inr hln)
      have suite := (hsu a oe4 cls d (X.pn ++ pins) hz4 ⟨_, hd4⟩).run [] s5 _ H' _ S5 (hyes rfl a na)
      refine wpAny_mono suite (fun f s6 hsp => ?_) (fun _ _ z => False.elim z)
      have gone : ∀ {τ : L2.St} {G : Hp} {Q : Shared → Prop}, Inv X pins τ G s6 → (∀ s7, Inv X pins (τ.set i none) G s7 → Q s7) →
          wpAny (model X.prog X.w) X.A (do bindName X.env n .none; unbindBehindTheSuite X.env n pos') (fun _ s7 => Q s7) X.xe s6 := by
        intro τ G Q S6 hq
        exact gone_ok S6 hN hi hln hq
      cases f with
      | next =>
        obtain ⟨τ, G, S6, q6⟩ := hsp
        obtain ⟨p1, p2, _⟩ := S6.pin (a, oe4) (List.mem_append_left _ List.mem_cons_self)
        exact gone (inv_hold (S6.unsuite ok) p1 hz4 ⟨_, hd4⟩ p2 n0 nL npin) fun s7 J7 => ⟨_, _, J7, q6 p2⟩
      | brk =>
        obtain ⟨τ, G, S6, q6⟩ := hsp
        exact gone (S6.unsuite ok) fun s7 J7 => ⟨_, _, J7, q6⟩
      | cont =>
        obtain ⟨τ, G, S6, q6⟩ := hsp
        exact gone (S6.unsuite ok) fun s7 J7 => ⟨_, _, J7, q6⟩
      | ret u =>
        obtain ⟨v, τ, G, S6, r6, q6⟩ := hsp
        exact gone (S6.unsuite ok) fun s7 J7 => ⟨_, _, _, J7, r6, q6⟩
  refine wpAny_Try_except (wpAny_mono ((hb _ (X.pn ++ pins) land caught).run [] s σ H D (I.toTry _) h) (fun f s1 hsp => ?_) (fun e s1 he => he))
  cases f with
  | next =>
    obtain ⟨τ, G, J, q⟩ := hsp
    exact wpAny_execs_nil ⟨τ, G, J.ofTry ok, q⟩
  | brk =>
    obtain ⟨τ, G, J, q⟩ := hsp
    exact ⟨τ, G, J.ofTry ok, q⟩
  | cont =>
    obtain ⟨τ, G, J, q⟩ := hsp
    exact ⟨τ, G, J.ofTry ok, q⟩
  | ret u =>
    obtain ⟨v, τ, G, J, r, q⟩ := hsp
    exact ⟨v, τ, G, J.ofTry ok, r, q⟩
end
/-- what the class of such an error says -/
structure HeldC (K : PySem.W.Frag) (C : Addr) : Prop where
  cl : (PySem.W.clsIn K C).isSome = true
  ga : PySem.W.findIn K (.ref C) "__getattribute__" = some (some (.builtin "BaseException.__getattribute__"))
  gg : PySem.W.findIn K (.ref C) "__getattr__" = some none
  ex : PySem.W.subIn K (.ref C) (.type "BaseException") = some true
  hd : PySem.W.hasDictIn K C = true
  ca : PySem.W.findIn K (.ref C) "__class__" = some (some (.builtin "object.__class__"))
  sp : PySem.W.specialIn K (.builtin "object.__class__") "__get__" = some (some (.builtin "getset_descriptor.__get__"))
  tk : PySem.W.takesIn K (.builtin "object.__class__") = some true
  mo : PySem.W.mroIn K C (.type "object") = some true
section
variable {X : Cx}
theorem held_at {pins : List (Addr × Obj)} {σ : L2.St} {H : Hp} {s : Shared} {a : Addr} {cls : Value} {d : Option Addr} (I : Inv X pins σ H s) (e : H a = some (Held cls d a)) :
    ∃ oe : Obj, s.heap.get? a = some oe ∧ Zc cls d oe ∧ ∃ vs : Array Value, oe.data = .fields vs := by
  have x : ObjOk X.prog X.w H s.heap a (.ext fun h => ∃ oe : Obj, h.get? a = some oe ∧ Zc cls d oe ∧ ∃ vs : Array Value, oe.data = .fields vs) := I.hok a _ e
  exact x.1
theorem held_inst {pins : List (Addr × Obj)} {σ : L2.St} {H : Hp} {s : Shared} {a C dd : Addr} {fs : List (Str × V)} (I : Inv X pins σ H s) (e : H a = some (Held (.ref C) (some dd) a)) (ed : H dd = some (.xd fs)) :
    ∃ (oe od : Obj) (mA : Str → Option Value), PySem.W.InstAt s.heap a oe C (some od) ∧ (∀ f, RelO (fs.lookup f) (mA f)) ∧ ∀ n, PySem.W.lookIn n od = some (mA n) := by
  obtain ⟨oe, he, hz, vs, hd⟩ := held_at I e
  obtain ⟨mA, hns, hr⟩ := (show ObjOk X.prog X.w H s.heap dd (.xd fs) from I.hok dd _ ed)
  obtain ⟨od, ho, hl⟩ := lookIn_ns hns
  exact ⟨oe, od, mA, ⟨he, hz.1, by unfold PySem.W.notCls; rw [hd] <;> rfl, by rw [hz.2]; exact ho⟩, hr, hl⟩
/-- isinstance(e, c), e such an error -/
def rIsHeld (K : PySem.W.Frag) : List V → Hp → VK → Prop := fun xs H Q => ∃ (a C dd : Addr) (fs : List (Str × V)) (c : V) (u : Value) (b : Bool),
  xs = [.ref a, c] ∧ H a = some (Held (.ref C) (some dd) a) ∧ H dd = some (.xd fs) ∧ HeldC K C ∧ ClsV c u ∧ PySem.W.kitOne K (.ref C) u = some b ∧ Q (.bl b) H
theorem call_isHeld : CallR X (.builtin "isinstance") (rIsHeld X.K) := by
  intro pins s σ H xs us Q I r h
  obtain ⟨a, C, dd, fs, c, u, b, rfl, ea, ed, T, k, e, q⟩ := h
  obtain ⟨u1, u2, rfl, r1, r2⟩ := vals2 r
  have e2 := k.eq r2
  subst e2
  cases r1
  obtain ⟨oe, od, mA, J, _, _⟩ := held_inst I ea ed
  exact PySem.W.kia_one (PySem.W.kitx_exc T.cl T.ga T.gg T.ex T.ca T.sp T.tk T.mo) I.kIn J e (fun z => nomatch z) fun tk => ⟨.bl b, H, I.tok tk, rfl, q⟩
/-- e.n, e such an error -/
def tHeldFld (K : PySem.W.Frag) (n : Str) (te : TE) : TE := fun σ H Q => te σ H fun x H1 => ∃ (a C dd : Addr) (fs : List (Str × V)) (v : V),
  x = .ref a ∧ H1 a = some (Held (.ref C) (some dd) a) ∧ H1 dd = some (.xd fs) ∧ HeldC K C ∧ PySem.W.findIn K (.ref C) n = some none ∧ fs.lookup n = some v ∧ Q v H1
theorem pe_heldFld {e : Expr} {te : TE} {pos : Pos} {n : Str} (he : PE X e te) (hb : attributeBase e n X.env (eval e X.env) = eval e X.env := by rfl) : PE X (.Attribute e n pos) (tHeldFld X.K n te) := by
  constructor
  intro pins s σ H Q I h
  refine attr_of hb (thn (he.run pins s σ H _ I h) fun u s1 hh => ?_)
  obtain ⟨x, H1, I1, rx, a, C, dd, fs, v, rfl, ea, ed, T, hno, l, q⟩ := hh
  obtain rfl : u = Value.ref a := rx
  obtain ⟨oe, od, mA, J, hr, hl⟩ := held_inst I1 ea ed
  obtain ⟨u, hu, ru⟩ := RelO.some_of (v := v) (o := mA n) (by rw [← l]; exact hr n)
  exact HandSPX.exc_get I1.kIn J T.ga T.gg T.ex (PySem.W.findObj_own T.hd hno rfl (by rw [hl, hu])) (handed_of ru) ⟨v, H1, I1.tok _, ru, q⟩
end
end Ev
namespace Ev
open PySem L2 PySem.Spec PyProof.Rows LamX
/-! The law's own call, where the law makes lambdas: the table of its code object is told of. -/
section
variable {P : Program} {w : World} {K : PySem.W.Frag} {mg mb : Str → Option Value}
theorem law_callT {k : Nat} {fa a c T : Addr} {fd : FuncData} {x : Str} {sp : Sp} {s : Shared} {vs : List Value} {ns : List Int}
    (inK : K.In s.heap) (ns1 : s.heap.Ns mainGlobals mg) (ns2 : s.heap.Ns builtinsNs mb) (blt : ∀ x : Str, x ≠ "__name__" → mb x = bootBuiltins x)
    (noLim : s.heap.NoLimit) (hg : s.gens = #[]) (hT : s.heap.get? T = some { cls := .none, data := .fields #[] }) (nT : K.lookup T = none) (hc : PySem.W.CodeHd s.heap c T)
    (hbm : ∃ (bm : Addr) (ob : Obj), mg "__builtins__" = some (.ref bm) ∧ bm ≠ builtinsNs ∧ s.heap.get? bm = some ob ∧ ob.cls = .type "module" ∧ ob.dict = some builtinsNs ∧ ob.data = .plain)
    (ha : s.heap.get? a = some { cls := .type "list", data := .seq vs.toArray }) (hi : IntsAre vs ns) (hl : ns.length ≤ sizeLine) (hr : Room k callerA)
    (F : ∀ base : Heap, K.In base → base.Ns mainGlobals mg → TabB base mg c T → FnG P w K mg base k fa fd [x] sp)
    (bt : ∀ (s : Shared) (u : Value), BindsTo s fd ⟨[u], []⟩ [(x, u)])
    (hsp : ∀ H : Hp, H T = some (.tbl #[]) → SqL K H a (ns.map V.int) → sp [.ref a] H (fun v _ => v = .bl true) fun _ _ _ => False) :
    codeAny (model P w) callerA (.call (.ref fa) ⟨[.ref a], []⟩)
      (fun r s' => r = .ok (.ret (.bool true)) ∧ OldK s.heap s'.heap ∧ s'.os = s.os ∧ AllBare s'.gens) s := by
  have rv := vals_ints hi
  have lv := hi.length
  have aT : a ≠ T := fun z => by
    rw [z, hT] at ha
    cases ha
  have key : ∀ H : Hp, H T = some (.tbl #[]) → (∀ b u, H b = some u → b ≠ T → b = a ∧ K.lookup a = none ∧ u = .frz { cls := .type "list", data := .seq vs.toArray } (.lst (ns.map V.int))) →
      SqL K H a (ns.map V.int) → codeAny (model P w) callerA (.call (.ref fa) ⟨[.ref a], []⟩)
        (fun r s' => r = .ok (.ret (.bool true)) ∧ OldK s.heap s'.heap ∧ s'.os = s.os ∧ AllBare s'.gens) s := by
    intro H eT only sq
    have ok : HOk P w H s.heap := by
      intro b u e
      by_cases zb : b = T
      · subst zb
        rw [eT] at e
        cases e
        exact hT
      · obtain ⟨rfl, _, rfl⟩ := only b u e zb
        exact ⟨ha, by rw [List.length_map]; exact hl, vs, _, rv, ha⟩
    have plain : ∀ {b : Addr} {o : Obj}, s.heap.get? b = some o → (∀ vs n, o.data ≠ .seq vs n) → o.data ≠ .fields #[] → H b = none := by
      intro b o e d1 d2
      cases q : H b with
      | none => rfl
      | some u =>
        by_cases zb : b = T
        · subst zb
          rw [hT] at e
          cases e
          exact absurd rfl d2
        · obtain ⟨rfl, _, _⟩ := only b u q zb
          rw [ha] at e
          cases e
          exact absurd rfl (d1 _ _)
    have names : ∀ {b : Addr} {m : Str → Option Value}, s.heap.Ns b m → (hidT s.heap H).Ns b m := by
      rintro b m ⟨o, es, n, e, d, r⟩
      exact ⟨o, es, n, hidT_get e (plain e (fun _ _ z => by rw [d] at z; cases z) fun z => by rw [d] at z; cases z), d, r⟩
    have inB : K.In (hidT s.heap H) := by
      intro b o e
      refine hidT_get (inK b o e) ?_
      cases q : H b with
      | none => rfl
      | some u =>
        by_cases zb : b = T
        · rw [zb, nT] at e
          cases e
        · obtain ⟨rfl, n, _⟩ := only b u q zb
          rw [n] at e
          cases e
    have tb : TabB (hidT s.heap H) mg c T := by
      obtain ⟨bm, ob, b1, b2, b3, b4, b5, b6⟩ := hbm
      refine ⟨?_, ⟨bm, ob, b1, b2, fun q => ?_, fun q => ?_, hidT_get b3 (plain b3 (fun _ _ z => by rw [b6] at z; cases z) fun z => by rw [b6] at z; cases z), b4, b5, b6⟩, fun z => ?_⟩
      · obtain ⟨o, us, file, tf, flags, tg, inF, text, tt, e1, r1, r2, r3, rest⟩ := hc
        refine ⟨o, us, file, tf, flags, tg, inF, text, tt, hidT_get e1 (plain e1 (fun _ _ z => by rw [r2] at z; cases z) fun z => ?_), r1, r2, r3, rest⟩
        rw [r2] at z
        cases z
        simp at r3
      · obtain ⟨o, es, n, e, d, _⟩ := ns1
        rw [q, e] at b3
        cases b3
        rw [d] at b6
        cases b6
      · rw [q, hT] at b3
        cases b3
        cases b6
      · obtain ⟨o, es, n, e, d, _⟩ := ns1
        rw [z, hT] at e
        cases e
        cases d
    obtain ⟨mc, l1, l2⟩ := noLim
    have md : Mod K mg (hidT s.heap H) := ⟨inB, names ns1, ⟨mb, names ns2, blt⟩, ⟨mc, names l1, l2⟩⟩
    have env : Env0 P w K mg (hidT s.heap H) callerA [] s H :=
      ⟨rfl, md, fun b o e => of_hidT e, Nat.le_of_eq (hidT_size _ _), trivial, (fun b hb => by cases hb), ok, .of_eq hg⟩
    have go := (F _ inB (names ns1) tb).goes callerA [] s H ⟨[.ref a], []⟩ [.ref a] [.ref a] _ _ hr rfl env (bt s (.ref a)) (.cons rfl .nil) (hsp H eT sq)
    refine codeAny_mono go fun r s2 h2 => ?_
    cases r with
    | error e => exact False.elim h2
    | ok fl =>
      cases fl with
      | next => exact False.elim h2
      | brk => exact False.elim h2
      | cont => exact False.elim h2
      | ret u =>
        obtain ⟨v, H2, os, bare, un, ok2, rr, q⟩ := h2
        obtain rfl : v = V.bl true := q
        obtain rfl : u = Value.bool true := rr
        have others : ∀ b o, b ≠ T → s.heap.get? b = some o → s2.heap.get? b = some o := by
          intro b o nb e
          cases q : H b with
          | none => exact un.keep b o e q (by intro z; cases z) (by simp)
          | some u =>
            obtain ⟨rfl, _, rfl⟩ := only b u q nb
            obtain ⟨e1, _⟩ := ok b _ q
            obtain ⟨e2, _⟩ := ok2 b _ (un.frzs b _ _ q)
            rw [e] at e1
            cases e1
            exact e2
        obtain ⟨more, eM⟩ := un.tbls T #[] eT
        have grown : s2.heap.get? T = some { cls := .none, data := .fields (#[] ++ more) } := ok2 T _ eM
        refine ⟨rfl, ⟨fun b o e => ?_, fun b o e => ?_⟩, os, bare⟩
        · by_cases nb : b = T
          · subst nb
            rw [hT] at e
            cases e
            exact .inr (.inl ⟨(hc.tab hT).isCodeTable, rfl, #[], more, rfl, grown⟩)
          · exact .inl (others b o nb e)
        · by_cases nb : b = T
          · subst nb
            exact ⟨_, grown⟩
          · exact ⟨o, others b o nb e⟩
  cases hk : K.lookup a with
  | none =>
    refine key (fun b => if b = T then some (.tbl #[]) else if b = a then some (.frz { cls := .type "list", data := .seq vs.toArray } (.lst (ns.map V.int))) else none) (if_pos rfl) (fun b u e nb => ?_)
      (.inl (.inr ⟨_, (if_neg aT).trans (if_pos rfl)⟩))
    rw [if_neg nb] at e
    by_cases z : b = a
    · rw [if_pos z] at e
      cases e
      exact ⟨z, hk, rfl⟩
    · rw [if_neg z] at e
      cases e
  | some o =>
    have e := inK a o hk
    rw [ha] at e
    cases e
    refine key (fun b => if b = T then some (.tbl #[]) else none) (if_pos rfl) (fun b u e nb => by rw [if_neg nb] at e; cases e) (.inr ⟨_, vs.toArray, _, hk, rfl, rfl, rfl, ?_, by simpa using rv⟩)
    rw [List.size_toArray, lv]
    exact hl
end
/-- the law's call, the table of another def's code object told -/
theorem walk_ofGT {l : PySem.W.OpenLaw} {n k : Nat} {q : Program} {loose : List Str} {XP : (Str → Option Value) → Heap → Prop} {YP : World → Heap → Prop}
    {d : DefRec} {x xr : Str} (hn : l.most = some n) (hn2 : n ≤ sizeLine) (hdf : d.params.defaults = []) (hr : Room k callerA) (hrec : ((recsOf q).any fun e => e.name == xr) = true)
    (F : ∀ (w : World) (mg : Str → Option Value) (fa : Addr) (h : Heap), YP w h → h.Ns mainGlobals mg → mg d.name = some (.ref fa) →
      ∃ (K : PySem.W.Frag) (fd fdr : FuncData) (sp : Sp) (fr c T : Addr) (o : Obj), K.In h ∧ (∀ (s : Shared) (u : Value), BindsTo s fd ⟨[u], []⟩ [(x, u)]) ∧
        mg xr = some (.ref fr) ∧ K.lookup fr = some o ∧ o.data = .func fdr ∧ fdr.code = .ref c ∧ PySem.W.codeHdIn K c T = true ∧ K.lookup T = none ∧
        (∀ (H : Hp) (a : Addr) (ns : List Int), ns.length ≤ n → H T = some (.tbl #[]) → SqL K H a (ns.map V.int) → sp [.ref a] H (fun v _ => v = .bl true) fun _ _ _ => False) ∧
        ∀ base : Heap, K.In base → base.Ns mainGlobals mg → TabB base mg c T → FnG l.prog w K mg base k fa fd [x] sp) :
    PySem.W.WalkO q loose XP YP l.row.toRowW d [] (fun f vs => PySem.call f vs) := by
  refine Att.attach_callB hn hdf fun w s0 s1 mg mb fa o pm cd doc a vs ns G Y h1 h2 h3 h4 h5 h6 h7 hbits h8 => ?_
  obtain ⟨K, fd, fdr, sp, fr, c, T, o1, inK, bt, k0, k1, k2, k3, kc, kT, hsp, hF⟩ := F w mg fa _ Y G.T.g h4
  have hc := PySem.W.codeHd_of_K inK kc
  have hT : s1.heap.get? T = some { cls := .none, data := .fields #[] } := by
    obtain ⟨dL, hm, e1⟩ := List.any_eq_true.mp hrec
    obtain ⟨a2, o2, fd2, c2, P2, g1, g2, g3, g4, g5, g6⟩ := G.T.tab dL hm
    rw [beq_iff_eq.mp e1, k0] at g1
    cases g1
    rw [inK _ _ k1] at g2
    cases g2
    rw [k2] at g3
    cases g3
    rw [k3] at g4
    cases g4
    obtain ⟨⟨oc, vc, e1, _, e3, e4⟩, hP⟩ := g6
    obtain ⟨oc', vs', file, tf, flags, tg, inF, text, tt, f1, f2, f3, f4, _⟩ := id hc
    rw [f1] at e1
    cases e1
    rw [f3] at e3
    cases e3
    rw [f4] at e4
    cases e4
    exact hP
  exact law_callT inK G.T.g G.T.b G.T.builtins G.T.nolimit h8 hT kT hc G.T.bmain h5 h6 (Nat.le_trans h7 hn2) hr hF bt (fun H eT sq => hsp H a ns h7 eT sq)
end Ev
namespace Ev
open PySem L2 PySem.Spec PyProof.Rows
/-- the five fields of a fill rule made of any two parts and two numbers -/
def widV (c j : Int) : Int := if c > j then c else j
def fillV (tv kv : V) (c j : Int) : List (Str × V) := [("times", tv), ("plus", kv), ("cut_of", .int c), ("join_of", .int j), ("width", .int (widV c j))]
theorem lk_hit {k : Str} {v : V} {l : List (Str × V)} : List.lookup k ((k, v) :: l) = some v := by simp [List.lookup]
theorem lk_miss {k k' : Str} {v : V} {l : List (Str × V)} (h : ¬ k = k') : List.lookup k ((k', v) :: l) = List.lookup k l := by
  have : (k == k') = false := by simpa using h
  simp [List.lookup, this]
theorem put_new {k : Str} {v : V} : ∀ {l : List (Str × V)}, (∀ e ∈ l, ¬ e.1 = k) → putF k v l = l ++ [(k, v)]
  | [], _ => rfl
  | (k', v') :: l, h => by
    show (if k' = k then _ else _) = _
    rw [if_neg (h _ List.mem_cons_self)]
    show (k', v') :: putF k v l = _
    rw [put_new (fun e he => h e (List.mem_cons_of_mem _ he))]
    rfl
theorem pf1 {a : V} : putF "times" a [] = ([("times", a)] : List (Str × V)) := rfl
theorem pf2 {a b : V} : putF "plus" b ([("times", a)] : List (Str × V)) = ([("times", a), ("plus", b)] : List (Str × V)) := put_new (by intro e0 he; simp only [List.mem_cons, List.not_mem_nil, or_false] at he; subst he; dsimp only; decide +kernel)
theorem pf3 {a b c : V} : putF "cut_of" c ([("times", a), ("plus", b)] : List (Str × V)) = ([("times", a), ("plus", b), ("cut_of", c)] : List (Str × V)) := put_new (by intro e0 he; simp only [List.mem_cons, List.not_mem_nil, or_false] at he; rcases he with rfl | rfl <;> (dsimp only; decide +kernel))
theorem pf4 {a b c d : V} : putF "join_of" d ([("times", a), ("plus", b), ("cut_of", c)] : List (Str × V)) = ([("times", a), ("plus", b), ("cut_of", c), ("join_of", d)] : List (Str × V)) := put_new (by intro e0 he; simp only [List.mem_cons, List.not_mem_nil, or_false] at he; rcases he with rfl | rfl | rfl <;> (dsimp only; decide +kernel))
theorem pf5 {a b c d e : V} : putF "width" e ([("times", a), ("plus", b), ("cut_of", c), ("join_of", d)] : List (Str × V)) = ([("times", a), ("plus", b), ("cut_of", c), ("join_of", d), ("width", e)] : List (Str × V)) := put_new (by intro e0 he; simp only [List.mem_cons, List.not_mem_nil, or_false] at he; rcases he with rfl | rfl | rfl | rfl <;> (dsimp only; decide +kernel))
/-- the class of fill rules -/
structure FCls (K : PySem.W.Frag) (C : Addr) : Prop where
  cl : Cls K C
  n1 : NoAttr K C "times"
  n2 : NoAttr K C "plus"
  n3 : NoAttr K C "cut_of"
  n4 : NoAttr K C "join_of"
  n5 : NoAttr K C "width"
def parts4 : List V := [.str "times", .str "plus", .str "cut_of", .str "join_of"]
/-- the tables PARTS and BOUNDS -/
structure TabF (K : PySem.W.Frag) (w : World) (mg : Str → Option Value) (TP D D1 D2 D3 : Addr) : Prop where
  gP : mg "PARTS" = some (.ref TP)
  tP : ∀ H : Hp, SqT K H TP parts4
  gB : mg "BOUNDS" = some (.ref D)
  kd : ∃ es n, KDict K w D es n
  l1 : PySem.W.nsIn K D "plus" = some (some (.ref D1))
  l2 : PySem.W.nsIn K D "cut_of" = some (some (.ref D2))
  l3 : PySem.W.nsIn K D "join_of" = some (some (.ref D3))
  t1 : ∀ H : Hp, SqT K H D1 [.int (-12), .int 12]
  t2 : ∀ H : Hp, SqT K H D2 [.int 1, .int 5]
  t3 : ∀ H : Hp, SqT K H D3 [.int 2, .int 6]
def partS (j : Nat) : Str := if j = 1 then "times" else if j = 2 then "plus" else if j = 3 then "cut_of" else "join_of"
/-- whether a value can be a part -/
def canB (j : Nat) (v : V) (o : Option (List V)) : Bool := if j = 1 then pairB 12 o else if j = 2 then inB (-12) 12 v else if j = 3 then inB 1 5 v else inB 2 6 v
def CanQ (j : Nat) (H : Hp) (v : V) (o : Option (List V)) : Prop := if j = 1 then PairQ H v o else IntQ H v
theorem CanQ.keep {j : Nat} {H H' : Hp} {v : V} {o : Option (List V)} (h : CanQ j H v o) (k : Same H H') : CanQ j H' v o := by
  unfold CanQ at h ⊢
  split
  · rw [if_pos (by assumption)] at h; exact PairQ.keep h k
  · rw [if_neg (by assumption)] at h; exact IntQ.keep h k
def spCan : Sp := fun vs H Q _ => ∃ (j : Nat) (v : V) (o : Option (List V)), vs = [.str (partS j), v] ∧ 1 ≤ j ∧ j ≤ 4 ∧ CanQ j H v o ∧ ∀ H', Same H H' → Q (.bl (canB j v o)) H'
section
variable {P : Program} {w : World} {K : PySem.W.Frag} {mg : Str → Option Value} {base : Heap}
theorem scCanBe : FnScope ["part", "value", "low", "high"] ["part", "value"] (defScope sCanBe) := ⟨rfl, rfl, rfl, by decide +kernel, rfl, by decide +kernel, by decide +kernel⟩
theorem ok_canBe {f TP D Da Db Dc : Addr} {fd : FuncData} (F : Fun K "can_be" "can_be" sCanBe f fd) (B : TabF K w mg TP D Da Db Dc) {t : Tok} (gM : mg "MOST_TIMES" = some (.int 12 t)) (D1 : Df P w K mg base 3 "is_pair" ["value", "most"] spPairA) (D2 : Df P w K mg base 2 "is_within" ["value", "least", "most"] spWithinA) : FnOk P w K mg base CX0 4 f fd ["part", "value"] spCan := by
  obtain ⟨f1, fd1, G1, g1, k1, b1⟩ := D1.ex
  obtain ⟨f2, fd2, G2, g2, k2, b2⟩ := D2.ex
  obtain ⟨es, n, kd⟩ := B.kd
  refine F.ok scCanBe (fun vs H Q E h => ?_) (fun cdv A outer s H vs Q E hr h => ?_)
  · obtain ⟨j, v, o, rfl, _⟩ := h
    rfl
  · obtain ⟨j, v, o, rfl, j1, j4, hv, kk⟩ := h
    refine ⟨_, (pss_cons (ps_if (pt_cmpR op_eq (pv 0) pe_str (nomark _))
        (pss_one (ps_ret (pe_call G1 hr (by rfl) g1 k1 b1 .nil pass0 (pa_cons (pv 1) (pa_cons (pe_glob (v := .int 12) rfl gM ⟨_, rfl⟩) pa_nil))))) pss_nil)
      (pss_cons (ps_asg (pe_ix ix_kdict (pe_glob (v := .ref D) (by rfl) B.gB rfl) (pv 0) (fun _ _ => rfl)) (pg_tup (by rfl) (pgs_cons (pg_name (i := 2) scCanBe.nd rfl (.inl rfl)) (pgs_cons (pg_name (i := 3) scCanBe.nd rfl (.inl rfl)) pgs_nil))))
      (pss_one (ps_ret (pe_call G2 (hr.mono (by decide)) (by rfl) g2 k2 b2 .nil pass0 (pa_cons (pv 1) (pa_cons (pv 2) (pa_cons (pv 3) pa_nil)))))))), ?_⟩
    refine ⟨_, rfl, rfl, _, rfl, ?_⟩
    rcases (show j = 1 ∨ j = 2 ∨ j = 3 ∨ j = 4 by omega) with rfl | rfl | rfl | rfl
    · rw [show decide (V.str (partS 1) = V.str "times") = true from decide_eq_true rfl]
      exact iteT ⟨_, rfl, v, _, _, rfl, hv, fun H' s1 => kk H' s1⟩
    · rw [show decide (V.str (partS 2) = V.str "times") = false from decide_eq_false fun z => absurd (V.str.inj z) (by decide +kernel)]
      refine iteF ⟨_, rfl, D, "plus", .ref Da, rfl, rfl, ⟨es, n, .ref Da, kd.at_, kd.lit, B.l1, rfl⟩, Da, _, rfl, B.t1 _, rfl, _, _, rfl, _, _, rfl, rfl, ?_⟩
      refine ⟨_, rfl, _, rfl, _, rfl, v, _, _, rfl, hv, ?_⟩
      exact kk _ (Same.refl _)
    · rw [show decide (V.str (partS 3) = V.str "times") = false from decide_eq_false fun z => absurd (V.str.inj z) (by decide +kernel)]
      refine iteF ⟨_, rfl, D, "cut_of", .ref Db, rfl, rfl, ⟨es, n, .ref Db, kd.at_, kd.lit, B.l2, rfl⟩, Db, _, rfl, B.t2 _, rfl, _, _, rfl, _, _, rfl, rfl, ?_⟩
      refine ⟨_, rfl, _, rfl, _, rfl, v, _, _, rfl, hv, ?_⟩
      exact kk _ (Same.refl _)
    · rw [show decide (V.str (partS 4) = V.str "times") = false from decide_eq_false fun z => absurd (V.str.inj z) (by decide +kernel)]
      refine iteF ⟨_, rfl, D, "join_of", .ref Dc, rfl, rfl, ⟨es, n, .ref Dc, kd.at_, kd.lit, B.l3, rfl⟩, Dc, _, rfl, B.t3 _, rfl, _, _, rfl, _, _, rfl, rfl, ?_⟩
      refine ⟨_, rfl, _, rfl, _, rfl, v, _, _, rfl, hv, ?_⟩
      exact kk _ (Same.refl _)
end
end Ev
namespace Ev
open PySem L2 PySem.Spec PyProof.Rows RZ
/-- which part of a fill rule is told first -/
def outF (o : Option (List V)) (kv cv jv : V) : Out := if pairB 12 o = false then .rule "times" else if inB (-12) 12 kv = false then .rule "plus" else if inB 1 5 cv = false then .rule "cut_of" else if inB 2 6 jv = false then .rule "join_of" else .ok
def valF (tv kv cv jv : V) (j : Nat) : V := if j = 1 then tv else if j = 2 then kv else if j = 3 then cv else jv
theorem outF_at {o : Option (List V)} {tv kv cv jv : V} {j : Nat} (j1 : 1 ≤ j) (j4 : j ≤ 4) (h : ∀ i, 1 ≤ i → i < j → canB i (valF tv kv cv jv i) o = true) (n : canB j (valF tv kv cv jv j) o = false) : outF o kv cv jv = .rule (partS j) := by
  unfold outF
  rcases (show j = 1 ∨ j = 2 ∨ j = 3 ∨ j = 4 by omega) with rfl | rfl | rfl | rfl
  · have n : pairB 12 o = false := n
    rw [if_pos n]; rfl
  · have h1 : pairB 12 o = true := h 1 (by decide) (by decide)
    have n : inB (-12) 12 kv = false := n
    rw [if_neg (by rw [h1]; simp), if_pos n]; rfl
  · have h1 : pairB 12 o = true := h 1 (by decide) (by decide)
    have h2 : inB (-12) 12 kv = true := h 2 (by decide) (by decide)
    have n : inB 1 5 cv = false := n
    rw [if_neg (by rw [h1]; simp), if_neg (by rw [h2]; simp), if_pos n]; rfl
  · have h1 : pairB 12 o = true := h 1 (by decide) (by decide)
    have h2 : inB (-12) 12 kv = true := h 2 (by decide) (by decide)
    have h3 : inB 1 5 cv = true := h 3 (by decide) (by decide)
    have n : inB 2 6 jv = false := n
    rw [if_neg (by rw [h1]; simp), if_neg (by rw [h2]; simp), if_neg (by rw [h3]; simp), if_pos n]; rfl
theorem outF_ok {o : Option (List V)} {tv kv cv jv : V} (h : ∀ i, 1 ≤ i → i ≤ 4 → canB i (valF tv kv cv jv i) o = true) : outF o kv cv jv = .ok ∧ (∃ c, cv = .int c) ∧ ∃ j, jv = .int j := by
  have h1 : pairB 12 o = true := h 1 (by decide) (by decide)
  have h2 : inB (-12) 12 kv = true := h 2 (by decide) (by decide)
  have h3 : inB 1 5 cv = true := h 3 (by decide) (by decide)
  have h4 : inB 2 6 jv = true := h 4 (by decide) (by decide)
  refine ⟨?_, ?_, ?_⟩
  · unfold outF
    rw [if_neg (by rw [h1]; simp), if_neg (by rw [h2]; simp), if_neg (by rw [h3]; simp), if_neg (by rw [h4]; simp)]
  · cases cv <;> first | exact ⟨_, rfl⟩ | (simp [inB] at h3)
  · cases jv <;> first | exact ⟨_, rfl⟩ | (simp [inB] at h4)
def spFillInit (C B N : Addr) : Sp := fun vs H Q E => ∃ (x dx : Addr) (tv kv cv jv : V) (o : Option (List V)), vs = [.ref x, tv, kv, cv, jv] ∧ H x = some (.ins C dx []) ∧ PairQ H tv o ∧ IntQ H kv ∧ IntQ H cv ∧ IntQ H jv ∧
  OutK B N H E (∀ c j, cv = .int c → jv = .int j → ∀ H', But x H H' → H' x = some (.ins C dx (fillV tv kv c j)) → Q .non H') (outF o kv cv jv)
section
variable {P : Program} {w : World} {K : PySem.W.Frag} {mg : Str → Option Value} {base : Heap}
theorem scFillRule_init : FnScope ["self", "times", "plus", "cut_of", "join_of", "part", "value"] ["self", "times", "plus", "cut_of", "join_of"] (defScope sFillRule_init) := ⟨rfl, rfl, rfl, by decide +kernel, rfl, by decide +kernel, by decide +kernel⟩
theorem ok_fillInit {f C B N TP D Da Db Dc : Addr} {fd : FuncData} {dvs : List V} {kws : List (Str × V)} (F : FunD K "__init__" "FillRule.__init__" (defArgs sFillRule_init) (defBody sFillRule_init) (defScope sFillRule_init) dvs kws f fd) (T : FCls K C) (mz : mg "zip" = none) (BT : TabF K w mg TP D Da Db Dc) (D1 : Df P w K mg base 4 "can_be" ["part", "value"] spCan) (EB : ErrC P w K mg base "BadRule" "part" B) : FnOk P w K mg base (L2.CX P w) 5 f fd ["self", "times", "plus", "cut_of", "join_of"] (spFillInit C B N) := by
  obtain ⟨f1, fd1, G1, g1, k1, b1⟩ := D1.ex
  obtain ⟨TC, gC, fi, fdi, iC, tI, GI, bI⟩ := id EB
  refine F.ok scFillRule_init (fun vs H Q E h => ?_) (fun cdv A outer s H vs Q E hr h => ?_)
  · obtain ⟨x, dx, tv, kv, cv, jv, o, rfl, _⟩ := h
    rfl
  · obtain ⟨x, dx, tv, kv, cv, jv, o, rfl, hx, hp, hk, hc, hj, h⟩ := h
    refine ⟨_, (pss_cons (ps_for (passes_of rfl) rfl (pi_zipA (by rfl) mz (pa_cons (pe_glob (v := .ref TP) rfl BT.gP rfl) (pa_cons (pe_tup (pa_cons (pv 1) (pa_cons (pv 2) (pa_cons (pv 3) (pa_cons (pv 4) pa_nil))))) pa_nil))) (pg_tup (by rfl) (pgs_cons (pg_name (i := 5) scFillRule_init.nd rfl (.inl rfl)) (pgs_cons (pg_name (i := 6) scFillRule_init.nd rfl (.inl rfl)) pgs_nil)))
        (pss_one (ps_if (pt_not (pt_val (pe_call G1 hr (by rfl) g1 k1 b1 .nil pass0 (pa_cons (pv 5) (pa_cons (pv 6) pa_nil)))))
          (pss_one (ps_raise rfl (takes_of rfl rfl rfl rfl) (pmk_oex TC iC tI GI (hr.mono (by decide)) bI .nil pass0 (by rfl) gC (pa_cons (pv 5) pa_nil)))) pss_nil)))
      (pss_cons (ps_fld (pv 0) (pv 1) rfl)
      (pss_cons (ps_fld (pv 0) (pv 2) rfl)
      (pss_cons (ps_fld (pv 0) (pv 3) rfl)
      (pss_cons (ps_fld (pv 0) (pv 4) rfl)
      (pss_one (ps_fld (pv 0) (pe_ifExp (pt_cmpR op_gt (pv 3) (pv 4) (nomark _)) (pv 3) (pv 4)) rfl))))))), ?_⟩
    refine ⟨_, rfl, _, rfl, _, rfl, _, rfl, (by show 4 ≤ sizeLine; decide), fun t nt => ⟨TP, t, parts4, [tv, kv, cv, jv], rfl, .inr ⟨BT.tP _, SqT.of upd_same, ?_⟩⟩⟩
    have s1 : Same H (upd H t (.tup [tv, kv, cv, jv])) := same_new nt
    have ht : upd H t (.tup [tv, kv, cv, jv]) t = some (.tup [tv, kv, cv, jv]) := upd_same
    generalize upd H t (.tup [tv, kv, cv, jv]) = H1 at s1 ht ⊢
    refine for_zipT (xs := parts4) (ys := [tv, kv, cv, jv]) rfl (fun m σ H' => (∃ v5 v6 : Option V, σ = [some (.ref x), some tv, some kv, some cv, some jv, v5, v6]) ∧ Same H1 H' ∧ ∀ i, 1 ≤ i → i ≤ m → canB i (valF tv kv cv jv i) o = true) ⟨⟨_, _, rfl⟩, Same.refl _, fun i a b => absurd (Nat.le_trans a b) (by decide)⟩ (fun i σ H' h => ⟨BT.tP _, SqT.of (h.2.1 _ _ ht)⟩) (fun i xv yv Tp σ H' ex ey h nT => ?_) (fun σ H' h => ?_)
    · obtain ⟨⟨v5, v6, rfl⟩, s2, ok⟩ := h
      have s3 : Same H1 (upd H' Tp (.tup [xv, yv])) := s2.trans (same_new nT)
      have hT : upd H' Tp (.tup [xv, yv]) Tp = some (.tup [xv, yv]) := upd_same
      generalize upd H' Tp (.tup [xv, yv]) = H2 at s3 hT ⊢
      have s03 : Same H H2 := s1.trans s3
      have hil : i < 4 := (List.getElem?_eq_some_iff.mp ex).1
      have hq : xv = .str (partS (i + 1)) ∧ yv = valF tv kv cv jv (i + 1) ∧ CanQ (i + 1) H2 yv o := by
        rcases (show i = 0 ∨ i = 1 ∨ i = 2 ∨ i = 3 by omega) with rfl | rfl | rfl | rfl
        · obtain rfl := Option.some.inj ex; obtain rfl := Option.some.inj ey
          exact ⟨rfl, rfl, hp.keep s03⟩
        · obtain rfl := Option.some.inj ex; obtain rfl := Option.some.inj ey
          exact ⟨rfl, rfl, hk.keep s03⟩
        · obtain rfl := Option.some.inj ex; obtain rfl := Option.some.inj ey
          exact ⟨rfl, rfl, hc.keep s03⟩
        · obtain rfl := Option.some.inj ex; obtain rfl := Option.some.inj ey
          exact ⟨rfl, rfl, hj.keep s03⟩
      obtain ⟨rfl, rfl, hq⟩ := hq
      refine ⟨Tp, _, rfl, SqT.of hT, rfl, _, _, rfl, _, _, rfl, rfl, ?_⟩
      refine ⟨_, rfl, _, rfl, i + 1, _, o, rfl, by omega, by omega, hq, fun H3 s4 => ⟨_, rfl, ?_⟩⟩
      cases z : canB (i + 1) (valF tv kv cv jv (i + 1)) o with
      | false =>
        rw [outF_at (by omega) (by omega) (fun m a b => ok m a (by omega)) z] at h
        exact iteT ⟨_, rfl, (by show 1 ≤ 1000; decide), fun a' na => raised (flat_str _) (h H3 (s03.trans s4)) a' na⟩
      | true =>
        refine iteF ⟨⟨_, _, rfl⟩, s3.trans s4, fun m a b => ?_⟩
        by_cases e : m = i + 1
        · rw [e]; exact z
        · exact ok m a (by omega)
    · obtain ⟨⟨v5, v6, rfl⟩, s2, ok⟩ := h
      obtain ⟨ho, ⟨c, rfl⟩, j, rfl⟩ := outF_ok ok
      rw [ho] at h
      have kk := fun H' => h c j rfl rfl H'
      have s3 := s1.trans s2
      refine ⟨_, rfl, _, rfl, x, C, dx, _, rfl, s3 _ _ hx, T.cl, T.n1, (by show 0 < 1000; decide), ?_⟩
      refine ⟨_, rfl, _, rfl, x, C, dx, _, rfl, upd_same, T.cl, T.n2, (by rw [pf1]; show 1 < 1000; decide), ?_⟩
      refine ⟨_, rfl, _, rfl, x, C, dx, _, rfl, upd_same, T.cl, T.n3, (by rw [pf1, pf2]; show 2 < 1000; decide), ?_⟩
      refine ⟨_, rfl, _, rfl, x, C, dx, _, rfl, upd_same, T.cl, T.n4, (by rw [pf1, pf2, pf3]; show 3 < 1000; decide), ?_⟩
      rw [pf1, pf2, pf3, pf4]
      have t4 : ∀ o1 o2 o3 o4 : HO, But x H (upd (upd (upd (upd H' x o1) x o2) x o3) x o4) := fun o1 o2 o3 o4 => (Same.but s3).trans (But.upd_at.trans (But.upd_at.trans (But.upd_at.trans But.upd_at)))
      refine ⟨_, rfl, _, rfl, _, _, rfl, rfl, _, rfl, ite2 (fun e => ?_) (fun e => ?_)⟩
      · have e := of_decide_eq_true e
        refine ⟨_, rfl, _, rfl, x, C, dx, _, rfl, upd_same, T.cl, T.n5, (by show 4 < 1000; decide), kk _ ((t4 _ _ _ _).trans But.upd_at) ?_⟩
        rw [upd_same, pf5]
        unfold fillV widV
        rw [if_pos e]
      · have e : ¬ (c > j) := fun z => e (decide_eq_true z)
        refine ⟨_, rfl, _, rfl, x, C, dx, _, rfl, upd_same, T.cl, T.n5, (by show 4 < 1000; decide), kk _ ((t4 _ _ _ _).trans But.upd_at) ?_⟩
        rw [upd_same, pf5]
        unfold fillV widV
        rw [if_neg e]
end
end Ev
namespace Ev
open PySem L2 PySem.Spec PyProof.Rows RZ
/-! ### list(d.values()) -/
def tListVals (te : TE) : TE := fun σ H Q => te σ H fun x H1 => ∃ (d : Addr) (kvs : List (Key × V)), x = .ref d ∧ H1 d = some (.dK kvs) ∧ ∀ p, H1 p = none → Q (.ref p) (upd H1 p (.lst (kvs.map (·.2))))
section
variable {X : Cx} {e : Expr} {te : TE} {p apos cpos pos : Pos}
theorem pe_listVals (hc : X.calm = true) (he : PE X e te) (hg : Gl X "list") (hm : X.mg "list" = none) (hv : bootBuiltins "list" = some (.type "list")) (hbase : attributeBase e "values" X.env (eval e X.env) = eval e X.env := by rfl) (hline : (apos.endLine == cpos.line) = true := by rfl)
    (hs : starEach [.Call (.Attribute e "values" apos) [] [] cpos] X.env = (false, eval (.Call (.Attribute e "values" apos) [] [] cpos) X.env) :: starEach [] X.env := by rfl) :
    PE X (.Call (.Name "list" p) [.Call (.Attribute e "values" apos) [] [] cpos] [] pos) (tListVals te) := by
  constructor
  intro pins s σ H Q I hq
  refine wpAny_Call_Name_kw (ld_blt I hg hm hv ?_)
  refine PyProof.Rows.callWith_type1 ?_ hs rfl
  rw [hs]
  show wpAny _ _ (spliced ((false, eval (.Call (.Attribute e "values" apos) [] [] cpos) X.env) :: backTo pos (starEach [] X.env))) _ _ s
  refine Calls.spliced_cons ?_
  refine wpAny_Call_method (T := "dict") (id := "dict.values") hbase rfl hline F.plainAttrs_dict F.slot_dict_values F.type_dict_values (thn (he.run pins s σ H _ I hq) fun u s1 hh => ?_)
  obtain ⟨x, H1, I1, rx, d, kvs, rfl, hd, q⟩ := hh
  obtain rfl : u = Value.ref d := rx
  obtain ⟨hz, hs0, vs, kv, hdo⟩ := I1.hok d _ hd
  obtain ⟨ep, hat⟩ := hdo.dictAt
  have lk : kvs.length = vs.length := Paired.length kv
  refine ⟨hdo.typeIs, hdo.mapOf.noDict, ?_⟩
  show wpAny _ _ (callWith cpos (.builtin "dict.values") [.ref d] [] []) _ X.xe s1
  refine method_meetsIn F.slot_dict_values F.entry_dict_values rfl (PySem.evalArgs_none ⟨rfl, hdo.typeIs, F.args_dict_values_1 _, _, meets_dict_values (mixKind X.prog X.w) d hs0, ⟨vs, hdo⟩, ?_⟩)
  refine Calls.spliced_nil ?_
  have I2 : Inv X pins σ H1 { s1 with heap := s1.heap.push { cls := .type "dict_values", data := .fields #[.ref d] } } := I1.kept (t' := s1.toks) fun b ob q => Heap.get?_push_of_some _ q
  refine PySem.W.kdl_call (PySem.W.kdl_values (knd := mixKind X.prog X.w) (kvs := vs) (ep := ep)) (I1.ok.hd hc) ⟨⟨_, Heap.get?_push_size _ rfl, rfl, rfl⟩, hat.push _⟩ (by omega) fun h' tk acc c' hk hD hacc => ?_
  have e2 : acc.toList = vs.map (·.2) := PySem.W.kdl_vals_eq acc.toList (by rw [Array.length_toList]; exact hacc.1) fun j v e => hacc.2 j v (by rw [← Array.getElem?_toList]; exact e)
  refine ⟨.ref _, upd H1 _ (.lst (kvs.map (·.2))), I2.laid (t' := tk) hk (Nat.le_refl _) (show ObjOk X.prog X.w _ _ _ (.lst (kvs.map (·.2))) from ⟨by rw [List.length_map]; exact hz, acc.toList, c', by rw [e2]; exact vals_snd kv, by rw [Array.toArray_toList]; exact hD⟩), rfl, q _ (I2.hok.fresh (Nat.le_refl _))⟩
end
/-! ### what stands in a value -/
def AllFlat (us : List V) : Prop := ∀ u ∈ us, ∃ T, Flat u T
inductive Hold (H : Hp) : V → List V → Bool → Prop
  | flat {v : V} {T : String} : Flat v T → Hold H v [] false
  | tup {a : Addr} {us : List V} : H a = some (.tup us) → AllFlat us → us.length ≤ 900 → Hold H (.ref a) us false
  | lst {a : Addr} {us : List V} : H a = some (.lst us) → AllFlat us → us.length ≤ 900 → Hold H (.ref a) us true
  | dct {a : Addr} {kvs : List (Key × V)} : H a = some (.dK kvs) → AllFlat (kvs.map (·.2)) → kvs.length ≤ 900 → (kvs.map (·.1)).Nodup → Hold H (.ref a) (kvs.map (·.2)) true
/-- the copy of a value -/
inductive Alike (H : Hp) : V → Hp → V → Prop
  | same {v : V} {H' : Hp} : Alike H v H' v
  | lst {a b : Addr} {us : List V} {H' : Hp} : H a = some (.lst us) → H' b = some (.lst us) → Alike H (.ref a) H' (.ref b)
  | dct {a b : Addr} {kvs : List (Key × V)} {H' : Hp} : H a = some (.dK kvs) → H' b = some (.dK kvs) → Alike H (.ref a) H' (.ref b)
theorem Hold.keep {H H' : Hp} {v : V} {us : List V} {b : Bool} (h : Hold H v us b) (k : Same H H') : Hold H' v us b := by
  cases h with
  | flat f => exact .flat f
  | tup e a l => exact .tup (k _ _ e) a l
  | lst e a l => exact .lst (k _ _ e) a l
  | dct e a l n => exact .dct (k _ _ e) a l n
theorem Hold.len {H : Hp} {v : V} {us : List V} {b : Bool} (h : Hold H v us b) : us.length ≤ 900 := by
  cases h with
  | flat f => exact Nat.zero_le _
  | tup e a l => exact l
  | lst e a l => exact l
  | dct e a l n => rw [List.length_map]; exact l
theorem Hold.items {H : Hp} {v : V} {us : List V} {b : Bool} (h : Hold H v us b) : AllFlat us := by
  cases h with
  | flat f => exact fun u z => by cases z
  | tup e a l => exact a
  | lst e a l => exact a
  | dct e a l n => exact a
theorem Hold.ty {H : Hp} {v : V} {us : List V} {b : Bool} (h : Hold H v us b) : ∃ T : String, (∀ (K : PySem.W.Frag) (H' : Hp), Same H H' → TyX K H' v (.type T)) ∧ ∃ b1 b2 b3, kitB T "list" = some b1 ∧ kitB T "tuple" = some b2 ∧ kitB T "dict" = some b3 ∧ b = (b1 || b3) := by
  cases h with
  | @flat v T f => exact ⟨T, fun K H' _ => f.ty K H', false, false, false, f.l, f.t, f.d, rfl⟩
  | tup e a l => exact ⟨"tuple", fun K H' k => .base (.tup (k _ _ e)), false, true, false, by decide +kernel, by decide +kernel, by decide +kernel, rfl⟩
  | lst e a l => exact ⟨"list", fun K H' k => .base (.lst (k _ _ e)), true, false, false, by decide +kernel, by decide +kernel, by decide +kernel, rfl⟩
  | dct e a l n => exact ⟨"dict", fun K H' k => .base (.dK (k _ _ e)), false, false, true, by decide +kernel, by decide +kernel, by decide +kernel, rfl⟩
theorem kit_any2 {K : PySem.W.Frag} {T a b : String} {r1 r2 : Bool} (h1 : kitB T a = some r1) (h2 : kitB T b = some r2) : PySem.W.kitAny K (.type T) [.type a, .type b] = some (r1 || r2) := by
  refine kitAny_cons (kit_ty h1) (fun e => ?_) (fun e => by rw [e]; rfl)
  refine kitAny_cons (kit_ty h2) (fun e2 => ?_) (fun e2 => by rw [e, e2]; rfl)
  rw [e, e2]
  exact kitAny_nil
def spPartsV : Sp := fun vs H Q _ => ∃ (v : V) (us : List V) (b : Bool), vs = [v] ∧ Hold H v us b ∧ ∀ (p : Addr) (H' : Hp), H p = none → Same H H' → H' p = some (.lst us) → Q (.ref p) H'
def spRebuilt : Sp := fun vs H Q _ => ∃ (v : V) (us : List V) (p : Addr), vs = [v, .ref p] ∧ Hold H v us true ∧ H p = some (.lst us) ∧ ∀ (v' : V) (H' : Hp), Same H H' → Alike H v H' v' → Q v' H'
def spKeptV : Sp := fun vs H Q _ => ∃ (v : V) (us : List V) (b : Bool), vs = [v] ∧ Hold H v us b ∧ ∀ (v' : V) (H' : Hp), Same H H' → Alike H v H' v' → Q v' H'
section
variable {P : Program} {w : World} {K : PySem.W.Frag} {mg : Str → Option Value} {base : Heap}
theorem ok_partsV {f : Addr} {fd : FuncData} (F : Fun K "parts_of" "parts_of" sParts f fd) (T : Blt mg) (md : mg "dict" = none) : FnOk P w K mg base CX0 1 f fd ["value"] spPartsV := by
  refine F.ok scParts (fun vs H Q E h => ?_) (fun cdv A outer s H vs Q E hr h => ?_)
  · obtain ⟨v, us, b, rfl, _⟩ := h
    rfl
  · obtain ⟨v, us, b, rfl, hh, kk⟩ := h
    refine ⟨_, pss_cons (ps_if (pt_val (pe_callB call_isiT (by rfl) T.isi (by decide +kernel) (pa_cons (pv 0) (pa_cons (pe_tup (pa_cons (pe_bltn (v := .ty "list") (by rfl) T.list (by decide +kernel) rfl) (pa_cons (pe_bltn (v := .ty "tuple") (by rfl) T.tuple (by decide +kernel) rfl) pa_nil))) pa_nil))))
        (pss_one (ps_ret (pe_callTy call_list_of (by rfl) T.list (by decide +kernel) (pa_cons (pv 0) pa_nil)))) pss_nil)
      (pss_one (ps_ret (pe_ifExp (pt_val (pe_callB call_isi (by rfl) T.isi (by decide +kernel) (pa_cons (pv 0) (pa_cons (pe_bltn (v := .ty "dict") (by rfl) md (by decide +kernel) rfl) pa_nil)))) (pe_listVals rfl (pv 0) (by rfl) T.list (by decide +kernel)) (pe_lst pa_nil)))), ?_⟩
    have fin : ∀ (tp p : Addr) (ntp : H tp = none) (np : upd H tp (.tup [.ty "list", .ty "tuple"]) p = none), Q (.ref p) (upd (upd H tp (.tup [.ty "list", .ty "tuple"])) p (.lst us)) := fun tp p ntp np =>
      kk p _ (Same.gone (same_new ntp) np) ((same_new ntp).trans (same_new np)) upd_same
    cases hh with
    | @flat v TT f =>
      refine ⟨_, rfl, (by show 2 ≤ sizeLine; decide), fun tp ntp => ⟨_, tp, _, _, _, false, rfl, upd_same, .cons (.ty _) (.cons (.ty _) .nil), f.ty _ _, kit_any2 f.l f.t, _, rfl, iteF ?_⟩⟩
      exact ⟨_, rfl, _, _, _, _, false, rfl, .ty _, f.ty _ _, kit_ty f.d, _, rfl, iteF ⟨(by show 0 ≤ sizeLine; decide), fun p np => fin tp p ntp np⟩⟩
    | tup e a l =>
      refine ⟨_, rfl, (by show 2 ≤ sizeLine; decide), fun tp ntp => ⟨_, tp, _, _, _, true, rfl, upd_same, .cons (.ty _) (.cons (.ty _) .nil), .base (.tup (same_new ntp _ _ e)), kit_any2 (r1 := false) (r2 := true) (by decide +kernel) (by decide +kernel), _, rfl, iteT ?_⟩⟩
      exact ⟨_, rfl, _, _, rfl, .inr (SqT.of (same_new ntp _ _ e)), fun p np => fin tp p ntp np⟩
    | lst e a l =>
      refine ⟨_, rfl, (by show 2 ≤ sizeLine; decide), fun tp ntp => ⟨_, tp, _, _, _, true, rfl, upd_same, .cons (.ty _) (.cons (.ty _) .nil), .base (.lst (same_new ntp _ _ e)), kit_any2 (r1 := true) (r2 := false) (by decide +kernel) (by decide +kernel), _, rfl, iteT ?_⟩⟩
      exact ⟨_, rfl, _, _, rfl, .inl (SqL.of (same_new ntp _ _ e)), fun p np => fin tp p ntp np⟩
    | dct e a l n =>
      refine ⟨_, rfl, (by show 2 ≤ sizeLine; decide), fun tp ntp => ⟨_, tp, _, _, _, false, rfl, upd_same, .cons (.ty _) (.cons (.ty _) .nil), .base (.dK (same_new ntp _ _ e)), kit_any2 (r1 := false) (r2 := false) (by decide +kernel) (by decide +kernel), _, rfl, iteF ?_⟩⟩
      exact ⟨_, rfl, _, _, _, _, true, rfl, .ty _, .base (.dK (same_new ntp _ _ e)), kit_ty (by decide +kernel), _, rfl, iteT ⟨_, rfl, _, _, rfl, same_new ntp _ _ e, fun p np => fin tp p ntp np⟩⟩
theorem putK_take {kvs : List (Key × V)} (n : (kvs.map (·.1)).Nodup) {i : Nat} {k : Key} {z : V} (e : kvs[i]? = some (k, z)) : putK (kvs.take i) k z = kvs.take (i + 1) := by
  have hi : i < kvs.length := (List.getElem?_eq_some_iff.mp e).1
  have ei : kvs[i] = (k, z) := (List.getElem?_eq_some_iff.mp e).2
  have new : ((kvs.take i).any fun kv => decide (kv.1 = k)) = false := by
    rw [List.any_eq_false]
    intro p hp hq
    obtain ⟨j, hj, ej⟩ := List.mem_take_iff_getElem.mp hp
    have hq : p.1 = k := of_decide_eq_true hq
    have h1 : (kvs.map (·.1))[j]'(by rw [List.length_map]; omega) = k := by rw [List.getElem_map, ej, hq]
    have h2 : (kvs.map (·.1))[i]'(by rw [List.length_map]; omega) = k := by rw [List.getElem_map, ei]
    have h3 := (List.getElem_inj n).mp (h1.trans h2.symm)
    omega
  unfold putK
  rw [new, if_neg (by decide), List.take_add_one, e]
  rfl
theorem scRebuilt : FnScope ["value", "parts", "key", "part"] ["value", "parts"] (defScope sRebuilt) := ⟨rfl, rfl, rfl, by decide +kernel, rfl, by decide +kernel, by decide +kernel⟩
theorem ok_rebuilt {f : Addr} {fd : FuncData} (F : Fun K "rebuilt" "rebuilt" sRebuilt f fd) (T : Blt mg) (md : mg "dict" = none) (mz : mg "zip" = none) : FnOk P w K mg base CX0 1 f fd ["value", "parts"] spRebuilt := by
  refine F.ok scRebuilt (fun vs H Q E h => ?_) (fun cdv A outer s H vs Q E hr h => ?_)
  · obtain ⟨v, us, p, rfl, _⟩ := h
    rfl
  · obtain ⟨v, us, p, rfl, hh, hp, kk⟩ := h
    refine ⟨_, pss_cons (ps_if (pt_val (pe_callB call_isi (by rfl) T.isi (by decide +kernel) (pa_cons (pv 0) (pa_cons (pe_bltn (v := .ty "dict") (by rfl) md (by decide +kernel) rfl) pa_nil))))
        (pss_one (ps_ret (pe_dc (g := gTup K 2 (gCons (gName 2) (gCons (gName 3) gNil))) (tt := tYes) (tk := tVar 2) (tv := tVar 3) (own := [("key", 2), ("part", 3)]) rfl scRebuilt.nd (pi_zip (by rfl) mz (pa_cons (pe_callTy (call_list_dK rfl) (by rfl) T.list (by decide +kernel) (pa_cons (pv 0) pa_nil)) (pa_cons (pv 1) pa_nil)))
          (blkOk_by (own := [("key", 2), ("part", 3)]) (N := ["value", "parts", "key", "part"]) (sc := defScope sRebuilt) (by decide +kernel))
          (fun _ _ _ _ _ => pg_tup (by rfl) (pgs_cons (pg_name (i := 2) scRebuilt.nd rfl (.inl rfl)) (pgs_cons (pg_name (i := 3) scRebuilt.nd rfl (.inl rfl)) pgs_nil))) (fun _ _ _ _ _ => pts_nil) (fun _ _ _ _ _ => pv 2) (fun _ _ _ _ _ => pv 3)))) pss_nil)
      (pss_one (ps_ret (pe_ifExp (pt_val (pe_callB call_isi (by rfl) T.isi (by decide +kernel) (pa_cons (pv 0) (pa_cons (pe_bltn (v := .ty "tuple") (by rfl) T.tuple (by decide +kernel) rfl) pa_nil)))) pe_never (pv 1)))), ?_⟩
    generalize eb : true = bb at hh
    cases hh with
    | flat f => cases eb
    | tup e a l => cases eb
    | lst e a l =>
      refine ⟨_, rfl, _, _, _, _, false, rfl, .ty _, .base (.lst e), kit_ty (by decide +kernel), _, rfl, iteF ?_⟩
      refine ⟨_, rfl, _, _, _, _, false, rfl, .ty _, .base (.lst e), kit_ty (by decide +kernel), _, rfl, iteF ⟨_, rfl, ?_⟩⟩
      exact kk _ H (Same.refl H) (.lst e hp)
    | @dct a kvs e al l n =>
      refine ⟨_, rfl, _, _, _, _, true, rfl, .ty _, .base (.dK e), kit_ty (by decide +kernel), _, rfl, iteT ?_⟩
      refine ⟨_, rfl, a, kvs, rfl, e, fun q nq => ⟨_, rfl, q, p, _, _, rfl, SqL.of upd_same, SqL.of (same_new nq _ _ hp), fun D nD => ?_⟩⟩
      have hq1 := same_new (o := .dK []) nD _ _ (upd_same (H := H) (a := q) (o := .lst (kvs.map fun kv => kV kv.1)))
      have hp1 := same_new (o := .dK []) nD _ _ (same_new (o := .lst (kvs.map fun kv => kV kv.1)) nq _ _ hp)
      have hD1 : upd (upd H q (.lst (kvs.map fun kv => kV kv.1))) D (.dK []) D = some (.dK []) := upd_same
      have nDp : D ≠ p := fun z => by rw [z, same_new nq _ _ hp] at nD; cases nD
      have nDq : D ≠ q := fun z => by rw [z, upd_same] at nD; cases nD
      have s1 : Same H (upd (upd H q (.lst (kvs.map fun kv => kV kv.1))) D (.dK [])) := (same_new nq).trans (same_new nD)
      have nDH : H D = none := Same.gone (same_new nq) nD
      generalize upd (upd H q (.lst (kvs.map fun kv => kV kv.1))) D (.dK []) = H1 at hq1 hp1 hD1 s1
      refine ⟨fun i m G => m = kvs.length - i ∧ i ≤ kvs.length ∧ But D H1 G ∧ G D = some (.dK (kvs.take i)), ⟨_, rfl, Nat.zero_le _, But.refl _ _, hD1⟩, ?_⟩
      rintro i m G ⟨rfl, hi, bt, gD⟩
      have gq := bt _ _ nDq.symm hq1
      have gp := bt _ _ nDp.symm hp1
      by_cases hlt : i < kvs.length
      · right
        have ek : (kvs.map fun kv => kV kv.1)[i]? = some (kV kvs[i].1) := by rw [List.getElem?_map, List.getElem?_eq_getElem hlt]; rfl
        have ev : (kvs.map (·.2))[i]? = some kvs[i].2 := by rw [List.getElem?_map, List.getElem?_eq_getElem hlt]; rfl
        refine ⟨⟨_, _, _, _, SqL.of gq, SqL.of gp, ek, ev⟩, fun G' => But D H1 G' ∧ G' D = some (.dK (kvs.take (i + 1))), fun G' ⟨b2, d2⟩ => ⟨_, by omega, rfl, hlt, b2, d2⟩, fun x G' y => ?_⟩
        obtain ⟨tp, x1, x2, rfl, nt, rfl, h1, h2⟩ := y
        have e1 := h1 _ (SqL.of gq)
        have e2 := h2 _ (SqL.of gp)
        rw [ek] at e1
        rw [ev] at e2
        obtain rfl := Option.some.inj e1
        obtain rfl := Option.some.inj e2
        have gD2 := same_new (o := .tup [kV kvs[i].1, kvs[i].2]) nt _ _ gD
        refine ⟨_, _, rfl, SqT.of upd_same, rfl, _, _, rfl, _, _, rfl, rfl, rfl, ?_⟩
        refine ⟨_, rfl, _, rfl, _, kvs[i].1, rfl, gD2, ?_, ?_, ?_⟩
        · rw [List.length_take]
          exact Nat.lt_of_le_of_lt (show _ ≤ 900 by omega) (by rw [sizeLine_eq]; decide)
        · exact bt.trans ((Same.but (same_new nt)).trans But.upd_at)
        · rw [upd_same, show putK (kvs.take i) kvs[i].1 kvs[i].2 = kvs.take (i + 1) from putK_take n (by rw [List.getElem?_eq_getElem hlt])]
      · left
        have ei : i = kvs.length := by omega
        refine ⟨⟨_, _, SqL.of gq, SqL.of gp, .inl (by rw [List.length_map]; omega)⟩, ?_⟩
        rw [ei, List.take_length] at gD
        exact kk _ G (fun b o z => bt _ _ (ne_of_none z nDH) (s1 _ _ z)) (.dct e gD)
end
end Ev
namespace Ev
open PySem L2 PySem.Spec PyProof.Rows RZ
theorem Alike.from {H H1 H' : Hp} {v v' : V} (k : Same H H1) (us : List V) (h : Hold H v us true) (a : Alike H1 v H' v') : Alike H v H' v' := by
  cases a with
  | same => exact .same
  | lst e1 e2 =>
    generalize eb : true = bb at h
    cases h with
    | flat f => cases eb
    | tup e a l => cases eb
    | lst e a l => rw [k _ _ e] at e1; cases e1; exact .lst e e2
    | dct e a l n => rw [k _ _ e] at e1; cases e1
  | dct e1 e2 =>
    generalize eb : true = bb at h
    cases h with
    | flat f => cases eb
    | tup e a l => cases eb
    | lst e a l => rw [k _ _ e] at e1; cases e1
    | dct e a l n => rw [k _ _ e] at e1; cases e1; exact .dct e e2
theorem flat_hold {H : Hp} {us : List V} (h : AllFlat us) {j : Nat} {u : V} (e : us[j]? = some u) : Hold H u [] false := by
  obtain ⟨T, f⟩ := h u (List.mem_of_getElem? e)
  exact .flat f
/-- the marks of the things -/
def marks (b : Bool) (n : Nat) : List Bool := b :: List.replicate n false
theorem marks_at {b : Bool} {n j : Nat} (h : j < n) : (marks b n)[j + 1]? = some false := by
  show (List.replicate n false)[j]? = some false
  rw [List.getElem?_replicate, if_pos h]
theorem ends_at {m n j : Nat} (h : j < m) : (List.replicate m (V.int (1 + (n : Int))))[j]? = some (V.int (1 + (n : Int))) := by
  rw [List.getElem?_replicate, if_pos h]
theorem cut_tail {x : V} {ys : List V} : cutV (x :: ys) (some 1) (some (1 + (ys.length : Int))) = ys := by
  unfold cutV
  have h1 : HT.sIx (x :: ys).length 0 (some 1) = 1 := by
    have := HT.sIx_nat (x :: ys).length 0 1
    rw [List.length_cons] at this ⊢
    rw [show ((1 : Nat) : Int) = 1 from rfl] at this
    rw [this]; omega
  have h2 : HT.sIx (x :: ys).length (x :: ys).length (some (1 + (ys.length : Int))) = ys.length + 1 := by
    have := HT.sIx_nat (x :: ys).length (x :: ys).length (ys.length + 1)
    rw [show ((ys.length + 1 : Nat) : Int) = 1 + (ys.length : Int) by omega] at this
    rw [this, List.length_cons]; omega
  rw [h1, h2, show (x :: ys).drop 1 = ys from rfl, show ys.length + 1 - 1 = ys.length by omega, List.take_length]
theorem cut_none {xs : List V} {h : Option Int} : cutV xs h h = [] ∨ h = none := by
  cases h with
  | none => exact .inr rfl
  | some k =>
    left
    unfold cutV
    have e : HT.sIx xs.length xs.length (some k) = HT.sIx xs.length 0 (some k) := rfl
    rw [e, Nat.sub_self, List.take_zero]
theorem cut_void {xs : List V} {k : Int} : cutV xs (some k) (some k) = [] := by
  rcases cut_none (xs := xs) (h := some k) with e | e
  · exact e
  · cases e
theorem ix_first {x : V} {ys : List V} : ixN (x :: ys).length 0 = some 0 := by
  unfold ixN
  rw [List.length_cons]
  simp
theorem any_none (n : Nat) : (List.replicate n false).any id = false := by
  rw [List.any_eq_false]
  intro x hx
  rw [List.eq_of_mem_replicate hx]
  decide
theorem Alike.put {H G : Hp} {v v' : V} {m : Addr} {xs : List V} {us : List V} (h : Alike H v G v') (hv : Hold H v us true) (hm : G m = some (.lst xs)) (nl : xs.length = us.length + 1) {o : HO} : Alike H v (upd G m o) v' := by
  cases h with
  | same => exact .same
  | lst e1 e2 =>
    refine .lst e1 ?_
    rw [upd_ne]
    · exact e2
    · intro z
      rw [z, hm] at e2
      cases e2
      generalize eb : true = bb at hv
      cases hv with
      | flat f => cases eb
      | tup e a l => cases eb
      | lst e a l => rw [e] at e1; cases e1; omega
      | dct e a l n => rw [e] at e1; cases e1
  | dct e1 e2 =>
    refine .dct e1 ?_
    rw [upd_ne]
    · exact e2
    · intro z
      rw [z, hm] at e2
      cases e2
abbrev sFlat : Stmt := sIsFlat
abbrev sCopied : Stmt := sCopiedDeep
theorem scCopied : FnScope ["value", "things", "ends", "at", "made", "loose", "place", "first", "end", "thing"] ["value"] (defScope sCopied) := ⟨rfl, rfl, rfl, by decide +kernel, rfl, by decide +kernel, by decide +kernel⟩
theorem scFlat : FnScope ["value", "part"] ["value"] (defScope sFlat) := ⟨rfl, rfl, rfl, by decide +kernel, rfl, by decide +kernel, by decide +kernel⟩
theorem kit_any3 {K : PySem.W.Frag} {T a b c : String} {r1 r2 r3 : Bool} (h1 : kitB T a = some r1) (h2 : kitB T b = some r2) (h3 : kitB T c = some r3) : PySem.W.kitAny K (.type T) [.type a, .type b, .type c] = some (r1 || (r2 || r3)) := by
  refine kitAny_cons (kit_ty h1) (fun e => ?_) (fun e => by rw [e]; rfl)
  rw [e]
  exact (kit_any2 h2 h3).trans rfl
def spFlat : Sp := fun vs H Q _ => ∃ (a : Addr) (us : List V), vs = [.ref a] ∧ H a = some (.tup us) ∧ AllFlat us ∧ us.length ≤ 900 ∧ ∀ H', Same H H' → Q (.bl true) H'
section
variable {P : Program} {w : World} {K : PySem.W.Frag} {mg : Str → Option Value} {base : Heap}
theorem ok_copied {f : Addr} {fd : FuncData} (F : Fun K "copied_deep" "copied_deep" sCopied f fd) (T : Blt mg) (md : mg "dict" = none) (ma : mg "any" = none) (D : Df P w K mg base 1 "parts_of" ["value"] spPartsV) (D2 : Df P w K mg base 1 "rebuilt" ["value", "parts"] spRebuilt) : FnOk P w K mg base CX0 2 f fd ["value"] spKeptV := by
  obtain ⟨f1, fd1, G1, g1, k1, b1⟩ := D.ex
  obtain ⟨f2, fd2, G2, g2, k2, b2⟩ := D2.ex
  refine F.ok scCopied (fun vs H Q E h => ?_) (fun cdv A outer s H vs Q E hr h => ?_)
  · obtain ⟨v, us, b, rfl, _⟩ := h
    rfl
  · obtain ⟨v, us, b, rfl, hh, kk⟩ := h
    refine ⟨_, pss_cons (ps_set (i := 1) scCopied.nd rfl (.inl rfl) (pe_lst (pa_cons (pv 0) pa_nil)))
      (pss_cons (ps_set (i := 2) scCopied.nd rfl (.inl rfl) (pe_lst pa_nil))
      (pss_cons (ps_set (i := 3) scCopied.nd rfl (.inl rfl) pe_int)
      (pss_cons (ps_while PassesOwn.never (pt_cmpR op_lt (pv 3) (pe_callB call_len_seq (by rfl) T.len PySem.boot_len (pa_cons (pv 1) pa_nil)) (nomark _))
        (pss_cons (ps_expr (pe_bm PySem.F.plainAttrs_list PySem.F.slot_list_extend PySem.F.type_list_extend mt_extend (pv 1) (pa_cons (pe_callTy call_list_of (by rfl) T.list (by decide +kernel) (pa_cons (pe_call G1 hr (by rfl) g1 k1 b1 .nil pass0 (pa_cons (pe_ix ix_list (pv 1) (pv 3) (fun _ _ => rfl)) pa_nil)) pa_nil)) pa_nil)))
        (pss_cons (ps_expr (pe_bm PySem.F.plainAttrs_list PySem.F.slot_list_append PySem.F.type_list_append mt_append (pv 2) (pa_cons (pe_callB call_len_seq (by rfl) T.len PySem.boot_len (pa_cons (pv 1) pa_nil)) pa_nil)))
        (pss_one (ps_aug (i := 3) scCopied.nd rfl (.inl rfl) pe_int ip_add)))))
      (pss_cons (ps_set (i := 4) scCopied.nd rfl (.inl rfl) (pe_callTy call_list_of (by rfl) T.list (by decide +kernel) (pa_cons (pv 1) pa_nil)))
      (pss_cons (ps_setLc (i := 5) (te := tCB (rIsiT K) (tCons (tVar 9) (tCons (tTup (tCons (tC (.ty "list")) (tCons (tC (.ty "dict")) tNil))) tNil))) (own := [("thing", 9)]) (g := gName 9) (by rfl) scCopied.nd rfl rfl (sw_true rfl rfl rfl (by decide +kernel)) (pi_list (pv 1))
          (blkOk_by (own := [("thing", 9)]) (N := ["value", "things", "ends", "at", "made", "loose", "place", "first", "end", "thing"]) (sc := defScope sCopied) (by decide +kernel))
          (fun _ _ _ _ _ => pg_name (i := 9) scCopied.nd rfl (.inl rfl)) (fun _ _ _ _ _ => pts_nil)
          (fun _ _ _ _ _ => pe_callB (id := "isinstance") call_isiT (by rfl) T.isi (by decide +kernel) (pa_cons (pv 9) (pa_cons (pe_tup (pa_cons (pe_bltn (v := .ty "list") (by rfl) T.list (by decide +kernel) rfl) (pa_cons (pe_bltn (v := .ty "dict") (by rfl) md (by decide +kernel) rfl) pa_nil))) pa_nil))))
      (pss_cons (ps_for PassesOwn.never rfl (pi_range3 rfl T.range (pa_cons (pe_op op_sub (pe_callB call_len_seq (by rfl) T.len PySem.boot_len (pa_cons (pv 1) pa_nil)) pe_int) (pa_cons (pe_un un_neg pe_int) (pa_cons (pe_un un_neg pe_int) pa_nil)))) (pg_name (i := 6) scCopied.nd rfl (.inl rfl))
        (pss_cons (ps_par (i := 7) (j := 8) rfl scCopied.nd rfl rfl (by decide) rfl rfl (pa_cons (pe_ifExp (pt_cmpR op_gt (pv 6) pe_int (nomark _)) (pe_ix ix_list (pv 2) (pe_op op_sub (pv 6) pe_int) (fun _ _ => rfl)) pe_int) (pa_cons (pe_ix ix_list (pv 2) (pv 6) (fun _ _ => rfl)) pa_nil)) (by rfl))
        (pss_cons (ps_if (pt_val (pe_callB (cr_any rfl) (by rfl) ma (by decide +kernel) (pa_cons (pe_slice sl_list (pv 5) (po_some (pv 7)) (po_some (pv 8))) pa_nil))) (pss_one ps_never) pss_nil)
        (pss_one (ps_if (pt_val (pe_ix ix_list (pv 5) (pv 6) (fun _ _ => rfl)))
          (pss_one (ps_asg (pe_call G2 hr (by rfl) g2 k2 b2 .nil pass0 (pa_cons (pe_ix ix_list (pv 1) (pv 6) (fun _ _ => rfl)) (pa_cons (pe_slice sl_list (pv 4) (po_some (pv 7)) (po_some (pv 8))) pa_nil))) (pg_sub (pv 4) (pv 6) set_list))) pss_nil)))))
      (pss_one (ps_ret (pe_ix ix_list (pv 4) pe_int (fun _ _ => rfl)))))))))), ?_⟩
    have hlen := hh.len
    have hit := hh.items
    have z1000 : ∀ {n : Nat}, n ≤ 902 → n ≤ sizeLine := fun h => Nat.le_trans h (by rw [sizeLine_eq]; decide)
    refine ⟨_, rfl, (by show 1 ≤ sizeLine; decide), fun t nt => ⟨(by show 0 ≤ sizeLine; decide), fun e ne => ?_⟩⟩
    have te : e ≠ t := fun z => by rw [z, upd_same] at ne; cases ne
    have s2 : Same H (upd (upd H t (.lst [v])) e (.lst [])) := (same_new nt).trans (same_new ne)
    have ht2 : upd (upd H t (.lst [v])) e (.lst []) t = some (.lst [v]) := same_new ne _ _ upd_same
    have he2 : upd (upd H t (.lst [v])) e (.lst []) e = some (.lst []) := upd_same
    have nte : H e = none := Same.gone (same_new nt) ne
    generalize upd (upd H t (.lst [v])) e (.lst []) = H2 at s2 ht2 he2 ⊢
    -- the walk over the things
    refine ⟨fun m σ H' => (m = us.length + 1 ∧ σ = [some v, some (.ref t), some (.ref e), some (.int 0), none, none, none, none, none, none] ∧ H' = H2) ∨
      (∃ k, k ≤ us.length ∧ m = us.length - k ∧ σ = [some v, some (.ref t), some (.ref e), some (.int (1 + (k : Int))), none, none, none, none, none, none] ∧ H' t = some (.lst (v :: us)) ∧ H' e = some (.lst (List.replicate (1 + k) (V.int (1 + (us.length : Int))))) ∧ Same H H'), ⟨_, .inl ⟨rfl, rfl, rfl⟩⟩, fun m σ H' h => ?_⟩
    rcases h with ⟨rfl, rfl, rfl⟩ | ⟨k, hk, rfl, rfl, ht, he, sm⟩
    · refine ⟨_, rfl, _, rfl, t, _, rfl, .inl (SqL.of ht2), _, _, rfl, rfl, _, rfl, ite2 (fun _ => ?_) (fun z => absurd (decide_eq_true (show (0 : Int) < ((1 : Nat) : Int) by decide)) z)⟩
      refine ⟨fun σ H' => σ = [some v, some (.ref t), some (.ref e), some (.int (1 + ((0 : Nat) : Int))), none, none, none, none, none, none] ∧ H' t = some (.lst (v :: us)) ∧ H' e = some (.lst (List.replicate (1 + 0) (V.int (1 + (us.length : Int))))) ∧ Same H H', fun σ' H' q => ⟨us.length, by omega, .inr ⟨0, Nat.zero_le _, rfl, q⟩⟩, ?_⟩
      refine ⟨_, rfl, .inl ⟨rfl, _, SqL.of ht2⟩, _, rfl, _, rfl, t, _, 0, v, rfl, rfl, SqL.of ht2, atI_nat (j := 0) rfl, v, us, b, rfl, hh.keep s2, fun p0 H30 np0 s30 hp0 => ⟨p0, _, rfl, .inl (SqL.of hp0), fun p np => ?_⟩⟩
      have s3 : Same H' (upd H30 p (.lst us)) := s30.trans (same_new np)
      have hp : upd H30 p (.lst us) p = some (.lst us) := upd_same
      generalize upd H30 p (.lst us) = H3 at s3 hp ⊢
      refine ⟨t, p, _, _, rfl, rfl, s3 _ _ ht2, hp, z1000 (by show 1 + us.length ≤ 902; omega), ?_⟩
      have he3 : upd H3 t (.lst ([v] ++ us)) e = some (.lst []) := by rw [upd_ne te]; exact s3 _ _ he2
      refine ⟨_, rfl, .inl ⟨rfl, _, SqL.of he3⟩, _, rfl, t, [v] ++ us, rfl, .inl (SqL.of upd_same), e, _, _, rfl, rfl, he3, (by show 0 < sizeLine; decide), ?_⟩
      refine ⟨_, rfl, _, _, rfl, rfl, rfl, ?_, ?_, fun b o q => ?_⟩
      · rw [upd_ne te.symm]; exact upd_same
      · have e1 : ((([v] ++ us).length : Nat) : Int) = 1 + (us.length : Int) := by rw [List.length_append, List.length_singleton]; omega
        rw [upd_same, e1]; rfl
      · rw [upd_ne (ne_of_none q nte), upd_ne (ne_of_none q nt)]
        exact s3 _ _ (s2 _ _ q)
    · by_cases hlt : k < us.length
      · have hge : (v :: us)[1 + k]? = some us[k] := by rw [Nat.add_comm]; exact List.getElem?_eq_getElem hlt
        have hix : atI (v :: us) (1 + (k : Int)) = some us[k] := by
          have := atI_nat (xs := v :: us) (j := 1 + k) hge
          rw [show ((1 + k : Nat) : Int) = 1 + (k : Int) by omega] at this
          exact this
        refine ⟨_, rfl, _, rfl, t, _, rfl, .inl (SqL.of ht), _, _, rfl, rfl, _, rfl, ite2 (fun _ => ?_) (fun z => absurd (decide_eq_true (show (1 + (k : Int)) < (((v :: us).length : Nat) : Int) by rw [List.length_cons]; omega)) z)⟩
        refine ⟨fun σ H' => σ = [some v, some (.ref t), some (.ref e), some (.int (1 + ((k + 1 : Nat) : Int))), none, none, none, none, none, none] ∧ H' t = some (.lst (v :: us)) ∧ H' e = some (.lst (List.replicate (1 + (k + 1)) (V.int (1 + (us.length : Int))))) ∧ Same H H', fun σ' H' q => ⟨us.length - (k + 1), by omega, .inr ⟨k + 1, hlt, rfl, q⟩⟩, ?_⟩
        refine ⟨_, rfl, .inl ⟨rfl, _, SqL.of ht⟩, _, rfl, _, rfl, t, _, _, us[k], rfl, rfl, SqL.of ht, hix, us[k], [], false, rfl, flat_hold hit (List.getElem?_eq_getElem hlt), fun p0 H30 np0 s30 hp0 => ⟨p0, _, rfl, .inl (SqL.of hp0), fun p np => ?_⟩⟩
        have s3 : Same H' (upd H30 p (.lst [])) := s30.trans (same_new np)
        have hp : upd H30 p (.lst []) p = some (.lst []) := upd_same
        generalize upd H30 p (.lst []) = H3 at s3 hp ⊢
        refine ⟨t, p, _, _, rfl, rfl, s3 _ _ ht, hp, z1000 (by show (v :: us).length + 0 ≤ 902; rw [List.length_cons]; omega), ?_⟩
        have he3 : upd H3 t (.lst ((v :: us) ++ [])) e = some (.lst (List.replicate (1 + k) (V.int (1 + (us.length : Int))))) := by rw [upd_ne te]; exact s3 _ _ he
        refine ⟨_, rfl, .inl ⟨rfl, _, SqL.of he3⟩, _, rfl, t, (v :: us) ++ [], rfl, .inl (SqL.of upd_same), e, _, _, rfl, rfl, he3, Nat.lt_of_lt_of_le (show (List.replicate (1 + k) (V.int (1 + (us.length : Int)))).length < 902 by rw [List.length_replicate]; omega) (z1000 (Nat.le_refl _)), ?_⟩
        refine ⟨_, rfl, _, _, rfl, rfl, ?_, ?_, ?_, fun b o q => ?_⟩
        · have e5 : (1 + (k : Int)) + 1 = 1 + ((k + 1 : Nat) : Int) := by omega
          show List.set _ 3 (some (V.int ((1 + (k : Int)) + 1))) = _
          rw [e5]; rfl
        · rw [upd_ne te.symm, upd_same, List.append_nil]
        · have e1 : ((((v :: us) ++ []).length : Nat) : Int) = 1 + (us.length : Int) := by rw [List.append_nil, List.length_cons]; omega
          rw [upd_same, e1, show 1 + (k + 1) = (1 + k) + 1 by omega, List.replicate_succ' (n := 1 + k)]
        · have e3 := s3 _ _ (sm _ _ q)
          rw [upd_ne (ne_of_none q nte), upd_ne (ne_of_none q nt)]
          exact e3
      · obtain rfl : k = us.length := by omega
        refine ⟨_, rfl, _, rfl, t, _, rfl, .inl (SqL.of ht), _, _, rfl, rfl, _, rfl, ite2 (fun z => absurd (of_decide_eq_true z) (show ¬ ((1 + (us.length : Int)) < (((v :: us).length : Nat) : Int)) by rw [List.length_cons]; omega)) (fun _ => ?_)⟩
        refine ⟨_, rfl, t, _, rfl, .inl (SqL.of ht), fun md nmd => ?_⟩
        have ht3 := same_new (o := .lst (v :: us)) nmd _ _ ht
        have he3 := same_new (o := .lst (v :: us)) nmd _ _ he
        have hm3 : upd H' md (.lst (v :: us)) md = some (.lst (v :: us)) := upd_same
        have sm3 := sm.trans (same_new (o := .lst (v :: us)) nmd)
        have nmH : H md = none := Same.gone sm nmd
        generalize upd H' md (.lst (v :: us)) = H3 at ht3 he3 hm3 sm3 ⊢
        refine ⟨_, rfl, t, rfl, ⟨_, SqL.of ht3⟩, fun D nD => ?_⟩
        refine lc_list (K := K) (a := t) (xs := v :: us) (fun i H' => H' D = some (.lst (((marks b us.length).take i).map V.bl)) ∧ But D H3 H') ⟨upd_same, But.upd_at⟩ (fun i H' _ q => SqL.of (q.2 _ _ (ne_of_none ht3 nD) ht3)) (fun i y H' hi ⟨e1, e2⟩ => ?_) (fun H' ⟨e1, e2⟩ => ?_)
        · have hil : i < us.length + 1 := (List.getElem?_eq_some_iff.mp hi).1
          obtain ⟨TT, r, hr1, ty, kit⟩ : ∃ (TT : String) (r : Bool), (marks b us.length)[i]? = some r ∧ (∀ (K : PySem.W.Frag) (G : Hp), Same H' G → TyX K G y (.type TT)) ∧ PySem.W.kitAny K (.type TT) [.type "list", .type "dict"] = some r := by
            cases i with
            | zero =>
              obtain rfl : v = y := Option.some.inj hi
              obtain ⟨TT, ty, b1, b2, b3, f1, f2, f3, eb⟩ := hh.ty
              refine ⟨TT, b, rfl, fun K G k => ty K G fun c o q => k _ _ (e2 _ _ (ne_of_none (sm3 _ _ q) nD) (sm3 _ _ q)), ?_⟩
              rw [eb]; exact kit_any2 f1 f3
            | succ j =>
              obtain ⟨TT, f⟩ := hit y (List.mem_of_getElem? (show us[j]? = some y from hi))
              exact ⟨TT, false, marks_at (by omega), fun K G _ => f.ty K G, kit_any2 f.l f.d⟩
          refine ⟨rfl, _, rfl, (by show 2 ≤ sizeLine; decide), fun tp ntp => ⟨y, tp, _, _, _, r, rfl, upd_same, .cons (.ty _) (.cons (.ty _) .nil), ty _ _ (same_new ntp), kit, _, same_new ntp _ _ e1, ?_, ?_, ?_⟩⟩
          · refine Nat.lt_of_lt_of_le (show _ < 902 from ?_) (z1000 (Nat.le_refl _))
            rw [List.length_map, List.length_take]; omega
          · rw [upd_same, List.take_add_one, hr1, List.map_append]; rfl
          · exact (e2.trans (Same.but (same_new ntp))).trans But.upd_at
        · have eM : (marks b us.length).take (v :: us).length = marks b us.length := by
            rw [List.take_of_length_le]
            show (List.replicate us.length false).length + 1 ≤ us.length + 1
            rw [List.length_replicate]; exact Nat.le_refl _
          rw [eM] at e1
          have s4 : Same H3 H' := fun b o q => e2 b o (ne_of_none q nD) q
          have ht4 := s4 _ _ ht3
          have he4 := s4 _ _ he3
          have hm4 := s4 _ _ hm3
          have s04 := sm3.trans s4
          have nDH : H D = none := Same.gone sm3 nD
          have lenI : ((((v :: us).length : Nat) : Int)) - 1 = (us.length : Int) := by rw [List.length_cons]; omega
          refine ⟨_, rfl, t, _, rfl, .inl (SqL.of ht4), _, _, rfl, rfl, _, rfl, _, rfl, (us.length : Int), -1, -1, us.length + 1, ?_, ?_, ?_⟩
          · show [V.int (((((v :: us).length : Nat) : Int)) - 1), V.int (-1), V.int (-1)] = _
            rw [lenI]
          · have h := RgC.neg (i := (us.length : Int)) (j := -1) (by omega) (by omega) (by decide) (by decide)
            rw [show ((us.length : Int) - -1).toNat = us.length + 1 by omega] at h
            exact h
          refine for_rangeC (lo := (us.length : Int)) (c := -1) (n := us.length + 1) (fun i σ H5 => (∃ v6 v7 v8 v9 : Option V, σ = [some v, some (.ref t), some (.ref e), some (.int (1 + (us.length : Int))), some (.ref md), some (.ref D), v6, v7, v8, v9]) ∧
            (i ≤ us.length → Same H' H5) ∧ (i = us.length + 1 → Same H H5 ∧ ∃ v', H5 md = some (.lst (v' :: us)) ∧ Alike H v H5 v')) ⟨⟨none, none, none, none, rfl⟩, fun _ => Same.refl _, fun z => by omega⟩ ?_ ?_
          · rintro i σ H5 hi ⟨⟨v6, v7, v8, v9, rfl⟩, u5, _⟩
            have s5 := u5 (by omega)
            clear u5
            have he5 := s5 _ _ he4
            have hD5 := s5 _ _ e1
            by_cases hlast : i = us.length
            · subst hlast
              have e0 : (us.length : Int) + ((us.length : Nat) : Int) * -1 = 0 := by omega
              rw [e0]
              refine ⟨_, rfl, _, _, rfl, rfl, _, rfl, ite2 (fun z => absurd (of_decide_eq_true z) (show ¬ ((0 : Int) < 0) by decide)) (fun _ => ?_)⟩
              refine ⟨_, rfl, _, rfl, e, _, _, _, rfl, rfl, SqL.of he5, atI_nat (j := 0) (ends_at (m := 1 + us.length) (by omega)), _, _, rfl, ?_⟩
              refine ⟨_, rfl, _, rfl, _, rfl, _, rfl, _, rfl, D, _, rfl, SqL.of hD5, fun sl nsl => ?_⟩
              have ecut : cutV ((marks b us.length).map V.bl) (some 1) (some (1 + (us.length : Int))) = (List.replicate us.length false).map V.bl := by
                have := cut_tail (x := V.bl b) (ys := (List.replicate us.length false).map V.bl)
                rw [List.length_map, List.length_replicate] at this
                exact this
              rw [ecut]
              refine ⟨sl, List.replicate us.length false, rfl, SqL.of upd_same, _, rfl, ?_⟩
              rw [any_none]
              refine iteF ?_
              have s6 := s5.trans (same_new (o := .lst ((List.replicate us.length false).map V.bl)) nsl)
              generalize upd H5 sl (.lst ((List.replicate us.length false).map V.bl)) = H6 at s6
              refine ⟨_, rfl, _, rfl, D, _, _, _, rfl, rfl, SqL.of (s6 _ _ e1), atI_nat (j := 0) rfl, _, rfl, ?_⟩
              cases b with
              | false => exact iteF ⟨⟨_, _, _, _, rfl⟩, fun z => by omega, fun _ => ⟨s04.trans s6, v, s6 _ _ hm4, .same⟩⟩
              | true =>
                refine iteT ⟨_, rfl, _, rfl, t, _, _, _, rfl, rfl, SqL.of (s6 _ _ ht4), atI_nat (j := 0) rfl, _, rfl, _, rfl, _, rfl, _, rfl, _, rfl, md, _, rfl, SqL.of (s6 _ _ hm4), fun q nq => ?_⟩
                rw [cut_tail]
                have s7 := s6.trans (same_new (o := .lst us) nq)
                have hq : upd H6 q (.lst us) q = some (.lst us) := upd_same
                generalize upd H6 q (.lst us) = H7 at s7 hq
                refine ⟨v, us, q, rfl, hh.keep (s04.trans s7), hq, fun v' H8 s8 al => ?_⟩
                have hm8 := s8 _ _ (s7 _ _ hm4)
                refine ⟨_, rfl, _, rfl, md, _, _, 0, rfl, rfl, hm8, ix_first, ?_⟩
                refine ⟨⟨_, _, _, _, rfl⟩, fun z => by omega, fun _ => ⟨fun c o z => ?_, v', upd_same, (al.from (s04.trans s7) us hh).put hh hm8 rfl⟩⟩
                rw [upd_ne (ne_of_none z nmH)]
                exact s8 _ _ (s7 _ _ (s04 _ _ z))
            · have hi2 : i < us.length := by omega
              obtain ⟨j, ej⟩ : ∃ j : Nat, us.length = i + j + 1 := ⟨us.length - i - 1, by omega⟩
              have e0 : (us.length : Int) + ((i : Nat) : Int) * -1 = ((j + 1 : Nat) : Int) := by omega
              rw [e0]
              have e9 : ((j + 1 : Nat) : Int) - 1 = ((j : Nat) : Int) := by omega
              refine ⟨_, rfl, _, _, rfl, rfl, _, rfl, ite2 (fun _ => ?_) (fun z => absurd (decide_eq_true (show (0 : Int) < ((j + 1 : Nat) : Int) by omega)) z)⟩
              have hfst : atI (List.replicate (1 + us.length) (V.int (1 + (us.length : Int)))) (((j + 1 : Nat) : Int) - 1) = some (V.int (1 + (us.length : Int))) := by
                rw [e9]
                exact atI_nat (ends_at (m := 1 + us.length) (by omega))
              refine ⟨_, rfl, _, rfl, _, _, rfl, rfl, e, _, _, V.int (1 + (us.length : Int)), rfl, rfl, SqL.of he5, hfst, ?_⟩
              refine ⟨_, rfl, _, rfl, e, _, _, _, rfl, rfl, SqL.of he5, atI_nat (j := j + 1) (ends_at (m := 1 + us.length) (by omega)), _, _, rfl, ?_⟩
              refine ⟨_, rfl, _, rfl, _, rfl, _, rfl, _, rfl, D, _, rfl, SqL.of hD5, fun sl nsl => ?_⟩
              rw [cut_void]
              refine ⟨sl, [], rfl, SqL.of upd_same, _, rfl, iteF ?_⟩
              refine ⟨_, rfl, _, rfl, D, _, _, _, rfl, rfl, SqL.of (same_new nsl _ _ hD5), atI_nat (j := j + 1) (show ((marks b us.length).map V.bl)[j + 1]? = some (V.bl false) by rw [List.getElem?_map, marks_at (by omega)]; rfl), _, rfl, iteF ?_⟩
              exact ⟨⟨_, _, _, _, rfl⟩, fun _ => s5.trans (same_new nsl), fun z => by omega⟩
          · rintro σ H5 ⟨⟨v6, v7, v8, v9, rfl⟩, _, s5⟩
            obtain ⟨s5, v', hm5, al⟩ := s5 rfl
            exact ⟨_, rfl, md, _, 0, v', rfl, rfl, SqL.of hm5, atI_nat (j := 0) rfl, kk _ H5 s5 al⟩
theorem ok_flat {f : Addr} {fd : FuncData} (F : Fun K "is_flat" "is_flat" sFlat f fd) (T : Blt mg) (md : mg "dict" = none) : FnOk P w K mg base CX0 2 f fd ["value"] spFlat := by
  refine F.ok scFlat (fun vs H Q E h => ?_) (fun cdv A outer s H vs Q E hr h => ?_)
  · obtain ⟨a, us, rfl, _⟩ := h
    rfl
  · obtain ⟨a, us, rfl, ha, af, hn, k⟩ := h
    refine ⟨_, pss_cons (ps_for PassesOwn.never rfl (pi_tup (pv 0)) (pg_name (i := 1) scFlat.nd rfl (.inl rfl))
        (pss_one (ps_if (pt_val (pe_callB call_isiT (by rfl) T.isi (by decide +kernel) (pa_cons (pv 1) (pa_cons (pe_tup (pa_cons (pe_bltn (v := .ty "list") (by rfl) T.list (by decide +kernel) rfl) (pa_cons (pe_bltn (v := .ty "tuple") (by rfl) T.tuple (by decide +kernel) rfl) (pa_cons (pe_bltn (v := .ty "dict") (by rfl) md (by decide +kernel) rfl) pa_nil)))) pa_nil)))) (pss_one ps_never) pss_nil)))
      (pss_one (ps_ret pe_bl)), ?_⟩
    refine ⟨_, rfl, a, rfl, ⟨_, SqT.of ha⟩, ?_⟩
    refine for_it (walk_tup (K := K) (a := a) (xs := us)) (fun i σ G => Same H G ∧ ∃ z, σ = [some (.ref a), z]) ⟨Same.refl _, _, rfl⟩ (fun i σ G _ h => SqT.of (h.1 _ _ ha)) (fun i v σ G2 G3 hi h y => ?_) (fun σ G h => ?_)
    · obtain ⟨s2, z, rfl⟩ := h
      obtain ⟨rfl, hx⟩ := y
      obtain ⟨TT, fl⟩ := af v (List.mem_of_getElem? hx)
      exact ⟨_, rfl, (by show 3 ≤ sizeLine; decide), fun tp ntp => ⟨v, tp, _, _, _, false, rfl, upd_same, .cons (.ty _) (.cons (.ty _) (.cons (.ty _) .nil)), fl.ty _ _, kit3 fl.l fl.t fl.d, _, rfl, iteF ⟨s2.trans (same_new ntp), _, rfl⟩⟩⟩
    · obtain ⟨s2, z, rfl⟩ := h
      exact k G s2
theorem ok_keptV {f : Addr} {fd : FuncData} (F : Fun K "kept" "kept" sKept f fd) (T : Blt mg) (md : mg "dict" = none) (D : Df P w K mg base 2 "is_flat" ["value"] spFlat) (D2 : Df P w K mg base 2 "copied_deep" ["value"] spKeptV) : FnOk P w K mg base CX0 3 f fd ["value"] spKeptV := by
  obtain ⟨f1, fd1, G1, g1, k1, b1⟩ := D.ex
  obtain ⟨f2, fd2, G2, g2, k2, b2⟩ := D2.ex
  refine F.ok scKept (fun vs H Q E h => ?_) (fun cdv A outer s H vs Q E hr h => ?_)
  · obtain ⟨v, us, b, rfl, _⟩ := h
    rfl
  · obtain ⟨v, us, b, rfl, hh, kk⟩ := h
    refine ⟨_, pss_cons (ps_if (pt_not (pt_val (pe_callB call_isiT (by rfl) T.isi (by decide +kernel) (pa_cons (pv 0) (pa_cons (pe_tup (pa_cons (pe_bltn (v := .ty "list") (by rfl) T.list (by decide +kernel) rfl) (pa_cons (pe_bltn (v := .ty "tuple") (by rfl) T.tuple (by decide +kernel) rfl) (pa_cons (pe_bltn (v := .ty "dict") (by rfl) md (by decide +kernel) rfl) pa_nil)))) pa_nil))))) (pss_one (ps_ret (pv 0))) pss_nil)
      (pss_cons (ps_if (PW.pt (pw_and (pt_val (pe_callB call_isi (by rfl) T.isi (by decide +kernel) (pa_cons (pv 0) (pa_cons (pe_bltn (v := .ty "tuple") (by rfl) T.tuple (by decide +kernel) rfl) pa_nil)))) (pw_and1 (pt_val (pe_call G1 hr (by rfl) g1 k1 b1 .nil pass0 (pa_cons (pv 0) pa_nil)))))) (pss_one (ps_ret (pv 0))) pss_nil)
      (pss_one (ps_ret (pe_call G2 hr (by rfl) g2 k2 b2 .nil pass0 (pa_cons (pv 0) pa_nil))))), ?_⟩
    cases hh with
    | @flat v TT fl =>
      refine ⟨_, rfl, (by show 3 ≤ sizeLine; decide), fun tp ntp => ⟨v, tp, _, _, _, false, rfl, upd_same, .cons (.ty _) (.cons (.ty _) (.cons (.ty _) .nil)), fl.ty _ _, kit3 fl.l fl.t fl.d, _, rfl, iteT ⟨_, rfl, ?_⟩⟩⟩
      exact kk _ _ (same_new ntp) .same
    | @tup a us e al l =>
      refine ⟨_, rfl, (by show 3 ≤ sizeLine; decide), fun tp ntp => ⟨_, tp, _, _, _, true, rfl, upd_same, .cons (.ty _) (.cons (.ty _) (.cons (.ty _) .nil)), .base (.tup (same_new ntp _ _ e)), kit_any3 (r1 := false) (r2 := true) (r3 := false) (by decide +kernel) (by decide +kernel) (by decide +kernel), _, rfl, iteF ?_⟩⟩
      have e1 := same_new (o := .tup [.ty "list", .ty "tuple", .ty "dict"]) ntp _ _ e
      refine ⟨_, rfl, _, _, _, _, true, rfl, .ty _, .base (.tup e1), kit_ty (by decide +kernel), _, rfl, iteT ?_⟩
      refine ⟨_, rfl, a, us, rfl, e1, al, l, fun H' s' => ⟨_, rfl, iteT ⟨_, rfl, ?_⟩⟩⟩
      exact kk _ _ ((same_new ntp).trans s') .same
    | @lst a us e al l =>
      refine ⟨_, rfl, (by show 3 ≤ sizeLine; decide), fun tp ntp => ⟨_, tp, _, _, _, true, rfl, upd_same, .cons (.ty _) (.cons (.ty _) (.cons (.ty _) .nil)), .base (.lst (same_new ntp _ _ e)), kit_any3 (r1 := true) (r2 := false) (r3 := false) (by decide +kernel) (by decide +kernel) (by decide +kernel), _, rfl, iteF ?_⟩⟩
      have s1 := same_new (H := H) (o := .tup [.ty "list", .ty "tuple", .ty "dict"]) ntp
      have e1 := s1 _ _ e
      refine ⟨_, rfl, _, _, _, _, false, rfl, .ty _, .base (.lst e1), kit_ty (by decide +kernel), _, rfl, iteF ?_⟩
      refine ⟨_, rfl, _, us, true, rfl, (Hold.lst e1 al l), fun v' H' s' al' => ?_⟩
      exact kk _ _ (s1.trans s') (al'.from s1 us (.lst e al l))
    | @dct a kvs e al l nd =>
      refine ⟨_, rfl, (by show 3 ≤ sizeLine; decide), fun tp ntp => ⟨_, tp, _, _, _, true, rfl, upd_same, .cons (.ty _) (.cons (.ty _) (.cons (.ty _) .nil)), .base (.dK (same_new ntp _ _ e)), kit_any3 (r1 := false) (r2 := false) (r3 := true) (by decide +kernel) (by decide +kernel) (by decide +kernel), _, rfl, iteF ?_⟩⟩
      have s1 := same_new (H := H) (o := .tup [.ty "list", .ty "tuple", .ty "dict"]) ntp
      have e1 := s1 _ _ e
      refine ⟨_, rfl, _, _, _, _, false, rfl, .ty _, .base (.dK e1), kit_ty (by decide +kernel), _, rfl, iteF ?_⟩
      refine ⟨_, rfl, _, _, true, rfl, (Hold.dct e1 al l nd), fun v' H' s' al' => ?_⟩
      exact kk _ _ (s1.trans s') (al'.from s1 _ (.dct e al l nd))
end
end Ev
namespace Ev
open PySem L2 PySem.Spec PyProof.Rows RZ
abbrev sBNInit : Stmt := sBadNumber_init
/-- a contract with a lesser promise -/
theorem FnOk.less {P : Program} {w : World} {K : PySem.W.Frag} {mg : Str → Option Value} {base : Heap} {CX : CXT} {k : Nat} {f : Addr} {fd : FuncData} {ps : List Str} {sp sp' : Sp}
    (F : FnOk P w K mg base CX k f fd ps sp) (h : ∀ vs H Q E, sp' vs H Q E → sp vs H Q E) : FnOk P w K mg base CX k f fd ps sp' :=
  ⟨fun vs H Q E t => F.len vs H Q E (h _ _ _ _ t), fun A above s H args us vs Q E hr env bt rv t => F.run A above s H args us vs Q E hr env bt rv (h _ _ _ _ t)⟩
/-- .. of a call that raises nothing -/
theorem FnOk.calm {P : Program} {w : World} {K : PySem.W.Frag} {mg : Str → Option Value} {base : Heap} {k : Nat} {f : Addr} {fd : FuncData} {ps : List Str} {sp sp' : Sp}
    (F : FnOk P w K mg base (L2.CX P w) k f fd ps sp) (h : ∀ vs H Q E, sp' vs H Q E → sp vs H Q fun _ _ _ => False) : FnOk P w K mg base CX0 k f fd ps sp' := by
  constructor
  · exact fun vs H Q E t => F.len vs H Q _ (h _ _ _ _ t)
  · intro A above s H args us vs Q E hr env bt rv t
    refine codeAny_mono (F.run A above s H args us vs Q _ hr env bt rv (h _ _ _ _ t)) fun r s2 q => ?_
    cases r with
    | error e =>
      obtain ⟨_, _, _, _, _, _, _, _, _, _, _, _, z⟩ := q
      exact z.elim
    | ok fl =>
      cases fl with
      | ret u => exact q
      | next => exact q
      | brk => exact q
      | cont => exact q
/-- an error's field -/
def Told (C : Addr) (n : Str) (H : Hp) (v : V) (E : XK) : Prop := ∀ (d : Addr) (v' : V) (H' : Hp), Same H H' → H d = none → H' d = some (.xd [(n, v')]) → Alike H v H' v' → E (.ref C) (some d) H'
def spExInit (C : Addr) (n : Str) : Sp := fun vs H Q _ => ∃ (a : Addr) (v : V) (us : List V) (b : Bool), vs = [.ref a, v] ∧ H a = some (exo a C none) ∧ Hold H v us b ∧
  ∀ (d : Addr) (v' : V) (H' : Hp), H d = none → H' a = some (exo a C (some d)) → H' d = some (exd d [(n, v')]) → (∀ b o, b ≠ a → H b = some o → H' b = some o) → Alike H v H' v' → Q .non H'
theorem Alike.on {H G G' : Hp} {v v' : V} (h : Alike H v G v') (k1 : ∀ b xs, G b = some (.lst xs) → G' b = some (.lst xs)) (k2 : ∀ b kvs, G b = some (.dK kvs) → G' b = some (.dK kvs)) : Alike H v G' v' := by
  cases h with
  | same => exact .same
  | lst e1 e2 => exact .lst e1 (k1 _ _ e2)
  | dct e1 e2 => exact .dct e1 (k2 _ _ e2)
theorem exo_lst {a C : Addr} {d : Option Addr} {xs : List V} : exo a C d ≠ .lst xs := fun z => by
  have z : HO.ext _ = HO.lst xs := z
  cases z
theorem exo_dK {a C : Addr} {d : Option Addr} {xs : List (Key × V)} : exo a C d ≠ .dK xs := fun z => by
  have z : HO.ext _ = HO.dK xs := z
  cases z
theorem exd_lst {a : Addr} {d : List (Str × V)} {xs : List V} : exd a d ≠ .lst xs := fun z => by
  have z : HO.ext _ = HO.lst xs := z
  cases z
theorem exd_dK {a : Addr} {d : List (Str × V)} {xs : List (Key × V)} : exd a d ≠ .dK xs := fun z => by
  have z : HO.ext _ = HO.dK xs := z
  cases z
/-- an error class of the package with one field n -/
structure ErrV (P : Program) (w : World) (K : PySem.W.Frag) (mg : Str → Option Value) (base : Heap) (x n : Str) (C : Addr) : Prop where
  cl : OexC K C
  g : mg x = some (.ref C)
  ex : ∃ (f : Addr) (fd : FuncData), PySem.W.findIn K (.ref C) "__init__" = some (some (.ref f)) ∧ PySem.W.typeIn K (.ref f) = some (.type "function") ∧ FnOk P w K mg base CX0 4 f fd ["self", n] (spExInit C n) ∧ Binds K fd ["self", n] []
section
variable {P : Program} {w : World} {K : PySem.W.Frag} {mg : Str → Option Value} {base : Heap}
theorem scBN : FnScope ["self", "value"] ["self", "value"] (defScope sBNInit) := ⟨rfl, rfl, rfl, by decide +kernel, rfl, by decide +kernel, by decide +kernel⟩
theorem ok_bn {f C : Addr} {fd : FuncData} (F : Fun K "__init__" "BadNumber.__init__" sBNInit f fd) (T : OexC K C) (no : PySem.W.findIn K (.ref C) "value" = some none) (D : Df P w K mg base 3 "kept" ["value"] spKeptV) : FnOk P w K mg base CX0 4 f fd ["self", "value"] (spExInit C "value") := by
  obtain ⟨f1, fd1, G1, g1, k1, b1⟩ := D.ex
  refine F.ok scBN (fun vs H Q E h => ?_) (fun cdv A outer s H vs Q E hr h => ?_)
  · obtain ⟨a, v, us, b, rfl, _⟩ := h
    rfl
  · obtain ⟨a, v, us, b, rfl, ha, hv, kk⟩ := h
    refine ⟨_, pss_one (ps_ost (pv 0) (pe_call G1 hr (by rfl) g1 k1 b1 .nil pass0 (pa_cons (pv 1) pa_nil))), ?_⟩
    refine ⟨_, rfl, v, us, b, rfl, hv, fun v' H1 s1 al => ⟨_, rfl, a, C, rfl, T, no, .inl ⟨s1 _ _ ha, fun dx nd dne => ?_⟩⟩⟩
    refine kk dx v' _ (s1.free nd) upd_same (by rw [upd_ne dne]; exact upd_same) (fun b o nb e => ?_) (al.on (fun b xs e => ?_) (fun b xs e => ?_))
    · rw [upd_ne nb, upd_ne (ne_of_none (s1 _ _ e) nd)]
      exact s1 _ _ e
    · have nb : b ≠ a := fun z => by rw [z, s1 _ _ ha] at e; exact exo_lst (Option.some.inj e)
      rw [upd_ne nb, upd_ne (ne_of_none e nd)]; exact e
    · have nb : b ≠ a := fun z => by rw [z, s1 _ _ ha] at e; exact exo_dK (Option.some.inj e)
      rw [upd_ne nb, upd_ne (ne_of_none e nd)]; exact e
/-- what the raising of such an error comes to -/
theorem raisedV {C : Addr} {n : Str} {H : Hp} {v : V} {E : XK} (hv : ∃ us b, Hold H v us b) (k : Told C n H v E) (a' : Addr) (na : H a' = none) :
    spExInit C n [.ref a', v] (upd H a' (exo a' C none)) (fun v' H2 => v' = .non ∧ ∃ (d : Addr) (fs : List (Str × V)), H2 a' = some (exo a' C (some d)) ∧ H2 d = some (exd d fs) ∧ H d = none ∧ E (.ref C) (some d) (upd (del H2 a') d (.xd fs))) (fun _ _ _ => False) := by
  obtain ⟨us, b, hv⟩ := hv
  refine ⟨a', v, us, b, rfl, upd_same, hv.keep (same_new na), fun d v' H' nd ha' hd bt al => ⟨rfl, d, _, ha', hd, ?_, ?_⟩⟩
  · have dne : d ≠ a' := fun z => by rw [z, upd_same] at nd; cases nd
    rw [upd_ne dne] at nd
    exact nd
  · have dne : d ≠ a' := fun z => by rw [z, upd_same] at nd; cases nd
    rw [upd_ne dne] at nd
    have hkeep : ∀ b o, H b = some o → upd (del H' a') d (.xd [(n, v')]) b = some o := fun b o e => by
      rw [upd_ne (ne_of_none e nd), del_ne (ne_of_none e na)]
      exact bt b o (ne_of_none e na) (by rw [upd_ne (ne_of_none e na)]; exact e)
    refine k d v' _ hkeep nd upd_same ?_
    have al2 : Alike H v H' v' := by
      cases al with
      | same => exact .same
      | lst e1 e2 =>
        rename_i a b us
        refine .lst ?_ e2
        have nb : a ≠ a' := fun z => by rw [z, upd_same] at e1; exact exo_lst (Option.some.inj e1)
        rw [upd_ne nb] at e1; exact e1
      | dct e1 e2 =>
        rename_i a b us
        refine .dct ?_ e2
        have nb : a ≠ a' := fun z => by rw [z, upd_same] at e1; exact exo_dK (Option.some.inj e1)
        rw [upd_ne nb] at e1; exact e1
    refine al2.on (fun b xs e => ?_) (fun b xs e => ?_)
    · have n1 : b ≠ a' := fun z => by rw [z, ha'] at e; exact exo_lst (Option.some.inj e)
      have n2 : b ≠ d := fun z => by rw [z, hd] at e; exact exd_lst (Option.some.inj e)
      rw [upd_ne n2, del_ne n1]; exact e
    · have n1 : b ≠ a' := fun z => by rw [z, ha'] at e; exact exo_dK (Option.some.inj e)
      have n2 : b ≠ d := fun z => by rw [z, hd] at e; exact exd_dK (Option.some.inj e)
      rw [upd_ne n2, del_ne n1]; exact e
def spNeedSize (C : Addr) : Sp := fun vs H Q E => ∃ v : V, vs = [v] ∧ IntQ H v ∧ ((inB 2 (10 ^ 12) v = true ∧ Q .non H) ∨ (inB 2 (10 ^ 12) v = false ∧ (∃ us b, Hold H v us b) ∧ Told C "value" H v E))
theorem scNeedSize : FnScope ["value"] ["value"] (defScope sNeedSize) := ⟨rfl, rfl, rfl, by decide +kernel, rfl, by decide +kernel, by decide +kernel⟩
theorem ok_needSize {f C : Addr} {fd : FuncData} (F : Fun K "need_size" "need_size" sNeedSize f fd) (D : Df P w K mg base 2 "is_within" ["value", "least", "most"] spWithinA) {t1 t2 : Tok} (gL : mg "LEAST_SIZE" = some (.int 2 t1)) (gM : mg "MOST_SIZE" = some (.int (10 ^ 12) t2)) (B : ErrV P w K mg base "BadNumber" "value" C) :
    FnOk P w K mg base (L2.CX P w) 6 f fd ["value"] (spNeedSize C) := by
  obtain ⟨fW, fdW, GW, gW, kW, bW⟩ := D.ex
  obtain ⟨TC, gC, fi, fdi, iC, tI, GI, bI⟩ := id B
  refine F.okX scNeedSize (fun vs H Q E h => ?_) (fun cdv A outer s H vs Q E hr h => ?_)
  · obtain ⟨v, rfl, _⟩ := h
    rfl
  · obtain ⟨v, rfl, hq, h⟩ := h
    refine ⟨_, pss_one (ps_if (pt_not (pt_val (pe_call GW (hr.mono (by decide)) (by rfl) gW kW bW .nil pass0 (pa_cons (pv 0) (pa_cons (pe_glob (v := .int 2) rfl gL ⟨_, rfl⟩) (pa_cons (pe_glob (v := .int (10 ^ 12)) rfl gM ⟨_, rfl⟩) pa_nil))))))
      (pss_one (ps_raise rfl (takes_of rfl rfl rfl rfl) (pmk_oex TC iC tI GI (hr.mono (by decide)) bI .nil pass0 (by rfl) gC (pa_cons (pv 0) pa_nil)))) pss_nil), ?_⟩
    rcases h with ⟨z, k⟩ | ⟨z, hv, k⟩
    · refine ⟨_, rfl, _, _, _, rfl, hq, _, rfl, ?_⟩
      rw [z]
      exact iteF k
    · have out : tMkO C (spExInit C "value") [] (tCons (tVar 0) tNil) [some v] H E := ⟨_, rfl, (by show 1 ≤ 1000; decide), fun a' na => raisedV hv k a' na⟩
      refine ⟨_, rfl, _, _, _, rfl, hq, _, rfl, ?_⟩
      rw [z]
      exact iteT out
end
end Ev
namespace Ev
open PySem L2 PySem.Spec PyProof.Rows RZ
/-! Fill rules. -/
structure Fr where
  p : Int
  q : Int
  k : Int
  c : Int
  j : Int
structure Fr.ok (r : Fr) : Prop where
  p1 : 1 ≤ r.p
  p2 : r.p ≤ 12
  q1 : 1 ≤ r.q
  q2 : r.q ≤ 12
  k1 : -12 ≤ r.k
  k2 : r.k ≤ 12
  c1 : 1 ≤ r.c
  c2 : r.c ≤ 5
  j1 : 2 ≤ r.j
  j2 : r.j ≤ 6
def Fr.wd (r : Fr) : Int := if r.c > r.j then r.c else r.j
def Fr.least (r : Fr) (m : Int) : Int := (r.p * m + r.k).fdiv r.q
def Fr.many (r : Fr) : Int := if r.c + 1 < r.j then r.c + 1 else r.j
def Fr.right (r : Fr) (m : Int) : Bool := decide (1 ≤ r.least m) && decide (r.many * r.least m ≤ (r.many - 1) * m + 1)
def fillF (a : Addr) (r : Fr) : List (Str × V) := [("times", .ref a), ("plus", .int r.k), ("cut_of", .int r.c), ("join_of", .int r.j), ("width", .int r.wd)]
def FAt (C : Addr) (H : Hp) (x : Addr) (r : Fr) : Prop := ∃ dx a, H x = some (.ins C dx (fillF a r)) ∧ H a = some (.tup [.int r.p, .int r.q])
theorem FAt.keep {C x : Addr} {H H' : Hp} {r : Fr} (h : FAt C H x r) (k : Same H H') : FAt C H' x r := by
  obtain ⟨dx, a, h1, h2⟩ := h
  exact ⟨dx, a, k _ _ h1, k _ _ h2⟩
theorem FAt.but {C x p : Addr} {H H' : Hp} {r : Fr} {xs : List V} (h : FAt C H x r) (hp : H p = some (.lst xs)) (k : But p H H') : FAt C H' x r := by
  obtain ⟨dx, a, h1, h2⟩ := h
  exact ⟨dx, a, k _ _ (ne_of h1 hp (by intro z; cases z)) h1, k _ _ (ne_of h2 hp (by intro z; cases z)) h2⟩
theorem fill_times (a : Addr) (r : Fr) : (fillF a r).lookup ("times" : Str) = some (.ref a) := lk_hit
theorem fill_plus (a : Addr) (r : Fr) : (fillF a r).lookup ("plus" : Str) = some (.int r.k) := (lk_miss (by decide +kernel)).trans lk_hit
theorem fill_cut (a : Addr) (r : Fr) : (fillF a r).lookup ("cut_of" : Str) = some (.int r.c) := (lk_miss (by decide +kernel)).trans ((lk_miss (by decide +kernel)).trans lk_hit)
theorem fill_join (a : Addr) (r : Fr) : (fillF a r).lookup ("join_of" : Str) = some (.int r.j) := (lk_miss (by decide +kernel)).trans ((lk_miss (by decide +kernel)).trans ((lk_miss (by decide +kernel)).trans lk_hit))
theorem fill_width (a : Addr) (r : Fr) : (fillF a r).lookup ("width" : Str) = some (.int r.wd) := (lk_miss (by decide +kernel)).trans ((lk_miss (by decide +kernel)).trans ((lk_miss (by decide +kernel)).trans ((lk_miss (by decide +kernel)).trans lk_hit)))
theorem fill_no (a : Addr) (r : Fr) {m : Str} (h1 : ¬ m = "times") (h2 : ¬ m = "plus") (h3 : ¬ m = "cut_of") (h4 : ¬ m = "join_of") (h5 : ¬ m = "width") : (fillF a r).lookup m = none := (lk_miss h1).trans ((lk_miss h2).trans ((lk_miss h3).trans ((lk_miss h4).trans ((lk_miss h5).trans rfl))))
def spLeastOf (C : Addr) : Sp := fun vs H Q _ => ∃ (x : Addr) (r : Fr) (m : Int), vs = [.ref x, .int m] ∧ FAt C H x r ∧ r.ok ∧ Q (.int (r.least m)) H
/-- a size asked of a rule: an answer, or an error with that value -/
def SizeK (N : Addr) (H : Hp) (E : XK) (v : V) (good : Int → Prop) : Prop := IntQ H v ∧ ((∃ m, v = .int m ∧ 2 ≤ m ∧ m ≤ 10 ^ 12 ∧ good m) ∨ (inB 2 (10 ^ 12) v = false ∧ (∃ us b, Hold H v us b) ∧ Told N "value" H v E))
theorem mw {q b : Int} (h1 : -b ≤ q) (h2 : q ≤ b) (hb : b ≤ 10 ^ 19) : -(2 ^ 64) < q ∧ q < 2 ^ 64 := ⟨by omega, by omega⟩
theorem inB_in {l m i : Int} (h1 : l ≤ i) (h2 : i ≤ m) : inB l m (.int i) = true := by
  show (decide (l ≤ i) && decide (i ≤ m)) = true
  rw [decide_eq_true h1, decide_eq_true h2]; rfl
section
variable {P : Program} {w : World} {K : PySem.W.Frag} {mg : Str → Option Value} {base : Heap}
theorem scLeastOf : FnScope ["rule", "most", "over", "under"] ["rule", "most"] (defScope sLeastOf) := ⟨rfl, rfl, rfl, by decide +kernel, rfl, by decide +kernel, by decide +kernel⟩
theorem ok_leastOf {f C : Addr} {fd : FuncData} (F : Fun K "least_of" "least_of" sLeastOf f fd) (T : FCls K C) : FnOk P w K mg base CX0 1 f fd ["rule", "most"] (spLeastOf C) := by
  refine F.ok scLeastOf (fun vs H Q E h => ?_) (fun cdv A outer s H vs Q E hr h => ?_)
  · obtain ⟨x, r, m, rfl, _⟩ := h
    rfl
  · obtain ⟨x, r, m, rfl, ⟨dx, a, hx, ha⟩, o, kk⟩ := h
    have o1 := o.q1; have o2 := o.q2
    refine ⟨_, (pss_cons (ps_asg (pe_fld (pv 0) rfl) (pg_tup (by rfl) (pgs_cons (pg_name (i := 2) scLeastOf.nd rfl (.inl rfl)) (pgs_cons (pg_name (i := 3) scLeastOf.nd rfl (.inl rfl)) pgs_nil))))
      (pss_one (ps_ret (pe_op op_fdivN (pe_op op_add (pe_op op_mul (pv 2) (pv 1)) (pe_fld (pv 0) rfl)) (pv 3))))), ?_⟩
    refine ⟨_, rfl, x, C, dx, _, _, rfl, hx, T.cl, T.n1, fill_times _ _, a, _, rfl, SqT.of ha, rfl, _, _, rfl, _, _, rfl, rfl, ?_⟩
    exact ⟨_, rfl, _, rfl, _, _, rfl, rfl, .inl (mw (b := 12) (by have := o.p1; omega) o.p2 (by decide)), _, rfl, x, C, dx, _, _, rfl, hx, T.cl, T.n2, fill_plus _ _, _, _, rfl, rfl, _, rfl, _, _, rfl, rfl, ⟨by omega, by omega⟩, kk⟩
end
end Ev
namespace Ev
open PySem L2 PySem.Spec PyProof.Rows
theorem Pen.new {L : Addr} {H : Hp} {p q : Addr} {B : Int} {o : HO} (h : Pen L H p B) (n : H q = none) : Pen L (upd H q o) p B := h.keep (fun b u e => by rw [upd_ne (ne_of_none e n)]; exact e)
theorem Pen.some {L : Addr} {H : Hp} {p : Addr} {B : Int} (h : Pen L H p B) : ∃ xs, H p = some (.lst xs) := by
  obtain ⟨ns, t, c, h1, _⟩ := h
  exact ⟨_, h1⟩
theorem Pen.ne {L : Addr} {H : Hp} {p q : Addr} {B : Int} (h : Pen L H p B) (n : H q = none) : q ≠ p := by
  obtain ⟨xs, e⟩ := h.some
  exact (ne_of_none e n).symm
theorem But.free {L p a : Addr} {H H' : Hp} {B : Int} (t : But p H H') (h : Pen L H' p B) (n : H' a = none) : H a = none := by
  cases e : H a with
  | none => rfl
  | some o =>
    have := t a o (h.ne n) e
    rw [n] at this
    cases this
def spPick : Sp := fun vs H Q _ => ∃ (p l L : Addr) (xs : List V) (B : Int), vs = [.ref p, .ref l] ∧ H l = some (.lst xs) ∧ l ≠ p ∧ 1 ≤ xs.length ∧ xs.length ≤ 1000 ∧ B ≤ 1000000 ∧ Pen L H p B ∧
  ∀ (d : V) (H' : Hp), d ∈ xs → But p H H' → Pen L H' p (B + 1) → Q d H'
def spPen (K : PySem.W.Frag) : Sp := fun vs H Q _ => ∃ (a : Addr) (ns : List Int), vs = [.ref a] ∧ SqL K H a (ns.map V.int) ∧ ns.length ≤ 63 ∧
  ∀ (p L : Addr) (H' : Hp), H p = none → Same H H' → Pen L H' p 0 → Q (.ref p) H'
def spLaw (K : PySem.W.Frag) : Sp := fun vs H Q _ => ∃ (a : Addr) (ns : List Int), vs = [.ref a] ∧ SqL K H a (ns.map V.int) ∧ ns.length ≤ 63 ∧ ∀ H', Q (.bl true) H'
theorem But.tup {L p a : Addr} {H H' : Hp} {B : Int} {xs : List V} (h : H a = some (.tup xs)) (pn : Pen L H p B) (t : But p H H') : H' a = some (.tup xs) := by
  obtain ⟨ys, e⟩ := pn.some
  exact t _ _ (ne_of h e (by intro z; cases z)) h
theorem Pen.put {L p D : Addr} {H : Hp} {B : Int} {o : HO} (h : Pen L H p B) (d1 : D ≠ p) (d2 : D ≠ L) : Pen L (upd H D o) p B := by
  obtain ⟨ns, t, c, h1, h2, h3⟩ := h
  exact ⟨ns, t, c, by rw [upd_ne d1.symm]; exact h1, by rw [upd_ne d2.symm]; exact h2, h3⟩
theorem Pen.neL {L p D : Addr} {H : Hp} {B : Int} (h : Pen L H p B) (n : H D = none) : D ≠ L := by
  obtain ⟨ns, t, c, h1, h2, h3⟩ := h
  exact (ne_of_none h2 n).symm
theorem cut_ints (ns : List Int) (h : Int) : ∃ ms : List Int, cutV (ns.map V.int) none (some h) = ms.map V.int ∧ ms.length ≤ ns.length := by
  unfold cutV
  generalize HT.sIx (ns.map V.int).length 0 none = x
  generalize HT.sIx (ns.map V.int).length (ns.map V.int).length (some h) - x = y
  refine ⟨(ns.drop x).take y, ?_, ?_⟩
  · rw [List.map_take, List.map_drop]
  · rw [List.length_take, List.length_drop]; omega
theorem int_at {ns : List Int} {i : Nat} {x : V} (h : (ns.map V.int)[i]? = some x) : ∃ n, ns[i]? = some n ∧ x = .int n := by
  rw [List.getElem?_map] at h
  cases z : ns[i]? with
  | none => rw [z] at h; cases h
  | some n => rw [z] at h; exact ⟨n, rfl, (Option.some.inj h).symm⟩
theorem m64 {q : Int} (h1 : 1 ≤ q) (h2 : q ≤ 8) : -(2 ^ 64) < q ∧ q < 2 ^ 64 := ⟨by omega, by omega⟩
section
variable {P : Program} {w : World} {K : PySem.W.Frag} {mg : Str → Option Value} {base : Heap}
theorem scPick : FnScope ["_law_pen_here", "_law_some"] ["_law_pen_here", "_law_some"] (defScope sPick) := ⟨rfl, rfl, rfl, by decide +kernel, rfl, by decide +kernel, by decide +kernel⟩
theorem ok_pick {f : Addr} {fd : FuncData} (F : Fun K "_law_pick" "_law_pick" sPick f fd) (T : Blt mg) (D : Df P w K mg base 1 "_law_draw" ["_law_pen_here", "_law_many"] spDraw) : FnOk P w K mg base CX0 2 f fd ["_law_pen_here", "_law_some"] spPick := by
  obtain ⟨f1, fd1, G1, g1, k1, b1⟩ := D.ex
  refine F.ok scPick (fun vs H Q E h => ?_) (fun cdv A outer s H vs Q E hr h => ?_)
  · obtain ⟨p, l, L, xs, B, rfl, _⟩ := h
    rfl
  · obtain ⟨p, l, L, xs, B, rfl, hl, hne, x1, x2, hB, hp, kk⟩ := h
    refine ⟨_, pss_one (ps_ret (pe_ix ix_list (pv 1) (pe_call G1 hr (by rfl) g1 k1 b1 .nil pass0 (pa_cons (pv 0) (pa_cons (pe_callB call_len_seq (by rfl) T.len PySem.boot_len (pa_cons (pv 1) pa_nil)) pa_nil))) (fun _ _ => rfl))), ?_⟩
    refine ⟨_, rfl, _, rfl, _, rfl, l, _, rfl, .inl (SqL.of hl), p, L, _, B, rfl, by omega, by omega, hB, hp, fun d H1 bt pn d0 d1 => ?_⟩
    obtain ⟨j, rfl⟩ := Int.eq_ofNat_of_zero_le d0
    have hj : j < xs.length := by omega
    refine ⟨l, xs, _, xs[j], rfl, rfl, SqL.of (bt _ _ hne hl), atI_nat (List.getElem?_eq_getElem hj), ?_⟩
    exact kk _ _ (List.getElem_mem hj) bt pn
theorem scPen : FnScope ["_law_script"] ["_law_script"] (defScope sPen) := ⟨rfl, rfl, rfl, by decide +kernel, rfl, by decide +kernel, by decide +kernel⟩
theorem ok_pen {f : Addr} {fd : FuncData} (F : Fun K "_law_pen" "_law_pen" sPen f fd) (T : Blt mg) : FnOk P w K mg base CX0 1 f fd ["_law_script"] (spPen K) := by
  refine F.ok scPen (fun vs H Q E h => ?_) (fun cdv A outer s H vs Q E hr h => ?_)
  · obtain ⟨a, ns, rfl, _⟩ := h
    rfl
  · obtain ⟨a, ns, rfl, hS, hlen, kk⟩ := h
    refine ⟨_, pss_one (ps_ret (pe_lst (pa_cons (pe_callTy call_list_of (by rfl) T.list (by decide +kernel) (pa_cons (pe_slice sl_list (pv 0) po_none (po_some pe_int)) pa_nil)) (pa_cons pe_int (pa_cons pe_int pa_nil))))), ?_⟩
    refine ⟨_, rfl, _, rfl, a, _, rfl, hS, fun l1 nl1 => ⟨l1, _, rfl, .inl (SqL.of upd_same), fun l2 nl2 => ⟨(by show 3 ≤ sizeLine; decide), fun p np => ?_⟩⟩⟩
    obtain ⟨ms, e1, e2⟩ := cut_ints ns 63
    rw [e1] at nl2 np ⊢
    have s1 : Same H (upd (upd H l1 (.lst (ms.map V.int))) l2 (.lst (ms.map V.int))) := (same_new nl1).trans (same_new nl2)
    have s2 := s1.trans (same_new (o := .lst [.ref l2, .int 0, .int 0]) np)
    refine kk p l2 _ ?_ s2 ⟨ms, 0, 0, upd_same, by rw [upd_ne (ne_of_none upd_same np)]; exact upd_same, ne_of_none upd_same np, by omega, by decide, by decide, by decide⟩
    cases z : H p with
    | none => rfl
    | some o => rw [s1 _ _ z] at np; cases np
end
end Ev
namespace Ev
open PySem L2 PySem.Spec PyProof.Rows RZ
def tupR (r : Fr) : List V := [.int r.p, .int r.q, .int r.k, .int r.c, .int r.j]
def spLNums : Sp := fun vs H Q _ => ∃ (p L : Addr) (B : Int), vs = [.ref p] ∧ B ≤ 900000 ∧ Pen L H p B ∧
  ∀ (a : Addr) (r : Fr) (H' : Hp), r.ok → H a = none → H' a = some (.tup (tupR r)) → But p H H' → Pen L H' p (B + 10) → Q (.ref a) H'
def spLRule (C : Addr) : Sp := fun vs H Q _ => ∃ (a : Addr) (r : Fr), vs = [.ref a] ∧ H a = some (.tup (tupR r)) ∧ r.ok ∧ ∀ x H', Same H H' → FAt C H' x r → Q (.ref x) H'
theorem i5_0 {a b c d e : V} : atI [a, b, c, d, e] 0 = some a := atI_nat (j := 0) rfl
theorem i5_1 {a b c d e : V} : atI [a, b, c, d, e] 1 = some b := atI_nat (j := 1) rfl
theorem i5_2 {a b c d e : V} : atI [a, b, c, d, e] 2 = some c := atI_nat (j := 2) rfl
theorem i5_3 {a b c d e : V} : atI [a, b, c, d, e] 3 = some d := atI_nat (j := 3) rfl
theorem i5_4 {a b c d e : V} : atI [a, b, c, d, e] 4 = some e := atI_nat (j := 4) rfl
section
variable {P : Program} {w : World} {K : PySem.W.Frag} {mg : Str → Option Value} {base : Heap}
theorem scLNumbers : FnScope ["_law_pen_here", "_law_kind", "_law_pair", "_law_extra"] ["_law_pen_here"] (defScope sLNumbers) := ⟨rfl, rfl, rfl, by decide +kernel, rfl, by decide +kernel, by decide +kernel⟩
theorem ok_lnums {f : Addr} {fd : FuncData} (F : Fun K "_law_numbers" "_law_numbers" sLNumbers f fd) (T : Blt mg) (D1 : Df P w K mg base 1 "_law_draw" ["_law_pen_here", "_law_many"] spDraw) : FnOk P w K mg base CX0 2 f fd ["_law_pen_here"] spLNums := by
  obtain ⟨f1, fd1, G1, g1, k1, b1⟩ := D1.ex
  refine F.ok scLNumbers (fun vs H Q E h => ?_) (fun cdv A outer s H vs Q E hr h => ?_)
  · obtain ⟨p, L, B, rfl, _⟩ := h
    rfl
  · obtain ⟨p, L, B, rfl, hB, pn, kk⟩ := h
    -- from the pair on
    obtain ⟨tR, hR, qR⟩ : ∃ t : TS, PSs (cxOf CX0 P w K mg base ["_law_pen_here", "_law_kind", "_law_pair", "_law_extra"] "_law_numbers" (defScope sLNumbers) f cdv A outer s H E).nox ((defBody sLNumbers).drop 3) t ∧ ∀ (G : Hp) (a : Addr) (u v kd : Int), G a = some (.tup [.int u, .int v]) → 1 ≤ u ∧ u ≤ 12 → 1 ≤ v ∧ v ≤ 12 → But p H G → Pen L G p (B + 4) →
        t { nx := fun _ H' => Q .non H', rt := Q } [some (.ref p), some (.int kd), some (.ref a), none] G := by
      refine ⟨_, (pss_cons (ps_set (i := 3) scLNumbers.nd rfl (.inl rfl) (pe_ifExp (pt_cmpR op_eq (pe_call G1 hr (by rfl) g1 k1 b1 .nil pass0 (pa_cons (pv 0) (pa_cons pe_int pa_nil))) pe_int (nomark _)) (pe_op op_sub (pe_call G1 hr (by rfl) g1 k1 b1 .nil pass0 (pa_cons (pv 0) (pa_cons pe_int pa_nil))) pe_int) pe_int))
        (pss_one (ps_ret (pe_tup (pa_cons (pe_ix ix_tup (pv 2) pe_int (fun _ _ => rfl)) (pa_cons (pe_ix ix_tup (pv 2) pe_int (fun _ _ => rfl)) (pa_cons (pv 3) (pa_cons (pe_op op_add pe_int (pe_call G1 hr (by rfl) g1 k1 b1 .nil pass0 (pa_cons (pv 0) (pa_cons pe_int pa_nil)))) (pa_cons (pe_op op_add pe_int (pe_call G1 hr (by rfl) g1 k1 b1 .nil pass0 (pa_cons (pv 0) (pa_cons pe_int pa_nil)))) pa_nil))))))))), ?_⟩
      intro G a u v kd ha hu hv bt pn
      have fin : ∀ (G2 : Hp) (e : Int), -12 ≤ e → e ≤ 12 → But p H G2 → G2 a = some (.tup [.int u, .int v]) → Pen L G2 p (B + 6) → ∀ (d1 d2 : Int) (G3 G4 : Hp), 0 ≤ d1 → d1 < 5 → 0 ≤ d2 → d2 < 5 → But p G2 G3 → But p G3 G4 → Pen L G4 p (B + 8) → ∀ t, G4 t = none → Q (.ref t) (upd G4 t (.tup [.int u, .int v, .int e, .int (1 + d1), .int (2 + d2)])) := by
        intro G2 e e1 e2 bt2 ha2 pn2 d1 d2 G3 G4 h1 h2 h3 h4 bt3 bt4 pn4 t nt
        have b4 : But p H G4 := bt2.trans (bt3.trans bt4)
        exact kk t ⟨u, v, e, 1 + d1, 2 + d2⟩ _ ⟨hu.1, hu.2, hv.1, hv.2, e1, e2, by show 1 ≤ 1 + d1; omega, by show 1 + d1 ≤ 5; omega, by show 2 ≤ 2 + d2; omega, by show 2 + d2 ≤ 6; omega⟩ (b4.free pn4 nt) upd_same (b4.trans (But.upd_new nt)) ((pn4.new nt).mono (by omega))
      refine ⟨_, rfl, p, L, _, _, rfl, by decide, by decide, by omega, pn, fun d G1 t1 p1 a1 c1 => ⟨rfl, _, rfl, ite2 (fun e => ?_) (fun e => ?_)⟩⟩
      · refine ⟨_, rfl, p, L, _, _, rfl, by decide, by decide, by omega, p1, fun d2 G2 t2 p2 a2 c2 => ⟨_, _, rfl, rfl, ?_⟩⟩
        have bt2 := bt.trans (t1.trans t2)
        have ha2 : G2 a = some (.tup [.int u, .int v]) := But.tup ha pn (t1.trans t2)
        refine ⟨_, rfl, a, _, _, _, rfl, rfl, SqT.of ha2, tup0, _, rfl, a, _, _, _, rfl, rfl, SqT.of ha2, tup1, _, rfl, _, rfl, p, L, _, _, rfl, by decide, by decide, by omega, p2, fun d3 G3 t3 p3 a3 c3 => ⟨_, _, rfl, rfl, ?_⟩⟩
        refine ⟨_, rfl, p, L, _, _, rfl, by decide, by decide, by omega, p3, fun d4 G4 t4 p4 a4 c4 => ⟨_, _, rfl, rfl, (by show 5 ≤ sizeLine; decide), fun t nt => ?_⟩⟩
        exact fin G2 (d2 - 12) (by omega) (by omega) bt2 ha2 (p2.mono (by omega)) d3 d4 G3 G4 a3 c3 a4 c4 t3 t4 (p4.mono (by omega)) t nt
      · have bt2 := bt.trans t1
        have ha2 : G1 a = some (.tup [.int u, .int v]) := But.tup ha pn t1
        refine ⟨_, rfl, a, _, _, _, rfl, rfl, SqT.of ha2, tup0, _, rfl, a, _, _, _, rfl, rfl, SqT.of ha2, tup1, _, rfl, _, rfl, p, L, _, _, rfl, by decide, by decide, by omega, p1, fun d3 G3 t3 p3 a3 c3 => ⟨_, _, rfl, rfl, ?_⟩⟩
        refine ⟨_, rfl, p, L, _, _, rfl, by decide, by decide, by omega, p3, fun d4 G4 t4 p4 a4 c4 => ⟨_, _, rfl, rfl, (by show 5 ≤ sizeLine; decide), fun t nt => ?_⟩⟩
        exact fin G1 0 (by omega) (by omega) bt2 ha2 (p1.mono (by omega)) d3 d4 G3 G4 a3 c3 a4 c4 t3 t4 (p4.mono (by omega)) t nt
    refine ⟨_, (pss_cons (ps_set (i := 1) scLNumbers.nd rfl (.inl rfl) (pe_call G1 hr (by rfl) g1 k1 b1 .nil pass0 (pa_cons (pv 0) (pa_cons pe_int pa_nil))))
      (pss_cons (ps_set (i := 2) scLNumbers.nd rfl (.inl rfl) (pe_ix ix_list (pe_lst (pa_cons (pe_tup (pa_cons pe_int (pa_cons pe_int pa_nil))) (pa_cons (pe_tup (pa_cons pe_int (pa_cons pe_int pa_nil))) (pa_cons (pe_tup (pa_cons pe_int (pa_cons pe_int pa_nil))) (pa_cons (pe_tup (pa_cons pe_int (pa_cons pe_int pa_nil))) (pa_cons (pe_tup (pa_cons pe_int (pa_cons pe_int pa_nil))) pa_nil)))))) (pv 1) (fun _ _ => rfl)))
      (pss_cons (ps_if (pt_cmpR op_gt (pv 1) pe_int (nomark _))
        (pss_one (ps_set (i := 2) scLNumbers.nd rfl (.inl rfl) (pe_tup (pa_cons (pe_op op_add pe_int (pe_call G1 hr (by rfl) g1 k1 b1 .nil pass0 (pa_cons (pv 0) (pa_cons pe_int pa_nil)))) (pa_cons (pe_op op_add pe_int (pe_call G1 hr (by rfl) g1 k1 b1 .nil pass0 (pa_cons (pv 0) (pa_cons pe_int pa_nil)))) pa_nil))))) pss_nil)
      hR))), ?_⟩
    refine ⟨_, rfl, p, L, _, _, rfl, by decide, by decide, by omega, pn, fun d H1 t1 p1 a1 c1 => ?_⟩
    refine ⟨(by show 2 ≤ sizeLine; decide), fun x1 n1 => ⟨(by show 2 ≤ sizeLine; decide), fun x2 n2 => ⟨(by show 2 ≤ sizeLine; decide), fun x3 n3 => ⟨(by show 2 ≤ sizeLine; decide), fun x4 n4 => ⟨(by show 2 ≤ sizeLine; decide), fun x5 n5 => ⟨(by show 5 ≤ sizeLine; decide), fun l nl => ?_⟩⟩⟩⟩⟩⟩
    -- five pairs
    have e1 : upd H1 x1 (.tup [.int 1, .int 2]) x1 = some (.tup [.int 1, .int 2]) := upd_same
    have s1 : Same H1 (upd H1 x1 (.tup [.int 1, .int 2])) := same_new n1
    generalize upd H1 x1 (.tup [.int 1, .int 2]) = G1 at e1 s1 n2 n3 n4 n5 nl ⊢
    have e2 : upd G1 x2 (.tup [.int 2, .int 3]) x2 = some (.tup [.int 2, .int 3]) := upd_same
    have s2 : Same G1 (upd G1 x2 (.tup [.int 2, .int 3])) := same_new n2
    generalize upd G1 x2 (.tup [.int 2, .int 3]) = G2 at e2 s2 n3 n4 n5 nl ⊢
    have e3 : upd G2 x3 (.tup [.int 3, .int 4]) x3 = some (.tup [.int 3, .int 4]) := upd_same
    have s3 : Same G2 (upd G2 x3 (.tup [.int 3, .int 4])) := same_new n3
    generalize upd G2 x3 (.tup [.int 3, .int 4]) = G3 at e3 s3 n4 n5 nl ⊢
    have e4 : upd G3 x4 (.tup [.int 1, .int 1]) x4 = some (.tup [.int 1, .int 1]) := upd_same
    have s4 : Same G3 (upd G3 x4 (.tup [.int 1, .int 1])) := same_new n4
    generalize upd G3 x4 (.tup [.int 1, .int 1]) = G4 at e4 s4 n5 nl ⊢
    have e5 : upd G4 x5 (.tup [.int 1, .int 1]) x5 = some (.tup [.int 1, .int 1]) := upd_same
    have s5 : Same G4 (upd G4 x5 (.tup [.int 1, .int 1])) := same_new n5
    generalize upd G4 x5 (.tup [.int 1, .int 1]) = G5 at e5 s5 nl ⊢
    have s6 : Same G5 (upd G5 l (.lst [.ref x1, .ref x2, .ref x3, .ref x4, .ref x5])) := same_new nl
    have hl : upd G5 l (.lst [.ref x1, .ref x2, .ref x3, .ref x4, .ref x5]) l = some (.lst [.ref x1, .ref x2, .ref x3, .ref x4, .ref x5]) := upd_same
    generalize upd G5 l (.lst [.ref x1, .ref x2, .ref x3, .ref x4, .ref x5]) = G6 at s6 hl ⊢
    have sa : Same H1 G6 := s1.trans (s2.trans (s3.trans (s4.trans (s5.trans s6))))
    obtain ⟨xa, u, v, hx, ha, hu, hv⟩ : ∃ (xa : Addr) (u v : Int), atI [V.ref x1, .ref x2, .ref x3, .ref x4, .ref x5] d = some (.ref xa) ∧ G6 xa = some (.tup [.int u, .int v]) ∧ (1 ≤ u ∧ u ≤ 12) ∧ (1 ≤ v ∧ v ≤ 12) := by
      rcases (show d = 0 ∨ d = 1 ∨ d = 2 ∨ d = 3 ∨ d = 4 by omega) with rfl | rfl | rfl | rfl | rfl
      · exact ⟨x1, 1, 2, i5_0, (s2.trans (s3.trans (s4.trans (s5.trans s6)))) _ _ e1, by decide, by decide⟩
      · exact ⟨x2, 2, 3, i5_1, (s3.trans (s4.trans (s5.trans s6))) _ _ e2, by decide, by decide⟩
      · exact ⟨x3, 3, 4, i5_2, (s4.trans (s5.trans s6)) _ _ e3, by decide, by decide⟩
      · exact ⟨x4, 1, 1, i5_3, (s5.trans s6) _ _ e4, by decide, by decide⟩
      · exact ⟨x5, 1, 1, i5_4, s6 _ _ e5, by decide, by decide⟩
    have p6 := p1.keep sa
    have b6 := t1.trans (Same.but sa)
    refine ⟨_, rfl, l, _, _, _, rfl, rfl, SqL.of hl, hx, ?_⟩
    refine ⟨_, rfl, _, _, rfl, rfl, _, rfl, ite2 (fun e => ?_) (fun e => ?_)⟩
    · refine ⟨_, rfl, p, L, _, _, rfl, by decide, by decide, by omega, p6, fun d3 G7 t3 p3 a3 c3 => ⟨_, _, rfl, rfl, ?_⟩⟩
      refine ⟨_, rfl, p, L, _, _, rfl, by decide, by decide, by omega, p3, fun d4 G8 t4 p4 a4 c4 => ⟨_, _, rfl, rfl, (by show 2 ≤ sizeLine; decide), fun t nt => ?_⟩⟩
      exact qR _ t (1 + d3) (1 + d4) d upd_same ⟨by omega, by omega⟩ ⟨by omega, by omega⟩ (b6.trans (t3.trans (t4.trans (But.upd_new nt)))) ((p4.new nt).mono (by omega))
    · exact qR G6 xa u v d ha hu hv b6 (p6.mono (by omega))
end
end Ev
namespace Ev
open PySem L2 PySem.Spec PyProof.Rows RZ
def spFillOk (C : Addr) : Sp := fun vs H Q _ => ∃ (x dx a : Addr) (r : Fr), vs = [.ref x, .ref a, .int r.k, .int r.c, .int r.j] ∧ H x = some (.ins C dx []) ∧ H a = some (.tup [.int r.p, .int r.q]) ∧ r.ok ∧
  ∀ H', But x H H' → H' x = some (.ins C dx (fillF a r)) → Q .non H'
theorem pairQ_int {H : Hp} {a : Addr} {i j : Int} (h : H a = some (.tup [.int i, .int j])) : PairQ H (.ref a) (some [.int i, .int j]) := ⟨a, rfl, h, (by show 2 ≤ 1000; decide), fun x m => by
  simp only [List.mem_cons, List.not_mem_nil, or_false] at m
  rcases m with rfl | rfl <;> exact .inl ⟨_, rfl⟩⟩
theorem outF_fr {r : Fr} (o : r.ok) : outF (some [.int r.p, .int r.q]) (.int r.k) (.int r.c) (.int r.j) = .ok := by
  unfold outF
  rw [if_neg (by show ¬ (inB 1 12 (.int r.p) && inB 1 12 (.int r.q)) = false; rw [inB_in o.p1 o.p2, inB_in o.q1 o.q2]; simp), if_neg (by rw [inB_in o.k1 o.k2]; simp), if_neg (by rw [inB_in o.c1 o.c2]; simp), if_neg (by rw [inB_in o.j1 o.j2]; simp)]
theorem fill_ok {C B N : Addr} {vs : List V} {H : Hp} {Q : VK} {E E' : XK} (h : spFillOk C vs H Q E) : spFillInit C B N vs H Q E' := by
  obtain ⟨x, dx, a, r, rfl, hx, ha, o, kk⟩ := h
  refine ⟨x, dx, _, _, _, _, _, rfl, hx, pairQ_int ha, .inl ⟨_, rfl⟩, .inl ⟨_, rfl⟩, .inl ⟨_, rfl⟩, ?_⟩
  rw [outF_fr o]
  intro c j ec ej H' b e
  obtain rfl := V.int.inj ec
  obtain rfl := V.int.inj ej
  exact kk H' b e
section
variable {P : Program} {w : World} {K : PySem.W.Frag} {mg : Str → Option Value} {base : Heap}
theorem scLRule : FnScope ["_law_told"] ["_law_told"] (defScope sLRule) := ⟨rfl, rfl, rfl, by decide +kernel, rfl, by decide +kernel, by decide +kernel⟩
theorem ok_lrule {f C fI : Addr} {fd fdI : FuncData} {g : List Value → List Value → List Value} (F : Fun K "_law_rule" "_law_rule" sLRule f fd) (gC : mg "FillRule" = some (.ref C)) (M : Mk K C fI)
    (GI : FnOk P w K mg base CX0 5 fI fdI ["self", "times", "plus", "cut_of", "join_of"] (spFillOk C)) (bI : KBn K fdI ["self", "times", "plus", "cut_of", "join_of"] 3 ["cut_of", "join_of"] g (fun vs zs => vs ++ zs)) :
    FnOk P w K mg base CX0 7 f fd ["_law_told"] (spLRule C) := by
  refine F.ok scLRule (fun vs H Q E h => ?_) (fun cdv A outer s H vs Q E hr h => ?_)
  · obtain ⟨a, r, rfl, _⟩ := h
    rfl
  · obtain ⟨a, r, rfl, ha, o, kk⟩ := h
    refine ⟨_, (pss_one (ps_ret (pe_makeN (n := 2) M GI hr (by rfl) gC bI pass0 (pa_cons (pe_tup (pa_cons (pe_ix ix_tup (pv 0) pe_int (fun _ _ => rfl)) (pa_cons (pe_ix ix_tup (pv 0) pe_int (fun _ _ => rfl)) pa_nil))) (pa_cons (pe_ix ix_tup (pv 0) pe_int (fun _ _ => rfl)) pa_nil)) (pk_cons (pe_ix ix_tup (pv 0) pe_int (fun _ _ => rfl)) (pk_cons (pe_ix ix_tup (pv 0) pe_int (fun _ _ => rfl)) pk_nil))))), ?_⟩
    refine ⟨_, rfl, a, _, _, _, rfl, rfl, SqT.of ha, i5_0, _, rfl, a, _, _, _, rfl, rfl, SqT.of ha, i5_1, (by show 2 ≤ sizeLine; decide), fun t nt => ?_⟩
    have s1 : Same H (upd H t (.tup [.int r.p, .int r.q])) := same_new nt
    have ht : upd H t (.tup [.int r.p, .int r.q]) t = some (.tup [.int r.p, .int r.q]) := upd_same
    generalize upd H t (.tup [.int r.p, .int r.q]) = H1 at s1 ht ⊢
    have ha1 := s1 _ _ ha
    refine ⟨_, rfl, a, _, _, _, rfl, rfl, SqT.of ha1, i5_2, _, rfl, a, _, _, _, rfl, rfl, SqT.of ha1, i5_3, _, rfl, a, _, _, _, rfl, rfl, SqT.of ha1, i5_4, rfl, rfl, fun x dx nx ndx nex => ?_⟩
    have keep : ∀ (o1 o2 : HO) (b : Addr) (u : HO), H1 b = some u → upd (upd H1 dx o1) x o2 b = some u := fun o1 o2 b u e => by
      rw [upd_ne (ne_of_none e nx), upd_ne (ne_of_none e ndx)]; exact e
    refine ⟨x, dx, t, r, rfl, upd_same, keep _ _ _ _ ht, o, fun H3 t3 hx3 => ⟨rfl, ?_⟩⟩
    have s3 : ∀ b u, H1 b = some u → H3 b = some u := fun b u e => t3 _ _ (ne_of_none e nx) (keep _ _ _ _ e)
    exact kk x H3 (fun b u e => s3 _ _ (s1 _ _ e)) ⟨dx, t, hx3, s3 _ _ ht⟩
end
end Ev
namespace Ev
open PySem L2 PySem.Spec PyProof.Rows RZ
theorem Fr.many_le {r : Fr} (o : r.ok) : 2 ≤ r.many ∧ r.many ≤ 6 := by
  have := o.c1; have := o.j1; have := o.j2
  unfold Fr.many
  by_cases z : r.c + 1 < r.j
  · rw [if_pos z]; omega
  · rw [if_neg z]; omega
section
variable {P : Program} {w : World} {K : PySem.W.Frag} {mg : Str → Option Value} {base : Heap}
end
end Ev
namespace Ev
open PySem L2 PySem.Spec PyProof.Rows RZ
/-- the fills of pages to which entries are dealt -/
def dealtL (t p : Int) : List Int := List.replicate (t % p).toNat (t / p + 1) ++ List.replicate (p - t % p).toNat (t / p)
theorem dealtL_len {t p : Int} (h : 1 ≤ p) : (dealtL t p).length = p.toNat := by
  have h1 := Int.emod_nonneg t (by omega : p ≠ 0)
  have h2 := Int.emod_lt_of_pos t (by omega : 0 < p)
  simp only [dealtL, List.length_append, List.length_replicate]
  omega
theorem cut_to {xs : List Int} {e : Int} (h0 : 0 ≤ e) (h1 : e ≤ xs.length) : cutV (xs.map V.int) (some 0) (some e) = (xs.take e.toNat).map V.int := by
  obtain ⟨k, rfl⟩ := Int.eq_ofNat_of_zero_le h0
  unfold cutV
  rw [show (some (0 : Int)) = some ((0 : Nat) : Int) from rfl, HT.sIx_nat, HT.sIx_nat, List.length_map, Int.toNat_natCast, Nat.zero_min, List.drop_zero, Nat.sub_zero, Nat.min_eq_left (by omega), List.map_take]
theorem cut_nil {xs : List Int} : cutV (xs.map V.int) none (some 0) = [] := by
  unfold cutV
  rw [show (some (0 : Int)) = some ((0 : Nat) : Int) from rfl, HT.sIx_nat, HT.sIx_none]
  simp
theorem cut_from {xs : List Int} {e : Int} (h0 : 0 ≤ e) (h1 : e ≤ xs.length) : cutV (xs.map V.int) (some e) none = (xs.drop e.toNat).map V.int := by
  obtain ⟨k, rfl⟩ := Int.eq_ofNat_of_zero_le h0
  unfold cutV
  rw [HT.sIx_nat, HT.sIx_none, List.length_map, Int.toNat_natCast, Nat.min_eq_left (by omega), ← List.map_drop, List.take_of_length_le (by rw [List.length_map, List.length_drop]; omega)]
/-- the item of a list by an index that is not negative, by values -/
def rIxL0 (K : PySem.W.Frag) : V → V → Hp → VK → Prop := fun x y H Q => ∃ p xs i v, x = .ref p ∧ y = .int i ∧ 0 ≤ i ∧ SqL K H p xs ∧ atI xs i = some v ∧ Q v H
theorem get_list {X : Cx} : PGet X (rIxL0 X.K) := by
  intro pins s σ H o i ov iv Q I ro ri h
  obtain ⟨p, xs, i, z, rfl, rfl, h0, hq, he, q⟩ := h
  cases ro
  obtain ⟨t, rfl⟩ := ri
  obtain ⟨its, r, pl, hz⟩ := I.list hq
  obtain ⟨j, h1, h2, h3, h4, h5⟩ := atI_get he
  obtain ⟨w, ew, rw'⟩ := r.get h2
  have hl := r.length
  have hn := line63
  have hj : i.toNat = j := by
    rw [seqIndex_of h0 h5] at h1
    exact Option.some.inj h1
  exact wpAny_getItem_list pl.isList h0 (by omega) (by rw [hj]; simpa using ew) ⟨z, H, I, rw', q⟩
theorem cut_upto {xs : List Int} {e : Int} (h0 : 0 ≤ e) (h1 : e ≤ xs.length) : cutV (xs.map V.int) none (some e) = (xs.take e.toNat).map V.int := by
  obtain ⟨k, rfl⟩ := Int.eq_ofNat_of_zero_le h0
  unfold cutV
  rw [HT.sIx_none, HT.sIx_nat, List.length_map, Int.toNat_natCast, List.drop_zero, Nat.sub_zero, Nat.min_eq_left (by omega), List.map_take]
theorem cut_mid {xs : List Int} {s e : Int} (h0 : 0 ≤ s) (hs : s ≤ e) (h1 : e ≤ xs.length) : cutV (xs.map V.int) (some s) (some e) = ((xs.take e.toNat).drop s.toNat).map V.int := by
  obtain ⟨k, rfl⟩ := Int.eq_ofNat_of_zero_le h0
  obtain ⟨j, rfl⟩ := Int.eq_ofNat_of_zero_le (Int.le_trans h0 hs)
  unfold cutV
  rw [HT.sIx_nat, HT.sIx_nat, List.length_map, Int.toNat_natCast, Int.toNat_natCast, Nat.min_eq_left (by omega), Nat.min_eq_left (by omega), List.map_drop, List.map_take, List.drop_take]
/-- the page of the entry of an index -/
def pageAt : List Int → Int → Nat
  | [], _ => 0
  | x :: xs, i => if i ≥ x then pageAt xs (i - x) + 1 else 0
def pageFor (xs : List Int) (a : Int) : Nat := if a > 0 then pageAt xs (a - 1) else 0
theorem pageAt_lt : ∀ {xs : List Int} {i : Int}, i < xs.sum → xs ≠ [] → (∀ x ∈ xs, 0 ≤ x) → pageAt xs i < xs.length
  | [], _, _, h, _ => absurd rfl h
  | x :: xs, i, h, _, p => by
    rw [pageAt]
    split
    · rw [List.sum_cons] at h
      have hx : xs ≠ [] := by rintro rfl; simp at h; omega
      have := pageAt_lt (xs := xs) (i := i - x) (by omega) hx fun y m => p y (List.mem_cons_of_mem _ m)
      rw [List.length_cons]
      omega
    · rw [List.length_cons]; omega
/-- a page with so many entries more -/
def bump (xs : List Int) (k : Nat) (d : Int) : List Int := xs.set k (xs.getD k 0 + d)
theorem bump_len (xs : List Int) (k : Nat) (d : Int) : (bump xs k d).length = xs.length := by unfold bump; rw [List.length_set]
def groupS (at' many : Int) : Int := if at' ≥ many then at' - many + 1 else 0
/-- a deed for the row above -/
abbrev Deed := Option (Bool × Int)
def anewL (xs : List Int) (s e p : Int) : List Int := xs.take s.toNat ++ (dealtL ((xs.take e.toNat).drop s.toNat).sum p ++ xs.drop e.toNat)
def anewD (s e p : Int) : Deed := if p > e - s then some (true, e) else if p < e - s then some (false, e - 1) else none
def DeedV (H : Hp) (v : V) : Deed → Prop
  | none => v = .non
  | some (b, i) => ∃ a, v = .ref a ∧ H a = some (.tup [.str (if b then "more" else "fewer"), .int i])
theorem DeedV.keep {H H' : Hp} {v : V} {d : Deed} (h : DeedV H v d) (k : ∀ b o, H b = some o → H' b = some o) : DeedV H' v d := by
  cases d with
  | none => exact h
  | some p =>
    obtain ⟨b, i⟩ := p
    obtain ⟨a, e, h⟩ := h
    exact ⟨a, e, k _ _ h⟩
theorem dealtL_zero : dealtL 0 0 = [] := by decide
theorem Fr.wd_bd {r : Fr} (o : r.ok) : 2 ≤ r.wd ∧ r.wd ≤ 6 ∧ r.c ≤ r.wd ∧ r.j ≤ r.wd := by
  have := o.c1; have := o.c2; have := o.j1; have := o.j2
  unfold Fr.wd
  split <;> omega
/-- a put -/
def Fr.putR (r : Fr) (m : Int) (xs : List Int) (a : Int) : List Int × Deed :=
  if xs = [] then ([1], some (true, 0)) else
    let k := pageFor xs a
    let row := bump xs k 1
    if (row.length : Int) > r.wd then
      if row.getD k 0 ≤ m then (row, none) else
        let s := groupS k r.c
        let e := s + r.c
        let p := if ((row.take e.toNat).drop s.toNat).sum > r.c * m then r.c + 1 else r.c
        (anewL row s e p, anewD s e p)
    else
      let e := (row.length : Int)
      let p := if row.sum > e * m then e + 1 else e
      (anewL row 0 e p, anewD 0 e p)
/-- a take -/
def Fr.takeR (r : Fr) (m : Int) (xs : List Int) (i : Int) : List Int × Deed :=
  let k := pageAt xs i
  let row := bump xs k (-1)
  if (row.length : Int) ≤ r.wd then
    let e := (row.length : Int)
    let p := e - (if row.sum ≤ (e - 1) * m then 1 else 0)
    (anewL row 0 e p, anewD 0 e p)
  else if row.getD k 0 ≥ r.least m then (row, none) else
    let s := groupS k r.j
    let e := s + r.j
    let p := r.j - (if ((row.take e.toNat).drop s.toNat).sum < r.j * r.least m then 1 else 0)
    (anewL row s e p, anewD s e p)
def spDealt : Sp := fun vs H Q _ => ∃ t p : Int, vs = [.int t, .int p] ∧ 0 ≤ p ∧ p ≤ 12 ∧ (p = 0 → t = 0) ∧ ∀ q H', Same H H' → H' q = some (.lst ((dealtL t p).map V.int)) → Q (.ref q) H'
def spGroup : Sp := fun vs H Q _ => ∃ at' many : Int, vs = [.int at', .int many] ∧ ∀ t H', Same H H' → H' t = some (.tup [.int (groupS at' many), .int (groupS at' many + many)]) → Q (.ref t) H'
def spPageA : Sp := fun vs H Q _ => ∃ (l : Addr) (xs : List Int) (i : Int), vs = [.ref l, .int i] ∧ H l = some (.tup (xs.map V.int)) ∧ i < xs.sum ∧ (∀ x ∈ xs, 0 ≤ x) ∧ xs ≠ [] ∧ Q (.int (pageAt xs i : Nat)) H
def spPageF : Sp := fun vs H Q _ => ∃ (l : Addr) (xs : List Int) (a : Int), vs = [.ref l, .int a] ∧ H l = some (.tup (xs.map V.int)) ∧ a ≤ xs.sum ∧ (∀ x ∈ xs, 0 ≤ x) ∧ xs ≠ [] ∧ Q (.int (pageFor xs a : Nat)) H
def spAnew : Sp := fun vs H Q _ => ∃ (l : Addr) (xs : List Int) (s e p : Int), vs = [.ref l, .int s, .int e, .int p] ∧ H l = some (.lst (xs.map V.int)) ∧ 0 ≤ s ∧ s ≤ e ∧ e ≤ xs.length ∧ xs.length ≤ 2000 ∧ 0 ≤ p ∧ p ≤ 12 ∧ (p = 0 → ((xs.take e.toNat).drop s.toNat).sum = 0) ∧
  ∀ t q v H', Same H H' → H' t = some (.tup [.ref q, v]) → H' q = some (.lst ((anewL xs s e p).map V.int)) → DeedV H' v (anewD s e p) → Q (.ref t) H'
section
variable {P : Program} {w : World} {K : PySem.W.Frag} {mg : Str → Option Value} {base : Heap}
theorem scDealt : FnScope ["total", "pages", "each", "rest"] ["total", "pages"] (defScope sDealt) := ⟨rfl, rfl, rfl, by decide +kernel, rfl, by decide +kernel, by decide +kernel⟩
theorem ok_dealt {f : Addr} {fd : FuncData} (F : Fun K "dealt" "dealt" sDealt f fd) (md : mg "divmod" = none) : FnOk P w K mg base CX0 1 f fd ["total", "pages"] spDealt := by
  refine F.ok scDealt (fun vs H Q E h => ?_) (fun cdv A outer s H vs Q E hr h => ?_)
  · obtain ⟨t, p, rfl, _⟩ := h
    rfl
  · obtain ⟨t, p, rfl, p0, p2, pz, kk⟩ := h
    refine ⟨_, (pss_cons (ps_if (pt_cmpR op_eq (pv 1) pe_int (nomark _))
      (pss_one (ps_ret (pe_lst pa_nil))) pss_nil)
    (pss_cons (ps_asg (pe_callB call_divmod (by rfl) md (by decide +kernel) (pa_cons (pv 0) (pa_cons (pv 1) pa_nil))) (pg_tup (by rfl) (pgs_cons (pg_name (i := 2) scDealt.nd rfl (.inl rfl)) (pgs_cons (pg_name (i := 3) scDealt.nd rfl (.inl rfl)) pgs_nil))))
    (pss_one (ps_ret (pe_op op_cat (pe_op op_rep (pe_lst (pa_cons (pe_op op_add (pv 2) pe_int) pa_nil)) (pv 3)) (pe_op op_rep (pe_lst (pa_cons (pv 2) pa_nil)) (pe_op op_sub (pv 1) (pv 3)))))))), ?_⟩
    refine ⟨_, rfl, rfl, _, rfl, ite2 (fun e => ?_) (fun e => ?_)⟩
    · have e : p = 0 := V.int.inj (of_decide_eq_true e)
      have et := pz e
      subst e et
      refine ⟨(by show 0 ≤ sizeLine; decide), fun l nl => kk l _ (same_new nl) ?_⟩
      rw [upd_same, dealtL_zero]
      rfl
    have e : ¬ p = 0 := fun z => e (decide_eq_true (congrArg V.int z))
    have p1 : 1 ≤ p := by omega
    refine ⟨_, rfl, _, rfl, t, p, rfl, ⟨by omega, by omega⟩, fun a na => ?_⟩
    have h1 := Int.emod_nonneg t (by omega : p ≠ 0)
    have h2 := Int.emod_lt_of_pos t (by omega : 0 < p)
    refine ⟨a, _, rfl, SqT.of upd_same, rfl, _, _, rfl, _, _, rfl, rfl, ?_⟩
    have s1 : Same H (upd H a (.tup [.int (t / p), .int (t % p)])) := same_new na
    generalize upd H a (.tup [.int (t / p), .int (t % p)]) = H1 at s1 ⊢
    refine ⟨_, rfl, _, _, rfl, rfl, (by show 1 ≤ sizeLine; decide), fun l1 n1 => ?_⟩
    refine ⟨_, rfl, l1, _, _, rfl, rfl, upd_same, by omega, by omega, ?_, fun l2 n2 => ?_⟩
    · have : 1 * (t % p).toNat ≤ 12 := by omega
      exact Nat.le_trans this (by decide)
    have s2 := s1.trans (same_new (o := .lst [.int (t / p + 1)]) n1)
    generalize upd H1 l1 (.lst [.int (t / p + 1)]) = H2 at s2 n2 ⊢
    have s3 := s2.trans (same_new (o := .lst (List.replicate (t % p).toNat [V.int (t / p + 1)]).flatten) n2)
    have u3 : upd H2 l2 (.lst (List.replicate (t % p).toNat [V.int (t / p + 1)]).flatten) l2 = some (.lst (List.replicate (t % p).toNat (V.int (t / p + 1)))) := by rw [upd_same, List.flatten_replicate_singleton]
    generalize upd H2 l2 (.lst (List.replicate (t % p).toNat [V.int (t / p + 1)]).flatten) = H3 at s3 u3 ⊢
    refine ⟨_, rfl, (by show 1 ≤ sizeLine; decide), fun l3 n3 => ?_⟩
    have u4 := same_new (o := .lst [V.int (t / p)]) n3 _ _ u3
    have s4 := s3.trans (same_new (o := .lst [V.int (t / p)]) n3)
    have v4 : upd H3 l3 (.lst [V.int (t / p)]) l3 = some (.lst [V.int (t / p)]) := upd_same
    generalize upd H3 l3 (.lst [V.int (t / p)]) = H4 at s4 u4 v4 ⊢
    refine ⟨_, rfl, _, rfl, _, _, rfl, rfl, l3, p - t % p, _, rfl, rfl, v4, by omega, by omega, ?_, fun l4 n4 => ?_⟩
    · have : 1 * (p - t % p).toNat ≤ 12 := by omega
      exact Nat.le_trans this (by decide)
    rw [List.flatten_replicate_singleton]
    have u5 := same_new (o := .lst (List.replicate (p - t % p).toNat (V.int (t / p)))) n4 _ _ u4
    have s5 := s4.trans (same_new (o := .lst (List.replicate (p - t % p).toNat (V.int (t / p)))) n4)
    have v5 : upd H4 l4 (.lst (List.replicate (p - t % p).toNat (V.int (t / p)))) l4 = some (.lst (List.replicate (p - t % p).toNat (V.int (t / p)))) := upd_same
    generalize upd H4 l4 (.lst (List.replicate (p - t % p).toNat (V.int (t / p)))) = H5 at s5 u5 v5 ⊢
    refine ⟨l2, l4, _, _, rfl, rfl, u5, v5, ?_, fun l5 n5 => ?_⟩
    · rw [List.length_replicate, List.length_replicate]
      exact Nat.le_trans (show _ ≤ 12 by omega) (by decide)
    · refine kk l5 _ (s5.trans (same_new n5)) ?_
      rw [upd_same, dealtL, List.map_append, List.map_replicate, List.map_replicate]
theorem scGroupOf : FnScope ["at", "many", "start"] ["at", "many"] (defScope sGroupOf) := ⟨rfl, rfl, rfl, by decide +kernel, rfl, by decide +kernel, by decide +kernel⟩
theorem ok_group {f : Addr} {fd : FuncData} (F : Fun K "group_of" "group_of" sGroupOf f fd) : FnOk P w K mg base CX0 1 f fd ["at", "many"] spGroup := by
  refine F.ok scGroupOf (fun vs H Q E h => ?_) (fun cdv A outer s H vs Q E hr h => ?_)
  · obtain ⟨t, p, rfl, _⟩ := h
    rfl
  · obtain ⟨a, m, rfl, kk⟩ := h
    refine ⟨_, (pss_cons (ps_set (i := 2) scGroupOf.nd rfl (.inl rfl) (pe_ifExp (pt_cmpR op_ge (pv 0) (pv 1) (nomark _)) (pe_op op_add (pe_op op_sub (pv 0) (pv 1)) pe_int) pe_int))
    (pss_one (ps_ret (pe_tup (pa_cons (pv 2) (pa_cons (pe_op op_add (pv 2) (pv 1)) pa_nil)))))), ?_⟩
    refine ⟨_, rfl, _, rfl, _, _, rfl, rfl, _, rfl, ite2 (fun e => ?_) (fun e => ?_)⟩
    · have e : a ≥ m := of_decide_eq_true e
      rw [groupS, if_pos e] at kk
      exact ⟨_, rfl, _, rfl, _, _, rfl, rfl, _, _, rfl, rfl, _, rfl, _, rfl, _, rfl, _, _, rfl, rfl, (by show 2 ≤ sizeLine; decide), fun t nt => kk t _ (same_new nt) upd_same⟩
    · have e : ¬ a ≥ m := fun z => e (decide_eq_true z)
      rw [groupS, if_neg e] at kk
      exact ⟨_, rfl, _, rfl, _, rfl, _, _, rfl, rfl, (by show 2 ≤ sizeLine; decide), fun t nt => kk t _ (same_new nt) upd_same⟩
theorem scPageAt : FnScope ["fills", "index", "at"] ["fills", "index"] (defScope sPageAt) := ⟨rfl, rfl, rfl, by decide +kernel, rfl, by decide +kernel, by decide +kernel⟩
theorem ok_pageAt {f : Addr} {fd : FuncData} (F : Fun K "page_at" "page_at" sPageAt f fd) : FnOk P w K mg base CX0 1 f fd ["fills", "index"] spPageA := by
  refine F.ok scPageAt (fun vs H Q E h => ?_) (fun cdv A outer s H vs Q E hr h => ?_)
  · obtain ⟨l, xs, i, rfl, _⟩ := h
    rfl
  · obtain ⟨l, xs, i, rfl, hl, hi, hp, hne, kk⟩ := h
    refine ⟨_, (pss_cons (ps_set (i := 2) scPageAt.nd rfl (.inl rfl) pe_int)
    (pss_cons (ps_while PassesOwn.never (pt_cmpR op_ge (pv 1) (pe_ix ix_tup (pv 0) (pv 2) (fun _ _ => rfl)) (nomark _))
      (pss_cons (ps_set (i := 1) scPageAt.nd rfl (.inl rfl) (pe_op op_sub (pv 1) (pe_ix ix_tup (pv 0) (pv 2) (fun _ _ => rfl))))
      (pss_one (ps_aug (i := 2) scPageAt.nd rfl (.inl rfl) pe_int ip_add))))
    (pss_one (ps_ret (pv 2))))), ?_⟩
    refine ⟨fun μ σ H' => ∃ (n : Nat) (i' : Int), μ = xs.length - n ∧ σ = [some (.ref l), some (.int i'), some (.int (n : Int))] ∧ H' = H ∧ pageAt xs i = n + pageAt (xs.drop n) i' ∧ i' < (xs.drop n).sum ∧ xs.drop n ≠ [], ⟨xs.length, 0, i, rfl, rfl, rfl, by simp, by simpa using hi, by simpa using hne⟩, ?_⟩
    rintro μ σ H' ⟨n, i', rfl, rfl, rfl, e1, e2, e3⟩
    obtain ⟨x, ys, ex⟩ : ∃ x ys, xs.drop n = x :: ys := by
      cases h : xs.drop n with
      | nil => exact absurd h e3
      | cons x ys => exact ⟨x, ys, rfl⟩
    have hn : n < xs.length := by
      by_cases z : n < xs.length
      · exact z
      · rw [List.drop_of_length_le (by omega)] at ex; cases ex
    have an : atI (xs.map V.int) (n : Int) = some (V.int x) := by
      refine atI_nat ?_
      have : (xs.drop n)[0]? = some x := by rw [ex]; rfl
      rw [List.getElem?_drop, Nat.add_zero] at this
      rw [List.getElem?_map, this]
      rfl
    have ed : xs.drop (n + 1) = ys := by
      rw [← List.drop_drop, ex]; rfl
    rw [ex] at e1 e2
    refine ⟨_, rfl, _, rfl, _, rfl, l, _, _, _, rfl, rfl, SqT.of hl, an, _, _, rfl, rfl, _, rfl, ite2 (fun g => ?_) (fun g => ?_)⟩
    · have g : i' ≥ x := of_decide_eq_true g
      rw [pageAt, if_pos g] at e1
      rw [List.sum_cons] at e2
      refine ⟨fun σ' H2 => σ' = [some (.ref l), some (.int (i' - x)), some (.int ((n : Int) + 1))] ∧ H2 = H', fun σ' H2 ⟨q1, q2⟩ => ⟨xs.length - (n + 1), by omega, n + 1, i' - x, rfl, q1, q2, by rw [ed]; omega, by rw [ed]; omega, ?_⟩, ?_⟩
      · rw [ed]
        intro z
        rw [z] at e2
        simp at e2
        omega
      · exact ⟨_, rfl, _, rfl, _, rfl, l, _, _, _, rfl, rfl, SqT.of hl, an, _, _, rfl, rfl, _, rfl, _, _, rfl, rfl, rfl, rfl⟩
    · have g : ¬ i' ≥ x := fun z => g (decide_eq_true z)
      rw [pageAt, if_neg g] at e1
      rw [show pageAt xs i = n by omega] at kk
      exact ⟨_, rfl, kk⟩
theorem scPageFor : FnScope ["fills", "ahead"] ["fills", "ahead"] (defScope sPageFor) := ⟨rfl, rfl, rfl, by decide +kernel, rfl, by decide +kernel, by decide +kernel⟩
theorem ok_pageFor {f : Addr} {fd : FuncData} (F : Fun K "page_for" "page_for" sPageFor f fd) (D1 : Df P w K mg base 1 "page_at" ["fills", "index"] spPageA) : FnOk P w K mg base CX0 2 f fd ["fills", "ahead"] spPageF := by
  obtain ⟨f1, fd1, G1, g1, k1, b1⟩ := D1.ex
  refine F.ok scPageFor (fun vs H Q E h => ?_) (fun cdv A outer s H vs Q E hr h => ?_)
  · obtain ⟨l, xs, a, rfl, _⟩ := h
    rfl
  · obtain ⟨l, xs, a, rfl, hl, ha, hp, hne, kk⟩ := h
    refine ⟨_, (pss_one (ps_ret (pe_ifExp (pt_cmpR op_gt (pv 1) pe_int (nomark _)) (pe_call G1 hr (by rfl) g1 k1 b1 .nil pass0 (pa_cons (pv 0) (pa_cons (pe_op op_sub (pv 1) pe_int) pa_nil))) pe_int))), ?_⟩
    refine ⟨_, rfl, _, _, rfl, rfl, _, rfl, ite2 (fun e => ?_) (fun e => ?_)⟩
    · have e : a > 0 := of_decide_eq_true e
      rw [pageFor, if_pos e] at kk
      exact ⟨_, rfl, _, rfl, _, _, rfl, rfl, l, xs, a - 1, rfl, hl, by omega, hp, hne, kk⟩
    · have e : ¬ a > 0 := fun z => e (decide_eq_true z)
      rw [pageFor, if_neg e] at kk
      exact kk
theorem scDealtAnew : FnScope ["row", "start", "end", "pages", "fills"] ["row", "start", "end", "pages"] (defScope sDealtAnew) := ⟨rfl, rfl, rfl, by decide +kernel, rfl, by decide +kernel, by decide +kernel⟩
theorem dealtL_len0 {t p : Int} (h : 0 ≤ p) (hz : p = 0 → t = 0) : (dealtL t p).length = p.toNat := by
  by_cases z : p = 0
  · rw [hz z, z, dealtL_zero]; rfl
  · exact dealtL_len (by omega)
theorem ok_anew {f : Addr} {fd : FuncData} (F : Fun K "dealt_anew" "dealt_anew" sDealtAnew f fd) (ms : mg "sum" = none) {t1 t2 : Tok} (gM : mg "MORE" = some (.str "more" t1)) (gF : mg "FEWER" = some (.str "fewer" t2)) (D1 : Df P w K mg base 1 "dealt" ["total", "pages"] spDealt) : FnOk P w K mg base CX0 2 f fd ["row", "start", "end", "pages"] spAnew := by
  obtain ⟨f1, fd1, G1, g1, k1, b1⟩ := D1.ex
  refine F.ok scDealtAnew (fun vs H Q E h => ?_) (fun cdv A outer s H vs Q E hr h => ?_)
  · obtain ⟨l, xs, e0, e, p, rfl, _⟩ := h
    rfl
  · obtain ⟨l, xs, s0, e, p, rfl, hl, h0, h1, e1, xz, p1, p2, pz, kk⟩ := h
    refine ⟨_, (pss_cons (ps_set (i := 4) scDealtAnew.nd rfl (.inl rfl) (pe_lst (StX.pa_star (pe_slice sl_list (pv 0) po_none (po_some (pv 1))) (StX.pa_star (pe_call G1 hr (by rfl) g1 k1 b1 .nil pass0 (pa_cons (pe_callB (cr_sum rfl) (by rfl) ms (by decide +kernel) (pa_cons (pe_slice sl_list (pv 0) (po_some (pv 1)) (po_some (pv 2))) pa_nil)) (pa_cons (pv 3) pa_nil))) (StX.pa_star (pe_slice sl_list (pv 0) (po_some (pv 2)) po_none) pa_nil)))))
    (pss_cons (ps_if (pt_cmpR op_gt (pv 3) (pe_op op_sub (pv 2) (pv 1)) (nomark _))
      (pss_one (ps_ret (pe_tup (pa_cons (pv 4) (pa_cons (pe_tup (pa_cons (pe_glob (v := .str "more") rfl gM ⟨_, rfl⟩) (pa_cons (pv 2) pa_nil))) pa_nil))))) pss_nil)
    (pss_one (ps_ret (pe_tup (pa_cons (pv 4) (pa_cons (pe_ifExp (pt_cmpR op_lt (pv 3) (pe_op op_sub (pv 2) (pv 1)) (nomark _)) (pe_tup (pa_cons (pe_glob (v := .str "fewer") rfl gF ⟨_, rfl⟩) (pa_cons (pe_op op_sub (pv 2) pe_int) pa_nil))) pe_non) pa_nil))))))), ?_⟩
    refine ⟨_, rfl, _, rfl, _, rfl, l, _, rfl, SqL.of hl, fun a1 n1 => ?_⟩
    rw [cut_upto h0 (by omega)]
    refine ⟨a1, _, rfl, .inr (SqL.of upd_same), ?_⟩
    have s1 : Same H (upd H a1 (.lst ((xs.take s0.toNat).map V.int))) := same_new n1
    have hl1 := s1 _ _ hl
    generalize upd H a1 (.lst ((xs.take s0.toNat).map V.int)) = H1 at s1 hl1 ⊢
    refine ⟨_, rfl, _, rfl, _, rfl, _, rfl, _, rfl, l, _, rfl, SqL.of hl1, fun a2 n2 => ?_⟩
    rw [cut_mid h0 h1 e1]
    refine ⟨a2, _, rfl, SqL.of upd_same, ?_⟩
    have s2 := s1.trans (same_new (o := .lst (((xs.take e.toNat).drop s0.toNat).map V.int)) n2)
    have hl2 := s2 _ _ hl
    generalize upd H1 a2 (.lst (((xs.take e.toNat).drop s0.toNat).map V.int)) = H2 at s2 hl2 ⊢
    refine ⟨_, rfl, _, p, rfl, p1, p2, pz, fun a3 H3 s3 h3 => ?_⟩
    refine ⟨a3, _, rfl, .inr (SqL.of h3), ?_⟩
    have s3 := s2.trans s3
    have hl3 := s3 _ _ hl
    refine ⟨_, rfl, _, rfl, _, rfl, l, _, rfl, SqL.of hl3, fun a4 n4 => ?_⟩
    rw [cut_from (by omega) e1]
    refine ⟨a4, _, rfl, .inr (SqL.of upd_same), ?_⟩
    have s4 := s3.trans (same_new (o := .lst ((xs.drop e.toNat).map V.int)) n4)
    generalize upd H3 a4 (.lst ((xs.drop e.toNat).map V.int)) = H4 at s4 ⊢
    refine ⟨?_, fun q nq => ?_⟩
    · rw [List.append_nil, List.length_append, List.length_append, List.length_map, List.length_map, List.length_map, dealtL_len0 p1 pz, List.length_drop, List.length_take]
      exact Nat.le_trans (show _ ≤ 5000 by omega) (by decide)
    rw [List.append_nil, ← List.map_append, ← List.map_append]
    have ean : xs.take s0.toNat ++ (dealtL ((xs.take e.toNat).drop s0.toNat).sum p ++ xs.drop e.toNat) = anewL xs s0 e p := rfl
    rw [ean]
    have s5 := s4.trans (same_new (o := .lst ((anewL xs s0 e p).map V.int)) nq)
    have h5 : upd H4 q (.lst ((anewL xs s0 e p).map V.int)) q = some (.lst ((anewL xs s0 e p).map V.int)) := upd_same
    generalize upd H4 q (.lst ((anewL xs s0 e p).map V.int)) = H5 at s5 h5 ⊢
    refine ⟨_, rfl, _, rfl, _, rfl, _, _, rfl, rfl, _, _, rfl, rfl, _, rfl, ite2 (fun g => ?_) (fun g => ?_)⟩
    · have g : p > e - s0 := of_decide_eq_true g
      refine ⟨_, rfl, _, rfl, (by show 2 ≤ sizeLine; decide), fun t nt => ⟨(by show 2 ≤ sizeLine; decide), fun t' nt' => ?_⟩⟩
      have s6 := same_new (o := .tup [V.str "more", V.int e]) nt
      refine kk t' q _ _ ((s5.trans s6).trans (same_new nt')) upd_same (same_new nt' _ _ (s6 _ _ h5)) ?_
      rw [anewD, if_pos g]
      exact ⟨t, rfl, same_new nt' _ _ upd_same⟩
    · have g : ¬ p > e - s0 := fun z => g (decide_eq_true z)
      refine ⟨_, rfl, _, rfl, _, rfl, _, rfl, _, _, rfl, rfl, _, _, rfl, rfl, _, rfl, ite2 (fun g2 => ?_) (fun g2 => ?_)⟩
      · have g2 : p < e - s0 := of_decide_eq_true g2
        refine ⟨_, rfl, _, _, rfl, rfl, (by show 2 ≤ sizeLine; decide), fun t nt => ⟨(by show 2 ≤ sizeLine; decide), fun t' nt' => ?_⟩⟩
        have s6 := same_new (o := .tup [V.str "fewer", V.int (e - 1)]) nt
        refine kk t' q _ _ ((s5.trans s6).trans (same_new nt')) upd_same (same_new nt' _ _ (s6 _ _ h5)) ?_
        rw [anewD, if_neg g, if_pos g2]
        exact ⟨t, rfl, same_new nt' _ _ upd_same⟩
      · have g2 : ¬ p < e - s0 := fun z => g2 (decide_eq_true z)
        refine ⟨(by show 2 ≤ sizeLine; decide), fun t nt => kk t q _ _ (s5.trans (same_new nt)) upd_same (same_new nt _ _ h5) ?_⟩
        rw [anewD, if_neg g, if_neg g2]
        rfl
end
end Ev
namespace Ev
open PySem L2 PySem.Spec PyProof.Rows RZ
/-! A put and a take, of any row. -/
theorem same_new2 {H : Hp} {q : Addr} {o o2 : HO} (n : H q = none) : Same H (upd (upd H q o) q o2) := fun b u e => by rw [upd_ne (ne_of_none e n), upd_ne (ne_of_none e n)]; exact e
theorem bump_at {xs : List Int} {k : Nat} {d : Int} (h : k < xs.length) : (bump xs k d).getD k 0 = xs.getD k 0 + d := by
  unfold bump
  simp [List.getD, h]
theorem sum_set : ∀ {xs : List Int} {k : Nat} {v : Int}, k < xs.length → (xs.set k v).sum = xs.sum - xs.getD k 0 + v
  | x :: xs, 0, v, _ => by simp [List.getD]; omega
  | x :: xs, k + 1, v, h => by
    have := sum_set (xs := xs) (k := k) (v := v) (by simpa using h)
    simp only [List.set_cons_succ, List.sum_cons, this, List.getD_cons_succ]
    omega
theorem bump_sum {xs : List Int} {k : Nat} {d : Int} (h : k < xs.length) : (bump xs k d).sum = xs.sum + d := by
  unfold bump
  rw [sum_set h]
  omega
theorem at_D {xs : List Int} {k : Nat} (h : k < xs.length) : atI (xs.map V.int) (k : Int) = some (.int (xs.getD k 0)) := by
  refine atI_nat ?_
  rw [List.getElem?_map, List.getElem?_eq_getElem h]
  simp [List.getD, h]
theorem ixN_k {xs : List Int} {k : Nat} (h : k < xs.length) : ixN (xs.map V.int).length (k : Int) = some k := by
  unfold ixN
  rw [List.length_map, if_pos (by omega), if_pos (by omega)]
  simp
theorem set_bump (xs : List Int) (k : Nat) (d : Int) : (xs.map V.int).set k (.int (xs.getD k 0 + d)) = (bump xs k d).map V.int := by
  unfold bump
  rw [List.map_set]
theorem sum_nn : ∀ {xs : List Int}, (∀ x ∈ xs, 0 ≤ x) → 0 ≤ xs.sum
  | [], _ => by simp
  | x :: xs, h => by
    have := sum_nn (xs := xs) fun y m => h y (List.mem_cons_of_mem _ m)
    have := h x List.mem_cons_self
    rw [List.sum_cons]
    omega
theorem len_le_sum : ∀ {xs : List Int}, (∀ x ∈ xs, 1 ≤ x) → (xs.length : Int) ≤ xs.sum
  | [], _ => by simp
  | x :: xs, h => by
    have := len_le_sum (xs := xs) fun y m => h y (List.mem_cons_of_mem _ m)
    have := h x List.mem_cons_self
    rw [List.sum_cons, List.length_cons]
    omega
theorem groupS_bd {k : Nat} {n : Nat} {c : Int} (h : k < n) (c1 : 1 ≤ c) (cn : c ≤ n) : 0 ≤ groupS k c ∧ groupS k c + c ≤ n ∧ groupS k c ≤ k ∧ (k : Int) < groupS k c + c := by
  unfold groupS
  split <;> omega
def spBPut (C : Addr) : Sp := fun vs H Q _ => ∃ (x l : Addr) (r : Fr) (m a : Int) (xs : List Int), vs = [.ref x, .int m, .ref l, .int a] ∧ FAt C H x r ∧ r.ok ∧ H l = some (.tup (xs.map V.int)) ∧ xs.length ≤ 2000 ∧ (∀ x ∈ xs, 0 ≤ x) ∧ a ≤ xs.sum ∧
  ∀ t q v H', Same H H' → H' t = some (.tup [.ref q, v]) → H' q = some (.lst ((r.putR m xs a).1.map V.int)) → DeedV H' v (r.putR m xs a).2 → Q (.ref t) H'
def spBTake (C : Addr) : Sp := fun vs H Q _ => ∃ (x l : Addr) (r : Fr) (m i : Int) (xs : List Int), vs = [.ref x, .int m, .ref l, .int i] ∧ FAt C H x r ∧ r.ok ∧ H l = some (.tup (xs.map V.int)) ∧ xs.length ≤ 2000 ∧ (∀ x ∈ xs, 1 ≤ x) ∧ xs ≠ [] ∧ i < xs.sum ∧
  ∀ t q v H', Same H H' → H' t = some (.tup [.ref q, v]) → H' q = some (.lst ((r.takeR m xs i).1.map V.int)) → DeedV H' v (r.takeR m xs i).2 → Q (.ref t) H'
section
variable {P : Program} {w : World} {K : PySem.W.Frag} {mg : Str → Option Value} {base : Heap}
abbrev nBp : List Str := ["rule", "most", "fills", "ahead", "at", "row", "start", "end", "pages"]
theorem scBPut : FnScope nBp ["rule", "most", "fills", "ahead"] (defScope sBehindPut) := ⟨rfl, rfl, rfl, by decide +kernel, rfl, by decide +kernel, by decide +kernel⟩
theorem ok_bput {f C : Addr} {fd : FuncData} (F : Fun K "behind_put" "behind_put" sBehindPut f fd) (T : Blt mg) (TC : FCls K C) (ms : mg "sum" = none) {t1 : Tok} (gM : mg "MORE" = some (.str "more" t1)) (D1 : Df P w K mg base 2 "page_for" ["fills", "ahead"] spPageF) (D2 : Df P w K mg base 1 "group_of" ["at", "many"] spGroup) (D3 : Df P w K mg base 2 "dealt_anew" ["row", "start", "end", "pages"] spAnew) : FnOk P w K mg base CX0 3 f fd ["rule", "most", "fills", "ahead"] (spBPut C) := by
  obtain ⟨f1, fd1, G1, g1, k1, b1⟩ := D1.ex
  obtain ⟨f2, fd2, G2, g2, k2, b2⟩ := D2.ex
  obtain ⟨f3, fd3, G3, g3, k3, b3⟩ := D3.ex
  refine F.ok scBPut (fun vs H Q E h => ?_) (fun cdv A outer s H vs Q E hr h => ?_)
  · obtain ⟨x, l, r, m, a, xs, rfl, _⟩ := h
    rfl
  · obtain ⟨x, l, r, m, ah, xs, rfl, fa, o, hl, xl, xp, ha', kk⟩ := h
    have hr1 := hr.mono (show 1 ≤ 2 by decide)
    -- from the pages on
    obtain ⟨tB, hB, qB⟩ : ∃ t : TS, PSs (cxOf CX0 P w K mg base nBp "behind_put" (defScope sBehindPut) f cdv A outer s H E).nox ((defBody sBehindPut).drop 6) t ∧ ∀ (G : Hp) (v0 v2 v3 v4 v8 : Option V) (a : Addr) (s e : Int) (row : List Int), Same H G → G a = some (.lst (row.map V.int)) → 0 ≤ s → s ≤ e → e ≤ row.length → row.length ≤ 2000 → 0 ≤ e - s → e - s ≤ 11 →
        ((let p := if ((row.take e.toNat).drop s.toNat).sum > (e - s) * m then e - s + 1 else e - s; (anewL row s e p, anewD s e p)) = r.putR m xs ah) → (e - s = 0 → ((row.take e.toNat).drop s.toNat).sum ≤ 0 → ((row.take e.toNat).drop s.toNat).sum = 0) →
        t { nx := fun _ H' => Q .non H', rt := Q } [v0, some (.int m), v2, v3, v4, some (.ref a), some (.int s), some (.int e), v8] G := by
      refine ⟨_, (pss_cons (ps_set (i := 8) scBPut.nd rfl (.inl rfl) (pe_op op_sub (pv 7) (pv 6)))
      (pss_cons (ps_if (pt_cmpR op_gt (pe_callB (cr_sum rfl) (by rfl) ms (by decide +kernel) (pa_cons (pe_slice sl_list (pv 5) (po_some (pv 6)) (po_some (pv 7))) pa_nil)) (pe_op op_mul (pv 8) (pv 1)) (nomark _))
        (pss_one (ps_aug (i := 8) scBPut.nd rfl (.inl rfl) pe_int ip_add)) pss_nil)
      (pss_one (ps_ret (pe_call G3 hr (by rfl) g3 k3 b3 .nil pass0 (pa_cons (pv 5) (pa_cons (pv 6) (pa_cons (pv 7) (pa_cons (pv 8) pa_nil))))))))), ?_⟩
      intro G v0 v2 v3 v4 v8 a s e row sG ha s0 se el rl p0 p11 hp hz
      refine ⟨_, rfl, _, rfl, _, _, rfl, rfl, ?_⟩
      refine ⟨_, rfl, _, rfl, _, rfl, _, rfl, _, rfl, a, _, rfl, SqL.of ha, fun q nq => ?_⟩
      rw [cut_mid s0 se el]
      refine ⟨q, _, rfl, SqL.of upd_same, ?_⟩
      have s4 := sG.trans (same_new (o := .lst (((row.take e.toNat).drop s.toNat).map V.int)) nq)
      have h3 := same_new (o := .lst (((row.take e.toNat).drop s.toNat).map V.int)) nq _ _ ha
      generalize upd G q (.lst (((row.take e.toNat).drop s.toNat).map V.int)) = H3 at s4 h3 ⊢
      refine ⟨_, rfl, _, rfl, _, _, rfl, rfl, .inl (mw (b := 12) (by omega) (by omega) (by decide)), _, _, rfl, rfl, _, rfl, ite2 (fun g => ?_) (fun g => ?_)⟩
      · have g : ((row.take e.toNat).drop s.toNat).sum > (e - s) * m := of_decide_eq_true g
        simp only [if_pos g] at hp
        refine ⟨_, rfl, _, _, rfl, rfl, ?_⟩
        refine ⟨_, rfl, _, rfl, _, rfl, _, rfl, a, row, s, e, e - s + 1, rfl, h3, s0, se, el, rl, by omega, by omega, fun z => by omega, fun t' q' v H4 s5 ht' hq' hv => ?_⟩
        refine kk t' q' v H4 (s4.trans s5) ht' ?_ ?_
        · rw [← hp]; exact hq'
        · rw [← hp]; exact hv
      · have g : ¬ ((row.take e.toNat).drop s.toNat).sum > (e - s) * m := fun z => g (decide_eq_true z)
        simp only [if_neg g] at hp
        refine ⟨_, rfl, _, rfl, _, rfl, _, rfl, a, row, s, e, e - s, rfl, h3, s0, se, el, rl, by omega, by omega, fun z => hz z (by rw [z, Int.zero_mul] at g; omega), fun t' q' v H4 s5 ht' hq' hv => ?_⟩
        refine kk t' q' v H4 (s4.trans s5) ht' ?_ ?_
        · rw [← hp]; exact hq'
        · rw [← hp]; exact hv
    refine ⟨_, (pss_cons (ps_if (pt_cmpR op_eq (pe_callB call_len_seq (by rfl) T.len PySem.boot_len (pa_cons (pv 2) pa_nil)) pe_int (nomark _))
        (pss_one (ps_ret (pe_tup (pa_cons (pe_lst (pa_cons pe_int pa_nil)) (pa_cons (pe_tup (pa_cons (pe_glob (v := .str "more") rfl gM ⟨_, rfl⟩) (pa_cons pe_int pa_nil))) pa_nil))))) pss_nil)
      (pss_cons (ps_set (i := 4) scBPut.nd rfl (.inl rfl) (pe_call G1 hr (by rfl) g1 k1 b1 .nil pass0 (pa_cons (pv 2) (pa_cons (pv 3) pa_nil))))
      (pss_cons (ps_set (i := 5) scBPut.nd rfl (.inl rfl) (pe_callTy call_list_of (by rfl) T.list (by decide +kernel) (pa_cons (pv 2) pa_nil)))
      (pss_cons (ps_augS (pv 5) (pv 4) get_list pe_int ip_add set_list)
      (pss_cons (ps_par (i := 6) (j := 7) (by rfl) scBPut.nd rfl rfl (by decide) rfl rfl (pa_cons pe_int (pa_cons (pe_callB call_len_seq (by rfl) T.len PySem.boot_len (pa_cons (pv 5) pa_nil)) pa_nil)) (by rfl))
      (pss_cons (ps_if (pt_cmpR op_gt (pe_callB call_len_seq (by rfl) T.len PySem.boot_len (pa_cons (pv 5) pa_nil)) (pe_fld (pv 0) rfl) (nomark _))
        (pss_cons (ps_if (pt_cmpR op_le (pe_ix ix_list (pv 5) (pv 4) (fun _ _ => rfl)) (pv 1) (nomark _))
          (pss_one (ps_ret (pe_tup (pa_cons (pv 5) (pa_cons pe_non pa_nil))))) pss_nil)
        (pss_one (ps_asg (pe_call G2 hr1 (by rfl) g2 k2 b2 .nil pass0 (pa_cons (pv 4) (pa_cons (pe_fld (pv 0) rfl) pa_nil))) (pg_tup (by rfl) (pgs_cons (pg_name (i := 6) scBPut.nd rfl (.inl rfl)) (pgs_cons (pg_name (i := 7) scBPut.nd rfl (.inl rfl)) pgs_nil)))))) pss_nil)
      hB)))))), ?_⟩
    obtain ⟨dx, ta, hx, ha⟩ := id fa
    obtain ⟨w1, w2, w3, w4⟩ := Fr.wd_bd o
    have c1 := o.c1; have c2 := o.c2
    refine ⟨_, rfl, l, _, rfl, .inr (SqT.of hl), rfl, _, rfl, ite2 (fun e => ?_) (fun e => ?_)⟩
    · have e := V.int.inj (of_decide_eq_true e)
      rw [List.length_map] at e
      have ex : xs = [] := List.eq_nil_of_length_eq_zero (by omega)
      rw [ex] at kk
      refine ⟨(by show 1 ≤ sizeLine; decide), fun q nq => ⟨(by show 2 ≤ sizeLine; decide), fun d nd => ⟨(by show 2 ≤ sizeLine; decide), fun t nt => ?_⟩⟩⟩
      have q1 : upd H q (.lst [.int 1]) q = some (.lst [.int 1]) := upd_same
      exact kk t q _ _ ((same_new nq).trans ((same_new nd).trans (same_new nt))) upd_same (same_new nt _ _ (same_new nd _ _ q1)) ⟨d, rfl, same_new nt _ _ upd_same⟩
    · have e : ¬ xs = [] := fun z => e (decide_eq_true (by rw [z]; rfl))
      have kl : pageFor xs ah < xs.length := by
        have hs := sum_nn xp
        unfold pageFor
        split
        · exact pageAt_lt (by omega) e xp
        · exact List.length_pos_iff.mpr e
      obtain ⟨k, hk⟩ : ∃ k, k = pageFor xs ah := ⟨_, rfl⟩
      have kn : r.putR m xs ah = (if ((bump xs k 1).length : Int) > r.wd then if (bump xs k 1).getD k 0 ≤ m then (bump xs k 1, none) else
          (let s := groupS k r.c; let e := s + r.c; let p := if (((bump xs k 1).take e.toNat).drop s.toNat).sum > r.c * m then r.c + 1 else r.c; (anewL (bump xs k 1) s e p, anewD s e p))
        else (let e := ((bump xs k 1).length : Int); let p := if (bump xs k 1).sum > e * m then e + 1 else e; (anewL (bump xs k 1) 0 e p, anewD 0 e p))) := by
        unfold Fr.putR
        rw [if_neg e, hk]
      rw [← hk] at kl
      have bl := bump_len xs k 1
      refine ⟨_, rfl, _, rfl, l, xs, ah, rfl, hl, ha', xp, e, ?_⟩
      rw [← hk]
      refine ⟨_, rfl, l, _, rfl, .inr (SqT.of hl), fun a na => ?_⟩
      refine ⟨_, rfl, _, rfl, a, _, (k : Int), .int (xs.getD k 0), rfl, rfl, by omega, SqL.of upd_same, at_D kl, _, _, rfl, rfl, a, _, (k : Int), k, rfl, rfl, upd_same, ixN_k kl, ?_⟩
      rw [set_bump]
      have s1 : Same H (upd (upd H a (.lst (xs.map V.int))) a (.lst ((bump xs k 1).map V.int))) := same_new2 na
      have h1 : upd (upd H a (.lst (xs.map V.int))) a (.lst ((bump xs k 1).map V.int)) a = some (.lst ((bump xs k 1).map V.int)) := upd_same
      generalize upd (upd H a (.lst (xs.map V.int))) a (.lst ((bump xs k 1).map V.int)) = H1 at s1 h1 ⊢
      refine ⟨_, rfl, a, _, rfl, .inl (SqL.of h1), ?_⟩
      rw [List.length_map]
      refine ⟨_, _, rfl, _, rfl, a, _, rfl, .inl (SqL.of h1), _, rfl, x, C, dx, _, _, rfl, s1 _ _ hx, TC.cl, TC.n5, fill_width _ _, _, _, rfl, rfl, _, rfl, ?_⟩
      rw [List.length_map]
      refine ite2 (fun g => ?_) (fun g => ?_)
      · have g : ((bump xs k 1).length : Int) > r.wd := of_decide_eq_true g
        rw [if_pos g] at kn
        refine ⟨_, rfl, _, rfl, a, _, (k : Int), _, rfl, rfl, SqL.of h1, at_D (by rw [bl]; exact kl), _, rfl, _, _, rfl, rfl, _, rfl, ite2 (fun g2 => ?_) (fun g2 => ?_)⟩
        · have g2 : (bump xs k 1).getD k 0 ≤ m := of_decide_eq_true g2
          rw [if_pos g2] at kn
          refine ⟨_, rfl, (by show 2 ≤ sizeLine; decide), fun t nt => kk t a _ _ (s1.trans (same_new nt)) upd_same ?_ ?_⟩
          · rw [kn]; exact same_new nt _ _ h1
          · rw [kn]; rfl
        · have g2 : ¬ (bump xs k 1).getD k 0 ≤ m := fun z => g2 (decide_eq_true z)
          rw [if_neg g2] at kn
          obtain ⟨b1', b2', b3', b4'⟩ := groupS_bd (k := k) (n := xs.length) (c := r.c) kl c1 (by omega)
          refine ⟨_, rfl, _, rfl, x, C, dx, _, _, rfl, s1 _ _ hx, TC.cl, TC.n3, fill_cut _ _, (k : Int), r.c, rfl, fun t H2 s2 ht => ?_⟩
          refine ⟨t, _, rfl, SqT.of ht, rfl, _, _, rfl, _, _, rfl, rfl, ?_⟩
          have ec : groupS (k : Int) r.c + r.c - groupS (k : Int) r.c = r.c := by omega
          refine qB H2 _ _ _ _ _ a _ _ (bump xs k 1) (s1.trans s2) (s2 _ _ h1) b1' (by omega) (by omega) (by omega) (by omega) (by omega) ?_ (fun z => by omega)
          rw [ec]
          exact kn.symm
      · have g : ¬ ((bump xs k 1).length : Int) > r.wd := fun z => g (decide_eq_true z)
        rw [if_neg g] at kn
        have tk : (((bump xs k 1).take ((bump xs k 1).length : Int).toNat).drop (0 : Int).toNat) = bump xs k 1 := by
          rw [Int.toNat_natCast, List.take_length]; rfl
        refine qB H1 _ _ _ _ _ a 0 _ (bump xs k 1) s1 h1 (by omega) (by omega) (by omega) (by omega) (by omega) (by omega) ?_ (fun z => by omega)
        rw [tk, Int.sub_zero]
        exact kn.symm
abbrev nBt : List Str := ["rule", "most", "fills", "index", "at", "row", "start", "end", "is_fewer", "least"]
theorem scBTake : FnScope nBt ["rule", "most", "fills", "index"] (defScope sBehindTake) := ⟨rfl, rfl, rfl, by decide +kernel, rfl, by decide +kernel, by decide +kernel⟩
theorem ok_btake {f C : Addr} {fd : FuncData} (F : Fun K "behind_take" "behind_take" sBehindTake f fd) (T : Blt mg) (TC : FCls K C) (ms : mg "sum" = none) (D0 : Df P w K mg base 1 "least_of" ["rule", "most"] (spLeastOf C)) (D1 : Df P w K mg base 1 "page_at" ["fills", "index"] spPageA) (D2 : Df P w K mg base 1 "group_of" ["at", "many"] spGroup) (D3 : Df P w K mg base 2 "dealt_anew" ["row", "start", "end", "pages"] spAnew) : FnOk P w K mg base CX0 3 f fd ["rule", "most", "fills", "index"] (spBTake C) := by
  obtain ⟨f0, fd0, G0, g0, k0, b0⟩ := D0.ex
  obtain ⟨f1, fd1, G1, g1, k1, b1⟩ := D1.ex
  obtain ⟨f2, fd2, G2, g2, k2, b2⟩ := D2.ex
  obtain ⟨f3, fd3, G3, g3, k3, b3⟩ := D3.ex
  refine F.ok scBTake (fun vs H Q E h => ?_) (fun cdv A outer s H vs Q E hr h => ?_)
  · obtain ⟨x, l, r, m, i, xs, rfl, _⟩ := h
    rfl
  · obtain ⟨x, l, r, m, i, xs, rfl, fa, o, hl, xl, xp, xne, hi, kk⟩ := h
    have hr1 := hr.mono (show 1 ≤ 2 by decide)
    have xp0 : ∀ x ∈ xs, 0 ≤ x := fun x m => by have := xp x m; omega
    -- the return
    obtain ⟨tB, hB, qB⟩ : ∃ t : TS, PSs (cxOf CX0 P w K mg base nBt "behind_take" (defScope sBehindTake) f cdv A outer s H E).nox ((defBody sBehindTake).drop 5) t ∧ ∀ (G : Hp) (v0 v1 v2 v3 v4 v9 : Option V) (a : Addr) (s e : Int) (b : Bool) (row : List Int), Same H G → G a = some (.lst (row.map V.int)) → 0 ≤ s → s ≤ e → e ≤ row.length → row.length ≤ 2000 → 1 ≤ e - s → e - s ≤ 11 →
        (anewL row s e (e - s - (if b = true then 1 else 0)), anewD s e (e - s - (if b = true then 1 else 0))) = r.takeR m xs i → (e - s - (if b = true then 1 else 0) = 0 → ((row.take e.toNat).drop s.toNat).sum = 0) →
        t { nx := fun _ H' => Q .non H', rt := Q } [v0, v1, v2, v3, v4, some (.ref a), some (.int s), some (.int e), some (.bl b), v9] G := by
      refine ⟨_, (pss_one (ps_ret (pe_call G3 hr (by rfl) g3 k3 b3 .nil pass0 (pa_cons (pv 5) (pa_cons (pv 6) (pa_cons (pv 7) (pa_cons (pe_op op_sub (pe_op op_sub (pv 7) (pv 6)) (pe_ifExp (pt_val (pv 8)) pe_int pe_int)) pa_nil))))))), ?_⟩
      intro G v0 v1 v2 v3 v4 v9 a s e b row sG ha s0 se el rl p0 p11 hp hz
      refine ⟨_, rfl, _, rfl, _, rfl, _, rfl, _, rfl, _, _, rfl, rfl, _, rfl, _, rfl, ?_⟩
      have fin : ∀ c : Int, c = (if b = true then 1 else 0) → ∀ z, (∃ i j, V.int (e - s) = .int i ∧ V.int c = .int j ∧ z = V.int (i - j)) → True := fun _ _ _ _ => trivial
      cases b with
      | true =>
        refine iteT ⟨_, _, rfl, rfl, a, row, s, e, e - s - 1, rfl, ha, s0, se, el, rl, by omega, by omega, hz, fun t' q' v H4 s5 ht' hq' hv => ?_⟩
        refine kk t' q' v H4 (sG.trans s5) ht' ?_ ?_
        · rw [← hp]; exact hq'
        · rw [← hp]; exact hv
      | false =>
        refine iteF ⟨_, _, rfl, rfl, a, row, s, e, e - s - 0, rfl, ha, s0, se, el, rl, by omega, by omega, hz, fun t' q' v H4 s5 ht' hq' hv => ?_⟩
        refine kk t' q' v H4 (sG.trans s5) ht' ?_ ?_
        · rw [← hp]; exact hq'
        · rw [← hp]; exact hv
    refine ⟨_, (pss_cons (ps_set (i := 4) scBTake.nd rfl (.inl rfl) (pe_call G1 hr1 (by rfl) g1 k1 b1 .nil pass0 (pa_cons (pv 2) (pa_cons (pv 3) pa_nil))))
      (pss_cons (ps_set (i := 5) scBTake.nd rfl (.inl rfl) (pe_callTy call_list_of (by rfl) T.list (by decide +kernel) (pa_cons (pv 2) pa_nil)))
      (pss_cons (ps_augS (pv 5) (pv 4) get_list pe_int ip_sub set_list)
      (pss_cons (ps_par (i := 6) (j := 7) (by rfl) scBTake.nd rfl rfl (by decide) rfl rfl (pa_cons pe_int (pa_cons (pe_callB call_len_seq (by rfl) T.len PySem.boot_len (pa_cons (pv 5) pa_nil)) pa_nil)) (by rfl))
      (pss_cons (ps_if (pt_cmpR op_le (pe_callB call_len_seq (by rfl) T.len PySem.boot_len (pa_cons (pv 5) pa_nil)) (pe_fld (pv 0) rfl) (nomark _))
        (pss_one (ps_set (i := 8) scBTake.nd rfl (.inl rfl) (pe_cmpR op_le (pe_callB (cr_sum rfl) (by rfl) ms (by decide +kernel) (pa_cons (pv 5) pa_nil)) (pe_op op_mul (pe_op op_sub (pv 7) pe_int) (pv 1)) (nomark _))))
        (pss_cons (ps_set (i := 9) scBTake.nd rfl (.inl rfl) (pe_call G0 hr1 (by rfl) g0 k0 b0 .nil pass0 (pa_cons (pv 0) (pa_cons (pv 1) pa_nil))))
        (pss_cons (ps_if (pt_cmpR op_ge (pe_ix ix_list (pv 5) (pv 4) (fun _ _ => rfl)) (pv 9) (nomark _))
          (pss_one (ps_ret (pe_tup (pa_cons (pv 5) (pa_cons pe_non pa_nil))))) pss_nil)
        (pss_cons (ps_asg (pe_call G2 hr1 (by rfl) g2 k2 b2 .nil pass0 (pa_cons (pv 4) (pa_cons (pe_fld (pv 0) rfl) pa_nil))) (pg_tup (by rfl) (pgs_cons (pg_name (i := 6) scBTake.nd rfl (.inl rfl)) (pgs_cons (pg_name (i := 7) scBTake.nd rfl (.inl rfl)) pgs_nil))))
        (pss_one (ps_set (i := 8) scBTake.nd rfl (.inl rfl) (pe_cmpR op_lt (pe_callB (cr_sum rfl) (by rfl) ms (by decide +kernel) (pa_cons (pe_slice sl_list (pv 5) (po_some (pv 6)) (po_some (pv 7))) pa_nil)) (pe_op op_mul (pe_fld (pv 0) rfl) (pv 9)) (nomark _))))))))
      hB))))), ?_⟩
    obtain ⟨dx, ta, hx, ha⟩ := id fa
    obtain ⟨w1, w2, w3, w4⟩ := Fr.wd_bd o
    have c1 := o.j1; have c2 := o.j2
    have kl := pageAt_lt hi xne xp0
    obtain ⟨k, hk⟩ : ∃ k, k = pageAt xs i := ⟨_, rfl⟩
    have kn : r.takeR m xs i = (if ((bump xs k (-1)).length : Int) ≤ r.wd then
        (let e := ((bump xs k (-1)).length : Int); let p := e - (if (bump xs k (-1)).sum ≤ (e - 1) * m then 1 else 0); (anewL (bump xs k (-1)) 0 e p, anewD 0 e p))
      else if (bump xs k (-1)).getD k 0 ≥ r.least m then (bump xs k (-1), none) else
        (let s := groupS k r.j; let e := s + r.j; let p := r.j - (if (((bump xs k (-1)).take e.toNat).drop s.toNat).sum < r.j * r.least m then 1 else 0); (anewL (bump xs k (-1)) s e p, anewD s e p))) := by
      unfold Fr.takeR
      rw [hk]
    rw [← hk] at kl
    have bl := bump_len xs k (-1)
    have bs := bump_sum (d := -1) kl
    refine ⟨_, rfl, _, rfl, l, xs, i, rfl, hl, hi, xp0, xne, ?_⟩
    rw [← hk]
    refine ⟨_, rfl, l, _, rfl, .inr (SqT.of hl), fun a na => ?_⟩
    refine ⟨_, rfl, _, rfl, a, _, (k : Int), .int (xs.getD k 0), rfl, rfl, by omega, SqL.of upd_same, at_D kl, _, _, rfl, rfl, a, _, (k : Int), k, rfl, rfl, upd_same, ixN_k kl, ?_⟩
    have er : (xs.map V.int).set k (V.int (xs.getD k 0 - 1)) = (bump xs k (-1)).map V.int := set_bump xs k (-1)
    rw [er]
    have s1 : Same H (upd (upd H a (.lst (xs.map V.int))) a (.lst ((bump xs k (-1)).map V.int))) := same_new2 na
    have h1 : upd (upd H a (.lst (xs.map V.int))) a (.lst ((bump xs k (-1)).map V.int)) a = some (.lst ((bump xs k (-1)).map V.int)) := upd_same
    generalize upd (upd H a (.lst (xs.map V.int))) a (.lst ((bump xs k (-1)).map V.int)) = H1 at s1 h1 ⊢
    have tk : (((bump xs k (-1)).take ((bump xs k (-1)).length : Int).toNat).drop (0 : Int).toNat) = bump xs k (-1) := by
      rw [Int.toNat_natCast, List.take_length]; rfl
    refine ⟨_, rfl, a, _, rfl, .inl (SqL.of h1), ?_⟩
    rw [List.length_map]
    refine ⟨_, _, rfl, _, rfl, a, _, rfl, .inl (SqL.of h1), _, rfl, x, C, dx, _, _, rfl, s1 _ _ hx, TC.cl, TC.n5, fill_width _ _, _, _, rfl, rfl, _, rfl, ?_⟩
    rw [List.length_map]
    refine ite2 (fun g => ?_) (fun g => ?_)
    · have g : ((bump xs k (-1)).length : Int) ≤ r.wd := of_decide_eq_true g
      rw [if_pos g] at kn
      refine ⟨_, rfl, a, _, rfl, SqL.of h1, _, rfl, _, _, rfl, rfl, _, rfl, _, _, rfl, rfl, .inl (mw (b := 12) (by omega) (by omega) (by decide)), _, _, rfl, rfl, ?_⟩
      refine qB H1 _ _ _ _ _ _ a 0 _ _ (bump xs k (-1)) s1 h1 (by omega) (by omega) (by omega) (by omega) (by omega) (by omega) ?_ (fun z => ?_)
      · rw [kn, Int.sub_zero]
        simp only [decide_eq_true_iff]
      · rw [tk]
        have sx := len_le_sum xp
        by_cases q : (bump xs k (-1)).sum ≤ (((bump xs k (-1)).length : Int) - 1) * m
        · rw [decide_eq_true q, if_pos rfl] at z
          rw [show ((bump xs k (-1)).length : Int) - 1 = 0 by omega, Int.zero_mul] at q
          omega
        · rw [decide_eq_false q, if_neg (by decide)] at z
          omega
    · have g : ¬ ((bump xs k (-1)).length : Int) ≤ r.wd := fun z => g (decide_eq_true z)
      rw [if_neg g] at kn
      refine ⟨_, rfl, _, rfl, x, r, m, rfl, fa.keep s1, o, ?_⟩
      refine ⟨_, rfl, _, rfl, a, _, (k : Int), _, rfl, rfl, SqL.of h1, at_D (by rw [bl]; exact kl), _, rfl, _, _, rfl, rfl, _, rfl, ite2 (fun g2 => ?_) (fun g2 => ?_)⟩
      · have g2 : (bump xs k (-1)).getD k 0 ≥ r.least m := of_decide_eq_true g2
        rw [if_pos g2] at kn
        refine ⟨_, rfl, (by show 2 ≤ sizeLine; decide), fun t nt => kk t a _ _ (s1.trans (same_new nt)) upd_same ?_ ?_⟩
        · rw [kn]; exact same_new nt _ _ h1
        · rw [kn]; rfl
      · have g2 : ¬ (bump xs k (-1)).getD k 0 ≥ r.least m := fun z => g2 (decide_eq_true z)
        rw [if_neg g2] at kn
        obtain ⟨b1', b2', b3', b4'⟩ := groupS_bd (k := k) (n := xs.length) (c := r.j) kl (by omega) (by omega)
        refine ⟨_, rfl, _, rfl, x, C, dx, _, _, rfl, s1 _ _ hx, TC.cl, TC.n4, fill_join _ _, (k : Int), r.j, rfl, fun t H2 s2 ht => ?_⟩
        refine ⟨t, _, rfl, SqT.of ht, rfl, _, _, rfl, _, _, rfl, rfl, ?_⟩
        have h2 := s2 _ _ h1
        have s3 := s1.trans s2
        have ec : groupS (k : Int) r.j + r.j - groupS (k : Int) r.j = r.j := by omega
        refine ⟨_, rfl, _, rfl, _, rfl, _, rfl, _, rfl, a, _, rfl, SqL.of h2, fun q nq => ?_⟩
        rw [cut_mid b1' (by omega) (by omega)]
        refine ⟨q, _, rfl, SqL.of upd_same, ?_⟩
        have s4 := s3.trans (same_new (o := .lst ((((bump xs k (-1)).take (groupS (k : Int) r.j + r.j).toNat).drop (groupS (k : Int) r.j).toNat).map V.int)) nq)
        have h3 := same_new (o := .lst ((((bump xs k (-1)).take (groupS (k : Int) r.j + r.j).toNat).drop (groupS (k : Int) r.j).toNat).map V.int)) nq _ _ h2
        generalize upd H2 q (.lst ((((bump xs k (-1)).take (groupS (k : Int) r.j + r.j).toNat).drop (groupS (k : Int) r.j).toNat).map V.int)) = H3 at s4 h3 ⊢
        refine ⟨_, rfl, x, C, dx, _, _, rfl, s4 _ _ hx, TC.cl, TC.n4, fill_join _ _, _, rfl, _, _, rfl, rfl, .inl (mw (b := 12) (by omega) (by omega) (by decide)), _, _, rfl, rfl, ?_⟩
        refine qB H3 _ _ _ _ _ _ a _ _ _ (bump xs k (-1)) s4 h3 b1' (by omega) (by omega) (by omega) (by omega) (by omega) ?_ (fun z => ?_)
        · rw [kn, ec]
          simp only [decide_eq_true_iff]
        · exfalso
          rw [ec] at z
          split at z <;> omega
end
end Ev
namespace Ev
open PySem L2 PySem.Spec PyProof.Rows
section
variable {prog : Program} {w : World} {A : Around} {E : Value → Shared → Prop} {s : Shared} {K : PySem.W.Frag} {x C f : Addr} {ox : Obj} {od : Option Obj}
theorem lenRun {Q : Value → Shared → Prop} (X : K.In s.heap) (I : PySem.W.InstAt s.heap x ox C od) (hs : PySem.W.findIn K (.ref C) "__len__" = some (some (.ref f))) (hf : PySem.W.isFn K (.ref f) = true)
    (h : wpAny (model prog w) A.in1 (call (.ref f) [.ref x]) (fun r s' => ∃ (n : Int) (u : Tok), r = .int n u ∧ (0 ≤ n ∧ n < 2 ^ 63) ∧ Q (.int n s'.toks) { s' with toks := s'.toks + 1 }) E s) : wpAny (model prog w) A (call (.builtin "len") [.ref x]) Q E s := by
  refine Calls.call_function_entry kind_len plain_len entry_len (args_len1 (.ref x)) ?_
  unfold Builtin.«len»
  refine wpAny_bind (m := oneArg "len" ⟨[.ref x], []⟩) (wpAny_pure ?_)
  refine wpAny_bind (m := callSpecial? (.ref x) (Str.ofString "__len__")) (PySem.W.special_fn X I hs (beq_iff_eq.mp hf) (wpAny_mono h (fun r s' z => ?_) fun _ _ z => z))
  obtain ⟨n, u, rfl, ⟨n0, n1⟩, q⟩ := z
  refine wpAny_bind (wpAny_holding (wpAny_pure (wpAny_bind (wpAny_letGo ?_))))
  show wpAny _ _ (if n < 0 then _ else _) _ _ s'
  rw [if_neg (show ¬ n < 0 by omega)]
  show wpAny _ _ (if n ≥ 2 ^ 63 then _ else _) _ _ s'
  rw [if_neg (show ¬ n ≥ 2 ^ 63 by omega)]
  exact wpAny_bind (wpAny_mkInt (wpAny_pure ⟨_, rfl, q⟩))
end
section
variable {X : Cx} {CX : CXT} {C g : Addr} {n : Nat} {sp : Sp} {E : XK}
def rLenO (C : Addr) (sp : Sp) (E : XK) : List V → Hp → VK → Prop := fun xs H Q => ∃ (a dx : Addr) (fs : List (Str × V)), xs = [V.ref a] ∧ H a = some (.ins C dx fs) ∧ sp [.ref a] H (fun z H' => ∃ i : Int, z = .int i ∧ (0 ≤ i ∧ i < 2 ^ 63) ∧ Q (.int i) H') E
theorem call_lenO (hs : PySem.W.findIn X.K (.ref C) "__len__" = some (some (.ref g))) (hf : PySem.W.isFn X.K (.ref g) = true) (F : FnR X.prog X.w X.K X.mg X.base CX n g sp) (hr : Room (n + 1) X.A) (hx : Passes CX X E) : CallR X (.builtin "len") (rLenO C sp E) := by
  intro pins s σ H xs us Q I r h
  obtain ⟨a, dx, fs, rfl, ha, q⟩ := h
  obtain ⟨u, rfl, ru⟩ := vals1 r
  cases (show u = Value.ref a from ru)
  obtain ⟨mA, J, _⟩ := ins_get I.hok ha
  obtain ⟨od, J, _⟩ := J.look
  have hr1 : Room n X.A.in1 := hr.in1
  refine lenRun I.kIn J hs hf (wpAny_mono (wpAny_call (SlX.run_at (us := [.ref a]) (ws := [.ref a]) F hr1 I.env0.in1 hx I (.cons rfl .nil) q)) (fun w' s' z => ?_) fun _ _ z => z)
  obtain ⟨z', H', I', rz, i, rfl, b, q'⟩ := z
  obtain ⟨t, e⟩ := (show ∃ t, w' = Value.int i t from rz)
  exact ⟨i, t, e, b, .int i, H', I'.tok _, ⟨_, rfl⟩, q'⟩
end
/-- a tuple's iterator -/
def TtO (l it : Addr) (i : Nat) : HO := .ext fun h => h.IsTupleIter it l i
theorem ttO_ok {P : Program} {w : World} {H : Hp} {h : Heap} {l it : Addr} {i : Nat} (e : h.IsTupleIter it l i) : ObjOk P w H h it (TtO l it i) :=
  ⟨e, (let ⟨o, q, _⟩ := e; ⟨o, q⟩), fun _ _ q k => Heap.IsTupleIter.at q k⟩
theorem ttO_get {X : Cx} {pins : List (Addr × Obj)} {σ : L2.St} {H : Hp} {s : Shared} {l it : Addr} {i : Nat} (I : Inv X pins σ H s) (e : H it = some (TtO l it i)) : s.heap.IsTupleIter it l i := (I.hok it _ e).1
def rIterT : List V → Hp → VK → Prop := fun xs H Q => ∃ (l : Addr) (zs : List V), xs = [.ref l] ∧ H l = some (.tup zs) ∧ ∀ it, H it = none → (∀ b u, H b = some u → b < it) → Q (.ref it) (upd H it (TtO l it 0))
theorem call_iterT {X : Cx} : CallR X (.builtin "iter") rIterT := by
  intro pins s σ H xs us Q I r h
  obtain ⟨l, zs, rfl, hq, q⟩ := h
  obtain ⟨u, rfl, ru⟩ := vals1 r
  cases ru
  obtain ⟨its, rv, pl, hz⟩ := I.tuple (.inl (Rd.of hq))
  refine Calls.call_function_entry (by decide +kernel) (by decide +kernel) PySem.W.kdk_entry_iter (PySem.W.kdk_args_iter _) ?_
  unfold Builtin.«iter»
  refine wpAny_bind (m := someArgs "iter" 1 2 _) (wpAny_of_eq (a := [Value.ref l]) (by first | rfl | kernel_rfl!) ?_)
  show wpAny _ _ (pyIter (.ref l) >>= _) _ _ _
  refine wpAny_bind (wpAny_pyIter_tuple (show s.heap.IsTuple l its.toArray from pl) ?_)
  refine wpAny_pure ⟨_, rfl, ?_⟩
  exact ⟨.ref s.heap.objs.size, _, I.laid (t' := s.toks) (fun b u e => Heap.get?_push_of_some _ e) (Nat.le_refl _) (ttO_ok ⟨_, Heap.get?_push_size _ rfl, rfl, rfl⟩), rfl, q _ (I.hok.fresh (Nat.le_refl _)) fun b u e => I.hok.lt e⟩
theorem upd_comm {H : Hp} {a b : Addr} {o u : HO} (n : a ≠ b) : upd (upd H a o) b u = upd (upd H b u) a o := by
  funext c
  by_cases ha : c = a
  · subst ha
    rw [upd_ne n, upd_same, upd_same]
  · by_cases hb : c = b
    · subst hb
      rw [upd_same, upd_ne ha, upd_same]
    · rw [upd_ne hb, upd_ne ha, upd_ne ha, upd_ne hb]
section
variable {X : Cx} {pins : List (Addr × Obj)} {σ : L2.St} {H : Hp} {l q it : Addr} {zs : List V} {A1 : Around} {Rs : Result → Shared → Prop}
theorem row_loop (hA : A1.in1.handled = none) (hl : H l = some (.tup zs)) (hn : zs.length < sizeLine) (hq : H q = none) (hi : H it = none) (hqi : q ≠ it) (hy : X.s_0.heap.objs.size ≤ it)
    (hdone : ∀ s, Inv X pins σ (upd H q (.lst zs)) s → Rs (.ok (.ret .none)) s) :
    ∀ (k i : Nat) (s : Shared), k + i = zs.length → Inv X pins σ (upd (upd H q (.lst (zs.take i))) it (TtO l it i)) s → codeAny (model X.prog X.w) A1 (.builtin "list.extend.loop" ⟨[.ref q, .ref it, .none], []⟩) Rs s := by
  have hlq : l ≠ q := ne_of_none hl hq
  have hli : l ≠ it := ne_of_none hl hi
  intro k
  induction k with
  | zero =>
    intro i s e I
    refine codeAny_builtin PySem.F.entry_extend_loop ?_
    rw [Around.under_plainId PySem.F.plain_extend_loop _]
    show wpAny _ A1.in1 (pyNext (.ref it) >>= _) _ _ s
    have el : upd (upd H q (.lst (zs.take i))) it (TtO l it i) l = some (.tup zs) := by rw [upd_ne hli, upd_ne hlq]; exact hl
    obtain ⟨its, rv, p, hz⟩ := I.tuple (.inl (Rd.of el))
    have st := ttO_get I upd_same
    have J := ItX.inv_drop I (show _ = some (HO.ext _) from upd_same)
    have hf := ItX.inv_fp I upd_same hy
    obtain ⟨f0, f1, f2, f3, f4, f5⟩ := hf
    have hlen := rv.length
    refine wpAny_bind (wpAny_pyNext_tuple_end hA st (show s.heap.IsTuple l its.toArray from p) (by simp; omega) fun h' eb => ?_)
    have J1 : Inv X pins σ _ { s with heap := h' } := J.turned (t' := s.toks) (fun b o hb e => eb b o hb e) f0 f1 f3 f4 f5
    rw [ItX.dropH_upd (by rw [upd_ne hqi.symm]; exact hi), List.take_of_length_le (by omega)] at J1
    exact wpAny_pure (hdone _ J1)
  | succ k ih =>
    intro i s e I
    refine codeAny_builtin PySem.F.entry_extend_loop ?_
    rw [Around.under_plainId PySem.F.plain_extend_loop _]
    show wpAny _ A1.in1 (pyNext (.ref it) >>= _) _ _ s
    have el : upd (upd H q (.lst (zs.take i))) it (TtO l it i) l = some (.tup zs) := by rw [upd_ne hli, upd_ne hlq]; exact hl
    obtain ⟨its, rv, p, hz⟩ := I.tuple (.inl (Rd.of el))
    have st := ttO_get I upd_same
    have hx : zs[i]? = some (zs[i]'(by omega)) := List.getElem?_eq_getElem _
    obtain ⟨u, hu, ru⟩ := rv.get hx
    refine wpAny_bind (wpAny_pyNext_tuple_item st (show s.heap.IsTuple l its.toArray from p) (x := u) (by simpa using hu) fun h' st' sb => ?_)
    have mu : Mut (upd (upd H q (.lst (zs.take i))) it (TtO l it i) it) := by rw [upd_same]; exact True.intro
    have I1 : Inv X pins σ _ { s with heap := h' } := I.write (x := it) (e := it) (t' := s.toks) mu (.inl rfl) (fun b o nb z => (sb.2 b nb).trans z) (let ⟨o, z, _⟩ := st'; ⟨o, z⟩) (ttO_ok st')
    rw [upd_upd] at I1
    have hq' : upd (upd H q (.lst (zs.take i))) it (TtO l it (i + 1)) q = some (.lst (zs.take i)) := by rw [upd_ne hqi, upd_same]
    show wpAny _ A1.in1 (updateSeq q (·.push u) >>= _) _ _ _
    obtain ⟨z, its', k', r2, hl2, e2⟩ := I1.lstM hq'
    have tl : (zs.take i).length = i := by rw [List.length_take]; omega
    refine wpAny_bind (wpAny_updateSeq e2 rfl (wpAny_pure ⟨plainId_quiet PySem.F.plain_extend_loop _, ?_⟩) (by rw [List.size_toArray]; omega) (by show (its'.toArray.push u).size ≤ sizeLine + 1; rw [Array.size_push, List.size_toArray]; omega))
    refine ih (i + 1) _ (by omega) ?_
    have I2 := I1.lset (its' := its' ++ [u]) (f := (·.push u)) (ys := zs.take i ++ [zs[i]'(by omega)]) (t' := s.toks) hq' e2 (by simp) (r2.append (.cons ru .nil)) (by rw [List.length_append, List.length_singleton]; omega)
    rw [upd_comm hqi.symm, upd_upd] at I2
    rw [List.take_succ, hx]
    exact I2
end
/-- what the row's own __iter__ and __len__ promise -/
def spRIter (C : Addr) : Sp := fun vs H Q _ => ∃ (x dx l : Addr) (fs : List (Str × V)) (zs : List V), vs = [.ref x] ∧ H x = some (.ins C dx fs) ∧ fs.lookup ("fills" : Str) = some (.ref l) ∧ H l = some (.tup zs) ∧ ∀ it, H it = none → (∀ b u, H b = some u → b < it) → Q (.ref it) (upd H it (TtO l it 0))
def spRLen (C : Addr) : Sp := fun vs H Q _ => ∃ (x dx l : Addr) (fs : List (Str × V)) (zs : List V), vs = [.ref x] ∧ H x = some (.ins C dx fs) ∧ fs.lookup ("fills" : Str) = some (.ref l) ∧ H l = some (.tup zs) ∧ Q (.int zs.length) H
/-- a class whose instances have their own __iter__ and __len__ -/
structure RwC (K : PySem.W.Frag) (C fi fl : Addr) : Prop where
  it : PySem.W.findIn K (.ref C) "__iter__" = some (some (.ref fi))
  itF : PySem.W.isFn K (.ref fi) = true
  ln : PySem.W.findIn K (.ref C) "__len__" = some (some (.ref fl))
  lnF : PySem.W.isFn K (.ref fl) = true
def rListRow (C : Addr) : List V → Hp → VK → Prop := fun xs H Q => ∃ (x dx l : Addr) (fs : List (Str × V)) (zs : List V), xs = [.ref x] ∧ H x = some (.ins C dx fs) ∧ fs.lookup ("fills" : Str) = some (.ref l) ∧ H l = some (.tup zs) ∧ zs.length ≤ 2100 ∧ ∀ q, H q = none → Q (.ref q) (upd H q (.lst zs))
section
variable {X : Cx} {pins : List (Addr × Obj)} {σ : L2.St} {H : Hp} {C fi fl q x dx l : Addr} {fs : List (Str × V)} {zs : List V} {n : Nat} {A1 : Around} {Rs : Result → Shared → Prop} {s : Shared}
/-- a call that never raises -/
theorem run_0 {A : Around} {g : Addr} {sp : Sp} {Q : VK} {us : List Value} {ws : List V} {P : Value → Shared → Prop} {E : Value → Shared → Prop} (F : FnR X.prog X.w X.K X.mg X.base CX0 n g sp) (hr : Room n A) (e0 : Env0 X.prog X.w X.K X.mg X.base A X.stack s H) (I : Inv X pins σ H s) (r : Vals ws us) (h : sp ws H Q E0)
    (k : ∀ u s' v H', Inv X pins σ H' s' → RelV v u → Q v H' → P u s') : wpAny (model X.prog X.w) A (call (.ref g) us) P E s := by
  refine wpAny_call (codeAny_mono (F A X.stack s H us ws Q E0 hr e0 r h) fun r s' hq => ?_)
  cases r with
  | error e => exact False.elim hq
  | ok fl =>
    cases fl with
    | ret u => obtain ⟨v, H', I', rv, q⟩ := I.after hq; exact k _ _ _ _ I' rv q
    | next => exact False.elim hq
    | brk => exact False.elim hq
    | cont => exact False.elim hq
/-- the hint: the length -/
theorem row_hint {A : Around} {E : Value → Shared → Prop} {R : Bool → Shared → Prop} (c : RwC X.K C fi fl) (FL : FnR X.prog X.w X.K X.mg X.base CX0 n fl (spRLen C)) (hr : Room n A.in1) (e0 : Env0 X.prog X.w X.K X.mg X.base A.in1 X.stack s H) (I : Inv X pins σ H s)
    (hx : H x = some (.ins C dx fs)) (hf : fs.lookup ("fills" : Str) = some (.ref l)) (hl : H l = some (.tup zs)) (hn : zs.length ≤ 2100) (h : ∀ b s', Inv X pins σ H s' → R b s') : wpAny (model X.prog X.w) A (Builtin.List.listLengthHint (.ref x)) R E s := by
  obtain ⟨mA, J, _⟩ := ins_get I.hok hx
  obtain ⟨od, J, _⟩ := J.look
  unfold Builtin.List.listLengthHint
  refine wpAny_bind (wpAny_bind (J.type.here ((PySem.W.looks_findIn I.kIn c.ln).here ?_)))
  refine PySem.W.KFB.if_not rfl ?_
  show wpAny _ _ (rule "list.length-hint.len" >>= _) _ _ _
  refine wpAny_bind (wpAny_rule ?_)
  show wpAny _ _ ((call (.builtin "len") [.ref x]).attempt >>= _) _ _ _
  refine wpAny_bind (wpAny_attempt (lenRun I.kIn J c.ln c.lnF (run_0 (Q := fun v H' => v = .int zs.length ∧ H' = H) (ws := [.ref x]) FL hr e0 I (.cons rfl .nil) ⟨x, dx, l, fs, zs, rfl, hx, hf, hl, rfl, rfl⟩ fun w' s' v H' I' rz e => ?_)))
  obtain ⟨rfl, rfl⟩ := e
  obtain ⟨t, e⟩ := (show ∃ t, w' = Value.int zs.length t from rz)
  refine ⟨_, t, e, ⟨by omega, by omega⟩, ?_⟩
  refine wpAny_bind (m := asInt? _) (wpAny_pure ?_)
  show wpAny _ _ (if Builtin.List.listTooLong (zs.length : Int).toNat = true then _ else _) _ _ _
  rw [notLongL (by have := sizeLine_eq; omega)]
  exact wpAny_pure (h _ _ (I'.tok _))
theorem row_extend (hA : X.A.handled = none) (c : RwC X.K C fi fl) (FI : FnR X.prog X.w X.K X.mg X.base CX0 n fi (spRIter C)) (FL : FnR X.prog X.w X.K X.mg X.base CX0 n fl (spRLen C)) (hr : Room (n + 3) X.A)
    (I : Inv X pins σ (upd H q (.lst [])) s) (hq : H q = none) (hy : X.s_0.heap.objs.size ≤ q)
    (hx : H x = some (.ins C dx fs)) (hf : fs.lookup ("fills" : Str) = some (.ref l)) (hl : H l = some (.tup zs)) (hn : zs.length ≤ 2100) (hdone : ∀ s, Inv X pins σ (upd H q (.lst zs)) s → Rs (.ok (.ret .none)) s) :
    wpAny (model X.prog X.w) X.A.in1.in1 (Builtin.List.listExtendWith (.ref q) (.ref x) .none)
      (fun fin s' => match fin with | .done f => Rs (.ok f) s' | .again c' => c'.quiet = true ∧ codeAny (model X.prog X.w) X.A.in1 c' Rs s') (fun e s' => Rs (.error e) s') s := by
  have hxq : x ≠ q := ne_of_none hx hq
  have hlq : l ≠ q := ne_of_none hl hq
  have hx' : upd H q (.lst []) x = some (.ins C dx fs) := by rw [upd_ne hxq]; exact hx
  have hl' : upd H q (.lst []) l = some (.tup zs) := by rw [upd_ne hlq]; exact hl
  have hS := sizeLine_eq
  obtain ⟨mA, J, _⟩ := ins_get I.hok hx'
  obtain ⟨od, J, _⟩ := J.look
  obtain ⟨m0, hF⟩ := I.fr
  have hr1 : Room n X.A.in1.in1 := (hr.mono (by omega) : Room (n + 2) X.A).in1.in1
  have hr2 : Room n X.A.in1.in1.in1 := hr.in1.in1.in1
  unfold Builtin.List.listExtendWith
  refine wpAny_bind (J.type.here ?_)
  have h1 : Builtin.List.listSameRef (.ref q) (.ref x) = false := by simp [Builtin.List.listSameRef, hxq.symm]
  have h2 : (Value.ref C == Value.type "list") = false := rfl
  have h3 : (Value.ref C == Value.type "tuple") = false := rfl
  simp only [h1, h2, h3, Bool.or_false, Bool.false_eq_true, if_false]
  refine wpAny_bind (PySem.W.owit_iter hF I.ok.mod.kin J c.it c.itF ?_)
  refine run_0 (ws := [.ref x]) (Q := fun v H' => ∃ it, v = .ref it ∧ q < it ∧ upd H q (.lst []) it = none ∧ H' = upd (upd H q (.lst [])) it (TtO l it 0)) FI hr1 I.env0.in1.in1 I (.cons rfl .nil) ⟨x, dx, l, fs, zs, rfl, hx', hf, hl', fun it ni young => ⟨it, rfl, young _ _ upd_same, ni, rfl⟩⟩ fun u s' v H' I' rv e => ?_
  obtain ⟨it, rfl, lt, ni, rfl⟩ := e
  cases rv
  have hqi : q ≠ it := Nat.ne_of_lt lt
  have hi : H it = none := by rw [← ni, upd_ne hqi.symm]
  have st := ttO_get I' upd_same
  unfold PySem.W.OwitIt
  refine wpAny_specialOf (name := Str.ofString "__next__") st.typeIs F.slot_tuple_iterator_next.lookup ?_
  have hxi : x ≠ it := ne_of_none hx hi
  have hli : l ≠ it := ne_of_none hl hi
  refine wpAny_bind (wpAny_holding (row_hint c FL hr2 I'.env0.in1.in1.in1 I' (by rw [upd_ne hxi]; exact hx') hf (by rw [upd_ne hli]; exact hl') hn fun b s2 I2 => ?_))
  have hq2 : upd (upd H q (.lst [])) it (TtO l it 0) q = some (.lst []) := by rw [upd_ne hqi, upd_same]
  have go : ∀ s3, Inv X pins σ (upd (upd H q (.lst [])) it (TtO l it 0)) s3 → codeAny (model X.prog X.w) X.A.in1 (.builtin "list.extend.loop" ⟨[.ref q, .ref it, .none], []⟩) Rs s3 := fun s3 I3 =>
    row_loop (A1 := X.A.in1) hA hl (by omega) hq hi hqi (Nat.le_trans hy (Nat.le_of_lt lt)) hdone zs.length 0 s3 (by omega) I3
  obtain ⟨z, its, k, r3, hl3, e3⟩ := I2.lstM hq2
  cases r3
  refine wpAny_ite_split (fun _ => ?_) (fun _ => wpAny_pure ⟨plainId_quiet PySem.F.plain_extend_loop _, go _ I2⟩)
  refine wpAny_bind (wpAny_rule ?_)
  refine wpAny_bind ?_
  show wpAny _ _ (updateSeq q (·.push .none) >>= fun _ => updateSeq q (·.pop)) _ _ _
  refine wpAny_bind (wpAny_updateSeq e3 rfl ?_)
  have I4 := I2.lset (f := (·.push Value.none)) (its' := [Value.none]) (ys := [.non]) (t' := s2.toks) hq2 e3 (by simp) (.cons rfl .nil) (by rw [List.length_singleton, sizeLine_eq]; decide)
  obtain ⟨z4, its4, k4, r4, hl4, e4⟩ := I4.lstM upd_same
  obtain ⟨u4, rfl, ru4⟩ := r4.one
  refine wpAny_updateSeq e4 rfl ?_ (by show 1 ≤ sizeLine; rw [sizeLine_eq]; decide) (by show 0 ≤ sizeLine + 1; exact Nat.zero_le _)
  refine wpAny_pure ⟨plainId_quiet PySem.F.plain_extend_loop _, go _ ?_⟩
  have I5 := I4.lset (f := (·.pop)) (its := [u4]) (its' := []) (ys := []) (t' := s2.toks) upd_same e4 (by rfl) .nil (Nat.zero_le _)
  rw [upd_upd] at I5
  have hH : upd (upd (upd H q (.lst [])) it (TtO l it 0)) q (.lst []) = upd (upd H q (.lst [])) it (TtO l it 0) := by
    funext b
    by_cases hb : b = q
    · rw [hb, upd_same, hq2]
    · rw [upd_ne hb]
  rw [hH] at I5
  exact I5
theorem call_listRow (hc : X.calm = true) (c : RwC X.K C fi fl) (FI : FnR X.prog X.w X.K X.mg X.base CX0 n fi (spRIter C)) (FL : FnR X.prog X.w X.K X.mg X.base CX0 n fl (spRLen C)) (hr : Room (n + 3) X.A) : CallR X (.type "list") (rListRow C) := by
  intro pins s σ H xs us Q I rv h
  obtain ⟨x, dx, l, fs, zs, rfl, hx, hf, hl, hn, q⟩ := h
  obtain ⟨u, rfl, ru⟩ := rv.one
  cases ru
  refine callType_codes (Q₁ := fun obj s₁ => obj = .ref s.heap.objs.size ∧ s₁ = { s with heap := s.heap.push { cls := .type "list", data := .seq #[] } }) PySem.F.called_list (PySem.F.typeCall_list_1 _) PySem.F.entry_list_init
    (code_list_new _ ⟨rfl, rfl⟩) fun obj s₁ h₁ => ?_
  obtain ⟨rfl, rfl⟩ := h₁
  have hS : (s.heap.push { cls := .type "list", data := .seq #[] }).get? s.heap.objs.size = some { cls := .type "list", data := .seq #[] } := Heap.get?_push_size _ rfl
  refine ⟨⟨_, hS, rfl⟩, PySem.F.args_list_init_2 _ _, ?_⟩
  have fr : H s.heap.objs.size = none := I.hok.fresh (Nat.le_refl _)
  have I1 : Inv X pins σ (upd H s.heap.objs.size (.lst [])) { s with heap := s.heap.push { cls := .type "list", data := .seq #[] } } := I.lnew (its := []) (t' := s.toks) .nil (Nat.zero_le _)
  show wpAny _ _ (do let old ← Builtin.List.listItems (.ref s.heap.objs.size); Builtin.List.listUpdate (.ref s.heap.objs.size) (fun _ => #[]); letGo old.toList.reverse; Builtin.List.listExtendWith (.ref s.heap.objs.size) (.ref x) .none) _ _ _
  refine wpAny_bind ?_
  unfold Builtin.List.listItems
  refine wpAny_bind (wpAny_seqItems hS rfl (wpAny_pure ?_))
  show wpAny _ _ (updateSeq s.heap.objs.size (fun _ => #[]) >>= fun _ => letGo (#[] : Array Value).toList.reverse >>= fun _ => Builtin.List.listExtendWith (.ref s.heap.objs.size) (.ref x) .none) _ _ _
  refine wpAny_bind (wpAny_updateSeq hS rfl ?_)
  have I2 := I1.lset (f := fun _ => #[]) (its := []) (its' := []) (ys := []) (t' := s.toks) upd_same hS rfl .nil (Nat.zero_le _)
  rw [upd_upd] at I2
  refine wpAny_bind (wpAny_letGo ?_)
  exact row_extend (Rs := wants (fun r s₂ => r = .none ∧ EP X pins σ Q (.ref s.heap.objs.size) s₂) X.xe) (I.ok.hd hc) c FI FL hr I2 fr I.sz hx hf hl hn
    (fun s' I' => ⟨rfl, .ref s.heap.objs.size, _, I', rfl, q _ fr⟩)
end
end Ev
namespace Ev
open PySem L2 PySem.Spec PyProof.Rows RZ
/-! The row class. -/
def rSumT (K : PySem.W.Frag) : List V → Hp → VK → Prop := fun vs H Q => ∃ (a : Addr) (ns : List Int), vs = [V.ref a] ∧ SqT K H a (ns.map V.int) ∧ Q (.int ns.sum) H
theorem cr_sumT {X : Cx} (hc : X.calm = true) : CallR X (.builtin "sum") (rSumT X.K) := by
  intro pins s σ H vs us Q I r h
  obtain ⟨a, ns, rfl, hs, q⟩ := h
  obtain ⟨its, rv, hl, _⟩ := I.tuple hs
  rw [Vals.ref1 r]
  have hi := rv.ints
  have hl : s.heap.IsTuple a its.toArray := hl
  obtain ⟨xs, hx⟩ := hi.allInts.items
  have hn : numsOf its.toArray.toList = ns := by rw [show its.toArray.toList = its from rfl, hi.numsOf]
  rw [hx] at hl hn
  rw [nums_intItems] at hn
  refine PySem.W.ktm_sumG (I.ok.hd hc) hl fun h' tk t' hk => ?_
  rw [preSum_eq, List.take_of_length_le (by simp), hn]
  exact ⟨.int _, H, I.kept hk, ⟨_, rfl⟩, q⟩
/-- an instance's kind -/
structure InsT (K : PySem.W.Frag) (C : Addr) : Prop where
  ha : PySem.W.findIn K (.ref C) "__class__" = some (some (.builtin "object.__class__"))
  hn : PySem.W.specialIn K (.builtin "object.__class__") "__get__" = some (some (.builtin "getset_descriptor.__get__"))
  htk : PySem.W.takesIn K (.builtin "object.__class__") = some true
  hm : PySem.W.mroIn K C (.type "object") = some true
  ic : PySem.W.isClsIn K C = true
  tt : PySem.W.typeIn K (.ref C) = some (.type "type")
theorem kit_self {K : PySem.W.Frag} {C : Addr} : PySem.W.kitOne K (.ref C) (.ref C) = some true := by
  unfold PySem.W.kitOne
  rw [if_pos (by simp)]
structure FTwo (K : PySem.W.Frag) (C : Addr) : Prop where
  cl : FCls K C
  it : InsT K C
theorem tyF {K : PySem.W.Frag} {C : Addr} {H : Hp} {x dx : Addr} {fs : List (Str × V)} (R : FTwo K C) (h : H x = some (.ins C dx fs)) : TyX K H (.ref x) (.ref C) := .base (.ins h R.cl.cl R.it.ha R.it.hn R.it.htk R.it.hm)
def spNeedFO (C : Addr) : Sp := fun vs H Q _ => ∃ (x : Addr) (r : Fr), vs = [.ref x] ∧ FAt C H x r ∧ Q .non H
def spNeedSO : Sp := fun vs H Q _ => ∃ m : Int, vs = [.int m] ∧ 2 ≤ m ∧ m ≤ 10 ^ 12 ∧ Q .non H
def spNeedPO (C : Addr) : Sp := fun vs H Q _ => ∃ (x : Addr) (r : Fr) (m : Int), vs = [.ref x, .int m] ∧ FAt C H x r ∧ r.ok ∧ 2 ≤ m ∧ m ≤ 10 ^ 12 ∧ 1 ≤ r.least m ∧ r.least m ≤ m ∧ Q .non H
def spNeedU : Sp := fun vs H Q _ => ∃ a m : Int, vs = [.int a, .int m] ∧ 0 ≤ a ∧ a ≤ m ∧ Q .non H
/-- the least fill that a row keeps -/
def Fr.lowK (r : Fr) (m : Int) (xs : List Int) : Int := if (xs.length : Int) = 1 then 1 else if (xs.length : Int) ≤ r.wd ∧ r.least m > (m + 1).fdiv 2 then (m + 1).fdiv 2 else r.least m
def Fr.inK (r : Fr) (m : Int) (xs : List Int) (x : Int) : Bool := decide (r.lowK m xs ≤ x) && decide (x ≤ m)
def Fr.keepR (r : Fr) (m : Int) (xs : List Int) : Bool := xs.all (r.inK m xs)
def spIsKept (C : Addr) : Sp := fun vs H Q _ => ∃ (x l : Addr) (r : Fr) (m : Int) (xs : List Int), vs = [.ref x, .int m, .ref l] ∧ FAt C H x r ∧ r.ok ∧ H l = some (.tup (xs.map V.int)) ∧ Q (.bl (r.keepR m xs)) H
section
variable {P : Program} {w : World} {K : PySem.W.Frag} {mg : Str → Option Value} {base : Heap}
theorem scNeedF : FnScope ["value"] ["value"] (defScope sNeedFillRule) := ⟨rfl, rfl, rfl, by decide +kernel, rfl, by decide +kernel, by decide +kernel⟩
theorem ok_needFO {f C : Addr} {fd : FuncData} (F : Fun K "need_fill_rule" "need_fill_rule" sNeedFillRule f fd) (T : Blt mg) (R : FTwo K C) (gC : mg "FillRule" = some (.ref C)) : FnOk P w K mg base CX0 1 f fd ["value"] (spNeedFO C) := by
  refine F.ok scNeedF (fun vs H Q E h => ?_) (fun cdv A outer s H vs Q E hr h => ?_)
  · obtain ⟨x, r, rfl, _⟩ := h
    rfl
  · obtain ⟨x, r, rfl, ⟨dx, a, hx, ha⟩, k⟩ := h
    refine ⟨_, (pss_one (ps_if (pt_not (pt_val (pe_callB call_isi (by rfl) T.isi (by decide +kernel) (pa_cons (pv 0) (pa_cons (pe_glob (v := .ref C) rfl gC rfl) pa_nil)))))
      (pss_one ps_never) pss_nil)), ?_⟩
    exact ⟨_, rfl, _, _, _, _, true, rfl, .own C, tyF R hx, kit_self, _, rfl, iteF k⟩
theorem scNeedSO : FnScope ["value"] ["value"] (defScope sNeedSize) := ⟨rfl, rfl, rfl, by decide +kernel, rfl, by decide +kernel, by decide +kernel⟩
theorem ok_needSO {f : Addr} {fd : FuncData} (F : Fun K "need_size" "need_size" sNeedSize f fd) (D : Df P w K mg base 2 "is_within" ["value", "least", "most"] spWithinA) {t1 t2 : Tok} (gL : mg "LEAST_SIZE" = some (.int 2 t1)) (gM : mg "MOST_SIZE" = some (.int (10 ^ 12) t2)) : FnOk P w K mg base CX0 3 f fd ["value"] spNeedSO := by
  obtain ⟨fW, fdW, GW, gW, kW, bW⟩ := D.ex
  refine F.ok scNeedSO (fun vs H Q E h => ?_) (fun cdv A outer s H vs Q E hr h => ?_)
  · obtain ⟨m, rfl, _⟩ := h
    rfl
  · obtain ⟨m, rfl, m1, m2, k⟩ := h
    refine ⟨_, pss_one (ps_if (pt_not (pt_val (pe_call GW hr (by rfl) gW kW bW .nil pass0 (pa_cons (pv 0) (pa_cons (pe_glob (v := .int 2) rfl gL ⟨_, rfl⟩) (pa_cons (pe_glob (v := .int (10 ^ 12)) rfl gM ⟨_, rfl⟩) pa_nil))))))
      (pss_one ps_never) pss_nil), ?_⟩
    refine ⟨_, rfl, _, _, _, rfl, .inl ⟨_, rfl⟩, _, rfl, ?_⟩
    rw [inB_in m1 m2]
    exact iteF k
theorem scNeedPO : FnScope ["rule", "most"] ["rule", "most"] (defScope sNeedPageSize) := ⟨rfl, rfl, rfl, by decide +kernel, rfl, by decide +kernel, by decide +kernel⟩
theorem ok_needPO {f C : Addr} {fd : FuncData} (F : Fun K "need_page_size" "need_page_size" sNeedPageSize f fd) (D1 : Df P w K mg base 3 "need_size" ["value"] spNeedSO) (D2 : Df P w K mg base 1 "least_of" ["rule", "most"] (spLeastOf C)) : FnOk P w K mg base CX0 4 f fd ["rule", "most"] (spNeedPO C) := by
  obtain ⟨f1, fd1, G1, g1, k1, b1⟩ := D1.ex
  obtain ⟨f2, fd2, G2, g2, k2, b2⟩ := D2.ex
  refine F.ok scNeedPO (fun vs H Q E h => ?_) (fun cdv A outer s H vs Q E hr h => ?_)
  · obtain ⟨x, r, m, rfl, _⟩ := h
    rfl
  · obtain ⟨x, r, m, rfl, fa, o, m1, m2, q1, q2, k⟩ := h
    refine ⟨_, (pss_cons (ps_expr (pe_call G1 hr (by rfl) g1 k1 b1 .nil pass0 (pa_cons (pv 1) pa_nil)))
      (pss_one (ps_if (pt_not (pt_chain op_le op_le pe_int (pe_call G2 (hr.mono (by decide)) (by rfl) g2 k2 b2 .nil pass0 (pa_cons (pv 0) (pa_cons (pv 1) pa_nil))) (pv 1)))
        (pss_one ps_never) pss_nil))), ?_⟩
    refine ⟨_, rfl, m, rfl, m1, m2, _, rfl, _, rfl, x, r, m, rfl, fa, o, _, _, rfl, rfl, _, rfl, ?_⟩
    rw [decide_eq_true q1]
    refine iteT ⟨_, rfl, _, _, rfl, rfl, _, rfl, ?_⟩
    rw [decide_eq_true q2]
    exact iteF k
theorem scNeedU : FnScope ["value", "most"] ["value", "most"] (defScope sNeedUpTo) := ⟨rfl, rfl, rfl, by decide +kernel, rfl, by decide +kernel, by decide +kernel⟩
theorem ok_needU {f : Addr} {fd : FuncData} (F : Fun K "need_up_to" "need_up_to" sNeedUpTo f fd) (D : Df P w K mg base 2 "is_within" ["value", "least", "most"] spWithinA) : FnOk P w K mg base CX0 3 f fd ["value", "most"] spNeedU := by
  obtain ⟨fW, fdW, GW, gW, kW, bW⟩ := D.ex
  refine F.ok scNeedU (fun vs H Q E h => ?_) (fun cdv A outer s H vs Q E hr h => ?_)
  · obtain ⟨a, m, rfl, _⟩ := h
    rfl
  · obtain ⟨a, m, rfl, m1, m2, k⟩ := h
    refine ⟨_, pss_one (ps_if (pt_not (pt_val (pe_call GW hr (by rfl) gW kW bW .nil pass0 (pa_cons (pv 0) (pa_cons pe_int (pa_cons (pv 1) pa_nil))))))
      (pss_one ps_never) pss_nil), ?_⟩
    refine ⟨_, rfl, _, rfl, _, _, _, rfl, .inl ⟨_, rfl⟩, _, rfl, ?_⟩
    rw [inB_in m1 m2]
    exact iteF k
abbrev nIk : List Str := ["rule", "most", "fills", "least", "fill"]
theorem scIsKept : FnScope nIk ["rule", "most", "fills"] (defScope sIsKept) := ⟨rfl, rfl, rfl, by decide +kernel, rfl, by decide +kernel, by decide +kernel⟩
theorem ok_isKept {f C : Addr} {fd : FuncData} (F : Fun K "is_kept" "is_kept" sIsKept f fd) (T : Blt mg) (TC : FCls K C) (D : Df P w K mg base 1 "least_of" ["rule", "most"] (spLeastOf C)) : FnOk P w K mg base CX0 2 f fd ["rule", "most", "fills"] (spIsKept C) := by
  obtain ⟨f1, fd1, G1, g1, k1, b1⟩ := D.ex
  refine F.ok scIsKept (fun vs H Q E h => ?_) (fun cdv A outer s H vs Q E hr h => ?_)
  · obtain ⟨x, l, r, m, xs, rfl, _⟩ := h
    rfl
  · obtain ⟨x, l, r, m, xs, rfl, fa, o, hl, kk⟩ := h
    obtain ⟨tE, hE, qE⟩ : ∃ t : TS, PSs (cxOf CX0 P w K mg base nIk "is_kept" (defScope sIsKept) f cdv A outer s H E).nox ((defBody sIsKept).drop 2) t ∧
        t { nx := fun _ H' => Q .non H', rt := Q } [some (.ref x), some (.int m), some (.ref l), some (.int (r.lowK m xs)), none] H := by
      refine ⟨_, (pss_cons (ps_for PassesOwn.never rfl (pi_tup (pv 2)) (pg_name (i := 4) scIsKept.nd rfl (.inl rfl))
        (pss_one (ps_if (pt_not (pt_chain op_le op_le (pv 3) (pv 4) (pv 1)))
          (pss_one (ps_ret pe_bl)) pss_nil)))
        (pss_one (ps_ret pe_bl))), ?_⟩
      refine ⟨_, rfl, l, rfl, ⟨_, SqT.of hl⟩, ?_⟩
      refine for_it (walk_tup (K := K) (a := l) (xs := xs.map V.int)) (fun i σ G => G = H ∧ (xs.take i).all (r.inK m xs) = true ∧ ∃ z, σ = [some (.ref x), some (.int m), some (.ref l), some (.int (r.lowK m xs)), z]) ⟨rfl, by simp, _, rfl⟩ (fun i σ G _ h => by rw [h.1]; exact SqT.of hl) (fun i v σ G2 G3 hi h y => ?_) (fun σ G h => ?_)
      · obtain ⟨rfl, hall, z, rfl⟩ := h
        obtain ⟨rfl, hx⟩ := y
        obtain ⟨n, hn, rfl⟩ := int_at hx
        have bad : r.inK m xs n = false → r.keepR m xs = false := fun q => by
          unfold Fr.keepR
          rw [List.all_eq_false]
          exact ⟨n, List.mem_of_getElem? hn, by rw [q]; decide⟩
        have good : r.inK m xs n = true → (xs.take (i + 1)).all (r.inK m xs) = true := fun q => by
          rw [List.take_succ, hn, List.all_append, hall]
          simp [q]
        refine ⟨_, rfl, _, rfl, _, _, rfl, rfl, _, rfl, ?_⟩
        by_cases q1 : r.lowK m xs ≤ n
        · rw [decide_eq_true q1]
          refine iteT ⟨_, rfl, _, _, rfl, rfl, _, rfl, ?_⟩
          by_cases q2 : n ≤ m
          · rw [decide_eq_true q2]
            exact iteF ⟨rfl, good (by unfold Fr.inK; rw [decide_eq_true q1, decide_eq_true q2]; rfl), _, rfl⟩
          · rw [decide_eq_false q2]
            have e := bad (by unfold Fr.inK; rw [decide_eq_false q2, Bool.and_false])
            rw [e] at kk
            exact iteT kk
        · rw [decide_eq_false q1]
          have e := bad (by unfold Fr.inK; rw [decide_eq_false q1]; rfl)
          rw [e] at kk
          exact iteF ⟨_, rfl, iteT kk⟩
      · obtain ⟨rfl, hall, z, rfl⟩ := h
        rw [List.length_map, List.take_length] at hall
        have e : r.keepR m xs = true := hall
        rw [e] at kk
        exact kk
    refine ⟨_, (pss_cons (ps_set (i := 3) scIsKept.nd rfl (.inl rfl) (pe_call G1 hr (by rfl) g1 k1 b1 .nil pass0 (pa_cons (pv 0) (pa_cons (pv 1) pa_nil))))
    (pss_cons (ps_if (pt_cmpR op_eq (pe_callB call_len_seq (by rfl) T.len PySem.boot_len (pa_cons (pv 2) pa_nil)) pe_int (nomark _))
      (pss_one (ps_set (i := 3) scIsKept.nd rfl (.inl rfl) pe_int)) (pss_one (ps_if (PW.pt (pw_and (pt_cmpR op_le (pe_callB call_len_seq (by rfl) T.len PySem.boot_len (pa_cons (pv 2) pa_nil)) (pe_fld (pv 0) rfl) (nomark _)) (pw_and1 (pt_cmpR op_gt (pv 3) (pe_op op_fdivN (pe_op op_add (pv 1) pe_int) pe_int) (nomark _)))))
        (pss_one (ps_set (i := 3) scIsKept.nd rfl (.inl rfl) (pe_op op_fdivN (pe_op op_add (pv 1) pe_int) pe_int))) pss_nil)))
    hE)), ?_⟩
    obtain ⟨dx, a, hx, ha⟩ := id fa
    refine ⟨_, rfl, _, rfl, x, r, m, rfl, fa, o, ?_⟩
    refine ⟨_, rfl, l, _, rfl, .inr (SqT.of hl), rfl, _, rfl, ?_⟩
    rw [List.length_map]
    unfold Fr.lowK at qE
    by_cases z : (xs.length : Int) = 1
    · rw [show decide (V.int (xs.length : Int) = V.int 1) = true from decide_eq_true (by rw [z])]
      rw [if_pos z] at qE
      exact iteT qE
    · rw [show decide (V.int (xs.length : Int) = V.int 1) = false from decide_eq_false fun q => z (V.int.inj q)]
      rw [if_neg z] at qE
      refine iteF ⟨_, rfl, l, _, rfl, .inr (SqT.of hl), _, rfl, x, C, dx, _, _, rfl, hx, TC.cl, TC.n5, fill_width _ _, _, _, rfl, rfl, _, rfl, ?_⟩
      rw [List.length_map]
      by_cases z1 : (xs.length : Int) ≤ r.wd
      · rw [decide_eq_true z1]
        refine iteT ⟨_, rfl, _, rfl, _, _, rfl, rfl, _, _, rfl, rfl, ⟨by omega, by omega⟩, _, _, rfl, rfl, _, rfl, ?_⟩
        by_cases z2 : r.least m > (m + 1).fdiv 2
        · rw [decide_eq_true z2]
          rw [if_pos ⟨z1, z2⟩] at qE
          exact iteT ⟨_, rfl, _, _, rfl, rfl, _, _, rfl, rfl, ⟨by omega, by omega⟩, qE⟩
        · rw [decide_eq_false z2]
          rw [if_neg fun q => z2 q.2] at qE
          exact iteF qE
      · rw [decide_eq_false z1]
        rw [if_neg fun q => z1 q.1] at qE
        exact iteF (iteF qE)
end
end Ev
namespace Ev
open PySem L2 PySem.Spec PyProof.Rows RZ
structure RowC (K : PySem.W.Frag) (R : Addr) : Prop where
  cl : Cls K R
  n1 : NoAttr K R "fill_rule"
  n2 : NoAttr K R "most"
  n3 : NoAttr K R "fills"
def rowF (x l : Addr) (m : Int) : List (Str × V) := [("fill_rule", .ref x), ("most", .int m), ("fills", .ref l)]
def RAt (R C : Addr) (H : Hp) (y : Addr) (r : Fr) (m : Int) (xs : List Int) : Prop := ∃ dx x l, H y = some (.ins R dx (rowF x l m)) ∧ FAt C H x r ∧ H l = some (.tup (xs.map V.int))
theorem RAt.keep {R C y : Addr} {H H' : Hp} {r : Fr} {m : Int} {xs : List Int} (h : RAt R C H y r m xs) (k : Same H H') : RAt R C H' y r m xs := by
  obtain ⟨dx, x, l, h1, h2, h3⟩ := h
  exact ⟨dx, x, l, k _ _ h1, h2.keep k, k _ _ h3⟩
theorem row_rule (x l : Addr) (m : Int) : (rowF x l m).lookup ("fill_rule" : Str) = some (.ref x) := lk_hit
theorem row_most (x l : Addr) (m : Int) : (rowF x l m).lookup ("most" : Str) = some (.int m) := (lk_miss (by decide +kernel)).trans lk_hit
theorem row_fills (x l : Addr) (m : Int) : (rowF x l m).lookup ("fills" : Str) = some (.ref l) := (lk_miss (by decide +kernel)).trans ((lk_miss (by decide +kernel)).trans lk_hit)
theorem row_no (x l : Addr) (m : Int) {f : Str} (h1 : ¬ f = "fill_rule") (h2 : ¬ f = "most") (h3 : ¬ f = "fills") : (rowF x l m).lookup f = none := (lk_miss h1).trans ((lk_miss h2).trans ((lk_miss h3).trans rfl))
theorem rp1 {a : V} : putF "fill_rule" a [] = ([("fill_rule", a)] : List (Str × V)) := rfl
theorem rp2 {a b : V} : putF "most" b [("fill_rule", a)] = ([("fill_rule", a), ("most", b)] : List (Str × V)) := put_new (by intro e0 he; simp only [List.mem_cons, List.not_mem_nil, or_false] at he; subst he; dsimp only; decide +kernel)
theorem rp3 {a b c : V} : putF "fills" c [("fill_rule", a), ("most", b)] = ([("fill_rule", a), ("most", b), ("fills", c)] : List (Str × V)) := put_new (by intro e0 he; simp only [List.mem_cons, List.not_mem_nil, or_false] at he; rcases he with he | he <;> subst he <;> dsimp only <;> decide +kernel)
def spRowI (R C : Addr) : Sp := fun vs H Q _ => ∃ (y dx x l : Addr) (r : Fr) (m : Int) (xs : List Int), vs = [.ref y, .ref x, .int m, .ref l] ∧ H y = some (.ins R dx []) ∧ FAt C H x r ∧ r.ok ∧ 2 ≤ m ∧ m ≤ 10 ^ 12 ∧ 1 ≤ r.least m ∧ r.least m ≤ m ∧
  H l = some (.lst (xs.map V.int)) ∧ xs.length ≤ 2000 ∧ (∀ z ∈ xs, 1 ≤ z ∧ z ≤ 10 ^ 15) ∧ ∀ H', But y H H' → RAt R C H' y r m xs → Q .non H'
def spTotal (R C : Addr) : Sp := fun vs H Q _ => ∃ (y : Addr) (r : Fr) (m : Int) (xs : List Int), vs = [.ref y] ∧ RAt R C H y r m xs ∧ Q (.int xs.sum) H
def spYoung (R C : Addr) : Sp := fun vs H Q _ => ∃ (y : Addr) (r : Fr) (m : Int) (xs : List Int), vs = [.ref y] ∧ RAt R C H y r m xs ∧ Q (.bl (decide ((xs.length : Int) ≤ r.wd))) H
def spKeepsP (R C : Addr) : Sp := fun vs H Q _ => ∃ (y : Addr) (r : Fr) (m : Int) (xs : List Int), vs = [.ref y] ∧ RAt R C H y r m xs ∧ r.ok ∧ Q (.bl (r.keepR m xs)) H
def okFills (xs : List Int) : Prop := xs.length ≤ 2000 ∧ ∀ z ∈ xs, 1 ≤ z ∧ z ≤ 10 ^ 15
def spPut (R C : Addr) : Sp := fun vs H Q _ => ∃ (y : Addr) (r : Fr) (m a : Int) (xs : List Int), vs = [.ref y, .int a] ∧ RAt R C H y r m xs ∧ r.ok ∧ 2 ≤ m ∧ m ≤ 10 ^ 12 ∧ 1 ≤ r.least m ∧ r.least m ≤ m ∧ okFills xs ∧ 0 ≤ a ∧ a ≤ xs.sum ∧ okFills (r.putR m xs a).1 ∧
  ∀ t y' v H', Same H H' → H' t = some (.tup [.ref y', v]) → RAt R C H' y' r m (r.putR m xs a).1 → DeedV H' v (r.putR m xs a).2 → Q (.ref t) H'
def spTake (R C : Addr) : Sp := fun vs H Q _ => ∃ (y : Addr) (r : Fr) (m a : Int) (xs : List Int), vs = [.ref y, .int a] ∧ RAt R C H y r m xs ∧ r.ok ∧ 2 ≤ m ∧ m ≤ 10 ^ 12 ∧ 1 ≤ r.least m ∧ r.least m ≤ m ∧ okFills xs ∧ 0 ≤ a ∧ a < xs.sum ∧ okFills (r.takeR m xs a).1 ∧
  ∀ t y' v H', Same H H' → H' t = some (.tup [.ref y', v]) → RAt R C H' y' r m (r.takeR m xs a).1 → DeedV H' v (r.takeR m xs a).2 → Q (.ref t) H'
/-- a row may be made -/
structure RowM (P : Program) (w : World) (K : PySem.W.Frag) (mg : Str → Option Value) (base : Heap) (R C : Addr) : Prop where
  g : mg "Row" = some (.ref R)
  ex : ∃ (f : Addr) (fd : FuncData), Mk K R f ∧ FnOk P w K mg base CX0 5 f fd ["self", "rule", "most", "fills"] (spRowI R C) ∧ Binds K fd ["self", "rule", "most", "fills"] []
/-- a property -/
def RowP (P : Program) (w : World) (K : PySem.W.Frag) (mg : Str → Option Value) (base : Heap) (R : Addr) (n : Str) (k : Nat) (sp : Sp) : Prop :=
  ∃ (p g : Addr) (fd : FuncData), PropOf K R n p g ∧ FnOk P w K mg base CX0 k g fd ["self"] sp ∧ Binds K fd ["self"] []
/-- the reading of a new row -/
theorem mk_row {R C : Addr} {x l : Addr} {r : Fr} {m : Int} {xs : List Int} {H : Hp} {Q : Addr → Hp → Prop} (fa : FAt C H x r) (o : r.ok) (m1 : 2 ≤ m) (m2 : m ≤ 10 ^ 12) (q1 : 1 ≤ r.least m) (q2 : r.least m ≤ m) (hl : H l = some (.lst (xs.map V.int))) (ok : okFills xs)
    (k : ∀ y H', Same H H' → RAt R C H' y r m xs → Q y H') : ∀ y dx, H y = none → H dx = none → dx ≠ y → spRowI R C (.ref y :: ([.ref x, .int m, .ref l] ++ [])) (upd (upd H dx (.own y)) y (.ins R dx [])) (fun v H2 => v = .non ∧ Q y H2) E0 := by
  intro y dx ny ndx ne
  have keep : ∀ (o1 o2 : HO), Same H (upd (upd H dx o1) y o2) := fun o1 o2 b u e => by
    rw [upd_ne (ne_of_none e ny), upd_ne (ne_of_none e ndx)]; exact e
  refine ⟨y, dx, x, l, r, m, xs, rfl, upd_same, fa.keep (keep _ _), o, m1, m2, q1, q2, keep _ _ _ _ hl, ok.1, ok.2, fun H' bt ra => ⟨rfl, k y H' (fun b u e => bt _ _ (ne_of_none e ny) (keep _ _ _ _ e)) ra⟩⟩
section
variable {P : Program} {w : World} {K : PySem.W.Frag} {mg : Str → Option Value} {base : Heap}
theorem fund_ok0 {x qual : Str} {params : Arguments} {body : List Stmt} {scope : Scope} {dvs : List V} {kws : List (Str × V)} {f : Addr} {fd : FuncData} {N ps : List Str} {k : Nat} {sp : Sp} (F : FunD K x qual params body scope dvs kws f fd) (S : FnScope N ps scope) (len : ∀ vs H Q E, sp vs H Q E → vs.length = ps.length)
    (hbody : ∀ (cdv : Value) (A : Around) (outer : List Env) (s : Shared) (H : Hp) (vs : List V) (Q : VK) (E : XK), Room k (A.deeper (envOfC qual scope s.heap.objs.size f cdv)) → sp vs H Q E →
      ∃ t, PSs (cxOf CX0 P w K mg base N qual scope f cdv A outer s H E).nox body t ∧ t { nx := fun _ H' => Q .non H', rt := Q } (start N vs) H) : FnOk P w K mg base CX0 (k + 1) f fd ps sp :=
  F.ok S len fun cdv A outer s H vs Q E hr h => let ⟨t, p, q⟩ := hbody cdv A outer s H vs Q E hr h; ⟨t, p.nox, q⟩
abbrev nRi : List Str := ["self", "rule", "most", "fills", "at", "fill"]
theorem scRowI : FnScope nRi ["self", "rule", "most", "fills"] (defScope sRow_init) := ⟨rfl, rfl, rfl, by decide +kernel, rfl, by decide +kernel, by decide +kernel⟩
theorem ok_rowI {f R C : Addr} {fd : FuncData} {dvs : List V} {kws : List (Str × V)} (F : FunD K "__init__" "Row.__init__" (defArgs sRow_init) (defBody sRow_init) (defScope sRow_init) dvs kws f fd) (T : Blt mg) (me : mg "enumerate" = none) (TR : RowC K R)
    (D1 : Df P w K mg base 1 "need_fill_rule" ["value"] (spNeedFO C)) (D2 : Df P w K mg base 4 "need_page_size" ["rule", "most"] (spNeedPO C)) (D3 : Df P w K mg base 2 "is_within" ["value", "least", "most"] spWithinA)
    {t1 t2 : Tok} (gP : mg "MOST_PAGES" = some (.int 2000 t1)) (gF : mg "MOST_FILL" = some (.int (10 ^ 15) t2)) : FnOk P w K mg base CX0 5 f fd ["self", "rule", "most", "fills"] (spRowI R C) := by
  obtain ⟨f1, fd1, G1, g1, k1, b1⟩ := D1.ex
  obtain ⟨f2, fd2, G2, g2, k2, b2⟩ := D2.ex
  obtain ⟨f3, fd3, G3, g3, k3, b3⟩ := D3.ex
  refine fund_ok0 F scRowI (fun vs H Q E h => ?_) (fun cdv A outer s H vs Q E hr h => ?_)
  · obtain ⟨y, dx, x, l, r, m, xs, rfl, _⟩ := h
    rfl
  · obtain ⟨y, dx, x, l, r, m, xs, rfl, hy, fa, o, m1, m2, q1, q2, hl, z1, z2, kk⟩ := h
    refine ⟨_, (pss_cons (ps_expr (pe_call G1 (hr.mono (by decide)) (by rfl) g1 k1 b1 .nil pass0 (pa_cons (pv 1) pa_nil)))
    (pss_cons (ps_expr (pe_call G2 hr (by rfl) g2 k2 b2 .nil pass0 (pa_cons (pv 1) (pa_cons (pv 2) pa_nil))))
    (pss_cons (ps_if (pt_not (pt_val (pe_callB call_isiT (by rfl) T.isi (by decide +kernel) (pa_cons (pv 3) (pa_cons (pe_tup (pa_cons (pe_bltn (v := .ty "list") (by rfl) T.list (by decide +kernel) rfl) (pa_cons (pe_bltn (v := .ty "tuple") (by rfl) T.tuple (by decide +kernel) rfl) pa_nil))) pa_nil)))))
      (pss_one ps_never) pss_nil)
    (pss_cons (ps_if (pt_cmpR op_gt (pe_callB call_len_seq (by rfl) T.len PySem.boot_len (pa_cons (pv 3) pa_nil)) (pe_glob (v := .int 2000) rfl gP ⟨_, rfl⟩) (nomark _))
      (pss_one ps_never) pss_nil)
    (pss_cons (ps_for PassesOwn.never rfl (pi_enum (by rfl) me (pa_cons (pv 3) pa_nil)) (pg_tup rfl (pgs_cons (pg_name (i := 4) scRowI.nd rfl (.inl rfl)) (pgs_cons (pg_name (i := 5) scRowI.nd rfl (.inl rfl)) pgs_nil)))
      (pss_one (ps_if (pt_not (pt_val (pe_call G3 (hr.mono (by decide)) (by rfl) g3 k3 b3 .nil pass0 (pa_cons (pv 5) (pa_cons pe_int (pa_cons (pe_glob (v := .int (10 ^ 15)) rfl gF ⟨_, rfl⟩) pa_nil))))))
        (pss_one ps_never) pss_nil)))
    (pss_cons (ps_fld (pv 0) (pv 1) rfl)
    (pss_cons (ps_fld (pv 0) (pv 2) rfl)
    (pss_one (ps_fld (pv 0) (pe_callTy call_tuple_of (by rfl) T.tuple (by decide +kernel) (pa_cons (pv 3) pa_nil)) rfl))))))))), ?_⟩
    refine ⟨_, rfl, x, r, rfl, fa, _, rfl, _, rfl, x, r, m, rfl, fa, o, m1, m2, q1, q2, ?_⟩
    refine ⟨_, rfl, (by show 2 ≤ sizeLine; decide), fun tp ntp => ⟨_, tp, _, _, _, true, rfl, upd_same, .cons (.ty _) (.cons (.ty _) .nil), .base (.lst (same_new ntp _ _ hl)), kit_any2 (r1 := true) (r2 := false) (by decide +kernel) (by decide +kernel), _, rfl, iteF ?_⟩⟩
    have s1 : Same H (upd H tp (.tup [.ty "list", .ty "tuple"])) := same_new ntp
    generalize upd H tp (.tup [.ty "list", .ty "tuple"]) = H1 at s1 ⊢
    refine ⟨_, rfl, l, _, rfl, .inl (SqL.of (s1 _ _ hl)), _, _, rfl, rfl, _, rfl, ?_⟩
    rw [List.length_map]
    rw [show decide ((xs.length : Int) > 2000) = false from decide_eq_false (by omega)]
    refine iteF ⟨_, rfl, l, _, rfl, SqL.of (s1 _ _ hl), ?_⟩
    refine for_it (walk_enum (K := K) (a := l) (xs := xs.map V.int)) (fun i σ G => Same H G ∧ ∃ v4 v5, σ = [some (.ref y), some (.ref x), some (.int m), some (.ref l), v4, v5]) ⟨s1, _, _, rfl⟩ (fun i σ G _ h => SqL.of (h.1 _ _ hl)) (fun i v σ G2 G3 hi h y' => ?_) (fun σ G h => ?_)
    · obtain ⟨s2, v4, v5, rfl⟩ := h
      obtain ⟨Tp, vx, vy, rfl, nT, rfl, ex, ey⟩ := y'
      obtain ⟨n, hn, rfl⟩ := int_at ey
      obtain rfl : V.int (i : Int) = vx := Option.some.inj ex
      obtain ⟨n1, n2⟩ := z2 n (List.mem_of_getElem? hn)
      have s3 : Same H (upd G2 Tp (.tup [.int (i : Int), .int n])) := s2.trans (same_new nT)
      refine ⟨Tp, _, rfl, SqT.of upd_same, rfl, _, _, rfl, _, _, rfl, rfl, _, rfl, _, _, _, rfl, .inl ⟨_, rfl⟩, _, rfl, ?_⟩
      rw [inB_in n1 n2]
      exact iteF ⟨s3, _, _, rfl⟩
    · obtain ⟨s2, v4, v5, rfl⟩ := h
      have fa2 := fa.keep s2
      refine ⟨_, rfl, _, rfl, y, R, dx, _, rfl, s2 _ _ hy, TR.cl, TR.n1, (by show 0 < 1000; decide), ?_⟩
      rw [rp1]
      have y1 : upd G y (.ins R dx [("fill_rule", .ref x)]) y = some (.ins R dx [("fill_rule", .ref x)]) := upd_same
      have t1 : But y H (upd G y (.ins R dx [("fill_rule", .ref x)])) := (Same.but s2).trans But.upd_at
      generalize upd G y (.ins R dx [("fill_rule", .ref x)]) = H2 at y1 t1 ⊢
      refine ⟨_, rfl, _, rfl, y, R, dx, _, rfl, y1, TR.cl, TR.n2, (by show 1 < 1000; decide), ?_⟩
      rw [rp2]
      have y2 : upd H2 y (.ins R dx [("fill_rule", .ref x), ("most", .int m)]) y = some (.ins R dx [("fill_rule", .ref x), ("most", .int m)]) := upd_same
      have t2 : But y H (upd H2 y (.ins R dx [("fill_rule", .ref x), ("most", .int m)])) := t1.trans But.upd_at
      generalize upd H2 y (.ins R dx [("fill_rule", .ref x), ("most", .int m)]) = H3 at y2 t2 ⊢
      have ly : l ≠ y := ne_of hl hy (by intro z; cases z)
      refine ⟨_, rfl, l, _, rfl, .inl ⟨SqL.of (t2 _ _ ly hl), fun q nq => ?_⟩⟩
      refine ⟨_, rfl, y, R, dx, _, rfl, same_new nq _ _ y2, TR.cl, TR.n3, (by show 2 < 1000; decide), ?_⟩
      rw [rp3]
      have qy : q ≠ y := fun z => by rw [z, y2] at nq; cases nq
      refine kk _ (t2.trans ((But.upd_new nq).trans But.upd_at)) ⟨dx, x, q, upd_same, ?_, by rw [upd_ne qy]; exact upd_same⟩
      obtain ⟨dx', a, h1, h2⟩ := fa
      have bt := t2.trans ((But.upd_new nq).trans (But.upd_at (p := y) (H := upd H3 q (.tup (xs.map V.int))) (o := .ins R dx (rowF x q m))))
      exact ⟨dx', a, bt _ _ (fun z => by subst z; rw [hy] at h1; cases h1) h1, bt _ _ (ne_of h2 hy (by intro z; cases z)) h2⟩
end
end Ev
namespace Ev
open PySem L2 PySem.Spec PyProof.Rows RZ
/-! The methods of a row. -/
section
variable {P : Program} {w : World} {K : PySem.W.Frag} {mg : Str → Option Value} {base : Heap}
theorem scRLen : FnScope ["self"] ["self"] (defScope sRow_len) := ⟨rfl, rfl, rfl, by decide +kernel, rfl, by decide +kernel, by decide +kernel⟩
theorem scRIter : FnScope ["self"] ["self"] (defScope sRow_iter) := ⟨rfl, rfl, rfl, by decide +kernel, rfl, by decide +kernel, by decide +kernel⟩
theorem scRTotal : FnScope ["self"] ["self"] (defScope sRow_total) := ⟨rfl, rfl, rfl, by decide +kernel, rfl, by decide +kernel, by decide +kernel⟩
theorem scRKeeps : FnScope ["self"] ["self"] (defScope sRow_keeps) := ⟨rfl, rfl, rfl, by decide +kernel, rfl, by decide +kernel, by decide +kernel⟩
theorem ok_rlen {f R : Addr} {fd : FuncData} (F : Fun K "__len__" "Row.__len__" sRow_len f fd) (T : Blt mg) (TR : RowC K R) : FnOk P w K mg base CX0 1 f fd ["self"] (spRLen R) := by
  refine F.ok scRLen (fun vs H Q E h => ?_) (fun cdv A outer s H vs Q E hr h => ?_)
  · obtain ⟨x, dx, l, fs, zs, rfl, _⟩ := h
    rfl
  · obtain ⟨x, dx, l, fs, zs, rfl, hx, hf, hl, k⟩ := h
    refine ⟨_, (pss_one (ps_ret (pe_callB call_len_seq (by rfl) T.len PySem.boot_len (pa_cons (pe_fld (pv 0) rfl) pa_nil)))), ?_⟩
    exact ⟨_, rfl, x, R, dx, _, _, rfl, hx, TR.cl, TR.n3, hf, l, _, rfl, .inr (SqT.of hl), k⟩
theorem ok_riter {f R : Addr} {fd : FuncData} (F : Fun K "__iter__" "Row.__iter__" sRow_iter f fd) (mi : mg "iter" = none) (TR : RowC K R) : FnOk P w K mg base CX0 1 f fd ["self"] (spRIter R) := by
  refine F.ok scRIter (fun vs H Q E h => ?_) (fun cdv A outer s H vs Q E hr h => ?_)
  · obtain ⟨x, dx, l, fs, zs, rfl, _⟩ := h
    rfl
  · obtain ⟨x, dx, l, fs, zs, rfl, hx, hf, hl, k⟩ := h
    refine ⟨_, (pss_one (ps_ret (pe_callB call_iterT (by rfl) mi (by decide +kernel) (pa_cons (pe_fld (pv 0) rfl) pa_nil)))), ?_⟩
    exact ⟨_, rfl, x, R, dx, _, _, rfl, hx, TR.cl, TR.n3, hf, l, _, rfl, hl, k⟩
theorem ok_rtotal {f R C : Addr} {fd : FuncData} (F : Fun K "total" "Row.total" sRow_total f fd) (ms : mg "sum" = none) (TR : RowC K R) : FnOk P w K mg base CX0 1 f fd ["self"] (spTotal R C) := by
  refine F.ok scRTotal (fun vs H Q E h => ?_) (fun cdv A outer s H vs Q E hr h => ?_)
  · obtain ⟨y, r, m, xs, rfl, _⟩ := h
    rfl
  · obtain ⟨y, r, m, xs, rfl, ⟨dx, x, l, hy, fa, hl⟩, k⟩ := h
    refine ⟨_, (pss_one (ps_ret (pe_callB (cr_sumT rfl) (by rfl) ms (by decide +kernel) (pa_cons (pe_fld (pv 0) rfl) pa_nil)))), ?_⟩
    exact ⟨_, rfl, y, R, dx, _, _, rfl, hy, TR.cl, TR.n3, row_fills _ _ _, l, _, rfl, SqT.of hl, k⟩
theorem ok_rkeeps {f R C : Addr} {fd : FuncData} (F : Fun K "keeps" "Row.keeps" sRow_keeps f fd) (TR : RowC K R) (D : Df P w K mg base 2 "is_kept" ["rule", "most", "fills"] (spIsKept C)) : FnOk P w K mg base CX0 3 f fd ["self"] (spKeepsP R C) := by
  obtain ⟨f1, fd1, G1, g1, k1, b1⟩ := D.ex
  refine F.ok scRKeeps (fun vs H Q E h => ?_) (fun cdv A outer s H vs Q E hr h => ?_)
  · obtain ⟨y, r, m, xs, rfl, _⟩ := h
    rfl
  · obtain ⟨y, r, m, xs, rfl, ⟨dx, x, l, hy, fa, hl⟩, o, k⟩ := h
    refine ⟨_, (pss_one (ps_ret (pe_call G1 hr (by rfl) g1 k1 b1 .nil pass0 (pa_cons (pe_fld (pv 0) rfl) (pa_cons (pe_fld (pv 0) rfl) (pa_cons (pe_fld (pv 0) rfl) pa_nil)))))), ?_⟩
    exact ⟨_, rfl, y, R, dx, _, _, rfl, hy, TR.cl, TR.n1, row_rule _ _ _, _, rfl, y, R, dx, _, _, rfl, hy, TR.cl, TR.n2, row_most _ _ _, _, rfl, y, R, dx, _, _, rfl, hy, TR.cl, TR.n3, row_fills _ _ _, x, l, r, m, xs, rfl, fa, o, hl, k⟩
abbrev nPu : List Str := ["self", "ahead", "fills", "deed"]
abbrev nTk : List Str := ["self", "index", "fills", "deed"]
theorem scRPut : FnScope nPu ["self", "ahead"] (defScope sRow_put) := ⟨rfl, rfl, rfl, by decide +kernel, rfl, by decide +kernel, by decide +kernel⟩
theorem scRTake : FnScope nTk ["self", "index"] (defScope sRow_take) := ⟨rfl, rfl, rfl, by decide +kernel, rfl, by decide +kernel, by decide +kernel⟩
theorem ok_rput {f R C : Addr} {fd : FuncData} (F : Fun K "put" "Row.put" sRow_put f fd) (TR : RowC K R) (M : RowM P w K mg base R C) (PT : RowP P w K mg base R "total" 1 (spTotal R C)) (D1 : Df P w K mg base 3 "need_up_to" ["value", "most"] spNeedU)
    (D2 : Df P w K mg base 3 "behind_put" ["rule", "most", "fills", "ahead"] (spBPut C)) : FnOk P w K mg base CX0 7 f fd ["self", "ahead"] (spPut R C) := by
  obtain ⟨f1, fd1, G1, g1, k1, b1⟩ := D1.ex
  obtain ⟨f2, fd2, G2, g2, k2, b2⟩ := D2.ex
  obtain ⟨fI, fdI, MI, GI, bI⟩ := M.ex
  obtain ⟨pt, gt, fdt, PP, Gt, bt⟩ := id PT
  refine F.ok scRPut (fun vs H Q E h => ?_) (fun cdv A outer s H vs Q E hr h => ?_)
  · obtain ⟨y, r, m, a, xs, rfl, _⟩ := h
    rfl
  · obtain ⟨y, r, m, a, xs, rfl, ra, o, m1, m2, q1, q2, okx, a0, a1, okn, kk⟩ := h
    obtain ⟨dx, x, l, hy, fa, hl⟩ := id ra
    refine ⟨_, (pss_cons (ps_expr (pe_call G1 (hr.mono (by decide)) (by rfl) g1 k1 b1 .nil pass0 (pa_cons (pv 1) (pa_cons (pe_prop (pv 0) TR.cl PP Gt (hr.mono (by decide)) bt .nil pass0 rfl) pa_nil))))
    (pss_cons (ps_asg (pe_call G2 (hr.mono (by decide)) (by rfl) g2 k2 b2 .nil pass0 (pa_cons (pe_fld (pv 0) rfl) (pa_cons (pe_fld (pv 0) rfl) (pa_cons (pe_fld (pv 0) rfl) (pa_cons (pv 1) pa_nil))))) (pg_tup (by rfl) (pgs_cons (pg_name (i := 2) scRPut.nd rfl (.inl rfl)) (pgs_cons (pg_name (i := 3) scRPut.nd rfl (.inl rfl)) pgs_nil))))
    (pss_one (ps_ret (pe_tup (pa_cons (pe_make (E := E0) MI GI hr (by rfl) M.g bI .nil pass0 (pa_cons (pe_fld (pv 0) rfl) (pa_cons (pe_fld (pv 0) rfl) (pa_cons (pv 2) pa_nil)))) (pa_cons (pv 3) pa_nil))))))), ?_⟩
    refine ⟨_, rfl, _, rfl, y, dx, _, rfl, hy, y, r, m, xs, rfl, ra, a, _, rfl, a0, a1, ?_⟩
    refine ⟨_, rfl, y, R, dx, _, _, rfl, hy, TR.cl, TR.n1, row_rule _ _ _, _, rfl, y, R, dx, _, _, rfl, hy, TR.cl, TR.n2, row_most _ _ _, _, rfl, y, R, dx, _, _, rfl, hy, TR.cl, TR.n3, row_fills _ _ _, _, rfl, x, l, r, m, a, xs, rfl, fa, o, hl, okx.1, (fun z hz => by have := okx.2 z hz; omega), a1, fun t q v H1 s1 ht hq hd => ?_⟩
    have hy1 := s1 _ _ hy
    refine ⟨t, _, rfl, SqT.of ht, rfl, _, _, rfl, _, _, rfl, rfl, ?_⟩
    refine ⟨_, rfl, y, R, dx, _, _, rfl, hy1, TR.cl, TR.n1, row_rule _ _ _, _, rfl, y, R, dx, _, _, rfl, hy1, TR.cl, TR.n2, row_most _ _ _, _, rfl, ?_⟩
    refine mk_row (fa.keep s1) o m1 m2 q1 q2 hq okn fun y' H2 s2 ra2 => ?_
    refine ⟨_, rfl, (by show 2 ≤ sizeLine; decide), fun t2 nt => ?_⟩
    exact kk t2 y' v _ (s1.trans (s2.trans (same_new nt))) upd_same (ra2.keep (same_new nt)) (hd.keep fun b o e => same_new nt _ _ (s2 _ _ e))
theorem ok_rtake {f R C : Addr} {fd : FuncData} (F : Fun K "take" "Row.take" sRow_take f fd) (TR : RowC K R) (M : RowM P w K mg base R C) (PT : RowP P w K mg base R "total" 1 (spTotal R C)) (D1 : Df P w K mg base 3 "need_up_to" ["value", "most"] spNeedU)
    (D2 : Df P w K mg base 3 "behind_take" ["rule", "most", "fills", "index"] (spBTake C)) : FnOk P w K mg base CX0 7 f fd ["self", "index"] (spTake R C) := by
  obtain ⟨f1, fd1, G1, g1, k1, b1⟩ := D1.ex
  obtain ⟨f2, fd2, G2, g2, k2, b2⟩ := D2.ex
  obtain ⟨fI, fdI, MI, GI, bI⟩ := M.ex
  obtain ⟨pt, gt, fdt, PP, Gt, bt⟩ := id PT
  refine F.ok scRTake (fun vs H Q E h => ?_) (fun cdv A outer s H vs Q E hr h => ?_)
  · obtain ⟨y, r, m, a, xs, rfl, _⟩ := h
    rfl
  · obtain ⟨y, r, m, a, xs, rfl, ra, o, m1, m2, q1, q2, okx, a0, a1, okn, kk⟩ := h
    obtain ⟨dx, x, l, hy, fa, hl⟩ := id ra
    have ne : xs ≠ [] := fun z => by subst z; simp at a1; omega
    refine ⟨_, (pss_cons (ps_expr (pe_call G1 (hr.mono (by decide)) (by rfl) g1 k1 b1 .nil pass0 (pa_cons (pv 1) (pa_cons (pe_op op_sub (pe_prop (pv 0) TR.cl PP Gt (hr.mono (by decide)) bt .nil pass0 rfl) pe_int) pa_nil))))
    (pss_cons (ps_asg (pe_call G2 (hr.mono (by decide)) (by rfl) g2 k2 b2 .nil pass0 (pa_cons (pe_fld (pv 0) rfl) (pa_cons (pe_fld (pv 0) rfl) (pa_cons (pe_fld (pv 0) rfl) (pa_cons (pv 1) pa_nil))))) (pg_tup (by rfl) (pgs_cons (pg_name (i := 2) scRTake.nd rfl (.inl rfl)) (pgs_cons (pg_name (i := 3) scRTake.nd rfl (.inl rfl)) pgs_nil))))
    (pss_one (ps_ret (pe_tup (pa_cons (pe_make (E := E0) MI GI hr (by rfl) M.g bI .nil pass0 (pa_cons (pe_fld (pv 0) rfl) (pa_cons (pe_fld (pv 0) rfl) (pa_cons (pv 2) pa_nil)))) (pa_cons (pv 3) pa_nil))))))), ?_⟩
    refine ⟨_, rfl, _, rfl, y, dx, _, rfl, hy, y, r, m, xs, rfl, ra, _, _, rfl, rfl, a, _, rfl, a0, by omega, ?_⟩
    refine ⟨_, rfl, y, R, dx, _, _, rfl, hy, TR.cl, TR.n1, row_rule _ _ _, _, rfl, y, R, dx, _, _, rfl, hy, TR.cl, TR.n2, row_most _ _ _, _, rfl, y, R, dx, _, _, rfl, hy, TR.cl, TR.n3, row_fills _ _ _, _, rfl, x, l, r, m, a, xs, rfl, fa, o, hl, okx.1, (fun z hz => by have := okx.2 z hz; omega), ne, a1, fun t q v H1 s1 ht hq hd => ?_⟩
    have hy1 := s1 _ _ hy
    refine ⟨t, _, rfl, SqT.of ht, rfl, _, _, rfl, _, _, rfl, rfl, ?_⟩
    refine ⟨_, rfl, y, R, dx, _, _, rfl, hy1, TR.cl, TR.n1, row_rule _ _ _, _, rfl, y, R, dx, _, _, rfl, hy1, TR.cl, TR.n2, row_most _ _ _, _, rfl, ?_⟩
    refine mk_row (fa.keep s1) o m1 m2 q1 q2 hq okn fun y' H2 s2 ra2 => ?_
    refine ⟨_, rfl, (by show 2 ≤ sizeLine; decide), fun t2 nt => ?_⟩
    exact kk t2 y' v _ (s1.trans (s2.trans (same_new nt))) upd_same (ra2.keep (same_new nt)) (hd.keep fun b o e => same_new nt _ _ (s2 _ _ e))
end
end Ev
namespace Ev
open PySem L2 PySem.Spec PyProof.Rows RZ
/-! What a deed does to a row that keeps its rule. -/
theorem sum_rep : ∀ (n : Nat) (x : Int), (List.replicate n x).sum = n * x
  | 0, x => by simp
  | n + 1, x => by
    rw [List.replicate_succ, List.sum_cons, sum_rep n x]
    have : ((n + 1 : Nat) : Int) = (n : Int) + 1 := by omega
    rw [this, Int.add_mul, Int.one_mul]; omega
theorem dealtL_sum {t p : Int} (h : 1 ≤ p) : (dealtL t p).sum = t := by
  have h1 := Int.emod_nonneg t (by omega : p ≠ 0)
  have h2 := Int.emod_lt_of_pos t (by omega : 0 < p)
  have h3 := Int.mul_ediv_add_emod t p
  unfold dealtL
  rw [List.sum_append, sum_rep, sum_rep, Int.toNat_of_nonneg h1, Int.toNat_of_nonneg (by omega), Int.mul_add, Int.sub_mul, Int.mul_one]
  omega
theorem dealtL_bd {t p lo hi : Int} (h : 1 ≤ p) (h1 : p * lo ≤ t) (h2 : t ≤ p * hi) : ∀ x ∈ dealtL t p, lo ≤ x ∧ x ≤ hi := by
  intro x hx
  have a1 := Int.emod_nonneg t (by omega : p ≠ 0)
  have a2 := Int.emod_lt_of_pos t (by omega : 0 < p)
  have a3 := Int.mul_ediv_add_emod t p
  have lo1 : lo ≤ t / p := Int.le_ediv_of_mul_le (by omega) (by rw [Int.mul_comm]; exact h1)
  have hi1 : t / p ≤ hi := Int.ediv_le_of_le_mul (by omega) (by rw [Int.mul_comm]; exact h2)
  unfold dealtL at hx
  rcases List.mem_append.mp hx with hx | hx
  · obtain ⟨n0, rfl⟩ := List.mem_replicate.mp hx
    refine ⟨by omega, ?_⟩
    by_cases z : t / p = hi
    · rw [z] at a3
      omega
    · omega
  · obtain ⟨n0, rfl⟩ := List.mem_replicate.mp hx
    exact ⟨lo1, hi1⟩
/-- one of them is the least, one the greatest -/
theorem dealtL_min {t p : Int} (h : 1 ≤ p) : t / p ∈ dealtL t p := by
  have a2 := Int.emod_lt_of_pos t (by omega : 0 < p)
  unfold dealtL
  exact List.mem_append_right _ (List.mem_replicate.mpr ⟨by omega, rfl⟩)
theorem dealtL_max {t p : Int} (h : 1 ≤ p) {hi : Int} (hh : p * hi < t) : ∃ x ∈ dealtL t p, hi < x := by
  have a1 := Int.emod_nonneg t (by omega : p ≠ 0)
  have a2 := Int.emod_lt_of_pos t (by omega : 0 < p)
  have a3 := Int.mul_ediv_add_emod t p
  have lo1 : hi ≤ t / p := Int.le_ediv_of_mul_le (by omega) (by rw [Int.mul_comm]; omega)
  by_cases z : t % p = 0
  · refine ⟨_, dealtL_min h, ?_⟩
    by_cases y : t / p = hi
    · rw [y] at a3; omega
    · omega
  · exact ⟨t / p + 1, List.mem_append_left _ (List.mem_replicate.mpr ⟨by omega, rfl⟩), by omega⟩
theorem sum_bd {lo hi : Int} : ∀ {xs : List Int}, (∀ x ∈ xs, lo ≤ x ∧ x ≤ hi) → (xs.length : Int) * lo ≤ xs.sum ∧ xs.sum ≤ (xs.length : Int) * hi
  | [], _ => by simp
  | x :: xs, h => by
    obtain ⟨a, b⟩ := sum_bd (xs := xs) fun y m => h y (List.mem_cons_of_mem _ m)
    have := h x (List.mem_cons_self ..)
    have e : ((x :: xs).length : Int) = (xs.length : Int) + 1 := by rw [List.length_cons]; omega
    rw [List.sum_cons, e, Int.add_mul, Int.add_mul]
    omega
theorem glue {row : List Int} {s e : Nat} (h : s ≤ e) : row.take s ++ ((row.take e).drop s ++ row.drop e) = row := by
  have : row.take s = (row.take e).take s := by rw [List.take_take, Nat.min_eq_left h]
  rw [this, ← List.append_assoc, List.take_append_drop, List.take_append_drop]
theorem grp {xs : List Int} {v : Int} {s k e : Nat} (h1 : s ≤ k) (h2 : k < e) (h3 : e ≤ xs.length) : ((xs.set k v).take e).drop s = (xs.take k).drop s ++ v :: ((xs.drop (k + 1)).take (e - k - 1)) := by
  have hk : k < xs.length := by omega
  rw [List.set_eq_take_append_cons_drop, if_pos hk, List.take_append, List.take_of_length_le (by rw [List.length_take]; omega), List.length_take, Nat.min_eq_left (by omega)]
  obtain ⟨d, hd⟩ : ∃ d, e - k = d + 1 := ⟨e - k - 1, by omega⟩
  rw [hd, List.take_succ_cons, List.drop_append, List.length_take, Nat.min_eq_left (by omega), show s - k = 0 by omega, List.drop_zero, show d + 1 - 1 = d by omega]
theorem Fr.low_le {r : Fr} {m : Int} {xs : List Int} (h : 1 ≤ r.least m) : r.lowK m xs ≤ r.least m := by
  unfold Fr.lowK
  split
  · exact h
  · split
    · omega
    · omega
theorem half {m : Int} : (m + 1).fdiv 2 = (m + 1) / 2 := Int.fdiv_eq_ediv_of_nonneg _ (by omega)
theorem Fr.low_ge {r : Fr} {m : Int} {xs : List Int} (h : 1 ≤ r.least m) (hm : 1 ≤ m) : 1 ≤ r.lowK m xs := by
  unfold Fr.lowK
  rw [half]
  split
  · omega
  · split
    · omega
    · exact h
theorem Fr.low_big {r : Fr} {m : Int} {xs : List Int} (o : r.ok) (h : r.wd < xs.length) : r.lowK m xs = r.least m := by
  obtain ⟨w1, w2, _, _⟩ := Fr.wd_bd o
  unfold Fr.lowK
  rw [if_neg (by omega), if_neg (by omega)]
theorem Fr.low_len {r : Fr} {m : Int} {xs ys : List Int} (h : xs.length = ys.length) : r.lowK m xs = r.lowK m ys := by
  unfold Fr.lowK
  rw [h]
theorem Fr.keep_iff {r : Fr} {m : Int} {xs : List Int} : r.keepR m xs = true ↔ ∀ x ∈ xs, r.lowK m xs ≤ x ∧ x ≤ m := by
  unfold Fr.keepR Fr.inK
  simp [List.all_eq_true]
/-- such a rule is right -/
structure Fr.fine (r : Fr) (m : Int) : Prop where
  l1 : 1 ≤ r.least m
  l2 : r.least m ≤ m
  cut : (r.c + 1) * r.least m ≤ r.c * m + 1
  join : r.j * r.least m ≤ (r.j - 1) * m + 1
def Chg (b : Bool) (xs ys : List Int) (d : Deed) : Prop := (d = none ∧ ys.length = xs.length) ∨ (∃ i, d = some (b, i)) ∧ (ys.length : Int) = xs.length + (if b then 1 else -1)
theorem five {c : Int} (h1 : 1 ≤ c) (h2 : c ≤ 5) : c = 1 ∨ c = 2 ∨ c = 3 ∨ c = 4 ∨ c = 5 := by omega
theorem anewL_len {row : List Int} {s e p : Int} (h0 : 0 ≤ s) (h1 : s ≤ e) (h2 : e ≤ row.length) (hp : 1 ≤ p) : ((anewL row s e p).length : Int) = row.length - (e - s) + p := by
  unfold anewL
  rw [List.length_append, List.length_append, dealtL_len hp, List.length_take, List.length_drop]
  omega
theorem anewL_sum {row : List Int} {s e p : Int} (h0 : 0 ≤ s) (h1 : s ≤ e) (hp : 1 ≤ p) : (anewL row s e p).sum = row.sum := by
  unfold anewL
  have h := congrArg List.sum (glue (row := row) (s := s.toNat) (e := e.toNat) (by omega))
  rw [List.sum_append, List.sum_append] at h
  rw [List.sum_append, List.sum_append, dealtL_sum hp]
  exact h
theorem anewL_all {row : List Int} {n : Nat} {p : Int} (hn : n = row.length) : anewL row 0 (n : Int) p = dealtL row.sum p := by
  subst hn
  unfold anewL
  rw [Int.toNat_natCast, show (0 : Int).toNat = 0 from rfl, List.take_zero, List.take_of_length_le (Nat.le_refl _), List.drop_zero, List.drop_of_length_le (Nat.le_refl _), List.append_nil, List.nil_append]
end Ev
namespace Ev
open PySem L2 PySem.Spec PyProof.Rows RZ
theorem pageFor_lt {xs : List Int} {a : Int} (h : a ≤ xs.sum) (ne : xs ≠ []) (p : ∀ x ∈ xs, 0 ≤ x) : pageFor xs a < xs.length := by
  unfold pageFor
  split
  · exact pageAt_lt (by omega) ne p
  · exact List.length_pos_iff.mpr ne
theorem getD_mem {xs : List Int} {k : Nat} (h : k < xs.length) : xs.getD k 0 ∈ xs := by
  rw [List.getD_eq_getElem?_getD, List.getElem?_eq_getElem h]
  exact List.getElem_mem h
theorem mem_bump {xs : List Int} {k : Nat} {d x : Int} (h : x ∈ bump xs k d) : x ∈ xs ∨ x = xs.getD k 0 + d := by
  unfold bump at h
  exact List.mem_or_eq_of_mem_set h
/-- the entries of the group that a deed touches, and the pages beside it -/
theorem grp_bd {xs : List Int} {k : Nat} {d lo hi s c : Int} (hk : k < xs.length) (h0 : 0 ≤ s) (h1 : s ≤ k) (h2 : (k : Int) < s + c) (h3 : s + c ≤ xs.length) (hx : ∀ x ∈ xs, lo ≤ x ∧ x ≤ hi) :
    (c - 1) * lo + (xs.getD k 0 + d) ≤ (((bump xs k d).take (s + c).toNat).drop s.toNat).sum ∧ (((bump xs k d).take (s + c).toNat).drop s.toNat).sum ≤ (c - 1) * hi + (xs.getD k 0 + d) ∧
    (∀ x ∈ (bump xs k d).take s.toNat, x ∈ xs) ∧ ∀ x ∈ (bump xs k d).drop (s + c).toNat, x ∈ xs := by
  obtain ⟨n, rfl⟩ := Int.eq_ofNat_of_zero_le h0
  obtain ⟨e, he⟩ := Int.eq_ofNat_of_zero_le (show 0 ≤ (n : Int) + c by omega)
  have hc : c = (e : Int) - n := by omega
  subst hc
  rw [he, Int.toNat_natCast, Int.toNat_natCast]
  unfold bump
  rw [grp (by omega) (by omega) (by omega), List.sum_append, List.sum_cons]
  obtain ⟨b1, b2⟩ := sum_bd (lo := lo) (hi := hi) (xs := (xs.take k).drop n) fun x m => hx x (List.mem_of_mem_take (List.mem_of_mem_drop m))
  obtain ⟨c1, c2⟩ := sum_bd (lo := lo) (hi := hi) (xs := (xs.drop (k + 1)).take (e - k - 1)) fun x m => hx x (List.mem_of_mem_drop (List.mem_of_mem_take m))
  have l1 : (((xs.take k).drop n).length : Int) = k - n := by rw [List.length_drop, List.length_take]; omega
  have l2 : (((xs.drop (k + 1)).take (e - k - 1)).length : Int) = e - k - 1 := by rw [List.length_take, List.length_drop]; omega
  rw [l1] at b1 b2
  rw [l2] at c1 c2
  have e1 : ((e : Int) - n - 1) * lo = (k - n) * lo + (e - k - 1) * lo := by rw [← Int.add_mul]; congr 1; omega
  have e2 : ((e : Int) - n - 1) * hi = (k - n) * hi + (e - k - 1) * hi := by rw [← Int.add_mul]; congr 1; omega
  rw [e1, e2]
  refine ⟨by omega, by omega, fun x m => ?_, fun x m => ?_⟩
  · rw [List.take_set_of_le (by omega)] at m
    exact List.mem_of_mem_take m
  · rw [List.drop_set_of_lt (by omega)] at m
    exact List.mem_of_mem_drop m
theorem mem_anew {row : List Int} {s e p x : Int} (h : x ∈ anewL row s e p) : x ∈ row.take s.toNat ∨ x ∈ dealtL ((row.take e.toNat).drop s.toNat).sum p ∨ x ∈ row.drop e.toNat := by
  unfold anewL at h
  rcases List.mem_append.mp h with h | h
  · exact .inl h
  · exact .inr (List.mem_append.mp h)
theorem put_keeps {r : Fr} {m a : Int} {xs : List Int} (o : r.ok) (hm : 2 ≤ m) (fn : r.fine m) (hk : r.keepR m xs = true) (a1 : a ≤ xs.sum) :
    r.keepR m (r.putR m xs a).1 = true ∧ (r.putR m xs a).1.sum = xs.sum + 1 ∧ Chg true xs (r.putR m xs a).1 (r.putR m xs a).2 := by
  have hK := Fr.keep_iff.mp hk
  have f1 := fn.l1; have f2 := fn.l2; have f3 := fn.cut; have f4 := fn.join
  obtain ⟨w1, w2, w3, w4⟩ := Fr.wd_bd o
  have c1 := o.c1; have c2 := o.c2
  have lo1 := Fr.low_ge (xs := xs) f1 (by omega : 1 ≤ m)
  have pos : ∀ x ∈ xs, 0 ≤ x := fun x h => by have := hK x h; omega
  unfold Fr.putR
  split
  · rename_i e
    subst e
    refine ⟨Fr.keep_iff.mpr fun x h => ?_, by simp, .inr ⟨⟨_, rfl⟩, by simp⟩⟩
    rw [List.mem_singleton.mp h]
    unfold Fr.lowK
    rw [if_pos (by rfl)]
    omega
  · rename_i ne
    have hlt := pageFor_lt a1 ne pos
    generalize hkk : pageFor xs a = k at hlt ⊢
    have bl := bump_len xs k 1
    have bs := bump_sum (xs := xs) (k := k) (d := 1) hlt
    have bk := bump_at (xs := xs) (k := k) (d := 1) hlt
    obtain ⟨xk1, xk2⟩ := hK _ (getD_mem hlt)
    dsimp only
    rw [bl, bk]
    split
    · rename_i big
      have el := Fr.low_big (m := m) (xs := xs) o (by omega)
      rw [el] at hK
      split
      · rename_i sm
        dsimp only
        refine ⟨Fr.keep_iff.mpr fun x h => ?_, bs, .inl ⟨rfl, bl⟩⟩
        rw [Fr.low_len bl, el]
        rcases mem_bump h with h | rfl
        · exact hK x h
        · omega
      · rename_i full
        obtain ⟨g1, g2, g3, g4⟩ := groupS_bd (k := k) (n := xs.length) (c := r.c) hlt c1 (by omega)
        obtain ⟨t1, t2, t3, t4⟩ := grp_bd (d := 1) hlt g1 g3 g4 g2 hK
        generalize hs : groupS k r.c = s at g1 g2 g3 g4 t1 t2 t3 t4 ⊢
        have xk : xs.getD k 0 = m := by omega
        rw [xk] at t1 t2
        have e1 : (r.c - 1) * r.least m + r.least m = r.c * r.least m := by rw [Int.sub_mul]; omega
        have e2 : (r.c - 1) * m + m = r.c * m := by rw [Int.sub_mul]; omega
        have e3 : (r.c + 1) * r.least m = r.c * r.least m + r.least m := by rw [Int.add_mul]; omega
        have e4 : (r.c + 1) * m = r.c * m + m := by rw [Int.add_mul]; omega
        obtain ⟨p, hp, p1, q1, q2, dd⟩ : ∃ p : Int, p = (if (((bump xs k 1).take (s + r.c).toNat).drop s.toNat).sum > r.c * m then r.c + 1 else r.c) ∧ 1 ≤ p ∧ p * r.least m ≤ (((bump xs k 1).take (s + r.c).toNat).drop s.toNat).sum ∧ (((bump xs k 1).take (s + r.c).toNat).drop s.toNat).sum ≤ p * m ∧
            ((p = r.c + 1) ∨ p = r.c) := by
          by_cases z : (((bump xs k 1).take (s + r.c).toNat).drop s.toNat).sum > r.c * m
          · refine ⟨r.c + 1, by rw [if_pos z], by omega, ?_, ?_, .inl rfl⟩ <;> omega
          · refine ⟨r.c, by rw [if_neg z], c1, ?_, ?_, .inr rfl⟩ <;> omega
        rw [← hp]
        dsimp only
        have al := anewL_len (row := bump xs k 1) (s := s) (e := s + r.c) (p := p) g1 (by omega) (by rw [bl]; exact g2) p1
        rw [bl] at al
        refine ⟨Fr.keep_iff.mpr fun x h => ?_, ?_, ?_⟩
        · rw [Fr.low_big o (by omega)]
          rcases mem_anew h with h | h | h
          · exact hK x (t3 x h)
          · exact dealtL_bd p1 q1 q2 x h
          · exact hK x (t4 x h)
        · rw [anewL_sum g1 (by omega) p1, bs]
        · unfold anewD
          rcases dd with rfl | rfl
          · rw [if_pos (by omega)]
            exact .inr ⟨⟨_, rfl⟩, by simp; omega⟩
          · rw [if_neg (by omega), if_neg (by omega)]
            exact .inl ⟨rfl, by omega⟩
    · rename_i young
      obtain ⟨sb1, sb2⟩ := sum_bd hK
      have n1 : 1 ≤ (xs.length : Int) := by have := List.length_pos_iff.mpr ne; omega
      rw [bs]
      generalize hL : r.lowK m xs = L at hK lo1 sb1 xk1
      obtain ⟨p, hp, p1, dd⟩ : ∃ p : Int, p = (if xs.sum + 1 > (xs.length : Int) * m then (xs.length : Int) + 1 else (xs.length : Int)) ∧ 1 ≤ p ∧ ((p = (xs.length : Int) + 1 ∧ xs.sum + 1 > (xs.length : Int) * m) ∨ (p = (xs.length : Int) ∧ ¬ xs.sum + 1 > (xs.length : Int) * m)) := by
        by_cases z : xs.sum + 1 > (xs.length : Int) * m
        · exact ⟨_, by rw [if_pos z], by omega, .inl ⟨rfl, z⟩⟩
        · exact ⟨_, by rw [if_neg z], by omega, .inr ⟨rfl, z⟩⟩
      rw [← hp, anewL_all bl.symm, bs]
      dsimp only
      have dl : ((dealtL (xs.sum + 1) p).length : Int) = p := by rw [dealtL_len p1]; omega
      refine ⟨Fr.keep_iff.mpr (dealtL_bd p1 ?_ ?_), dealtL_sum p1, ?_⟩
      · -- the least
        rcases dd with ⟨rfl, z⟩ | ⟨rfl, z⟩
        · have T : xs.sum + 1 = (xs.length : Int) * m + 1 := by omega
          unfold Fr.lowK
          rw [dl, half, if_neg (by omega), T]
          have w5 : (xs.length : Int) ≤ 6 := by omega
          by_cases y : (xs.length : Int) + 1 ≤ r.wd
          · have key : ((xs.length : Int) + 1) * ((m + 1) / 2) ≤ (xs.length : Int) * m + 1 := by
              generalize (xs.length : Int) = n at n1 w5
              obtain rfl | rfl | rfl | rfl | rfl | rfl : n = 1 ∨ n = 2 ∨ n = 3 ∨ n = 4 ∨ n = 5 ∨ n = 6 := by omega
              all_goals omega
            by_cases u : r.least m > (m + 1) / 2
            · rw [if_pos ⟨y, u⟩]; exact key
            · rw [if_neg fun q => u q.2]
              exact Int.le_trans (Int.mul_le_mul_of_nonneg_left (by omega) (by omega)) key
          · rw [if_neg fun q => y q.1]
            have nw : (xs.length : Int) = r.wd := by omega
            rw [nw]
            generalize r.wd = W at w1 w2 w3
            have : (W - r.c) * r.least m ≤ (W - r.c) * m := Int.mul_le_mul_of_nonneg_left f2 (by omega)
            have e1 : (W + 1) * r.least m = (r.c + 1) * r.least m + (W - r.c) * r.least m := by rw [← Int.add_mul]; congr 1; omega
            have e2 : W * m = r.c * m + (W - r.c) * m := by rw [← Int.add_mul]; congr 1; omega
            omega
        · rw [Fr.low_len (ys := xs) (by omega), hL]
          omega
      · -- the most
        rcases dd with ⟨rfl, z⟩ | ⟨rfl, z⟩
        · rw [Int.add_mul]; omega
        · omega
      · unfold anewD
        rcases dd with ⟨rfl, z⟩ | ⟨rfl, z⟩
        · rw [if_pos (by omega)]
          exact .inr ⟨⟨_, rfl⟩, by simp; omega⟩
        · rw [if_neg (by omega), if_neg (by omega)]
          exact .inl ⟨rfl, by omega⟩
end Ev
namespace Ev
open PySem L2 PySem.Spec PyProof.Rows RZ
theorem take_keeps {r : Fr} {m i : Int} {xs : List Int} (o : r.ok) (hm : 2 ≤ m) (fn : r.fine m) (hk : r.keepR m xs = true) (ne : xs ≠ []) (i1 : i < xs.sum) :
    r.keepR m (r.takeR m xs i).1 = true ∧ (r.takeR m xs i).1.sum = xs.sum - 1 ∧ Chg false xs (r.takeR m xs i).1 (r.takeR m xs i).2 := by
  have hK := Fr.keep_iff.mp hk
  have f1 := fn.l1; have f2 := fn.l2; have f3 := fn.cut; have f4 := fn.join
  obtain ⟨w1, w2, w3, w4⟩ := Fr.wd_bd o
  have c1 := o.j1; have c2 := o.j2
  have lo1 := Fr.low_ge (xs := xs) f1 (by omega : 1 ≤ m)
  have pos : ∀ x ∈ xs, 0 ≤ x := fun x h => by have := hK x h; omega
  unfold Fr.takeR
  have hlt := pageAt_lt i1 ne pos
  generalize hkk : pageAt xs i = k at hlt ⊢
  have bl := bump_len xs k (-1)
  have bs := bump_sum (xs := xs) (k := k) (d := -1) hlt
  have bk := bump_at (xs := xs) (k := k) (d := -1) hlt
  obtain ⟨xk1, xk2⟩ := hK _ (getD_mem hlt)
  dsimp only
  rw [bl, bk]
  split
  · rename_i young
    obtain ⟨sb1, sb2⟩ := sum_bd hK
    have n1 : 1 ≤ (xs.length : Int) := by have := List.length_pos_iff.mpr ne; omega
    rw [bs]
    have hL : r.lowK m xs = if (xs.length : Int) = 1 then 1 else if (xs.length : Int) ≤ r.wd ∧ r.least m > (m + 1) / 2 then (m + 1) / 2 else r.least m := by
      unfold Fr.lowK; rw [half]
    by_cases z : xs.sum + -1 ≤ ((xs.length : Int) - 1) * m
    · rw [if_pos z]
      by_cases y : (xs.length : Int) = 1
      · rw [anewL_all bl.symm, bs]
        rw [y] at z sb1
        rw [hL, if_pos y] at sb1
        have s1 : xs.sum + -1 = 0 := by omega
        rw [s1, y]
        dsimp only
        rw [show (1 : Int) - 1 = 0 from rfl, dealtL_zero]
        refine ⟨by rfl, by simp; omega, .inr ⟨?_, by simp; omega⟩⟩
        unfold anewD
        rw [if_neg (by omega), if_pos (by omega)]
        exact ⟨_, rfl⟩
      · have p1 : 1 ≤ (xs.length : Int) - 1 := by omega
        have dl : ((dealtL (xs.sum + -1) ((xs.length : Int) - 1)).length : Int) = xs.length - 1 := by rw [dealtL_len p1]; omega
        rw [anewL_all bl.symm, bs]
        dsimp only
        refine ⟨Fr.keep_iff.mpr (dealtL_bd p1 ?_ z), by rw [dealtL_sum p1]; omega, ?_⟩
        · have le : r.lowK m (dealtL (xs.sum + -1) ((xs.length : Int) - 1)) ≤ r.lowK m xs := by
            rw [hL, if_neg y]
            unfold Fr.lowK
            rw [dl, half]
            by_cases u : (xs.length : Int) - 1 = 1
            · rw [if_pos u]
              rw [hL, if_neg y] at lo1
              exact lo1
            · rw [if_neg u]
              by_cases q : r.least m > (m + 1) / 2
              · rw [if_pos ⟨by omega, q⟩, if_pos ⟨young, q⟩]
                exact Int.le_refl _
              · rw [if_neg fun v => q v.2, if_neg fun v => q v.2]
                exact Int.le_refl _
          have := Int.mul_le_mul_of_nonneg_left le (show 0 ≤ (xs.length : Int) - 1 by omega)
          have e1 : ((xs.length : Int) - 1) * r.lowK m xs = (xs.length : Int) * r.lowK m xs - r.lowK m xs := by rw [Int.sub_mul]; omega
          omega
        · unfold anewD
          rw [if_neg (by omega), if_pos (by omega)]
          exact .inr ⟨⟨_, rfl⟩, by simp; omega⟩
    · rw [if_neg z]
      have e0 : (xs.length : Int) - 0 = xs.length := by omega
      rw [e0, anewL_all bl.symm, bs]
      have dl : ((dealtL (xs.sum + -1) (xs.length : Int)).length : Int) = xs.length := by rw [dealtL_len n1]; omega
      dsimp only
      refine ⟨Fr.keep_iff.mpr (dealtL_bd n1 ?_ (by omega)), by rw [dealtL_sum n1]; omega, ?_⟩
      · rw [Fr.low_len (ys := xs) (by omega), hL]
        have e1 : ((xs.length : Int) - 1) * m = (xs.length : Int) * m - m := by rw [Int.sub_mul]; omega
        by_cases y : (xs.length : Int) = 1
        · rw [if_pos y, y]
          rw [y] at z
          omega
        · rw [if_neg y]
          have key : (xs.length : Int) * ((m + 1) / 2) ≤ ((xs.length : Int) - 1) * m + 1 := by
            have w5 : (xs.length : Int) ≤ 6 := by omega
            have n2 : 2 ≤ (xs.length : Int) := by omega
            generalize (xs.length : Int) = n at n2 w5
            obtain rfl | rfl | rfl | rfl | rfl : n = 2 ∨ n = 3 ∨ n = 4 ∨ n = 5 ∨ n = 6 := by omega
            all_goals omega
          by_cases q : r.least m > (m + 1) / 2
          · rw [if_pos ⟨young, q⟩]; omega
          · rw [if_neg fun v => q v.2]
            have := Int.mul_le_mul_of_nonneg_left (show r.least m ≤ (m + 1) / 2 by omega) (show 0 ≤ (xs.length : Int) by omega)
            omega
      · unfold anewD
        rw [if_neg (by omega), if_neg (by omega)]
        exact .inl ⟨rfl, by omega⟩
  · rename_i big
    have el := Fr.low_big (m := m) (xs := xs) o (by omega)
    rw [el] at hK
    rw [el] at xk1
    split
    · rename_i sm
      dsimp only
      refine ⟨Fr.keep_iff.mpr fun x h => ?_, by rw [bs]; omega, .inl ⟨rfl, bl⟩⟩
      rw [Fr.low_len bl, el]
      rcases mem_bump h with h | rfl
      · exact hK x h
      · omega
    · rename_i thin
      obtain ⟨g1, g2, g3, g4⟩ := groupS_bd (k := k) (n := xs.length) (c := r.j) hlt (by omega) (by omega)
      obtain ⟨t1, t2, t3, t4⟩ := grp_bd (d := -1) hlt g1 g3 g4 g2 hK
      generalize hs : groupS k r.j = s at g1 g2 g3 g4 t1 t2 t3 t4 ⊢
      have xk : xs.getD k 0 = r.least m := by omega
      rw [xk] at t1 t2
      have e1 : (r.j - 1) * r.least m + r.least m = r.j * r.least m := by rw [Int.sub_mul]; omega
      have e2 : (r.j - 1) * m + m = r.j * m := by rw [Int.sub_mul]; omega
      obtain ⟨p, hp, p1, q1, q2, dd⟩ : ∃ p : Int, p = r.j - (if (((bump xs k (-1)).take (s + r.j).toNat).drop s.toNat).sum < r.j * r.least m then 1 else 0) ∧ 1 ≤ p ∧ p * r.least m ≤ (((bump xs k (-1)).take (s + r.j).toNat).drop s.toNat).sum ∧ (((bump xs k (-1)).take (s + r.j).toNat).drop s.toNat).sum ≤ p * m ∧
          ((p = r.j - 1) ∨ p = r.j) := by
        by_cases z : (((bump xs k (-1)).take (s + r.j).toNat).drop s.toNat).sum < r.j * r.least m
        · refine ⟨r.j - 1, by rw [if_pos z], by omega, ?_, ?_, .inl rfl⟩ <;> omega
        · refine ⟨r.j, by rw [if_neg z]; omega, by omega, ?_, ?_, .inr rfl⟩ <;> omega
      rw [← hp]
      dsimp only
      have al := anewL_len (row := bump xs k (-1)) (s := s) (e := s + r.j) (p := p) g1 (by omega) (by rw [bl]; exact g2) p1
      rw [bl] at al
      refine ⟨Fr.keep_iff.mpr fun x h => ?_, ?_, ?_⟩
      · have le := Fr.low_le (r := r) (m := m) (xs := anewL (bump xs k (-1)) s (s + r.j) p) f1
        have : r.least m ≤ x ∧ x ≤ m := by
          rcases mem_anew h with h | h | h
          · exact hK x (t3 x h)
          · exact dealtL_bd p1 q1 q2 x h
          · exact hK x (t4 x h)
        omega
      · rw [anewL_sum g1 (by omega) p1, bs]; omega
      · unfold anewD
        rcases dd with rfl | rfl
        · rw [if_neg (by omega), if_pos (by omega)]
          exact .inr ⟨⟨_, rfl⟩, by simp; omega⟩
        · rw [if_neg (by omega), if_neg (by omega)]
          exact .inl ⟨rfl, by omega⟩
end Ev
namespace Ev
open PySem L2 PySem.Spec PyProof.Rows RZ
theorem rep_bd {n : Nat} {v : Int} : ∀ x ∈ List.replicate n v, v ≤ x ∧ x ≤ v := fun x h => by obtain ⟨_, rfl⟩ := List.mem_replicate.mp h; exact ⟨Int.le_refl _, Int.le_refl _⟩
theorem rep_getD {n : Nat} {v : Int} (h : 0 < n) : (List.replicate n v).getD 0 0 = v := by
  obtain ⟨k, rfl⟩ : ∃ k, n = k + 1 := ⟨n - 1, by omega⟩
  rfl
theorem group0 {c : Int} (h : 1 ≤ c) : groupS (0 : Nat) c = 0 := by unfold groupS; rw [if_neg (by omega)]
/-- a full row, an entry put to its start -/
theorem full_put {r : Fr} {m : Int} (o : r.ok) (hm : 2 ≤ m) (f1 : 1 ≤ r.least m) (f2 : r.least m ≤ m) {n : Nat} (hn : (n : Int) = r.wd + 1) :
    ((r.putR m (List.replicate n m) 0).1.length : Int) = r.wd + 2 ∧ (∀ x ∈ (r.putR m (List.replicate n m) 0).1, 1 ≤ x ∧ x ≤ m) ∧ ((r.c + 1) * r.least m > r.c * m + 1 → r.keepR m (r.putR m (List.replicate n m) 0).1 = false) := by
  obtain ⟨w1, w2, w3, w4⟩ := Fr.wd_bd o
  have c1 := o.c1; have c2 := o.c2
  have hl : (List.replicate n m).length = n := List.length_replicate
  have hlt : 0 < (List.replicate n m).length := by omega
  have ne : List.replicate n m ≠ [] := fun z => by rw [z] at hlt; exact absurd hlt (by decide)
  unfold Fr.putR
  rw [if_neg ne]
  have pf : pageFor (List.replicate n m) 0 = 0 := by unfold pageFor; rw [if_neg (by omega)]
  have bl := bump_len (List.replicate n m) 0 1
  have bk := bump_at (xs := List.replicate n m) (k := 0) (d := 1) hlt
  rw [rep_getD (by omega)] at bk
  rw [pf]
  dsimp only
  rw [bl, bk, hl, if_pos (by omega), if_neg (by omega), group0 c1]
  obtain ⟨t1, t2, t3, t4⟩ := grp_bd (d := 1) (s := 0) (c := r.c) hlt (by omega) (by omega) (by omega) (by rw [hl]; omega) (rep_bd (n := n) (v := m))
  rw [rep_getD (by omega)] at t1 t2
  have e2 : (r.c - 1) * m + m = r.c * m := by rw [Int.sub_mul]; omega
  have T : (((bump (List.replicate n m) 0 1).take (0 + r.c).toNat).drop (0 : Int).toNat).sum = r.c * m + 1 := by omega
  rw [T, if_pos (by omega)]
  have al := anewL_len (row := bump (List.replicate n m) 0 1) (s := 0) (e := 0 + r.c) (p := r.c + 1) (by omega) (by omega) (by rw [bl, hl]; omega) (by omega)
  rw [bl, hl] at al
  have cm : r.c * 2 ≤ r.c * m := Int.mul_le_mul_of_nonneg_left hm (by omega)
  have e4 : (r.c + 1) * m = r.c * m + m := by rw [Int.add_mul]; omega
  refine ⟨by dsimp only; omega, fun x h => ?_, fun bad => ?_⟩
  · dsimp only at h
    rcases mem_anew h with h | h | h
    · have := rep_bd x (t3 x h); omega
    · rw [T] at h
      exact dealtL_bd (by omega) (by omega) (by omega) x h
    · have := rep_bd x (t4 x h); omega
  · rw [Bool.eq_false_iff]
    intro k
    have := Fr.keep_iff.mp k ((r.c * m + 1) / (r.c + 1)) (by
      unfold anewL
      rw [T]
      exact List.mem_append_right _ (List.mem_append_left _ (dealtL_min (by omega))))
    rw [Fr.low_big o (by dsimp only; omega)] at this
    have := Int.mul_le_of_le_ediv (by omega : 0 < r.c + 1) this.1
    rw [Int.mul_comm] at this
    omega
/-- a thin row, its first entry taken -/
theorem thin_take {r : Fr} {m : Int} (o : r.ok) (hm : 2 ≤ m) (f1 : 1 ≤ r.least m) (f2 : r.least m ≤ m) {n : Nat} (hn : (n : Int) = r.wd + 2) :
    ((r.takeR m (List.replicate n (r.least m)) 0).1.length : Int) = r.wd + 1 ∧ (∀ x ∈ (r.takeR m (List.replicate n (r.least m)) 0).1, 1 ≤ x ∧ x ≤ 2 * m) ∧ (r.j * r.least m > (r.j - 1) * m + 1 → r.keepR m (r.takeR m (List.replicate n (r.least m)) 0).1 = false) := by
  obtain ⟨w1, w2, w3, w4⟩ := Fr.wd_bd o
  have c1 := o.j1; have c2 := o.j2
  have hl : (List.replicate n (r.least m)).length = n := List.length_replicate
  have hlt : 0 < (List.replicate n (r.least m)).length := by omega
  unfold Fr.takeR
  have pf : pageAt (List.replicate n (r.least m)) 0 = 0 := by
    obtain ⟨k, rfl⟩ : ∃ k, n = k + 1 := ⟨n - 1, by omega⟩
    rw [List.replicate_succ, pageAt, if_neg (by omega)]
  have bl := bump_len (List.replicate n (r.least m)) 0 (-1)
  have bk := bump_at (xs := List.replicate n (r.least m)) (k := 0) (d := -1) hlt
  rw [rep_getD (by omega)] at bk
  rw [pf]
  dsimp only
  rw [bl, bk, hl, if_neg (by omega), if_neg (by omega), group0 (by omega)]
  obtain ⟨t1, t2, t3, t4⟩ := grp_bd (d := -1) (s := 0) (c := r.j) hlt (by omega) (by omega) (by omega) (by rw [hl]; omega) (rep_bd (n := n) (v := r.least m))
  rw [rep_getD (by omega)] at t1 t2
  have e2 : (r.j - 1) * r.least m + r.least m = r.j * r.least m := by rw [Int.sub_mul]; omega
  have T : (((bump (List.replicate n (r.least m)) 0 (-1)).take (0 + r.j).toNat).drop (0 : Int).toNat).sum = r.j * r.least m - 1 := by omega
  rw [T, if_pos (by omega)]
  have al := anewL_len (row := bump (List.replicate n (r.least m)) 0 (-1)) (s := 0) (e := 0 + r.j) (p := r.j - 1) (by omega) (by omega) (by rw [bl, hl]; omega) (by omega)
  rw [bl, hl] at al
  refine ⟨by dsimp only; omega, fun x h => ?_, fun bad => ?_⟩
  · dsimp only at h
    rcases mem_anew h with h | h | h
    · have := rep_bd x (t3 x h); omega
    · rw [T] at h
      have jl : (r.j - 1) * 1 ≤ (r.j - 1) * r.least m := Int.mul_le_mul_of_nonneg_left f1 (by omega)
      have jm : (r.j - 1) * r.least m ≤ (r.j - 1) * m := Int.mul_le_mul_of_nonneg_left f2 (by omega)
      have jm2 : 1 * m ≤ (r.j - 1) * m := Int.mul_le_mul_of_nonneg_right (by omega) (by omega)
      have e5 : (r.j - 1) * (2 * m) = 2 * ((r.j - 1) * m) := by rw [Int.mul_left_comm]
      exact dealtL_bd (by omega) (by omega) (by omega) x h
    · have := rep_bd x (t4 x h); omega
  · rw [Bool.eq_false_iff]
    intro k
    obtain ⟨x, hx, gt⟩ := dealtL_max (t := r.j * r.least m - 1) (p := r.j - 1) (by omega) (hi := m) (by omega)
    have := Fr.keep_iff.mp k x (by
      unfold anewL
      rw [T]
      exact List.mem_append_right _ (List.mem_append_left _ hx))
    omega
/-- such rows keep the rule -/
theorem keep_rep {r : Fr} {m v : Int} {n : Nat} (f1 : 1 ≤ r.least m) (l1 : r.least m ≤ v) (l2 : v ≤ m) : r.keepR m (List.replicate n v) = true :=
  Fr.keep_iff.mpr fun x h => by obtain ⟨_, rfl⟩ := List.mem_replicate.mp h; have := Fr.low_le (xs := List.replicate n x) f1; omega
theorem keep_all {r : Fr} {m : Int} {xs : List Int} (f1 : 1 ≤ r.least m) (h : ∀ x ∈ xs, r.least m ≤ x ∧ x ≤ m) : r.keepR m xs = true :=
  Fr.keep_iff.mpr fun x hx => by have := Fr.low_le (xs := xs) f1; have := h x hx; omega
theorem ok_of_keep {r : Fr} {m : Int} {xs : List Int} (f1 : 1 ≤ r.least m) (m1 : 2 ≤ m) (m2 : m ≤ 10 ^ 12) (h : r.keepR m xs = true) (l : xs.length ≤ 2000) : okFills xs :=
  ⟨l, fun z hz => by have a := Fr.keep_iff.mp h z hz; have b := Fr.low_ge (xs := xs) f1 (by omega : 1 ≤ m); constructor <;> omega⟩
/-- the law's own word of it -/
def Fr.lowL (r : Fr) (m : Int) (xs : List Int) : Int := if (xs.length : Int) ≤ r.wd then (if (xs.length : Int) > 1 then (if (m + 1).fdiv 2 < r.least m then (m + 1).fdiv 2 else r.least m) else 1) else r.least m
def Fr.inL (r : Fr) (m : Int) (xs : List Int) (x : Int) : Bool := decide (r.lowL m xs ≤ x) && decide (x ≤ m)
theorem lowL_eq {r : Fr} {m : Int} {xs : List Int} (o : r.ok) (ne : xs ≠ []) : r.lowL m xs = r.lowK m xs := by
  obtain ⟨w1, w2, _, _⟩ := Fr.wd_bd o
  have := List.length_pos_iff.mpr ne
  unfold Fr.lowL Fr.lowK
  by_cases z : (xs.length : Int) = 1
  · rw [if_pos z, if_pos (by omega), if_neg (by omega)]
  · rw [if_neg z]
    by_cases y : (xs.length : Int) ≤ r.wd
    · rw [if_pos y, if_pos (by omega)]
      by_cases u : (m + 1).fdiv 2 < r.least m
      · rw [if_pos u, if_pos ⟨y, u⟩]
      · rw [if_neg u, if_neg fun q => u q.2]
    · rw [if_neg y, if_neg fun q => y q.1]
theorem keepL {r : Fr} {m : Int} {xs : List Int} (o : r.ok) (h : r.keepR m xs = true) : ∀ x ∈ xs, r.inL m xs x = true := by
  intro x hx
  have ne : xs ≠ [] := fun z => by subst z; cases hx
  have := Fr.keep_iff.mp h x hx
  unfold Fr.inL
  rw [lowL_eq o ne, decide_eq_true this.1, decide_eq_true this.2]
  rfl
end Ev
namespace Ev
open PySem L2 PySem.Spec PyProof.Rows RZ
def spLLeast : Sp := fun vs H Q _ => ∃ (l : Addr) (r : Fr) (m : Int), vs = [.ref l, .int m] ∧ H l = some (.tup (tupR r)) ∧ r.ok ∧ Q (.int (r.least m)) H
theorem right_fine {r : Fr} (o : r.ok) {m : Int} (l1 : 1 ≤ r.least m) : r.right m = true ↔ (r.c + 1) * r.least m ≤ r.c * m + 1 ∧ r.j * r.least m ≤ (r.j - 1) * m + 1 := by
  have c1 := o.c1; have c2 := o.c2; have j1 := o.j1; have j2 := o.j2
  unfold Fr.right Fr.many
  generalize r.least m = a at *
  rw [decide_eq_true l1, Bool.true_and, decide_eq_true_iff]
  generalize r.c = c at *
  generalize r.j = j at *
  obtain rfl | rfl | rfl | rfl | rfl : c = 1 ∨ c = 2 ∨ c = 3 ∨ c = 4 ∨ c = 5 := by omega
  all_goals (obtain rfl | rfl | rfl | rfl | rfl : j = 2 ∨ j = 3 ∨ j = 4 ∨ j = 5 ∨ j = 6 := by omega) <;> first | rw [if_pos (by decide)] | rw [if_neg (by decide)]
  all_goals constructor <;> intro h <;> omega
theorem fine_iff {r : Fr} (o : r.ok) {m : Int} : (¬ (r.c * m + 1).fdiv (r.c + 1) < r.least m ∧ (r.j * r.least m - 1 + r.j - 2).fdiv (r.j - 1) ≤ m) ↔ (r.c + 1) * r.least m ≤ r.c * m + 1 ∧ r.j * r.least m ≤ (r.j - 1) * m + 1 := by
  have := o.c1; have := o.j1
  rw [Int.fdiv_eq_ediv_of_nonneg _ (by omega), Int.fdiv_eq_ediv_of_nonneg _ (by omega)]
  have a1 := Int.le_ediv_iff_mul_le (a := r.least m) (b := r.c * m + 1) (c := r.c + 1) (by omega)
  have a2 : (r.j * r.least m - 1 + r.j - 2) / (r.j - 1) < m + 1 ↔ r.j * r.least m - 1 + r.j - 2 < (m + 1) * (r.j - 1) := Int.ediv_lt_iff_lt_mul (by omega)
  rw [Int.add_mul, Int.one_mul, Int.mul_comm m (r.j - 1)] at a2
  rw [Int.mul_comm (r.least m)] at a1
  omega
section
variable {P : Program} {w : World} {K : PySem.W.Frag} {mg : Str → Option Value} {base : Heap}
theorem scLLeast : FnScope ["_law_told", "_law_top"] ["_law_told", "_law_top"] (defScope sLLeast) := ⟨rfl, rfl, rfl, by decide +kernel, rfl, by decide +kernel, by decide +kernel⟩
theorem ok_lleast {f : Addr} {fd : FuncData} (F : Fun K "_law_least" "_law_least" sLLeast f fd) : FnOk P w K mg base CX0 1 f fd ["_law_told", "_law_top"] spLLeast := by
  refine F.ok scLLeast (fun vs H Q E h => ?_) (fun cdv A outer s H vs Q E hr h => ?_)
  · obtain ⟨l, r, m, rfl, _⟩ := h
    rfl
  · obtain ⟨l, r, m, rfl, hl, o, k⟩ := h
    have := o.q1; have := o.q2
    refine ⟨_, (pss_one (ps_ret (pe_op op_fdivN (pe_op op_add (pe_op op_mul (pe_ix ix_tup (pv 0) pe_int (fun _ _ => rfl)) (pv 1)) (pe_ix ix_tup (pv 0) pe_int (fun _ _ => rfl))) (pe_ix ix_tup (pv 0) pe_int (fun _ _ => rfl))))), ?_⟩
    exact ⟨_, rfl, l, _, _, _, rfl, rfl, SqT.of hl, i5_0, _, rfl, _, _, rfl, rfl, .inl (mw (b := 12) (by have := o.p1; omega) o.p2 (by decide)), _, rfl, l, _, _, _, rfl, rfl, SqT.of hl, i5_2, _, _, rfl, rfl, _, rfl, l, _, _, _, rfl, rfl, SqT.of hl, i5_1, _, _, rfl, rfl, ⟨by omega, by omega⟩, k⟩
end
end Ev
namespace Ev
open PySem L2 PySem.Spec PyProof.Rows RZ
theorem cut_fromV {xs : List V} {j : Nat} (h : j ≤ xs.length) : cutV xs (some (j : Int)) none = xs.drop j := by
  unfold cutV
  rw [HT.sIx_none, HT.sIx_nat, Nat.min_eq_left h]
  rw [← List.length_drop]
  exact List.take_length
theorem catA {K : PySem.W.Frag} {a b : Addr} {xs ys : List V} {H : Hp} {Q : VK} (h1 : H a = some (.tup xs)) (h2 : H b = some (.tup ys)) (hl : xs.length + ys.length ≤ 1000) (k : ∀ (r : Addr) (H' : Hp), Same H H' → H' r = some (.tup (xs ++ ys)) → Q (.ref r) H') : rCatA K (.ref a) (.ref b) H Q := by
  refine ⟨a, b, xs, ys, rfl, rfl, SqT.of h1, SqT.of h2, Nat.le_trans hl (by decide), fun e => ?_, fun _ e => ?_, fun _ _ r nr => k r _ (same_new nr) upd_same⟩
  · subst e
    exact k b H (Same.refl H) h2
  · subst e
    exact k a H (Same.refl H) (by rw [List.append_nil]; exact h1)
theorem slA {K : PySem.W.Frag} {l : Addr} {xs : List V} {lo hi : Option Int} {H : Hp} {Q : VK} (h : H l = some (.tup xs)) (k : ∀ (a : Addr) (H' : Hp), Same H H' → H' a = some (.tup (cutV xs lo hi)) → Q (.ref a) H') : rSlA K (.ref l) lo hi H Q := by
  refine ⟨l, _, rfl, SqT.of h, fun z => k l H (Same.refl H) ?_, fun z a na => k a _ (same_new na) upd_same⟩
  unfold cutV
  rw [z.1, z.2]
  simpa using h
def spWorld : Sp := fun vs H Q _ => ∃ (p L : Addr) (b : Int), vs = [.ref p] ∧ b ≤ 900000 ∧ Pen L H p b ∧
  ∀ (a l : Addr) (r : Fr) (m : Int) (H' : Hp), r.ok → 2 ≤ m → m ≤ 10 ^ 9 + 1 → 1 ≤ r.least m → r.least m ≤ m → H' l = some (.tup (tupR r)) → H' a = some (.tup [.ref l, .int m]) → But p H H' → Pen L H' p (b + 20) → Q (.ref a) H'
section
variable {P : Program} {w : World} {K : PySem.W.Frag} {mg : Str → Option Value} {base : Heap}
theorem scLWorld : FnScope ["_law_pen_here", "_law_told", "_law_kind", "_law_top"] ["_law_pen_here"] (defScope sLWorld) := ⟨rfl, rfl, rfl, by decide +kernel, rfl, by decide +kernel, by decide +kernel⟩
theorem ok_lworld {f : Addr} {fd : FuncData} (F : Fun K "_law_world" "_law_world" sLWorld f fd) (D0 : Df P w K mg base 1 "_law_draw" ["_law_pen_here", "_law_many"] spDraw) (D1 : Df P w K mg base 1 "_law_least" ["_law_told", "_law_top"] spLLeast) (D2 : Df P w K mg base 2 "_law_numbers" ["_law_pen_here"] spLNums) : FnOk P w K mg base CX0 3 f fd ["_law_pen_here"] spWorld := by
  obtain ⟨f0, fd0, G0, g0, k0, b0⟩ := D0.ex
  obtain ⟨f1, fd1, G1, g1, k1, b1⟩ := D1.ex
  obtain ⟨f2, fd2, G2, g2, k2, b2⟩ := D2.ex
  refine F.ok scLWorld (fun vs H Q E h => ?_) (fun cdv A outer s H vs Q E hr h => ?_)
  · obtain ⟨p, L, b, rfl, _⟩ := h
    rfl
  · obtain ⟨p, L, b, rfl, hb, pn, kk⟩ := h
    have hr1 := hr.mono (show 1 ≤ 2 by decide)
    refine ⟨_, (pss_cons (ps_par (i := 1) (j := 2) (by rfl) scLWorld.nd rfl rfl (by decide) rfl rfl (pa_cons (pe_call G2 hr (by rfl) g2 k2 b2 .nil pass0 (pa_cons (pv 0) pa_nil)) (pa_cons (pe_call G0 hr1 (by rfl) g0 k0 b0 .nil pass0 (pa_cons (pv 0) (pa_cons pe_int pa_nil))) pa_nil)) (by rfl))
      (pss_cons (ps_set (i := 3) scLWorld.nd rfl (.inl rfl) (pe_op op_add pe_int (pe_call G0 hr1 (by rfl) g0 k0 b0 .nil pass0 (pa_cons (pv 0) (pa_cons (pe_ix ix_list (pe_lst (pa_cons pe_int (pa_cons pe_int (pa_cons pe_int (pa_cons (pe_op op_pow pe_int pe_int) pa_nil))))) (pv 2) (fun _ _ => rfl)) pa_nil)))))
      (pss_one (ps_ret (pe_tup (pa_cons (pe_ifExp (pt_chain op_le op_le pe_int (pe_call G1 hr1 (by rfl) g1 k1 b1 .nil pass0 (pa_cons (pv 1) (pa_cons (pv 3) pa_nil))) (pv 3)) (pv 1) (pe_op op_catA (pe_tup (pa_cons pe_int (pa_cons pe_int (pa_cons pe_int pa_nil)))) (pe_slice sl_tupA (pv 1) (po_some pe_int) po_none))) (pa_cons (pv 3) pa_nil))))))), ?_⟩
    refine ⟨_, rfl, p, L, _, rfl, by omega, pn, fun l r H1 o nl hl bt pn1 => ?_⟩
    refine ⟨_, rfl, p, L, _, _, rfl, by decide, by decide, by omega, pn1, fun d H2 bt2 pn2 d1 d2 => ⟨_, _, rfl, ?_⟩⟩
    refine ⟨_, rfl, _, _, rfl, rfl, ⟨by decide, by decide, by decide⟩, (by show 4 ≤ sizeLine; decide), fun z nz => ?_⟩
    have f1 : upd H2 z (.lst [.int 8, .int 8, .int 30, .int (10 ^ Int.toNat 9)]) z = some (.lst [.int 8, .int 8, .int 30, .int (10 ^ Int.toNat 9)]) := upd_same
    have g1 : Same H2 (upd H2 z (.lst [.int 8, .int 8, .int 30, .int (10 ^ Int.toNat 9)])) := same_new nz
    dsimp only
    generalize upd H2 z (.lst [.int 8, .int 8, .int 30, .int (10 ^ Int.toNat 9)]) = H3 at f1 g1 ⊢
    have e9 : (10 : Int) ^ Int.toNat 9 = 1000000000 := by decide
    have e9' : (10 : Int) ^ 9 = 1000000000 := by decide
    obtain ⟨t, ht, t1, t2⟩ : ∃ t : Int, atI [V.int 8, .int 8, .int 30, .int (10 ^ Int.toNat 9)] d = some (.int t) ∧ 1 ≤ t ∧ t ≤ 1000000000 := by
      rcases (show d = 0 ∨ d = 1 ∨ d = 2 ∨ d = 3 by omega) with rfl | rfl | rfl | rfl
      · exact ⟨_, atI_nat (j := 0) rfl, by decide, by decide⟩
      · exact ⟨_, atI_nat (j := 1) rfl, by decide, by decide⟩
      · exact ⟨_, atI_nat (j := 2) rfl, by decide, by decide⟩
      · exact ⟨_, atI_nat (j := 3) rfl, by rw [e9]; decide, by rw [e9]; decide⟩
    have hl3 : H3 l = some (.tup (tupR r)) := g1 _ _ (But.tup hl pn1 bt2)
    have pn3 := pn2.keep g1
    refine ⟨_, rfl, z, _, _, _, rfl, rfl, SqL.of f1, ht, p, L, _, _, rfl, t1, by omega, by omega, pn3, fun d' H4 bt4 pn4 e1 e2 => ⟨_, _, rfl, rfl, ?_⟩⟩
    have hl4 := But.tup hl3 pn3 bt4
    have bb : But p H H4 := bt.trans (bt2.trans ((Same.but g1).trans bt4))
    refine ⟨_, rfl, _, rfl, l, r, _, rfl, hl4, o, _, _, rfl, rfl, _, rfl, ?_⟩
    have other : ¬ (1 ≤ r.least (2 + d') ∧ r.least (2 + d') ≤ 2 + d') → tOp (rCatA K) (tTup (tCons (tC (.int 1)) (tCons (tC (.int 2)) (tCons (tC (.int 0)) tNil)))) (tSl (rSlA K) (tVar 1) (tPart (tC (.int 3))) tNoPart) [some (.ref p), some (.ref l), some (.int d), some (.int (2 + d'))] H4 (fun x H5 => tCons (tVar 3) tNil [some (.ref p), some (.ref l), some (.int d), some (.int (2 + d'))] H5 fun xs H6 => (x :: xs).length ≤ sizeLine ∧ ∀ a, H6 a = none → Q (.ref a) (upd H6 a (.tup (x :: xs)))) := by
      intro _
      refine ⟨(by show 3 ≤ sizeLine; decide), fun u nu => ?_⟩
      have su : Same H4 (upd H4 u (.tup [.int 1, .int 2, .int 0])) := same_new nu
      have hu : upd H4 u (.tup [.int 1, .int 2, .int 0]) u = some (.tup [.int 1, .int 2, .int 0]) := upd_same
      generalize upd H4 u (.tup [.int 1, .int 2, .int 0]) = H5 at su hu ⊢
      refine ⟨_, rfl, _, rfl, ?_⟩
      unfold L2.tNoPart
      refine slA (su _ _ hl4) fun v H6 s6 h6 => ?_
      have hc : cutV (tupR r) (some 3) none = [.int r.c, .int r.j] := cut_fromV (xs := tupR r) (j := 3) (by show 3 ≤ 5; decide)
      rw [hc] at h6
      refine catA (s6 _ _ hu) h6 (by show 3 + 2 ≤ 1000; decide) fun x H7 s7 h7 => ?_
      have s47 := su.trans (s6.trans s7)
      refine ⟨_, rfl, (by show 2 ≤ sizeLine; decide), fun a na => ?_⟩
      have o2 : (Fr.mk 1 2 0 r.c r.j).ok := ⟨(by decide : (1 : Int) ≤ 1), (by decide : (1 : Int) ≤ 12), (by decide : (1 : Int) ≤ 2), (by decide : (2 : Int) ≤ 12), (by decide : (-12 : Int) ≤ 0), (by decide : (0 : Int) ≤ 12), o.c1, o.c2, o.j1, o.j2⟩
      have el : (Fr.mk 1 2 0 r.c r.j).least (2 + d') = (2 + d') / 2 := by
        show (1 * (2 + d') + 0).fdiv 2 = _
        rw [Int.fdiv_eq_ediv_of_nonneg _ (by decide)]
        congr 1
        omega
      exact kk a x ⟨1, 2, 0, r.c, r.j⟩ (2 + d') _ o2 (by omega) (by omega) (by rw [el]; omega) (by rw [el]; omega) (same_new na _ _ h7) upd_same (bb.trans (Same.but (s47.trans (same_new na)))) ((pn4.keep (s47.trans (same_new na))).mono (by omega))
    by_cases q1 : 1 ≤ r.least (2 + d')
    · rw [decide_eq_true q1]
      refine iteT ⟨_, rfl, _, _, rfl, rfl, _, rfl, ?_⟩
      by_cases q2 : r.least (2 + d') ≤ 2 + d'
      · rw [decide_eq_true q2]
        refine iteT ⟨_, rfl, _, rfl, (by show 2 ≤ sizeLine; decide), fun a na => ?_⟩
        exact kk a l r (2 + d') _ o (by omega) (by omega) q1 q2 (same_new na _ _ hl4) upd_same (bb.trans (Same.but (same_new na))) ((pn4.keep (same_new na)).mono (by omega))
      · rw [decide_eq_false q2]
        exact iteF (other fun z => q2 z.2)
    · rw [decide_eq_false q1]
      exact iteF ⟨_, rfl, iteF (other fun z => q1 z.1)⟩
end
end Ev
namespace Ev
open PySem L2 PySem.Spec PyProof.Rows RZ
theorem wd_max (r : Fr) : (if r.j > r.c then r.j else r.c) = r.wd := by
  unfold Fr.wd
  split <;> split <;> omega
def spLKeeps : Sp := fun vs H Q _ => ∃ (l a : Addr) (r : Fr) (m : Int) (fs : List Int), vs = [.ref l, .int m, .ref a] ∧ H l = some (.tup (tupR r)) ∧ r.ok ∧ H a = some (.lst (fs.map V.int)) ∧ fs.length ≤ 900 ∧ r.keepR m fs = true ∧ ∀ H', Same H H' → Q (.bl true) H'
section
variable {P : Program} {w : World} {K : PySem.W.Frag} {mg : Str → Option Value} {base : Heap}
abbrev nLke : List Str := ["_law_told", "_law_top", "_law_fills_so", "_law_low", "_law_fill"]
theorem scLKeeps : FnScope nLke ["_law_told", "_law_top", "_law_fills_so"] (defScope sLKeeps) := ⟨rfl, rfl, rfl, by decide +kernel, rfl, by decide +kernel, by decide +kernel⟩
theorem ok_lkeeps {f : Addr} {fd : FuncData} (F : Fun K "_law_keeps" "_law_keeps" sLKeeps f fd) (T : Blt mg) (D0 : Df P w K mg base 1 "_law_least" ["_law_told", "_law_top"] spLLeast) : FnOk P w K mg base CX0 2 f fd ["_law_told", "_law_top", "_law_fills_so"] spLKeeps := by
  obtain ⟨f0, fd0, G0, g0, k0, b0⟩ := D0.ex
  refine F.ok scLKeeps (fun vs H Q E h => ?_) (fun cdv A outer s H vs Q E hr h => ?_)
  · obtain ⟨l, a, r, m, fs, rfl, _⟩ := h
    rfl
  · obtain ⟨l, a, r, m, fs, rfl, hl, o, ha, z2, hk, kk⟩ := h
    have kL := keepL o hk
    obtain ⟨tE, hE, qE⟩ : ∃ t : TS, PSs (cxOf CX0 P w K mg base nLke "_law_keeps" (defScope sLKeeps) f cdv A outer s H E).nox ((defBody sLKeeps).drop 2) t ∧
        t { nx := fun _ H' => Q .non H', rt := Q } [some (.ref l), some (.int m), some (.ref a), some (.int (r.lowL m fs)), none] H := by
      refine ⟨_, (pss_one (ps_ret (pe_cmpR (op_eqD (Room.units hr)) (pe_lc (own := [("_law_fill", 4)]) (g := gName 4) (by rfl) scLKeeps.nd (pi_list (pv 2)) (blkOk_by (own := [("_law_fill", 4)]) (N := nLke) (sc := defScope sLKeeps) (by decide +kernel)) (fun _ _ _ _ _ => pg_name (i := 4) scLKeeps.nd rfl (.inl rfl)) (fun _ _ _ _ _ => pts_one (pt_not (pt_chain op_le op_le (pv 3) (pv 4) (pv 1)))) (fun _ _ _ _ _ => (pv 4))) (pe_lst pa_nil) (nomark _)))), ?_⟩
      refine ⟨_, rfl, a, rfl, ⟨_, SqL.of ha⟩, fun D nD => lc_list (K := K) (a := a) (xs := fs.map V.int) (fun i H' => H' D = some (.lst []) ∧ Same H H') ⟨upd_same, same_new nD⟩ (fun i H' _ q => SqL.of (q.2 _ _ ha)) (fun i v H' hi h => ?_) (fun H' h => ?_)⟩
      · obtain ⟨hD, s1⟩ := h
        obtain ⟨x, hx, rfl⟩ := int_at hi
        have kx := kL x (List.mem_of_getElem? hx)
        unfold Fr.inL at kx
        rw [Bool.and_eq_true, decide_eq_true_iff, decide_eq_true_iff] at kx
        refine ⟨rfl, _, rfl, _, rfl, _, _, rfl, rfl, _, rfl, ?_⟩
        rw [decide_eq_true kx.1]
        refine iteT ⟨_, rfl, _, _, rfl, rfl, _, rfl, ?_⟩
        rw [decide_eq_true kx.2]
        exact iteF ⟨hD, s1⟩
      · obtain ⟨hD, s1⟩ := h
        refine ⟨(by show 0 ≤ sizeLine; decide), fun q nq => ?_⟩
        have sq : Same H' (upd H' q (.lst [])) := same_new nq
        refine ⟨.list [], .list [], .lst (SqL.of (sq _ _ hD)) .nil, .lst (SqL.of upd_same) .nil, sh_ints [], sh_ints [], ?_⟩
        rw [show PyData.eqv (.list []) (.list []) = true from eqv_nil []]
        exact kk _ (s1.trans sq)
    refine ⟨_, (pss_cons (ps_set (i := 3) scLKeeps.nd rfl (by first | exact .inl rfl | exact .inr rfl) (pe_call G0 hr (by rfl) g0 k0 b0 .nil pass0 (pa_cons (pv 0) (pa_cons (pv 1) pa_nil))))
    (pss_cons (ps_if (pt_cmpR op_le (pe_callB call_len_seq (by rfl) T.len PySem.boot_len (pa_cons (pv 2) pa_nil)) (pe_callB (call_max2 rfl) (by rfl) T.max (by decide +kernel) (pa_cons (pe_callTy call_int1 (by rfl) T.int (by decide +kernel) (pa_cons (pe_ix ix_tup (pv 0) pe_int (fun _ _ => rfl)) pa_nil)) (pa_cons (pe_callTy call_int1 (by rfl) T.int (by decide +kernel) (pa_cons (pe_ix ix_tup (pv 0) pe_int (fun _ _ => rfl)) pa_nil)) pa_nil))) (nomark _))
      (pss_one (ps_set (i := 3) scLKeeps.nd rfl (by first | exact .inl rfl | exact .inr rfl) (pe_ifExp (pt_cmpR op_gt (pe_callB call_len_seq (by rfl) T.len PySem.boot_len (pa_cons (pv 2) pa_nil)) pe_int (nomark _)) (pe_callB (call_min2 rfl) (by rfl) T.min (by decide +kernel) (pa_cons (pe_callTy call_int1 (by rfl) T.int (by decide +kernel) (pa_cons (pv 3) pa_nil)) (pa_cons (pe_op op_fdivN (pe_op op_add (pv 1) pe_int) pe_int) pa_nil))) pe_int))) pss_nil)
    hE)), ?_⟩
    refine ⟨_, rfl, _, rfl, l, r, m, rfl, hl, o, ?_⟩
    refine ⟨_, rfl, a, _, rfl, .inl (SqL.of ha), ?_⟩
    rw [List.length_map]
    refine ⟨_, rfl, l, _, _, _, rfl, rfl, SqT.of hl, i5_3, .inl ⟨_, rfl, _, rfl, l, _, _, _, rfl, rfl, SqT.of hl, i5_4, .inl ⟨_, rfl, _, _, rfl, ?_⟩⟩⟩
    rw [wd_max]
    refine ⟨_, _, rfl, rfl, _, rfl, ?_⟩
    unfold Fr.lowL at qE
    by_cases y : (fs.length : Int) ≤ r.wd
    · rw [decide_eq_true y]
      rw [if_pos y] at qE
      refine iteT ⟨_, rfl, a, _, rfl, .inl (SqL.of ha), _, _, rfl, rfl, _, rfl, ?_⟩
      rw [List.length_map]
      by_cases u : (fs.length : Int) > 1
      · rw [decide_eq_true u]
        rw [if_pos u] at qE
        refine iteT ⟨_, rfl, .inl ⟨_, rfl, _, rfl, _, _, rfl, rfl, _, _, rfl, rfl, ⟨by omega, by omega⟩, _, _, rfl, ?_⟩⟩
        exact qE
      · rw [decide_eq_false u]
        rw [if_neg u] at qE
        exact iteF qE
    · rw [decide_eq_false y]
      rw [if_neg y] at qE
      exact iteF qE
end
end Ev
namespace Ev
open PySem L2 PySem.Spec PyProof.Rows RZ
def spLDealt : Sp := fun vs H Q _ => ∃ t p : Int, vs = [.int t, .int p] ∧ 0 ≤ p ∧ p ≤ 12 ∧ (p = 0 → t = 0) ∧ ∀ q H', Same H H' → H' q = some (.lst ((dealtL t p).map V.int)) → Q (.ref q) H'
def spLPage : Sp := fun vs H Q _ => ∃ (l : Addr) (i : Int) (xs : List Int), vs = [.ref l, .int i] ∧ H l = some (.lst (xs.map V.int)) ∧ xs ≠ [] ∧ xs.length ≤ 900 ∧ i < xs.sum ∧ (∀ x ∈ xs, 0 ≤ x) ∧ Q (.int (pageAt xs i : Nat)) H
def spLGroup : Sp := fun vs H Q _ => ∃ (l : V) (at' many : Int), vs = [l, .int at', .int many] ∧ ∀ t H', Same H H' → H' t = some (.tup [.int (groupS at' many), .int (groupS at' many + many)]) → Q (.ref t) H'
theorem dealt_at (t : Int) {p : Int} (hp : 1 ≤ p) {i : Nat} (hi : i < p.toNat) : ((dealtL t p).map V.int).take i ++ [.int (t / p + (if decide ((i : Int) < t - p * (t / p)) then 1 else 0))] = ((dealtL t p).map V.int).take (i + 1) := by
  have h1 := Int.emod_nonneg t (by omega : p ≠ 0)
  have h2 := Int.emod_lt_of_pos t (by omega : 0 < p)
  have e : t - p * (t / p) = t % p := by have := Int.emod_def t p; omega
  have hl : i < ((dealtL t p).map V.int).length := by rw [List.length_map, dealtL_len hp]; exact hi
  rw [List.take_succ_eq_append_getElem hl]
  congr 1
  rw [List.getElem_map]
  congr 2
  rw [e]
  unfold dealtL
  by_cases z : (i : Int) < t % p
  · rw [if_pos (decide_eq_true z), List.getElem_append_left (by rw [List.length_replicate]; omega), List.getElem_replicate]
  · rw [if_neg (by simpa using z), List.getElem_append_right (by rw [List.length_replicate]; omega), List.getElem_replicate, Int.add_zero]
section
variable {P : Program} {w : World} {K : PySem.W.Frag} {mg : Str → Option Value} {base : Heap}
theorem scLDealt : FnScope ["_law_total", "_law_pages", "_law_at"] ["_law_total", "_law_pages"] (defScope sLDealt) := ⟨rfl, rfl, rfl, by decide +kernel, rfl, by decide +kernel, by decide +kernel⟩
theorem ok_ldealt {f : Addr} {fd : FuncData} (F : Fun K "_law_dealt" "_law_dealt" sLDealt f fd) (T : Blt mg) : FnOk P w K mg base CX0 1 f fd ["_law_total", "_law_pages"] spLDealt := by
  refine F.ok scLDealt (fun vs H Q E h => ?_) (fun cdv A outer s H vs Q E hr h => ?_)
  · obtain ⟨t, p, rfl, _⟩ := h
    rfl
  · obtain ⟨t, p, rfl, p0, p2, pz, kk⟩ := h
    refine ⟨_, (pss_cons (ps_if (pt_cmpR op_eq (pv 1) pe_int (nomark _))
      (pss_one (ps_ret (pe_lst pa_nil))) pss_nil)
    (pss_one (ps_ret (pe_lc (own := [("_law_at", 2)]) (g := gName 2) (by rfl) scLDealt.nd (pi_range1 (by rfl) T.range (pa_cons (pv 1) pa_nil)) (blkOk_by (own := [("_law_at", 2)]) (N := ["_law_total", "_law_pages", "_law_at"]) (sc := defScope sLDealt) (by decide +kernel)) (fun _ _ _ _ _ => pg_name (i := 2) scLDealt.nd rfl (.inl rfl)) (fun _ _ _ _ _ => pts_nil) (fun _ _ _ _ _ => (pe_op op_add (pe_op op_fdivW (pv 0) (pv 1)) (pe_callTy call_int1 (by rfl) T.int (by decide +kernel) (pa_cons (pe_cmpR op_lt (pv 2) (pe_op op_sub (pv 0) (pe_op op_mul (pv 1) (pe_op op_fdivW (pv 0) (pv 1)))) (nomark _)) pa_nil)))))))), ?_⟩
    refine ⟨_, rfl, rfl, _, rfl, ?_⟩
    by_cases z : p = 0
    · have et := pz z
      subst z et
      refine iteT ⟨(by show 0 ≤ sizeLine; decide), fun q nq => kk q _ (same_new nq) ?_⟩
      rw [upd_same, dealtL_zero]
      rfl
    have p1 : 1 ≤ p := by omega
    rw [show decide (V.int p = V.int 0) = false from decide_eq_false fun z' => z (V.int.inj z')]
    have dp : CDivW t p := divW (by omega) (by omega)
    refine iteF ⟨_, rfl, p, rfl, by omega, by omega, fun D nD => lc_range (lo := 0) (n := p.toNat) (fun i H' => H' D = some (.lst (((dealtL t p).map V.int).take i)) ∧ Same H H') ⟨by rw [List.take_zero]; exact upd_same, same_new nD⟩ (fun i H' hi h => ?_) (fun H' h => ?_)⟩
    · obtain ⟨hD, s1⟩ := h
      have e0 : (0 : Int) + (i : Int) = (i : Int) := by omega
      refine ⟨rfl, ?_⟩
      unfold tYes
      refine iteT ?_
      refine ⟨_, rfl, _, rfl, _, _, rfl, rfl, dp, _, rfl, _, rfl, _, rfl, _, rfl, _, rfl, _, _, rfl, rfl, dp, _, _, rfl, rfl, .inl (mw (b := 12) (by omega) (by omega) (by decide)), _, _, rfl, rfl, _, _, rfl, rfl, .inr ⟨_, rfl, _, _, rfl, rfl, ?_⟩⟩
      refine ⟨_, hD, ?_, ?_, fun b u q => by rw [upd_ne (ne_of_none q nD)]; exact s1 _ _ q⟩
      · rw [List.length_take]
        exact Nat.lt_of_le_of_lt (show _ ≤ 12 by omega) (by decide)
      · rw [upd_same, ← dealt_at t p1 hi, e0]
    · obtain ⟨hD, s1⟩ := h
      refine kk D H' s1 ?_
      rw [hD, List.take_of_length_le (by rw [List.length_map, dealtL_len p1]; exact Nat.le_refl _)]
theorem scLPage : FnScope ["_law_fills_so", "_law_index_so", "_law_left", "_law_page_here"] ["_law_fills_so", "_law_index_so"] (defScope sLPage) := ⟨rfl, rfl, rfl, by decide +kernel, rfl, by decide +kernel, by decide +kernel⟩
theorem ok_lpage {f : Addr} {fd : FuncData} (F : Fun K "_law_page" "_law_page" sLPage f fd) (T : Blt mg) : FnOk P w K mg base CX0 1 f fd ["_law_fills_so", "_law_index_so"] spLPage := by
  refine F.ok scLPage (fun vs H Q E h => ?_) (fun cdv A outer s H vs Q E hr h => ?_)
  · obtain ⟨l, i, xs, rfl, _⟩ := h
    rfl
  · obtain ⟨l, i, xs, rfl, hl, ne, hz, hi, pos, kk⟩ := h
    refine ⟨_, (pss_cons (ps_set (i := 2) scLPage.nd rfl (.inl rfl) (pv 1))
    (pss_cons (ps_for PassesOwn.never rfl (pi_range1 (by rfl) T.range (pa_cons (pe_callB call_len_seq (by rfl) T.len PySem.boot_len (pa_cons (pv 0) pa_nil)) pa_nil)) (pg_name (i := 3) scLPage.nd rfl (.inl rfl))
      (pss_cons (ps_if (pt_cmpR op_lt (pv 2) (pe_ix ix_list (pv 0) (pv 3) (fun _ _ => rfl)) (nomark _))
        (pss_one (ps_ret (pv 3))) pss_nil)
      (pss_one (ps_set (i := 2) scLPage.nd rfl (.inl rfl) (pe_op op_sub (pv 2) (pe_ix ix_list (pv 0) (pv 3) (fun _ _ => rfl)))))))
    (pss_one (ps_ret (pe_op op_sub (pe_callB call_len_seq (by rfl) T.len PySem.boot_len (pa_cons (pv 0) pa_nil)) pe_int))))), ?_⟩
    have n0 := List.length_pos_iff.mpr ne
    refine ⟨_, rfl, _, rfl, l, _, rfl, .inl (SqL.of hl), xs.length, by rw [List.length_map], by omega, by omega, for_range (n := xs.length) (fun k σ H2 => H2 = H ∧ ∃ (left : Int) (v3 : Option V), σ = [some (.ref l), some (.int i), some (.int left), v3] ∧ pageAt xs i = k + pageAt (xs.drop k) left ∧ left < (xs.drop k).sum ∧ (0 < k → 0 ≤ left)) ⟨rfl, i, none, rfl, by rw [List.drop_zero]; omega, by rw [List.drop_zero]; exact hi, fun h => absurd h (by decide)⟩ (fun k σ H2 hk h => ?_) (fun σ H2 h => ?_)⟩
    · obtain ⟨rfl, left, v3, rfl, e1, e2, e3⟩ := h
      have hx : xs[k]? = some (xs[k]'hk) := List.getElem?_eq_getElem hk
      have dc : xs.drop k = xs[k] :: xs.drop (k + 1) := List.drop_eq_getElem_cons hk
      have e0 : (0 : Int) + (k : Int) = (k : Int) := by omega
      have ea : atI (xs.map V.int) (0 + (k : Int)) = some (.int (xs[k]'hk)) := by rw [e0]; exact atI_nat (j := k) (by rw [List.getElem?_map, hx]; rfl)
      rw [dc] at e1 e2
      rw [pageAt] at e1
      rw [List.sum_cons] at e2
      have px := pos _ (List.getElem_mem hk)
      refine ⟨_, rfl, _, rfl, _, rfl, l, _, _, _, rfl, rfl, SqL.of hl, ea, _, _, rfl, rfl, _, rfl, ?_⟩
      by_cases z : left < xs[k]
      · rw [decide_eq_true z]
        rw [if_neg (by omega), Nat.add_zero] at e1
        rw [e1, ← e0] at kk
        exact iteT ⟨_, rfl, kk⟩
      · rw [decide_eq_false z]
        rw [if_pos (by omega)] at e1
        exact iteF ⟨_, rfl, _, rfl, _, rfl, l, _, _, _, rfl, rfl, SqL.of hl, ea, _, _, rfl, rfl, rfl, _, _, rfl, by omega, by omega, fun _ => by omega⟩
    · obtain ⟨rfl, left, v3, rfl, e1, e2, e3⟩ := h
      rw [List.drop_length] at e2
      have := e3 n0
      simp at e2
      omega
theorem scLGrouped : FnScope ["_law_fills_so", "_law_page_here", "_law_many", "_law_begin"] ["_law_fills_so", "_law_page_here", "_law_many"] (defScope sLGrouped) := ⟨rfl, rfl, rfl, by decide +kernel, rfl, by decide +kernel, by decide +kernel⟩
theorem ok_lgroup {f : Addr} {fd : FuncData} (F : Fun K "_law_grouped" "_law_grouped" sLGrouped f fd) : FnOk P w K mg base CX0 1 f fd ["_law_fills_so", "_law_page_here", "_law_many"] spLGroup := by
  refine F.ok scLGrouped (fun vs H Q E h => ?_) (fun cdv A outer s H vs Q E hr h => ?_)
  · obtain ⟨l, a, m, rfl, _⟩ := h
    rfl
  · obtain ⟨l, a, m, rfl, kk⟩ := h
    refine ⟨_, (pss_cons (ps_set (i := 3) scLGrouped.nd rfl (.inl rfl) (pe_ifExp (pt_cmpR op_ge (pv 1) (pv 2) (nomark _)) (pe_op op_add (pe_op op_sub (pv 1) (pv 2)) pe_int) pe_int))
    (pss_one (ps_ret (pe_tup (pa_cons (pv 3) (pa_cons (pe_op op_add (pv 3) (pv 2)) pa_nil)))))), ?_⟩
    unfold groupS at kk
    refine ⟨_, rfl, _, rfl, _, _, rfl, rfl, _, rfl, ite2 (fun e => ?_) (fun e => ?_)⟩
    · have e : a ≥ m := of_decide_eq_true e
      rw [if_pos e] at kk
      exact ⟨_, rfl, _, rfl, _, _, rfl, rfl, _, _, rfl, rfl, _, rfl, _, rfl, _, rfl, _, _, rfl, rfl, (by show 2 ≤ sizeLine; decide), fun t nt => kk t _ (same_new nt) upd_same⟩
    · have e : ¬ a ≥ m := fun z => e (decide_eq_true z)
      rw [if_neg e] at kk
      exact ⟨_, rfl, _, rfl, _, rfl, _, _, rfl, rfl, (by show 2 ≤ sizeLine; decide), fun t nt => kk t _ (same_new nt) upd_same⟩
end
end Ev
namespace Ev
open PySem L2 PySem.Spec PyProof.Rows RZ
/-- xs + ys, of lists -/
theorem catL {a b : Addr} {xs ys : List V} {H : Hp} {Q : VK} (h1 : H a = some (.lst xs)) (h2 : H b = some (.lst ys)) (hl : xs.length + ys.length ≤ 1000) (k : ∀ (r : Addr) (H' : Hp), Same H H' → H' r = some (.lst (xs ++ ys)) → Q (.ref r) H') : rCat (.ref a) (.ref b) H Q :=
  ⟨a, b, xs, ys, rfl, rfl, h1, h2, Nat.le_trans hl (by decide), fun p np => k p _ (same_new np) upd_same⟩
/-- xs[lo:hi] of a list -/
theorem slL {K : PySem.W.Frag} {l : Addr} {xs : List V} {lo hi : Option Int} {H : Hp} {Q : VK} (h : H l = some (.lst xs)) (k : ∀ (a : Addr) (H' : Hp), Same H H' → H' a = some (.lst (cutV xs lo hi)) → Q (.ref a) H') : rSlL K (.ref l) lo hi H Q :=
  ⟨l, xs, rfl, SqL.of h, fun p np => k p _ (same_new np) upd_same⟩
theorem bump_eq {xs : List Int} {k : Nat} {d : Int} (h : k < xs.length) : bump xs k d = xs.take k ++ (xs.getD k 0 + d) :: xs.drop (k + 1) := by
  unfold bump
  rw [List.set_eq_take_append_cons_drop, if_pos h]
theorem pageFor_at {xs : List Int} {a : Int} (h0 : 0 ≤ a) (pos : ∀ x ∈ xs, 0 ≤ x) : pageAt xs (a - 1) = pageFor xs a := by
  unfold pageFor
  split
  · rfl
  · cases xs with
    | nil => rfl
    | cons x r =>
      have := pos x (List.mem_cons_self ..)
      rw [pageAt, if_neg (by omega)]
theorem put_young {r : Fr} {m a : Int} {xs : List Int} (o : r.ok) (h : (xs.length : Int) ≤ r.wd) (ha : a ≤ xs.sum) (pos : ∀ x ∈ xs, 0 ≤ x) : r.putR m xs a = if xs.sum + 1 ≤ (xs.length : Int) * m then (dealtL (xs.sum + 1) xs.length, none) else (dealtL (xs.sum + 1) ((xs.length : Int) + 1), some (true, (xs.length : Int))) := by
  unfold Fr.putR
  by_cases e : xs = []
  · rw [if_pos e]
    subst e
    rw [if_neg (by simp)]
    rfl
  · rw [if_neg e]
    have n1 := List.length_pos_iff.mpr e
    have hlt := pageFor_lt ha e pos
    have bl := bump_len xs (pageFor xs a) 1
    have bs := bump_sum (xs := xs) (k := pageFor xs a) (d := 1) hlt
    dsimp only
    rw [bl, if_neg (by omega), bs]
    by_cases z : xs.sum + 1 ≤ (xs.length : Int) * m
    · rw [if_pos z, if_neg (by omega), anewL_all bl.symm, bs]
      unfold anewD
      rw [if_neg (by omega), if_neg (by omega)]
    · rw [if_neg z, if_pos (by omega), anewL_all bl.symm, bs]
      unfold anewD
      rw [if_pos (by omega)]
theorem put_big {r : Fr} {m a : Int} {xs : List Int} (o : r.ok) (h : r.wd < xs.length) (ha : a ≤ xs.sum) (pos : ∀ x ∈ xs, 0 ≤ x) : r.putR m xs a =
    (if xs.getD (pageFor xs a) 0 + 1 ≤ m then (bump xs (pageFor xs a) 1, none) else
      (anewL (bump xs (pageFor xs a) 1) (groupS (pageFor xs a) r.c) (groupS (pageFor xs a) r.c + r.c) (if (((bump xs (pageFor xs a) 1).take (groupS (pageFor xs a) r.c + r.c).toNat).drop (groupS (pageFor xs a) r.c).toNat).sum > r.c * m then r.c + 1 else r.c),
        if (((bump xs (pageFor xs a) 1).take (groupS (pageFor xs a) r.c + r.c).toNat).drop (groupS (pageFor xs a) r.c).toNat).sum > r.c * m then some (true, groupS (pageFor xs a) r.c + r.c) else none)) := by
  obtain ⟨w1, w2, w3, w4⟩ := Fr.wd_bd o
  have c1 := o.c1
  have e : xs ≠ [] := fun z => by subst z; simp at h; omega
  unfold Fr.putR
  rw [if_neg e]
  have hlt := pageFor_lt ha e pos
  have bl := bump_len xs (pageFor xs a) 1
  have bk := bump_at (xs := xs) (k := pageFor xs a) (d := 1) hlt
  dsimp only
  rw [bl, bk, if_pos h]
  by_cases z : xs.getD (pageFor xs a) 0 + 1 ≤ m
  · rw [if_pos z, if_pos z]
  · rw [if_neg z, if_neg z]
    congr 1
    unfold anewD
    by_cases y : (((bump xs (pageFor xs a) 1).take (groupS (pageFor xs a) r.c + r.c).toNat).drop (groupS (pageFor xs a) r.c).toNat).sum > r.c * m
    · rw [if_pos y, if_pos y, if_pos (by omega)]
    · rw [if_neg y, if_neg y, if_neg (by omega), if_neg (by omega)]
end Ev
namespace Ev
open PySem L2 PySem.Spec PyProof.Rows RZ
def spLPut : Sp := fun vs H Q _ => ∃ (l f : Addr) (r : Fr) (m a : Int) (xs : List Int), vs = [.ref l, .int m, .ref f, .int a] ∧ H l = some (.tup (tupR r)) ∧ r.ok ∧ H f = some (.lst (xs.map V.int)) ∧ xs.length ≤ 100 ∧ (∀ x ∈ xs, 0 ≤ x) ∧ 0 ≤ a ∧ a ≤ xs.sum ∧
  ∀ t q v H', Same H H' → H' t = some (.tup [.ref q, v]) → H' q = some (.lst ((r.putR m xs a).1.map V.int)) → DeedV H' v (r.putR m xs a).2 → Q (.ref t) H'
section
variable {P : Program} {w : World} {K : PySem.W.Frag} {mg : Str → Option Value} {base : Heap}
abbrev nLpu : List Str := ["_law_told", "_law_top", "_law_fills_so", "_law_ahead_so", "_law_many", "_law_wide", "_law_total", "_law_page_here", "_law_later", "_law_begin", "_law_end", "_law_extra", "_law_behind_so"]
theorem scLPut : FnScope nLpu ["_law_told", "_law_top", "_law_fills_so", "_law_ahead_so"] (defScope sLPut) := ⟨rfl, rfl, rfl, by decide +kernel, rfl, by decide +kernel, by decide +kernel⟩
theorem ok_lput {f : Addr} {fd : FuncData} (F : Fun K "_law_put" "_law_put" sLPut f fd) (T : Blt mg) (ms : mg "sum" = none) (D1 : Df P w K mg base 1 "_law_page" ["_law_fills_so", "_law_index_so"] spLPage) (D2 : Df P w K mg base 1 "_law_grouped" ["_law_fills_so", "_law_page_here", "_law_many"] spLGroup) (D3 : Df P w K mg base 1 "_law_dealt" ["_law_total", "_law_pages"] spLDealt) : FnOk P w K mg base CX0 2 f fd ["_law_told", "_law_top", "_law_fills_so", "_law_ahead_so"] spLPut := by
  obtain ⟨f1, fd1, G1, g1, k1, b1⟩ := D1.ex
  obtain ⟨f2, fd2, G2, g2, k2, b2⟩ := D2.ex
  obtain ⟨f3, fd3, G3, g3, k3, b3⟩ := D3.ex
  refine F.ok scLPut (fun vs H Q E h => ?_) (fun cdv A outer s H vs Q E hr h => ?_)
  · obtain ⟨l, f, r, m, a, xs, rfl, _⟩ := h
    rfl
  · obtain ⟨l, f, r, m, a, xs, rfl, hl, o, hf, hz, pos, a0, a1, kk⟩ := h
    obtain ⟨w1, w2, w3, w4⟩ := Fr.wd_bd o
    have c1 := o.c1; have c2 := o.c2
    have fl : (xs.map V.int).length = xs.length := List.length_map ..
    refine ⟨_, (pss_cons (ps_par (i := 4) (j := 5) (by rfl) scLPut.nd rfl rfl (by decide) rfl rfl (pa_cons (pe_callB call_len_seq (by rfl) T.len PySem.boot_len (pa_cons (pv 2) pa_nil)) (pa_cons (pe_callB (call_max2 rfl) (by rfl) T.max (by decide +kernel) (pa_cons (pe_callTy call_int1 (by rfl) T.int (by decide +kernel) (pa_cons (pe_ix ix_tup (pv 0) pe_int (fun _ _ => rfl)) pa_nil)) (pa_cons (pe_callTy call_int1 (by rfl) T.int (by decide +kernel) (pa_cons (pe_ix ix_tup (pv 0) pe_int (fun _ _ => rfl)) pa_nil)) pa_nil))) pa_nil)) (by rfl))
    (pss_cons (ps_if (pt_cmpR op_le (pv 4) (pv 5) (nomark _))
      (pss_cons (ps_set (i := 6) scLPut.nd rfl (.inl rfl) (pe_op op_add (pe_callB (cr_sum rfl) (by rfl) ms (by decide +kernel) (pa_cons (pv 2) pa_nil)) pe_int))
      (pss_cons (ps_if (pt_cmpR op_le (pv 6) (pe_op op_mul (pv 4) (pv 1)) (nomark _))
        (pss_one (ps_ret (pe_tup (pa_cons (pe_call G3 hr (by rfl) g3 k3 b3 .nil pass0 (pa_cons (pv 6) (pa_cons (pv 4) pa_nil))) (pa_cons pe_non pa_nil))))) pss_nil)
      (pss_one (ps_ret (pe_tup (pa_cons (pe_call G3 hr (by rfl) g3 k3 b3 .nil pass0 (pa_cons (pv 6) (pa_cons (pe_op op_add (pv 4) pe_int) pa_nil))) (pa_cons (pe_tup (pa_cons pe_str (pa_cons (pv 4) pa_nil))) pa_nil))))))) pss_nil)
    (pss_cons (ps_set (i := 7) scLPut.nd rfl (.inl rfl) (pe_call G1 hr (by rfl) g1 k1 b1 .nil pass0 (pa_cons (pv 2) (pa_cons (pe_op op_sub (pv 3) pe_int) pa_nil))))
    (pss_cons (ps_set (i := 8) scLPut.nd rfl (.inl rfl) (pe_op op_cat (pe_op op_cat (pe_slice sl_list (pv 2) po_none (po_some (pv 7))) (pe_lst (pa_cons (pe_op op_add (pe_ix ix_list (pv 2) (pv 7) (fun _ _ => rfl)) pe_int) pa_nil))) (pe_slice sl_list (pv 2) (po_some (pe_op op_add (pv 7) pe_int)) po_none)))
    (pss_cons (ps_if (pt_cmpR op_le (pe_ix ix_list (pv 8) (pv 7) (fun _ _ => rfl)) (pv 1) (nomark _))
      (pss_one (ps_ret (pe_tup (pa_cons (pv 8) (pa_cons pe_non pa_nil))))) pss_nil)
    (pss_cons (ps_asg (pe_call G2 hr (by rfl) g2 k2 b2 .nil pass0 (pa_cons (pv 2) (pa_cons (pv 7) (pa_cons (pe_ix ix_tup (pv 0) pe_int (fun _ _ => rfl)) pa_nil)))) (pg_tup (by rfl) (pgs_cons (pg_name (i := 9) scLPut.nd rfl (.inl rfl)) (pgs_cons (pg_name (i := 10) scLPut.nd rfl (.inl rfl)) pgs_nil))))
    (pss_cons (ps_set (i := 6) scLPut.nd rfl (.inl rfl) (pe_callB (cr_sum rfl) (by rfl) ms (by decide +kernel) (pa_cons (pe_slice sl_list (pv 8) (po_some (pv 9)) (po_some (pv 10))) pa_nil)))
    (pss_cons (ps_set (i := 11) scLPut.nd rfl (.inl rfl) (pe_callTy call_int1 (by rfl) T.int (by decide +kernel) (pa_cons (pe_cmpR op_gt (pv 6) (pe_op op_mul (pe_ix ix_tup (pv 0) pe_int (fun _ _ => rfl)) (pv 1)) (nomark _)) pa_nil)))
    (pss_cons (ps_set (i := 12) scLPut.nd rfl (.inl rfl) (pe_op op_cat (pe_op op_cat (pe_slice sl_list (pv 8) po_none (po_some (pv 9))) (pe_call G3 hr (by rfl) g3 k3 b3 .nil pass0 (pa_cons (pv 6) (pa_cons (pe_op op_add (pe_ix ix_tup (pv 0) pe_int (fun _ _ => rfl)) (pv 11)) pa_nil)))) (pe_slice sl_list (pv 8) (po_some (pv 10)) po_none)))
    (pss_one (ps_ret (pe_tup (pa_cons (pv 12) (pa_cons (pe_ifExp (pt_cmpR op_eq (pv 11) pe_int (nomark _)) (pe_tup (pa_cons pe_str (pa_cons (pv 10) pa_nil))) pe_non) pa_nil)))))))))))))), ?_⟩
    refine ⟨_, rfl, f, _, rfl, .inl (SqL.of hf), ?_⟩
    rw [fl]
    refine ⟨_, rfl, l, _, _, _, rfl, rfl, SqT.of hl, i5_3, .inl ⟨_, rfl, _, rfl, l, _, _, _, rfl, rfl, SqT.of hl, i5_4, .inl ⟨_, rfl, _, _, rfl, _, _, rfl, ?_⟩⟩⟩
    rw [wd_max]
    refine ⟨_, rfl, _, rfl, _, _, rfl, rfl, _, rfl, ?_⟩
    by_cases young : (xs.length : Int) ≤ r.wd
    · rw [decide_eq_true young]
      have pe := put_young (m := m) o young a1 pos
      refine iteT ⟨_, rfl, f, xs, rfl, SqL.of hf, _, _, rfl, rfl, ?_⟩
      refine ⟨_, rfl, _, rfl, _, rfl, _, _, rfl, rfl, .inl (mw (b := 12) (by omega) (by omega) (by decide)), _, _, rfl, rfl, _, rfl, ?_⟩
      by_cases z : xs.sum + 1 ≤ (xs.length : Int) * m
      · rw [if_pos z] at pe
        rw [pe] at kk
        rw [decide_eq_true z]
        refine iteT ⟨_, rfl, _, rfl, _, _, rfl, by omega, by omega, fun e => ?_, fun q H1 s1 hq => ⟨(by show 2 ≤ sizeLine; decide), fun t nt => ?_⟩⟩
        · have : xs = [] := List.eq_nil_of_length_eq_zero (by omega)
          subst this
          simp at z
        · exact kk t q .non _ (s1.trans (same_new nt)) upd_same (same_new nt _ _ hq) rfl
      · rw [if_neg z] at pe
        rw [pe] at kk
        rw [decide_eq_false z]
        refine iteF ⟨_, rfl, _, rfl, _, _, rfl, rfl, _, _, rfl, by omega, by omega, (fun e => by omega), fun q H1 s1 hq => ⟨_, rfl, (by show 2 ≤ sizeLine; decide), fun u nu => ⟨(by show 2 ≤ sizeLine; decide), fun t nt => ?_⟩⟩⟩
        exact kk t q (.ref u) _ (s1.trans ((same_new nu).trans (same_new nt))) upd_same (same_new nt _ _ (same_new nu _ _ hq)) ⟨u, rfl, same_new nt _ _ upd_same⟩
    · rw [decide_eq_false young]
      have pe := put_big (m := m) o (by omega) a1 pos
      have ne : xs ≠ [] := fun z => by subst z; simp at young; omega
      have hlt := pageFor_lt a1 ne pos
      refine iteF ⟨_, rfl, _, rfl, _, _, rfl, rfl, f, a - 1, xs, rfl, hf, ne, by omega, by omega, pos, ?_⟩
      rw [pageFor_at a0 pos]
      generalize pageFor xs a = k at pe hlt ⊢
      have be := bump_eq (d := 1) hlt
      have bl := bump_len xs k 1
      have bk := bump_at (xs := xs) (k := k) (d := 1) hlt
      refine ⟨_, rfl, _, rfl, _, rfl, slL hf fun a1' H1 s1 h1 => ?_⟩
      rw [cut_upto (by omega) (by omega), Int.toNat_natCast] at h1
      refine ⟨_, rfl, _, rfl, f, _, _, _, rfl, rfl, SqL.of (s1 _ _ hf), at_D hlt, _, _, rfl, rfl, (by show 1 ≤ sizeLine; decide), fun a2 n2 => ?_⟩
      have s2 := s1.trans (same_new (o := .lst [V.int (xs.getD k 0 + 1)]) n2)
      refine catL (same_new n2 _ _ h1) upd_same (by rw [List.length_map, List.length_take]; show _ + 1 ≤ 1000; omega) fun a3 H3 s3 h3 => ?_
      have s3 := s2.trans s3
      refine ⟨_, rfl, _, rfl, _, _, rfl, rfl, (k : Int) + 1, rfl, f, _, rfl, SqL.of (s3 _ _ hf), fun a4 n4 => ?_⟩
      rw [cut_from (by omega) (by omega), show ((k : Int) + 1).toNat = k + 1 by omega]
      have s4 := same_new (o := .lst ((xs.drop (k + 1)).map V.int)) n4
      have h4 : upd H3 a4 (.lst ((xs.drop (k + 1)).map V.int)) a4 = some (.lst ((xs.drop (k + 1)).map V.int)) := upd_same
      generalize upd H3 a4 (.lst ((xs.drop (k + 1)).map V.int)) = H4 at s4 h4 ⊢
      have h3 := s4 _ _ h3
      have s4 := s3.trans s4
      refine catL h3 h4 ?_ fun a5 H5 s5 h5 => ?_
      · rw [List.length_append, List.length_map, List.length_map, List.length_take, List.length_drop]
        show _ + 1 + _ ≤ 1000
        omega
      have s5 := s4.trans s5
      have e5 : (xs.take k).map V.int ++ [V.int (xs.getD k 0 + 1)] ++ (xs.drop (k + 1)).map V.int = (bump xs k 1).map V.int := by
        rw [be, List.map_append, List.map_cons, List.append_assoc]
        rfl
      rw [e5] at h5
      have hkb : k < (bump xs k 1).length := by omega
      refine ⟨_, rfl, _, rfl, a5, _, _, _, rfl, rfl, SqL.of h5, at_D hkb, _, rfl, _, _, rfl, rfl, _, rfl, ?_⟩
      rw [bk]
      by_cases full : xs.getD k 0 + 1 ≤ m
      · rw [decide_eq_true full]
        rw [if_pos full] at pe
        rw [pe] at kk
        refine iteT ⟨_, rfl, (by show 2 ≤ sizeLine; decide), fun t nt => ?_⟩
        exact kk t a5 .non _ (s5.trans (same_new nt)) upd_same (same_new nt _ _ h5) rfl
      rw [decide_eq_false full]
      rw [if_neg full] at pe
      refine iteF ⟨_, rfl, _, rfl, _, rfl, l, _, _, _, rfl, rfl, SqT.of (s5 _ _ hl), i5_3, .ref f, k, r.c, rfl, fun t H6 s6 ht => ?_⟩
      obtain ⟨g1', g2', g3', g4'⟩ := groupS_bd (k := k) (n := xs.length) (c := r.c) hlt c1 (by omega)
      generalize groupS k r.c = sp at pe ht g1' g2' g3' g4' ⊢
      have h5 := s6 _ _ h5
      have s6 := s5.trans s6
      refine ⟨t, _, rfl, SqT.of ht, rfl, _, _, rfl, _, _, rfl, rfl, ?_⟩
      refine ⟨_, rfl, _, rfl, _, rfl, _, rfl, _, rfl, slL h5 fun a7 H7 s7 h7 => ?_⟩
      rw [cut_mid g1' (by omega) (by rw [bl]; exact g2')] at h7
      have h5 := s7 _ _ h5
      have s7 := s6.trans s7
      refine ⟨a7, _, rfl, SqL.of h7, ?_⟩
      generalize hT : (((bump xs k 1).take (sp + r.c).toNat).drop sp.toNat).sum = T at pe ⊢
      refine ⟨_, rfl, _, rfl, l, _, _, _, rfl, rfl, SqT.of (s7 _ _ hl), i5_3, _, rfl, _, _, rfl, rfl, .inl (mw (b := 12) (by omega) (by omega) (by decide)), _, _, rfl, rfl, .inr ⟨_, rfl, ?_⟩⟩
      obtain ⟨ex, hex, px⟩ : ∃ ex : Int, ex = (if decide (T > r.c * m) = true then 1 else 0) ∧ ((T > r.c * m ∧ ex = 1) ∨ (¬ T > r.c * m ∧ ex = 0)) := by
        by_cases z : T > r.c * m
        · exact ⟨1, by rw [decide_eq_true z, if_pos rfl], .inl ⟨z, rfl⟩⟩
        · exact ⟨0, by rw [decide_eq_false z, if_neg (by decide)], .inr ⟨z, rfl⟩⟩
      rw [← hex]
      refine ⟨_, rfl, _, rfl, _, rfl, slL h5 fun a8 H8 s8 h8 => ?_⟩
      rw [cut_upto g1' (by rw [bl]; omega)] at h8
      have h5 := s8 _ _ h5
      have s8 := s7.trans s8
      refine ⟨_, rfl, _, rfl, l, _, _, _, rfl, rfl, SqT.of (s8 _ _ hl), i5_3, _, rfl, _, _, rfl, rfl, T, r.c + ex, rfl, by omega, by omega, (fun e => by omega), fun a9 H9 s9 h9 => ?_⟩
      have h8 := s9 _ _ h8
      have h5 := s9 _ _ h5
      have s9 := s8.trans s9
      have dl : (dealtL T (r.c + ex)).length = (r.c + ex).toNat := dealtL_len (by omega)
      refine catL h8 h9 (by rw [List.length_map, List.length_map, List.length_take, dl]; omega) fun a10 H10 s10 h10 => ?_
      have h5 := s10 _ _ h5
      have s10 := s9.trans s10
      refine ⟨_, rfl, _, rfl, _, rfl, a5, _, rfl, SqL.of h5, fun a11 n11 => ?_⟩
      have s11 := same_new (o := .lst (cutV ((bump xs k 1).map V.int) (some (sp + r.c)) none)) n11
      have h11 : upd H10 a11 (.lst (cutV ((bump xs k 1).map V.int) (some (sp + r.c)) none)) a11 = some (.lst (cutV ((bump xs k 1).map V.int) (some (sp + r.c)) none)) := upd_same
      generalize upd H10 a11 (.lst (cutV ((bump xs k 1).map V.int) (some (sp + r.c)) none)) = H11 at s11 h11 ⊢
      rw [cut_from (by omega) (by rw [bl]; omega)] at h11
      have h10 := s11 _ _ h10
      have s11 := s10.trans s11
      refine catL h10 h11 (by rw [List.length_append, List.length_map, List.length_map, List.length_map, List.length_take, List.length_drop, dl]; omega) fun a12 H12 s12 h12 => ?_
      have s12 := s11.trans s12
      have e12 : (List.take sp.toNat (bump xs k 1)).map V.int ++ (dealtL T (r.c + ex)).map V.int ++ (List.drop (sp + r.c).toNat (bump xs k 1)).map V.int = (anewL (bump xs k 1) sp (sp + r.c) (r.c + ex)).map V.int := by
        unfold anewL
        rw [hT, List.map_append, List.map_append, List.append_assoc]
      rw [e12] at h12
      refine ⟨_, rfl, _, rfl, rfl, _, rfl, ?_⟩
      rcases px with ⟨z, rfl⟩ | ⟨z, rfl⟩
      · rw [if_pos z, if_pos z] at pe
        rw [pe] at kk
        refine iteT ⟨_, rfl, (by show 2 ≤ sizeLine; decide), fun u nu => ⟨(by show 2 ≤ sizeLine; decide), fun t nt => ?_⟩⟩
        exact kk t a12 (.ref u) _ (s12.trans ((same_new nu).trans (same_new nt))) upd_same (same_new nt _ _ (same_new nu _ _ h12)) ⟨u, rfl, same_new nt _ _ upd_same⟩
      · rw [if_neg z, if_neg z] at pe
        rw [pe] at kk
        rw [Int.add_zero] at h12
        refine iteF ⟨(by show 2 ≤ sizeLine; decide), fun t nt => ?_⟩
        exact kk t a12 .non _ (s12.trans (same_new nt)) upd_same (same_new nt _ _ h12) rfl
end
end Ev
namespace Ev
open PySem L2 PySem.Spec PyProof.Rows RZ
theorem take_young {r : Fr} {m i : Int} {xs : List Int} (h : (xs.length : Int) ≤ r.wd) (ne : xs ≠ []) (ha : i < xs.sum) (pos : ∀ x ∈ xs, 0 ≤ x) : r.takeR m xs i = if xs.sum - 1 ≤ ((xs.length : Int) - 1) * m then (dealtL (xs.sum - 1) ((xs.length : Int) - 1), some (false, (xs.length : Int) - 1)) else (dealtL (xs.sum - 1) xs.length, none) := by
  have hlt := pageAt_lt ha ne pos
  have bl := bump_len xs (pageAt xs i) (-1)
  have bs := bump_sum (xs := xs) (k := pageAt xs i) (d := -1) hlt
  have e1 : xs.sum + -1 = xs.sum - 1 := by omega
  unfold Fr.takeR
  dsimp only
  rw [bl, if_pos h, bs, e1]
  by_cases z : xs.sum - 1 ≤ ((xs.length : Int) - 1) * m
  · rw [if_pos z, if_pos z, anewL_all bl.symm, bs, e1]
    unfold anewD
    rw [if_neg (by omega), if_pos (by omega)]
  · rw [if_neg z, if_neg z, Int.sub_zero, anewL_all bl.symm, bs, e1]
    unfold anewD
    rw [if_neg (by omega), if_neg (by omega)]
theorem take_big {r : Fr} {m i : Int} {xs : List Int} (h : r.wd < xs.length) (ne : xs ≠ []) (ha : i < xs.sum) (pos : ∀ x ∈ xs, 0 ≤ x) : r.takeR m xs i =
    (if xs.getD (pageAt xs i) 0 + -1 ≥ r.least m then (bump xs (pageAt xs i) (-1), none) else
      (anewL (bump xs (pageAt xs i) (-1)) (groupS (pageAt xs i) r.j) (groupS (pageAt xs i) r.j + r.j) (if (((bump xs (pageAt xs i) (-1)).take (groupS (pageAt xs i) r.j + r.j).toNat).drop (groupS (pageAt xs i) r.j).toNat).sum < r.j * r.least m then r.j - 1 else r.j),
        if (((bump xs (pageAt xs i) (-1)).take (groupS (pageAt xs i) r.j + r.j).toNat).drop (groupS (pageAt xs i) r.j).toNat).sum < r.j * r.least m then some (false, groupS (pageAt xs i) r.j + r.j - 1) else none)) := by
  have hlt := pageAt_lt ha ne pos
  have bl := bump_len xs (pageAt xs i) (-1)
  have bk := bump_at (xs := xs) (k := pageAt xs i) (d := -1) hlt
  unfold Fr.takeR
  dsimp only
  rw [bl, bk, if_neg (by omega)]
  by_cases z : xs.getD (pageAt xs i) 0 + -1 ≥ r.least m
  · rw [if_pos z, if_pos z]
  · rw [if_neg z, if_neg z]
    by_cases y : (((bump xs (pageAt xs i) (-1)).take (groupS (pageAt xs i) r.j + r.j).toNat).drop (groupS (pageAt xs i) r.j).toNat).sum < r.j * r.least m
    · rw [if_pos y, if_pos y, if_pos y]
      unfold anewD
      rw [if_neg (by omega), if_pos (by omega)]
    · rw [if_neg y, if_neg y, if_neg y]
      unfold anewD
      rw [Int.sub_zero, if_neg (by omega), if_neg (by omega)]
def spLTake : Sp := fun vs H Q _ => ∃ (l f : Addr) (r : Fr) (m a : Int) (xs : List Int), vs = [.ref l, .int m, .ref f, .int a] ∧ H l = some (.tup (tupR r)) ∧ r.ok ∧ H f = some (.lst (xs.map V.int)) ∧ xs.length ≤ 100 ∧ xs ≠ [] ∧ (∀ x ∈ xs, 1 ≤ x) ∧ 0 ≤ a ∧ a < xs.sum ∧ -(10 ^ 14) ≤ r.least m ∧ r.least m ≤ 10 ^ 14 ∧
  ∀ t q v H', Same H H' → H' t = some (.tup [.ref q, v]) → H' q = some (.lst ((r.takeR m xs a).1.map V.int)) → DeedV H' v (r.takeR m xs a).2 → Q (.ref t) H'
section
variable {P : Program} {w : World} {K : PySem.W.Frag} {mg : Str → Option Value} {base : Heap}
abbrev nLta : List Str := ["_law_told", "_law_top", "_law_fills_so", "_law_index_so", "_law_many", "_law_wide", "_law_total", "_law_page_here", "_law_low", "_law_later", "_law_begin", "_law_end", "_law_extra", "_law_behind_so"]
theorem scLTake : FnScope nLta ["_law_told", "_law_top", "_law_fills_so", "_law_index_so"] (defScope sLTake) := ⟨rfl, rfl, rfl, by decide +kernel, rfl, by decide +kernel, by decide +kernel⟩
theorem ok_ltake {f : Addr} {fd : FuncData} (F : Fun K "_law_take" "_law_take" sLTake f fd) (T : Blt mg) (ms : mg "sum" = none) (D0 : Df P w K mg base 1 "_law_least" ["_law_told", "_law_top"] spLLeast) (D1 : Df P w K mg base 1 "_law_page" ["_law_fills_so", "_law_index_so"] spLPage) (D2 : Df P w K mg base 1 "_law_grouped" ["_law_fills_so", "_law_page_here", "_law_many"] spLGroup) (D3 : Df P w K mg base 1 "_law_dealt" ["_law_total", "_law_pages"] spLDealt) : FnOk P w K mg base CX0 2 f fd ["_law_told", "_law_top", "_law_fills_so", "_law_index_so"] spLTake := by
  obtain ⟨f0, fd0, G0, g0, k0, b0⟩ := D0.ex
  obtain ⟨f1, fd1, G1, g1, k1, b1⟩ := D1.ex
  obtain ⟨f2, fd2, G2, g2, k2, b2⟩ := D2.ex
  obtain ⟨f3, fd3, G3, g3, k3, b3⟩ := D3.ex
  refine F.ok scLTake (fun vs H Q E h => ?_) (fun cdv A outer s H vs Q E hr h => ?_)
  · obtain ⟨l, f, r, m, a, xs, rfl, _⟩ := h
    rfl
  · obtain ⟨l, f, r, m, a, xs, rfl, hl, o, hf, hz, ne, pos1, a0, a1, lb1, lb2, kk⟩ := h
    obtain ⟨w1, w2, w3, w4⟩ := Fr.wd_bd o
    have c1 := o.j1; have c2 := o.j2
    have pos : ∀ x ∈ xs, 0 ≤ x := fun x h => by have := pos1 x h; omega
    have ls := len_le_sum pos1
    have n1 := List.length_pos_iff.mpr ne
    have fl : (xs.map V.int).length = xs.length := List.length_map ..
    refine ⟨_, (pss_cons (ps_par (i := 4) (j := 5) (by rfl) scLTake.nd rfl rfl (by decide) rfl rfl (pa_cons (pe_callB call_len_seq (by rfl) T.len PySem.boot_len (pa_cons (pv 2) pa_nil)) (pa_cons (pe_callB (call_max2 rfl) (by rfl) T.max (by decide +kernel) (pa_cons (pe_callTy call_int1 (by rfl) T.int (by decide +kernel) (pa_cons (pe_ix ix_tup (pv 0) pe_int (fun _ _ => rfl)) pa_nil)) (pa_cons (pe_callTy call_int1 (by rfl) T.int (by decide +kernel) (pa_cons (pe_ix ix_tup (pv 0) pe_int (fun _ _ => rfl)) pa_nil)) pa_nil))) pa_nil)) (by rfl))
    (pss_cons (ps_if (pt_cmpR op_le (pv 4) (pv 5) (nomark _))
      (pss_cons (ps_set (i := 6) scLTake.nd rfl (.inl rfl) (pe_op op_sub (pe_callB (cr_sum rfl) (by rfl) ms (by decide +kernel) (pa_cons (pv 2) pa_nil)) pe_int))
      (pss_cons (ps_if (pt_cmpR op_le (pv 6) (pe_op op_mul (pe_op op_sub (pv 4) pe_int) (pv 1)) (nomark _))
        (pss_one (ps_ret (pe_tup (pa_cons (pe_call G3 hr (by rfl) g3 k3 b3 .nil pass0 (pa_cons (pv 6) (pa_cons (pe_op op_sub (pv 4) pe_int) pa_nil))) (pa_cons (pe_tup (pa_cons pe_str (pa_cons (pe_op op_sub (pv 4) pe_int) pa_nil))) pa_nil))))) pss_nil)
      (pss_one (ps_ret (pe_tup (pa_cons (pe_call G3 hr (by rfl) g3 k3 b3 .nil pass0 (pa_cons (pv 6) (pa_cons (pv 4) pa_nil))) (pa_cons pe_non pa_nil))))))) pss_nil)
    (pss_cons (ps_par (i := 7) (j := 8) (by rfl) scLTake.nd rfl rfl (by decide) rfl rfl (pa_cons (pe_call G1 hr (by rfl) g1 k1 b1 .nil pass0 (pa_cons (pv 2) (pa_cons (pv 3) pa_nil))) (pa_cons (pe_call G0 hr (by rfl) g0 k0 b0 .nil pass0 (pa_cons (pv 0) (pa_cons (pv 1) pa_nil))) pa_nil)) (by rfl))
    (pss_cons (ps_set (i := 9) scLTake.nd rfl (.inl rfl) (pe_op op_cat (pe_op op_cat (pe_slice sl_list (pv 2) po_none (po_some (pv 7))) (pe_lst (pa_cons (pe_op op_sub (pe_ix ix_list (pv 2) (pv 7) (fun _ _ => rfl)) pe_int) pa_nil))) (pe_slice sl_list (pv 2) (po_some (pe_op op_add (pv 7) pe_int)) po_none)))
    (pss_cons (ps_if (pt_cmpR op_ge (pe_ix ix_list (pv 9) (pv 7) (fun _ _ => rfl)) (pv 8) (nomark _))
      (pss_one (ps_ret (pe_tup (pa_cons (pv 9) (pa_cons pe_non pa_nil))))) pss_nil)
    (pss_cons (ps_asg (pe_call G2 hr (by rfl) g2 k2 b2 .nil pass0 (pa_cons (pv 2) (pa_cons (pv 7) (pa_cons (pe_ix ix_tup (pv 0) pe_int (fun _ _ => rfl)) pa_nil)))) (pg_tup (by rfl) (pgs_cons (pg_name (i := 10) scLTake.nd rfl (.inl rfl)) (pgs_cons (pg_name (i := 11) scLTake.nd rfl (.inl rfl)) pgs_nil))))
    (pss_cons (ps_set (i := 6) scLTake.nd rfl (.inl rfl) (pe_callB (cr_sum rfl) (by rfl) ms (by decide +kernel) (pa_cons (pe_slice sl_list (pv 9) (po_some (pv 10)) (po_some (pv 11))) pa_nil)))
    (pss_cons (ps_set (i := 12) scLTake.nd rfl (.inl rfl) (pe_callTy call_int1 (by rfl) T.int (by decide +kernel) (pa_cons (pe_cmpR op_lt (pv 6) (pe_op op_mul (pe_ix ix_tup (pv 0) pe_int (fun _ _ => rfl)) (pv 8)) (nomark _)) pa_nil)))
    (pss_cons (ps_set (i := 13) scLTake.nd rfl (.inl rfl) (pe_op op_cat (pe_op op_cat (pe_slice sl_list (pv 9) po_none (po_some (pv 10))) (pe_call G3 hr (by rfl) g3 k3 b3 .nil pass0 (pa_cons (pv 6) (pa_cons (pe_op op_sub (pe_ix ix_tup (pv 0) pe_int (fun _ _ => rfl)) (pv 12)) pa_nil)))) (pe_slice sl_list (pv 9) (po_some (pv 11)) po_none)))
    (pss_one (ps_ret (pe_tup (pa_cons (pv 13) (pa_cons (pe_ifExp (pt_cmpR op_eq (pv 12) pe_int (nomark _)) (pe_tup (pa_cons pe_str (pa_cons (pe_op op_sub (pv 11) pe_int) pa_nil))) pe_non) pa_nil)))))))))))))), ?_⟩
    refine ⟨_, rfl, f, _, rfl, .inl (SqL.of hf), ?_⟩
    rw [fl]
    refine ⟨_, rfl, l, _, _, _, rfl, rfl, SqT.of hl, i5_3, .inl ⟨_, rfl, _, rfl, l, _, _, _, rfl, rfl, SqT.of hl, i5_4, .inl ⟨_, rfl, _, _, rfl, _, _, rfl, ?_⟩⟩⟩
    rw [wd_max]
    refine ⟨_, rfl, _, rfl, _, _, rfl, rfl, _, rfl, ?_⟩
    by_cases young : (xs.length : Int) ≤ r.wd
    · rw [decide_eq_true young]
      have pe := take_young (r := r) (m := m) young ne a1 pos
      refine iteT ⟨_, rfl, f, xs, rfl, SqL.of hf, _, _, rfl, rfl, ?_⟩
      refine ⟨_, rfl, _, rfl, _, _, rfl, rfl, _, rfl, _, _, rfl, rfl, .inl (mw (b := 12) (by omega) (by omega) (by decide)), _, _, rfl, rfl, _, rfl, ?_⟩
      by_cases z : xs.sum - 1 ≤ ((xs.length : Int) - 1) * m
      · rw [if_pos z] at pe
        rw [pe] at kk
        rw [decide_eq_true z]
        refine iteT ⟨_, rfl, _, rfl, _, _, rfl, rfl, _, _, rfl, by omega, by omega, (fun e => by rw [e] at z; omega), fun q H1 s1 hq => ⟨_, rfl, _, _, rfl, rfl, (by show 2 ≤ sizeLine; decide), fun u nu => ⟨(by show 2 ≤ sizeLine; decide), fun t nt => ?_⟩⟩⟩
        exact kk t q (.ref u) _ (s1.trans ((same_new nu).trans (same_new nt))) upd_same (same_new nt _ _ (same_new nu _ _ hq)) ⟨u, rfl, same_new nt _ _ upd_same⟩
      · rw [if_neg z] at pe
        rw [pe] at kk
        rw [decide_eq_false z]
        refine iteF ⟨_, rfl, _, rfl, _, _, rfl, by omega, by omega, (fun e => by omega), fun q H1 s1 hq => ⟨(by show 2 ≤ sizeLine; decide), fun t nt => ?_⟩⟩
        exact kk t q .non _ (s1.trans (same_new nt)) upd_same (same_new nt _ _ hq) rfl
    · rw [decide_eq_false young]
      have pe := take_big (r := r) (m := m) (by omega) ne a1 pos
      have hlt := pageAt_lt a1 ne pos
      refine iteF ⟨_, rfl, _, rfl, f, a, xs, rfl, hf, ne, by omega, a1, pos, _, rfl, _, rfl, l, r, m, rfl, hl, o, _, _, rfl, ?_⟩
      generalize pageAt xs a = k at pe hlt ⊢
      have be := bump_eq (d := -1) hlt
      have bl := bump_len xs k (-1)
      have bk := bump_at (xs := xs) (k := k) (d := -1) hlt
      refine ⟨_, rfl, _, rfl, _, rfl, slL hf fun a1' H1 s1 h1 => ?_⟩
      rw [cut_upto (by omega) (by omega), Int.toNat_natCast] at h1
      refine ⟨_, rfl, _, rfl, f, _, _, _, rfl, rfl, SqL.of (s1 _ _ hf), at_D hlt, _, _, rfl, rfl, (by show 1 ≤ sizeLine; decide), fun a2 n2 => ?_⟩
      have s2 := s1.trans (same_new (o := .lst [V.int (xs.getD k 0 - 1)]) n2)
      refine catL (same_new n2 _ _ h1) upd_same (by rw [List.length_map, List.length_take]; show _ + 1 ≤ 1000; omega) fun a3 H3 s3 h3 => ?_
      have s3 := s2.trans s3
      refine ⟨_, rfl, _, rfl, _, _, rfl, rfl, (k : Int) + 1, rfl, f, _, rfl, SqL.of (s3 _ _ hf), fun a4 n4 => ?_⟩
      rw [cut_from (by omega) (by omega), show ((k : Int) + 1).toNat = k + 1 by omega]
      have s4 := same_new (o := .lst ((xs.drop (k + 1)).map V.int)) n4
      have h4 : upd H3 a4 (.lst ((xs.drop (k + 1)).map V.int)) a4 = some (.lst ((xs.drop (k + 1)).map V.int)) := upd_same
      generalize upd H3 a4 (.lst ((xs.drop (k + 1)).map V.int)) = H4 at s4 h4 ⊢
      have h3 := s4 _ _ h3
      have s4 := s3.trans s4
      refine catL h3 h4 ?_ fun a5 H5 s5 h5 => ?_
      · rw [List.length_append, List.length_map, List.length_map, List.length_take, List.length_drop]
        show _ + 1 + _ ≤ 1000
        omega
      have s5 := s4.trans s5
      have e5 : (xs.take k).map V.int ++ [V.int (xs.getD k 0 - 1)] ++ (xs.drop (k + 1)).map V.int = (bump xs k (-1)).map V.int := by
        rw [be, List.map_append, List.map_cons, List.append_assoc]
        rfl
      rw [e5] at h5
      have hkb : k < (bump xs k (-1)).length := by omega
      refine ⟨_, rfl, _, rfl, a5, _, _, _, rfl, rfl, SqL.of h5, at_D hkb, _, rfl, _, _, rfl, rfl, _, rfl, ?_⟩
      rw [bk]
      by_cases full : xs.getD k 0 + -1 ≥ r.least m
      · rw [decide_eq_true full]
        rw [if_pos full] at pe
        rw [pe] at kk
        refine iteT ⟨_, rfl, (by show 2 ≤ sizeLine; decide), fun t nt => ?_⟩
        exact kk t a5 .non _ (s5.trans (same_new nt)) upd_same (same_new nt _ _ h5) rfl
      rw [decide_eq_false full]
      rw [if_neg full] at pe
      refine iteF ⟨_, rfl, _, rfl, _, rfl, l, _, _, _, rfl, rfl, SqT.of (s5 _ _ hl), i5_4, .ref f, k, r.j, rfl, fun t H6 s6 ht => ?_⟩
      obtain ⟨g1', g2', g3', g4'⟩ := groupS_bd (k := k) (n := xs.length) (c := r.j) hlt (by omega) (by omega)
      generalize groupS k r.j = sp at pe ht g1' g2' g3' g4' ⊢
      have h5 := s6 _ _ h5
      have s6 := s5.trans s6
      refine ⟨t, _, rfl, SqT.of ht, rfl, _, _, rfl, _, _, rfl, rfl, ?_⟩
      refine ⟨_, rfl, _, rfl, _, rfl, _, rfl, _, rfl, slL h5 fun a7 H7 s7 h7 => ?_⟩
      rw [cut_mid g1' (by omega) (by rw [bl]; exact g2')] at h7
      have h5 := s7 _ _ h5
      have s7 := s6.trans s7
      refine ⟨a7, _, rfl, SqL.of h7, ?_⟩
      generalize hT : (((bump xs k (-1)).take (sp + r.j).toNat).drop sp.toNat).sum = T at pe ⊢
      refine ⟨_, rfl, _, rfl, l, _, _, _, rfl, rfl, SqT.of (s7 _ _ hl), i5_4, _, rfl, _, _, rfl, rfl, .inl (mw (b := 12) (by omega) (by omega) (by decide)), _, _, rfl, rfl, .inr ⟨_, rfl, ?_⟩⟩
      obtain ⟨ex, hex, px⟩ : ∃ ex : Int, ex = (if decide (T < r.j * r.least m) = true then 1 else 0) ∧ ((T < r.j * r.least m ∧ ex = 1) ∨ (¬ T < r.j * r.least m ∧ ex = 0)) := by
        by_cases z : T < r.j * r.least m
        · exact ⟨1, by rw [decide_eq_true z, if_pos rfl], .inl ⟨z, rfl⟩⟩
        · exact ⟨0, by rw [decide_eq_false z, if_neg (by decide)], .inr ⟨z, rfl⟩⟩
      rw [← hex]
      refine ⟨_, rfl, _, rfl, _, rfl, slL h5 fun a8 H8 s8 h8 => ?_⟩
      rw [cut_upto g1' (by rw [bl]; omega)] at h8
      have h5 := s8 _ _ h5
      have s8 := s7.trans s8
      refine ⟨_, rfl, _, rfl, l, _, _, _, rfl, rfl, SqT.of (s8 _ _ hl), i5_4, _, rfl, _, _, rfl, rfl, T, r.j - ex, rfl, by omega, by omega, (fun e => by omega), fun a9 H9 s9 h9 => ?_⟩
      have h8 := s9 _ _ h8
      have h5 := s9 _ _ h5
      have s9 := s8.trans s9
      have dl : (dealtL T (r.j - ex)).length = (r.j - ex).toNat := dealtL_len (by omega)
      refine catL h8 h9 (by rw [List.length_map, List.length_map, List.length_take, dl]; omega) fun a10 H10 s10 h10 => ?_
      have h5 := s10 _ _ h5
      have s10 := s9.trans s10
      refine ⟨_, rfl, _, rfl, _, rfl, a5, _, rfl, SqL.of h5, fun a11 n11 => ?_⟩
      have s11 := same_new (o := .lst (cutV ((bump xs k (-1)).map V.int) (some (sp + r.j)) none)) n11
      have h11 : upd H10 a11 (.lst (cutV ((bump xs k (-1)).map V.int) (some (sp + r.j)) none)) a11 = some (.lst (cutV ((bump xs k (-1)).map V.int) (some (sp + r.j)) none)) := upd_same
      generalize upd H10 a11 (.lst (cutV ((bump xs k (-1)).map V.int) (some (sp + r.j)) none)) = H11 at s11 h11 ⊢
      rw [cut_from (by omega) (by rw [bl]; omega)] at h11
      have h10 := s11 _ _ h10
      have s11 := s10.trans s11
      refine catL h10 h11 (by rw [List.length_append, List.length_map, List.length_map, List.length_map, List.length_take, List.length_drop, dl]; omega) fun a12 H12 s12 h12 => ?_
      have s12 := s11.trans s12
      have e12 : (List.take sp.toNat (bump xs k (-1))).map V.int ++ (dealtL T (r.j - ex)).map V.int ++ (List.drop (sp + r.j).toNat (bump xs k (-1))).map V.int = (anewL (bump xs k (-1)) sp (sp + r.j) (r.j - ex)).map V.int := by
        unfold anewL
        rw [hT, List.map_append, List.map_append, List.append_assoc]
      rw [e12] at h12
      refine ⟨_, rfl, _, rfl, rfl, _, rfl, ?_⟩
      rcases px with ⟨z, rfl⟩ | ⟨z, rfl⟩
      · rw [if_pos z, if_pos z] at pe
        rw [pe] at kk
        refine iteT ⟨_, rfl, _, _, rfl, rfl, (by show 2 ≤ sizeLine; decide), fun u nu => ⟨(by show 2 ≤ sizeLine; decide), fun t nt => ?_⟩⟩
        exact kk t a12 (.ref u) _ (s12.trans ((same_new nu).trans (same_new nt))) upd_same (same_new nt _ _ (same_new nu _ _ h12)) ⟨u, rfl, same_new nt _ _ upd_same⟩
      · rw [if_neg z, if_neg z] at pe
        rw [pe] at kk
        rw [Int.sub_zero] at h12
        refine iteF ⟨(by show 2 ≤ sizeLine; decide), fun t nt => ?_⟩
        exact kk t a12 .non _ (s12.trans (same_new nt)) upd_same (same_new nt _ _ h12) rfl
end
end Ev
namespace Ev
open PySem L2 PySem.Spec PyProof.Rows RZ
def loopBody : Stmt → List Stmt
  | .For _ _ b _ _ => b
  | _ => []
def spLFills : Sp := fun vs H Q _ => ∃ (p L l : Addr) (r : Fr) (m B : Int), vs = [.ref p, .ref l, .int m] ∧ H l = some (.tup (tupR r)) ∧ r.ok ∧ 2 ≤ m ∧ m ≤ 10 ^ 12 ∧ 1 ≤ r.least m ∧ r.least m ≤ m ∧ B ≤ 900000 ∧ Pen L H p B ∧
  ∀ (q : Addr) (xs : List Int) (H' : Hp), H' q = some (.lst (xs.map V.int)) → q ≠ p → xs.length ≤ 20 → (∀ x ∈ xs, 1 ≤ x ∧ x ≤ 2 * m) → But p H H' → Pen L H' p (B + 60) → Q (.ref q) H'
def spLSpot : Sp := fun vs H Q _ => ∃ (p L f : Addr) (xs : List Int) (B : Int), vs = [.ref p, .ref f] ∧ H f = some (.lst (xs.map V.int)) ∧ f ≠ p ∧ xs.length ≤ 20 ∧ (∀ x ∈ xs, 1 ≤ x ∧ x ≤ 10 ^ 15) ∧ B ≤ 900000 ∧ Pen L H p B ∧
  ∀ (z : Int) (H' : Hp), 0 ≤ z → z ≤ xs.sum → But p H H' → Pen L H' p (B + 3) → Q (.int z) H'
section
variable {P : Program} {w : World} {K : PySem.W.Frag} {mg : Str → Option Value} {base : Heap}
abbrev nLf : List Str := ["_law_pen_here", "_law_told", "_law_top", "_law_wide", "_law_low", "_law_kind", "_law_found", "_law_page_here", "_law_way"]
theorem scLFills : FnScope nLf ["_law_pen_here", "_law_told", "_law_top"] (defScope sLFills) := ⟨rfl, rfl, rfl, by decide +kernel, rfl, by decide +kernel, by decide +kernel⟩
theorem ok_lfills {f : Addr} {fd : FuncData} (F : Fun K "_law_fills" "_law_fills" sLFills f fd) (T : Blt mg) (D0 : Df P w K mg base 1 "_law_draw" ["_law_pen_here", "_law_many"] spDraw) (D1 : Df P w K mg base 1 "_law_least" ["_law_told", "_law_top"] spLLeast) : FnOk P w K mg base CX0 2 f fd ["_law_pen_here", "_law_told", "_law_top"] spLFills := by
  obtain ⟨f0, fd0, G0, g0, k0, b0⟩ := D0.ex
  obtain ⟨f1, fd1, G1, g1, k1, b1⟩ := D1.ex
  refine F.ok scLFills (fun vs H Q E h => ?_) (fun cdv A outer s H vs Q E hr h => ?_)
  · obtain ⟨p, L, l, r, m, B, rfl, _⟩ := h
    rfl
  · obtain ⟨p, L, l, r, m, B, rfl, hl, o, m1, m2, q1, q2, hB, pn, kk⟩ := h
    obtain ⟨w1, w2, w3, w4⟩ := Fr.wd_bd o
    obtain ⟨tB, hB', qB⟩ : ∃ t : TS, PSs (cxOf CX0 P w K mg base nLf "_law_fills" (defScope sLFills) f cdv A outer s H E).nox (loopBody ((defBody sLFills).getD 2 (.Pass ⟨0, 0, 0, 0⟩))) t ∧ ∀ (D : Ends) (G : Hp) (q : Addr) (xs : List Int) (kd C : Int) (v7 v8 : Option V), G q = some (.lst (xs.map V.int)) → q ≠ p → q ≠ L → H q = none → xs.length ≤ 30 → (∀ x ∈ xs, 1 ≤ x ∧ x ≤ 2 * m) → But p H G → C ≤ 900100 → Pen L G p C →
        (∀ (G' : Hp) (ys : List Int) (v8' : Option V), G' q = some (.lst (ys.map V.int)) → ys.length = xs.length + 1 → (∀ x ∈ ys, 1 ≤ x ∧ x ≤ 2 * m) → But p H G' → Pen L G' p (C + 2) → D.nx [some (.ref p), some (.ref l), some (.int m), some (.int r.wd), some (.int (r.least m)), some (.int kd), some (.ref q), v7, v8'] G') →
        t D [some (.ref p), some (.ref l), some (.int m), some (.int r.wd), some (.int (r.least m)), some (.int kd), some (.ref q), v7, v8] G := by
      refine ⟨_, (pss_cons (ps_set (i := 8) scLFills.nd rfl (.inl rfl) (pe_call G0 hr (by rfl) g0 k0 b0 .nil pass0 (pa_cons (pv 0) (pa_cons pe_int pa_nil))))
      (pss_one (ps_if (pt_cmpR op_lt (pv 8) pe_int (nomark _))
        (pss_one (ps_expr (pe_bm PySem.F.plainAttrs_list PySem.F.slot_list_append PySem.F.type_list_append mt_append (pv 6) (pa_cons (pe_ix ix_list (pe_lst (pa_cons (pv 2) (pa_cons (pv 4) (pa_cons (pe_callB (call_max2 rfl) (by rfl) T.max (by decide +kernel) (pa_cons pe_int (pa_cons (pe_op op_sub (pv 4) pe_int) pa_nil))) (pa_cons (pv 2) pa_nil))))) (pv 8) (fun _ _ => rfl)) pa_nil)))) (pss_one (ps_expr (pe_bm PySem.F.plainAttrs_list PySem.F.slot_list_append PySem.F.type_list_append mt_append (pv 6) (pa_cons (pe_ifExp (pt_cmpR op_eq (pv 8) pe_int (nomark _)) (pe_op op_add pe_int (pe_call G0 hr (by rfl) g0 k0 b0 .nil pass0 (pa_cons (pv 0) (pa_cons (pv 2) pa_nil)))) (pe_op op_add pe_int (pe_call G0 hr (by rfl) g0 k0 b0 .nil pass0 (pa_cons (pv 0) (pa_cons (pe_op op_mul pe_int (pv 2)) pa_nil))))) pa_nil))))))), ?_⟩
      intro D G q xs kd C v7 v8 hq qp qL Hq hlen hx bt hC pg fin
      have len : (xs.map V.int).length < sizeLine := by rw [List.length_map]; exact Nat.lt_of_le_of_lt hlen (by decide)
      have put : ∀ (y : Int) (G' : Hp), 1 ≤ y → y ≤ 2 * m → G' q = some (.lst (xs.map V.int)) → But p H G' → Pen L G' p (C + 2) → ∀ v8', D.nx [some (.ref p), some (.ref l), some (.int m), some (.int r.wd), some (.int (r.least m)), some (.int kd), some (.ref q), v7, v8'] (upd G' q (.lst (xs.map V.int ++ [V.int y]))) := fun y G' y1 y2 g1 g2 g3 v8' =>
        fin _ (xs ++ [y]) v8' (by rw [upd_same, List.map_append]; rfl) (by rw [List.length_append]; rfl) (fun x h => by
          rcases List.mem_append.mp h with h | h
          · exact hx x h
          · rw [List.mem_singleton.mp h]; exact ⟨y1, y2⟩) (fun b u nb e => by rw [upd_ne (ne_of_none e Hq)]; exact g2 _ _ nb e) (g3.put qp qL)
      refine ⟨_, rfl, p, L, _, _, rfl, by decide, by decide, by omega, pg, fun wy G1 bt1 pg1 y0 y1 => ?_⟩
      have hq1 := bt1 _ _ qp hq
      have bt1' := bt.trans bt1
      refine ⟨_, rfl, _, _, rfl, rfl, _, rfl, ?_⟩
      by_cases z : wy < 4
      · rw [decide_eq_true z]
        refine iteT ⟨_, rfl, .inl ⟨rfl, _, SqL.of hq1⟩, _, rfl, _, rfl, _, rfl, _, _, rfl, rfl, _, _, rfl, _, rfl, (by show 4 ≤ sizeLine; decide), fun u nu => ?_⟩
        obtain ⟨y, hy, ya, yb⟩ : ∃ y : Int, atI [V.int m, .int (r.least m), .int (if r.least m - 1 > 1 then r.least m - 1 else 1), .int m] wy = some (.int y) ∧ 1 ≤ y ∧ y ≤ 2 * m := by
          rcases (show wy = 0 ∨ wy = 1 ∨ wy = 2 ∨ wy = 3 by omega) with rfl | rfl | rfl | rfl
          · exact ⟨_, atI_nat (j := 0) rfl, by omega, by omega⟩
          · exact ⟨_, atI_nat (j := 1) rfl, by omega, by omega⟩
          · exact ⟨_, atI_nat (j := 2) rfl, by split <;> omega, by split <;> omega⟩
          · exact ⟨_, atI_nat (j := 3) rfl, by omega, by omega⟩
        refine ⟨_, rfl, u, _, _, _, rfl, rfl, SqL.of upd_same, hy, q, _, _, rfl, rfl, same_new nu _ _ hq1, len, ?_⟩
        exact put y _ ya yb (same_new nu _ _ hq1) (bt1'.trans (But.upd_new nu)) ((pg1.new nu).mono (by omega)) _
      · rw [decide_eq_false z]
        refine iteF ⟨_, rfl, .inl ⟨rfl, _, SqL.of hq1⟩, _, rfl, rfl, _, rfl, ?_⟩
        by_cases z4 : wy = 4
        · rw [show decide (V.int wy = V.int 4) = true from decide_eq_true (by rw [z4])]
          refine iteT ⟨_, rfl, _, rfl, p, L, _, _, rfl, by omega, by omega, by omega, pg1, fun d G2 bt2 pg2 x0 x1 => ⟨_, _, rfl, rfl, q, _, _, rfl, rfl, bt2 _ _ qp hq1, len, ?_⟩⟩
          exact put (1 + d) G2 (by omega) (by omega) (bt2 _ _ qp hq1) (bt1'.trans bt2) (pg2.mono (by omega)) _
        · rw [show decide (V.int wy = V.int 4) = false from decide_eq_false fun h => z4 (V.int.inj h)]
          refine iteF ⟨_, rfl, _, rfl, _, _, rfl, rfl, .inl (mw (b := 12) (by omega) (by omega) (by decide)), p, L, _, _, rfl, by omega, by omega, by omega, pg1, fun d G2 bt2 pg2 x0 x1 => ⟨_, _, rfl, rfl, q, _, _, rfl, rfl, bt2 _ _ qp hq1, len, ?_⟩⟩
          exact put (1 + d) G2 (by omega) (by omega) (bt2 _ _ qp hq1) (bt1'.trans bt2) (pg2.mono (by omega)) _
    refine ⟨_, (pss_cons (ps_par (i := 3) (j := 4) (by rfl) scLFills.nd rfl rfl (by decide) rfl rfl (pa_cons (pe_callB (call_max2 rfl) (by rfl) T.max (by decide +kernel) (pa_cons (pe_callTy call_int1 (by rfl) T.int (by decide +kernel) (pa_cons (pe_ix ix_tup (pv 1) pe_int (fun _ _ => rfl)) pa_nil)) (pa_cons (pe_callTy call_int1 (by rfl) T.int (by decide +kernel) (pa_cons (pe_ix ix_tup (pv 1) pe_int (fun _ _ => rfl)) pa_nil)) pa_nil))) (pa_cons (pe_call G1 hr (by rfl) g1 k1 b1 .nil pass0 (pa_cons (pv 1) (pa_cons (pv 2) pa_nil))) pa_nil)) (by rfl))
    (pss_cons (ps_par (i := 5) (j := 6) (by rfl) scLFills.nd rfl rfl (by decide) rfl rfl (pa_cons (pe_call G0 hr (by rfl) g0 k0 b0 .nil pass0 (pa_cons (pv 0) (pa_cons pe_int pa_nil))) (pa_cons (pe_lst pa_nil) pa_nil)) (by rfl))
    (pss_cons (ps_for PassesOwn.never rfl (pi_range1 (by rfl) T.range (pa_cons (pe_ifExp (pt_cmpR op_eq (pv 5) pe_int (nomark _)) (pe_call G0 hr (by rfl) g0 k0 b0 .nil pass0 (pa_cons (pv 0) (pa_cons (pe_op op_add (pv 3) pe_int) pa_nil))) (pe_op op_add (pe_op op_add (pv 3) pe_int) (pe_call G0 hr (by rfl) g0 k0 b0 .nil pass0 (pa_cons (pv 0) (pa_cons (pe_ix ix_list (pe_lst (pa_cons pe_int (pa_cons pe_int (pa_cons pe_int (pa_cons pe_int pa_nil))))) (pv 5) (fun _ _ => rfl)) pa_nil))))) pa_nil)) (pg_name (i := 7) scLFills.nd rfl (.inl rfl))
      hB')
    (pss_one (ps_ret (pv 6)))))), ?_⟩
    refine ⟨_, rfl, l, _, _, _, rfl, rfl, SqT.of hl, i5_3, .inl ⟨_, rfl, _, rfl, l, _, _, _, rfl, rfl, SqT.of hl, i5_4, .inl ⟨_, rfl, _, _, rfl, ?_⟩⟩⟩
    rw [wd_max]
    refine ⟨_, rfl, _, rfl, l, r, m, rfl, hl, o, _, _, rfl, ?_⟩
    refine ⟨_, rfl, p, L, _, _, rfl, by decide, by decide, by omega, pn, fun kd H1 bt1 pn1 d0 d1 => ⟨(by show 0 ≤ sizeLine; decide), fun q nq => ⟨_, _, rfl, ?_⟩⟩⟩
    have qp := pn1.ne nq
    have qL : q ≠ L := pn1.neL nq
    have hq : upd H1 q (.lst []) q = some (.lst (([] : List Int).map V.int)) := upd_same
    have Hq : H q = none := bt1.free pn1 nq
    have bt2 : But p H (upd H1 q (.lst [])) := bt1.trans (But.upd_new nq)
    have pn2 := pn1.new (o := .lst []) nq
    generalize upd H1 q (.lst []) = H2 at hq bt2 pn2 ⊢
    refine ⟨_, rfl, rfl, _, rfl, ?_⟩
    by_cases e0 : kd = 0
    · rw [show decide (V.int kd = V.int 0) = true from decide_eq_true (by rw [e0])]
      refine iteT ⟨_, rfl, _, rfl, _, _, rfl, rfl, p, L, _, _, rfl, by omega, by omega, by omega, pn2, fun d H3 bt3 pn3 x0 x1 => ?_⟩
      obtain ⟨n, rfl⟩ := Int.eq_ofNat_of_zero_le x0
      exact ⟨n, rfl, by omega, by omega, for_range (n := n) (fun i σ G => ∃ (xs : List Int) (v7 v8 : Option V), σ = [some (.ref p), some (.ref l), some (.int m), some (.int r.wd), some (.int (r.least m)), some (.int kd), some (.ref q), v7, v8] ∧ G q = some (.lst (xs.map V.int)) ∧ xs.length = i ∧ (∀ x ∈ xs, 1 ≤ x ∧ x ≤ 2 * m) ∧ But p H G ∧ Pen L G p (B + 2 + 2 * (i : Int))) ⟨[], _, _, rfl, bt3 _ _ qp hq, rfl, (fun x hx => by cases hx), bt2.trans bt3, pn3.mono (by omega)⟩
        (fun i σ G hi h => by
          obtain ⟨xs, v7, v8, rfl, g1, g2, g3, g4, g5⟩ := h
          exact qB _ G q xs kd _ _ _ g1 qp qL Hq (by omega) g3 g4 (by omega) g5 fun G' ys v8' h1 h2 h3 h4 h5 => ⟨ys, _, _, rfl, h1, by omega, h3, h4, h5.mono (by omega)⟩)
        (fun σ G h => by
          obtain ⟨xs, v7, v8, rfl, g1, g2, g3, g4, g5⟩ := h
          exact ⟨_, rfl, kk q xs G g1 qp (by omega) g3 g4 (g5.mono (by omega))⟩)⟩
    · rw [show decide (V.int kd = V.int 0) = false from decide_eq_false fun h => e0 (V.int.inj h)]
      refine iteF ⟨_, rfl, _, _, rfl, rfl, _, rfl, (by show 4 ≤ sizeLine; decide), fun u nu => ?_⟩
      obtain ⟨t, ht, t1, t2⟩ : ∃ t : Int, atI [V.int 1, .int 2, .int 2, .int 5] kd = some (.int t) ∧ 1 ≤ t ∧ t ≤ 5 := by
        rcases (show kd = 1 ∨ kd = 2 ∨ kd = 3 by omega) with rfl | rfl | rfl
        · exact ⟨_, atI_nat (j := 1) rfl, by decide, by decide⟩
        · exact ⟨_, atI_nat (j := 2) rfl, by decide, by decide⟩
        · exact ⟨_, atI_nat (j := 3) rfl, by decide, by decide⟩
      refine ⟨_, rfl, u, _, _, _, rfl, rfl, SqL.of upd_same, ht, p, L, _, _, rfl, t1, by omega, by omega, pn2.new nu, fun d H3 bt3 pn3 x0 x1 => ⟨_, _, rfl, rfl, ?_⟩⟩
      obtain ⟨n, hn⟩ := Int.eq_ofNat_of_zero_le (show 0 ≤ r.wd + 1 + d by omega)
      have bt23 := bt2.trans ((But.upd_new nu).trans bt3)
      exact ⟨n, (by show [V.int (r.wd + 1 + d)] = _; rw [hn]), by omega, by omega, for_range (n := n) (fun i σ G => ∃ (xs : List Int) (v7 v8 : Option V), σ = [some (.ref p), some (.ref l), some (.int m), some (.int r.wd), some (.int (r.least m)), some (.int kd), some (.ref q), v7, v8] ∧ G q = some (.lst (xs.map V.int)) ∧ xs.length = i ∧ (∀ x ∈ xs, 1 ≤ x ∧ x ≤ 2 * m) ∧ But p H G ∧ Pen L G p (B + 2 + 2 * (i : Int))) ⟨[], _, _, rfl, bt3 _ _ qp (same_new nu _ _ hq), rfl, (fun x hx => by cases hx), bt23, pn3.mono (by omega)⟩
        (fun i σ G hi h => by
          obtain ⟨xs, v7, v8, rfl, g1, g2, g3, g4, g5⟩ := h
          exact qB _ G q xs kd _ _ _ g1 qp qL Hq (by omega) g3 g4 (by omega) g5 fun G' ys v8' h1 h2 h3 h4 h5 => ⟨ys, _, _, rfl, h1, by omega, h3, h4, h5.mono (by omega)⟩)
        (fun σ G h => by
          obtain ⟨xs, v7, v8, rfl, g1, g2, g3, g4, g5⟩ := h
          exact ⟨_, rfl, kk q xs G g1 qp (by omega) g3 g4 (g5.mono (by omega))⟩)⟩
end
end Ev
namespace Ev
open PySem L2 PySem.Spec PyProof.Rows RZ
theorem sum_take {xs : List Int} {k : Nat} (pos : ∀ x ∈ xs, 1 ≤ x) (hk : k < xs.length) : 0 ≤ (xs.take k).sum ∧ (xs.take k).sum + xs.getD k 0 ≤ xs.sum ∧ 1 ≤ xs.getD k 0 := by
  have e : xs.sum = (xs.take k).sum + (xs.drop k).sum := by rw [← List.sum_append, List.take_append_drop]
  have dc : xs.drop k = xs[k] :: xs.drop (k + 1) := List.drop_eq_getElem_cons hk
  have g : xs.getD k 0 = xs[k] := by rw [List.getD_eq_getElem?_getD, List.getElem?_eq_getElem hk]; rfl
  have n1 : 0 ≤ (xs.take k).sum := sum_nn fun x h => by have := pos x (List.mem_of_mem_take h); omega
  have n2 : 0 ≤ (xs.drop (k + 1)).sum := sum_nn fun x h => by have := pos x (List.mem_of_mem_drop h); omega
  rw [dc, List.sum_cons] at e
  have := pos _ (List.getElem_mem hk)
  rw [g]
  omega
section
variable {P : Program} {w : World} {K : PySem.W.Frag} {mg : Str → Option Value} {base : Heap}
theorem scLSpot : FnScope ["_law_pen_here", "_law_fills_so", "_law_total", "_law_kind", "_law_page_here"] ["_law_pen_here", "_law_fills_so"] (defScope sLSpot) := ⟨rfl, rfl, rfl, by decide +kernel, rfl, by decide +kernel, by decide +kernel⟩
theorem ok_lspot {f : Addr} {fd : FuncData} (F : Fun K "_law_spot" "_law_spot" sLSpot f fd) (T : Blt mg) (ms : mg "sum" = none) (D0 : Df P w K mg base 1 "_law_draw" ["_law_pen_here", "_law_many"] spDraw) (D1 : Df P w K mg base 2 "_law_pick" ["_law_pen_here", "_law_some"] spPick) : FnOk P w K mg base CX0 3 f fd ["_law_pen_here", "_law_fills_so"] spLSpot := by
  obtain ⟨f0, fd0, G0, g0, k0, b0⟩ := D0.ex
  obtain ⟨f1, fd1, G1, g1, k1, b1⟩ := D1.ex
  refine F.ok scLSpot (fun vs H Q E h => ?_) (fun cdv A outer s H vs Q E hr h => ?_)
  · obtain ⟨p, L, f, xs, B, rfl, _⟩ := h
    rfl
  · obtain ⟨p, L, f, xs, B, rfl, hf, fp, hlen, hx, hB, pn, kk⟩ := h
    have hr1 := hr.mono (show 1 ≤ 2 by decide)
    have pos : ∀ x ∈ xs, 1 ≤ x := fun x h => (hx x h).1
    obtain ⟨sb1, sb2⟩ := sum_bd hx
    have s20 : xs.sum ≤ 20 * 10 ^ 15 := Int.le_trans sb2 (Int.mul_le_mul_of_nonneg_right (by omega) (by decide))
    refine ⟨_, (pss_cons (ps_par (i := 2) (j := 3) (by rfl) scLSpot.nd rfl rfl (by decide) rfl rfl (pa_cons (pe_callB (cr_sum rfl) (by rfl) ms (by decide +kernel) (pa_cons (pv 1) pa_nil)) (pa_cons (pe_call G0 hr1 (by rfl) g0 k0 b0 .nil pass0 (pa_cons (pv 0) (pa_cons pe_int pa_nil))) pa_nil)) (by rfl))
    (pss_cons (ps_if (PW.pt (pw_or (pt_cmpR op_eq (pv 3) pe_int (nomark _)) (pw_or1 (pt_cmpR (op_eqD (Room.units hr)) (pv 1) (pe_lst pa_nil) (nomark _)))))
      (pss_one (ps_ret (pe_call G1 hr (by rfl) g1 k1 b1 .nil pass0 (pa_cons (pv 0) (pa_cons (pe_lst (pa_cons pe_int (pa_cons (pv 2) pa_nil))) pa_nil))))) pss_nil)
    (pss_cons (ps_set (i := 4) scLSpot.nd rfl (.inl rfl) (pe_call G0 hr1 (by rfl) g0 k0 b0 .nil pass0 (pa_cons (pv 0) (pa_cons (pe_callB call_len_seq (by rfl) T.len PySem.boot_len (pa_cons (pv 1) pa_nil)) pa_nil))))
    (pss_cons (ps_if (pt_cmpR op_lt (pv 3) pe_int (nomark _))
      (pss_one (ps_ret (pe_op op_add (pe_callB (cr_sum rfl) (by rfl) ms (by decide +kernel) (pa_cons (pe_slice sl_list (pv 1) po_none (po_some (pv 4))) pa_nil)) (pe_ifExp (pt_cmpR op_eq (pv 3) pe_int (nomark _)) (pe_op op_sub (pe_ix ix_list (pv 1) (pv 4) (fun _ _ => rfl)) pe_int) pe_int)))) pss_nil)
    (pss_one (ps_ret (pe_call G0 hr1 (by rfl) g0 k0 b0 .nil pass0 (pa_cons (pv 0) (pa_cons (pe_op op_add (pv 2) pe_int) pa_nil))))))))), ?_⟩
    refine ⟨_, rfl, f, xs, rfl, SqL.of hf, _, rfl, p, L, _, _, rfl, by decide, by decide, by omega, pn, fun kd H1 bt1 pn1 d0 d1 => ⟨_, _, rfl, ?_⟩⟩
    have hf1 := bt1 _ _ fp hf
    -- what is picked of the two ends
    have ends : ∀ (G : Hp), But p H G → Pen L G p (B + 1) → ∀ u : Addr, G u = none → spPick [.ref p, .ref u] (upd G u (.lst [.int 0, .int xs.sum])) Q E0 := fun G bt pg u nu =>
      ⟨p, u, L, _, _, rfl, upd_same, pg.ne nu, (by show 1 ≤ 2; decide), (by show 2 ≤ 1000; decide), by omega, pg.new nu, fun d H' hd bt' pn' => by
        simp only [List.mem_cons, List.not_mem_nil, or_false] at hd
        rcases hd with rfl | rfl
        · exact kk 0 H' (by decide) (by omega) (bt.trans ((But.upd_new nu).trans bt')) (pn'.mono (by omega))
        · exact kk xs.sum H' (by omega) (by omega) (bt.trans ((But.upd_new nu).trans bt')) (pn'.mono (by omega))⟩
    refine ⟨_, rfl, rfl, _, rfl, ?_⟩
    by_cases e0 : kd = 0
    · rw [show decide (V.int kd = V.int 0) = true from decide_eq_true (by rw [e0])]
      exact iteT (iteT ⟨_, rfl, _, rfl, (by show 2 ≤ sizeLine; decide), fun u nu => ends H1 bt1 pn1 u nu⟩)
    rw [show decide (V.int kd = V.int 0) = false from decide_eq_false fun h => e0 (V.int.inj h)]
    refine iteF ⟨_, rfl, (by show 0 ≤ sizeLine; decide), fun q2 nq2 => ?_⟩
    have s2 : Same H1 (upd H1 q2 (.lst [])) := same_new nq2
    have h2 : upd H1 q2 (.lst []) q2 = some (.lst ([] : List V)) := upd_same
    have pn2 := pn1.keep s2
    have bt2 := bt1.trans (Same.but s2)
    generalize upd H1 q2 (.lst []) = H2 at s2 h2 pn2 bt2 ⊢
    have hf2 := s2 _ _ hf1
    refine ⟨.list (xs.map PyData.int), .list [], .lst (SqL.of hf2) (dpInts _), .lst (SqL.of h2) .nil, sh_ints _, sh_ints [], _, rfl, ?_⟩
    rw [eqv_nil]
    by_cases ex : xs = []
    · subst ex
      exact iteT ⟨_, rfl, _, rfl, (by show 2 ≤ sizeLine; decide), fun u nu => ends H2 bt2 pn2 u nu⟩
    have n1 := List.length_pos_iff.mpr ex
    rw [show xs.isEmpty = false by cases xs with | nil => exact absurd rfl ex | cons => rfl]
    refine iteF ⟨_, rfl, _, rfl, f, _, rfl, .inl (SqL.of hf2), p, L, _, _, rfl, by rw [List.length_map]; omega, by rw [List.length_map]; omega, by omega, pn2, fun k H3 bt3 pn3 k0 k1 => ?_⟩
    rw [List.length_map] at k1
    obtain ⟨j, rfl⟩ := Int.eq_ofNat_of_zero_le k0
    have hj : j < xs.length := by omega
    obtain ⟨t1, t2, t3⟩ := sum_take pos hj
    have bt3' := bt2.trans bt3
    have hf3 := bt3 _ _ fp hf2
    refine ⟨_, rfl, _, _, rfl, rfl, _, rfl, ?_⟩
    by_cases e3 : kd < 3
    · rw [decide_eq_true e3]
      refine iteT ⟨_, rfl, _, rfl, _, rfl, slL hf3 fun a4 H4 s4 h4 => ?_⟩
      rw [cut_upto (by omega) (by omega), Int.toNat_natCast] at h4
      have hf4 := s4 _ _ hf3
      refine ⟨a4, _, rfl, SqL.of h4, ?_⟩
      have fin : ∀ z : Int, 0 ≤ z → z ≤ xs.sum → Q (.int z) H4 := fun z z0 z1 => kk z H4 z0 z1 (bt3'.trans (Same.but s4)) ((pn3.keep s4).mono (by omega))
      refine ⟨_, rfl, rfl, _, rfl, ?_⟩
      by_cases e1 : kd = 1
      · rw [show decide (V.int kd = V.int 1) = true from decide_eq_true (by rw [e1])]
        exact iteT ⟨_, rfl, _, rfl, f, _, _, _, rfl, rfl, SqL.of hf4, at_D hj, _, _, rfl, rfl, _, _, rfl, rfl, fin _ (by omega) (by omega)⟩
      · rw [show decide (V.int kd = V.int 1) = false from decide_eq_false fun h => e1 (V.int.inj h)]
        exact iteF ⟨_, _, rfl, rfl, fin _ (by omega) (by omega)⟩
    · rw [decide_eq_false e3]
      exact iteF ⟨_, rfl, _, rfl, _, _, rfl, rfl, p, L, _, _, rfl, by omega, by omega, by omega, pn3, fun d H4 bt4 pn4 x0 x1 => kk d H4 x0 (by omega) (bt3'.trans bt4) (pn4.mono (by omega))⟩
end
end Ev
namespace Ev
open PySem L2 PySem.Spec PyProof.Rows RZ
/-- the fills behind a deed may stand in a row -/
theorem grp_ok {xs : List Int} {k : Nat} {d m s c p : Int} (hk : k < xs.length) (h0 : 0 ≤ s) (h1 : s ≤ k) (h2 : (k : Int) < s + c) (h3 : s + c ≤ xs.length) (c6 : c ≤ 6) (hx : ∀ x ∈ xs, 1 ≤ x ∧ x ≤ 10 ^ 14) (hd : d = 1 ∨ d = -1) (p1 : 1 ≤ p) (p7 : p ≤ 7) (hl : xs.length ≤ 20)
    (lo : p ≤ (((bump xs k d).take (s + c).toNat).drop s.toNat).sum) : okFills (anewL (bump xs k d) s (s + c) p) := by
  obtain ⟨t1, t2, t3, t4⟩ := grp_bd (d := d) hk h0 h1 h2 h3 hx
  have bl := bump_len xs k d
  obtain ⟨_, xk⟩ := hx _ (getD_mem hk)
  have hi : (((bump xs k d).take (s + c).toNat).drop s.toNat).sum ≤ p * 10 ^ 15 := by
    have a1 : (c - 1) * (10 : Int) ^ 14 ≤ 5 * 10 ^ 14 := Int.mul_le_mul_of_nonneg_right (by omega) (by decide)
    have a2 : 1 * (10 : Int) ^ 15 ≤ p * 10 ^ 15 := Int.mul_le_mul_of_nonneg_right p1 (by decide)
    omega
  refine ⟨?_, fun z hz => ?_⟩
  · have := anewL_len (row := bump xs k d) (s := s) (e := s + c) (p := p) h0 (by omega) (by rw [bl]; exact h3) p1
    omega
  · rcases mem_anew hz with h | h | h
    · have := hx z (t3 z h); omega
    · exact dealtL_bd p1 (by omega) hi z h
    · have := hx z (t4 z h); omega
theorem dealt_ok {t p : Int} (p0 : 0 ≤ p) (p7 : p ≤ 7) (pz : p = 0 → t = 0) (lo : p ≤ t) (hi : t ≤ 10 ^ 15) : okFills (dealtL t p) := by
  by_cases z : p = 0
  · have := pz z
    subst z this
    rw [dealtL_zero]
    exact ⟨by decide, fun z h => by cases h⟩
  · refine ⟨by rw [dealtL_len (by omega)]; omega, fun z h => dealtL_bd (by omega) (by omega) ?_ z h⟩
    have a2 : 1 * (10 : Int) ^ 15 ≤ p * 10 ^ 15 := Int.mul_le_mul_of_nonneg_right (by omega) (by decide)
    omega
theorem put_ok {r : Fr} {m a : Int} {xs : List Int} (o : r.ok) (m1 : 2 ≤ m) (a1 : a ≤ xs.sum) (hx : ∀ x ∈ xs, 1 ≤ x ∧ x ≤ 10 ^ 13) (hl : xs.length ≤ 20) : okFills (r.putR m xs a).1 := by
  obtain ⟨w1, w2, w3, w4⟩ := Fr.wd_bd o
  have c1 := o.c1; have c2 := o.c2
  have pos : ∀ x ∈ xs, 0 ≤ x := fun x h => by have := hx x h; omega
  have ls := len_le_sum fun x h => (hx x h).1
  obtain ⟨_, sb⟩ := sum_bd hx
  have s20 : xs.sum ≤ 20 * 10 ^ 13 := Int.le_trans sb (Int.mul_le_mul_of_nonneg_right (by omega) (by decide))
  have hx14 : ∀ x ∈ xs, 1 ≤ x ∧ x ≤ 10 ^ 14 := fun x h => by have := hx x h; omega
  by_cases young : (xs.length : Int) ≤ r.wd
  · rw [put_young o young a1 pos]
    split
    · exact dealt_ok (by omega) (by omega) (fun e => by rename_i z; rw [e] at z; omega) (by omega) (by omega)
    · exact dealt_ok (by omega) (by omega) (fun e => by omega) (by omega) (by omega)
  · have ne : xs ≠ [] := fun z => by subst z; simp at young; omega
    have hlt := pageFor_lt a1 ne pos
    rw [put_big o (by omega) a1 pos]
    have bl := bump_len xs (pageFor xs a) 1
    split
    · refine ⟨by rw [bl]; omega, fun z hz => ?_⟩
      have := hx _ (getD_mem hlt)
      rcases mem_bump hz with h | rfl
      · have := hx z h; omega
      · omega
    · obtain ⟨g1, g2, g3, g4⟩ := groupS_bd (k := pageFor xs a) (n := xs.length) (c := r.c) hlt c1 (by omega)
      obtain ⟨t1, t2, _, _⟩ := grp_bd (d := 1) hlt g1 g3 g4 g2 hx14
      have xk := hx _ (getD_mem hlt)
      have cm : r.c * 2 ≤ r.c * m := Int.mul_le_mul_of_nonneg_left m1 (by omega)
      refine grp_ok (m := m) hlt g1 g3 g4 g2 (by omega) hx14 (.inl rfl) (by split <;> omega) (by split <;> omega) hl ?_
      split <;> omega
theorem take_ok {r : Fr} {m i : Int} {xs : List Int} (o : r.ok) (m1 : 2 ≤ m) (f1 : 1 ≤ r.least m) (ne : xs ≠ []) (a1 : i < xs.sum) (hx : ∀ x ∈ xs, 1 ≤ x ∧ x ≤ 10 ^ 13) (hl : xs.length ≤ 20) : okFills (r.takeR m xs i).1 := by
  obtain ⟨w1, w2, w3, w4⟩ := Fr.wd_bd o
  have c1 := o.j1; have c2 := o.j2
  have pos : ∀ x ∈ xs, 0 ≤ x := fun x h => by have := hx x h; omega
  have ls := len_le_sum fun x h => (hx x h).1
  obtain ⟨_, sb⟩ := sum_bd hx
  have s20 : xs.sum ≤ 20 * 10 ^ 13 := Int.le_trans sb (Int.mul_le_mul_of_nonneg_right (by omega) (by decide))
  have hx14 : ∀ x ∈ xs, 1 ≤ x ∧ x ≤ 10 ^ 14 := fun x h => by have := hx x h; omega
  have n1 := List.length_pos_iff.mpr ne
  by_cases young : (xs.length : Int) ≤ r.wd
  · rw [take_young young ne a1 pos]
    have lm : ((xs.length : Int) - 1) * 2 ≤ ((xs.length : Int) - 1) * m := Int.mul_le_mul_of_nonneg_left m1 (by omega)
    split
    · exact dealt_ok (by omega) (by omega) (fun e => by rename_i z; rw [e] at z; omega) (by omega) (by omega)
    · exact dealt_ok (by omega) (by omega) (fun e => by omega) (by omega) (by omega)
  · have hlt := pageAt_lt a1 ne pos
    rw [take_big (by omega) ne a1 pos]
    have bl := bump_len xs (pageAt xs i) (-1)
    split
    · refine ⟨by rw [bl]; omega, fun z hz => ?_⟩
      have := hx _ (getD_mem hlt)
      rcases mem_bump hz with h | rfl
      · have := hx z h; omega
      · omega
    · obtain ⟨g1, g2, g3, g4⟩ := groupS_bd (k := pageAt xs i) (n := xs.length) (c := r.j) hlt (by omega) (by omega)
      obtain ⟨t1, t2, _, _⟩ := grp_bd (d := -1) hlt g1 g3 g4 g2 hx14
      have xk := hx _ (getD_mem hlt)
      have jl : r.j * 1 ≤ r.j * r.least m := Int.mul_le_mul_of_nonneg_left f1 (by omega)
      refine grp_ok (m := m) hlt g1 g3 g4 g2 (by omega) hx14 (.inr rfl) (by split <;> omega) (by split <;> omega) hl ?_
      split <;> omega
end Ev
namespace Ev
open PySem L2 PySem.Spec PyProof.Rows RZ
theorem sh_intsT (ns : List Int) : SeqAt.shaped (.tuple (ns.map PyData.int)) = true := by
  have h := sh_ints ns
  unfold SeqAt.shaped at h ⊢
  simpa [PyData.canLay0, PyData.depth] using h
theorem eqv_tupI (ps qs : List Int) : PyData.eqv (.tuple (ps.map PyData.int)) (.tuple (qs.map PyData.int)) = decide (ps = qs) := by
  have h : ∀ ps qs : List Int, PyData.eqvAll (ps.map PyData.int) (qs.map PyData.int) = decide (ps = qs) := by
    intro ps
    induction ps with
    | nil => intro qs; cases qs <;> simp [PyData.eqvAll]
    | cons a r ih =>
      intro qs
      cases qs with
      | nil => simp [PyData.eqvAll]
      | cons c t =>
        simp only [List.map_cons, PyData.eqvAll, ih t, PyData.eqv]
        by_cases e1 : a = c <;> by_cases e2 : r = t <;> simp [e1, e2]
  simp only [PyData.eqv, h]
theorem sub_no {K : PySem.W.Frag} {C : Addr} {T : String} {l : List String} (h : fastBuiltinMro T = some (l.map Value.type)) : PySem.W.subIn K (.type T) (.ref C) = some false := by
  show (fastBuiltinMro T).map (·.contains (.ref C)) = some false
  rw [h]
  have z : (l.map Value.type).contains (.ref C) = false := by
    rw [Bool.eq_false_iff]
    intro z
    have m := List.contains_iff_mem.mp z
    simp at m
  exact congrArg some z
def frB (r s : Fr) : Bool := decide ([r.p, r.q] = [s.p, s.q]) && (decide (V.int r.k = V.int s.k) && (decide (V.int r.c = V.int s.c) && decide (V.int r.j = V.int s.j)))
theorem frB_self (r : Fr) : frB r r = true := by simp [frB]
theorem frB_ne {r s : Fr} (e : r ≠ s) : frB r s = false := by
  obtain ⟨p, q, k, c, j⟩ := r
  obtain ⟨p', q', k', c', j'⟩ := s
  rw [Bool.eq_false_iff]
  intro z
  apply e
  simp only [frB, Bool.and_eq_true, decide_eq_true_eq, List.cons.injEq, V.int.injEq, and_true] at z
  obtain ⟨⟨rfl, rfl⟩, rfl, rfl, rfl⟩ := z
  rfl
def spEqF (K : PySem.W.Frag) (C : Addr) : Sp := fun vs H Q _ => ∃ (x : Addr) (y : V) (r : Fr), vs = [.ref x, y] ∧ FAt C H x r ∧ ((∃ (z : Addr) (s : Fr), y = .ref z ∧ FAt C H z s ∧ Q (.bl (frB r s)) H) ∨ (∃ t : Value, TyX K H y t ∧ PySem.W.kitOne K t (.ref C) = some false ∧ Q (.bl false) H))
section
variable {P : Program} {w : World} {K : PySem.W.Frag} {mg : Str → Option Value} {base : Heap}
theorem scFillEq : FnScope ["self", "other"] ["self", "other"] (defScope sFillRule_eq) := ⟨rfl, rfl, rfl, by decide +kernel, rfl, by decide +kernel, by decide +kernel⟩
theorem ok_fillEq {f C : Addr} {fd : FuncData} (F : Fun K "__eq__" "FillRule.__eq__" sFillRule_eq f fd) (T : Blt mg) (TC : FCls K C) (IT : InsT K C) (gC : mg "FillRule" = some (.ref C)) : FnOk P w K mg base CX0 1 f fd ["self", "other"] (spEqF K C) := by
  refine F.ok scFillEq (fun vs H Q E h => ?_) (fun cdv A outer s H vs Q E hr h => ?_)
  · obtain ⟨x, y, r, rfl, _⟩ := h
    rfl
  · obtain ⟨x, y, r, rfl, ⟨dx, a, hx, ha⟩, h⟩ := h
    refine ⟨_, pss_one (ps_ret (pe_and (pe_callB call_isi (by rfl) T.isi (by decide +kernel) (pa_cons (pv 1) (pa_cons (pe_glob (v := .ref C) rfl gC rfl) pa_nil)))
      (pe_and (pe_cmpR (op_eqD (Room.units hr)) (pe_fld (pv 0) rfl) (pe_fld (pv 1) rfl) (nomark _)) (pe_and (pe_cmpR op_eq (pe_fld (pv 0) rfl) (pe_fld (pv 1) rfl) (nomark _))
      (pe_and (pe_cmpR op_eq (pe_fld (pv 0) rfl) (pe_fld (pv 1) rfl) (nomark _)) (pe_one (pe_cmpR op_eq (pe_fld (pv 0) rfl) (pe_fld (pv 1) rfl) (nomark _)))))))), ?_⟩
    rcases h with ⟨z, s2, rfl, ⟨dy, a', hy, ha'⟩, k⟩ | ⟨t, ty, kt, k⟩
    · refine ⟨_, rfl, _, _, _, _, true, rfl, .own C, .base (.ins hy TC.cl IT.ha IT.hn IT.htk IT.hm), kit_self, true, rfl, iteT ?_⟩
      refine ⟨_, rfl, x, C, dx, _, _, rfl, hx, TC.cl, TC.n1, fill_times _ _, _, rfl, z, C, dy, _, _, rfl, hy, TC.cl, TC.n1, fill_times _ _, _, _, .tup (SqT.of ha) (dpInts [r.p, r.q]), .tup (SqT.of ha') (dpInts [s2.p, s2.q]), sh_intsT _, sh_intsT _, _, rfl, ?_⟩
      rw [eqv_tupI]
      unfold frB at k
      by_cases e : [r.p, r.q] = [s2.p, s2.q]
      · rw [decide_eq_true e] at k ⊢
        refine iteT ⟨_, rfl, x, C, dx, _, _, rfl, hx, TC.cl, TC.n2, fill_plus _ _, _, rfl, z, C, dy, _, _, rfl, hy, TC.cl, TC.n2, fill_plus _ _, rfl, _, rfl, ?_⟩
        by_cases e2 : V.int r.k = V.int s2.k
        · rw [decide_eq_true e2] at k ⊢
          refine iteT ⟨_, rfl, x, C, dx, _, _, rfl, hx, TC.cl, TC.n3, fill_cut _ _, _, rfl, z, C, dy, _, _, rfl, hy, TC.cl, TC.n3, fill_cut _ _, rfl, _, rfl, ?_⟩
          by_cases e3 : V.int r.c = V.int s2.c
          · rw [decide_eq_true e3] at k ⊢
            refine iteT ⟨_, rfl, x, C, dx, _, _, rfl, hx, TC.cl, TC.n4, fill_join _ _, _, rfl, z, C, dy, _, _, rfl, hy, TC.cl, TC.n4, fill_join _ _, rfl, ?_⟩
            simpa using k
          · rw [decide_eq_false e3] at k ⊢
            exact iteF (by simpa using k)
        · rw [decide_eq_false e2] at k ⊢
          exact iteF (by simpa using k)
      · rw [decide_eq_false e] at k ⊢
        exact iteF (by simpa using k)
    · exact ⟨_, rfl, _, _, _, _, false, rfl, .own C, ty, kt, _, rfl, iteF k⟩
end
end Ev
namespace Ev
open PySem L2 PySem.Spec PyProof.Rows
/-! == and != by an own __eq__, both answers, beside values of other types. -/
section
variable {prog : Program} {w : World} {A : Around} {E : Value → Shared → Prop} {s : Shared} {K : PySem.W.Frag} {x C f : Addr} {ox : Obj} {od : Option Obj} {y : Value}
theorem neEntry {Q : Fin → Shared → Prop} (room : A.units < cLine) (X : K.In s.heap) (I : PySem.W.InstAt s.heap x ox C od) (he : PySem.W.findIn K (.ref C) "__eq__" = some (some (.ref f))) (hf : PySem.W.isFn K (.ref f) = true)
    (h : wpAny (model prog w) A (call (.ref f) [.ref x, y]) (fun v s' => ∃ b, v = .bool b ∧ Q (.done (.ret (.bool (!b)))) s') E s) : wpAny (model prog w) A (Builtin.«object.__ne__» ⟨[.ref x, y], []⟩) Q E s := by
  have asked : wpAny (model prog w) A (callSpecialIfBound? (.ref x) (Str.ofString "__eq__") [y]) (fun r s' => ∃ b, r = some (.bool b) ∧ Q (.done (.ret (.bool (!b)))) s') E s := by
    refine PySem.W.ifBound_K X I he hf (wpAny_mono h (fun v s' hv => ?_) fun _ _ z => z)
    obtain ⟨b, rfl, q⟩ := hv
    exact ⟨b, rfl, q⟩
  unfold Builtin.«object.__ne__»
  repeat (first
    | (with_reducible refine wpAny_cRoomFor room ?_)
    | (refine wpAny_bind (m := callSpecialIfBound? (.ref x) (Str.ofString "__eq__") [y]) (wpAny_mono asked (fun r s' hr => ?_) fun _ _ z => z)
       obtain ⟨b, rfl, q⟩ := hr)
    | exact q
    | (exact wpAny_truthy_bool q)
    | wp_step)
theorem neCall {Q : Value → Shared → Prop} (room : A.in1.units < cLine) (X : K.In s.heap) (I : PySem.W.InstAt s.heap x ox C od) (hm : PySem.W.mroIn K C (.type "object") = some true) (he : PySem.W.findIn K (.ref C) "__eq__" = some (some (.ref f))) (hf : PySem.W.isFn K (.ref f) = true)
    (h : wpAny (model prog w) A.in1 (call (.ref f) [.ref x, y]) (fun v s' => ∃ b, v = .bool b ∧ Q (.bool (!b)) s') E s) : wpAny (model prog w) A (call (.builtin "object.__ne__") [.ref x, y]) Q E s :=
  wpAny_call (codeAny_call_builtin F.cmp_object.ne.plain F.cmpEntry_ne (PySem.W.check_slot F.cmpKind_ne F.cmpSplit_ne (I.type.andThen (PySem.W.looks_mroIn X hm)) (F.cmpArgs_ne _ _)
    (neEntry room X I he hf h)))
theorem neBound {Q : Option Value → Shared → Prop} {M : Model} (X : K.In s.heap) (I : PySem.W.InstAt s.heap x ox C od) (hn : PySem.W.findIn K (.ref C) "__ne__" = some (some (.builtin "object.__ne__")))
    (h : wpAny M A (call (.builtin "object.__ne__") [.ref x, y]) (fun v => Q (some v)) E s) : wpAny M A (callSpecialIfBound? (.ref x) "__ne__" [y]) Q E s := by
  have last : wpAny M A (call (.builtin "object.__ne__") ([.ref x] ++ [y]) >>= fun v => pure (some v)) Q E s := by
    refine wpAny_bind (wpAny_mono h (fun v s' z => ?_) fun _ _ z => z)
    exact wpAny_pure z
  simp only [callSpecialIfBound?, bindSpecialIfBound?]
  refine wpAny_holding (wpAny_bind (wpAny_bind (wpAny_bind (I.type.here ?_))))
  refine (PySem.W.looks_findIn X hn).here (wpAny_bind (wpAny_askSetting (wpAny_ite ?_)))
  have bd := F.cmp_object.ne.bind (.ref x)
  split
  · refine wpAny_bind (wpAny_of_eq bd ?_)
    exact wpAny_pure (by exact last)
  · refine wpAny_tryCatch (wpAny_bind (wpAny_of_eq bd ?_))
    exact wpAny_pure (by exact last)
theorem neRich {Q : Value → Shared → Prop} {tb : Value} (room : A.units + 1 < cLine) (X : K.In s.heap) (I : PySem.W.InstAt s.heap x ox C od) (hb : PySem.W.Looks (model prog w) s.heap (typeOf y) tb) (nf : PySem.W.notFirst K C tb = true)
    (hm : PySem.W.mroIn K C (.type "object") = some true) (hn : PySem.W.findIn K (.ref C) "__ne__" = some (some (.builtin "object.__ne__"))) (he : PySem.W.findIn K (.ref C) "__eq__" = some (some (.ref f))) (hf : PySem.W.isFn K (.ref f) = true)
    (h : wpAny (model prog w) A.in1 (call (.ref f) [.ref x, y]) (fun v s' => ∃ b, v = .bool b ∧ Q (.bool (!b)) s') E s) : wpAny (model prog w) A (richCompare .NotEq (.ref x) y) Q E s := by
  have one : wpAny (model prog w) A (tryCompare (.ref x) "__ne__" y) (fun r s' => ∃ b, r = some (.bool b) ∧ Q (.bool b) s') E s := by
    unfold tryCompare
    refine wpAny_bind (neBound X I hn (neCall (show A.in1.units < cLine from room) X I hm he hf (wpAny_mono h (fun v s' z => ?_) fun _ _ z => z)))
    obtain ⟨b, rfl, q⟩ := z
    exact ⟨b, rfl, wpAny_pure ⟨_, rfl, q⟩⟩
  unfold richCompare
  simp only [oneThing_ref]
  rw [cmpInfo_NotEq]
  refine wpAny_holding (wpAny_bind (wpAny_cRoomFor (Nat.lt_of_succ_lt room) ?_))
  refine wpAny_bind (I.type.here ?_)
  refine wpAny_bind (hb.here ?_)
  split
  · rename_i q
    have sub : PySem.W.subIn K tb (.ref C) = some false := by
      rcases Bool.or_eq_true_iff.mp nf with z | z
      · rw [beq_iff_eq.mp z] at q
        simp at q
      · exact beq_iff_eq.mp z
    refine wpAny_bind ((PySem.W.looks_subIn X sub).here ?_)
    simp only [Bool.false_eq_true, if_false]
    refine wpAny_bind (wpAny_mono one (fun r s' z => ?_) fun _ _ z => z)
    obtain ⟨b, rfl, q2⟩ := z
    exact wpAny_pure q2
  · refine wpAny_bind (wpAny_pure ?_)
    simp only [Bool.false_eq_true, if_false]
    refine wpAny_bind (wpAny_mono one (fun r s' z => ?_) fun _ _ z => z)
    obtain ⟨b, rfl, q2⟩ := z
    exact wpAny_pure q2
end
/-- which types come behind an own class -/
theorem nf_own {K : PySem.W.Frag} {C : Addr} : PySem.W.notFirst K C (.ref C) = true := by
  unfold PySem.W.notFirst
  simp
theorem nf_sub {K : PySem.W.Frag} {C : Addr} {t : Value} (h : PySem.W.subIn K t (.ref C) = some false) : PySem.W.notFirst K C t = true := by
  unfold PySem.W.notFirst
  rw [h]
  simp
theorem nf_ty {K : PySem.W.Frag} {C : Addr} {T : String} {l : List String} (h : fastBuiltinMro T = some (l.map Value.type)) : PySem.W.notFirst K C (.type T) = true := by
  refine nf_sub ?_
  show (fastBuiltinMro T).map (·.contains (.ref C)) = some false
  rw [h]
  have z : (l.map Value.type).contains (.ref C) = false := by
    rw [Bool.eq_false_iff]
    intro z
    have m := List.contains_iff_mem.mp z
    simp at m
  exact congrArg some z
section
variable {X : Cx} {CX : CXT} {C g : Addr} {n : Nat} {sp : Sp} {E : XK}
/-- what an own == promises for such values: a truth -/
def rOwnB (K : PySem.W.Frag) (C : Addr) (sp : Sp) (E : XK) (neg : Bool) : R2 := fun x y H Q => ∃ (a dx : Addr) (fs : List (Str × V)) (t : Value), x = .ref a ∧ H a = some (.ins C dx fs) ∧ TyX K H y t ∧ PySem.W.notFirst K C t = true ∧ sp [x, y] H (fun z H' => ∃ b, z = .bl b ∧ Q (.bl (neg ^^ b)) H') E
theorem op_eqO (he : PySem.W.findIn X.K (.ref C) "__eq__" = some (some (.ref g))) (hf : PySem.W.isFn X.K (.ref g) = true) (F : FnR X.prog X.w X.K X.mg X.base CX n g sp) (hr : Room n X.A) (hx : Passes CX X E) : OpR X (compareOp .Eq) (rOwnB X.K C sp E false) := by
  intro pins s σ H x y v u Q I rx ry h
  obtain ⟨a, dx, fs, t, rfl, ha, ty, nf, q⟩ := h
  cases (show v = Value.ref a from rx)
  obtain ⟨mA, J, _⟩ := ins_get I.hok ha
  obtain ⟨od, J, _⟩ := J.look
  obtain ⟨m, hF⟩ := I.fr
  obtain ⟨P, Z, hP, _⟩ := kit_of I ry ty
  show wpAny _ _ (richCompare .Eq (.ref a) u) _ _ s
  refine PySem.W.cmp_K (op := .Eq) hr.units0 hF I.ok.mod.kin J (Z.ty _ _ I.kIn hP) nf he hf ?_
  refine wpAny_mono (wpAny_call (SlX.run_at (us := [.ref a, u]) (ws := [.ref a, y]) F hr I.env0 hx I (.cons rfl (.cons ry .nil)) q)) (fun w' s' z => ?_) fun _ _ z => z
  obtain ⟨z', H', I', rz, b, rfl, q'⟩ := z
  cases (show w' = Value.bool b from rz)
  have q' : Q (.bl b) H' := by simpa using q'
  exact ⟨.bl b, H', I', rfl, q'⟩
theorem op_neO (he : PySem.W.findIn X.K (.ref C) "__eq__" = some (some (.ref g))) (hn : PySem.W.findIn X.K (.ref C) "__ne__" = some (some (.builtin "object.__ne__"))) (hm : PySem.W.mroIn X.K C (.type "object") = some true) (hf : PySem.W.isFn X.K (.ref g) = true)
    (F : FnR X.prog X.w X.K X.mg X.base CX n g sp) (hr : Room (n + 1) X.A) (hx : Passes CX X E) : OpR X (compareOp .NotEq) (rOwnB X.K C sp E true) := by
  intro pins s σ H x y v u Q I rx ry h
  obtain ⟨a, dx, fs, t, rfl, ha, ty, nf, q⟩ := h
  cases (show v = Value.ref a from rx)
  obtain ⟨mA, J, _⟩ := ins_get I.hok ha
  obtain ⟨od, J, _⟩ := J.look
  obtain ⟨P, Z, hP, _⟩ := kit_of I ry ty
  have hr1 : Room n X.A.in1 := hr.in1
  show wpAny _ _ (richCompare .NotEq (.ref a) u) _ _ s
  refine neRich (by have := hr1.units0; exact this) I.kIn J (Z.ty _ _ I.kIn hP) nf hm hn he hf ?_
  refine wpAny_mono (wpAny_call (SlX.run_at (us := [.ref a, u]) (ws := [.ref a, y]) F hr1 I.env0.in1 hx I (.cons rfl (.cons ry .nil)) q)) (fun w' s' z => ?_) fun _ _ z => z
  obtain ⟨z', H', I', rz, b, rfl, q'⟩ := z
  cases (show w' = Value.bool b from rz)
  have q' : Q (.bl (!b)) H' := by simpa using q'
  exact ⟨b, rfl, .bl (!b), H', I', rfl, q'⟩
end
end Ev
namespace Ev
open PySem L2 PySem.Spec PyProof.Rows RZ
/-! Rows that are equal. -/
def spRowE (R C : Addr) : Sp := fun vs H Q _ => ∃ (x y : Addr) (r : Fr) (m : Int) (xs : List Int), vs = [.ref x, .ref y] ∧ RAt R C H x r m xs ∧ RAt R C H y r m xs ∧ Q (.bl true) H
/-- the own == of fill rules -/
structure FEq (P : Program) (w : World) (K : PySem.W.Frag) (mg : Str → Option Value) (base : Heap) (C : Addr) : Prop where
  two : FTwo K C
  ne : PySem.W.findIn K (.ref C) "__ne__" = some (some (.builtin "object.__ne__"))
  ex : ∃ g : Addr, PySem.W.findIn K (.ref C) "__eq__" = some (some (.ref g)) ∧ PySem.W.isFn K (.ref g) = true ∧ FnR P w K mg base CX0 1 g (spEqF K C)
structure RTwo (K : PySem.W.Frag) (R : Addr) : Prop where
  cl : RowC K R
  it : InsT K R
theorem tyR {K : PySem.W.Frag} {R : Addr} {H : Hp} {x dx : Addr} {fs : List (Str × V)} (T : RTwo K R) (h : H x = some (.ins R dx fs)) : TyX K H (.ref x) (.ref R) := .base (.ins h T.cl.cl T.it.ha T.it.hn T.it.htk T.it.hm)
section
variable {P : Program} {w : World} {K : PySem.W.Frag} {mg : Str → Option Value} {base : Heap}
theorem scRowE : FnScope ["self", "other"] ["self", "other"] (defScope sRow_eq) := ⟨rfl, rfl, rfl, by decide +kernel, rfl, by decide +kernel, by decide +kernel⟩
theorem ok_rowE {f R C : Addr} {fd : FuncData} (F : Fun K "__eq__" "Row.__eq__" sRow_eq f fd) (T : Blt mg) (RT : RTwo K R) (gR : mg "Row" = some (.ref R)) (FQ : FEq P w K mg base C) : FnOk P w K mg base CX0 2 f fd ["self", "other"] (spRowE R C) := by
  obtain ⟨g, he, hf, G⟩ := FQ.ex
  have TR := RT.cl
  refine F.ok scRowE (fun vs H Q E h => ?_) (fun cdv A outer s H vs Q E hr h => ?_)
  · obtain ⟨x, y, r, m, xs, rfl, _⟩ := h
    rfl
  · obtain ⟨x, y, r, m, xs, rfl, ⟨dx, fx, lx, hx, fa, hlx⟩, ⟨dy, fy, ly, hy, fb, hly⟩, k⟩ := h
    obtain ⟨dfx, ax, hfx, _⟩ := id fa
    obtain ⟨dfy, ay, hfy, _⟩ := id fb
    refine ⟨_, (pss_one (ps_ret (pe_and (pe_callB call_isi (by rfl) T.isi (by decide +kernel) (pa_cons (pv 1) (pa_cons (pe_glob (v := .ref R) rfl gR rfl) pa_nil))) (pe_and (pe_cmpR (op_eqO (E := E0) he hf G hr pass0) (pe_fld (pv 0) rfl) (pe_fld (pv 1) rfl) (nomark _)) (pe_and (pe_cmpR op_eq (pe_fld (pv 0) rfl) (pe_fld (pv 1) rfl) (nomark _)) (pe_one (pe_cmpR (op_eqD (Room.units hr)) (pe_fld (pv 0) rfl) (pe_fld (pv 1) rfl) (nomark _)))))))), ?_⟩
    refine ⟨_, rfl, _, _, _, _, true, rfl, .own R, tyR RT hy, kit_self, true, rfl, iteT ?_⟩
    refine ⟨_, rfl, x, R, dx, _, _, rfl, hx, TR.cl, TR.n1, row_rule _ _ _, _, rfl, y, R, dy, _, _, rfl, hy, TR.cl, TR.n1, row_rule _ _ _, fx, dfx, _, .ref C, rfl, hfx, tyF FQ.two hfy, nf_own, fx, .ref fy, r, rfl, fa, .inl ⟨fy, r, rfl, fb, _, rfl, _, rfl, ?_⟩⟩
    rw [frB_self]
    refine iteT ⟨_, rfl, x, R, dx, _, _, rfl, hx, TR.cl, TR.n2, row_most _ _ _, _, rfl, y, R, dy, _, _, rfl, hy, TR.cl, TR.n2, row_most _ _ _, rfl, _, rfl, ?_⟩
    rw [decide_eq_true rfl]
    refine iteT ⟨_, rfl, x, R, dx, _, _, rfl, hx, TR.cl, TR.n3, row_fills _ _ _, _, rfl, y, R, dy, _, _, rfl, hy, TR.cl, TR.n3, row_fills _ _ _, _, _, .tup (SqT.of hlx) (dpInts xs), .tup (SqT.of hly) (dpInts xs), sh_intsT _, sh_intsT _, ?_⟩
    rw [eqv_tupI, decide_eq_true rfl]
    exact k
end
/-- rows alike, and what stands beside them in the answer of a deed -/
def DRow (R C : Addr) : Eqv := DIns R fun a b H => ∃ r m xs, RAt R C H a r m xs ∧ RAt R C H b r m xs
theorem mon_row (R C : Addr) : Mon (DRow R C) := mon_ins fun a b H H' e ⟨r, m, xs, h1, h2⟩ => ⟨r, m, xs, h1.keep e, h2.keep e⟩
/-- the answer of a deed: a pair -/
def DAns (K : PySem.W.Frag) (R C : Addr) : Eqv := DTup K fun x y H => DRow R C x y H ∨ (DFlat x y H ∨ DTup K DFlat x y H)
theorem mon_in (K : PySem.W.Frag) (R C : Addr) : Mon fun x y H => DRow R C x y H ∨ (DFlat x y H ∨ DTup K DFlat x y H) := Mon.or (mon_row R C) (Mon.or mon_flat (mon_tup mon_flat))
structure REq (P : Program) (w : World) (K : PySem.W.Frag) (mg : Str → Option Value) (base : Heap) (R C : Addr) : Prop where
  ex : ∃ (g : Addr) (fd : FuncData), PySem.W.findIn K (.ref R) "__eq__" = some (some (.ref g)) ∧ PySem.W.isFn K (.ref g) = true ∧ FnOk P w K mg base CX0 2 g fd ["self", "other"] (spRowE R C) ∧ Binds K fd ["self", "other"] []
theorem rc_ans {X : Cx} {R C : Addr} (V : REq X.prog X.w X.K X.mg X.base R C) : RcG X 3 (DAns X.K R C) := by
  obtain ⟨f, fd, h1, h2, G, b⟩ := V.ex
  have e1 : EqG X 2 (DRow R C) := eqG_ins (E := E0) (FnOk.less G fun vs H Q E h => by
    obtain ⟨x, y, rfl, ⟨r, m, xs, a1, a2⟩, k⟩ := h
    exact ⟨x, y, r, m, xs, rfl, a1, a2, k H Ext.rfl'⟩) h1 h2 b pass0
  have e2 : EqG X 2 (fun x y H => DFlat x y H ∨ DTup X.K DFlat x y H) := EqG.or (eqG_flat.mono (by decide)) ((eqG_tup mon_flat eqG_flat).mono (by decide))
  exact rcG_tup (mon_in X.K R C) (EqG.or e1 e2)
theorem ans_of {K : PySem.W.Frag} {R C : Addr} {H : Hp} {t1 t2 y1 y2 : Addr} {v1 v2 : V} {r : Fr} {m : Int} {xs : List Int} {d : Deed} (h1 : H t1 = some (.tup [.ref y1, v1])) (h2 : H t2 = some (.tup [.ref y2, v2])) (a1 : RAt R C H y1 r m xs) (a2 : RAt R C H y2 r m xs) (d1 : DeedV H v1 d) (d2 : DeedV H v2 d) : DAns K R C (.ref t1) (.ref t2) H := by
  obtain ⟨dx, x, l, e1, _, _⟩ := id a1
  obtain ⟨dx', x', l', e2, _, _⟩ := id a2
  refine ⟨t1, t2, _, _, rfl, rfl, SqT.of h1, SqT.of h2, .cons (.inl ⟨y1, y2, dx, dx', _, _, rfl, rfl, e1, e2, r, m, xs, a1, a2⟩) (.cons (.inr ?_) .nil)⟩
  cases d with
  | none =>
    obtain rfl : v1 = .non := d1
    obtain rfl : v2 = .non := d2
    exact .inl ⟨rfl, rfl, rfl⟩
  | some p =>
    obtain ⟨b, i⟩ := p
    obtain ⟨u1, rfl, g1⟩ := d1
    obtain ⟨u2, rfl, g2⟩ := d2
    exact .inr ⟨u1, u2, _, _, rfl, rfl, SqT.of g1, SqT.of g2, .cons ⟨rfl, rfl, by simp [eqV]⟩ (.cons ⟨rfl, rfl, by simp [eqV]⟩ .nil)⟩
end Ev
namespace Ev
open PySem L2 PySem.Spec PyProof.Rows RZ
/-! How the answer of a deed shows. -/
theorem bg_log {n : Int} (h : n.natAbs ≤ 10 ^ 16) : n.natAbs.log2 < 54 := by
  by_cases z : n.natAbs = 0
  · rw [z]; decide
  · exact (Nat.log2_lt z).mpr (Nat.lt_of_le_of_lt h (by decide +kernel))
theorem bg_weight {n : Int} (h : n.natAbs ≤ 10 ^ 16) : (PyData.int n).weight ≤ 54 := by
  have := bg_log h
  simp only [PyData.weight]
  split <;> omega
theorem bg_show {n : Int} (h : n.natAbs ≤ 10 ^ 16) : (PyData.int n).showable = true := decide_eq_true (Nat.lt_trans (bg_log h) (by decide))
theorem bg_leaf {n : Int} (h : n.natAbs ≤ 10 ^ 16) : (PyData.int n).leavesShort 2000 = true := by
  have e := int_text_length_le (k := 1920) (by decide) (Nat.lt_of_lt_of_le (bg_log h) (by decide))
  refine decide_eq_true ?_
  show (Str.ofString (toString n)).length ≤ 2000
  rw [PySem.ofString_length]
  omega
theorem show_len {d : PyData} (h : d.leavesShort 2000 = true) (hw : d.weight ≤ 8000) : d.shown.length ≤ sizeLine := by
  have := PyData.shown_le 2000 (by decide) d h
  rw [sizeLine_eq]
  omega
def Bgs (ns : List Int) : Prop := ∀ n ∈ ns, n.natAbs ≤ 10 ^ 16
theorem Bgs.show {ns : List Int} (h : Bgs ns) : PyData.showableAll (ns.map PyData.int) = true ∧ PyData.leavesShortAll 2000 (ns.map PyData.int) = true ∧ PyData.weightAll (ns.map PyData.int) ≤ 60 * ns.length ∧ PyData.hasDictAll (ns.map PyData.int) = false ∧ PyData.depthAll (ns.map PyData.int) = 0 := by
  induction ns with
  | nil => exact ⟨rfl, rfl, Nat.le_refl _, rfl, rfl⟩
  | cons n r ih =>
    obtain ⟨a, b, c, d, e⟩ := ih fun x hx => h x (List.mem_cons_of_mem _ hx)
    have hn := h n List.mem_cons_self
    have s1 := bg_show hn
    have w1 := bg_weight hn
    have l1 := bg_leaf hn
    refine ⟨?_, ?_, ?_, ?_, ?_⟩
    · rw [List.map_cons, PyData.showableAll, s1, a]; rfl
    · rw [List.map_cons, PyData.leavesShortAll, l1, b]; rfl
    · rw [List.map_cons, PyData.weightAll, List.length_cons]; omega
    · rw [List.map_cons, PyData.hasDictAll, d]; rfl
    · rw [List.map_cons, PyData.depthAll, e]; rfl
def deedD : Deed → PyData
  | none => .none
  | some (b, i) => .tuple [.str (if b = true then "more" else "fewer"), .int i]
def smallD : Deed → Prop
  | none => True
  | some (_, i) => i.natAbs ≤ 10 ^ 16
theorem deed_show {d : Deed} (h : smallD d) : (deedD d).showable = true ∧ (deedD d).hasDict = false ∧ (deedD d).depth ≤ 1 ∧ (deedD d).leavesShort 2000 = true ∧ (deedD d).weight ≤ 200 := by
  cases d with
  | none => exact ⟨rfl, rfl, by decide, rfl, by decide⟩
  | some p =>
    obtain ⟨b, i⟩ := p
    have s1 := bg_show h
    have w1 := bg_weight h
    have l1 := bg_leaf h
    have q1 : (PyData.str (if b = true then "more" else "fewer")).showable = true := by cases b <;> decide +kernel
    have q2 : (PyData.str (if b = true then "more" else "fewer")).leavesShort 2000 = true := by cases b <;> decide +kernel
    have q3 : (PyData.str (if b = true then "more" else "fewer")).weight ≤ 50 := by cases b <;> decide +kernel
    refine ⟨?_, ?_, ?_, ?_, ?_⟩
    · rw [deedD, PyData.showable, PyData.showableAll, PyData.showableAll, PyData.showableAll, q1, s1]; rfl
    · simp only [deedD, PyData.hasDict, PyData.hasDictAll, Bool.or_false]
    · simp only [deedD, PyData.depth, PyData.depthAll]; decide
    · rw [deedD, PyData.leavesShort, PyData.leavesShortAll, PyData.leavesShortAll, PyData.leavesShortAll, q2, l1]; rfl
    · simp only [deedD, PyData.weight, PyData.weightAll] at w1 q3 ⊢
      omega
def ansD (xs : List Int) (m : Int) (d : Deed) : PyData := .list [.tuple (xs.map PyData.int), .int m, deedD d]
theorem ans_show {xs : List Int} {m : Int} {d : Deed} (h1 : Bgs xs) (h2 : m.natAbs ≤ 10 ^ 16) (h3 : smallD d) (z : xs.length ≤ 30) :
    (ansD xs m d).showable = true ∧ (ansD xs m d).hasDict = false ∧ (ansD xs m d).depth ≤ 32 ∧ (ansD xs m d).shown.length ≤ sizeLine := by
  obtain ⟨a1, a2, a3, a4, a5⟩ := h1.show
  obtain ⟨b1, b2, b3, b4, b5⟩ := deed_show h3
  have s1 := bg_show h2
  have w1 := bg_weight h2
  have l1 := bg_leaf h2
  refine ⟨?_, ?_, ?_, show_len ?_ ?_⟩
  · simp only [ansD, PyData.showable, PyData.showableAll, a1, b1, Bool.and_true, Bool.true_and] at s1 ⊢
    exact s1
  · simp only [ansD, PyData.hasDict, PyData.hasDictAll, a4, b2, Bool.or_false]
  · simp only [ansD, PyData.depth, PyData.depthAll, a5]; omega
  · simp only [ansD, PyData.leavesShort, PyData.leavesShortAll, a2, b4, Bool.and_true, Bool.true_and] at l1 ⊢
    exact l1
  · simp only [ansD, PyData.weight, PyData.weightAll] at w1 ⊢
    omega
theorem deed_dp {K : PySem.W.Frag} {G : Hp} {v : V} {d : Deed} (h : DeedV G v d) : Dp K G v (deedD d) := by
  cases d with
  | none => obtain rfl : v = .non := h; exact .non
  | some p =>
    obtain ⟨b, i⟩ := p
    obtain ⟨a, rfl, ha⟩ := h
    exact .tup (SqT.of ha) (.cons (.str _) (.cons (.int _) .nil))
theorem ans_dp {K : PySem.W.Frag} {G : Hp} {z a : Addr} {v : V} {m : Int} {xs : List Int} {d : Deed} (hz : G z = some (.lst [.ref a, .int m, v])) (ha : G a = some (.tup (xs.map V.int))) (hv : DeedV G v d) : Dp K G (.ref z) (ansD xs m d) :=
  .lst (SqL.of hz) (.cons (.tup (SqT.of ha) (dpInts xs)) (.cons (.int _) (.cons (deed_dp hv) .nil)))
end Ev
namespace Ev
open PySem L2 PySem.Spec PyProof.Rows RZ
def gA {α : Type} (us ws : List α) : List α := match us, ws with
  | [a], [b] => [a, b]
  | _, _ => []
theorem gA_len {α : Type} {us ws : List α} (h : (gA us ws).length = 2) : ∃ a b, us = [a] ∧ ws = [b] := by
  match us, ws, h with
  | [a], [b], _ => exact ⟨a, b, rfl, rfl⟩
  | [], _, h => cases h
  | [_], [], h => cases h
  | [_], _ :: _ :: _, h => cases h
  | _ :: _ :: _, _, h => cases h
theorem gA_rel {vs : List V} {us : List Value} {zs : List V} {ws : List Value} (r : Vals vs us) (q : Vals zs ws) : Vals (gA vs zs) (gA us ws) := by
  cases r with
  | nil => exact .nil
  | cons a r =>
    cases r with
    | nil =>
      cases q with
      | nil => exact .nil
      | cons b q =>
        cases q with
        | nil => exact .cons a (.cons b .nil)
        | cons _ _ => exact .nil
    | cons _ _ => exact .nil
section
variable {X : Cx}
/-- o.m(k = v, ..): keywords alone -/
def tMethK (C : Addr) (m : Str) (sp : Sp) (gV : List V → List V → List V) (E : XK) (ta : TE) (tk : TA) : TE := fun σ H Q => ta σ H fun x H1 => ∃ a dx fs, x = .ref a ∧ H1 a = some (.ins C dx fs) ∧ fs.lookup m = none ∧
  tk σ H1 fun zs H2 => sp (gV [x] zs) H2 Q E
theorem pe_methK0 {CX : CXT} {k : Nat} {f C : Addr} {fd : FuncData} {ps ks : List Str} {sp : Sp} {E : XK} {o : Expr} {m : Str} {pos : Pos} {apos : Pos} {kws : List Keyword} {ta : TE} {tk : TA} {g : List Value → List Value → List Value} {gV : List V → List V → List V} {pl : Sem Bool}
    (he : PE X o ta) (c : Cls X.K C) (hm : Meth X.K C m f) (F : FnOk X.prog X.w X.K X.mg X.base CX k f fd ps sp) (hr : Room k X.A) (hb : KBinds X.K fd ps ks g gV) (hx : Passes CX X E) (hkw : PK X kws tk)
    (hall : (backToKw pos (keywordEach kws X.env)).all (·.1.isSome) = true := by rfl) (hks : (backToKw pos (keywordEach kws X.env)).filterMap (·.1) = ks := by rfl)
    (hpl : ((backTo pos (starEach [] X.env)).any (·.1) || (backToKw pos (keywordEach kws X.env)).any (·.1.isNone)) = false := by rfl)
    (ht : eval (.Call (.Attribute o m apos) [] kws pos) X.env = (do
      let ov ← eval o X.env
      standAt apos.atName
      let (f, first) ← holding [ov] (getMethod ov m pl)
      callWith pos f first (backTo pos (starEach [] X.env)) (backToKw pos (keywordEach kws X.env))) := by rfl) :
    PE X (.Call (.Attribute o m apos) [] kws pos) (tMethK C m sp gV E ta tk) := by
  refine ⟨fun pins s σ H Q I h => ?_⟩
  refine PySem.W.methodCall_KW (pl := pl) (thn (he.run pins s σ H _ I h) fun u s1 ⟨x, H1, I1, rx, a, dx, fs, ex, ea, l, q⟩ => ?_) ht
  subst ex
  obtain rfl : u = Value.ref a := rx
  refine getmeth_ok I1 ea c hm l ?_
  refine PySem.W.callWith_KW0 (first := [.ref a]) (h₀ := X.base) I.ok.mod.kin hm.kp hall ?_ hpl
  refine thn (hkw.run pos pins s1 σ H1 _ I1 q) fun ws s2 ⟨zs, H2, I2, rz, q2⟩ => ⟨I2.kIn, ?_⟩
  rw [hks]
  exact run_fnk (us := [.ref a]) (vs := [.ref a]) F hr hb hx I2 (.cons rfl .nil) rz q2
end
/-- what the law may do with rows -/
structure RowL (P : Program) (w : World) (K : PySem.W.Frag) (mg : Str → Option Value) (base : Heap) (R C : Addr) : Prop where
  rt : RTwo K R
  rm : RowM P w K mg base R C
  tot : RowP P w K mg base R "total" 1 (spTotal R C)
  put : ∃ (f : Addr) (fd : FuncData), Meth K R "put" f ∧ FnOk P w K mg base CX0 7 f fd ["self", "ahead"] (spPut R C) ∧ Binds K fd ["self", "ahead"] [] ∧ KBinds K fd ["self", "ahead"] ["ahead"] gA gA
  tk : ∃ (f : Addr) (fd : FuncData), Meth K R "take" f ∧ FnOk P w K mg base CX0 7 f fd ["self", "index"] (spTake R C) ∧ Binds K fd ["self", "index"] [] ∧ KBinds K fd ["self", "index"] ["index"] gA gA
  fq : FEq P w K mg base C
  re : REq P w K mg base R C
abbrev nDr : List Str := ["_law_made", "_law_top", "_law_told", "_law_fills_so", "_law_word", "_law_spot_here", "_law_row", "_law_found", "_law_due"]
def wordB (b : Bool) : Str := if b = true then "put" else "take"
theorem word_eq (b : Bool) : decide (V.str (wordB b) = V.str "put") = b := by cases b <;> decide +kernel
def Fr.deedR (r : Fr) (b : Bool) (m : Int) (xs : List Int) (z : Int) : List Int × Deed := if b = true then r.putR m xs z else r.takeR m xs z
section
variable {P : Program} {w : World} {K : PySem.W.Frag} {mg : Str → Option Value} {base : Heap}
theorem scDr : FnScope nDr ["_law_made", "_law_top", "_law_told", "_law_fills_so", "_law_word", "_law_spot_here"] (defScope sLDeedRight) := ⟨rfl, rfl, rfl, by decide +kernel, rfl, by decide +kernel, by decide +kernel⟩
theorem dr_tail {f R C : Addr} {cdv : Value} {A : Around} {outer : List Env} {s : Shared} {H : Hp} {E : XK} (T : Blt mg) (RL : RowL P w K mg base R C)
    (hr : Room 7 (cxOf CX0 P w K mg base nDr "_law_deed_right" (defScope sLDeedRight) f cdv A outer s H E).nox.A) (gd : A.guards = some []) :
    ∃ tr : TS, PSs (cxOf CX0 P w K mg base nDr "_law_deed_right" (defScope sLDeedRight) f cdv A outer s H E).nox ((defBody sLDeedRight).drop 3) tr ∧ ∀ (D : Ends) (G : Hp) (x f y t u y' q : Addr) (r : Fr) (m z : Int) (xs : List Int) (b : Bool) (v v2 : V) (v2' : Option V),
      FAt C G x r → r.ok → 2 ≤ m → m ≤ 10 ^ 12 → 1 ≤ r.least m → r.least m ≤ m → G f = some (.lst (xs.map V.int)) → xs.length ≤ 20 → okFills xs → 0 ≤ z → z ≤ xs.sum → (b = false → z < xs.sum) → okFills (r.deedR b m xs z).1 → (r.deedR b m xs z).1.length ≤ 30 → smallD (r.deedR b m xs z).2 →
      RAt R C G y r m xs → G t = some (.tup [.ref y', v]) → RAt R C G y' r m (r.deedR b m xs z).1 → DeedV G v (r.deedR b m xs z).2 → G u = some (.tup [.ref q, v2]) → G q = some (.lst ((r.deedR b m xs z).1.map V.int)) → DeedV G v2 (r.deedR b m xs z).2 →
      (∀ G', Same G G' → D.rt (.bl true) G') → tr D [some (.ref x), some (.int m), v2', some (.ref f), some (.str (wordB b)), some (.int z), some (.ref y), some (.ref t), some (.ref u)] G := by
  obtain ⟨fp, fdp, MP, GP, bP, kP⟩ := id RL.put
  obtain ⟨fq, fdq, MQ, GQ, bQ, kQ⟩ := id RL.tk
  obtain ⟨ge, he, hf', Ge⟩ := RL.fq.ex
  have TR := RL.rt.cl
  have hu : (cxOf CX0 P w K mg base nDr "_law_deed_right" (defScope sLDeedRight) f cdv A outer s H E).nox.A.units + 64 < cLine := Room.units hr
  have hr2 : Room 2 (cxOf CX0 P w K mg base nDr "_law_deed_right" (defScope sLDeedRight) f cdv A outer s H E).nox.A := hr.mono (by decide)
  have hr3 : Room 3 (cxOf CX0 P w K mg base nDr "_law_deed_right" (defScope sLDeedRight) f cdv A outer s H E).nox.A := hr.mono (by decide)
  refine ⟨_, (pss_cons (ps_if (PW.pt (pw_or (pt_not (pt_val (pe_callB call_isi (by rfl) T.isi (by decide +kernel) (pa_cons (pv 7) (pa_cons (pe_bltn (v := .ty "tuple") (by rfl) T.tuple (by decide +kernel) rfl) pa_nil))))) (pw_or (pt_cmpR op_ne (pe_callB call_len_seq (by rfl) T.len PySem.boot_len (pa_cons (pv 7) pa_nil)) pe_int (nomark _)) (pw_or1 (pt_not (pt_val (pe_callB call_isi (by rfl) T.isi (by decide +kernel) (pa_cons (pe_ix ix_tup (pv 7) pe_int (fun _ _ => rfl)) (pa_cons (pe_glob (v := .ref R) rfl RL.rm.g rfl) pa_nil)))))))))
      (pss_one (ps_ret pe_bl)) pss_nil)
    (pss_cons (ps_if (pt_cmpR op_ne (pe_callB (call_repr gd hu) (by rfl) T.repr (by decide +kernel) (pa_cons (pe_lst (pa_cons (pe_fld (pe_ix ix_tup (pv 7) pe_int (fun _ _ => rfl)) rfl) (pa_cons (pe_fld (pe_ix ix_tup (pv 7) pe_int (fun _ _ => rfl)) rfl) (pa_cons (pe_ix ix_tup (pv 7) pe_int (fun _ _ => rfl)) pa_nil)))) pa_nil)) (pe_callB (call_repr gd hu) (by rfl) T.repr (by decide +kernel) (pa_cons (pe_lst (pa_cons (pe_callTy call_tuple_of (by rfl) T.tuple (by decide +kernel) (pa_cons (pe_ix ix_tup (pv 8) pe_int (fun _ _ => rfl)) pa_nil)) (pa_cons (pv 1) (pa_cons (pe_ix ix_tup (pv 8) pe_int (fun _ _ => rfl)) pa_nil)))) pa_nil)) (nomark _))
      (pss_one (ps_ret pe_bl)) pss_nil)
    (pss_cons (ps_if (PW.pt (pw_or (pt_cmpR (op_neO (E := E0) he RL.fq.ne RL.fq.two.it.hm hf' Ge hr2 pass0) (pe_fld (pe_ix ix_tup (pv 7) pe_int (fun _ _ => rfl)) rfl) (pv 0) (nomark _)) (pw_or1 (pt_cmpR (op_neD hu) (pe_fld (pv 6) rfl) (pe_callTy call_tuple_of (by rfl) T.tuple (by decide +kernel) (pa_cons (pv 3) pa_nil)) (nomark _)))))
      (pss_one (ps_ret pe_bl)) pss_nil)
    (pss_one (ps_ret (pe_cmpR (op_eqG (rc_ans RL.re) hr3) (pv 7) (pe_ifExp (pt_cmpR op_eq (pv 4) pe_str (nomark _)) (pe_methK0 (pv 6) TR.cl MP GP hr kP pass0 (pk_cons (pv 5) pk_nil)) (pe_methK0 (pv 6) TR.cl MQ GQ hr kQ pass0 (pk_cons (pv 5) pk_nil))) (nomark _))))))), ?_⟩
  intro D G x f y t u y' q r m z xs b v v2 v2' fa o m1 m2 q1 q2 hxs hlen okx z0 z1 zb okn nlen sm ra ht ra' hd hu' hq hd2 fin
  generalize hys : (r.deedR b m xs z).1 = ys at okn nlen ra' hq
  generalize hde : (r.deedR b m xs z).2 = d at sm hd hd2
  have at0 : atI [V.ref y', v] 0 = some (.ref y') := atI_nat (j := 0) rfl
  have at1 : atI [V.ref y', v] 1 = some v := atI_nat (j := 1) rfl
  have bt0 : atI [V.ref q, v2] 0 = some (.ref q) := atI_nat (j := 0) rfl
  have bt1 : atI [V.ref q, v2] 1 = some v2 := atI_nat (j := 1) rfl
  obtain ⟨dx, fx, lx, hy', fa', hlx⟩ := id ra'
  obtain ⟨w1, w2, w3, w4⟩ := ans_show (m := m) (d := d) (fun n hn => by have := okn.2 n hn; omega) (by omega) sm nlen
  refine ⟨_, rfl, _, _, _, _, true, rfl, .ty _, .base (.tup ht), kit_ty (by decide +kernel), _, rfl, iteF ?_⟩
  refine ⟨_, rfl, t, _, rfl, .inr (SqT.of ht), rfl, _, rfl, ?_⟩
  rw [show (!decide (V.int (([V.ref y', v] : List V).length : Int) = V.int 2)) = false by rfl]
  refine iteF ⟨_, rfl, t, _, _, _, rfl, rfl, SqT.of ht, at0, _, _, _, _, true, rfl, .own R, tyR RL.rt hy', kit_self, _, rfl, iteF ?_⟩
  refine ⟨_, rfl, t, _, _, _, rfl, rfl, SqT.of ht, at0, y', R, dx, _, _, rfl, hy', TR.cl, TR.n3, row_fills _ _ _, _, rfl, t, _, _, _, rfl, rfl, SqT.of ht, at0, y', R, dx, _, _, rfl, hy', TR.cl, TR.n2, row_most _ _ _, _, rfl, t, _, _, _, rfl, rfl, SqT.of ht, at1, (by show 3 ≤ sizeLine; decide), fun a1 na1 => ?_⟩
  have s1 : Same G (upd G a1 (.lst [.ref lx, .int m, v])) := same_new na1
  have ha1 : upd G a1 (.lst [.ref lx, .int m, v]) a1 = some (.lst [.ref lx, .int m, v]) := upd_same
  generalize upd G a1 (.lst [.ref lx, .int m, v]) = G1 at s1 ha1 ⊢
  refine ⟨a1, _, rfl, ans_dp ha1 (s1 _ _ hlx) (hd.keep s1), w1, w2, w3, w4, ?_⟩
  refine ⟨_, rfl, u, _, _, _, rfl, rfl, SqT.of (s1 _ _ hu'), bt0, q, _, rfl, .inl ⟨SqL.of (s1 _ _ hq), fun t2 nt2 => ⟨_, rfl, _, rfl, u, _, _, _, rfl, rfl, SqT.of (same_new nt2 _ _ (s1 _ _ hu')), bt1, (by show 3 ≤ sizeLine; decide), fun a2 na2 => ?_⟩⟩⟩
  have s2 : Same G1 (upd (upd G1 t2 (.tup (ys.map V.int))) a2 (.lst [.ref t2, .int m, v2])) := (same_new nt2).trans (same_new na2)
  have ht2 : upd (upd G1 t2 (.tup (ys.map V.int))) a2 (.lst [.ref t2, .int m, v2]) t2 = some (.tup (ys.map V.int)) := same_new na2 _ _ upd_same
  have ha2 : upd (upd G1 t2 (.tup (ys.map V.int))) a2 (.lst [.ref t2, .int m, v2]) a2 = some (.lst [.ref t2, .int m, v2]) := upd_same
  generalize upd (upd G1 t2 (.tup (ys.map V.int))) a2 (.lst [.ref t2, .int m, v2]) = G2 at s2 ht2 ha2 ⊢
  have s12 := s1.trans s2
  refine ⟨a2, _, rfl, ans_dp ha2 ht2 (hd2.keep s12), w1, w2, w3, w4, rfl, _, rfl, ite2 (fun e => absurd e (by simp)) (fun _ => ?_)⟩
  have ht' := s12 _ _ ht
  have ra2 := ra'.keep s12
  have hy2 := s12 _ _ hy'
  obtain ⟨dfx, ax, hfx, _⟩ := id (fa'.keep s12)
  obtain ⟨dfm, am, hfm, _⟩ := id (fa.keep s12)
  obtain ⟨dy, fy, ly, hy, fay, hly⟩ := id (ra.keep s12)
  refine ⟨_, rfl, t, _, _, _, rfl, rfl, SqT.of ht', at0, y', R, dx, _, _, rfl, hy2, TR.cl, TR.n1, row_rule _ _ _, _, rfl, fx, dfx, _, .ref C, rfl, hfx, tyF RL.fq.two hfm, nf_own, fx, .ref x, r, rfl, fa'.keep s12, .inl ⟨x, r, rfl, fa.keep s12, _, rfl, _, rfl, ?_⟩⟩
  rw [frB_self]
  refine iteF ⟨_, rfl, y, R, dy, _, _, rfl, hy, TR.cl, TR.n3, row_fills _ _ _, _, rfl, f, _, rfl, .inl ⟨SqL.of (s12 _ _ hxs), fun t3 nt3 => ?_⟩⟩
  have s3 : Same G2 (upd G2 t3 (.tup (xs.map V.int))) := same_new nt3
  have ht3 : upd G2 t3 (.tup (xs.map V.int)) t3 = some (.tup (xs.map V.int)) := upd_same
  generalize upd G2 t3 (.tup (xs.map V.int)) = G3 at s3 ht3 ⊢
  refine ⟨_, _, .tup (SqT.of (s3 _ _ hly)) (dpInts xs), .tup (SqT.of ht3) (dpInts xs), sh_intsT _, sh_intsT _, _, rfl, ?_⟩
  rw [eqv_tupI, decide_eq_true rfl]
  have s13 := s12.trans s3
  have ra3 := ra.keep s13
  obtain ⟨dy3, fy3, ly3, hy3, _, _⟩ := id ra3
  refine iteF ⟨_, rfl, _, rfl, rfl, _, rfl, ?_⟩
  rw [word_eq]
  cases b with
  | true =>
    have e1 : r.putR m xs z = (ys, d) := by rw [← hys, ← hde]; rfl
    refine iteT ⟨_, rfl, y, dy3, _, rfl, hy3, row_no _ _ _ (by decide +kernel) (by decide +kernel) (by decide +kernel), _, rfl, y, r, m, z, xs, rfl, ra3, o, m1, m2, q1, q2, okx, z0, z1, by rw [e1]; exact okn, fun t4 y4 v4 G4 s4 ht4 ra4 hd4 => ?_⟩
    rw [e1] at ra4 hd4
    exact ⟨ans_of (s4 _ _ (s3 _ _ ht')) ht4 ((ra2.keep s3).keep s4) ra4 ((hd.keep s13).keep s4) hd4, fun G5 e5 => fin G5 (s13.trans (Same.trans s4 e5))⟩
  | false =>
    have e1 : r.takeR m xs z = (ys, d) := by rw [← hys, ← hde]; rfl
    refine iteF ⟨_, rfl, y, dy3, _, rfl, hy3, row_no _ _ _ (by decide +kernel) (by decide +kernel) (by decide +kernel), _, rfl, y, r, m, z, xs, rfl, ra3, o, m1, m2, q1, q2, okx, z0, zb rfl, by rw [e1]; exact okn, fun t4 y4 v4 G4 s4 ht4 ra4 hd4 => ?_⟩
    rw [e1] at ra4 hd4
    exact ⟨ans_of (s4 _ _ (s3 _ _ ht')) ht4 ((ra2.keep s3).keep s4) ra4 ((hd.keep s13).keep s4) hd4, fun G5 e5 => fin G5 (s13.trans (Same.trans s4 e5))⟩
end
end Ev
namespace Ev
open PySem L2 PySem.Spec PyProof.Rows RZ
theorem deed_small {r : Fr} {b : Bool} {m z : Int} {xs : List Int} (o : r.ok) (hl : xs.length ≤ 20) (ne : b = false → xs ≠ []) (z0 : 0 ≤ z) (z1 : z ≤ xs.sum) (zb : b = false → z < xs.sum) (pos : ∀ x ∈ xs, 0 ≤ x) : smallD (r.deedR b m xs z).2 ∧ (r.deedR b m xs z).1.length ≤ 30 := by
  obtain ⟨w1, w2, w3, w4⟩ := Fr.wd_bd o
  have c1 := o.c1; have c2 := o.c2; have j1 := o.j1; have j2 := o.j2
  unfold Fr.deedR
  cases b with
  | true =>
    rw [if_pos rfl]
    by_cases young : (xs.length : Int) ≤ r.wd
    · rw [put_young o young z1 pos]
      split
      · refine ⟨trivial, ?_⟩
        unfold dealtL
        simp only [List.length_append, List.length_replicate]
        by_cases e : (xs.length : Int) = 0
        · rw [e]; rename_i q; rw [e] at q
          have := sum_nn pos
          omega
        · have a1 := Int.emod_nonneg (xs.sum + 1) (by omega : (xs.length : Int) ≠ 0)
          have a2 := Int.emod_lt_of_pos (xs.sum + 1) (by omega : 0 < (xs.length : Int))
          omega
      · exact ⟨by show ((xs.length : Int)).natAbs ≤ 10 ^ 16; omega, by rw [dealtL_len (by omega)]; omega⟩
    · have ne : xs ≠ [] := fun z => by subst z; simp at young; omega
      have hlt := pageFor_lt z1 ne pos
      have bl := bump_len xs (pageFor xs z) 1
      obtain ⟨g1, g2, g3, g4⟩ := groupS_bd (k := pageFor xs z) (n := xs.length) (c := r.c) hlt c1 (by omega)
      rw [put_big o (by omega) z1 pos]
      split
      · exact ⟨trivial, by rw [bl]; omega⟩
      · have al := fun p hp => anewL_len (row := bump xs (pageFor xs z) 1) (s := groupS (pageFor xs z) r.c) (e := groupS (pageFor xs z) r.c + r.c) (p := p) g1 (by omega) (by rw [bl]; exact g2) hp
        split
        · have := al (r.c + 1) (by omega)
          exact ⟨by show (groupS (pageFor xs z) r.c + r.c).natAbs ≤ 10 ^ 16; omega, by dsimp only; omega⟩
        · have := al r.c c1
          exact ⟨trivial, by dsimp only; omega⟩
  | false =>
    rw [if_neg (by decide)]
    have ne := ne rfl
    have z1 := zb rfl
    have n1 := List.length_pos_iff.mpr ne
    by_cases young : (xs.length : Int) ≤ r.wd
    · rw [take_young young ne z1 pos]
      split
      · refine ⟨by show ((xs.length : Int) - 1).natAbs ≤ 10 ^ 16; omega, ?_⟩
        by_cases e : (xs.length : Int) - 1 = 0
        · unfold dealtL
          rw [e]
          simp only [List.length_append, List.length_replicate, Int.emod_zero]
          rename_i q; rw [e] at q
          omega
        · rw [dealtL_len (by omega)]; omega
      · exact ⟨trivial, by rw [dealtL_len (by omega)]; omega⟩
    · have hlt := pageAt_lt z1 ne pos
      have bl := bump_len xs (pageAt xs z) (-1)
      obtain ⟨g1, g2, g3, g4⟩ := groupS_bd (k := pageAt xs z) (n := xs.length) (c := r.j) hlt (by omega) (by omega)
      rw [take_big (by omega) ne z1 pos]
      split
      · exact ⟨trivial, by rw [bl]; omega⟩
      · have al := fun p hp => anewL_len (row := bump xs (pageAt xs z) (-1)) (s := groupS (pageAt xs z) r.j) (e := groupS (pageAt xs z) r.j + r.j) (p := p) g1 (by omega) (by rw [bl]; exact g2) hp
        split
        · have := al (r.j - 1) (by omega)
          exact ⟨by show (groupS (pageAt xs z) r.j + r.j - 1).natAbs ≤ 10 ^ 16; omega, by dsimp only; omega⟩
        · have := al r.j (by omega)
          exact ⟨trivial, by dsimp only; omega⟩
def spDeed (C : Addr) : Sp := fun vs H Q _ => ∃ (x l f : Addr) (r : Fr) (m z : Int) (xs : List Int) (b : Bool), vs = [.ref x, .int m, .ref l, .ref f, .str (wordB b), .int z] ∧ FAt C H x r ∧ r.ok ∧ H l = some (.tup (tupR r)) ∧ 2 ≤ m ∧ m ≤ 10 ^ 12 ∧ 1 ≤ r.least m ∧ r.least m ≤ m ∧
  H f = some (.lst (xs.map V.int)) ∧ xs.length ≤ 20 ∧ (∀ x ∈ xs, 1 ≤ x ∧ x ≤ 10 ^ 13) ∧ 0 ≤ z ∧ z ≤ xs.sum ∧ (b = false → xs ≠ [] ∧ z < xs.sum) ∧ ∀ H', Same H H' → Q (.bl true) H'
section
variable {P : Program} {w : World} {K : PySem.W.Frag} {mg : Str → Option Value} {base : Heap}
theorem ok_ldeed {f R C : Addr} {fd : FuncData} (F : Fun K "_law_deed_right" "_law_deed_right" sLDeedRight f fd) (T : Blt mg) (RL : RowL P w K mg base R C) (D1 : Df P w K mg base 2 "_law_put" ["_law_told", "_law_top", "_law_fills_so", "_law_ahead_so"] spLPut)
    (D2 : Df P w K mg base 2 "_law_take" ["_law_told", "_law_top", "_law_fills_so", "_law_index_so"] spLTake) : FnG P w K mg base 8 f fd ["_law_made", "_law_top", "_law_told", "_law_fills_so", "_law_word", "_law_spot_here"] (spDeed C) := by
  obtain ⟨f1, fd1, G1, g1, k1, b1⟩ := D1.ex
  obtain ⟨f2, fd2, G2, g2, k2, b2⟩ := D2.ex
  obtain ⟨fp, fdp, MP, GP, bP, kP⟩ := id RL.put
  obtain ⟨fq, fdq, MQ, GQ, bQ, kQ⟩ := id RL.tk
  obtain ⟨fI, fdI, MI, GI, bI⟩ := RL.rm.ex
  have TR := RL.rt.cl
  refine fng_of F scDr (fun vs H Q E h => ?_) (fun cdv A outer s H vs Q E hr gd h => ?_)
  · obtain ⟨x, l, f, r, m, z, xs, b, rfl, _⟩ := h
    rfl
  · obtain ⟨x, l, f, r, m, z, xs, b, rfl, fa, o, hl, m1, m2, q1, q2, hf, hlen, hx, z0, z1, zb, kk⟩ := h
    obtain ⟨tE, hE, qE⟩ := dr_tail (cdv := cdv) (A := A) (outer := outer) (s := s) (H := H) (E := E) T RL hr gd
    have hr2 := hr.mono (show 2 ≤ 7 by decide)
    have hr6 := hr.mono (show 6 ≤ 7 by decide)
    have pos : ∀ x ∈ xs, 0 ≤ x := fun x h => by have := hx x h; omega
    have okx : okFills xs := ⟨by omega, fun y h => by have := hx y h; omega⟩
    obtain ⟨sm, nlen⟩ := deed_small (m := m) (b := b) o hlen (fun h => (zb h).1) z0 z1 (fun h => (zb h).2) pos
    refine ⟨_, (pss_cons (ps_set (i := 6) scDr.nd rfl (.inl rfl) (pe_make (E := E0) MI GI hr6 (by rfl) RL.rm.g bI .nil pass0 (pa_cons (pv 0) (pa_cons (pv 1) (pa_cons (pv 3) pa_nil)))))
    (pss_cons (ps_set (i := 7) scDr.nd rfl (.inl rfl) (pe_ifExp (pt_cmpR op_eq (pv 4) pe_str (nomark _)) (pe_meth (pv 6) TR.cl MP GP hr bP .nil pass0 (pa_cons (pv 5) pa_nil)) (pe_meth (pv 6) TR.cl MQ GQ hr bQ .nil pass0 (pa_cons (pv 5) pa_nil))))
    (pss_cons (ps_set (i := 8) scDr.nd rfl (.inl rfl) (pe_ifExp (pt_cmpR op_eq (pv 4) pe_str (nomark _)) (pe_call G1 hr2 (by rfl) g1 k1 b1 .nil pass0 (pa_cons (pv 2) (pa_cons (pv 1) (pa_cons (pv 3) (pa_cons (pv 5) pa_nil))))) (pe_call G2 hr2 (by rfl) g2 k2 b2 .nil pass0 (pa_cons (pv 2) (pa_cons (pv 1) (pa_cons (pv 3) (pa_cons (pv 5) pa_nil)))))))
    hE))), ?_⟩
    refine ⟨_, rfl, _, rfl, _, rfl, mk_row (R := R) fa o m1 m2 q1 q2 hf okx fun y H1 s1 ra => ?_⟩
    obtain ⟨dx, xx, lf, hy, _, _⟩ := id ra
    refine ⟨_, rfl, rfl, _, rfl, ?_⟩
    rw [word_eq]
    cases b with
    | true =>
      have okn := put_ok (r := r) (m := m) (a := z) o m1 z1 hx hlen
      refine iteT ⟨_, rfl, y, dx, _, rfl, hy, row_no _ _ _ (by decide +kernel) (by decide +kernel) (by decide +kernel), _, rfl, y, r, m, z, xs, rfl, ra, o, m1, m2, q1, q2, okx, z0, z1, okn, fun t y' v H2 s2 ht ra' hd => ?_⟩
      refine ⟨_, rfl, rfl, _, rfl, ?_⟩
      rw [word_eq]
      have s12 := s1.trans s2
      refine iteT ⟨_, rfl, _, rfl, _, rfl, _, rfl, l, f, r, m, z, xs, rfl, s12 _ _ hl, o, s12 _ _ hf, by omega, pos, z0, z1, fun u q v2 H3 s3 hu hq hd2 => ?_⟩
      exact qE _ H3 x f y t u y' q r m z xs true v v2 _ (fa.keep (s12.trans s3)) o m1 m2 q1 q2 ((s12.trans s3) _ _ hf) hlen okx z0 z1 (fun h => by cases h) okn nlen sm ((ra.keep s2).keep s3) (s3 _ _ ht) (ra'.keep s3) (hd.keep s3) hu hq hd2 fun G' sg => kk G' (s12.trans (Same.trans s3 sg))
    | false =>
      obtain ⟨ne, z2⟩ := zb rfl
      have okn := take_ok (r := r) (m := m) (i := z) o m1 q1 ne z2 hx hlen
      refine iteF ⟨_, rfl, y, dx, _, rfl, hy, row_no _ _ _ (by decide +kernel) (by decide +kernel) (by decide +kernel), _, rfl, y, r, m, z, xs, rfl, ra, o, m1, m2, q1, q2, okx, z0, z2, okn, fun t y' v H2 s2 ht ra' hd => ?_⟩
      refine ⟨_, rfl, rfl, _, rfl, ?_⟩
      rw [word_eq]
      have s12 := s1.trans s2
      refine iteF ⟨_, rfl, _, rfl, _, rfl, _, rfl, l, f, r, m, z, xs, rfl, s12 _ _ hl, o, s12 _ _ hf, by omega, ne, (fun x h => (hx x h).1), z0, z2, by omega, by omega, fun u q v2 H3 s3 hu hq hd2 => ?_⟩
      exact qE _ H3 x f y t u y' q r m z xs false v v2 _ (fa.keep (s12.trans s3)) o m1 m2 q1 q2 ((s12.trans s3) _ _ hf) hlen okx z0 z1 (fun _ => z2) okn nlen sm ((ra.keep s2).keep s3) (s3 _ _ ht) (ra'.keep s3) (hd.keep s3) hu hq hd2 fun G' sg => kk G' (s12.trans (Same.trans s3 sg))
end
end Ev
namespace Ev
open PySem L2 PySem.Spec PyProof.Rows RZ
/-! Rows that grow too long. -/
def tmF (w : Str) (n : Int) : List (Str × V) := [("most", .int n), ("what", .str w)]
def TellT (C : Addr) (w : Str) (n : Int) (H : Hp) (E : XK) : Prop := ∀ (d : Addr) (H' : Hp), Same H H' → H d = none → H' d = some (.xd (tmF w n)) → E (.ref C) (some d) H'
theorem TellT.on {C : Addr} {w : Str} {n : Int} {H H1 : Hp} {E : XK} (h : TellT C w n H E) (s : Same H H1) : TellT C w n H1 E := fun d H' s1 q e => h d H' (s.trans s1) (Same.gone s q) e
def spTmI (C : Addr) : Sp := fun vs H Q _ => ∃ (a : Addr) (w : Str) (n : Int), vs = [.ref a, .str w, .int n] ∧ H a = some (exo a C none) ∧
  ∀ (d : Addr) (H' : Hp), H d = none → H' a = some (exo a C (some d)) → H' d = some (exd d (tmF w n)) → (∀ b o, b ≠ a → H b = some o → H' b = some o) → Q .non H'
structure ErrT (P : Program) (w : World) (K : PySem.W.Frag) (mg : Str → Option Value) (base : Heap) (C : Addr) : Prop where
  cl : OexC K C
  g : mg "TooMany" = some (.ref C)
  ex : ∃ (f : Addr) (fd : FuncData), PySem.W.findIn K (.ref C) "__init__" = some (some (.ref f)) ∧ PySem.W.typeIn K (.ref f) = some (.type "function") ∧ FnOk P w K mg base CX0 3 f fd ["self", "what", "most"] (spTmI C) ∧ Binds K fd ["self", "what", "most"] []
theorem raisedT {C : Addr} {H : Hp} {w : Str} {n : Int} {E : XK} (k : TellT C w n H E) (a' : Addr) (na : H a' = none) :
    spTmI C [.ref a', .str w, .int n] (upd H a' (exo a' C none)) (fun v' H2 => v' = .non ∧ ∃ (d : Addr) (fs : List (Str × V)), H2 a' = some (exo a' C (some d)) ∧ H2 d = some (exd d fs) ∧ H d = none ∧ E (.ref C) (some d) (upd (del H2 a') d (.xd fs))) (fun _ _ _ => False) := by
  refine ⟨a', w, n, rfl, upd_same, fun d H' nd ha' hd bt => ⟨rfl, d, _, ha', hd, ?_, ?_⟩⟩
  · have dne : d ≠ a' := fun z => by rw [z, upd_same] at nd; cases nd
    rw [upd_ne dne] at nd
    exact nd
  · have dne : d ≠ a' := fun z => by rw [z, upd_same] at nd; cases nd
    rw [upd_ne dne] at nd
    refine k d _ (fun b o e => ?_) nd upd_same
    rw [upd_ne (ne_of_none e nd), del_ne (ne_of_none e na)]
    exact bt b o (ne_of_none e na) (by rw [upd_ne (ne_of_none e na)]; exact e)
def spRowX (R C TM : Addr) : Sp := fun vs H Q E => ∃ (y dx x l : Addr) (r : Fr) (m : Int) (xs : List Int), vs = [.ref y, .ref x, .int m, .ref l] ∧ H y = some (.ins R dx []) ∧ FAt C H x r ∧ r.ok ∧ 2 ≤ m ∧ m ≤ 10 ^ 12 ∧ 1 ≤ r.least m ∧ r.least m ≤ m ∧
  H l = some (.lst (xs.map V.int)) ∧ 2000 < xs.length ∧ ∀ H1, Same H H1 → TellT TM "pages" 2000 H1 E
def spPutX (R C TM : Addr) : Sp := fun vs H Q E => ∃ (y : Addr) (r : Fr) (m a : Int) (xs : List Int), vs = [.ref y, .int a] ∧ RAt R C H y r m xs ∧ r.ok ∧ 2 ≤ m ∧ m ≤ 10 ^ 12 ∧ 1 ≤ r.least m ∧ r.least m ≤ m ∧ okFills xs ∧ 0 ≤ a ∧ a ≤ xs.sum ∧ 2000 < (r.putR m xs a).1.length ∧ ∀ H1, Same H H1 → TellT TM "pages" 2000 H1 E
section
variable {P : Program} {w : World} {K : PySem.W.Frag} {mg : Str → Option Value} {base : Heap}
theorem scTm : FnScope ["self", "what", "most"] ["self", "what", "most"] (defScope sTooMany_init) := ⟨rfl, rfl, rfl, by decide +kernel, rfl, by decide +kernel, by decide +kernel⟩
theorem ok_tm {f C : Addr} {fd : FuncData} (F : Fun K "__init__" "TooMany.__init__" sTooMany_init f fd) (T : OexC K C) (no : PySem.W.findIn K (.ref C) "what" = some none) (no2 : PySem.W.findIn K (.ref C) "most" = some none) (D : Df P w K mg base 2 "kept" ["value"] spKept) : FnOk P w K mg base CX0 3 f fd ["self", "what", "most"] (spTmI C) := by
  obtain ⟨f1, fd1, G1, g1, k1, b1⟩ := D.ex
  refine F.ok scTm (fun vs H Q E h => ?_) (fun cdv A outer s H vs Q E hr h => ?_)
  · obtain ⟨a, i, j, rfl, _⟩ := h
    rfl
  · obtain ⟨a, i, j, rfl, ha, kk⟩ := h
    refine ⟨_, pss_cons (ps_ost (pv 0) (pe_call G1 hr (by rfl) g1 k1 b1 .nil pass0 (pa_cons (pv 1) pa_nil))) (pss_one (ps_ost (pv 0) (pe_call G1 hr (by rfl) g1 k1 b1 .nil pass0 (pa_cons (pv 2) pa_nil)))), ?_⟩
    refine ⟨_, rfl, .str i, "str", rfl, flat_str i, fun H1 s1 => ⟨_, rfl, a, C, rfl, T, no, .inl ⟨s1 _ _ ha, fun dx nx ne => ?_⟩⟩⟩
    have z1 : ∀ b o, b ≠ a → H1 b = some o → upd (upd H1 dx (exd dx [("what", .str i)])) a (exo a C (some dx)) b = some o := fun b o nb e => by rw [upd_ne nb, upd_ne (ne_of_none e nx)]; exact e
    have z2 : upd (upd H1 dx (exd dx [("what", .str i)])) a (exo a C (some dx)) a = some (exo a C (some dx)) := upd_same
    have z4 : upd (upd H1 dx (exd dx [("what", .str i)])) a (exo a C (some dx)) dx = some (exd dx [("what", .str i)]) := by rw [upd_ne ne]; exact upd_same
    generalize upd (upd H1 dx (exd dx [("what", .str i)])) a (exo a C (some dx)) = H2 at z1 z2 z4 ⊢
    refine ⟨_, rfl, .int j, "int", rfl, flat_int j, fun H3 s3 => ⟨_, rfl, a, C, rfl, T, no2, .inr ⟨dx, _, s3 _ _ z2, s3 _ _ z4, (by show 1 ≤ 900; decide), ?_⟩⟩⟩
    have y2 := s3 _ _ z2
    refine kk dx _ (Same.gone s1 nx) (by rw [upd_ne ne.symm]; exact y2) upd_same fun b o nb q => ?_
    rw [upd_ne (ne_of_none (s1 _ _ q) nx)]
    exact s3 _ _ (z1 _ _ nb (s1 _ _ q))
theorem ok_rowX {f R C TM : Addr} {fd : FuncData} {dvs : List V} {kws : List (Str × V)} (F : FunD K "__init__" "Row.__init__" (defArgs sRow_init) (defBody sRow_init) (defScope sRow_init) dvs kws f fd) (T : Blt mg) (EB : ErrT P w K mg base TM)
    (D1 : Df P w K mg base 1 "need_fill_rule" ["value"] (spNeedFO C)) (D2 : Df P w K mg base 4 "need_page_size" ["rule", "most"] (spNeedPO C)) {t1 : Tok} (gP : mg "MOST_PAGES" = some (.int 2000 t1)) : FnOk P w K mg base (L2.CX P w) 5 f fd ["self", "rule", "most", "fills"] (spRowX R C TM) := by
  obtain ⟨f1, fd1, G1, g1, k1, b1⟩ := D1.ex
  obtain ⟨f2, fd2, G2, g2, k2, b2⟩ := D2.ex
  obtain ⟨TC, gB, fi, fdi, iC, tI, GI, bI⟩ := id EB
  refine F.ok scRowI (fun vs H Q E h => ?_) (fun cdv A outer s H vs Q E hr h => ?_)
  · obtain ⟨y, dx, x, l, r, m, xs, rfl, _⟩ := h
    rfl
  · obtain ⟨y, dx, x, l, r, m, xs, rfl, hy, fa, o, m1, m2, q1, q2, hl, z1, kk⟩ := h
    refine ⟨_, (pss_cons (ps_expr (pe_call G1 (hr.mono (by decide)) (by rfl) g1 k1 b1 .nil pass0 (pa_cons (pv 1) pa_nil)))
    (pss_cons (ps_expr (pe_call G2 hr (by rfl) g2 k2 b2 .nil pass0 (pa_cons (pv 1) (pa_cons (pv 2) pa_nil))))
    (pss_cons (ps_if (pt_not (pt_val (pe_callB call_isiT (by rfl) T.isi (by decide +kernel) (pa_cons (pv 3) (pa_cons (pe_tup (pa_cons (pe_bltn (v := .ty "list") (by rfl) T.list (by decide +kernel) rfl) (pa_cons (pe_bltn (v := .ty "tuple") (by rfl) T.tuple (by decide +kernel) rfl) pa_nil))) pa_nil)))))
      (pss_one ps_never) pss_nil)
    (pss_cons (ps_if (pt_cmpR op_gt (pe_callB call_len_seq (by rfl) T.len PySem.boot_len (pa_cons (pv 3) pa_nil)) (pe_glob (v := .int 2000) rfl gP ⟨_, rfl⟩) (nomark _))
      (pss_one (ps_raise rfl (takes_of rfl rfl rfl rfl) (pmk_oex TC iC tI GI (hr.mono (by decide)) bI .nil pass0 (by rfl) gB (pa_cons pe_str (pa_cons (pe_glob (v := .int 2000) rfl gP ⟨_, rfl⟩) pa_nil))))) pss_nil)
    (pss_cons ps_never (pss_cons ps_never (pss_cons ps_never (pss_one ps_never)))))))), ?_⟩
    refine ⟨_, rfl, x, r, rfl, fa, _, rfl, _, rfl, x, r, m, rfl, fa, o, m1, m2, q1, q2, ?_⟩
    refine ⟨_, rfl, (by show 2 ≤ sizeLine; decide), fun tp ntp => ⟨_, tp, _, _, _, true, rfl, upd_same, .cons (.ty _) (.cons (.ty _) .nil), .base (.lst (same_new ntp _ _ hl)), kit_any2 (r1 := true) (r2 := false) (by decide +kernel) (by decide +kernel), _, rfl, iteF ?_⟩⟩
    have s1 : Same H (upd H tp (.tup [.ty "list", .ty "tuple"])) := same_new ntp
    generalize upd H tp (.tup [.ty "list", .ty "tuple"]) = H1 at s1 ⊢
    refine ⟨_, rfl, l, _, rfl, .inl (SqL.of (s1 _ _ hl)), _, _, rfl, rfl, _, rfl, ?_⟩
    rw [List.length_map]
    rw [show decide ((xs.length : Int) > 2000) = true from decide_eq_true (by omega)]
    exact iteT ⟨(by show 2 ≤ 1000; decide), fun a' na => raisedT (kk H1 s1) a' na⟩
end
end Ev
namespace Ev
open PySem L2 PySem.Spec PyProof.Rows RZ
theorem mk_rowX {R C TM : Addr} {x l : Addr} {r : Fr} {m : Int} {xs : List Int} {H : Hp} {Q : VK} {E : XK} (fa : FAt C H x r) (o : r.ok) (m1 : 2 ≤ m) (m2 : m ≤ 10 ^ 12) (q1 : 1 ≤ r.least m) (q2 : r.least m ≤ m) (hl : H l = some (.lst (xs.map V.int))) (big : 2000 < xs.length)
    (k : ∀ H1, Same H H1 → TellT TM "pages" 2000 H1 E) : ∀ y dx, H y = none → H dx = none → dx ≠ y → spRowX R C TM (.ref y :: ([.ref x, .int m, .ref l] ++ [])) (upd (upd H dx (.own y)) y (.ins R dx [])) Q E := by
  intro y dx ny ndx ne
  have keep : ∀ (o1 o2 : HO), Same H (upd (upd H dx o1) y o2) := fun o1 o2 b u e => by
    rw [upd_ne (ne_of_none e ny), upd_ne (ne_of_none e ndx)]; exact e
  exact ⟨y, dx, x, l, r, m, xs, rfl, upd_same, fa.keep (keep _ _), o, m1, m2, q1, q2, keep _ _ _ _ hl, big, fun H1 s1 => k H1 ((keep _ _).trans s1)⟩
section
variable {P : Program} {w : World} {K : PySem.W.Frag} {mg : Str → Option Value} {base : Heap}
theorem ok_putX {f fI R C TM : Addr} {fd fdI : FuncData} (F : Fun K "put" "Row.put" sRow_put f fd) (TR : RowC K R) (gR : mg "Row" = some (.ref R)) (MI : Mk K R fI) (GI : FnOk P w K mg base (L2.CX P w) 5 fI fdI ["self", "rule", "most", "fills"] (spRowX R C TM)) (bI : Binds K fdI ["self", "rule", "most", "fills"] [])
    (PT : RowP P w K mg base R "total" 1 (spTotal R C)) (D1 : Df P w K mg base 3 "need_up_to" ["value", "most"] spNeedU)
    (D2 : Df P w K mg base 3 "behind_put" ["rule", "most", "fills", "ahead"] (spBPut C)) : FnOk P w K mg base (L2.CX P w) 7 f fd ["self", "ahead"] (spPutX R C TM) := by
  obtain ⟨f1, fd1, G1, g1, k1, b1⟩ := D1.ex
  obtain ⟨f2, fd2, G2, g2, k2, b2⟩ := D2.ex
  obtain ⟨pt, gt, fdt, PP, Gt, bt⟩ := id PT
  refine F.okX scRPut (fun vs H Q E h => ?_) (fun cdv A outer s H vs Q E hr h => ?_)
  · obtain ⟨y, r, m, a, xs, rfl, _⟩ := h
    rfl
  · obtain ⟨y, r, m, a, xs, rfl, ra, o, m1, m2, q1, q2, okx, a0, a1, okn, kk⟩ := h
    obtain ⟨dx, x, l, hy, fa, hl⟩ := id ra
    refine ⟨_, (pss_cons (ps_expr (pe_call G1 (hr.mono (by decide)) (by rfl) g1 k1 b1 .nil pass0 (pa_cons (pv 1) (pa_cons (pe_prop (pv 0) TR.cl PP Gt (hr.mono (by decide)) bt .nil pass0 rfl) pa_nil))))
    (pss_cons (ps_asg (pe_call G2 (hr.mono (by decide)) (by rfl) g2 k2 b2 .nil pass0 (pa_cons (pe_fld (pv 0) rfl) (pa_cons (pe_fld (pv 0) rfl) (pa_cons (pe_fld (pv 0) rfl) (pa_cons (pv 1) pa_nil))))) (pg_tup (by rfl) (pgs_cons (pg_name (i := 2) scRPut.nd rfl (.inl rfl)) (pgs_cons (pg_name (i := 3) scRPut.nd rfl (.inl rfl)) pgs_nil))))
    (pss_one (ps_ret (pe_tup (pa_cons (pe_make (E := E) MI GI hr (by rfl) gR bI .nil (L2.passes_call (takes_of rfl rfl rfl rfl) (fun _ _ _ _ h => h)) (pa_cons (pe_fld (pv 0) rfl) (pa_cons (pe_fld (pv 0) rfl) (pa_cons (pv 2) pa_nil)))) (pa_cons (pv 3) pa_nil))))))), ?_⟩
    refine ⟨_, rfl, _, rfl, y, dx, _, rfl, hy, y, r, m, xs, rfl, ra, a, _, rfl, a0, a1, ?_⟩
    refine ⟨_, rfl, y, R, dx, _, _, rfl, hy, TR.cl, TR.n1, row_rule _ _ _, _, rfl, y, R, dx, _, _, rfl, hy, TR.cl, TR.n2, row_most _ _ _, _, rfl, y, R, dx, _, _, rfl, hy, TR.cl, TR.n3, row_fills _ _ _, _, rfl, x, l, r, m, a, xs, rfl, fa, o, hl, okx.1, (fun z hz => by have := okx.2 z hz; omega), a1, fun t q v H1 s1 ht hq hd => ?_⟩
    have hy1 := s1 _ _ hy
    refine ⟨t, _, rfl, SqT.of ht, rfl, _, _, rfl, _, _, rfl, rfl, ?_⟩
    refine ⟨_, rfl, y, R, dx, _, _, rfl, hy1, TR.cl, TR.n1, row_rule _ _ _, _, rfl, y, R, dx, _, _, rfl, hy1, TR.cl, TR.n2, row_most _ _ _, _, rfl, ?_⟩
    exact mk_rowX (Q := fun _ _ => True) (fa.keep s1) o m1 m2 q1 q2 hq okn fun H2 s2 => kk H2 (s1.trans s2)
end
end Ev
namespace L2
open PySem PySem.Spec PyProof.Rows AutoSeq1
def rRepT2 (K : PySem.W.Frag) : R2 := fun x y H Q => ∃ l k xs, x = .ref l ∧ y = .int k ∧ SqT K H l xs ∧ xs ≠ [] ∧ 2 ≤ k ∧ k ≤ 10000 ∧ xs.length ≤ 100 ∧ ∀ p, H p = none → Q (.ref p) (upd H p (.tup (List.replicate k.toNat xs).flatten))
section
variable {X : Cx}
theorem op_repT2 : OpR X (binaryOp .Mult) (rRepT2 X.K) := by
  intro pins s σ H x y v u Q I rx ry h
  obtain ⟨l, k, xs, rfl, rfl, hT, hne, h1, h2, hz, q⟩ := h
  cases rx
  obtain ⟨t, rfl⟩ := ry
  obtain ⟨its, r, ⟨⟨cls, dd, data, sl⟩, ho, hc, n, hd⟩, hs⟩ := I.tuple hT
  simp only at hc hd
  subst hc hd
  have hle : its.length = xs.length := r.length.symm
  have hn : its ≠ [] := fun e => hne (by
    rw [e] at hle
    exact List.eq_nil_of_length_eq_zero hle.symm)
  have hi : its.toArray.isEmpty = false := by
    cases its with
    | nil => exact absurd rfl hn
    | cons a b => rfl
  have hsz0 : its.toArray.size = xs.length := by rw [List.size_toArray, hle]
  have hm : ((its.toArray.size : Nat) : Int) * k ≤ 1000000 := by
    rw [hsz0]
    have a1 : ((xs.length : Nat) : Int) * k ≤ 100 * k := Int.mul_le_mul_of_nonneg_right (by omega) (by omega)
    omega
  have flen : (List.replicate k.toNat its).flatten.length ≤ sizeLine := by
    rw [PyProof.Rows.lm_len_rep_flat, hle, sizeLine_eq]
    have a1 : k.toNat * xs.length ≤ 10000 * 100 := Nat.mul_le_mul (by omega) hz
    omega
  have c0 : (decide (k < -(2 ^ 63)) || decide (k ≥ 2 ^ 63)) = false := by
    rw [decide_eq_false (by omega), decide_eq_false (by omega)] <;> rfl
  have c1 : (its.toArray.isEmpty || k == 1) = false := by
    rw [hi, Bool.false_or]
    exact beq_eq_false_iff_ne.mpr (by omega)
  have c2 : (decide (k ≤ 0) || its.toArray.isEmpty) = false := by
    rw [hi, Bool.or_false]
    exact decide_eq_false (by omega)
  have c4 : Builtin.Tuple.tupleTooMany (((its.toArray.size : Nat) : Int) * k) = false := by
    unfold Builtin.Tuple.tupleTooMany
    rw [sizeLine_eq]
    exact decide_eq_false (by omega)
  refine wpAny_binaryOp_repeat_ref (T := "tuple") (U := "int") (by decide) ⟨_, ho, rfl⟩ (fun s' => typeIs_int s' k t) noFill_tuple_mul F.fills_int_mul F.slot_int_rmul repeat_tuple F.slot_int_index.lookup
    (call_meets F.slot_int_rmul (typeIs_int s k t) F.entry_int_rmul (F.args_int_rmul_2 _ _) (int_rmul_tuple k t l its.toArray n dd sl)
      ⟨ho, rfl, ⟨_, ho, rfl⟩, call_meets F.slot_tuple_mul ⟨_, ho, rfl⟩ F.entry_tuple_mul (F.args_tuple_mul_2 _ _) (tuple_mulW l its.toArray n dd sl k t c0 c1 c2 (by omega) c4 (by rw [size_rep, List.size_toArray]; exact flen)) ⟨ho, ?_⟩⟩)
  rw [size_rep]
  refine ⟨.ref s.heap.objs.size, _, I.laid (t' := s.toks) (o := .tup (List.replicate k.toNat xs).flatten) (fun b ob q => Heap.get?_push_of_some _ q) (Nat.le_refl _) ?_, rfl, q _ (I.hok.fresh (Nat.le_refl _))⟩
  exact ⟨by rw [PyProof.Rows.lm_len_rep_flat, sizeLine_eq]; have a1 : k.toNat * xs.length ≤ 10000 * 100 := Nat.mul_le_mul (by omega) hz; omega, _, r.rep k.toNat, IsTup.new _ _⟩

end
/-- o.m(e, ..), what goes out told by the state -/
def tMethAt (C : Addr) (m : Str) (sp : Sp) (E : St → XK) (ta : TE) (t : TA) : TE := fun σ H Q => ta σ H fun x H1 => ∃ a dx fs, x = .ref a ∧ H1 a = some (.ins C dx fs) ∧ fs.lookup m = none ∧
  t σ H1 fun vs H2 => sp (x :: vs) H2 Q (E σ)
section
variable {X : Cx} {CX : CXT} {k : Nat} {f C : Addr} {fd : FuncData} {ps : List Str} {sp : Sp} {E : St → XK} {m : Str} {pos apos : Pos} {e o : Expr} {es : List Expr} {ta : TE} {t : TA}
theorem pe_methAt {pl : Sem Bool} (he : PE X o ta) (c : Cls X.K C) (hm : Meth X.K C m f) (F : FnOk X.prog X.w X.K X.mg X.base CX k f fd ps sp) (hr : Room k X.A) (hb : Binds X.K fd ps []) (hx : ∀ σ, PassesAt CX X σ (E σ)) (ha : PA X (e :: es) t)
    (hst : starEach (e :: es) X.env = (false, eval e X.env) :: starEach es X.env := by rfl) (hpl : (backTo pos (starEach es X.env)).any (·.1) = false := by rfl)
    (ht : eval (.Call (.Attribute o m apos) (e :: es) [] pos) X.env = (do
      let ov ← eval o X.env
      standAt apos.atName
      let (f, first) ← holding [ov] (getMethod ov m pl)
      callWith pos f first (backTo pos (starEach (e :: es) X.env)) (backToKw pos (keywordEach [] X.env))) := by rfl) :
    PE X (.Call (.Attribute o m apos) (e :: es) [] pos) (tMethAt C m sp E ta t) := by
  refine ⟨fun pins s σ H Q I h => ?_⟩
  refine PySem.W.methodCall_KW (pl := pl) (thn (he.run pins s σ H _ I h) fun u s1 ⟨x, H1, I1, rx, a, dx, fs, ex, ea, l, q⟩ => ?_) ht
  subst ex
  obtain rfl : u = Value.ref a := rx
  refine getmeth_ok I1 ea c hm l ?_
  refine PySem.W.callWith_K (first := [.ref a]) (h₀ := X.base) I.ok.mod.kin hm.kp (thn (ha.run pos pins s1 σ H1 _ I1 q) fun us s2 ⟨vs, H2, I2, r, q2⟩ => ⟨I2.kIn, ?_⟩) hst hpl
  exact run_fnS (us := .ref a :: us) (vs := .ref a :: vs) F hr hb (hx σ) I2 (.cons rfl r) q2
end
end L2
namespace Ev
open PySem L2 PySem.Spec PyProof.Rows RZ
/-! A row of 2000 pages, full. -/
def rH : Fr := ⟨1, 2, 0, 1, 2⟩
theorem rH_ok : rH.ok := ⟨by decide, by decide, by decide, by decide, by decide, by decide, by decide, by decide, by decide, by decide⟩
theorem rH_least : rH.least 4 = 2 := by decide
theorem rH_wd : rH.wd = 2 := by decide
theorem mk_fill {C x dx t : Addr} {r : Fr} {H : Hp} {Q : VK} {E : XK} (nx : H x = none) (ndx : H dx = none) (ht : H t = some (.tup [.int r.p, .int r.q])) (o : r.ok) (k : ∀ H', Same H H' → FAt C H' x r → Q .non H') :
    spFillOk C [.ref x, .ref t, .int r.k, .int r.c, .int r.j] (upd (upd H dx (.own x)) x (.ins C dx [])) Q E := by
  have keep : ∀ (b : Addr) (u : HO), H b = some u → upd (upd H dx (.own x)) x (.ins C dx []) b = some u := fun b u e => by
    rw [upd_ne (ne_of_none e nx), upd_ne (ne_of_none e ndx)]; exact e
  refine ⟨x, dx, t, r, rfl, upd_same, keep _ _ ht, o, fun H3 t3 hx3 => ?_⟩
  have s3 : Same H H3 := fun b u e => t3 _ _ (ne_of_none e nx) (keep _ _ e)
  exact k H3 s3 ⟨dx, t, hx3, s3 _ _ ht⟩
abbrev row0 : List Int := List.replicate 1999 4 ++ [3]
abbrev row1 : List Int := List.replicate 2000 4
theorem pageAt_rep (y : Int) : ∀ (n : Nat) (i : Int), 4 * (n : Int) ≤ i → i < 4 * n + y → pageAt (List.replicate n 4 ++ [y]) i = n
  | 0, i, h0, h1 => by
    show pageAt [y] i = 0
    rw [pageAt, if_neg (by omega)]
  | n + 1, i, h0, h1 => by
    rw [List.replicate_succ, List.cons_append, pageAt, if_pos (by omega), pageAt_rep y n (i - 4) (by omega) (by omega)]
theorem row0_len : row0.length = 2000 := by simp
theorem row0_sum : row0.sum = 7999 := by rw [List.sum_append, sum_rep]; rfl
theorem row0_at : row0.getD 1999 0 = 3 := by
  rw [List.getD_eq_getElem?_getD, List.getElem?_append_right (by simp)]
  simp
theorem row0_bd : ∀ x ∈ row0, 1 ≤ x ∧ x ≤ 10 ^ 15 := fun x h => by
  rcases List.mem_append.mp h with h | h
  · have := rep_bd x h; omega
  · rw [List.mem_singleton.mp h]; omega
theorem row1_bd : ∀ x ∈ row1, 1 ≤ x ∧ x ≤ 10 ^ 15 := fun x h => by have := rep_bd x h; omega
theorem row1_sum : row1.sum = 8000 := by rw [sum_rep]; rfl
theorem put_first : rH.putR 4 row0 7999 = (row1, none) := by
  have pos : ∀ x ∈ row0, 0 ≤ x := fun x h => by have := row0_bd x h; omega
  have k : pageFor row0 7999 = 1999 := by
    unfold pageFor
    rw [if_pos (by decide)]
    exact pageAt_rep 3 1999 _ (by decide) (by decide)
  rw [put_big rH_ok (by rw [row0_len]; decide) (by rw [row0_sum]; decide) pos, k, row0_at, if_pos (by decide)]
  congr 1
theorem put_second {z : Int} (z1 : z ≤ 8000) : 2000 < (rH.putR 4 row1 z).1.length := by
  have pos : ∀ x ∈ row1, 0 ≤ x := fun x h => by have := row1_bd x h; omega
  have len : row1.length = 2000 := List.length_replicate
  have ne : row1 ≠ [] := fun e => by rw [e] at len; cases len
  have hlt := pageFor_lt (xs := row1) (a := z) (by rw [row1_sum]; exact z1) ne pos
  have hx : ∀ x ∈ row1, (4 : Int) ≤ x ∧ x ≤ 4 := rep_bd
  have g : row1.getD (pageFor row1 z) 0 = 4 := by have := hx _ (getD_mem hlt); omega
  have bl := bump_len row1 (pageFor row1 z) 1
  rw [put_big rH_ok (by rw [len]; decide) (by rw [row1_sum]; exact z1) pos, g, if_neg (by decide)]
  obtain ⟨g1, g2, g3, g4⟩ := groupS_bd (k := pageFor row1 z) (n := row1.length) (c := rH.c) hlt (by decide) (by rw [len]; decide)
  obtain ⟨t1, t2, _, _⟩ := grp_bd (d := 1) hlt g1 g3 g4 g2 hx
  rw [g] at t1 t2
  have c1 : rH.c = 1 := rfl
  have al := fun p hp => anewL_len (row := bump row1 (pageFor row1 z) 1) (s := groupS (pageFor row1 z) rH.c) (e := groupS (pageFor row1 z) rH.c + rH.c) (p := p) g1 (by omega) (by rw [bl]; exact g2) hp
  rw [if_pos (by rw [c1] at t1 ⊢; omega)]
  have := al (rH.c + 1) (by decide)
  rw [bl, len, c1] at this
  dsimp only
  rw [c1]
  omega
theorem take_last {z : Int} (z0 : z < 8000) : ∃ ys : List Int, rH.takeR 4 row1 z = (ys, none) ∧ ys.length = 2000 ∧ ys.sum = 7999 ∧ ∀ x ∈ ys, 1 ≤ x ∧ x ≤ 10 ^ 15 := by
  have pos : ∀ x ∈ row1, 0 ≤ x := fun x h => by have := row1_bd x h; omega
  have len : row1.length = 2000 := List.length_replicate
  have ne : row1 ≠ [] := fun e => by rw [e] at len; cases len
  have hlt := pageAt_lt (xs := row1) (i := z) (by rw [row1_sum]; exact z0) ne pos
  have hx : ∀ x ∈ row1, (4 : Int) ≤ x ∧ x ≤ 4 := rep_bd
  have g : row1.getD (pageAt row1 z) 0 = 4 := by have := hx _ (getD_mem hlt); omega
  refine ⟨bump row1 (pageAt row1 z) (-1), ?_, by rw [bump_len, len], by rw [bump_sum hlt, row1_sum]; rfl, fun x h => ?_⟩
  · rw [take_big (by rw [len]; decide) ne (by rw [row1_sum]; exact z0) pos, g, if_pos (by rw [rH_least]; decide)]
  · rcases mem_bump h with h | rfl
    · exact row1_bd x h
    · rw [g]; decide
end Ev
namespace Ev
open PySem L2 PySem.Spec PyProof.Rows RZ
theorem RAt.but {R C y p : Addr} {H H' : Hp} {r : Fr} {m : Int} {xs : List Int} {zs : List V} (h : RAt R C H y r m xs) (hp : H p = some (.lst zs)) (k : But p H H') : RAt R C H' y r m xs := by
  obtain ⟨dx, x, l, h1, h2, h3⟩ := h
  exact ⟨dx, x, l, k _ _ (ne_of h1 hp (by intro z; cases z)) h1, h2.but hp k, k _ _ (ne_of h3 hp (by intro z; cases z)) h3⟩
structure FullB (P : Program) (w : World) (K : PySem.W.Frag) (mg : Str → Option Value) (base : Heap) (R C TM FE : Addr) : Prop where
  ln : ∃ (fi fl : Addr), RwC K R fi fl ∧ FnR P w K mg base CX0 1 fi (spRIter R) ∧ FnR P w K mg base CX0 1 fl (spRLen R)
  gC : mg "FillRule" = some (.ref C)
  fm : ∃ (f : Addr) (fd : FuncData) (ds : List Value), Mk K C f ∧ FnOk P w K mg base CX0 5 f fd ["self", "times", "plus", "cut_of", "join_of"] (spFillOk C) ∧ Vals [.int 0, .int 1, .int 2] ds ∧ Binds K fd ["self", "times", "plus", "cut_of", "join_of"] ds
  px : ∃ (f : Addr) (fd : FuncData), Meth K R "put" f ∧ FnOk P w K mg base (L2.CX P w) 7 f fd ["self", "ahead"] (spPutX R C TM) ∧ Binds K fd ["self", "ahead"] []
  gF : mg "FairError" = some (.ref FE)
  gT : mg "TooMany" = some (.ref TM)
  ht : HeldC K TM
  nw : PySem.W.findIn K (.ref TM) "what" = some none
  nm : PySem.W.findIn K (.ref TM) "most" = some none
  te : PySem.W.exmOne K (.ref TM) (.ref FE) = some true
  it : PySem.W.kitOne K (.ref TM) (.ref TM) = some true
theorem tm_most (w : Str) (n : Int) : (tmF w n).lookup ("most" : Str) = some (.int n) := lk_hit
theorem tm_what (w : Str) (n : Int) : (tmF w n).lookup ("what" : Str) = some (.str w) := (lk_miss (by decide +kernel)).trans lk_hit
abbrev nFr : List Str := ["_law_pen_here", "_law_row", "_law_spot_here", "_law_later", "_law_caught", "error"]
def spFull : Sp := fun vs H Q _ => ∃ (p L : Addr) (B : Int), vs = [.ref p] ∧ B ≤ 900000 ∧ Pen L H p B ∧ ∀ H', But p H H' → Pen L H' p (B + 2) → Q (.bl true) H'
section
variable {P : Program} {w : World} {K : PySem.W.Frag} {mg : Str → Option Value} {base : Heap}
theorem scFr : FnScope nFr ["_law_pen_here"] (defScope sLFullRight) := ⟨rfl, rfl, rfl, by decide +kernel, rfl, by decide +kernel, by decide +kernel⟩
/-- behind the refused deed -/
theorem fr_end {f R C TM FE : Addr} {cdv : Value} {A : Around} {outer : List Env} {s : Shared} {H : Hp} {E : XK} (T : Blt mg) (RL : RowL P w K mg base R C) (FB : FullB P w K mg base R C TM FE)
    (hr : Room 7 (cxOf CX0 P w K mg base nFr "_law_full_right" (defScope sLFullRight) f cdv A outer s H E).nox.A) :
    ∃ tr : TS, PSs (cxOf CX0 P w K mg base nFr "_law_full_right" (defScope sLFullRight) f cdv A outer s H E).nox ((defBody sLFullRight).drop 3) tr ∧ ∀ (D : Ends) (G : Hp) (y a d : Addr) (z : Int) (v0 v1 v5 : Option V),
      RAt R C G y rH 4 row1 → G a = some (Held (.ref TM) (some d) a) → G d = some (.xd (tmF "pages" 2000)) → 0 ≤ z → z < 7996 → (∀ G', Same G G' → D.rt (.bl true) G') →
      tr D [v0, v1, some (.int z), some (.ref y), some (.ref a), v5] G := by
  obtain ⟨fq, fdq, MQ, GQ, bQ, kQ⟩ := id RL.tk
  obtain ⟨fi, fl, RW, FI, FL⟩ := id FB.ln
  obtain ⟨pt, gt, fdt, PT, GT, bT⟩ := id RL.tot
  have TR := RL.rt.cl
  have hu : (cxOf CX0 P w K mg base nFr "_law_full_right" (defScope sLFullRight) f cdv A outer s H E).nox.A.units + 64 < cLine := Room.units hr
  have hr2 : Room 2 (cxOf CX0 P w K mg base nFr "_law_full_right" (defScope sLFullRight) f cdv A outer s H E).nox.A := hr.mono (by decide)
  refine ⟨_, (pss_cons (ps_if (PW.pt (pw_or (pt_not (pt_val (pe_callB call_isHeld (by rfl) T.isi (by decide +kernel) (pa_cons (pv 4) (pa_cons (pe_glob (v := .ref TM) rfl FB.gT rfl) pa_nil))))) (pw_or (pt_cmpR (op_neD hu) (pe_tup (pa_cons (pe_heldFld (pv 4)) (pa_cons (pe_heldFld (pv 4)) pa_nil))) (pe_tup (pa_cons pe_str (pa_cons pe_int pa_nil))) (nomark _)) (pw_or1 (pt_cmpR (op_neD hu) (pe_fld (pv 3) rfl) (pe_op op_repT2 (pe_tup (pa_cons pe_int pa_nil)) pe_int) (nomark _))))))
      (pss_one (ps_ret pe_bl)) pss_nil)
    (pss_one (ps_ret (pe_and (pe_cmpR op_eq (pe_callB (call_lenO (E := E0) RW.ln RW.lnF FL hr2 pass0) (by rfl) T.len PySem.boot_len (pa_cons (pe_ix ix_tup (pe_meth (pv 3) TR.cl MQ GQ hr bQ .nil pass0 (pa_cons (pv 2) pa_nil)) pe_int (fun _ _ => rfl)) pa_nil)) pe_int (nomark _)) (pe_one (pe_cmpR op_eq (pe_prop (pe_ix ix_tup (pe_meth (pv 3) TR.cl MQ GQ hr bQ .nil pass0 (pa_cons (pv 2) pa_nil)) pe_int (fun _ _ => rfl)) TR.cl PT GT hr2 bT .nil pass0 rfl) pe_int (nomark _))))))), ?_⟩
  intro D G y a d z v0 v1 v5 ra ha hd z0 z1 fin
  refine ⟨_, rfl, a, TM, d, _, _, _, true, rfl, ha, hd, FB.ht, .own TM, FB.it, _, rfl, iteF ?_⟩
  refine ⟨_, rfl, a, TM, d, _, .str "pages", rfl, ha, hd, FB.ht, FB.nw, tm_what _ _, _, rfl, a, TM, d, _, .int 2000, rfl, ha, hd, FB.ht, FB.nm, tm_most _ _, (by show 2 ≤ sizeLine; decide), fun t1 n1 => ?_⟩
  have s1 : Same G (upd G t1 (.tup [.str "pages", .int 2000])) := same_new n1
  have h1 : upd G t1 (.tup [.str "pages", .int 2000]) t1 = some (.tup [.str "pages", .int 2000]) := upd_same
  dsimp only
  generalize upd G t1 (.tup [.str "pages", .int 2000]) = G1 at s1 h1 ⊢
  refine ⟨(by show 2 ≤ sizeLine; decide), fun t2 n2 => ?_⟩
  have s2 : Same G1 (upd G1 t2 (.tup [.str "pages", .int 2000])) := same_new n2
  have h2 : upd G1 t2 (.tup [.str "pages", .int 2000]) t2 = some (.tup [.str "pages", .int 2000]) := upd_same
  dsimp only
  generalize upd G1 t2 (.tup [.str "pages", .int 2000]) = G2 at s2 h2 ⊢
  have sd : SeqAt.shaped (.tuple [.str "pages", .int 2000]) = true := by decide +kernel
  refine ⟨.tuple [.str "pages", .int 2000], .tuple [.str "pages", .int 2000], .tup (SqT.of (s2 _ _ h1)) (.cons (.str _) (.cons (.int _) .nil)), .tup (SqT.of h2) (.cons (.str _) (.cons (.int _) .nil)), sd, sd, _, rfl, ?_⟩
  rw [show PyData.eqv (.tuple [.str "pages", .int 2000]) (.tuple [.str "pages", .int 2000]) = true by simp [PyData.eqv, PyData.eqvAll]]
  have s12 := s1.trans s2
  obtain ⟨dx, x, l, hy, fa, hl⟩ := id (ra.keep s12)
  refine iteF ⟨_, rfl, y, R, dx, _, _, rfl, hy, TR.cl, TR.n3, row_fills _ _ _, (by show 1 ≤ sizeLine; decide), fun t3 n3 => ?_⟩
  have s3 : Same G2 (upd G2 t3 (.tup [.int 4])) := same_new n3
  have h3 : upd G2 t3 (.tup [.int 4]) t3 = some (.tup [.int 4]) := upd_same
  dsimp only
  generalize upd G2 t3 (.tup [.int 4]) = G3 at s3 h3 ⊢
  refine ⟨t3, 2000, _, rfl, rfl, SqT.of h3, by simp, by decide, by decide, by decide, fun t4 n4 => ?_⟩
  rw [List.flatten_replicate_singleton]
  have e4 : List.replicate (2000 : Int).toNat (V.int 4) = row1.map V.int := (List.map_replicate (f := V.int) (a := 4) (n := 2000)).symm
  rw [e4]
  have s4 : Same G3 (upd G3 t4 (.tup (row1.map V.int))) := same_new n4
  have h4 : upd G3 t4 (.tup (row1.map V.int)) t4 = some (.tup (row1.map V.int)) := upd_same
  generalize upd G3 t4 (.tup (row1.map V.int)) = G4 at s4 h4 ⊢
  refine ⟨_, _, .tup (SqT.of (s4 _ _ (s3 _ _ hl))) (dpInts row1), .tup (SqT.of h4) (dpInts row1), sh_intsT _, sh_intsT _, _, rfl, ?_⟩
  rw [eqv_tupI, decide_eq_true rfl]
  have s14 := s12.trans (s3.trans s4)
  have ra4 := ra.keep s14
  obtain ⟨dx4, _, _, hy4, _, _⟩ := id ra4
  obtain ⟨ys, et, e1, e2, e3⟩ := take_last (z := z) (by omega)
  have okn : okFills (rH.takeR 4 row1 z).1 := by rw [et]; exact ⟨by rw [e1]; exact Nat.le_refl _, e3⟩
  have ok1 : okFills row1 := ⟨by rw [List.length_replicate]; exact Nat.le_refl _, row1_bd⟩
  refine iteF ⟨_, rfl, y, dx4, _, rfl, hy4, row_no _ _ _ (by decide +kernel) (by decide +kernel) (by decide +kernel), _, rfl, y, rH, 4, z, row1, rfl, ra4, rH_ok, by decide, by decide, by rw [rH_least]; decide, by rw [rH_least]; decide, ok1, z0, by rw [row1_sum]; omega, okn, fun u y2 v2 G5 s5 hu ra5 _ => ?_⟩
  rw [et] at ra5
  obtain ⟨dx5, x5, l5, hy5, _, hl5⟩ := id ra5
  refine ⟨u, _, _, _, rfl, rfl, SqT.of hu, atI_nat (j := 0) rfl, y2, dx5, _, rfl, hy5, y2, dx5, l5, _, _, rfl, hy5, row_fills _ _ _, hl5, _, rfl, ⟨by omega, by rw [List.length_map, e1]; decide⟩, rfl, _, rfl, ?_⟩
  rw [List.length_map, e1]
  rw [show decide (V.int ((2000 : Nat) : Int) = V.int 2000) = true by decide]
  have ra45 := ra4.keep s5
  obtain ⟨dx6, _, _, hy6, _, _⟩ := id ra45
  refine iteT ⟨_, rfl, y, dx6, _, rfl, hy6, row_no _ _ _ (by decide +kernel) (by decide +kernel) (by decide +kernel), _, rfl, y, rH, 4, z, row1, rfl, ra45, rH_ok, by decide, by decide, by rw [rH_least]; decide, by rw [rH_least]; decide, ok1, z0, by rw [row1_sum]; omega, okn, fun u' y3 v3 G6 s6 hu' ra6 _ => ?_⟩
  rw [et] at ra6
  obtain ⟨dx7, x7, l7, hy7, _, hl7⟩ := id ra6
  refine ⟨u', _, _, _, rfl, rfl, SqT.of hu', atI_nat (j := 0) rfl, y3, dx7, _, rfl, hy7, y3, rH, 4, ys, rfl, ra6, rfl, ?_⟩
  rw [e2, show decide (V.int 7999 = V.int 7999) = true by decide]
  exact fin G6 (s14.trans (Same.trans s5 s6))
end
end Ev
namespace Ev
open PySem L2 PySem.Spec PyProof.Rows RZ
section
variable {P : Program} {w : World} {K : PySem.W.Frag} {mg : Str → Option Value} {base : Heap}
theorem ok_lfull {f R C TM FE : Addr} {fd : FuncData} (F : Fun K "_law_full_right" "_law_full_right" sLFullRight f fd) (T : Blt mg) (RL : RowL P w K mg base R C) (FB : FullB P w K mg base R C TM FE) (D0 : Df P w K mg base 1 "_law_draw" ["_law_pen_here", "_law_many"] spDraw) : FnOk P w K mg base CX0 8 f fd ["_law_pen_here"] spFull := by
  obtain ⟨f0, fd0, G0, g0, k0, b0⟩ := D0.ex
  obtain ⟨fp, fdp, MP, GP, bP, kP⟩ := id RL.put
  obtain ⟨fI, fdI, MI, GI, bI⟩ := RL.rm.ex
  obtain ⟨fm, fdm, dsm, MF, GF, rdF, bF⟩ := FB.fm
  obtain ⟨fx, fdx, MX, GX, bX⟩ := FB.px
  have TR := RL.rt.cl
  refine F.ok scFr (fun vs H Q E h => ?_) (fun cdv A outer s H vs Q E hr h => ?_)
  · obtain ⟨p, L, B, rfl, _⟩ := h
    rfl
  · obtain ⟨p, L, B, rfl, hB, pn, kk⟩ := h
    obtain ⟨tE, hE, qE⟩ := fr_end (f := f) (cdv := cdv) (A := A) (outer := outer) (s := s) (H := H) (E := E) T RL FB hr
    have hr6 := hr.mono (show 6 ≤ 7 by decide)
    have hr1 := hr.mono (show 1 ≤ 7 by decide)
    refine ⟨_, (pss_cons (ps_par (i := 1) (j := 2) (by rfl) scFr.nd rfl rfl (by decide) rfl rfl (pa_cons (pe_make (E := E0) MI GI hr6 (by rfl) RL.rm.g bI .nil pass0 (pa_cons (pe_make (E := E0) MF GF hr6 (by rfl) FB.gC bF rdF pass0 (pa_cons (pe_tup (pa_cons pe_int (pa_cons pe_int pa_nil))) pa_nil)) (pa_cons pe_int (pa_cons (pe_op op_cat (pe_op op_rep (pe_lst (pa_cons pe_int pa_nil)) pe_int) (pe_lst (pa_cons pe_int pa_nil))) pa_nil)))) (pa_cons (pe_call G0 hr1 (by rfl) g0 k0 b0 .nil pass0 (pa_cons (pv 0) (pa_cons pe_int pa_nil))) pa_nil)) (by rfl))
    (pss_cons (ps_par (i := 3) (j := 4) (by rfl) scFr.nd rfl rfl (by decide) rfl rfl (pa_cons (pe_ix ix_tup (pe_meth (pv 1) TR.cl MP GP hr bP .nil pass0 (pa_cons pe_int pa_nil)) pe_int (fun _ _ => rfl)) (pa_cons pe_non pa_nil)) (by rfl))
    (pss_cons (ps_try_held (X := (cxOf CX0 P w K mg base nFr "_law_full_right" (defScope sLFullRight) f cdv A outer s H E).nox) (c := .ref FE) (i := 5) (Wout := fun _ _ _ _ => False)
      (tb := fun W => tDrop (tMethAt R "put" (spPutX R C TM) (WE W) (tVar 3) (tCons (tVar 2) tNil)))
      (ts := fun a cls d => tAsg (tVar 5) (gName 4)) rfl rfl rfl scFr.nd rfl rfl ⟨rfl, by decide, .inl FB.gF⟩ L2.takes0
      (fun W pn xe tk => pss_one (ps_expr (pe_methAt (E := WE W) (pv 3) TR.cl MX GX hr bX (fun σ => L2.passAt tk σ) (pa_cons (pv 2) pa_nil))))
      (fun a oe cls d pn _ _ => pss_one (ps_set (i := 4) scFr.nd rfl (.inl rfl) (pv 5))))
    hE))), ?_⟩
    refine ⟨(by show 2 ≤ sizeLine; decide), fun tq ntq => ?_⟩
    have s1 : Same H (upd H tq (.tup [.int 1, .int 2])) := same_new ntq
    have htq : upd H tq (.tup [.int 1, .int 2]) tq = some (.tup [.int rH.p, .int rH.q]) := upd_same
    dsimp only
    generalize upd H tq (.tup [.int 1, .int 2]) = H1 at s1 htq ⊢
    refine fun x1 d1 nx1 nd1 ne1 => mk_fill (r := rH) nx1 nd1 htq rH_ok fun H2 s2 fa => ⟨rfl, ?_⟩
    refine ⟨(by show 1 ≤ sizeLine; decide), fun a1 na1 => ?_⟩
    have s3 : Same H2 (upd H2 a1 (.lst [.int 4])) := same_new na1
    have h3 : upd H2 a1 (.lst [.int 4]) a1 = some (.lst [.int 4]) := upd_same
    dsimp only
    generalize upd H2 a1 (.lst [.int 4]) = H3 at s3 h3 ⊢
    refine ⟨a1, 1999, _, rfl, rfl, h3, by decide, by decide, (by show 1 * 1999 ≤ sizeLine; rw [sizeLine_eq]; decide), fun a2 na2 => ?_⟩
    rw [List.flatten_replicate_singleton]
    have s4 : Same H3 (upd H3 a2 (.lst (List.replicate (1999 : Int).toNat (V.int 4)))) := same_new na2
    have h4 : upd H3 a2 (.lst (List.replicate (1999 : Int).toNat (V.int 4))) a2 = some (.lst ((List.replicate 1999 4).map V.int)) := by
      rw [upd_same, List.map_replicate]
      rfl
    generalize upd H3 a2 (.lst (List.replicate (1999 : Int).toNat (V.int 4))) = H4 at s4 h4 ⊢
    refine ⟨(by show 1 ≤ sizeLine; decide), fun a3 na3 => ?_⟩
    have s5 : Same H4 (upd H4 a3 (.lst [.int 3])) := same_new na3
    have h5 : upd H4 a3 (.lst [.int 3]) a3 = some (.lst [.int 3]) := upd_same
    dsimp only
    generalize upd H4 a3 (.lst [.int 3]) = H5 at s5 h5 ⊢
    refine ⟨a2, a3, _, _, rfl, rfl, s5 _ _ h4, h5, ?_, fun a4 na4 => ?_⟩
    · rw [List.length_map, List.length_replicate, sizeLine_eq]
      show 1999 + 1 ≤ _
      decide
    have s6 : Same H5 (upd H5 a4 (.lst ((List.replicate 1999 4).map V.int ++ [V.int 3]))) := same_new na4
    have h6 : upd H5 a4 (.lst ((List.replicate 1999 4).map V.int ++ [V.int 3])) a4 = some (.lst (row0.map V.int)) := by
      rw [upd_same, List.map_append]
      rfl
    generalize upd H5 a4 (.lst ((List.replicate 1999 4).map V.int ++ [V.int 3])) = H6 at s6 h6 ⊢
    have s26 := s3.trans (s4.trans (s5.trans s6))
    have lq1 : 1 ≤ rH.least 4 := by rw [rH_least]; decide
    have lq2 : rH.least 4 ≤ 4 := by rw [rH_least]; decide
    have ok0 : okFills row0 := ⟨by rw [row0_len]; exact Nat.le_refl _, row0_bd⟩
    have ok1 : okFills row1 := ⟨by rw [List.length_replicate]; exact Nat.le_refl _, row1_bd⟩
    refine mk_row (R := R) (fa.keep s26) rH_ok (by decide) (by decide) lq1 lq2 h6 ok0 fun y H7 s7 ra => ?_
    have s07 : Same H H7 := s1.trans (Same.trans s2 (s26.trans s7))
    have pn7 := pn.keep s07
    refine ⟨_, rfl, p, L, _, _, rfl, by decide, by decide, by omega, pn7, fun z H8 bt8 pn8 z0 z1 => ⟨_, _, rfl, ?_⟩⟩
    have ra8 := ra.but (zs := _) pn7.some.choose_spec bt8
    obtain ⟨dx8, _, _, hy8, _, _⟩ := id ra8
    have p1 : rH.putR 4 row0 7999 = (row1, none) := put_first
    refine ⟨_, rfl, y, dx8, _, rfl, hy8, row_no _ _ _ (by decide +kernel) (by decide +kernel) (by decide +kernel), y, rH, 4, 7999, row0, rfl, ra8, rH_ok, by decide, by decide, lq1, lq2, ok0, by decide, by rw [row0_sum]; decide, by rw [p1]; exact ok1, fun t y' v H9 s9 ht ra9 hd9 => ?_⟩
    rw [p1] at ra9
    refine ⟨t, _, _, _, rfl, rfl, SqT.of ht, atI_nat (j := 0) rfl, _, _, rfl, ?_⟩
    obtain ⟨dx9, _, _, hy9, _, _⟩ := id ra9
    have z8 : z ≤ 8000 := by omega
    refine ⟨_, rfl, y', dx9, _, rfl, hy9, row_no _ _ _ (by decide +kernel) (by decide +kernel) (by decide +kernel), _, rfl, y', rH, 4, z, row1, rfl, ra9, rH_ok, by decide, by decide, lq1, lq2, ok1, z0, by rw [row1_sum]; exact z8, put_second z8, fun G1 sg1 d G2 sg2 nd hd => fun hlen => ?_⟩
    have s92 := sg1.trans sg2
    refine ⟨true, FB.te, (fun z => by cases z), fun _ a na => ⟨_, rfl, fun _ => ?_⟩⟩
    have sA : Same G2 (upd G2 a (Held (.ref TM) (some d) a)) := same_new na
    have hA : upd G2 a (Held (.ref TM) (some d) a) a = some (Held (.ref TM) (some d) a) := upd_same
    have hD := sA _ _ hd
    generalize upd G2 a (Held (.ref TM) (some d) a) = GA at sA hA hD
    have s9A := s92.trans sA
    have bt : But p H GA := (Same.but s07).trans (bt8.trans (Same.but (Same.trans s9 s9A)))
    exact qE _ GA y' a d z _ _ _ (ra9.keep s9A) hA hD z0 z1 fun G' sG => kk G' (bt.trans (Same.but sG)) ((pn8.keep (Same.trans s9 (s9A.trans sG))).mono (by omega))
end
end Ev
namespace Ev
open PySem L2 PySem.Spec PyProof.Rows
/-! enumerate of a tuple, the start given by its name. -/
section
variable {M : Model} {A : Around} {E : Value → Shared → Prop} {s : Shared} {env : Env}
theorem callWith_typeKw {pos : Pos} {T : String} {first : List Value} {args : List (Bool × Sem Value)} {kw : List (Option Str × Sem Value)} {Q : Value → Shared → Prop} (hplain : args.any (·.1) = false) (hkw : kw.any (·.1.isNone) = false)
    (h : wpAny M A (evalArgs (.type T) true args kw) (fun a s₁ => wpAny M A (call (.type T) (first ++ a.pos) a.kw) Q E s₁) E s) :
    wpAny M A (callWith pos (.type T) first args kw) Q E s := by
  unfold callWith
  refine wpAny_bind (wpAny_holding (wpAny_mono h (fun a s₁ h₁ => wpAny_bind (wpAny_standAt ?_)) fun _ _ x => x))
  simp only [hplain, hkw, Bool.or_false]
  refine wpAny_bind (wpAny_pure ?_)
  exact wpAny_bind (wpAny_mono h₁ (fun r s₂ hr => wpAny_bind (wpAny_holding (wpAny_point (wpAny_pure hr)))) fun _ _ x => x)
end
def IteT (K : PySem.W.Frag) (a : Addr) (k0 : Int) : It where
  go i H := ∃ us : List V, SqT K H a us ∧ i < us.length
  yld i H v H' := ∃ T x, v = .ref T ∧ H T = none ∧ H' = upd H T (.tup [.int (k0 + (i : Int)), x]) ∧ ∀ us, SqT K H a us → us[i]? = some x
  stop i H := ∃ us : List V, SqT K H a us ∧ i = us.length
theorem turn_enumT {P : Program} {w : World} {K : PySem.W.Frag} {elts : List Expr} {kk : Nat} {tpos : Pos} {a e it : Addr} {k0 : Int} (ae : a ≠ e) (ai : a ≠ it) :
    Turn P w K (.Tuple elts kk tpos) (IteT K a k0) [e, it] e (fun i h => (∃ old, IsEnum h e it (k0 + (i : Int)) old) ∧ h.IsTupleIter it a i ∧ e ≠ it) where
  mem := by simp
  obj := fun i h st b hb => by
    obtain ⟨⟨old, he⟩, ⟨o, ho, hc, hd⟩, _⟩ := st
    have e' : b = e ∨ b = it := by simpa using hb
    rcases e' with z | z
    · rw [z]; exact ⟨_, he, fun v q => nomatch q⟩
    · rw [z]; exact ⟨o, ho, fun v q => by rw [hd] at q; cases q⟩
  keep := fun i h h' st k => let ⟨⟨old, he⟩, hi, hne⟩ := st; ⟨⟨old, k e (by simp) _ he⟩, hi.at fun o q => k it (by simp) o q, hne⟩
  item := by
    intro X hP hw hK hc i pins s σ H E J hf st hg
    subst hP hw hK
    obtain ⟨⟨old, he⟩, hit, hne⟩ := st
    obtain ⟨us, hq, hx⟩ := hg
    obtain ⟨its, rv, p, hz⟩ := J.tuple hq
    obtain ⟨u, hu, ru⟩ := rv.get (List.getElem?_eq_getElem hx)
    have l1 := rv.length
    have hd : X.A.in1.handled = none := J.ok.hd hc
    have hel : e < s.heap.objs.size := Heap.lt_size he
    have hil : it < s.heap.objs.size := by obtain ⟨_, q, _⟩ := hit; exact Heap.lt_size q
    refine wpAny_pyNext_enum_itemC (Draws.tuple hd it a ai its.toArray) he ⟨hit, p⟩ (by simp; omega) hne (by simp; exact ⟨hne, fun z => ae z.symm⟩) fun x h' tk hP ho hs' hT hsz hk => ?_
    obtain rfl : u = x := by
      have e : its[i]? = some x := by simpa using hP
      rw [hu] at e
      exact Option.some.inj e
    refine ⟨_, rfl, wpAny_letOwnedTupleGo_enum (s := { s with heap := h', toks := tk + 1 }) ho fun h'' he' sb => ?_⟩
    have hT2 : h''.get? s.heap.objs.size = some { cls := .type "tuple", data := .seq #[.int (k0 + (i : Int)) tk, u] } := (sb.2 _ (Nat.ne_of_gt hel)).trans hT
    have new : ObjOk X.prog X.w (upd H s.heap.objs.size (.tup [.int (k0 + (i : Int)), us[i]])) h'' s.heap.objs.size (.tup [.int (k0 + (i : Int)), us[i]]) :=
      ⟨by show 2 ≤ sizeLine; decide, [.int (k0 + (i : Int)) tk, u], .cons ⟨_, rfl⟩ (.cons ru .nil), ⟨_, hT2, rfl, _, rfl⟩⟩
    have I1 : Inv X pins σ (upd H s.heap.objs.size (.tup [.int (k0 + (i : Int)), us[i]])) { s with heap := h'', toks := tk + 1 } :=
      J.turnedNew (ch := [e, it]) (fun b ob hb q => (sb.2 b (fun z => hb (by simp [z]))).trans (hk b ob (fun z => hb (by simp [z])) (fun z => hb (by simp [z])) q)) hf (Nat.le_refl _) new
    refine ⟨.ref s.heap.objs.size, _, I1, rfl, ⟨_, us[i], rfl, J.hok.fresh (Nat.le_refl _), rfl, fun ys hy => by rw [J.tuple_inj hy hq]; exact List.getElem?_eq_getElem hx⟩, ⟨⟨u, ?_⟩, hs'.1.at fun o q => (sb.2 it (Ne.symm hne)).trans q, hne⟩, fun b hb => ?_⟩
    · have e1 : k0 + ((i + 1 : Nat) : Int) = k0 + (i : Int) + 1 := by omega
      rw [e1]; exact he'
    · have hb' : b < s.heap.objs.size := by
        have e' : b = e ∨ b = it := by simpa using hb
        rcases e' with z | z
        · rw [z]; exact hel
        · rw [z]; exact hil
      rw [upd_ne (Nat.ne_of_lt hb')]
      exact (hf b hb).1
  done := by
    intro X hP hw hK hc i pins s σ H E J hf st hg
    subst hP hw hK
    obtain ⟨⟨old, he⟩, hit, hne⟩ := st
    obtain ⟨us, hq, rfl⟩ := hg
    obtain ⟨its, rv, p, hz⟩ := J.tuple hq
    have l1 := rv.length
    have hd : X.A.in1.handled = none := J.ok.hd hc
    have ez : us.length = its.toArray.size := by simp; omega
    rw [ez] at hit
    refine wpAny_pyNext_enum_endD (Draws.tuple hd it a ai its.toArray) he ⟨hit, p⟩ fun h' hx => ⟨rfl, ?_⟩
    exact J.turnedL (t' := s.toks) (ch := [e, it]) (fun c o n q => hx c o (fun z => n (by simp [z])) q) hf
  self := fun A i s Q E st h => let ⟨⟨_, he⟩, _⟩ := st; wpAny_pyIter_enum he h
def iEnumT (K : PySem.W.Frag) (ta tk : TA) : TI := fun σ H R => ta σ H fun vs H1 => tk σ H1 fun ks H2 => ∃ a us k0, vs = [.ref a] ∧ ks = [.int k0] ∧ SqT K H2 a us ∧ 0 ≤ k0 ∧ k0 < 1000 ∧ R (IteT K a k0) H2
theorem pi_enumT {X : Cx} {e : Expr} {ta tk : TA} {kws : List Keyword} {p pos tpos : Pos} {elts : List Expr} {kk : Nat} (hg : Gl X "enumerate") (hm : X.mg "enumerate" = none) (ha : PA X [e] ta) (hkw : PK X kws tk)
    (hall : (backToKw pos (keywordEach kws X.env)).all (·.1.isSome) = true := by rfl) (hks : (backToKw pos (keywordEach kws X.env)).filterMap (·.1) = [Str.ofString "start"] := by rfl)
    (hs : starEach [e] X.env = [(false, eval e X.env)] := by rfl) (hpl : (backTo pos (starEach [e] X.env)).any (·.1) = false := by rfl) (hnn : (backToKw pos (keywordEach kws X.env)).any (·.1.isNone) = false := by rfl) :
    PI X (.Tuple elts kk tpos) (.Call (.Name "enumerate" p) [e] kws pos) (iEnumT X.K ta tk) := by
  refine ⟨fun pins s σ H R I h => ?_⟩
  refine wpAny_Call_Name_kw (ld_blt I hg hm boot_enumerate (callWith_typeKw hpl hnn (PyProof.Rows.evalArgs_kw2 hall (thn (ha.run pos pins s σ H _ I h) fun us s1 ⟨vs, H1, I1, r1, q1⟩ => thn (hkw.run pos pins s1 σ H1 _ I1 q1) fun ks s2 ⟨zs, H2, I2, r2, q2⟩ => ?_) hs)))
  obtain ⟨a, xs, k0, rfl, rfl, hq, k1, k2, q⟩ := q2
  rw [hks]
  cases r1 with
  | cons r rr =>
    cases rr
    cases r
    cases r2 with
    | cons r' rr' =>
      cases rr'
      obtain ⟨tk, rfl⟩ := r'
      obtain ⟨its, rv, p', hz⟩ := I2.tuple hq
      have la : a < s2.heap.objs.size := by obtain ⟨_, z, _⟩ := id p'; exact Heap.lt_size z
      refine enum_begins_start (begins_tuple a its.toArray) p' (by omega) (by omega) fun h' he hit hsz hk => wpAny_pyIter_enum he ?_
      have I3 : Inv X pins σ H2 { s2 with heap := h' } := I2.kept (t' := s2.toks) hk
      refine ⟨s2.heap.objs.size + 1, [s2.heap.objs.size + 1, s2.heap.objs.size], _, _, H2, rfl, I3, turn_enumT (k0 := k0) (e := s2.heap.objs.size + 1) (it := s2.heap.objs.size) (Nat.ne_of_lt (Nat.lt_succ_of_lt la)) (Nat.ne_of_lt la), ⟨⟨.none, by simpa using he⟩, ⟨_, hit, rfl, rfl⟩, Nat.succ_ne_self _⟩, fun b hb => ?_, q⟩
      have e' : b = s2.heap.objs.size + 1 ∨ b = s2.heap.objs.size := by simpa using hb
      have hle : s2.heap.objs.size ≤ b := by
        rcases e' with z | z
        · rw [z]; exact Nat.le_add_right _ _
        · rw [z]; exact Nat.le_refl _
      exact I2.fpOk hle (I2.hok.fresh hle)
end Ev
namespace PySem.EnumOne
open PySem
theorem new1 {v : Value} {o : Obj} {H : Heap → Prop} (B : Begins v o H) :
    Meets (Builtin.«enumerate.__new__» ⟨[.type "enumerate", v], []⟩) (fun _ R s => H s.heap ∧
      R (.ok (.ret (.ref (s.heap.push o).objs.size))) { s with heap := (s.heap.push o).push { cls := .type "enumerate", data := .fields #[.none, .bool false, .ref s.heap.objs.size, rawInt 0, .none, .none] } }) :=
  .of_wp fun prog w A R s h => by
    obtain ⟨hp, g, d, tk, os⟩ := s
    obtain ⟨h1, h⟩ := h
    have hsub := sub_enumerate
    have q1 : ∀ {A' : Around} {E : Value → Shared → Prop} {Q : Value → Shared → Prop}, Q (.ref hp.objs.size) ⟨hp.push o, g, d, tk, os⟩ → wpAny (model prog w) A' (pyIter v) Q E ⟨hp, g, d, tk, os⟩ :=
      fun q => B.iter prog w _ _ ⟨hp, g, d, tk, os⟩ _ h1 q
    wp_walk using q1
    refine wpAny_stack_any fun st => wpAny_pure ?_
    split
    · rename_i c _ _ _ _ _
      cases (c == Value.type "enumerate") <;> (wp_walk using q1; exact ⟨_, rfl, h⟩)
    · wp_walk using q1
      exact ⟨_, rfl, h⟩
theorem begins1 {prog : Program} {w : World} {A : Around} {E : Value → Shared → Prop} {s : Shared} {v : Value} {o : Obj} {H : Heap → Prop} {Q : Value → Shared → Prop} (B : Begins v o H) (h1 : H s.heap)
    (h : ∀ h', IsEnum h' (s.heap.objs.size + 1) s.heap.objs.size 0 .none → h'.get? s.heap.objs.size = some o → (∀ b o, s.heap.get? b = some o → h'.get? b = some o) → Q (.ref (s.heap.objs.size + 1)) { s with heap := h' }) :
    wpAny (model prog w) A (call (.type "enumerate") [v]) Q E s := by
  refine callType_new F.called_enumerate (by decide) (F.typeCall_enumerate_1 _) (F.newCall_enumerate_1 _) (fun obj => F.args_object_init_2 obj _) F.entry_enumerate_new (new1 B) ⟨h1, ?_⟩
  have hz : (s.heap.push o).objs.size = s.heap.objs.size + 1 := Heap.size_push ..
  show _ ∧ _
  rw [hz]
  have he : IsEnum ((s.heap.push o).push { cls := .type "enumerate", data := .fields #[.none, .bool false, .ref s.heap.objs.size, rawInt 0, .none, .none] }) (s.heap.objs.size + 1) s.heap.objs.size 0 .none := by
    have := Heap.get?_push_size (s.heap.push o) (o := { cls := .type "enumerate", data := .fields #[.none, .bool false, .ref s.heap.objs.size, rawInt 0, .none, .none] }) rfl
    rw [hz] at this
    exact this
  exact ⟨⟨_, he, rfl⟩, h _ he (Heap.get?_push_of_some _ (Heap.get?_push_size _ B.free)) fun b o x => Heap.get?_push_of_some _ (Heap.get?_push_of_some _ x)⟩
end PySem.EnumOne
namespace Ev
open PySem L2 PySem.Spec PyProof.Rows RZ
def iEnumT0 (K : PySem.W.Frag) (ta : TA) : TI := fun σ H R => ta σ H fun vs H1 => ∃ a us, vs = [.ref a] ∧ SqT K H1 a us ∧ R (IteT K a 0) H1
theorem pi_enumT0 {X : Cx} {e : Expr} {ta : TA} {p pos tpos : Pos} {elts : List Expr} {kk : Nat} (hg : Gl X "enumerate") (hm : X.mg "enumerate" = none) (ha : PA X [e] ta) (hs : starEach [e] X.env = [(false, eval e X.env)] := by rfl) :
    PI X (.Tuple elts kk tpos) (.Call (.Name "enumerate" p) [e] [] pos) (iEnumT0 X.K ta) := by
  refine ⟨fun pins s σ H R I h => ?_⟩
  refine Call_ (ld_blt I hg hm boot_enumerate (PyProof.Rows.callWith_type1 (thn (ha.run pos pins s σ H _ I h) fun us s1 ⟨vs, H1, I1, r1, q1⟩ => ?_) hs rfl))
  obtain ⟨a, xs, rfl, hq, q⟩ := q1
  cases r1 with
  | cons r rr =>
    cases rr
    cases r
    obtain ⟨its, rv, p', hz⟩ := I1.tuple hq
    have la : a < s1.heap.objs.size := by obtain ⟨_, z, _⟩ := id p'; exact Heap.lt_size z
    refine PySem.EnumOne.begins1 (begins_tuple a its.toArray) p' fun h' he hit hk => wpAny_pyIter_enum he ?_
    have I3 : Inv X pins σ H1 { s1 with heap := h' } := I1.kept (t' := s1.toks) hk
    refine ⟨s1.heap.objs.size + 1, [s1.heap.objs.size + 1, s1.heap.objs.size], _, _, H1, rfl, I3, turn_enumT (k0 := 0) (e := s1.heap.objs.size + 1) (it := s1.heap.objs.size) (Nat.ne_of_lt (Nat.lt_succ_of_lt la)) (Nat.ne_of_lt la), ⟨⟨.none, by simpa using he⟩, ⟨_, hit, rfl, rfl⟩, Nat.succ_ne_self _⟩, fun b hb => ?_, q⟩
    have e' : b = s1.heap.objs.size + 1 ∨ b = s1.heap.objs.size := by simpa using hb
    have hle : s1.heap.objs.size ≤ b := by
      rcases e' with z | z
      · rw [z]; exact Nat.le_add_right _ _
      · rw [z]; exact Nat.le_refl _
    exact I1.fpOk hle (I1.hok.fresh hle)
end Ev
namespace Ev
open PySem L2 PySem.Spec PyProof.Rows RZ
theorem walk_enumT2 {K : PySem.W.Frag} {a : Addr} {xs : List V} : Walk (IteT K a 0) xs.length (fun H => SqT K H a xs) (YPair (fun i => some (.int (0 + (i : Int)))) (fun i => xs[i]?)) := by
  refine ⟨fun i H hi h => ⟨xs, h, hi⟩, fun H h => ⟨xs, h, rfl⟩, fun i H v H' _ h y => ?_⟩
  obtain ⟨T, x, h1, h2, h3, h4⟩ := y
  exact ⟨T, .int (0 + (i : Int)), x, h1, h2, h3, rfl, h4 xs h⟩
def spRowIT (R C : Addr) : Sp := fun vs H Q _ => ∃ (y dx x l : Addr) (r : Fr) (m : Int) (xs : List Int), vs = [.ref y, .ref x, .int m, .ref l] ∧ H y = some (.ins R dx []) ∧ FAt C H x r ∧ r.ok ∧ 2 ≤ m ∧ m ≤ 10 ^ 12 ∧ 1 ≤ r.least m ∧ r.least m ≤ m ∧
  H l = some (.tup (xs.map V.int)) ∧ xs.length ≤ 2000 ∧ (∀ z ∈ xs, 1 ≤ z ∧ z ≤ 10 ^ 15) ∧ ∀ H', But y H H' → RAt R C H' y r m xs → Q .non H'
theorem mk_rowT {R C : Addr} {x l : Addr} {r : Fr} {m : Int} {xs : List Int} {H : Hp} {Q : Addr → Hp → Prop} (fa : FAt C H x r) (o : r.ok) (m1 : 2 ≤ m) (m2 : m ≤ 10 ^ 12) (q1 : 1 ≤ r.least m) (q2 : r.least m ≤ m) (hl : H l = some (.tup (xs.map V.int))) (ok : okFills xs)
    (k : ∀ y H', Same H H' → RAt R C H' y r m xs → Q y H') : ∀ y dx, H y = none → H dx = none → dx ≠ y → spRowIT R C (.ref y :: ([.ref x, .int m, .ref l] ++ [])) (upd (upd H dx (.own y)) y (.ins R dx [])) (fun v H2 => v = .non ∧ Q y H2) E0 := by
  intro y dx ny ndx ne
  have keep : ∀ (o1 o2 : HO), Same H (upd (upd H dx o1) y o2) := fun o1 o2 b u e => by
    rw [upd_ne (ne_of_none e ny), upd_ne (ne_of_none e ndx)]; exact e
  refine ⟨y, dx, x, l, r, m, xs, rfl, upd_same, fa.keep (keep _ _), o, m1, m2, q1, q2, keep _ _ _ _ hl, ok.1, ok.2, fun H' bt ra => ⟨rfl, k y H' (fun b u e => bt _ _ (ne_of_none e ny) (keep _ _ _ _ e)) ra⟩⟩
section
variable {P : Program} {w : World} {K : PySem.W.Frag} {mg : Str → Option Value} {base : Heap}
theorem ok_rowIT {f R C : Addr} {fd : FuncData} {dvs : List V} {kws : List (Str × V)} (F : FunD K "__init__" "Row.__init__" (defArgs sRow_init) (defBody sRow_init) (defScope sRow_init) dvs kws f fd) (T : Blt mg) (me : mg "enumerate" = none) (TR : RowC K R)
    (D1 : Df P w K mg base 1 "need_fill_rule" ["value"] (spNeedFO C)) (D2 : Df P w K mg base 4 "need_page_size" ["rule", "most"] (spNeedPO C)) (D3 : Df P w K mg base 2 "is_within" ["value", "least", "most"] spWithinA)
    {t1 t2 : Tok} (gP : mg "MOST_PAGES" = some (.int 2000 t1)) (gF : mg "MOST_FILL" = some (.int (10 ^ 15) t2)) : FnOk P w K mg base CX0 5 f fd ["self", "rule", "most", "fills"] (spRowIT R C) := by
  obtain ⟨f1, fd1, G1, g1, k1, b1⟩ := D1.ex
  obtain ⟨f2, fd2, G2, g2, k2, b2⟩ := D2.ex
  obtain ⟨f3, fd3, G3, g3, k3, b3⟩ := D3.ex
  refine fund_ok0 F scRowI (fun vs H Q E h => ?_) (fun cdv A outer s H vs Q E hr h => ?_)
  · obtain ⟨y, dx, x, l, r, m, xs, rfl, _⟩ := h
    rfl
  · obtain ⟨y, dx, x, l, r, m, xs, rfl, hy, fa, o, m1, m2, q1, q2, hl, z1, z2, kk⟩ := h
    refine ⟨_, (pss_cons (ps_expr (pe_call G1 (hr.mono (by decide)) (by rfl) g1 k1 b1 .nil pass0 (pa_cons (pv 1) pa_nil)))
    (pss_cons (ps_expr (pe_call G2 hr (by rfl) g2 k2 b2 .nil pass0 (pa_cons (pv 1) (pa_cons (pv 2) pa_nil))))
    (pss_cons (ps_if (pt_not (pt_val (pe_callB call_isiT (by rfl) T.isi (by decide +kernel) (pa_cons (pv 3) (pa_cons (pe_tup (pa_cons (pe_bltn (v := .ty "list") (by rfl) T.list (by decide +kernel) rfl) (pa_cons (pe_bltn (v := .ty "tuple") (by rfl) T.tuple (by decide +kernel) rfl) pa_nil))) pa_nil)))))
      (pss_one ps_never) pss_nil)
    (pss_cons (ps_if (pt_cmpR op_gt (pe_callB call_len_seq (by rfl) T.len PySem.boot_len (pa_cons (pv 3) pa_nil)) (pe_glob (v := .int 2000) rfl gP ⟨_, rfl⟩) (nomark _))
      (pss_one ps_never) pss_nil)
    (pss_cons (ps_for PassesOwn.never rfl (pi_enumT0 (by rfl) me (pa_cons (pv 3) pa_nil)) (pg_tup rfl (pgs_cons (pg_name (i := 4) scRowI.nd rfl (.inl rfl)) (pgs_cons (pg_name (i := 5) scRowI.nd rfl (.inl rfl)) pgs_nil)))
      (pss_one (ps_if (pt_not (pt_val (pe_call G3 (hr.mono (by decide)) (by rfl) g3 k3 b3 .nil pass0 (pa_cons (pv 5) (pa_cons pe_int (pa_cons (pe_glob (v := .int (10 ^ 15)) rfl gF ⟨_, rfl⟩) pa_nil))))))
        (pss_one ps_never) pss_nil)))
    (pss_cons (ps_fld (pv 0) (pv 1) rfl)
    (pss_cons (ps_fld (pv 0) (pv 2) rfl)
    (pss_one (ps_fld (pv 0) (pe_callTy call_tuple_of (by rfl) T.tuple (by decide +kernel) (pa_cons (pv 3) pa_nil)) rfl))))))))), ?_⟩
    refine ⟨_, rfl, x, r, rfl, fa, _, rfl, _, rfl, x, r, m, rfl, fa, o, m1, m2, q1, q2, ?_⟩
    refine ⟨_, rfl, (by show 2 ≤ sizeLine; decide), fun tp ntp => ⟨_, tp, _, _, _, true, rfl, upd_same, .cons (.ty _) (.cons (.ty _) .nil), .base (.tup (same_new ntp _ _ hl)), kit_any2 (r1 := false) (r2 := true) (by decide +kernel) (by decide +kernel), _, rfl, iteF ?_⟩⟩
    have s1 : Same H (upd H tp (.tup [.ty "list", .ty "tuple"])) := same_new ntp
    generalize upd H tp (.tup [.ty "list", .ty "tuple"]) = H1 at s1 ⊢
    refine ⟨_, rfl, l, _, rfl, .inr (SqT.of (s1 _ _ hl)), _, _, rfl, rfl, _, rfl, ?_⟩
    rw [List.length_map]
    rw [show decide ((xs.length : Int) > 2000) = false from decide_eq_false (by omega)]
    refine iteF ⟨_, rfl, l, _, rfl, SqT.of (s1 _ _ hl), ?_⟩
    refine for_it (walk_enumT2 (K := K) (a := l) (xs := xs.map V.int)) (fun i σ G => Same H G ∧ ∃ v4 v5, σ = [some (.ref y), some (.ref x), some (.int m), some (.ref l), v4, v5]) ⟨s1, _, _, rfl⟩ (fun i σ G _ h => SqT.of (h.1 _ _ hl)) (fun i v σ G2 G3 hi h y' => ?_) (fun σ G h => ?_)
    · obtain ⟨s2, v4, v5, rfl⟩ := h
      obtain ⟨Tp, vx, vy, rfl, nT, rfl, ex, ey⟩ := y'
      obtain ⟨n, hn, rfl⟩ := int_at ey
      obtain rfl : V.int (0 + (i : Int)) = vx := Option.some.inj ex
      obtain ⟨n1, n2⟩ := z2 n (List.mem_of_getElem? hn)
      have s3 : Same H (upd G2 Tp (.tup [.int (0 + (i : Int)), .int n])) := s2.trans (same_new nT)
      refine ⟨Tp, _, rfl, SqT.of upd_same, rfl, _, _, rfl, _, _, rfl, rfl, _, rfl, _, _, _, rfl, .inl ⟨_, rfl⟩, _, rfl, ?_⟩
      rw [inB_in n1 n2]
      exact iteF ⟨s3, _, _, rfl⟩
    · obtain ⟨s2, v4, v5, rfl⟩ := h
      have fa2 := fa.keep s2
      refine ⟨_, rfl, _, rfl, y, R, dx, _, rfl, s2 _ _ hy, TR.cl, TR.n1, (by show 0 < 1000; decide), ?_⟩
      rw [rp1]
      have y1 : upd G y (.ins R dx [("fill_rule", .ref x)]) y = some (.ins R dx [("fill_rule", .ref x)]) := upd_same
      have t1 : But y H (upd G y (.ins R dx [("fill_rule", .ref x)])) := (Same.but s2).trans But.upd_at
      generalize upd G y (.ins R dx [("fill_rule", .ref x)]) = H2 at y1 t1 ⊢
      refine ⟨_, rfl, _, rfl, y, R, dx, _, rfl, y1, TR.cl, TR.n2, (by show 1 < 1000; decide), ?_⟩
      rw [rp2]
      have y2 : upd H2 y (.ins R dx [("fill_rule", .ref x), ("most", .int m)]) y = some (.ins R dx [("fill_rule", .ref x), ("most", .int m)]) := upd_same
      have t2 : But y H (upd H2 y (.ins R dx [("fill_rule", .ref x), ("most", .int m)])) := t1.trans But.upd_at
      generalize upd H2 y (.ins R dx [("fill_rule", .ref x), ("most", .int m)]) = H3 at y2 t2 ⊢
      have ly : l ≠ y := ne_of hl hy (by intro z; cases z)
      refine ⟨_, rfl, l, _, rfl, .inr ⟨SqT.of (t2 _ _ ly hl), ?_⟩⟩
      refine ⟨_, rfl, y, R, dx, _, rfl, y2, TR.cl, TR.n3, (by show 2 < 1000; decide), ?_⟩
      rw [rp3]
      have bt : But y H (upd H3 y (.ins R dx [("fill_rule", .ref x), ("most", .int m), ("fills", .ref l)])) := t2.trans But.upd_at
      refine kk _ bt ⟨dx, x, l, upd_same, ?_, bt _ _ ly hl⟩
      obtain ⟨dx', a, h1, h2⟩ := fa
      exact ⟨dx', a, bt _ _ (fun z => by subst z; rw [hy] at h1; cases h1) h1, bt _ _ (ne_of h2 hy (by intro z; cases z)) h2⟩
end
end Ev
namespace Ev
open PySem L2 PySem.Spec PyProof.Rows RZ
abbrev nLaw : List Str := ["_law_script", "_law_pen_here", "_law_turn", "_law_told", "_law_top", "_law_made", "_law_fills_so", "_law_lap", "_law_spot_here", "_law_row"]
theorem pu1 : rH.putR 4 [3, 3, 4] 10 = ([3, 3, 3, 2], some (true, 3)) := by decide +kernel
theorem ta1 : rH.takeR 4 [3, 3, 4] 0 = ([2, 3, 4], none) := by decide +kernel
theorem ok_small {xs : List Int} (h : xs.all (fun z => decide (1 ≤ z) && decide (z ≤ 10 ^ 15)) = true) (l : xs.length ≤ 2000) : okFills xs := ⟨l, fun z hz => by
  have := List.all_eq_true.mp h z hz
  simpa using this⟩
def RowT (P : Program) (w : World) (K : PySem.W.Frag) (mg : Str → Option Value) (base : Heap) (R C : Addr) : Prop := ∃ (f : Addr) (fd : FuncData), Mk K R f ∧ FnOk P w K mg base CX0 5 f fd ["self", "rule", "most", "fills"] (spRowIT R C) ∧ Binds K fd ["self", "rule", "most", "fills"] []
section
variable {P : Program} {w : World} {K : PySem.W.Frag} {mg : Str → Option Value} {base : Heap}
theorem scLaw : FnScope nLaw ["_law_script"] (defScope sLaw) := ⟨rfl, rfl, rfl, by decide +kernel, rfl, by decide +kernel, by decide +kernel⟩
theorem lw_end {f R C TM FE : Addr} {cdv : Value} {A : Around} {outer : List Env} {s : Shared} {H : Hp} {E : XK} (RL : RowL P w K mg base R C) (FB : FullB P w K mg base R C TM FE) (RT : RowT P w K mg base R C) (D1 : Df P w K mg base 8 "_law_full_right" ["_law_pen_here"] spFull)
    (hr : Room 8 (cxOf CX0 P w K mg base nLaw "law" (defScope sLaw) f cdv A outer s H E).nox.A) :
    ∃ tr : TS, PSs (cxOf CX0 P w K mg base nLaw "law" (defScope sLaw) f cdv A outer s H E).nox ((defBody sLaw).drop 2) tr ∧ ∀ (D : Ends) (G : Hp) (p L : Addr) (B : Int) (v0 v2 v3 v4 v5 v6 v7 v8 v9 : Option V), B ≤ 900000 → Pen L G p B → (∀ G', D.rt (.bl true) G') →
      tr D [v0, some (.ref p), v2, v3, v4, v5, v6, v7, v8, v9] G := by
  obtain ⟨f1, fd1, G1, g1, k1, b1⟩ := D1.ex
  obtain ⟨fp, fdp, MP, GP, bP, kP⟩ := id RL.put
  obtain ⟨fq, fdq, MQ, GQ, bQ, kQ⟩ := id RL.tk
  obtain ⟨fm, fdm, dsm, MF, GF, rdF, bF⟩ := FB.fm
  obtain ⟨fI, fdI, MI, GI, bI⟩ := RT
  have TR := RL.rt.cl
  have hr7 : Room 7 (cxOf CX0 P w K mg base nLaw "law" (defScope sLaw) f cdv A outer s H E).nox.A := hr.mono (by decide)
  have hr6 : Room 6 (cxOf CX0 P w K mg base nLaw "law" (defScope sLaw) f cdv A outer s H E).nox.A := hr.mono (by decide)
  have hr3 : Room 3 (cxOf CX0 P w K mg base nLaw "law" (defScope sLaw) f cdv A outer s H E).nox.A := hr.mono (by decide)
  refine ⟨_, (pss_cons (ps_if (pt_not (pt_val (pe_call G1 hr (by rfl) g1 k1 b1 .nil pass0 (pa_cons (pv 1) pa_nil))))
      (pss_one (ps_ret pe_bl)) pss_nil)
    (pss_cons (ps_set (i := 9) scLaw.nd rfl (.inl rfl) (pe_make (E := E0) MI GI hr6 (by rfl) RL.rm.g bI .nil pass0 (pa_cons (pe_make (E := E0) MF GF hr6 (by rfl) FB.gC bF rdF pass0 (pa_cons (pe_tup (pa_cons pe_int (pa_cons pe_int pa_nil))) pa_nil)) (pa_cons pe_int (pa_cons (pe_tup (pa_cons pe_int (pa_cons pe_int (pa_cons pe_int pa_nil)))) pa_nil)))))
    (pss_one (ps_ret (pe_and (pe_cmpR (op_eqG (rc_ans RL.re) hr3) (pe_meth (pv 9) TR.cl MP GP hr7 bP .nil pass0 (pa_cons pe_int pa_nil)) (pe_tup (pa_cons (pe_make (E := E0) MI GI hr6 (by rfl) RL.rm.g bI .nil pass0 (pa_cons (pe_make (E := E0) MF GF hr6 (by rfl) FB.gC bF rdF pass0 (pa_cons (pe_tup (pa_cons pe_int (pa_cons pe_int pa_nil))) pa_nil)) (pa_cons pe_int (pa_cons (pe_tup (pa_cons pe_int (pa_cons pe_int (pa_cons pe_int (pa_cons pe_int pa_nil))))) pa_nil)))) (pa_cons (pe_tup (pa_cons pe_str (pa_cons pe_int pa_nil))) pa_nil))) (nomark _)) (pe_one (pe_cmpR op_isN (pe_ix ix_tup (pe_meth (pv 9) TR.cl MQ GQ hr7 bQ .nil pass0 (pa_cons pe_int pa_nil)) pe_int (fun _ _ => rfl)) pe_non (nomark _)))))))), ?_⟩
  intro D G p L B v0 v2 v3 v4 v5 v6 v7 v8 v9 hB pn fin
  have lq1 : 1 ≤ rH.least 4 := by rw [rH_least]; decide
  have lq2 : rH.least 4 ≤ 4 := by rw [rH_least]; decide
  refine ⟨_, rfl, p, L, _, rfl, hB, pn, fun G0 bt0 pn0 => ⟨_, rfl, iteF ?_⟩⟩
  refine ⟨(by show 2 ≤ sizeLine; decide), fun tq ntq => ?_⟩
  have htq : upd G0 tq (.tup [.int 1, .int 2]) tq = some (.tup [.int rH.p, .int rH.q]) := upd_same
  dsimp only
  generalize upd G0 tq (.tup [.int 1, .int 2]) = H1 at htq ⊢
  refine fun x1 d1 nx1 nd1 ne1 => mk_fill (r := rH) nx1 nd1 htq rH_ok fun H2 s2 fa => ⟨rfl, ?_⟩
  refine ⟨(by show 3 ≤ sizeLine; decide), fun t3 nt3 => ?_⟩
  have s3 : Same H2 (upd H2 t3 (.tup [.int 3, .int 3, .int 4])) := same_new nt3
  have h3 : upd H2 t3 (.tup [.int 3, .int 3, .int 4]) t3 = some (.tup (([3, 3, 4] : List Int).map V.int)) := upd_same
  dsimp only
  generalize upd H2 t3 (.tup [.int 3, .int 3, .int 4]) = H3 at s3 h3 ⊢
  refine mk_rowT (R := R) (fa.keep s3) rH_ok (by decide) (by decide) lq1 lq2 h3 (ok_small rfl (by decide)) fun y H4 s4 ra => ?_
  obtain ⟨dx, _, _, hy, _, _⟩ := id ra
  refine ⟨_, rfl, y, dx, _, rfl, hy, row_no _ _ _ (by decide +kernel) (by decide +kernel) (by decide +kernel), y, rH, 4, 10, [3, 3, 4], rfl, ra, rH_ok, by decide, by decide, lq1, lq2, ok_small rfl (by decide), by decide, by decide, by rw [pu1]; exact ok_small rfl (by decide), fun t y' v H5 s5 ht ra5 hd5 => ?_⟩
  rw [pu1] at ra5 hd5
  refine ⟨(by show 2 ≤ sizeLine; decide), fun tq2 ntq2 => ?_⟩
  have s6 : Same H5 (upd H5 tq2 (.tup [.int 1, .int 2])) := same_new ntq2
  have htq2 : upd H5 tq2 (.tup [.int 1, .int 2]) tq2 = some (.tup [.int rH.p, .int rH.q]) := upd_same
  dsimp only
  generalize upd H5 tq2 (.tup [.int 1, .int 2]) = H6 at s6 htq2 ⊢
  refine fun x2 d2 nx2 nd2 ne2 => mk_fill (r := rH) nx2 nd2 htq2 rH_ok fun H7 s7 fb => ⟨rfl, ?_⟩
  refine ⟨(by show 4 ≤ sizeLine; decide), fun t4 nt4 => ?_⟩
  have s8 : Same H7 (upd H7 t4 (.tup [.int 3, .int 3, .int 3, .int 2])) := same_new nt4
  have h8 : upd H7 t4 (.tup [.int 3, .int 3, .int 3, .int 2]) t4 = some (.tup (([3, 3, 3, 2] : List Int).map V.int)) := upd_same
  dsimp only
  generalize upd H7 t4 (.tup [.int 3, .int 3, .int 3, .int 2]) = H8 at s8 h8 ⊢
  refine mk_rowT (R := R) (fb.keep s8) rH_ok (by decide) (by decide) lq1 lq2 h8 (ok_small rfl (by decide)) fun z H9 s9 rb => ?_
  refine ⟨(by show 2 ≤ sizeLine; decide), fun u nu => ?_⟩
  have s10 : Same H9 (upd H9 u (.tup [.str "more", .int 3])) := same_new nu
  have h10 : upd H9 u (.tup [.str "more", .int 3]) u = some (.tup [.str "more", .int 3]) := upd_same
  dsimp only
  generalize upd H9 u (.tup [.str "more", .int 3]) = H10 at s10 h10 ⊢
  refine ⟨(by show 2 ≤ sizeLine; decide), fun t5 nt5 => ?_⟩
  have s11 : Same H10 (upd H10 t5 (.tup [.ref z, .ref u])) := same_new nt5
  have h11 : upd H10 t5 (.tup [.ref z, .ref u]) t5 = some (.tup [.ref z, .ref u]) := upd_same
  generalize upd H10 t5 (.tup [.ref z, .ref u]) = H11 at s11 h11 ⊢
  have s911 := s10.trans s11
  have s511 : Same H5 H11 := s6.trans (Same.trans s7 (s8.trans (Same.trans s9 s911)))
  refine ⟨ans_of (s511 _ _ ht) h11 (ra5.keep s511) (rb.keep s911) (hd5.keep s511) ⟨u, rfl, s11 _ _ h10⟩, fun H12 e12 => ⟨_, rfl, iteT ?_⟩⟩
  have ra12 := (ra.keep s5).keep (Same.trans s511 e12)
  obtain ⟨dx12, _, _, hy12, _, _⟩ := id ra12
  refine ⟨_, rfl, y, dx12, _, rfl, hy12, row_no _ _ _ (by decide +kernel) (by decide +kernel) (by decide +kernel), y, rH, 4, 0, [3, 3, 4], rfl, ra12, rH_ok, by decide, by decide, lq1, lq2, ok_small rfl (by decide), by decide, by decide, by rw [ta1]; exact ok_small rfl (by decide), fun t6 y6 v6' H13 s13 ht6 ra6 hd6 => ?_⟩
  rw [ta1] at hd6
  obtain rfl : v6' = .non := hd6
  refine ⟨t6, _, _, _, rfl, rfl, SqT.of ht6, atI_nat (j := 1) rfl, rfl, ?_⟩
  rw [show decide ((V.non : V) = .non) = true from decide_eq_true rfl]
  exact fin H13
end
end Ev
namespace Ev
open PySem L2 PySem.Spec PyProof.Rows RZ
section
variable {P : Program} {w : World} {K : PySem.W.Frag} {mg : Str → Option Value} {base : Heap}
theorem ok_law {f fD R C TM FE : Addr} {fd fdD : FuncData} (F : Fun K "law" "law" sLaw f fd) (T : Blt mg) (ms : mg "sum" = none) (RL : RowL P w K mg base R C) (FB : FullB P w K mg base R C TM FE) (RT : RowT P w K mg base R C)
    (D : Df P w K mg base 1 "_law_pen" ["_law_script"] (spPen K)) (D1 : Df P w K mg base 3 "_law_world" ["_law_pen_here"] spWorld) (D2 : Df P w K mg base 7 "_law_rule" ["_law_told"] (spLRule C)) (D3 : Df P w K mg base 2 "_law_fills" ["_law_pen_here", "_law_told", "_law_top"] spLFills)
    (D4 : Df P w K mg base 3 "_law_spot" ["_law_pen_here", "_law_fills_so"] spLSpot) (D5 : Df P w K mg base 8 "_law_full_right" ["_law_pen_here"] spFull)
    (GD : FnG P w K mg base 8 fD fdD ["_law_made", "_law_top", "_law_told", "_law_fills_so", "_law_word", "_law_spot_here"] (spDeed C)) (gD : mg "_law_deed_right" = some (.ref fD)) (kD : PySem.W.keepIn K (.ref fD) = true) (bD : Binds K fdD ["_law_made", "_law_top", "_law_told", "_law_fills_so", "_law_word", "_law_spot_here"] []) :
    FnG P w K mg base 9 f fd ["_law_script"] (spLaw K) := by
  obtain ⟨fp, fdp, Gp, gp, kp, bp⟩ := D.ex
  obtain ⟨f1, fd1, G1, g1, k1, b1⟩ := D1.ex
  obtain ⟨f2, fd2, G2, g2, k2, b2⟩ := D2.ex
  obtain ⟨f3, fd3, G3, g3, k3, b3⟩ := D3.ex
  obtain ⟨f4, fd4, G4, g4, k4, b4⟩ := D4.ex
  refine fng_of F scLaw (fun vs H Q E h => ?_) (fun cdv A' outer s H vs Q E hr gd h => ?_)
  · obtain ⟨a, ns, rfl, _⟩ := h
    rfl
  · obtain ⟨a, ns, rfl, hS, hlen, kk⟩ := h
    have hr1 := hr.mono (show 1 ≤ 8 by decide)
    have hr2 := hr.mono (show 2 ≤ 8 by decide)
    have hr3 := hr.mono (show 3 ≤ 8 by decide)
    have hr7 := hr.mono (show 7 ≤ 8 by decide)
    obtain ⟨tE, hE, qE⟩ := lw_end (f := f) (cdv := cdv) (outer := outer) (s := s) (H := H) (E := E) RL FB RT D5 hr
    refine ⟨_, (pss_cons (ps_set (i := 1) scLaw.nd rfl (.inl rfl) (pe_call Gp hr1 (by rfl) gp kp bp .nil pass0 (pa_cons (pv 0) pa_nil)))
    (pss_cons (ps_for PassesOwn.never rfl (pi_range1 (by rfl) T.range (pa_cons pe_int pa_nil)) (pg_name (i := 2) scLaw.nd rfl (.inl rfl))
      (pss_cons (ps_asg (pe_call G1 hr3 (by rfl) g1 k1 b1 .nil pass0 (pa_cons (pv 1) pa_nil)) (pg_tup (by rfl) (pgs_cons (pg_name (i := 3) scLaw.nd rfl (.inl rfl)) (pgs_cons (pg_name (i := 4) scLaw.nd rfl (.inl rfl)) pgs_nil))))
      (pss_cons (ps_par (i := 5) (j := 6) (by rfl) scLaw.nd rfl rfl (by decide) rfl rfl (pa_cons (pe_call G2 hr7 (by rfl) g2 k2 b2 .nil pass0 (pa_cons (pv 3) pa_nil)) (pa_cons (pe_call G3 hr2 (by rfl) g3 k3 b3 .nil pass0 (pa_cons (pv 1) (pa_cons (pv 3) (pa_cons (pv 4) pa_nil)))) pa_nil)) (by rfl))
      (pss_one (ps_for PassesOwn.never rfl (pi_range1 (by rfl) T.range (pa_cons pe_int pa_nil)) (pg_name (i := 7) scLaw.nd rfl (.inl rfl))
        (pss_cons (ps_set (i := 8) scLaw.nd rfl (.inl rfl) (pe_call G4 hr3 (by rfl) g4 k4 b4 .nil pass0 (pa_cons (pv 1) (pa_cons (pv 6) pa_nil))))
        (pss_cons (ps_if (pt_not (pt_val (pe_callG (E := E0) GD hr gd (by rfl) gD kD bD (pa_cons (pv 5) (pa_cons (pv 4) (pa_cons (pv 3) (pa_cons (pv 6) (pa_cons pe_str (pa_cons (pv 8) pa_nil)))))))))
          (pss_one (ps_ret pe_bl)) pss_nil)
        (pss_one (ps_if (PW.pt (pw_and (pt_cmpR (op_neD (Room.units hr)) (pv 6) (pe_lst pa_nil) (nomark _)) (pw_and1 (pt_not (pt_val (pe_callG (E := E0) GD hr gd (by rfl) gD kD bD (pa_cons (pv 5) (pa_cons (pv 4) (pa_cons (pv 3) (pa_cons (pv 6) (pa_cons pe_str (pa_cons (pe_callB (call_min2 rfl) (by rfl) T.min (by decide +kernel) (pa_cons (pe_callTy call_int1 (by rfl) T.int (by decide +kernel) (pa_cons (pv 8) pa_nil)) (pa_cons (pe_op op_sub (pe_callB (cr_sum rfl) (by rfl) ms (by decide +kernel) (pa_cons (pv 6) pa_nil)) pe_int) pa_nil))) pa_nil))))))))))))
          (pss_one (ps_ret pe_bl)) pss_nil)))))))))
    hE)), ?_⟩
    refine ⟨_, rfl, a, ns, rfl, hS, hlen, fun p L H1 np s1 pn0 => ?_⟩
    refine ⟨7, rfl, by decide, by decide, for_range (n := 7) (fun i σ H2 => (∃ v2 v3 v4 v5 v6 v7 v8 : Option V, σ = [some (.ref a), some (.ref p), v2, v3, v4, v5, v6, v7, v8, none]) ∧ Pen L H2 p (200 * (i : Int))) ⟨⟨_, _, _, _, _, _, _, rfl⟩, pn0.mono (by decide)⟩ (fun i σ H2 hi h => ?_) (fun σ H2 h => ?_)⟩
    · obtain ⟨⟨v2, v3, v4, v5, v6, v7, v8, rfl⟩, pn⟩ := h
      refine ⟨_, rfl, p, L, _, rfl, by omega, pn, fun t l r m H3 o m1 m2 q1 q2 hl ht bt3 pn3 => ?_⟩
      have m3 : m ≤ 10 ^ 12 := Int.le_trans m2 (by decide)
      refine ⟨t, _, rfl, SqT.of ht, rfl, _, _, rfl, _, _, rfl, rfl, ?_⟩
      refine ⟨_, rfl, l, r, rfl, hl, o, fun x H4 s4 fa => ⟨_, rfl, _, rfl, _, rfl, p, L, l, r, m, _, rfl, s4 _ _ hl, o, m1, m3, q1, q2, by omega, pn3.keep s4, fun q xs H5 hq qp xlen hx bt5 pn5 => ⟨_, _, rfl, ?_⟩⟩⟩
      have hx13 : ∀ x ∈ xs, 1 ≤ x ∧ x ≤ 10 ^ 13 := fun x h => by have := hx x h; omega
      have hx15 : ∀ x ∈ xs, 1 ≤ x ∧ x ≤ 10 ^ 15 := fun x h => by have := hx x h; omega
      have fa5 : FAt C H5 x r := fa.but (xs := _) (pn3.keep s4).some.choose_spec bt5
      have hl5 := But.tup (s4 _ _ hl) (pn3.keep s4) bt5
      refine ⟨4, rfl, by decide, by decide, for_range (n := 4) (fun j σ G => (∃ v7 v8 : Option V, σ = [some (.ref a), some (.ref p), some (.int (0 + (i : Int))), some (.ref l), some (.int m), some (.ref x), some (.ref q), v7, v8, none]) ∧ FAt C G x r ∧ G l = some (.tup (tupR r)) ∧ G q = some (.lst (xs.map V.int)) ∧ Pen L G p (200 * (i : Int) + 80 + 3 * (j : Int))) ⟨⟨_, _, rfl⟩, fa5, hl5, hq, pn5.mono (by omega)⟩ (fun j σ G hj h => ?_) (fun σ G h => ?_)⟩
      · obtain ⟨⟨v7', v8', rfl⟩, fg, hlg, hqg, pg⟩ := h
        refine ⟨_, rfl, _, rfl, p, L, q, xs, _, rfl, hqg, qp, xlen, hx15, by omega, pg, fun z G1 z0 z1 bt1 pg1 => ?_⟩
        have fg1 : FAt C G1 x r := fg.but (xs := _) pg.some.choose_spec bt1
        have hlg1 := But.tup hlg pg bt1
        have hqg1 := bt1 _ _ qp hqg
        refine ⟨_, rfl, _, rfl, _, rfl, _, rfl, _, rfl, x, l, q, r, m, z, xs, true, rfl, fg1, o, hlg1, m1, m3, q1, q2, hqg1, xlen, hx13, z0, z1, (fun h => by cases h), fun G2 s2 => ⟨_, rfl, iteF ?_⟩⟩
        refine ⟨_, rfl, (by show 0 ≤ sizeLine; decide), fun e ne => ?_⟩
        have s3 : Same G2 (upd G2 e (.lst [])) := same_new ne
        have h3 : upd G2 e (.lst []) e = some (.lst ([] : List V)) := upd_same
        generalize upd G2 e (.lst []) = G3' at s3 h3 ⊢
        have s13 := Same.trans s2 s3
        have fin : ∀ G', Same G1 G' → (∃ v7 v8 : Option V, [some (V.ref a), some (.ref p), some (.int (0 + (i : Int))), some (.ref l), some (.int m), some (.ref x), some (.ref q), some (.int (0 + (j : Int))), some (.int z), none] = [some (.ref a), some (.ref p), some (.int (0 + (i : Int))), some (.ref l), some (.int m), some (.ref x), some (.ref q), v7, v8, none]) ∧ FAt C G' x r ∧ G' l = some (.tup (tupR r)) ∧ G' q = some (.lst (xs.map V.int)) ∧ Pen L G' p (200 * (i : Int) + 80 + 3 * ((j + 1 : Nat) : Int)) :=
          fun G' sg => ⟨⟨_, _, rfl⟩, fg1.keep sg, sg _ _ hlg1, sg _ _ hqg1, (pg1.keep sg).mono (by omega)⟩
        refine ⟨.list (xs.map PyData.int), .list [], .lst (SqL.of (s13 _ _ hqg1)) (dpInts _), .lst (SqL.of h3) .nil, sh_ints _, sh_ints [], _, rfl, ?_⟩
        rw [eqv_nil]
        by_cases ex : xs = []
        · rw [show (!xs.isEmpty) = false by rw [ex]; rfl]
          exact iteF (iteF (fin G3' s13))
        · rw [show (!xs.isEmpty) = true by cases xs with | nil => exact absurd rfl ex | cons => rfl]
          have ls := len_le_sum fun x h => (hx x h).1
          have n1 := List.length_pos_iff.mpr ex
          refine iteT ⟨_, rfl, _, rfl, _, rfl, _, rfl, _, rfl, .inl ⟨_, rfl, _, rfl, q, xs, rfl, SqL.of (s13 _ _ hqg1), _, _, rfl, rfl, _, _, rfl, ?_⟩⟩
          refine ⟨x, l, q, r, m, _, xs, false, rfl, fg1.keep s13, o, s13 _ _ hlg1, m1, m3, q1, q2, s13 _ _ hqg1, xlen, hx13, by split <;> omega, by split <;> omega, (fun _ => ⟨ex, by split <;> omega⟩), fun G4 s4 => ⟨_, rfl, iteF (fin G4 (Same.trans s13 s4))⟩⟩
      · obtain ⟨⟨v7', v8', rfl⟩, fg, hlg, hqg, pg⟩ := h
        exact ⟨⟨_, _, _, _, _, _, _, rfl⟩, pg.mono (by omega)⟩
    · obtain ⟨⟨v2, v3, v4, v5, v6, v7, v8, rfl⟩, pn⟩ := h
      exact qE _ H2 p L _ _ _ _ _ _ _ _ _ _ (by omega) pn fun G' => kk G'
end
end Ev
namespace Ev
open PySem L2 PySem.Spec PyProof.Rows
theorem kit_clsB {K : PySem.W.Frag} {t : Value} {C : Addr} {b : Bool} (h1 : PySem.W.isClsIn K C = true) (h2 : PySem.W.typeIn K (.ref C) = some (.type "type")) (h3 : PySem.W.subIn K t (.ref C) = some b) : PySem.W.kitCls K t (.ref C) = some b := by
  have h1 : (PySem.W.clsIn K C).isSome = true := h1
  unfold PySem.W.kitCls
  simp only [h1, h2, h3]
  cases b <;> decide
theorem fnr_of {P : Program} {w : World} {K : PySem.W.Frag} {mg : Str → Option Value} {base : Heap} {CX : CXT} {k : Nat} {f : Addr} {fd : FuncData} {ps : List Str} {sp : Sp} (F : FnOk P w K mg base CX k f fd ps sp) (b : Binds K fd ps []) : FnR P w K mg base CX k f sp := by
  intro A above s H us vs Q E room env rv hs
  have hl : us.length = ps.length := rv.length.symm.trans (F.len _ _ _ _ hs)
  have bt := b s us (env.mod.kin.keeps fun b o e => (env.bs b o e).1) (by rw [List.append_nil]; exact hl)
  rw [List.append_nil] at bt
  exact F.run A above s H ⟨us, []⟩ us vs Q E room env bt rv hs
theorem exm_own {K : PySem.W.Frag} {t : Value} {C : Addr} (h1 : PySem.W.isClsIn K C = true) (h2 : PySem.W.typeIn K (.ref C) = some (.type "type")) (h3 : PySem.W.subIn K t (.ref C) = some true) (h4 : PySem.W.subIn K (.ref C) (.type "BaseException") = some true) : PySem.W.exmOne K t (.ref C) = some true := by
  unfold PySem.W.exmOne
  rw [h4, if_pos (by decide)]
  exact kit_clsB h1 h2 h3
theorem kb_gA {K : PySem.W.Frag} {x qual y : Str} {st : Stmt} {f : Addr} {fd : FuncData} (F : Fun K x qual st f fd)
    (h : ∀ (kV doc pm : Value) (an : Option Addr) (cdv ct a b : Value), bindArgs (PySem.W.fnOf x qual (defArgs st) (defBody st) (defScope st) .none kV doc pm an cdv ct) ⟨[a], ([y] : List Str).zip [b]⟩ = pure ((["self", y] : List Str).zip [a, b])) : KBinds K fd ["self", y] [y] gA gA := by
  obtain ⟨oc, od, kV, doc, pm, an, cdv, ct, osl, rfl, lk, hcd⟩ := F.ex
  refine ⟨fun s us ws _ hl => ?_, gA_rel⟩
  obtain ⟨a, b, rfl, rfl⟩ := gA_len hl
  exact .of_eq (h _ _ _ _ _ _ _ _)
theorem sqT_K {K : PySem.W.Frag} {H : Hp} {a : Addr} {od : Option Addr} {us : List Value} {n : Nat} {sl : Array (Option Value)} {xs : List V} (h : K.lookup a = some ⟨.type "tuple", od, .seq us.toArray n, sl⟩) (hl : xs.length ≤ 1000) (r : Vals xs us) : SqT K H a xs := by
  have hl2 : us.length ≤ 1000 := by rw [← r.length]; exact hl
  exact .inr ⟨_, us.toArray, n, h, rfl, rfl, by rw [List.size_toArray]; exact Nat.le_trans hl2 (by decide), by simpa using r⟩
set_option maxHeartbeats 4000000 in
theorem all_mk {l : PySem.W.OpenLaw} {w : World} {K : PySem.W.Frag} {h : Heap} {mg : Str → Option Value} {f0 f1 f2 f3 f4 f5 f6 f7 f8 f9 f10 f11 f12 f13 f14 f15 f16 f17 f18 f19 f20 f21 f22 f23 f24 f25 f26 f27 f28 f29 f30 f31 f32 f33 f34 C R f59 T50 KD50 f50 T51 E51 f51 f52 f53 f60 f54 f55 p56 f56 BR f61 TM f62 FE TP DB D1 D2 D3 fa : Addr} {od0 an0 od1 an1 od2 an2 od3 an3 od4 an4 od5 an5 od6 an6 od7 an7 od8 an8 od9 an9 od10 an10 od11 an11 od12 an12 od13 an13 od14 an14 od15 an15 od16 an16 od17 an17 od18 an18 od19 an19 od20 an20 od21 an21 od22 an22 od23 an23 od24 an24 od25 an25 od26 an26 od27 an27 od28 an28 od29 an29 od30 an30 od31 an31 od32 an32 od33 an33 od34 an34 od59 an59 td50 od50 an50 td51 od51 an51 od52 an52 od53 an53 od60 an60 od54 an54 od55 an55 od56 an56 od61 an61 od62 an62 odTP odD1 odD2 odD3 : Option Addr} {sl0 sl1 sl2 sl3 sl4 sl5 sl6 sl7 sl8 sl9 sl10 sl11 sl12 sl13 sl14 sl15 sl16 sl17 sl18 sl19 sl20 sl21 sl22 sl23 sl24 sl25 sl26 sl27 sl28 sl29 sl30 sl31 sl32 sl33 sl34 sl59 ts50 sl50 ts51 sl51 sl52 sl53 sl60 sl54 sl55 sl56 sl61 sl62 slTP slD1 slD2 slD3 : Array (Option Value)} {oc0 dc0 pm0 cd0 ct0 kV0 oc1 dc1 pm1 cd1 ct1 kV1 oc2 dc2 pm2 cd2 ct2 kV2 oc3 dc3 pm3 cd3 ct3 kV3 oc4 dc4 pm4 cd4 ct4 kV4 oc5 dc5 pm5 cd5 ct5 kV5 oc6 dc6 pm6 cd6 ct6 kV6 oc7 dc7 pm7 cd7 ct7 kV7 oc8 dc8 pm8 cd8 ct8 kV8 oc9 dc9 pm9 cd9 ct9 kV9 oc10 dc10 pm10 cd10 ct10 kV10 oc11 dc11 pm11 cd11 ct11 kV11 oc12 dc12 pm12 cd12 ct12 kV12 oc13 dc13 pm13 cd13 ct13 kV13 oc14 dc14 pm14 cd14 ct14 kV14 oc15 dc15 pm15 cd15 ct15 kV15 oc16 dc16 pm16 cd16 ct16 kV16 oc17 dc17 pm17 cd17 ct17 kV17 oc18 dc18 pm18 cd18 ct18 kV18 oc19 dc19 pm19 cd19 ct19 kV19 oc20 dc20 pm20 cd20 ct20 kV20 oc21 dc21 pm21 cd21 ct21 kV21 oc22 dc22 pm22 cd22 ct22 kV22 oc23 dc23 pm23 cd23 ct23 kV23 oc24 dc24 pm24 cd24 ct24 kV24 oc25 dc25 pm25 cd25 ct25 kV25 oc26 dc26 pm26 cd26 ct26 kV26 oc27 dc27 pm27 cd27 ct27 kV27 oc28 dc28 pm28 cd28 ct28 kV28 oc29 dc29 pm29 cd29 ct29 kV29 oc30 dc30 pm30 cd30 ct30 kV30 oc31 dc31 pm31 cd31 ct31 kV31 oc32 dc32 pm32 cd32 ct32 kV32 oc33 dc33 pm33 cd33 ct33 kV33 oc34 dc34 pm34 cd34 ct34 kV34 oc59 dc59 pm59 cd59 ct59 kV59 tc50 oc50 dc50 pm50 cd50 ct50 tc51 oc51 dc51 pm51 cd51 ct51 kV51 oc52 dc52 pm52 cd52 ct52 kV52 oc53 dc53 pm53 cd53 ct53 kV53 oc60 dc60 pm60 cd60 ct60 kV60 oc54 dc54 pm54 cd54 ct54 kV54 oc55 dc55 pm55 cd55 ct55 kV55 oc56 dc56 pm56 cd56 ct56 kV56 oc61 dc61 pm61 cd61 ct61 kV61 oc62 dc62 pm62 cd62 ct62 kV62 : Value} {tt500 tk500 tk501 tgT tgL tgM tgQ tgI tgO tgW uTP0 uTP1 uTP2 uTP3 tkDB0 tkDB1 tkDB2 uD10 uD11 uD20 uD21 uD30 uD31 : Tok} {tn50 tn51 nTP nDB nD1 nD2 nD3 : Nat} {hDB0 hDB1 hDB2 : Int} {nmBR qBR nsBR bsBR bmBR snBR subBR abBR colBR ddBR k0BR k1BR k2BR k3BR k5BR nmTM qTM nsTM bsTM bmTM snTM subTM abTM colTM ddTM k0TM k1TM k2TM k3TM k5TM : _} {rs56 : List Value} (X : K.In h) (G : h.Ns mainGlobals mg) (hfa : mg "law" = some (.ref fa))
    (a0 : PySem.W.nsIn K mainGlobals "is_integer" = some (some (.ref f0)))
    (l0 : K.lookup f0 = some ⟨oc0, od0, .func (PySem.W.fnOf "is_integer" "is_integer" (defArgs sIsInt) (defBody sIsInt) (defScope sIsInt) .none kV0 dc0 pm0 an0 cd0 ct0), sl0⟩)
    (c0 : PySem.W.codeIn K cd0 "is_integer" = true)
    (k0 : PySem.W.keepIn K (.ref f0) = true)
    (a1 : PySem.W.nsIn K mainGlobals "is_within" = some (some (.ref f1)))
    (l1 : K.lookup f1 = some ⟨oc1, od1, .func (PySem.W.fnOf "is_within" "is_within" (defArgs sWithin) (defBody sWithin) (defScope sWithin) .none kV1 dc1 pm1 an1 cd1 ct1), sl1⟩)
    (c1 : PySem.W.codeIn K cd1 "is_within" = true)
    (k1 : PySem.W.keepIn K (.ref f1) = true)
    (a2 : PySem.W.nsIn K mainGlobals "is_pair" = some (some (.ref f2)))
    (l2 : K.lookup f2 = some ⟨oc2, od2, .func (PySem.W.fnOf "is_pair" "is_pair" (defArgs sPair) (defBody sPair) (defScope sPair) .none kV2 dc2 pm2 an2 cd2 ct2), sl2⟩)
    (c2 : PySem.W.codeIn K cd2 "is_pair" = true)
    (k2 : PySem.W.keepIn K (.ref f2) = true)
    (a3 : PySem.W.nsIn K mainGlobals "can_be" = some (some (.ref f3)))
    (l3 : K.lookup f3 = some ⟨oc3, od3, .func (PySem.W.fnOf "can_be" "can_be" (defArgs sCanBe) (defBody sCanBe) (defScope sCanBe) .none kV3 dc3 pm3 an3 cd3 ct3), sl3⟩)
    (c3 : PySem.W.codeIn K cd3 "can_be" = true)
    (k3 : PySem.W.keepIn K (.ref f3) = true)
    (a4 : PySem.W.nsIn K mainGlobals "least_of" = some (some (.ref f4)))
    (l4 : K.lookup f4 = some ⟨oc4, od4, .func (PySem.W.fnOf "least_of" "least_of" (defArgs sLeastOf) (defBody sLeastOf) (defScope sLeastOf) .none kV4 dc4 pm4 an4 cd4 ct4), sl4⟩)
    (c4 : PySem.W.codeIn K cd4 "least_of" = true)
    (k4 : PySem.W.keepIn K (.ref f4) = true)
    (a5 : PySem.W.nsIn K mainGlobals "dealt" = some (some (.ref f5)))
    (l5 : K.lookup f5 = some ⟨oc5, od5, .func (PySem.W.fnOf "dealt" "dealt" (defArgs sDealt) (defBody sDealt) (defScope sDealt) .none kV5 dc5 pm5 an5 cd5 ct5), sl5⟩)
    (c5 : PySem.W.codeIn K cd5 "dealt" = true)
    (k5 : PySem.W.keepIn K (.ref f5) = true)
    (a6 : PySem.W.nsIn K mainGlobals "page_at" = some (some (.ref f6)))
    (l6 : K.lookup f6 = some ⟨oc6, od6, .func (PySem.W.fnOf "page_at" "page_at" (defArgs sPageAt) (defBody sPageAt) (defScope sPageAt) .none kV6 dc6 pm6 an6 cd6 ct6), sl6⟩)
    (c6 : PySem.W.codeIn K cd6 "page_at" = true)
    (k6 : PySem.W.keepIn K (.ref f6) = true)
    (a7 : PySem.W.nsIn K mainGlobals "page_for" = some (some (.ref f7)))
    (l7 : K.lookup f7 = some ⟨oc7, od7, .func (PySem.W.fnOf "page_for" "page_for" (defArgs sPageFor) (defBody sPageFor) (defScope sPageFor) .none kV7 dc7 pm7 an7 cd7 ct7), sl7⟩)
    (c7 : PySem.W.codeIn K cd7 "page_for" = true)
    (k7 : PySem.W.keepIn K (.ref f7) = true)
    (a8 : PySem.W.nsIn K mainGlobals "behind_put" = some (some (.ref f8)))
    (l8 : K.lookup f8 = some ⟨oc8, od8, .func (PySem.W.fnOf "behind_put" "behind_put" (defArgs sBehindPut) (defBody sBehindPut) (defScope sBehindPut) .none kV8 dc8 pm8 an8 cd8 ct8), sl8⟩)
    (c8 : PySem.W.codeIn K cd8 "behind_put" = true)
    (k8 : PySem.W.keepIn K (.ref f8) = true)
    (a9 : PySem.W.nsIn K mainGlobals "behind_take" = some (some (.ref f9)))
    (l9 : K.lookup f9 = some ⟨oc9, od9, .func (PySem.W.fnOf "behind_take" "behind_take" (defArgs sBehindTake) (defBody sBehindTake) (defScope sBehindTake) .none kV9 dc9 pm9 an9 cd9 ct9), sl9⟩)
    (c9 : PySem.W.codeIn K cd9 "behind_take" = true)
    (k9 : PySem.W.keepIn K (.ref f9) = true)
    (a10 : PySem.W.nsIn K mainGlobals "group_of" = some (some (.ref f10)))
    (l10 : K.lookup f10 = some ⟨oc10, od10, .func (PySem.W.fnOf "group_of" "group_of" (defArgs sGroupOf) (defBody sGroupOf) (defScope sGroupOf) .none kV10 dc10 pm10 an10 cd10 ct10), sl10⟩)
    (c10 : PySem.W.codeIn K cd10 "group_of" = true)
    (k10 : PySem.W.keepIn K (.ref f10) = true)
    (a11 : PySem.W.nsIn K mainGlobals "dealt_anew" = some (some (.ref f11)))
    (l11 : K.lookup f11 = some ⟨oc11, od11, .func (PySem.W.fnOf "dealt_anew" "dealt_anew" (defArgs sDealtAnew) (defBody sDealtAnew) (defScope sDealtAnew) .none kV11 dc11 pm11 an11 cd11 ct11), sl11⟩)
    (c11 : PySem.W.codeIn K cd11 "dealt_anew" = true)
    (k11 : PySem.W.keepIn K (.ref f11) = true)
    (a12 : PySem.W.nsIn K mainGlobals "need_fill_rule" = some (some (.ref f12)))
    (l12 : K.lookup f12 = some ⟨oc12, od12, .func (PySem.W.fnOf "need_fill_rule" "need_fill_rule" (defArgs sNeedFillRule) (defBody sNeedFillRule) (defScope sNeedFillRule) .none kV12 dc12 pm12 an12 cd12 ct12), sl12⟩)
    (c12 : PySem.W.codeIn K cd12 "need_fill_rule" = true)
    (k12 : PySem.W.keepIn K (.ref f12) = true)
    (a13 : PySem.W.nsIn K mainGlobals "need_size" = some (some (.ref f13)))
    (l13 : K.lookup f13 = some ⟨oc13, od13, .func (PySem.W.fnOf "need_size" "need_size" (defArgs sNeedSize) (defBody sNeedSize) (defScope sNeedSize) .none kV13 dc13 pm13 an13 cd13 ct13), sl13⟩)
    (c13 : PySem.W.codeIn K cd13 "need_size" = true)
    (k13 : PySem.W.keepIn K (.ref f13) = true)
    (a14 : PySem.W.nsIn K mainGlobals "need_page_size" = some (some (.ref f14)))
    (l14 : K.lookup f14 = some ⟨oc14, od14, .func (PySem.W.fnOf "need_page_size" "need_page_size" (defArgs sNeedPageSize) (defBody sNeedPageSize) (defScope sNeedPageSize) .none kV14 dc14 pm14 an14 cd14 ct14), sl14⟩)
    (c14 : PySem.W.codeIn K cd14 "need_page_size" = true)
    (k14 : PySem.W.keepIn K (.ref f14) = true)
    (a15 : PySem.W.nsIn K mainGlobals "need_up_to" = some (some (.ref f15)))
    (l15 : K.lookup f15 = some ⟨oc15, od15, .func (PySem.W.fnOf "need_up_to" "need_up_to" (defArgs sNeedUpTo) (defBody sNeedUpTo) (defScope sNeedUpTo) .none kV15 dc15 pm15 an15 cd15 ct15), sl15⟩)
    (c15 : PySem.W.codeIn K cd15 "need_up_to" = true)
    (k15 : PySem.W.keepIn K (.ref f15) = true)
    (a16 : PySem.W.nsIn K mainGlobals "kept" = some (some (.ref f16)))
    (l16 : K.lookup f16 = some ⟨oc16, od16, .func (PySem.W.fnOf "kept" "kept" (defArgs sKept) (defBody sKept) (defScope sKept) .none kV16 dc16 pm16 an16 cd16 ct16), sl16⟩)
    (c16 : PySem.W.codeIn K cd16 "kept" = true)
    (k16 : PySem.W.keepIn K (.ref f16) = true)
    (a17 : PySem.W.nsIn K mainGlobals "parts_of" = some (some (.ref f17)))
    (l17 : K.lookup f17 = some ⟨oc17, od17, .func (PySem.W.fnOf "parts_of" "parts_of" (defArgs sParts) (defBody sParts) (defScope sParts) .none kV17 dc17 pm17 an17 cd17 ct17), sl17⟩)
    (c17 : PySem.W.codeIn K cd17 "parts_of" = true)
    (k17 : PySem.W.keepIn K (.ref f17) = true)
    (a18 : PySem.W.nsIn K mainGlobals "_law_pen" = some (some (.ref f18)))
    (l18 : K.lookup f18 = some ⟨oc18, od18, .func (PySem.W.fnOf "_law_pen" "_law_pen" (defArgs sPen) (defBody sPen) (defScope sPen) .none kV18 dc18 pm18 an18 cd18 ct18), sl18⟩)
    (c18 : PySem.W.codeIn K cd18 "_law_pen" = true)
    (k18 : PySem.W.keepIn K (.ref f18) = true)
    (a19 : PySem.W.nsIn K mainGlobals "_law_draw" = some (some (.ref f19)))
    (l19 : K.lookup f19 = some ⟨oc19, od19, .func (PySem.W.fnOf "_law_draw" "_law_draw" (defArgs sDraw) (defBody sDraw) (defScope sDraw) .none kV19 dc19 pm19 an19 cd19 ct19), sl19⟩)
    (c19 : PySem.W.codeIn K cd19 "_law_draw" = true)
    (k19 : PySem.W.keepIn K (.ref f19) = true)
    (a20 : PySem.W.nsIn K mainGlobals "_law_pick" = some (some (.ref f20)))
    (l20 : K.lookup f20 = some ⟨oc20, od20, .func (PySem.W.fnOf "_law_pick" "_law_pick" (defArgs sPick) (defBody sPick) (defScope sPick) .none kV20 dc20 pm20 an20 cd20 ct20), sl20⟩)
    (c20 : PySem.W.codeIn K cd20 "_law_pick" = true)
    (k20 : PySem.W.keepIn K (.ref f20) = true)
    (a21 : PySem.W.nsIn K mainGlobals "_law_numbers" = some (some (.ref f21)))
    (l21 : K.lookup f21 = some ⟨oc21, od21, .func (PySem.W.fnOf "_law_numbers" "_law_numbers" (defArgs sLNumbers) (defBody sLNumbers) (defScope sLNumbers) .none kV21 dc21 pm21 an21 cd21 ct21), sl21⟩)
    (c21 : PySem.W.codeIn K cd21 "_law_numbers" = true)
    (k21 : PySem.W.keepIn K (.ref f21) = true)
    (a22 : PySem.W.nsIn K mainGlobals "_law_rule" = some (some (.ref f22)))
    (l22 : K.lookup f22 = some ⟨oc22, od22, .func (PySem.W.fnOf "_law_rule" "_law_rule" (defArgs sLRule) (defBody sLRule) (defScope sLRule) .none kV22 dc22 pm22 an22 cd22 ct22), sl22⟩)
    (c22 : PySem.W.codeIn K cd22 "_law_rule" = true)
    (k22 : PySem.W.keepIn K (.ref f22) = true)
    (a23 : PySem.W.nsIn K mainGlobals "_law_least" = some (some (.ref f23)))
    (l23 : K.lookup f23 = some ⟨oc23, od23, .func (PySem.W.fnOf "_law_least" "_law_least" (defArgs sLLeast) (defBody sLLeast) (defScope sLLeast) .none kV23 dc23 pm23 an23 cd23 ct23), sl23⟩)
    (c23 : PySem.W.codeIn K cd23 "_law_least" = true)
    (k23 : PySem.W.keepIn K (.ref f23) = true)
    (a24 : PySem.W.nsIn K mainGlobals "_law_world" = some (some (.ref f24)))
    (l24 : K.lookup f24 = some ⟨oc24, od24, .func (PySem.W.fnOf "_law_world" "_law_world" (defArgs sLWorld) (defBody sLWorld) (defScope sLWorld) .none kV24 dc24 pm24 an24 cd24 ct24), sl24⟩)
    (c24 : PySem.W.codeIn K cd24 "_law_world" = true)
    (k24 : PySem.W.keepIn K (.ref f24) = true)
    (a25 : PySem.W.nsIn K mainGlobals "_law_dealt" = some (some (.ref f25)))
    (l25 : K.lookup f25 = some ⟨oc25, od25, .func (PySem.W.fnOf "_law_dealt" "_law_dealt" (defArgs sLDealt) (defBody sLDealt) (defScope sLDealt) .none kV25 dc25 pm25 an25 cd25 ct25), sl25⟩)
    (c25 : PySem.W.codeIn K cd25 "_law_dealt" = true)
    (k25 : PySem.W.keepIn K (.ref f25) = true)
    (a26 : PySem.W.nsIn K mainGlobals "_law_page" = some (some (.ref f26)))
    (l26 : K.lookup f26 = some ⟨oc26, od26, .func (PySem.W.fnOf "_law_page" "_law_page" (defArgs sLPage) (defBody sLPage) (defScope sLPage) .none kV26 dc26 pm26 an26 cd26 ct26), sl26⟩)
    (c26 : PySem.W.codeIn K cd26 "_law_page" = true)
    (k26 : PySem.W.keepIn K (.ref f26) = true)
    (a27 : PySem.W.nsIn K mainGlobals "_law_grouped" = some (some (.ref f27)))
    (l27 : K.lookup f27 = some ⟨oc27, od27, .func (PySem.W.fnOf "_law_grouped" "_law_grouped" (defArgs sLGrouped) (defBody sLGrouped) (defScope sLGrouped) .none kV27 dc27 pm27 an27 cd27 ct27), sl27⟩)
    (c27 : PySem.W.codeIn K cd27 "_law_grouped" = true)
    (k27 : PySem.W.keepIn K (.ref f27) = true)
    (a28 : PySem.W.nsIn K mainGlobals "_law_put" = some (some (.ref f28)))
    (l28 : K.lookup f28 = some ⟨oc28, od28, .func (PySem.W.fnOf "_law_put" "_law_put" (defArgs sLPut) (defBody sLPut) (defScope sLPut) .none kV28 dc28 pm28 an28 cd28 ct28), sl28⟩)
    (c28 : PySem.W.codeIn K cd28 "_law_put" = true)
    (k28 : PySem.W.keepIn K (.ref f28) = true)
    (a29 : PySem.W.nsIn K mainGlobals "_law_take" = some (some (.ref f29)))
    (l29 : K.lookup f29 = some ⟨oc29, od29, .func (PySem.W.fnOf "_law_take" "_law_take" (defArgs sLTake) (defBody sLTake) (defScope sLTake) .none kV29 dc29 pm29 an29 cd29 ct29), sl29⟩)
    (c29 : PySem.W.codeIn K cd29 "_law_take" = true)
    (k29 : PySem.W.keepIn K (.ref f29) = true)
    (a30 : PySem.W.nsIn K mainGlobals "_law_fills" = some (some (.ref f30)))
    (l30 : K.lookup f30 = some ⟨oc30, od30, .func (PySem.W.fnOf "_law_fills" "_law_fills" (defArgs sLFills) (defBody sLFills) (defScope sLFills) .none kV30 dc30 pm30 an30 cd30 ct30), sl30⟩)
    (c30 : PySem.W.codeIn K cd30 "_law_fills" = true)
    (k30 : PySem.W.keepIn K (.ref f30) = true)
    (a31 : PySem.W.nsIn K mainGlobals "_law_spot" = some (some (.ref f31)))
    (l31 : K.lookup f31 = some ⟨oc31, od31, .func (PySem.W.fnOf "_law_spot" "_law_spot" (defArgs sLSpot) (defBody sLSpot) (defScope sLSpot) .none kV31 dc31 pm31 an31 cd31 ct31), sl31⟩)
    (c31 : PySem.W.codeIn K cd31 "_law_spot" = true)
    (k31 : PySem.W.keepIn K (.ref f31) = true)
    (a32 : PySem.W.nsIn K mainGlobals "_law_deed_right" = some (some (.ref f32)))
    (l32 : K.lookup f32 = some ⟨oc32, od32, .func (PySem.W.fnOf "_law_deed_right" "_law_deed_right" (defArgs sLDeedRight) (defBody sLDeedRight) (defScope sLDeedRight) .none kV32 dc32 pm32 an32 cd32 ct32), sl32⟩)
    (c32 : PySem.W.codeIn K cd32 "_law_deed_right" = true)
    (k32 : PySem.W.keepIn K (.ref f32) = true)
    (a33 : PySem.W.nsIn K mainGlobals "_law_full_right" = some (some (.ref f33)))
    (l33 : K.lookup f33 = some ⟨oc33, od33, .func (PySem.W.fnOf "_law_full_right" "_law_full_right" (defArgs sLFullRight) (defBody sLFullRight) (defScope sLFullRight) .none kV33 dc33 pm33 an33 cd33 ct33), sl33⟩)
    (c33 : PySem.W.codeIn K cd33 "_law_full_right" = true)
    (k33 : PySem.W.keepIn K (.ref f33) = true)
    (a34 : PySem.W.nsIn K mainGlobals "law" = some (some (.ref f34)))
    (l34 : K.lookup f34 = some ⟨oc34, od34, .func (PySem.W.fnOf "law" "law" (defArgs sLaw) (defBody sLaw) (defScope sLaw) .none kV34 dc34 pm34 an34 cd34 ct34), sl34⟩)
    (c34 : PySem.W.codeIn K cd34 "law" = true)
    (k34 : PySem.W.keepIn K (.ref f34) = true)
    (aC : PySem.W.nsIn K mainGlobals "FillRule" = some (some (.ref C)))
    (pgC : PySem.W.plainGet K C Str.empty = true)
    (hdC : PySem.W.hasDictIn K C = true)
    (poC : PySem.W.plainOver K C = true)
    (saC : PySem.W.findIn K (.ref C) "__setattr__" = some (some (.builtin "object.__setattr__")))
    (mkC : PySem.W.makesIn K C = true)
    (kcC : PySem.W.keepIn K (.ref C) = true)
    (n0C : PySem.W.findIn K (.ref C) "times" = some none)
    (n1C : PySem.W.findIn K (.ref C) "plus" = some none)
    (n2C : PySem.W.findIn K (.ref C) "cut_of" = some none)
    (n3C : PySem.W.findIn K (.ref C) "join_of" = some none)
    (n4C : PySem.W.findIn K (.ref C) "width" = some none)
    (aR : PySem.W.nsIn K mainGlobals "Row" = some (some (.ref R)))
    (pgR : PySem.W.plainGet K R Str.empty = true)
    (hdR : PySem.W.hasDictIn K R = true)
    (poR : PySem.W.plainOver K R = true)
    (saR : PySem.W.findIn K (.ref R) "__setattr__" = some (some (.builtin "object.__setattr__")))
    (mkR : PySem.W.makesIn K R = true)
    (kcR : PySem.W.keepIn K (.ref R) = true)
    (n0R : PySem.W.findIn K (.ref R) "fill_rule" = some none)
    (n1R : PySem.W.findIn K (.ref R) "most" = some none)
    (n2R : PySem.W.findIn K (.ref R) "fills" = some none)
    (hcC : PySem.W.findIn K (.ref C) "__class__" = some (some (.builtin "object.__class__")))
    (moC : PySem.W.mroIn K C (.type "object") = some true)
    (icC : PySem.W.isClsIn K C = true)
    (ttC : PySem.W.typeIn K (.ref C) = some (.type "type"))
    (hcR : PySem.W.findIn K (.ref R) "__class__" = some (some (.builtin "object.__class__")))
    (moR : PySem.W.mroIn K R (.type "object") = some true)
    (icR : PySem.W.isClsIn K R = true)
    (ttR : PySem.W.typeIn K (.ref R) = some (.type "type"))
    (ikn : PySem.W.specialIn K (.builtin "object.__class__") "__get__" = some (some (.builtin "getset_descriptor.__get__")))
    (ikt : PySem.W.takesIn K (.builtin "object.__class__") = some true)
    (neC : PySem.W.findIn K (.ref C) "__ne__" = some (some (.builtin "object.__ne__")))
    (m59 : PySem.W.findIn K (.ref C) "__eq__" = some (some (.ref f59)))
    (i59 : PySem.W.isFn K (.ref f59) = true)
    (l59 : K.lookup f59 = some ⟨oc59, od59, .func (PySem.W.fnOf "__eq__" "FillRule.__eq__" (defArgs sFillRule_eq) (defBody sFillRule_eq) (defScope sFillRule_eq) .none kV59 dc59 pm59 an59 cd59 ct59), sl59⟩)
    (c59 : PySem.W.codeIn K cd59 "FillRule.__eq__" = true)
    (k59 : PySem.W.keepIn K (.ref f59) = true)
    (m50 : PySem.W.findIn K (.ref C) "__init__" = some (some (.ref f50)))
    (i50 : PySem.W.isFn K (.ref f50) = true)
    (l50 : K.lookup f50 = some ⟨oc50, od50, .func (PySem.W.fnOf "__init__" "FillRule.__init__" (defArgs sFillRule_init) (defBody sFillRule_init) (defScope sFillRule_init) (.ref T50) (.ref KD50) dc50 pm50 an50 cd50 ct50), sl50⟩)
    (c50 : PySem.W.codeIn K cd50 "FillRule.__init__" = true)
    (k50 : PySem.W.keepIn K (.ref f50) = true)
    (t50 : K.lookup T50 = some ⟨tc50, td50, .seq #[Value.int 0 tt500] tn50, ts50⟩)
    (kd500 : PySem.W.nsIn K KD50 "cut_of" = some (some (.int 1 tk500)))
    (kd501 : PySem.W.nsIn K KD50 "join_of" = some (some (.int 2 tk501)))
    (m51 : PySem.W.findIn K (.ref R) "__init__" = some (some (.ref f51)))
    (i51 : PySem.W.isFn K (.ref f51) = true)
    (l51 : K.lookup f51 = some ⟨oc51, od51, .func (PySem.W.fnOf "__init__" "Row.__init__" (defArgs sRow_init) (defBody sRow_init) (defScope sRow_init) (.ref T51) kV51 dc51 pm51 an51 cd51 ct51), sl51⟩)
    (c51 : PySem.W.codeIn K cd51 "Row.__init__" = true)
    (k51 : PySem.W.keepIn K (.ref f51) = true)
    (t51 : K.lookup T51 = some ⟨tc51, td51, .seq #[.ref E51] tn51, ts51⟩)
    (m52 : PySem.W.findIn K (.ref R) "__len__" = some (some (.ref f52)))
    (i52 : PySem.W.isFn K (.ref f52) = true)
    (l52 : K.lookup f52 = some ⟨oc52, od52, .func (PySem.W.fnOf "__len__" "Row.__len__" (defArgs sRow_len) (defBody sRow_len) (defScope sRow_len) .none kV52 dc52 pm52 an52 cd52 ct52), sl52⟩)
    (c52 : PySem.W.codeIn K cd52 "Row.__len__" = true)
    (k52 : PySem.W.keepIn K (.ref f52) = true)
    (m53 : PySem.W.findIn K (.ref R) "__iter__" = some (some (.ref f53)))
    (i53 : PySem.W.isFn K (.ref f53) = true)
    (l53 : K.lookup f53 = some ⟨oc53, od53, .func (PySem.W.fnOf "__iter__" "Row.__iter__" (defArgs sRow_iter) (defBody sRow_iter) (defScope sRow_iter) .none kV53 dc53 pm53 an53 cd53 ct53), sl53⟩)
    (c53 : PySem.W.codeIn K cd53 "Row.__iter__" = true)
    (k53 : PySem.W.keepIn K (.ref f53) = true)
    (m60 : PySem.W.findIn K (.ref R) "__eq__" = some (some (.ref f60)))
    (i60 : PySem.W.isFn K (.ref f60) = true)
    (l60 : K.lookup f60 = some ⟨oc60, od60, .func (PySem.W.fnOf "__eq__" "Row.__eq__" (defArgs sRow_eq) (defBody sRow_eq) (defScope sRow_eq) .none kV60 dc60 pm60 an60 cd60 ct60), sl60⟩)
    (c60 : PySem.W.codeIn K cd60 "Row.__eq__" = true)
    (k60 : PySem.W.keepIn K (.ref f60) = true)
    (m54 : PySem.W.findIn K (.ref R) "put" = some (some (.ref f54)))
    (i54 : PySem.W.isFn K (.ref f54) = true)
    (l54 : K.lookup f54 = some ⟨oc54, od54, .func (PySem.W.fnOf "put" "Row.put" (defArgs sRow_put) (defBody sRow_put) (defScope sRow_put) .none kV54 dc54 pm54 an54 cd54 ct54), sl54⟩)
    (c54 : PySem.W.codeIn K cd54 "Row.put" = true)
    (k54 : PySem.W.keepIn K (.ref f54) = true)
    (m55 : PySem.W.findIn K (.ref R) "take" = some (some (.ref f55)))
    (i55 : PySem.W.isFn K (.ref f55) = true)
    (l55 : K.lookup f55 = some ⟨oc55, od55, .func (PySem.W.fnOf "take" "Row.take" (defArgs sRow_take) (defBody sRow_take) (defScope sRow_take) .none kV55 dc55 pm55 an55 cd55 ct55), sl55⟩)
    (c55 : PySem.W.codeIn K cd55 "Row.take" = true)
    (k55 : PySem.W.keepIn K (.ref f55) = true)
    (pa56 : PySem.W.findIn K (.ref R) "total" = some (some (.ref p56)))
    (pb56 : PySem.W.specialIn K (.ref p56) "__get__" = some (some (.builtin "property.__get__")))
    (pc56 : PySem.W.takesIn K (.ref p56) = some true)
    (pd56 : PySem.W.recIn K p56 "property" = some (.ref f56 :: rs56))
    (l56 : K.lookup f56 = some ⟨oc56, od56, .func (PySem.W.fnOf "total" "Row.total" (defArgs sRow_total) (defBody sRow_total) (defScope sRow_total) .none kV56 dc56 pm56 an56 cd56 ct56), sl56⟩)
    (c56 : PySem.W.codeIn K cd56 "Row.total" = true)
    (k56 : PySem.W.keepIn K (.ref f56) = true)
    (aBR : PySem.W.nsIn K mainGlobals "BadRule" = some (some (.ref BR)))
    (icBR : PySem.W.isClsIn K BR = true)
    (ttBR : PySem.W.typeIn K (.ref BR) = some (.type "type"))
    (gaBR : PySem.W.findIn K (.ref BR) "__getattribute__" = some (some (.builtin "BaseException.__getattribute__")))
    (ggBR : PySem.W.findIn K (.ref BR) "__getattr__" = some none)
    (hdBR : PySem.W.hasDictIn K BR = true)
    (hcBR : PySem.W.findIn K (.ref BR) "__class__" = some (some (.builtin "object.__class__")))
    (moBR : PySem.W.mroIn K BR (.type "object") = some true)
    (saBR : PySem.W.findIn K (.ref BR) "__setattr__" = some (some (.builtin "object.__setattr__")))
    (exBR : PySem.W.subIn K (.ref BR) (.type "BaseException") = some true)
    (keBR : PySem.W.keepIn K (.ref BR) = true)
    (vEBR : PySem.W.subIn K (.ref BR) (.type "ValueError") = some true)
    (sSBR : PySem.W.subIn K (.ref BR) (.ref BR) = some true)
    (no0BR : PySem.W.findIn K (.ref BR) "part" = some none)
    (lxBR : K.lookup BR = some (excClassObj nmBR qBR BR nsBR bsBR bmBR true snBR subBR abBR colBR ddBR k0BR k1BR k2BR k3BR k5BR "ValueError.__new__"))
    (rxBR : PySem.HandSPX.refsVE bmBR = true)
    (m61 : PySem.W.findIn K (.ref BR) "__init__" = some (some (.ref f61)))
    (l61 : K.lookup f61 = some ⟨oc61, od61, .func (PySem.W.fnOf "__init__" "BadRule.__init__" (defArgs sBRInit) (defBody sBRInit) (defScope sBRInit) .none kV61 dc61 pm61 an61 cd61 ct61), sl61⟩)
    (c61 : PySem.W.codeIn K cd61 "BadRule.__init__" = true)
    (k61 : PySem.W.keepIn K (.ref f61) = true)
    (ty61 : PySem.W.typeIn K (.ref f61) = some (.type "function"))
    (aTM : PySem.W.nsIn K mainGlobals "TooMany" = some (some (.ref TM)))
    (icTM : PySem.W.isClsIn K TM = true)
    (ttTM : PySem.W.typeIn K (.ref TM) = some (.type "type"))
    (gaTM : PySem.W.findIn K (.ref TM) "__getattribute__" = some (some (.builtin "BaseException.__getattribute__")))
    (ggTM : PySem.W.findIn K (.ref TM) "__getattr__" = some none)
    (hdTM : PySem.W.hasDictIn K TM = true)
    (hcTM : PySem.W.findIn K (.ref TM) "__class__" = some (some (.builtin "object.__class__")))
    (moTM : PySem.W.mroIn K TM (.type "object") = some true)
    (saTM : PySem.W.findIn K (.ref TM) "__setattr__" = some (some (.builtin "object.__setattr__")))
    (exTM : PySem.W.subIn K (.ref TM) (.type "BaseException") = some true)
    (keTM : PySem.W.keepIn K (.ref TM) = true)
    (vETM : PySem.W.subIn K (.ref TM) (.type "ValueError") = some true)
    (sSTM : PySem.W.subIn K (.ref TM) (.ref TM) = some true)
    (no0TM : PySem.W.findIn K (.ref TM) "what" = some none)
    (no1TM : PySem.W.findIn K (.ref TM) "most" = some none)
    (lxTM : K.lookup TM = some (excClassObj nmTM qTM TM nsTM bsTM bmTM true snTM subTM abTM colTM ddTM k0TM k1TM k2TM k3TM k5TM "ValueError.__new__"))
    (rxTM : PySem.HandSPX.refsVE bmTM = true)
    (m62 : PySem.W.findIn K (.ref TM) "__init__" = some (some (.ref f62)))
    (l62 : K.lookup f62 = some ⟨oc62, od62, .func (PySem.W.fnOf "__init__" "TooMany.__init__" (defArgs sTooMany_init) (defBody sTooMany_init) (defScope sTooMany_init) .none kV62 dc62 pm62 an62 cd62 ct62), sl62⟩)
    (c62 : PySem.W.codeIn K cd62 "TooMany.__init__" = true)
    (k62 : PySem.W.keepIn K (.ref f62) = true)
    (ty62 : PySem.W.typeIn K (.ref f62) = some (.type "function"))
    (aFE : PySem.W.nsIn K mainGlobals "FairError" = some (some (.ref FE)))
    (icFE : PySem.W.isClsIn K FE = true)
    (ttFE : PySem.W.typeIn K (.ref FE) = some (.type "type"))
    (suTF : PySem.W.subIn K (.ref TM) (.ref FE) = some true)
    (suFX : PySem.W.subIn K (.ref FE) (.type "BaseException") = some true)
    (hgT : PySem.W.nsIn K mainGlobals "MOST_TIMES" = some (some (.int 12 tgT)))
    (hgL : PySem.W.nsIn K mainGlobals "LEAST_SIZE" = some (some (.int 2 tgL)))
    (hgM : PySem.W.nsIn K mainGlobals "MOST_SIZE" = some (some (.int 1000000000000 tgM)))
    (hgQ : PySem.W.nsIn K mainGlobals "MOST_PAGES" = some (some (.int 2000 tgQ)))
    (hgI : PySem.W.nsIn K mainGlobals "MOST_FILL" = some (some (.int 1000000000000000 tgI)))
    (hgO : PySem.W.nsIn K mainGlobals "MORE" = some (some (.str "more" tgO)))
    (hgW : PySem.W.nsIn K mainGlobals "FEWER" = some (some (.str "fewer" tgW)))
    (aTP : PySem.W.nsIn K mainGlobals "PARTS" = some (some (.ref TP)))
    (lTP : K.lookup TP = some ⟨.type "tuple", odTP, .seq #[.str "times" uTP0, .str "plus" uTP1, .str "cut_of" uTP2, .str "join_of" uTP3] nTP, slTP⟩)
    (aDB : PySem.W.nsIn K mainGlobals "BOUNDS" = some (some (.ref DB)))
    (lDB : K.lookup DB = some ⟨.type "dict", none, .dict #[⟨hDB0, .str "plus" tkDB0, .ref D1⟩, ⟨hDB1, .str "cut_of" tkDB1, .ref D2⟩, ⟨hDB2, .str "join_of" tkDB2, .ref D3⟩] nDB, #[]⟩)
    (hkDB0 : hDB0 = PyData.keyHash w.params "plus")
    (nsDB0 : PySem.W.nsIn K DB "plus" = some (some (.ref D1)))
    (hkDB1 : hDB1 = PyData.keyHash w.params "cut_of")
    (nsDB1 : PySem.W.nsIn K DB "cut_of" = some (some (.ref D2)))
    (hkDB2 : hDB2 = PyData.keyHash w.params "join_of")
    (nsDB2 : PySem.W.nsIn K DB "join_of" = some (some (.ref D3)))
    (lowDB : (DB == sysModules) = false)
    (lD1 : K.lookup D1 = some ⟨.type "tuple", odD1, .seq #[.int (-12) uD10, .int 12 uD11] nD1, slD1⟩)
    (lD2 : K.lookup D2 = some ⟨.type "tuple", odD2, .seq #[.int 1 uD20, .int 5 uD21] nD2, slD2⟩)
    (lD3 : K.lookup D3 = some ⟨.type "tuple", odD3, .seq #[.int 2 uD30, .int 6 uD31] nD3, slD3⟩)
    (zint : PySem.W.nsIn K mainGlobals "int" = some none)
    (zlen : PySem.W.nsIn K mainGlobals "len" = some none)
    (zabs : PySem.W.nsIn K mainGlobals "abs" = some none)
    (zlist : PySem.W.nsIn K mainGlobals "list" = some none)
    (zmin : PySem.W.nsIn K mainGlobals "min" = some none)
    (zmax : PySem.W.nsIn K mainGlobals "max" = some none)
    (zisinstance : PySem.W.nsIn K mainGlobals "isinstance" = some none)
    (zbool : PySem.W.nsIn K mainGlobals "bool" = some none)
    (ztuple : PySem.W.nsIn K mainGlobals "tuple" = some none)
    (zall : PySem.W.nsIn K mainGlobals "all" = some none)
    (zrange : PySem.W.nsIn K mainGlobals "range" = some none)
    (zrepr : PySem.W.nsIn K mainGlobals "repr" = some none)
    (zany : PySem.W.nsIn K mainGlobals "any" = some none)
    (zdict : PySem.W.nsIn K mainGlobals "dict" = some none)
    (zzip : PySem.W.nsIn K mainGlobals "zip" = some none)
    (zsum : PySem.W.nsIn K mainGlobals "sum" = some none)
    (zdivmod : PySem.W.nsIn K mainGlobals "divmod" = some none)
    (ziter : PySem.W.nsIn K mainGlobals "iter" = some none)
    (zenumerate : PySem.W.nsIn K mainGlobals "enumerate" = some none) :
    ∃ fd : FuncData, (∀ (s : Shared) (v : Value), BindsTo s fd ⟨[v], []⟩ [("_law_script", v)]) ∧ ∀ base : Heap, K.In base → base.Ns mainGlobals mg → FnG l.prog w K mg base 9 fa fd ["_law_script"] (spLaw K) := by
  have e := hfa.symm.trans (PySem.W.mg_of X G a34)
  cases e
  have F0 := fun_mk (st := sIsInt) l0 c0 k0
  have b0 := F0.binds (ps := ["value"]) fun _ _ _ _ _ _ us hl => match us, hl with | [_], _ => rfl
  have F1 := fun_mk (st := sWithin) l1 c1 k1
  have b1 := F1.binds (ps := ["value", "least", "most"]) fun _ _ _ _ _ _ us hl => match us, hl with | [_, _, _], _ => rfl
  have F2 := fun_mk (st := sPair) l2 c2 k2
  have b2 := F2.binds (ps := ["value", "most"]) fun _ _ _ _ _ _ us hl => match us, hl with | [_, _], _ => rfl
  have F3 := fun_mk (st := sCanBe) l3 c3 k3
  have b3 := F3.binds (ps := ["part", "value"]) fun _ _ _ _ _ _ us hl => match us, hl with | [_, _], _ => rfl
  have F4 := fun_mk (st := sLeastOf) l4 c4 k4
  have b4 := F4.binds (ps := ["rule", "most"]) fun _ _ _ _ _ _ us hl => match us, hl with | [_, _], _ => rfl
  have F5 := fun_mk (st := sDealt) l5 c5 k5
  have b5 := F5.binds (ps := ["total", "pages"]) fun _ _ _ _ _ _ us hl => match us, hl with | [_, _], _ => rfl
  have F6 := fun_mk (st := sPageAt) l6 c6 k6
  have b6 := F6.binds (ps := ["fills", "index"]) fun _ _ _ _ _ _ us hl => match us, hl with | [_, _], _ => rfl
  have F7 := fun_mk (st := sPageFor) l7 c7 k7
  have b7 := F7.binds (ps := ["fills", "ahead"]) fun _ _ _ _ _ _ us hl => match us, hl with | [_, _], _ => rfl
  have F8 := fun_mk (st := sBehindPut) l8 c8 k8
  have b8 := F8.binds (ps := ["rule", "most", "fills", "ahead"]) fun _ _ _ _ _ _ us hl => match us, hl with | [_, _, _, _], _ => rfl
  have F9 := fun_mk (st := sBehindTake) l9 c9 k9
  have b9 := F9.binds (ps := ["rule", "most", "fills", "index"]) fun _ _ _ _ _ _ us hl => match us, hl with | [_, _, _, _], _ => rfl
  have F10 := fun_mk (st := sGroupOf) l10 c10 k10
  have b10 := F10.binds (ps := ["at", "many"]) fun _ _ _ _ _ _ us hl => match us, hl with | [_, _], _ => rfl
  have F11 := fun_mk (st := sDealtAnew) l11 c11 k11
  have b11 := F11.binds (ps := ["row", "start", "end", "pages"]) fun _ _ _ _ _ _ us hl => match us, hl with | [_, _, _, _], _ => rfl
  have F12 := fun_mk (st := sNeedFillRule) l12 c12 k12
  have b12 := F12.binds (ps := ["value"]) fun _ _ _ _ _ _ us hl => match us, hl with | [_], _ => rfl
  have F13 := fun_mk (st := sNeedSize) l13 c13 k13
  have b13 := F13.binds (ps := ["value"]) fun _ _ _ _ _ _ us hl => match us, hl with | [_], _ => rfl
  have F14 := fun_mk (st := sNeedPageSize) l14 c14 k14
  have b14 := F14.binds (ps := ["rule", "most"]) fun _ _ _ _ _ _ us hl => match us, hl with | [_, _], _ => rfl
  have F15 := fun_mk (st := sNeedUpTo) l15 c15 k15
  have b15 := F15.binds (ps := ["value", "most"]) fun _ _ _ _ _ _ us hl => match us, hl with | [_, _], _ => rfl
  have F16 := fun_mk (st := sKept) l16 c16 k16
  have b16 := F16.binds (ps := ["value"]) fun _ _ _ _ _ _ us hl => match us, hl with | [_], _ => rfl
  have F17 := fun_mk (st := sParts) l17 c17 k17
  have b17 := F17.binds (ps := ["value"]) fun _ _ _ _ _ _ us hl => match us, hl with | [_], _ => rfl
  have F18 := fun_mk (st := sPen) l18 c18 k18
  have b18 := F18.binds (ps := ["_law_script"]) fun _ _ _ _ _ _ us hl => match us, hl with | [_], _ => rfl
  have F19 := fun_mk (st := sDraw) l19 c19 k19
  have b19 := F19.binds (ps := ["_law_pen_here", "_law_many"]) fun _ _ _ _ _ _ us hl => match us, hl with | [_, _], _ => rfl
  have F20 := fun_mk (st := sPick) l20 c20 k20
  have b20 := F20.binds (ps := ["_law_pen_here", "_law_some"]) fun _ _ _ _ _ _ us hl => match us, hl with | [_, _], _ => rfl
  have F21 := fun_mk (st := sLNumbers) l21 c21 k21
  have b21 := F21.binds (ps := ["_law_pen_here"]) fun _ _ _ _ _ _ us hl => match us, hl with | [_], _ => rfl
  have F22 := fun_mk (st := sLRule) l22 c22 k22
  have b22 := F22.binds (ps := ["_law_told"]) fun _ _ _ _ _ _ us hl => match us, hl with | [_], _ => rfl
  have F23 := fun_mk (st := sLLeast) l23 c23 k23
  have b23 := F23.binds (ps := ["_law_told", "_law_top"]) fun _ _ _ _ _ _ us hl => match us, hl with | [_, _], _ => rfl
  have F24 := fun_mk (st := sLWorld) l24 c24 k24
  have b24 := F24.binds (ps := ["_law_pen_here"]) fun _ _ _ _ _ _ us hl => match us, hl with | [_], _ => rfl
  have F25 := fun_mk (st := sLDealt) l25 c25 k25
  have b25 := F25.binds (ps := ["_law_total", "_law_pages"]) fun _ _ _ _ _ _ us hl => match us, hl with | [_, _], _ => rfl
  have F26 := fun_mk (st := sLPage) l26 c26 k26
  have b26 := F26.binds (ps := ["_law_fills_so", "_law_index_so"]) fun _ _ _ _ _ _ us hl => match us, hl with | [_, _], _ => rfl
  have F27 := fun_mk (st := sLGrouped) l27 c27 k27
  have b27 := F27.binds (ps := ["_law_fills_so", "_law_page_here", "_law_many"]) fun _ _ _ _ _ _ us hl => match us, hl with | [_, _, _], _ => rfl
  have F28 := fun_mk (st := sLPut) l28 c28 k28
  have b28 := F28.binds (ps := ["_law_told", "_law_top", "_law_fills_so", "_law_ahead_so"]) fun _ _ _ _ _ _ us hl => match us, hl with | [_, _, _, _], _ => rfl
  have F29 := fun_mk (st := sLTake) l29 c29 k29
  have b29 := F29.binds (ps := ["_law_told", "_law_top", "_law_fills_so", "_law_index_so"]) fun _ _ _ _ _ _ us hl => match us, hl with | [_, _, _, _], _ => rfl
  have F30 := fun_mk (st := sLFills) l30 c30 k30
  have b30 := F30.binds (ps := ["_law_pen_here", "_law_told", "_law_top"]) fun _ _ _ _ _ _ us hl => match us, hl with | [_, _, _], _ => rfl
  have F31 := fun_mk (st := sLSpot) l31 c31 k31
  have b31 := F31.binds (ps := ["_law_pen_here", "_law_fills_so"]) fun _ _ _ _ _ _ us hl => match us, hl with | [_, _], _ => rfl
  have F32 := fun_mk (st := sLDeedRight) l32 c32 k32
  have b32 := F32.binds (ps := ["_law_made", "_law_top", "_law_told", "_law_fills_so", "_law_word", "_law_spot_here"]) fun _ _ _ _ _ _ us hl => match us, hl with | [_, _, _, _, _, _], _ => rfl
  have F33 := fun_mk (st := sLFullRight) l33 c33 k33
  have b33 := F33.binds (ps := ["_law_pen_here"]) fun _ _ _ _ _ _ us hl => match us, hl with | [_], _ => rfl
  have F34 := fun_mk (st := sLaw) l34 c34 k34
  have b34 := F34.binds (ps := ["_law_script"]) fun _ _ _ _ _ _ us hl => match us, hl with | [_], _ => rfl
  have F59 := fun_mk (st := sFillRule_eq) l59 c59 k59
  have b59 := F59.binds (ps := ["self", "other"]) fun _ _ _ _ _ _ us hl => match us, hl with | [_, _], _ => rfl
  have F52 := fun_mk (st := sRow_len) l52 c52 k52
  have b52 := F52.binds (ps := ["self"]) fun _ _ _ _ _ _ us hl => match us, hl with | [_], _ => rfl
  have F53 := fun_mk (st := sRow_iter) l53 c53 k53
  have b53 := F53.binds (ps := ["self"]) fun _ _ _ _ _ _ us hl => match us, hl with | [_], _ => rfl
  have F60 := fun_mk (st := sRow_eq) l60 c60 k60
  have b60 := F60.binds (ps := ["self", "other"]) fun _ _ _ _ _ _ us hl => match us, hl with | [_, _], _ => rfl
  have F54 := fun_mk (st := sRow_put) l54 c54 k54
  have b54 := F54.binds (ps := ["self", "ahead"]) fun _ _ _ _ _ _ us hl => match us, hl with | [_, _], _ => rfl
  have F55 := fun_mk (st := sRow_take) l55 c55 k55
  have b55 := F55.binds (ps := ["self", "index"]) fun _ _ _ _ _ _ us hl => match us, hl with | [_, _], _ => rfl
  have F56 := fun_mk (st := sRow_total) l56 c56 k56
  have b56 := F56.binds (ps := ["self"]) fun _ _ _ _ _ _ us hl => match us, hl with | [_], _ => rfl
  have P56 : PropOf K R "total" p56 f56 := ⟨pa56, pb56, pc56, ⟨_, pd56⟩⟩
  have F61 := fun_mk (st := sBRInit) l61 c61 k61
  have b61 := F61.binds (ps := ["self", "part"]) fun _ _ _ _ _ _ us hl => match us, hl with | [_, _], _ => rfl
  have F62 := fun_mk (st := sTooMany_init) l62 c62 k62
  have b62 := F62.binds (ps := ["self", "what", "most"]) fun _ _ _ _ _ _ us hl => match us, hl with | [_, _, _], _ => rfl
  refine ⟨PySem.W.fnOf "law" "law" (defArgs sLaw) (defBody sLaw) (defScope sLaw) .none kV34 dc34 pm34 an34 cd34 ct34, fun s v => .of_eq rfl, fun base _ _ => ?_⟩
  have T : Blt mg := ⟨PySem.W.mg_none_of X G zint, PySem.W.mg_none_of X G zlen, PySem.W.mg_none_of X G zabs, PySem.W.mg_none_of X G zlist, PySem.W.mg_none_of X G zmin, PySem.W.mg_none_of X G zmax, PySem.W.mg_none_of X G zisinstance, PySem.W.mg_none_of X G zbool, PySem.W.mg_none_of X G ztuple, PySem.W.mg_none_of X G zall, PySem.W.mg_none_of X G zrange, PySem.W.mg_none_of X G zrepr⟩
  have FC : FCls K C := ⟨⟨pgC, hdC, poC, saC⟩, n0C, n1C, n2C, n3C, n4C⟩
  have IT : InsT K C := ⟨hcC, ikn, ikt, moC, icC, ttC⟩
  have R2 : FTwo K C := ⟨FC, IT⟩
  have TR : RowC K R := ⟨⟨pgR, hdR, poR, saR⟩, n0R, n1R, n2R⟩
  have RT2 : RTwo K R := ⟨TR, ⟨hcR, ikn, ikt, moR, icR, ttR⟩⟩
  have TBF : TabF K w mg TP DB D1 D2 D3 := ⟨PySem.W.mg_of X G aTP, fun _ => sqT_K lTP (by decide) (.cons ⟨_, rfl⟩ ( .cons ⟨_, rfl⟩ ( .cons ⟨_, rfl⟩ (.cons ⟨_, rfl⟩ .nil)))), PySem.W.mg_of X G aDB, ⟨_, _, ⟨lDB, ⟨⟨_, _, rfl, hkDB0⟩, ⟨_, _, rfl, hkDB1⟩, ⟨_, _, rfl, hkDB2⟩, trivial⟩, lowDB⟩⟩, nsDB0, nsDB1, nsDB2, fun _ => sqT_K lD1 (by decide) (.cons ⟨_, rfl⟩ (.cons ⟨_, rfl⟩ .nil)), fun _ => sqT_K lD2 (by decide) (.cons ⟨_, rfl⟩ (.cons ⟨_, rfl⟩ .nil)), fun _ => sqT_K lD3 (by decide) (.cons ⟨_, rfl⟩ (.cons ⟨_, rfl⟩ .nil))⟩
  have D50 : FunD K "__init__" "FillRule.__init__" (defArgs sFillRule_init) (defBody sFillRule_init) (defScope sFillRule_init) [.int 0] [("cut_of", .int 1), ("join_of", .int 2)] f50 _ := ⟨⟨_, _, _, _, _, _, _, _, _, _, rfl, l50, c50, .inr ⟨by simp, T50, _, [Value.int 0 tt500], tn50, rfl, t50, rfl, .cons ⟨_, rfl⟩ .nil⟩, .inr ⟨KD50, rfl, fun z hz => by
    rcases List.mem_cons.mp hz with rfl | hz
    · exact ⟨_, kd500, ⟨_, rfl⟩⟩
    · rw [List.mem_singleton.mp hz]; exact ⟨_, kd501, ⟨_, rfl⟩⟩⟩⟩, k50⟩
  obtain ⟨its50, b50⟩ := FunD.kbindsD (ps := ["self", "times", "plus", "cut_of", "join_of"]) D50 3 ["cut_of", "join_of"] (fun us _ ws => us ++ ws) (by simp) (fun r1 _ r2 => r1.append r2)
    (fun _ _ _ _ _ _ _ us its ws h1 h2 h3 => match us, its, ws, h1, h2, h3 with | [_, _, _], [_], [_, _], _, _, _ => ⟨_, rfl, rfl⟩)
  obtain ⟨ds50, rds50, b50d⟩ := FunD.binds (ps := ["self", "times", "plus", "cut_of", "join_of"]) D50 2 0 (by simp) rfl
    (fun _ _ _ _ _ _ _ us its ks h1 h2 h3 => match us, its, ks, h1, h2, h3 with | [_, _], [_], [_, _], _, _, _ => ⟨_, rfl, _, _, _, _, _, _, rfl, rfl, ⟨_, _, _, _, _, _, rfl, rfl, rfl⟩⟩) (by simp)
  have D51 : FunD K "__init__" "Row.__init__" (defArgs sRow_init) (defBody sRow_init) (defScope sRow_init) [.ref E51] [] f51 _ := ⟨⟨_, _, _, _, _, _, _, _, _, _, rfl, l51, c51, .inr ⟨by simp, T51, _, [Value.ref E51], tn51, rfl, t51, rfl, .cons rfl .nil⟩, .inl rfl⟩, k51⟩
  obtain ⟨ds51, rds51, b51⟩ := FunD.binds1 (ps := ["self", "rule", "most", "fills"]) D51 4 1 (by simp) rfl
    (fun _ _ _ _ _ _ _ us its h1 h2 => match us, its, h1, h2 with | [_, _, _, _], [_], _, _ => ⟨_, rfl, rfl⟩)
  cases rds51
  have d0 : Df l.prog w K mg base 1 "is_integer" ["value"] _ := ⟨f0, _, ok_isInt F0 T, PySem.W.mg_of X G a0, F0.kp, b0⟩
  have d1 : Df l.prog w K mg base 2 "is_within" ["value", "least", "most"] _ := ⟨f1, _, ok_within F1 d0, PySem.W.mg_of X G a1, F1.kp, b1⟩
  have d2 : Df l.prog w K mg base 3 "is_pair" ["value", "most"] _ := ⟨f2, _, ok_pair F2 T d1, PySem.W.mg_of X G a2, F2.kp, b2⟩
  have d3 : Df l.prog w K mg base 4 "can_be" ["part", "value"] _ := ⟨f3, _, ok_canBe F3 TBF (PySem.W.mg_of X G hgT) d2 d1, PySem.W.mg_of X G a3, F3.kp, b3⟩
  have d17 : Df l.prog w K mg base 1 "parts_of" ["value"] _ := ⟨f17, _, ok_parts F17 T (PySem.W.mg_none_of X G zdict), PySem.W.mg_of X G a17, F17.kp, b17⟩
  have d16 : Df l.prog w K mg base 2 "kept" ["value"] _ := ⟨f16, _, ok_kept F16 T (PySem.W.mg_none_of X G zdict) (PySem.W.mg_none_of X G zany) d17, PySem.W.mg_of X G a16, F16.kp, b16⟩
  have d4 : Df l.prog w K mg base 1 "least_of" ["rule", "most"] _ := ⟨f4, _, ok_leastOf F4 FC, PySem.W.mg_of X G a4, F4.kp, b4⟩
  have d5 : Df l.prog w K mg base 1 "dealt" ["total", "pages"] _ := ⟨f5, _, ok_dealt F5 (PySem.W.mg_none_of X G zdivmod), PySem.W.mg_of X G a5, F5.kp, b5⟩
  have d10 : Df l.prog w K mg base 1 "group_of" ["at", "many"] _ := ⟨f10, _, ok_group F10, PySem.W.mg_of X G a10, F10.kp, b10⟩
  have d6 : Df l.prog w K mg base 1 "page_at" ["fills", "index"] _ := ⟨f6, _, ok_pageAt F6, PySem.W.mg_of X G a6, F6.kp, b6⟩
  have d7 : Df l.prog w K mg base 2 "page_for" ["fills", "ahead"] _ := ⟨f7, _, ok_pageFor F7 d6, PySem.W.mg_of X G a7, F7.kp, b7⟩
  have d11 : Df l.prog w K mg base 2 "dealt_anew" ["row", "start", "end", "pages"] _ := ⟨f11, _, ok_anew F11 (PySem.W.mg_none_of X G zsum) (PySem.W.mg_of X G hgO) (PySem.W.mg_of X G hgW) d5, PySem.W.mg_of X G a11, F11.kp, b11⟩
  have d8 : Df l.prog w K mg base 3 "behind_put" ["rule", "most", "fills", "ahead"] _ := ⟨f8, _, ok_bput F8 T FC (PySem.W.mg_none_of X G zsum) (PySem.W.mg_of X G hgO) d7 d10 d11, PySem.W.mg_of X G a8, F8.kp, b8⟩
  have d9 : Df l.prog w K mg base 3 "behind_take" ["rule", "most", "fills", "index"] _ := ⟨f9, _, ok_btake F9 T FC (PySem.W.mg_none_of X G zsum) d4 d6 d10 d11, PySem.W.mg_of X G a9, F9.kp, b9⟩
  have d12 : Df l.prog w K mg base 1 "need_fill_rule" ["value"] _ := ⟨f12, _, ok_needFO F12 T R2 (PySem.W.mg_of X G aC), PySem.W.mg_of X G a12, F12.kp, b12⟩
  have d13 : Df l.prog w K mg base 3 "need_size" ["value"] _ := ⟨f13, _, ok_needSO F13 d1 (PySem.W.mg_of X G hgL) (PySem.W.mg_of X G hgM), PySem.W.mg_of X G a13, F13.kp, b13⟩
  have d14 : Df l.prog w K mg base 4 "need_page_size" ["rule", "most"] _ := ⟨f14, _, ok_needPO F14 d13 d4, PySem.W.mg_of X G a14, F14.kp, b14⟩
  have d15 : Df l.prog w K mg base 3 "need_up_to" ["value", "most"] _ := ⟨f15, _, ok_needU F15 d1, PySem.W.mg_of X G a15, F15.kp, b15⟩
  have oR : OexC K BR := ⟨⟨_, _, _, _, _, _, _, _, _, _, _, _, _, _, _, lxBR, rxBR⟩, saBR, exBR, ttBR, keBR⟩
  have G61 := ok_br (P := l.prog) (w := w) (mg := mg) (base := base) F61 oR no0BR d16
  have EB : ErrC l.prog w K mg base "BadRule" "part" BR := ⟨oR, (PySem.W.mg_of X G aBR), _, _, m61, ty61, G61, b61⟩
  have GF := ok_fillInit (P := l.prog) (w := w) (mg := mg) (base := base) (N := BR) D50 FC (PySem.W.mg_none_of X G zzip) TBF d3 EB
  have GO : FnOk l.prog w K mg base CX0 5 f50 _ ["self", "times", "plus", "cut_of", "join_of"] (spFillOk C) := FnOk.calm GF fun vs H Q E h => fill_ok h
  have MK : Mk K C f50 := ⟨mkC, m50, i50, kcC⟩
  have G51 := ok_rowI (P := l.prog) (w := w) (mg := mg) (base := base) D51 T (PySem.W.mg_none_of X G zenumerate) TR d12 d14 d1 (PySem.W.mg_of X G hgQ) (PySem.W.mg_of X G hgI)
  have RM : RowM l.prog w K mg base R C := ⟨(PySem.W.mg_of X G aR), ⟨f51, _, ⟨mkR, m51, i51, kcR⟩, G51, b51⟩⟩
  have PT : RowP l.prog w K mg base R "total" 1 (spTotal R C) := ⟨_, _, _, P56, ok_rtotal F56 (PySem.W.mg_none_of X G zsum) TR, b56⟩
  have G52 := ok_rlen (P := l.prog) (w := w) (mg := mg) (base := base) F52 T TR
  have G53 := ok_riter (P := l.prog) (w := w) (mg := mg) (base := base) F53 (PySem.W.mg_none_of X G ziter) TR
  have G59 := ok_fillEq (P := l.prog) (w := w) (mg := mg) (base := base) F59 T FC IT (PySem.W.mg_of X G aC)
  have FQ : FEq l.prog w K mg base C := ⟨R2, neC, ⟨f59, m59, i59, fnr_of G59 b59⟩⟩
  have RE : REq l.prog w K mg base R C := ⟨⟨f60, _, m60, i60, ok_rowE F60 T RT2 (PySem.W.mg_of X G aR) FQ, b60⟩⟩
  have RL : RowL l.prog w K mg base R C := ⟨RT2, RM, PT, ⟨f54, _, ⟨m54, i54, k54⟩, ok_rput F54 TR RM PT d15 d8, b54, kb_gA F54 fun _ _ _ _ _ _ _ _ => rfl⟩, ⟨f55, _, ⟨m55, i55, k55⟩, ok_rtake F55 TR RM PT d15 d9, b55, kb_gA F55 fun _ _ _ _ _ _ _ _ => rfl⟩, FQ, RE⟩
  have oT : OexC K TM := ⟨⟨_, _, _, _, _, _, _, _, _, _, _, _, _, _, _, lxTM, rxTM⟩, saTM, exTM, ttTM, keTM⟩
  have G62 := ok_tm (P := l.prog) (w := w) (mg := mg) (base := base) F62 oT no0TM no1TM d16
  have ET : ErrT l.prog w K mg base TM := ⟨oT, (PySem.W.mg_of X G aTM), _, _, m62, ty62, G62, b62⟩
  have GX := ok_rowX (R := R) (P := l.prog) (w := w) (mg := mg) (base := base) D51 T ET d12 d14 (PySem.W.mg_of X G hgQ)
  have GPX := ok_putX (P := l.prog) (w := w) (mg := mg) (base := base) F54 TR (PySem.W.mg_of X G aR) ⟨mkR, m51, i51, kcR⟩ GX b51 PT d15 d8
  have RW : RowT l.prog w K mg base R C := ⟨f51, _, ⟨mkR, m51, i51, kcR⟩, ok_rowIT D51 T (PySem.W.mg_none_of X G zenumerate) TR d12 d14 d1 (PySem.W.mg_of X G hgQ) (PySem.W.mg_of X G hgI), b51⟩
  have HTM : HeldC K TM := ⟨icTM, gaTM, ggTM, exTM, hdTM, hcTM, ikn, ikt, moTM⟩
  have FB : FullB l.prog w K mg base R C TM FE := ⟨⟨f53, f52, ⟨m53, i53, m52, i52⟩, fnr_of G53 b53, fnr_of G52 b52⟩, (PySem.W.mg_of X G aC), ⟨f50, _, ds50, MK, GO, rds50, b50d⟩, ⟨f54, _, ⟨m54, i54, k54⟩, GPX, b54⟩, (PySem.W.mg_of X G aFE), (PySem.W.mg_of X G aTM), HTM, no0TM, no1TM, exm_own icFE ttFE suTF suFX, kit_self⟩
  have d18 : Df l.prog w K mg base 1 "_law_pen" ["_law_script"] _ := ⟨f18, _, ok_pen F18 T, PySem.W.mg_of X G a18, F18.kp, b18⟩
  have d19 : Df l.prog w K mg base 1 "_law_draw" ["_law_pen_here", "_law_many"] _ := ⟨f19, _, ok_draw F19 T, PySem.W.mg_of X G a19, F19.kp, b19⟩
  have d20 : Df l.prog w K mg base 2 "_law_pick" ["_law_pen_here", "_law_some"] _ := ⟨f20, _, ok_pick F20 T d19, PySem.W.mg_of X G a20, F20.kp, b20⟩
  have d21 : Df l.prog w K mg base 2 "_law_numbers" ["_law_pen_here"] _ := ⟨f21, _, ok_lnums F21 T d19, PySem.W.mg_of X G a21, F21.kp, b21⟩
  have d22 : Df l.prog w K mg base 7 "_law_rule" ["_law_told"] _ := ⟨f22, _, ok_lrule F22 (PySem.W.mg_of X G aC) MK GO b50, PySem.W.mg_of X G a22, F22.kp, b22⟩
  have d23 : Df l.prog w K mg base 1 "_law_least" ["_law_told", "_law_top"] _ := ⟨f23, _, ok_lleast F23, PySem.W.mg_of X G a23, F23.kp, b23⟩
  have d24 : Df l.prog w K mg base 3 "_law_world" ["_law_pen_here"] _ := ⟨f24, _, ok_lworld F24 d19 d23 d21, PySem.W.mg_of X G a24, F24.kp, b24⟩
  have d25 : Df l.prog w K mg base 1 "_law_dealt" ["_law_total", "_law_pages"] _ := ⟨f25, _, ok_ldealt F25 T, PySem.W.mg_of X G a25, F25.kp, b25⟩
  have d26 : Df l.prog w K mg base 1 "_law_page" ["_law_fills_so", "_law_index_so"] _ := ⟨f26, _, ok_lpage F26 T, PySem.W.mg_of X G a26, F26.kp, b26⟩
  have d27 : Df l.prog w K mg base 1 "_law_grouped" ["_law_fills_so", "_law_page_here", "_law_many"] _ := ⟨f27, _, ok_lgroup F27, PySem.W.mg_of X G a27, F27.kp, b27⟩
  have d28 : Df l.prog w K mg base 2 "_law_put" ["_law_told", "_law_top", "_law_fills_so", "_law_ahead_so"] _ := ⟨f28, _, ok_lput F28 T (PySem.W.mg_none_of X G zsum) d26 d27 d25, PySem.W.mg_of X G a28, F28.kp, b28⟩
  have d29 : Df l.prog w K mg base 2 "_law_take" ["_law_told", "_law_top", "_law_fills_so", "_law_index_so"] _ := ⟨f29, _, ok_ltake F29 T (PySem.W.mg_none_of X G zsum) d23 d26 d27 d25, PySem.W.mg_of X G a29, F29.kp, b29⟩
  have d30 : Df l.prog w K mg base 2 "_law_fills" ["_law_pen_here", "_law_told", "_law_top"] _ := ⟨f30, _, ok_lfills F30 T d19 d23, PySem.W.mg_of X G a30, F30.kp, b30⟩
  have d31 : Df l.prog w K mg base 3 "_law_spot" ["_law_pen_here", "_law_fills_so"] _ := ⟨f31, _, ok_lspot F31 T (PySem.W.mg_none_of X G zsum) d19 d20, PySem.W.mg_of X G a31, F31.kp, b31⟩
  have d33 : Df l.prog w K mg base 8 "_law_full_right" ["_law_pen_here"] _ := ⟨f33, _, ok_lfull F33 T RL FB d19, PySem.W.mg_of X G a33, F33.kp, b33⟩
  have GDR := ok_ldeed (P := l.prog) (w := w) (mg := mg) (base := base) F32 T RL d28 d29
  exact ok_law F34 T (PySem.W.mg_none_of X G zsum) RL FB RW d18 d24 d22 d30 d31 d33 GDR (PySem.W.mg_of X G a32) F32.kp b32
end Ev
open PySem PySem.W PyProof.Rows
set_option maxRecDepth 100000 in
set_option maxHeartbeats 0 in
theorem PySem.Challenge.cw_evenrules_k78_whole_rows_behind_deeds_holds : PySem.Challenge.rw_evenrules_k78_whole_rows_behind_deeds.Holds := by
  exact hd (by
    k_fill
    refine Ev.walk_ofG (l := PySem.Challenge.rw_evenrules_k78_whole_rows_behind_deeds) (n := 63) (k := 9) (x := "_law_script") (sp := fun w => Ev.spLaw _) rfl (by decide) rfl ⟨rfl, by decide, by decide⟩ (fun w h Y => PySem.W.kIn_of Y) ?F (fun _ _ a ns hl hS => ⟨a, ns, rfl, hS, hl, fun _ => rfl⟩)
    case F =>
      intro w mg fa h KX G hmg
      refine' Ev.all_mk KX G hmg ?a0 ?l0 ?c0 ?k0 ?a1 ?l1 ?c1 ?k1 ?a2 ?l2 ?c2 ?k2 ?a3 ?l3 ?c3 ?k3 ?a4 ?l4 ?c4 ?k4 ?a5 ?l5 ?c5 ?k5 ?a6 ?l6 ?c6 ?k6 ?a7 ?l7 ?c7 ?k7 ?a8 ?l8 ?c8 ?k8 ?a9 ?l9 ?c9 ?k9 ?a10 ?l10 ?c10 ?k10 ?a11 ?l11 ?c11 ?k11 ?a12 ?l12 ?c12 ?k12 ?a13 ?l13 ?c13 ?k13 ?a14 ?l14 ?c14 ?k14 ?a15 ?l15 ?c15 ?k15 ?a16 ?l16 ?c16 ?k16 ?a17 ?l17 ?c17 ?k17 ?a18 ?l18 ?c18 ?k18 ?a19 ?l19 ?c19 ?k19 ?a20 ?l20 ?c20 ?k20 ?a21 ?l21 ?c21 ?k21 ?a22 ?l22 ?c22 ?k22 ?a23 ?l23 ?c23 ?k23 ?a24 ?l24 ?c24 ?k24 ?a25 ?l25 ?c25 ?k25 ?a26 ?l26 ?c26 ?k26 ?a27 ?l27 ?c27 ?k27 ?a28 ?l28 ?c28 ?k28 ?a29 ?l29 ?c29 ?k29 ?a30 ?l30 ?c30 ?k30 ?a31 ?l31 ?c31 ?k31 ?a32 ?l32 ?c32 ?k32 ?a33 ?l33 ?c33 ?k33 ?a34 ?l34 ?c34 ?k34 ?aC ?pgC ?hdC ?poC ?saC ?mkC ?kcC ?n0C ?n1C ?n2C ?n3C ?n4C ?aR ?pgR ?hdR ?poR ?saR ?mkR ?kcR ?n0R ?n1R ?n2R ?hcC ?moC ?icC ?ttC ?hcR ?moR ?icR ?ttR ?ikn ?ikt ?neC ?m59 ?i59 ?l59 ?c59 ?k59 ?m50 ?i50 ?l50 ?c50 ?k50 ?t50 ?kd500 ?kd501 ?m51 ?i51 ?l51 ?c51 ?k51 ?t51 ?m52 ?i52 ?l52 ?c52 ?k52 ?m53 ?i53 ?l53 ?c53 ?k53 ?m60 ?i60 ?l60 ?c60 ?k60 ?m54 ?i54 ?l54 ?c54 ?k54 ?m55 ?i55 ?l55 ?c55 ?k55 ?pa56 ?pb56 ?pc56 ?pd56 ?l56 ?c56 ?k56 ?aBR ?icBR ?ttBR ?gaBR ?ggBR ?hdBR ?hcBR ?moBR ?saBR ?exBR ?keBR ?vEBR ?sSBR ?no0BR ?lxBR ?rxBR ?m61 ?l61 ?c61 ?k61 ?ty61 ?aTM ?icTM ?ttTM ?gaTM ?ggTM ?hdTM ?hcTM ?moTM ?saTM ?exTM ?keTM ?vETM ?sSTM ?no0TM ?no1TM ?lxTM ?rxTM ?m62 ?l62 ?c62 ?k62 ?ty62 ?aFE ?icFE ?ttFE ?suTF ?suFX ?hgT ?hgL ?hgM ?hgQ ?hgI ?hgO ?hgW ?aTP ?lTP ?aDB ?lDB ?hkDB0 ?nsDB0 ?hkDB1 ?nsDB1 ?hkDB2 ?nsDB2 ?lowDB ?lD1 ?lD2 ?lD3 ?zint ?zlen ?zabs ?zlist ?zmin ?zmax ?zisinstance ?zbool ?ztuple ?zall ?zrange ?zrepr ?zany ?zdict ?zzip ?zsum ?zdivmod ?ziter ?zenumerate
      (case a0 => k_is)
      (case l0 => k_is)
      (case c0 => k_is)
      (case k0 => k_is)
      (case a1 => k_is)
      (case l1 => k_is)
      (case c1 => k_is)
      (case k1 => k_is)
      (case a2 => k_is)
      (case l2 => k_is)
      (case c2 => k_is)
      (case k2 => k_is)
      (case a3 => k_is)
      (case l3 => k_is)
      (case c3 => k_is)
      (case k3 => k_is)
      (case a4 => k_is)
      (case l4 => k_is)
      (case c4 => k_is)
      (case k4 => k_is)
      (case a5 => k_is)
      (case l5 => k_is)
      (case c5 => k_is)
      (case k5 => k_is)
      (case a6 => k_is)
      (case l6 => k_is)
      (case c6 => k_is)
      (case k6 => k_is)
      (case a7 => k_is)
      (case l7 => k_is)
      (case c7 => k_is)
      (case k7 => k_is)
      (case a8 => k_is)
      (case l8 => k_is)
      (case c8 => k_is)
      (case k8 => k_is)
      (case a9 => k_is)
      (case l9 => k_is)
      (case c9 => k_is)
      (case k9 => k_is)
      (case a10 => k_is)
      (case l10 => k_is)
      (case c10 => k_is)
      (case k10 => k_is)
      (case a11 => k_is)
      (case l11 => k_is)
      (case c11 => k_is)
      (case k11 => k_is)
      (case a12 => k_is)
      (case l12 => k_is)
      (case c12 => k_is)
      (case k12 => k_is)
      (case a13 => k_is)
      (case l13 => k_is)
      (case c13 => k_is)
      (case k13 => k_is)
      (case a14 => k_is)
      (case l14 => k_is)
      (case c14 => k_is)
      (case k14 => k_is)
      (case a15 => k_is)
      (case l15 => k_is)
      (case c15 => k_is)
      (case k15 => k_is)
      (case a16 => k_is)
      (case l16 => k_is)
      (case c16 => k_is)
      (case k16 => k_is)
      (case a17 => k_is)
      (case l17 => k_is)
      (case c17 => k_is)
      (case k17 => k_is)
      (case a18 => k_is)
      (case l18 => k_is)
      (case c18 => k_is)
      (case k18 => k_is)
      (case a19 => k_is)
      (case l19 => k_is)
      (case c19 => k_is)
      (case k19 => k_is)
      (case a20 => k_is)
      (case l20 => k_is)
      (case c20 => k_is)
      (case k20 => k_is)
      (case a21 => k_is)
      (case l21 => k_is)
      (case c21 => k_is)
      (case k21 => k_is)
      (case a22 => k_is)
      (case l22 => k_is)
      (case c22 => k_is)
      (case k22 => k_is)
      (case a23 => k_is)
      (case l23 => k_is)
      (case c23 => k_is)
      (case k23 => k_is)
      (case a24 => k_is)
      (case l24 => k_is)
      (case c24 => k_is)
      (case k24 => k_is)
      (case a25 => k_is)
      (case l25 => k_is)
      (case c25 => k_is)
      (case k25 => k_is)
      (case a26 => k_is)
      (case l26 => k_is)
      (case c26 => k_is)
      (case k26 => k_is)
      (case a27 => k_is)
      (case l27 => k_is)
      (case c27 => k_is)
      (case k27 => k_is)
      (case a28 => k_is)
      (case l28 => k_is)
      (case c28 => k_is)
      (case k28 => k_is)
      (case a29 => k_is)
      (case l29 => k_is)
      (case c29 => k_is)
      (case k29 => k_is)
      (case a30 => k_is)
      (case l30 => k_is)
      (case c30 => k_is)
      (case k30 => k_is)
      (case a31 => k_is)
      (case l31 => k_is)
      (case c31 => k_is)
      (case k31 => k_is)
      (case a32 => k_is)
      (case l32 => k_is)
      (case c32 => k_is)
      (case k32 => k_is)
      (case a33 => k_is)
      (case l33 => k_is)
      (case c33 => k_is)
      (case k33 => k_is)
      (case a34 => k_is)
      (case l34 => k_is)
      (case c34 => k_is)
      (case k34 => k_is)
      (case aC => k_is)
      (case pgC => k_is)
      (case hdC => k_is)
      (case poC => k_is)
      (case saC => k_is)
      (case mkC => k_is)
      (case kcC => k_is)
      (case n0C => k_is)
      (case n1C => k_is)
      (case n2C => k_is)
      (case n3C => k_is)
      (case n4C => k_is)
      (case aR => k_is)
      (case pgR => k_is)
      (case hdR => k_is)
      (case poR => k_is)
      (case saR => k_is)
      (case mkR => k_is)
      (case kcR => k_is)
      (case n0R => k_is)
      (case n1R => k_is)
      (case n2R => k_is)
      (case hcC => k_is)
      (case moC => k_is)
      (case icC => k_is)
      (case ttC => k_is)
      (case hcR => k_is)
      (case moR => k_is)
      (case icR => k_is)
      (case ttR => k_is)
      (case ikn => k_is)
      (case ikt => k_is)
      (case neC => k_is)
      (case m59 => k_is)
      (case i59 => k_is)
      (case l59 => k_is)
      (case c59 => k_is)
      (case k59 => k_is)
      (case m50 => k_is)
      (case i50 => k_is)
      (case l50 => k_is)
      (case c50 => k_is)
      (case k50 => k_is)
      (case t50 => k_is)
      (case kd500 => k_is)
      (case kd501 => k_is)
      (case m51 => k_is)
      (case i51 => k_is)
      (case l51 => k_is)
      (case c51 => k_is)
      (case k51 => k_is)
      (case t51 => k_is)
      (case m52 => k_is)
      (case i52 => k_is)
      (case l52 => k_is)
      (case c52 => k_is)
      (case k52 => k_is)
      (case m53 => k_is)
      (case i53 => k_is)
      (case l53 => k_is)
      (case c53 => k_is)
      (case k53 => k_is)
      (case m60 => k_is)
      (case i60 => k_is)
      (case l60 => k_is)
      (case c60 => k_is)
      (case k60 => k_is)
      (case m54 => k_is)
      (case i54 => k_is)
      (case l54 => k_is)
      (case c54 => k_is)
      (case k54 => k_is)
      (case m55 => k_is)
      (case i55 => k_is)
      (case l55 => k_is)
      (case c55 => k_is)
      (case k55 => k_is)
      (case pa56 => k_is)
      (case pb56 => k_is)
      (case pc56 => k_is)
      (case pd56 => k_is)
      (case l56 => k_is)
      (case c56 => k_is)
      (case k56 => k_is)
      (case aBR => k_is)
      (case icBR => k_is)
      (case ttBR => k_is)
      (case gaBR => k_is)
      (case ggBR => k_is)
      (case hdBR => k_is)
      (case hcBR => k_is)
      (case moBR => k_is)
      (case saBR => k_is)
      (case exBR => k_is)
      (case keBR => k_is)
      (case vEBR => k_is)
      (case sSBR => k_is)
      (case no0BR => k_is)
      (case lxBR => k_is)
      (case rxBR => decide +kernel)
      (case m61 => k_is)
      (case l61 => k_is)
      (case c61 => k_is)
      (case k61 => k_is)
      (case ty61 => k_is)
      (case aTM => k_is)
      (case icTM => k_is)
      (case ttTM => k_is)
      (case gaTM => k_is)
      (case ggTM => k_is)
      (case hdTM => k_is)
      (case hcTM => k_is)
      (case moTM => k_is)
      (case saTM => k_is)
      (case exTM => k_is)
      (case keTM => k_is)
      (case vETM => k_is)
      (case sSTM => k_is)
      (case no0TM => k_is)
      (case no1TM => k_is)
      (case lxTM => k_is)
      (case rxTM => decide +kernel)
      (case m62 => k_is)
      (case l62 => k_is)
      (case c62 => k_is)
      (case k62 => k_is)
      (case ty62 => k_is)
      (case aFE => k_is)
      (case icFE => k_is)
      (case ttFE => k_is)
      (case suTF => k_is)
      (case suFX => k_is)
      (case hgT => k_is)
      (case hgL => k_is)
      (case hgM => k_is)
      (case hgQ => k_is)
      (case hgI => k_is)
      (case hgO => k_is)
      (case hgW => k_is)
      (case aTP => k_is)
      (case lTP => k_is)
      (case aDB => k_is)
      (case lDB => k_is)
      (case hkDB0 => rfl)
      (case nsDB0 => first | k_is | kernel_rfl)
      (case hkDB1 => rfl)
      (case nsDB1 => first | k_is | kernel_rfl)
      (case hkDB2 => rfl)
      (case nsDB2 => first | k_is | kernel_rfl)
      (case lowDB => kernel_rfl)
      (case lD1 => k_is)
      (case lD2 => k_is)
      (case lD3 => k_is)
      (case zint => k_is)
      (case zlen => k_is)
      (case zabs => k_is)
      (case zlist => k_is)
      (case zmin => k_is)
      (case zmax => k_is)
      (case zisinstance => k_is)
      (case zbool => k_is)
      (case ztuple => k_is)
      (case zall => k_is)
      (case zrange => k_is)
      (case zrepr => k_is)
      (case zany => k_is)
      (case zdict => k_is)
      (case zzip => k_is)
      (case zsum => k_is)
      (case zdivmod => k_is)
      (case ziter => k_is)
      (case zenumerate => k_is))
