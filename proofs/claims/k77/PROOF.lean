import PyProof.Rows.All
import Wide.All
import OpenK.AllK
import Wide.FinOn
import HandS.ForMost
import HandS.Wide
import HandS.Codes
import HandS.IsInst
import HandS.Defaults
import HandS.MakeKw
import HandS.MakeKwOnly
import HandS.ClsMeth
import HandS.TupAny
import HandS.Style
import HandS.Zip
import HandS.Conv
import HandS.Walk
import HandS.Lambda
import HandS.Iter
import HandS.ExcInit
import HandS.ForExc
import KE.KExcIs
import HandS.EndTab
import HandS.DictComp
import HandS.DeepEq
import KE.KDictList
import KE.DataEq
import HandS.RaiseMore
import HandS.Star
import HandS.WideBits
import HandS.OwnIter
import HandS.SlotsOwn
import HandS.IterVal
import HandS.Property
import HandS.OwnEq
import HandS.More
import PyProof.InstNe
import KE.GoesEnum
import KE.GoesEnumKw
import KE.GoesMore
import PyProof.Rows.CallKw2
import PyProof.EnumMake
import PySem.Challenge.RW_evenrules_k77_rows_made_and_refused
open PySem PySem.W PyProof.Rows
set_option Elab.async false
set_option linter.all false
set_option maxRecDepth 100000 in
set_option maxHeartbeats 0 in
open_top hd for PySem.Challenge.rw_evenrules_k77_rows_made_and_refused
set_option maxRecDepth 100000
set_option maxHeartbeats 4000000
namespace Ev
open PySem L2
def top (i : Nat) : Stmt := PySem.Challenge.pw_evenrules_k77_rows_made_and_refused.main.body.getD i (.Pass ⟨0, 0, 0, 0⟩)
abbrev sWall : Stmt := top 0
abbrev sKept : Stmt := top 2
abbrev sIsFlat : Stmt := top 3
abbrev sCopiedDeep : Stmt := top 4
abbrev sPartsOf : Stmt := top 5
abbrev sRebuilt : Stmt := top 6
abbrev sBadRule_init : Stmt := inClass (top 9) 0
abbrev sBadNumber_init : Stmt := inClass (top 10) 0
abbrev sBadOther_init : Stmt := inClass (top 11) 0
abbrev sBadPages_init : Stmt := inClass (top 12) 0
abbrev sBadText_init : Stmt := inClass (top 13) 0
abbrev sTooMany_init : Stmt := inClass (top 14) 0
abbrev sIsInt : Stmt := top 16
abbrev sWithin : Stmt := top 17
abbrev sLeastOf : Stmt := top 21
abbrev sIsKept : Stmt := top 22
abbrev sDealt : Stmt := top 23
abbrev sPageAt : Stmt := top 24
abbrev sPageFor : Stmt := top 25
abbrev sBehindPut : Stmt := top 26
abbrev sBehindTake : Stmt := top 27
abbrev sGroupOf : Stmt := top 28
abbrev sDealtAnew : Stmt := top 29
abbrev sNumberWord : Stmt := top 33
abbrev sPairWord : Stmt := top 34
abbrev sReadNumber : Stmt := top 35
abbrev sReadPair : Stmt := top 36
abbrev sPair : Stmt := top 39
abbrev sWordValue : Stmt := top 40
abbrev sFillRule_init : Stmt := inClass (top 47) 0
abbrev sFillRule_least_fill : Stmt := inClass (top 47) 1
abbrev sFillRule_fits : Stmt := inClass (top 47) 2
abbrev sFillRule_eq : Stmt := inClass (top 47) 3
abbrev sFillRule_str : Stmt := inClass (top 47) 4
abbrev sFillRule_read : Stmt := inClass (top 47) 5
abbrev sCanBe : Stmt := top 48
abbrev sWrongFillWord : Stmt := top 49
abbrev sNeedFillRule : Stmt := top 50
abbrev sNeedSize : Stmt := top 51
abbrev sNeedPageSize : Stmt := top 52
abbrev sRow_init : Stmt := inClass (top 56) 0
abbrev sRow_len : Stmt := inClass (top 56) 1
abbrev sRow_iter : Stmt := inClass (top 56) 2
abbrev sRow_total : Stmt := inClass (top 56) 3
abbrev sRow_is_young : Stmt := inClass (top 56) 4
abbrev sRow_keeps : Stmt := inClass (top 56) 5
abbrev sRow_page_of : Stmt := inClass (top 56) 6
abbrev sRow_put : Stmt := inClass (top 56) 7
abbrev sRow_take : Stmt := inClass (top 56) 8
abbrev sRow_eq : Stmt := inClass (top 56) 9
abbrev sNeedUpTo : Stmt := top 57
abbrev sPen : Stmt := top 59
abbrev sDraw : Stmt := top 60
abbrev sPick : Stmt := top 61
abbrev sLNumbers : Stmt := top 62
abbrev sLRule : Stmt := top 63
abbrev sLLeast : Stmt := top 64
abbrev sLWorld : Stmt := top 65
abbrev sLFills : Stmt := top 66
abbrev sLHeard : Stmt := top 67
abbrev sLKeeps : Stmt := top 68
abbrev sLToldRight : Stmt := top 69
abbrev sLRefusedRight : Stmt := top 70
abbrev sLEqualRight : Stmt := top 71
abbrev sLPagesRight : Stmt := top 72
abbrev sLaw : Stmt := top 73
end Ev
namespace Ev
open PySem L2
/-- all that was tracked is as it was, but at p -/
def But (p : Addr) (H H' : Hp) : Prop := ∀ b o, b ≠ p → H b = some o → H' b = some o
theorem But.refl (p : Addr) (H : Hp) : But p H H := fun _ _ _ e => e
theorem But.trans {p : Addr} {H H1 H2 : Hp} (a : But p H H1) (b : But p H1 H2) : But p H H2 := fun c o n e => b c o n (a c o n e)
theorem Same.but {p : Addr} {H H' : Hp} (a : Same H H') : But p H H' := fun c o _ e => a c o e
theorem But.upd_new {p q : Addr} {H : Hp} {o : HO} (h : H q = none) : But p H (upd H q o) := fun b u _ e => by
  rw [upd_ne (ne_of_none e h)]; exact e
theorem But.upd_at {p : Addr} {H : Hp} {o : HO} : But p H (upd H p o) := fun b u n e => by
  rw [upd_ne n]; exact e
/-- the pen: a list of a list of ints, how often it was asked, and a rest -/
def Pen (L : Addr) (H : Hp) (p : Addr) (B : Int) : Prop := ∃ (ns : List Int) (turn carry : Int),
  H p = some (.lst [.ref L, .int turn, .int carry]) ∧ H L = some (.lst (ns.map V.int)) ∧ L ≠ p ∧ ns.length ≤ 63 ∧ 0 ≤ turn ∧ turn ≤ B ∧ 0 ≤ carry
theorem Pen.keep {L : Addr} {H H' : Hp} {p : Addr} {B : Int} (h : Pen L H p B) (k : Same H H') : Pen L H' p B := by
  obtain ⟨ns, t, c, h1, h2, h3, h4, h5, h6, h7⟩ := h
  exact ⟨ns, t, c, k _ _ h1, k _ _ h2, h3, h4, h5, h6, h7⟩
theorem Pen.mono {L : Addr} {H : Hp} {p : Addr} {B B' : Int} (h : Pen L H p B) (k : B ≤ B') : Pen L H p B' := by
  obtain ⟨ns, t, c, h1, h2, h3, h4, h5, h6, h7⟩ := h
  exact ⟨ns, t, c, h1, h2, h3, h4, h5, by omega, h7⟩
def spDraw : Sp := fun vs H Q _ => ∃ (p L : Addr) (m B : Int), vs = [.ref p, .int m] ∧ 1 ≤ m ∧ m ≤ 1000000000000000000000000000000000000000000000000000000000000 ∧ B ≤ 1000000 ∧ Pen L H p B ∧
  ∀ (d : Int) (H' : Hp), But p H H' → Pen L H' p (B + 1) → 0 ≤ d → d < m → Q (.int d) H'
theorem dpInts {K : PySem.W.Frag} {H : Hp} : ∀ ns : List Int, DpAll K H (ns.map V.int) (ns.map PyData.int)
  | [] => .nil
  | n :: r => .cons (.int n) (dpInts r)
theorem sh_ints (ns : List Int) : SeqAt.shaped (.list (ns.map PyData.int)) = true := by
  have h1 : ∀ ns : List Int, PyData.canLayAll0 (ns.map PyData.int) = true := by
    intro ns
    induction ns with
    | nil => rfl
    | cons n r ih => simp [PyData.canLayAll0, PyData.canLay0, ih]
  have h2 : ∀ ns : List Int, PyData.depthAll (ns.map PyData.int) ≤ 1 := by
    intro ns
    induction ns with
    | nil => simp [PyData.depthAll]
    | cons n r ih => simp [PyData.depthAll, PyData.depth]; omega
  unfold SeqAt.shaped
  rw [Bool.and_eq_true]
  refine ⟨by simp [PyData.canLay0, h1], decide_eq_true ?_⟩
  have := h2 ns
  simp [PyData.depth]; omega
theorem eqv_nil (ns : List Int) : PyData.eqv (.list (ns.map PyData.int)) (.list []) = ns.isEmpty := by
  cases ns <;> simp [PyData.eqv, PyData.eqvAll]
section
variable {P : Program} {w : World} {K : PySem.W.Frag} {mg : Str → Option Value} {base : Heap}
/-- built-ins that the program does not cover -/
structure Blt (mg : Str → Option Value) : Prop where
  int : mg "int" = none
  len : mg "len" = none
  abs : mg "abs" = none
  list : mg "list" = none
  min : mg "min" = none
  max : mg "max" = none
  isi : mg "isinstance" = none
  bool : mg "bool" = none
  tuple : mg "tuple" = none
  all : mg "all" = none
  range : mg "range" = none
  repr : mg "repr" = none
theorem scD : FnScope ["_law_pen_here", "_law_many", "_law_digit", "_law_spot", "_law_cell", "_law_great", "_law_mixed"] ["_law_pen_here", "_law_many"] (defScope sDraw) := ⟨rfl, rfl, rfl, by decide +kernel, rfl, by decide +kernel, by decide +kernel⟩
theorem fmod_lo (a : Int) {m : Int} (h : 1 ≤ m) : 0 ≤ a.fmod m := by rw [Int.fmod_eq_emod_of_nonneg a (by omega)]; exact Int.emod_nonneg a (by omega)
theorem fmod_hi (a : Int) {m : Int} (h : 1 ≤ m) : a.fmod m < m := by rw [Int.fmod_eq_emod_of_nonneg a (by omega)]; exact Int.emod_lt_of_pos a (by omega)
theorem fdiv_lo {a m : Int} (h : 1 ≤ m) (h0 : 0 ≤ a) : 0 ≤ a.fdiv m := by rw [Int.fdiv_eq_ediv_of_nonneg a (by omega)]; exact Int.ediv_nonneg h0 (by omega)
theorem cell_at {ns : List Int} (h : ns ≠ []) (t : Int) : ∃ c : Int, atI (ns.map V.int) (t.fmod (((ns.map V.int).length : Nat) : Int)) = some (V.int c) := by
  rw [List.length_map]
  have l : 0 < ns.length := List.length_pos_iff.mpr h
  have h1 : 0 ≤ t.fmod (ns.length : Int) := fmod_lo t (by omega)
  have h2 : t.fmod (ns.length : Int) < ns.length := fmod_hi t (by omega)
  generalize t.fmod (ns.length : Int) = i at h1 h2
  obtain ⟨j, rfl⟩ := Int.eq_ofNat_of_zero_le h1
  have hj : j < ns.length := by omega
  exact ⟨ns[j], atI_nat (by rw [List.getElem?_map, List.getElem?_eq_getElem hj]; rfl)⟩
theorem mul_le_of {a b A B : Int} (a0 : 0 ≤ a) (b0 : 0 ≤ b) (ha : a ≤ A) (hb : b ≤ B) : 0 ≤ a * b ∧ a * b ≤ A * B :=
  ⟨Int.mul_nonneg a0 b0, Int.mul_le_mul ha hb b0 (by omega)⟩
theorem bound1 (c : Int) {M C D t : Int} (hM : 1 ≤ M) (hM2 : M ≤ 4294967296) (hC : 0 ≤ C ∧ C ≤ 1000000) (hD : 0 ≤ D ∧ D ≤ 1000000) (h0 : 0 ≤ t) (h1 : t ≤ 1000000) : (c.fmod M + C * t + D).natAbs < 2 ^ 64 := by
  have a1 := fmod_lo c hM
  have a2 := fmod_hi c hM
  have ⟨a3, a4⟩ := mul_le_of hC.1 h0 hC.2 h1
  omega
theorem bound2 {x C5 C6 C7 t : Int} (hx : 0 ≤ x ∧ x < 4294967296) (h5 : 0 ≤ C5 ∧ C5 ≤ 1000000) (h6 : 0 ≤ C6 ∧ C6 ≤ 1000000) (h7 : 0 ≤ C7 ∧ C7 ≤ 1000000) (h0 : 0 ≤ t) (h1 : t ≤ 1000000) :
    (x * (2 * t + C5) + C6 * t * t + C7).natAbs < 2 ^ 64 := by
  have ⟨a1, a2⟩ := mul_le_of (b := 2 * t + C5) (A := 4294967296) (B := 3000000) hx.1 (by omega) (by omega) (by omega)
  have ⟨a3, a4⟩ := mul_le_of h6.1 h0 h6.2 h1
  have ⟨a5, a6⟩ := mul_le_of a3 h0 a4 h1
  omega
theorem great_nn {c e : Int} (h : e ≤ (if c < 0 then -c else c)) (b : Bool) : 0 ≤ 2 * ((if c < 0 then -c else c) - e) + (if b = true then 1 else 0) := by
  cases b
  · rw [if_neg Bool.false_ne_true]; omega
  · rw [if_pos rfl]; omega
theorem lt64 {x : Int} (h : 0 ≤ x ∧ x < 4294967296) : -(2 ^ 64) < x ∧ x < 2 ^ 64 := ⟨by omega, by omega⟩
theorem nz {M : Int} (h : 0 < M) : M ≠ 0 := by omega
theorem divW {i m : Int} (h : 1 ≤ m) (h2 : m ≤ 1000000000000000000000000000000000000000000000000000000000000) : CDivW i m := wide_div (b := 200) (by omega) (by omega) (by decide) (by decide)
theorem ediv_lo {a m : Int} (h : 1 ≤ m) (h0 : 0 ≤ a) : 0 ≤ a / m := Int.ediv_nonneg h0 (by omega)
theorem ok_draw {f : Addr} {fd : FuncData} (F : Fun K "_law_draw" "_law_draw" sDraw f fd) (T : Blt mg) : FnOk P w K mg base CX0 1 f fd ["_law_pen_here", "_law_many"] spDraw := by
  refine F.ok scD (fun vs H Q E h => ?_) (fun cdv A outer s H vs Q E hr h => ?_)
  · obtain ⟨p, L, m, B, rfl, _⟩ := h
    rfl
  · obtain ⟨p, L, m, B, rfl, hm, hm2, hB, ⟨ns, tn, ca, hp, hL, Lp, hlen, t0, tB, c0⟩, k⟩ := h
    have hu := hu_of hr
    refine ⟨_, pss_cons (ps_if (pt_cmpR op_gt (pe_ix ix_list (pv 0) pe_int (fun _ _ => rfl)) pe_int (nomark _))
        (pss_cons (ps_set (i := 2) scD.nd rfl (.inl rfl) (pe_op op_modN (pe_callTy call_int1 (by rfl) T.int (by decide +kernel) (pa_cons (pe_ix ix_list (pv 0) pe_int (fun _ _ => rfl)) pa_nil)) (pv 1)))
        (pss_cons (ps_asg (pe_op op_fdivW (pe_callTy call_int1 (by rfl) T.int (by decide +kernel) (pa_cons (pe_ix ix_list (pv 0) pe_int (fun _ _ => rfl)) pa_nil)) (pv 1)) (pg_sub (pv 0) pe_int set_list))
        (pss_one (ps_ret (pv 2))))) pss_nil)
      (pss_cons (ps_set (i := 3) scD.nd rfl (.inl rfl) (pe_ix ix_list (pv 0) pe_int (fun _ _ => rfl)))
      (pss_cons (ps_asg (pe_op op_add (pv 3) pe_int) (pg_sub (pv 0) pe_int set_list))
      (pss_cons (ps_set (i := 4) scD.nd rfl (.inl rfl) (pe_op op_add (pe_op op_mul pe_int (pv 3)) pe_int))
      (pss_cons (ps_if (pt_cmpR (op_neD hr.units) (pe_ix ix_list (pv 0) pe_int (fun _ _ => rfl)) (pe_lst pa_nil) (nomark _))
        (pss_one (ps_set (i := 4) scD.nd rfl (.inl rfl) (pe_ix ix_list (pe_ix ix_list (pv 0) pe_int (fun _ _ => rfl))
          (pe_op op_modN (pe_callTy call_int1 (by rfl) T.int (by decide +kernel) (pa_cons (pv 3) pa_nil)) (pe_callB call_len_seq (by rfl) T.len PySem.boot_len (pa_cons (pe_ix ix_list (pv 0) pe_int (fun _ _ => rfl)) pa_nil))) (fun _ _ => rfl)))) pss_nil)
      (pss_cons (ps_if (PW.pt (pw_and (pt_cmpR op_lt (pv 3) (pe_callB call_len_seq (by rfl) T.len PySem.boot_len (pa_cons (pe_ix ix_list (pv 0) pe_int (fun _ _ => rfl)) pa_nil)) (nomark _))
          (pw_and1 (pt_cmpR op_ge (pe_callB call_abs (by rfl) T.abs (by decide +kernel) (pa_cons (pv 4) pa_nil)) (pe_op op_pow pe_int pe_int) (nomark _)))))
        (pss_cons (ps_set (i := 5) scD.nd rfl (.inl rfl) (pe_op op_add (pe_op op_mul pe_int (pe_op op_sub (pe_callB call_abs (by rfl) T.abs (by decide +kernel) (pa_cons (pv 4) pa_nil)) (pe_op op_pow pe_int pe_int)))
            (pe_callTy call_int1 (by rfl) T.int (by decide +kernel) (pa_cons (pe_cmpR op_lt (pv 4) pe_int (nomark _)) pa_nil))))
        (pss_cons (ps_asg (pe_op op_fdivW (pe_callTy call_int1 (by rfl) T.int (by decide +kernel) (pa_cons (pv 5) pa_nil)) (pv 1)) (pg_sub (pv 0) pe_int set_list))
        (pss_one (ps_ret (pe_op op_modN (pe_callTy call_int1 (by rfl) T.int (by decide +kernel) (pa_cons (pv 5) pa_nil)) (pv 1)))))) pss_nil)
      (pss_cons (ps_set (i := 6) scD.nd rfl (.inl rfl) (pe_op op_modN (pe_callTy call_int1 (by rfl) T.int (by decide +kernel) (pa_cons (pe_op op_pow (pe_op op_add (pe_op op_add
          (pe_op op_modN (pe_callTy call_int1 (by rfl) T.int (by decide +kernel) (pa_cons (pv 4) pa_nil)) pe_int) (pe_op op_mul pe_int (pv 3))) pe_int) pe_int) pa_nil)) pe_int))
      (pss_cons (ps_set (i := 6) scD.nd rfl (.inl rfl) (pe_op op_modN (pe_callTy call_int1 (by rfl) T.int (by decide +kernel) (pa_cons (pe_op op_pow (pe_op op_add (pe_op op_add
          (pe_op op_mul (pv 6) (pe_op op_add (pe_op op_mul pe_int (pv 3)) pe_int)) (pe_op op_mul (pe_op op_mul pe_int (pv 3)) (pv 3))) pe_int) pe_int) pa_nil)) pe_int))
      (pss_one (ps_ret (pe_op op_modN (pe_callTy call_int1 (by rfl) T.int (by decide +kernel) (pa_cons (pe_op op_fdivN (pv 6) pe_int) pa_nil)) (pv 1))))))))))), ?_⟩
    have i2 : ∀ {a b c : V}, atI [a, b, c] 2 = some c := fun {a b c} => atI_nat (j := 2) rfl
    have i1 : ∀ {a b c : V}, atI [a, b, c] 1 = some b := fun {a b c} => atI_nat (j := 1) rfl
    have i0 : ∀ {a b c : V}, atI [a, b, c] 0 = some a := fun {a b c} => atI_nat (j := 0) rfl
    -- if pen[2] > 0
    refine ⟨_, rfl, p, _, 2, _, rfl, rfl, SqL.of hp, i2, _, _, rfl, rfl, _, rfl, ite2 (fun e => ?_) (fun e => ?_)⟩
    · -- digit
      refine ⟨_, rfl, p, _, 2, _, rfl, rfl, SqL.of hp, i2, .inl ⟨_, rfl, _, rfl, _, _, rfl, rfl, (by omega), ?_⟩⟩
      refine ⟨_, rfl, p, _, 2, _, rfl, rfl, SqL.of hp, i2, .inl ⟨_, rfl, _, rfl, _, _, rfl, rfl, divW hm hm2, _, rfl, p, _, _, 2, rfl, rfl, hp, rfl, ?_⟩⟩
      refine ⟨_, rfl, ?_⟩
      exact k _ _ But.upd_at ⟨ns, tn, _, upd_same, by rw [upd_ne Lp]; exact hL, Lp, hlen, t0, by omega, ediv_lo hm c0⟩ (fmod_lo _ hm) (fmod_hi _ hm)
    · -- turn
      refine ⟨_, rfl, p, _, 1, _, rfl, rfl, SqL.of hp, i1, ?_⟩
      refine ⟨_, rfl, _, _, rfl, rfl, _, rfl, p, _, _, 1, rfl, rfl, hp, rfl, ?_⟩
      have hp1 : upd H p (.lst ([V.ref L, V.int tn, V.int ca].set 1 (V.int (tn + 1)))) p = some (.lst [.ref L, .int (tn + 1), .int ca]) := upd_same
      have hL1 : upd H p (.lst ([V.ref L, V.int tn, V.int ca].set 1 (V.int (tn + 1)))) L = some (.lst (ns.map V.int)) := by rw [upd_ne Lp]; exact hL
      have b1 : But p H (upd H p (.lst ([V.ref L, V.int tn, V.int ca].set 1 (V.int (tn + 1))))) := But.upd_at
      generalize upd H p (.lst ([V.ref L, V.int tn, V.int ca].set 1 (V.int (tn + 1)))) = H1 at hp1 hL1 b1 ⊢
      -- cell = c * turn + c'
      refine ⟨_, rfl, _, _, rfl, rfl, .inl ⟨by decide, by decide⟩, _, _, rfl, rfl, ?_⟩
      -- if pen[0] != []
      refine ⟨_, rfl, p, _, 0, _, rfl, rfl, SqL.of hp1, i0, by decide, fun l hl => ?_⟩
      have n1 : p ≠ l := ne_of_none hp1 hl
      have n2 : L ≠ l := ne_of_none hL1 hl
      have hp2 : upd H1 l (.lst []) p = some (.lst [.ref L, .int (tn + 1), .int ca]) := by rw [upd_ne n1]; exact hp1
      have hL2 : upd H1 l (.lst []) L = some (.lst (ns.map V.int)) := by rw [upd_ne n2]; exact hL1
      have hl2 : upd H1 l (.lst []) l = some (.lst []) := upd_same
      have b2 : But p H (upd H1 l (.lst [])) := b1.trans (But.upd_new hl)
      clear b1 hp1 hL1
      generalize upd H1 l (.lst []) = H2 at hp2 hL2 hl2 b2
      refine ⟨_, _, .lst (SqL.of hL2) (dpInts ns), .lst (SqL.of hl2) .nil, sh_ints ns, sh_ints [], _, rfl, ?_⟩
      rw [eqv_nil]
      -- the rest, for any cell
      have hcell : ∀ c : Int, ∃ j : Int, (if c < 0 then -c else c) = j ∧ 0 ≤ j := fun c => by
        by_cases z : c < 0
        · exact ⟨_, rfl, by rw [if_pos z]; omega⟩
        · exact ⟨_, rfl, by rw [if_neg z]; omega⟩
      have fin : ∀ H' : Hp, H' p = some (.lst [.ref L, .int (tn + 1), .int ca]) → H' L = some (.lst (ns.map V.int)) → But p H H' → Pen L H' p (B + 1) := fun H' e1 e2 _ =>
        ⟨ns, tn + 1, ca, e1, e2, Lp, hlen, by omega, by omega, c0⟩
      have ht : tn ≤ 1000000 := by omega
      have hm6 : 0 ≤ 66905 * tn ∧ 66905 * tn ≤ 66905 * 1000000 := mul_le_of (by decide) t0 (Int.le_refl _) ht
      have hq : ∀ {x m : Int}, 1 ≤ m → m ≤ 4294967296 → 0 ≤ x.fmod m ∧ x.fmod m < 4294967296 := fun {x m} h1 h2 => ⟨fmod_lo x h1, by have := fmod_hi x h1; omega⟩
      cases hn : ns with
      | nil =>
        refine iteF ?_
        refine ⟨_, rfl, _, rfl, p, _, 0, _, rfl, rfl, SqL.of hp2, i0, L, _, rfl, .inl (SqL.of hL2), _, _, rfl, rfl, _, rfl, ite2 (fun e1 => ?_) (fun e1 => ?_)⟩
        · refine ⟨_, rfl, _, rfl, _, _, rfl, rfl, ⟨by decide, by decide, by decide⟩, _, _, rfl, rfl, _, rfl, ite2 (fun e2 => ?_) (fun e2 => ?_)⟩
          · refine ⟨_, rfl, _, rfl, _, _, rfl, rfl, ⟨by decide, by decide, by decide⟩, _, _, rfl, rfl, _, _, rfl, rfl, .inl ⟨by decide, by decide⟩, _, rfl, _, _, rfl, rfl, .inr ⟨_, rfl, _, _, rfl, rfl, ?_⟩⟩
            refine ⟨_, rfl, .inl ⟨_, rfl, _, rfl, _, _, rfl, rfl, divW hm hm2, _, rfl, p, _, _, 2, rfl, rfl, hp2, rfl, ?_⟩⟩
            refine ⟨_, rfl, .inl ⟨_, rfl, _, rfl, _, _, rfl, rfl, (by omega), ?_⟩⟩
            refine k _ _ (b2.trans But.upd_at) ⟨_, tn + 1, _, upd_same, by rw [upd_ne Lp]; exact hL2, Lp, hlen, by omega, by omega, ediv_lo hm ?_⟩ (fmod_lo _ hm) (fmod_hi _ hm)
            have e3 := of_decide_eq_true e2
            exact great_nn e3 _
          · skip
            refine ⟨_, rfl, .inl ⟨_, rfl, _, _, rfl, rfl, nz (by decide), _, rfl, _, _, rfl, rfl, .inl ⟨by decide, by decide⟩, _, _, rfl, rfl, _, _, rfl, rfl, _, _, rfl, rfl, ⟨by decide, by decide, bound1 _ (by decide) (by decide) (by decide) (by decide) t0 ht⟩, .inl ⟨_, rfl, _, _, rfl, rfl, nz (by decide), ?_⟩⟩⟩
            refine ⟨_, rfl, _, rfl, _, _, rfl, rfl, .inl ⟨by decide, by decide⟩, _, _, rfl, rfl, _, _, rfl, rfl, .inl ?_, _, rfl, _, _, rfl, rfl, .inl ⟨by decide, by decide⟩, _, rfl, _, _, rfl, rfl, .inl ?_, _, _, rfl, rfl, _, _, rfl, rfl, _, _, rfl, rfl, ⟨by decide, by decide, ?_⟩, .inl ⟨_, rfl, _, _, rfl, rfl, nz (by decide), ?_⟩⟩
            · exact lt64 (hq (by decide) (by decide))
            · exact ⟨by omega, by omega⟩
            · exact bound2 (hq (by decide) (by decide)) (by decide) (by decide) (by decide) t0 ht
            · refine ⟨_, rfl, _, _, rfl, rfl, ⟨by decide, by decide⟩, .inl ⟨_, rfl, _, rfl, _, _, rfl, rfl, (by omega), ?_⟩⟩
              exact k _ _ b2 (fin _ hp2 hL2 b2) (fmod_lo _ hm) (fmod_hi _ hm)
        · skip
          refine ⟨_, rfl, .inl ⟨_, rfl, _, _, rfl, rfl, nz (by decide), _, rfl, _, _, rfl, rfl, .inl ⟨by decide, by decide⟩, _, _, rfl, rfl, _, _, rfl, rfl, _, _, rfl, rfl, ⟨by decide, by decide, bound1 _ (by decide) (by decide) (by decide) (by decide) t0 ht⟩, .inl ⟨_, rfl, _, _, rfl, rfl, nz (by decide), ?_⟩⟩⟩
          refine ⟨_, rfl, _, rfl, _, _, rfl, rfl, .inl ⟨by decide, by decide⟩, _, _, rfl, rfl, _, _, rfl, rfl, .inl ?_, _, rfl, _, _, rfl, rfl, .inl ⟨by decide, by decide⟩, _, rfl, _, _, rfl, rfl, .inl ?_, _, _, rfl, rfl, _, _, rfl, rfl, _, _, rfl, rfl, ⟨by decide, by decide, ?_⟩, .inl ⟨_, rfl, _, _, rfl, rfl, nz (by decide), ?_⟩⟩
          · exact lt64 (hq (by decide) (by decide))
          · exact ⟨by omega, by omega⟩
          · exact bound2 (hq (by decide) (by decide)) (by decide) (by decide) (by decide) t0 ht
          · refine ⟨_, rfl, _, _, rfl, rfl, ⟨by decide, by decide⟩, .inl ⟨_, rfl, _, rfl, _, _, rfl, rfl, (by omega), ?_⟩⟩
            exact k _ _ b2 (fin _ hp2 hL2 b2) (fmod_lo _ hm) (fmod_hi _ hm)
      | cons n0 nr =>
        refine iteT ?_
        obtain ⟨c, hc⟩ := cell_at (ns := ns) (by rw [hn]; exact List.cons_ne_nil _ _) tn
        refine ⟨_, rfl, p, _, 0, _, rfl, rfl, SqL.of hp2, i0, _, rfl, .inl ⟨_, rfl, _, rfl, p, _, 0, _, rfl, rfl, SqL.of hp2, i0, L, _, rfl, .inl (SqL.of hL2), _, _, rfl, rfl, (by rw [List.length_map, hn, List.length_cons]; omega), L, _, _, _, rfl, rfl, SqL.of hL2, hc, ?_⟩⟩
        refine ⟨_, rfl, _, rfl, p, _, 0, _, rfl, rfl, SqL.of hp2, i0, L, _, rfl, .inl (SqL.of hL2), _, _, rfl, rfl, _, rfl, ite2 (fun e1 => ?_) (fun e1 => ?_)⟩
        · refine ⟨_, rfl, _, rfl, _, _, rfl, rfl, ⟨by decide, by decide, by decide⟩, _, _, rfl, rfl, _, rfl, ite2 (fun e2 => ?_) (fun e2 => ?_)⟩
          · refine ⟨_, rfl, _, rfl, _, _, rfl, rfl, ⟨by decide, by decide, by decide⟩, _, _, rfl, rfl, _, _, rfl, rfl, .inl ⟨by decide, by decide⟩, _, rfl, _, _, rfl, rfl, .inr ⟨_, rfl, _, _, rfl, rfl, ?_⟩⟩
            refine ⟨_, rfl, .inl ⟨_, rfl, _, rfl, _, _, rfl, rfl, divW hm hm2, _, rfl, p, _, _, 2, rfl, rfl, hp2, rfl, ?_⟩⟩
            refine ⟨_, rfl, .inl ⟨_, rfl, _, rfl, _, _, rfl, rfl, (by omega), ?_⟩⟩
            refine k _ _ (b2.trans But.upd_at) ⟨_, tn + 1, _, upd_same, by rw [upd_ne Lp]; exact hL2, Lp, hlen, by omega, by omega, ediv_lo hm ?_⟩ (fmod_lo _ hm) (fmod_hi _ hm)
            have e3 := of_decide_eq_true e2
            exact great_nn e3 _
          · skip
            refine ⟨_, rfl, .inl ⟨_, rfl, _, _, rfl, rfl, nz (by decide), _, rfl, _, _, rfl, rfl, .inl ⟨by decide, by decide⟩, _, _, rfl, rfl, _, _, rfl, rfl, _, _, rfl, rfl, ⟨by decide, by decide, bound1 _ (by decide) (by decide) (by decide) (by decide) t0 ht⟩, .inl ⟨_, rfl, _, _, rfl, rfl, nz (by decide), ?_⟩⟩⟩
            refine ⟨_, rfl, _, rfl, _, _, rfl, rfl, .inl ⟨by decide, by decide⟩, _, _, rfl, rfl, _, _, rfl, rfl, .inl ?_, _, rfl, _, _, rfl, rfl, .inl ⟨by decide, by decide⟩, _, rfl, _, _, rfl, rfl, .inl ?_, _, _, rfl, rfl, _, _, rfl, rfl, _, _, rfl, rfl, ⟨by decide, by decide, ?_⟩, .inl ⟨_, rfl, _, _, rfl, rfl, nz (by decide), ?_⟩⟩
            · exact lt64 (hq (by decide) (by decide))
            · exact ⟨by omega, by omega⟩
            · exact bound2 (hq (by decide) (by decide)) (by decide) (by decide) (by decide) t0 ht
            · refine ⟨_, rfl, _, _, rfl, rfl, ⟨by decide, by decide⟩, .inl ⟨_, rfl, _, rfl, _, _, rfl, rfl, (by omega), ?_⟩⟩
              exact k _ _ b2 (fin _ hp2 hL2 b2) (fmod_lo _ hm) (fmod_hi _ hm)
        · skip
          refine ⟨_, rfl, .inl ⟨_, rfl, _, _, rfl, rfl, nz (by decide), _, rfl, _, _, rfl, rfl, .inl ⟨by decide, by decide⟩, _, _, rfl, rfl, _, _, rfl, rfl, _, _, rfl, rfl, ⟨by decide, by decide, bound1 _ (by decide) (by decide) (by decide) (by decide) t0 ht⟩, .inl ⟨_, rfl, _, _, rfl, rfl, nz (by decide), ?_⟩⟩⟩
          refine ⟨_, rfl, _, rfl, _, _, rfl, rfl, .inl ⟨by decide, by decide⟩, _, _, rfl, rfl, _, _, rfl, rfl, .inl ?_, _, rfl, _, _, rfl, rfl, .inl ⟨by decide, by decide⟩, _, rfl, _, _, rfl, rfl, .inl ?_, _, _, rfl, rfl, _, _, rfl, rfl, _, _, rfl, rfl, ⟨by decide, by decide, ?_⟩, .inl ⟨_, rfl, _, _, rfl, rfl, nz (by decide), ?_⟩⟩
          · exact lt64 (hq (by decide) (by decide))
          · exact ⟨by omega, by omega⟩
          · exact bound2 (hq (by decide) (by decide)) (by decide) (by decide) (by decide) t0 ht
          · refine ⟨_, rfl, _, _, rfl, rfl, ⟨by decide, by decide⟩, .inl ⟨_, rfl, _, rfl, _, _, rfl, rfl, (by omega), ?_⟩⟩
            exact k _ _ b2 (fin _ hp2 hL2 b2) (fmod_lo _ hm) (fmod_hi _ hm)
end
end Ev
namespace Ev
open PySem L2 PySem.Spec PyProof.Rows
abbrev sParts : Stmt := sPartsOf
abbrev sBRInit : Stmt := sBadRule_init

abbrev sNums : Stmt := sLNumbers
abbrev sRule : Stmt := sLRule
theorem same_new {H : Hp} {q : Addr} {o : HO} (n : H q = none) : Same H (upd H q o) := fun b u e => by rw [upd_ne (ne_of_none e n)]; exact e
theorem Same.gone {H H' : Hp} {p : Addr} (k : Same H H') (n : H' p = none) : H p = none := by
  cases z : H p with
  | none => rfl
  | some o => rw [k _ _ z] at n; cases n
/-- a def that stands under its name -/
structure Df (P : Program) (w : World) (K : PySem.W.Frag) (mg : Str → Option Value) (base : Heap) (k : Nat) (x : Str) (ps : List Str) (sp : Sp) : Prop where
  ex : ∃ (f : Addr) (fd : FuncData), FnOk P w K mg base CX0 k f fd ps sp ∧ mg x = some (.ref f) ∧ PySem.W.keepIn K (.ref f) = true ∧ Binds K fd ps []
theorem extN_refl (H : Hp) : LamX.ExtN H H := fun _ _ e _ => e
theorem sx {H H1 H2 : Hp} (k : Same H H1) (q : LamX.ExtN H1 H2) : LamX.ExtN H H2 := fun b o e t => q b o (k b o e) t
theorem xx {H H1 H2 : Hp} (k : LamX.ExtN H H1) (q : LamX.ExtN H1 H2) : LamX.ExtN H H2 := fun b o e t => q b o (k b o e t) t
/-- no integer -/
def NoInt (H : Hp) (v : V) : Prop := (∀ i, v ≠ .int i) ∧ ∃ (T : String) (b c : Bool), (∀ (K : PySem.W.Frag) (H' : Hp), LamX.ExtN H H' → TyX K H' v (.type T)) ∧ kitB T "int" = some b ∧ kitB T "bool" = some c ∧ (b = true → c = true)
theorem NoInt.keep {H H' : Hp} {v : V} (h : NoInt H v) (k : Same H H') : NoInt H' v := by
  obtain ⟨n, T, b, c, ty, r⟩ := h
  exact ⟨n, T, b, c, fun K G q => ty K G (sx k q), r⟩
theorem NoInt.ext {H H' : Hp} {v : V} (h : NoInt H v) (k : LamX.ExtN H H') : NoInt H' v := by
  obtain ⟨n, T, b, c, ty, r⟩ := h
  exact ⟨n, T, b, c, fun K G q => ty K G (xx k q), r⟩
/-- an integer or none -/
def IntQ (H : Hp) (v : V) : Prop := (∃ i, v = .int i) ∨ NoInt H v
theorem IntQ.keep {H H' : Hp} {v : V} (h : IntQ H v) (k : Same H H') : IntQ H' v := h.imp id fun n => n.keep k
theorem IntQ.ext {H H' : Hp} {v : V} (h : IntQ H v) (k : LamX.ExtN H H') : IntQ H' v := h.imp id fun n => n.ext k
def isI : V → Bool
  | .int _ => true
  | _ => false
def inB (l m : Int) : V → Bool
  | .int i => decide (l ≤ i) && decide (i ≤ m)
  | _ => false
theorem isI_no {H : Hp} {v : V} (h : NoInt H v) : isI v = false := by
  cases v <;> first | rfl | exact absurd rfl (h.1 _)
theorem inB_no {H : Hp} {v : V} (h : NoInt H v) (l m : Int) : inB l m v = false := by
  cases v <;> first | rfl | exact absurd rfl (h.1 _)
/-- what stands in such a tuple -/
def Scal (v : V) : Prop := (∃ i, v = .int i) ∨ (∃ b, v = .bl b) ∨ v = .str "2"
theorem noInt_bl (H : Hp) (b : Bool) : NoInt H (.bl b) := ⟨fun i z => (by cases z), "bool", true, true, fun _ _ _ => .base (.bl b), by decide +kernel, by decide +kernel, fun _ => rfl⟩
theorem noInt_str (H : Hp) (x : Str) : NoInt H (.str x) := ⟨fun i z => (by cases z), "str", false, false, fun _ _ _ => .base (.str x), by decide +kernel, by decide +kernel, fun z => z⟩
theorem Scal.q {H : Hp} {v : V} (h : Scal v) : IntQ H v := by
  rcases h with ⟨i, rfl⟩ | ⟨b, rfl⟩ | rfl
  · exact .inl ⟨i, rfl⟩
  · exact .inr (noInt_bl H b)
  · exact .inr (noInt_str H _)
/-- no tuple -/
def NoTup (H : Hp) (v : V) : Prop := ∃ T : String, (∀ (K : PySem.W.Frag) (H' : Hp), LamX.ExtN H H' → TyX K H' v (.type T)) ∧ kitB T "tuple" = some false
theorem NoTup.keep {H H' : Hp} {v : V} (h : NoTup H v) (k : Same H H') : NoTup H' v := by
  obtain ⟨T, ty, r⟩ := h
  exact ⟨T, fun K G q => ty K G (sx k q), r⟩
theorem NoTup.ext {H H' : Hp} {v : V} (h : NoTup H v) (k : LamX.ExtN H H') : NoTup H' v := by
  obtain ⟨T, ty, r⟩ := h
  exact ⟨T, fun K G q => ty K G (xx k q), r⟩
/-- a tuple of such values, or no tuple: xs tells which -/
def PairQ (H : Hp) (v : V) : Option (List V) → Prop
  | some xs => ∃ a, v = .ref a ∧ H a = some (.tup xs) ∧ xs.length ≤ 1000 ∧ ∀ x ∈ xs, Scal x
  | none => NoTup H v
theorem PairQ.keep {H H' : Hp} {v : V} {o : Option (List V)} (h : PairQ H v o) (k : Same H H') : PairQ H' v o := by
  cases o with
  | none => exact NoTup.keep h k
  | some xs =>
    obtain ⟨a, e, h1, h2, h3⟩ := h
    exact ⟨a, e, k _ _ h1, h2, h3⟩
theorem PairQ.ext {H H' : Hp} {v : V} {o : Option (List V)} (h : PairQ H v o) (k : LamX.ExtN H H') : PairQ H' v o := by
  cases o with
  | none => exact NoTup.ext h k
  | some xs =>
    obtain ⟨a, e, h1, h2, h3⟩ := h
    exact ⟨a, e, k _ _ h1 (fun _ z => by cases z), h2, h3⟩
def pairB (m : Int) : Option (List V) → Bool
  | some [x, y] => inB 1 m x && inB 1 m y
  | _ => false
def leV : V → V → Bool
  | .int i, .int j => decide (j ≤ i)
  | _, _ => false
def timesB : Option (List V) → Bool
  | some [x, y] => (inB 1 6 x && inB 1 6 y) && leV x y
  | _ => false
def spIsIntA : Sp := fun vs H Q _ => ∃ v : V, vs = [v] ∧ IntQ H v ∧ Q (.bl (isI v)) H
def spWithinA : Sp := fun vs H Q _ => ∃ (v : V) (l m : Int), vs = [v, .int l, .int m] ∧ IntQ H v ∧ Q (.bl (inB l m v)) H
def spPairA : Sp := fun vs H Q _ => ∃ (v : V) (o : Option (List V)) (m : Int), vs = [v, .int m] ∧ PairQ H v o ∧ ∀ H', Same H H' → Q (.bl (pairB m o)) H'
def spTimesA : Sp := fun vs H Q _ => ∃ (v : V) (o : Option (List V)), vs = [v] ∧ PairQ H v o ∧ ∀ H', Same H H' → Q (.bl (timesB o)) H'
def spPlusA : Sp := fun vs H Q _ => ∃ v : V, vs = [v] ∧ IntQ H v ∧ Q (.bl (inB (-6) 6 v)) H
def spTurnA : Sp := fun vs H Q _ => ∃ (v : V) (o : Option (List V)), vs = [v] ∧ PairQ H v o ∧ ∀ H', Same H H' → Q (.bl (pairB 8 o)) H'
theorem lc_pureV {J : It} {n : Nat} {G : Hp → Prop} {Y : Nat → Hp → V → Hp → Prop} (W : Walk J n G Y) {g : TG} {tt : TT} {te : TE} {vs : List Nat} {σ : L2.St} {H1 : Hp} {D : Addr} {Qd : Hp → Prop} (rs : List V) (hn : rs.length = n) (hb : n ≤ 4000)
    (hG : ∀ H, But D H1 H → G H)
    (step : ∀ (i : Nat) (x : V) (H H' : Hp) (r : V), i < n → rs[i]? = some r → But D H1 H → (∃ acc, H D = some (.lst acc)) → Y i H x H' → ∀ (R : VK) (Wk : Hp → Prop), (∀ H4, Same H H4 → R r H4) →
      g x (wipe σ vs) H' fun σ2 H2 => wipe σ2 vs = wipe σ vs ∧ tt σ2 H2 fun b H3 => if b = true then te σ2 H3 R else Wk H3)
    (fin : ∀ H, But D H1 H → H D = some (.lst rs) → Qd H) :
    ∃ W : Nat → Nat → Hp → Prop, (∃ m, W 0 m (upd H1 D (HO.lst []))) ∧ ∀ (i m : Nat) (H : Hp), W i m H → J.stop i H ∧ Qd H ∨ J.go i H ∧ ∃ Nx : Hp → Prop, (∀ (H' : Hp), Nx H' → ∃ m', m' < m ∧ W (i + 1) m' H') ∧
      ∀ (x : V) (H' : Hp), J.yld i H x H' → g x (wipe σ vs) H' fun σ2 H2 => wipe σ2 vs = wipe σ vs ∧ tt σ2 H2 fun b H3 =>
        if b = true then te σ2 H3 fun y H4 => ∃ acc, H4 D = some (HO.lst acc) ∧ acc.length < sizeLine ∧ Nx (upd H4 D (HO.lst (acc ++ [y]))) else Nx H3 := by
  refine lc_it W (fun i H => H D = some (.lst (rs.take i)) ∧ But D H1 H) ⟨upd_same, But.upd_at⟩ (fun i H _ h => hG H h.2) (fun i x H H' hi h y => ?_) (fun H h => ?_)
  · obtain ⟨e1, e2⟩ := h
    have hr : rs[i]? = some rs[i] := List.getElem?_eq_getElem (by omega)
    refine step i x H H' rs[i] hi hr e2 ⟨_, e1⟩ y _ _ fun H4 s4 => ⟨_, s4 _ _ e1, ?_, ?_, ?_⟩
    · rw [List.length_take]
      exact Nat.lt_of_le_of_lt (Nat.min_le_left _ _) (Nat.lt_of_lt_of_le (show i < 4000 by omega) (by decide))
    · rw [List.take_add_one, hr]
      exact upd_same
    · exact fun c o nc ec => by rw [upd_ne nc]; exact s4 _ _ (e2 c o nc ec)
  · obtain ⟨e1, e2⟩ := h
    rw [← hn, List.take_length] at e1
    exact fin H e2 e1
section
variable {P : Program} {w : World} {K : PySem.W.Frag} {mg : Str → Option Value} {base : Heap}
theorem tup1 {a b : V} : atI [a, b] 1 = some b := atI_nat (j := 1) rfl
theorem tup0 {a b : V} : atI [a, b] 0 = some a := atI_nat (j := 0) rfl
theorem scIsInt : FnScope ["value"] ["value"] (defScope sIsInt) := ⟨rfl, rfl, rfl, by decide +kernel, rfl, by decide +kernel, by decide +kernel⟩
theorem ok_isInt {f : Addr} {fd : FuncData} (F : Fun K "is_integer" "is_integer" sIsInt f fd) (T : Blt mg) : FnOk P w K mg base CX0 1 f fd ["value"] spIsIntA := by
  refine F.ok scIsInt (fun vs H Q E h => ?_) (fun cdv A outer s H vs Q E hr h => ?_)
  · obtain ⟨v, rfl, _⟩ := h
    rfl
  · obtain ⟨v, rfl, h, k⟩ := h
    refine ⟨_, pss_one (ps_ret (pe_and (pe_callB call_isi (by rfl) T.isi (by decide +kernel) (pa_cons (pv 0) (pa_cons (pe_bltn (v := .ty "int") (by rfl) T.int (by decide +kernel) rfl) pa_nil)))
      (pe_one (pe_not (pe_callB call_isi (by rfl) T.isi (by decide +kernel) (pa_cons (pv 0) (pa_cons (pe_bltn (v := .ty "bool") (by rfl) T.bool (by decide +kernel) rfl) pa_nil))))))), ?_⟩
    rcases h with ⟨i, rfl⟩ | no
    · exact ⟨_, rfl, _, _, _, _, true, rfl, .ty _, .base (.int i), kit_ty (by decide +kernel), true, rfl, iteT ⟨_, rfl, _, _, _, _, false, rfl, .ty _, .base (.int i), kit_ty (by decide +kernel), _, rfl, k⟩⟩
    · rw [isI_no no] at k
      obtain ⟨_, TT, b, c, ty, e1, e2, e3⟩ := no
      refine ⟨_, rfl, _, _, _, _, b, rfl, .ty _, ty _ _ (extN_refl H), kit_ty e1, b, rfl, ?_⟩
      cases b with
      | false => exact iteF k
      | true => exact iteT ⟨_, rfl, _, _, _, _, true, rfl, .ty _, ty _ _ (extN_refl H), kit_ty (by rw [e2, e3 rfl]), _, rfl, k⟩
theorem scWithin : FnScope ["value", "least", "most"] ["value", "least", "most"] (defScope sWithin) := ⟨rfl, rfl, rfl, by decide +kernel, rfl, by decide +kernel, by decide +kernel⟩
theorem ok_within {f : Addr} {fd : FuncData} (F : Fun K "is_within" "is_within" sWithin f fd) (D : Df P w K mg base 1 "is_integer" ["value"] spIsIntA) : FnOk P w K mg base CX0 2 f fd ["value", "least", "most"] spWithinA := by
  obtain ⟨fI, fdI, GI, gI, kI, bI⟩ := D.ex
  refine F.ok scWithin (fun vs H Q E h => ?_) (fun cdv A outer s H vs Q E hr h => ?_)
  · obtain ⟨v, l, m, rfl, _⟩ := h
    rfl
  · obtain ⟨v, l, m, rfl, h, k⟩ := h
    refine ⟨_, pss_one (ps_ret (pe_and (pe_call GI hr (by rfl) gI kI bI .nil pass0 (pa_cons (pv 0) pa_nil)) (pe_one (pe_chain op_le op_le (pv 1) (pv 0) (pv 2))))), ?_⟩
    refine ⟨_, rfl, _, rfl, h, ?_⟩
    rcases h with ⟨i, rfl⟩ | no
    · refine ⟨true, rfl, iteT ⟨_, rfl, _, rfl, _, _, rfl, rfl, _, rfl, ?_⟩⟩
      have k : Q (.bl (decide (l ≤ i) && decide (i ≤ m))) H := k
      by_cases z : l ≤ i
      · rw [decide_eq_true z] at k ⊢
        refine iteT ⟨_, rfl, _, _, rfl, rfl, ?_⟩
        exact k
      · rw [decide_eq_false z] at k ⊢
        exact iteF k
    · rw [inB_no no] at k
      rw [isI_no no]
      exact ⟨false, rfl, iteF k⟩
theorem scPair : FnScope ["value", "most", "item"] ["value", "most"] (defScope sPair) := ⟨rfl, rfl, rfl, by decide +kernel, rfl, by decide +kernel, by decide +kernel⟩
theorem pairB_len {m : Int} {xs : List V} (h : xs.length ≠ 2) : pairB m (some xs) = false := by
  match xs, h with
  | [], _ => rfl
  | [_], _ => rfl
  | [_, _], h => exact absurd rfl h
  | _ :: _ :: _ :: _, _ => rfl
theorem ok_pair {f : Addr} {fd : FuncData} (F : Fun K "is_pair" "is_pair" sPair f fd) (T : Blt mg) (D : Df P w K mg base 2 "is_within" ["value", "least", "most"] spWithinA) : FnOk P w K mg base CX0 3 f fd ["value", "most"] spPairA := by
  obtain ⟨fW, fdW, GW, gW, kW, bW⟩ := D.ex
  refine F.ok scPair (fun vs H Q E h => ?_) (fun cdv A outer s H vs Q E hr h => ?_)
  · obtain ⟨v, o, m, rfl, _⟩ := h
    rfl
  · obtain ⟨v, o, m, rfl, hv, k⟩ := h
    refine ⟨_, pss_one (ps_ret (pe_and (pe_callB call_isi (by rfl) T.isi (by decide +kernel) (pa_cons (pv 0) (pa_cons (pe_bltn (v := .ty "tuple") (by rfl) T.tuple (by decide +kernel) rfl) pa_nil)))
      (pe_and (pe_cmpR op_eq (pe_callB call_len_seq (by rfl) T.len PySem.boot_len (pa_cons (pv 0) pa_nil)) pe_int (nomark _))
      (pe_one (pe_callB (cr_all rfl) (by rfl) T.all (by decide +kernel) (pa_cons (pe_lc (own := [("item", 2)]) (g := gName 2) (tt := tYes) (te := tCall spWithinA [] E0 (tCons (tVar 2) (tCons (tC (.int 1)) (tCons (tVar 1) tNil)))) (by rfl) scPair.nd (pi_tup (pv 0)) (blkOk_by (own := [("item", 2)]) (N := ["value", "most", "item"]) (sc := defScope sPair) (by decide +kernel))
          (fun _ _ _ _ _ => pg_name (i := 2) scPair.nd rfl (.inl rfl)) (fun _ _ _ _ _ => pts_nil) (fun _ _ _ _ _ => pe_call GW hr (by rfl) gW kW bW .nil pass0 (pa_cons (pv 2) (pa_cons pe_int (pa_cons (pv 1) pa_nil))))) pa_nil)))))), ?_⟩
    cases o with
    | none =>
      obtain ⟨TT, ty, e⟩ := hv
      exact ⟨_, rfl, _, _, _, _, false, rfl, .ty _, ty _ _ (extN_refl H), kit_ty e, false, rfl, iteF (k H (Same.refl H))⟩
    | some xs =>
      obtain ⟨a, rfl, ha, hl, hq⟩ := hv
      refine ⟨_, rfl, _, _, _, _, true, rfl, .ty _, .base (.tup ha), kit_ty (by decide +kernel), true, rfl, iteT ⟨_, rfl, a, _, rfl, .inr (SqT.of ha), rfl, _, rfl, ite2 (fun e => ?_) (fun e => ?_)⟩⟩
      · have e : xs.length = 2 := by
          have e' : (xs.length : Int) = 2 := by simpa using e
          omega
        refine ⟨_, rfl, a, rfl, ⟨_, SqT.of ha⟩, fun D nD => ?_⟩
        have aD := ne_of_none ha nD
        refine lc_pureV (n := xs.length) (walk_tup (xs := xs)) (xs.map fun x => V.bl (inB 1 m x)) (List.length_map _) (by omega) (fun H' h => SqT.of (h _ _ aD ha)) (fun i v H2 H' r hi hr bt _ y R Wk kk => ?_) (fun H' bt hD => ?_)
        · obtain ⟨rfl, hv⟩ := y
          have er : r = V.bl (inB 1 m v) := by
            rw [List.getElem?_map, hv] at hr
            exact (Option.some.inj hr).symm
          subst er
          have sq : IntQ H' v := (hq v (List.mem_of_getElem? hv)).q
          exact ⟨rfl, _, rfl, _, rfl, v, 1, m, rfl, sq, kk _ (Same.refl _)⟩
        · have s1 : Same H H' := fun c o e => bt c o (ne_of_none e nD) e
          have eq : (xs.map fun x => V.bl (inB 1 m x)) = (xs.map fun x => inB 1 m x).map V.bl := by rw [List.map_map]; rfl
          rw [eq] at hD
          refine ⟨D, _, rfl, SqL.of hD, ?_⟩
          match xs, e with
          | [x, y], _ =>
            have := k H' s1
            simpa [pairB] using this
      · have e : xs.length ≠ 2 := by
          have e' : ¬ (xs.length : Int) = 2 := by simpa using e
          omega
        have := k H (Same.refl H)
        rw [pairB_len e] at this
        simpa using this
theorem inB_int {l m : Int} {v : V} (h : inB l m v = true) : ∃ i, v = .int i ∧ l ≤ i ∧ i ≤ m := by
  cases v <;> first | cases h | skip
  rename_i i
  have h : (decide (l ≤ i) && decide (i ≤ m)) = true := h
  rw [Bool.and_eq_true, decide_eq_true_eq, decide_eq_true_eq] at h
  exact ⟨i, rfl, h.1, h.2⟩
theorem pair_cases (m : Int) (o : Option (List V)) : (∃ i j, o = some [.int i, .int j] ∧ (1 ≤ i ∧ i ≤ m) ∧ (1 ≤ j ∧ j ≤ m) ∧ pairB m o = true) ∨ pairB m o = false := by
  cases z : pairB m o with
  | false => exact .inr rfl
  | true =>
    refine .inl ?_
    match o, z with
    | some [x, y], z =>
      have z : (inB 1 m x && inB 1 m y) = true := z
      rw [Bool.and_eq_true] at z
      obtain ⟨i, rfl, h1, h2⟩ := inB_int z.1
      obtain ⟨j, rfl, h3, h4⟩ := inB_int z.2
      exact ⟨i, j, rfl, ⟨h1, h2⟩, ⟨h3, h4⟩, rfl⟩
end
end Ev
namespace Ev
open PySem L2 PySem.Spec PyProof.Rows
section
variable {X : Cx}
theorem pe_never {e : Expr} : PE X e (fun _ _ _ => False) := ⟨fun _ _ _ _ _ _ h => h.elim⟩
end
/-- v is a value of the built-in type T, one that holds nothing -/
structure Flat (v : V) (T : String) : Prop where
  ty : ∀ (K : PySem.W.Frag) (H : Hp), TyX K H v (.type T)
  l : kitB T "list" = some false
  t : kitB T "tuple" = some false
  d : kitB T "dict" = some false
theorem flat_int (i : Int) : Flat (.int i) "int" := ⟨fun _ _ => .base (.int i), by decide +kernel, by decide +kernel, by decide +kernel⟩
theorem flat_str (x : Str) : Flat (.str x) "str" := ⟨fun _ _ => .base (.str x), by decide +kernel, by decide +kernel, by decide +kernel⟩
theorem kit2 {K : PySem.W.Frag} {T a b : String} (h1 : kitB T a = some false) (h2 : kitB T b = some false) : PySem.W.kitAny K (.type T) [.type a, .type b] = some false :=
  kitAny_cons (kit_ty h1) (fun _ => kitAny_cons (kit_ty h2) (fun _ => kitAny_nil) (fun z => by cases z)) (fun z => by cases z)
def spParts : Sp := fun vs H Q _ => ∃ (v : V) (T : String), vs = [v] ∧ Flat v T ∧ ∀ (p : Addr) (H' : Hp), H p = none → Same H H' → H' p = some (.lst []) → Q (.ref p) H'
def spKept : Sp := fun vs H Q _ => ∃ (v : V) (T : String), vs = [v] ∧ Flat v T ∧ ∀ (H' : Hp), Same H H' → Q v H'
section
variable {P : Program} {w : World} {K : PySem.W.Frag} {mg : Str → Option Value} {base : Heap}
theorem scParts : FnScope ["value"] ["value"] (defScope sParts) := ⟨rfl, rfl, rfl, by decide +kernel, rfl, by decide +kernel, by decide +kernel⟩
theorem ok_parts {f : Addr} {fd : FuncData} (F : Fun K "parts_of" "parts_of" sParts f fd) (T : Blt mg) (md : mg "dict" = none) : FnOk P w K mg base CX0 1 f fd ["value"] spParts := by
  refine F.ok scParts (fun vs H Q E h => ?_) (fun cdv A outer s H vs Q E hr h => ?_)
  · obtain ⟨v, TT, rfl, _⟩ := h
    rfl
  · obtain ⟨v, TT, rfl, fl, kk⟩ := h
    refine ⟨_, pss_cons (ps_if (pt_val (pe_callB call_isiT (by rfl) T.isi (by decide +kernel) (pa_cons (pv 0) (pa_cons (pe_tup (pa_cons (pe_bltn (v := .ty "list") (by rfl) T.list (by decide +kernel) rfl) (pa_cons (pe_bltn (v := .ty "tuple") (by rfl) T.tuple (by decide +kernel) rfl) pa_nil))) pa_nil)))) (pss_one ps_never) pss_nil)
      (pss_one (ps_ret (pe_ifExp (pt_val (pe_callB call_isi (by rfl) T.isi (by decide +kernel) (pa_cons (pv 0) (pa_cons (pe_bltn (v := .ty "dict") (by rfl) md (by decide +kernel) rfl) pa_nil)))) pe_never (pe_lst pa_nil)))), ?_⟩
    refine ⟨_, rfl, (by show 2 ≤ sizeLine; decide), fun tp ntp => ⟨v, tp, _, _, _, false, rfl, upd_same, .cons (.ty _) (.cons (.ty _) .nil), fl.ty _ _, kit2 fl.l fl.t, _, rfl, iteF ?_⟩⟩
    refine ⟨_, rfl, v, _, _, _, false, rfl, .ty _, fl.ty _ _, kit_ty fl.d, _, rfl, iteF ⟨(by show 0 ≤ sizeLine; decide), fun p np => ?_⟩⟩
    refine kk p _ ?_ (fun b o e => ?_) upd_same
    · cases e : H p with
      | none => rfl
      | some o => rw [upd_ne (ne_of_none e ntp), e] at np; cases np
    · have e1 : upd H tp (.tup [.ty "list", .ty "tuple"]) b = some o := by rw [upd_ne (ne_of_none e ntp)]; exact e
      rw [upd_ne (ne_of_none e1 np)]; exact e1
theorem kit3 {K : PySem.W.Frag} {T a b c : String} (h1 : kitB T a = some false) (h2 : kitB T b = some false) (h3 : kitB T c = some false) : PySem.W.kitAny K (.type T) [.type a, .type b, .type c] = some false :=
  kitAny_cons (kit_ty h1) (fun _ => kitAny_cons (kit_ty h2) (fun _ => kitAny_cons (kit_ty h3) (fun _ => kitAny_nil) (fun z => by cases z)) (fun z => by cases z)) (fun z => by cases z)
theorem scKept : FnScope ["value"] ["value"] (defScope sKept) := ⟨rfl, rfl, rfl, by decide +kernel, rfl, by decide +kernel, by decide +kernel⟩
theorem ok_kept {f : Addr} {fd : FuncData} (F : Fun K "kept" "kept" sKept f fd) (T : Blt mg) (md : mg "dict" = none) (ma : mg "any" = none) (D : Df P w K mg base 1 "parts_of" ["value"] spParts) : FnOk P w K mg base CX0 2 f fd ["value"] spKept := by
  refine F.ok scKept (fun vs H Q E h => ?_) (fun cdv A outer s H vs Q E hr h => ?_)
  · obtain ⟨v, TT, rfl, _⟩ := h
    rfl
  · obtain ⟨v, TT, rfl, fl, kk⟩ := h
    refine ⟨_, pss_cons (ps_if (pt_not (pt_val (pe_callB call_isiT (by rfl) T.isi (by decide +kernel) (pa_cons (pv 0) (pa_cons (pe_tup (pa_cons (pe_bltn (v := .ty "list") (by rfl) T.list (by decide +kernel) rfl) (pa_cons (pe_bltn (v := .ty "tuple") (by rfl) T.tuple (by decide +kernel) rfl) (pa_cons (pe_bltn (v := .ty "dict") (by rfl) md (by decide +kernel) rfl) pa_nil)))) pa_nil))))) (pss_one (ps_ret (pv 0))) pss_nil)
      (pss_cons ps_never (pss_one ps_never)), ?_⟩
    refine ⟨_, rfl, (by show 3 ≤ sizeLine; decide), fun tp ntp => ⟨v, tp, _, _, _, false, rfl, upd_same, .cons (.ty _) (.cons (.ty _) (.cons (.ty _) .nil)), fl.ty _ _, kit3 fl.l fl.t fl.d, _, rfl, iteT ⟨_, rfl, ?_⟩⟩⟩
    exact kk _ (fun b u e => by rw [upd_ne (ne_of_none e ntp)]; exact e)
end
end Ev
namespace Ev
open PySem L2 PySem.Spec PyProof.Rows
/-! Promises of defs that are called while no repr is under way (so what they make can be shown). -/
structure FnG (P : Program) (w : World) (K : PySem.W.Frag) (mg : Str → Option Value) (base : Heap) (k : Nat) (f : Addr)
    (fd : FuncData) (ps : List Str) (sp : Sp) : Prop where
  many : ∀ vs H Q E, sp vs H Q E → vs.length = ps.length
  goes : ∀ (A : Around) (above : List Env) (s : Shared) (H : Hp) (args : Args) (us : List Value) (vs : List V) (Q : VK)
    (E : XK), Room k A → A.guards = some [] → Env0 P w K mg base A above s H → BindsTo s fd args (ps.zip us) → Vals vs us →
    sp vs H Q E → codeAny (model P w) A (.call (.ref f) args) (CR CX0 above P w H s Q E) s
theorem FnG.of {P : Program} {w : World} {K : PySem.W.Frag} {mg : Str → Option Value} {base : Heap} {k : Nat} {f : Addr}
    {fd : FuncData} {ps : List Str} {sp : Sp} (F : FnOk P w K mg base CX0 k f fd ps sp) : FnG P w K mg base k f fd ps sp :=
  ⟨F.len, fun A above s H args us vs Q E hr _ => F.run A above s H args us vs Q E hr⟩
section
variable {P : Program} {w : World} {K : PySem.W.Frag} {mg : Str → Option Value} {base : Heap}
/-- a def by its body, where no repr is under way -/
theorem fng_code {x qual : Str} {st : Stmt} {f : Addr} {fd : FuncData} {N ps : List Str} {k : Nat} {sp : Sp} (F : Fun K x qual st f fd)
    (S : FnScope N ps (defScope st)) (many : ∀ vs H Q E, sp vs H Q E → vs.length = ps.length)
    (body : ∀ (cdv : Value), fd.code = cdv → ∀ (A : Around) (above : List Env) (s : Shared) (H : Hp) (vs : List V) (Q : VK) (E : XK),
      Room k (A.deeper (envOfC qual (defScope st) s.heap.objs.size f cdv)) → A.guards = some [] → sp vs H Q E →
      ∃ t, PSs (cxOf CX0 P w K mg base N qual (defScope st) f cdv A above s H E).nox (defBody st) t ∧
        t { nx := fun _ H' => Q .non H', rt := Q } (start N vs) H) : FnG P w K mg base (k + 1) f fd ps sp := by
  obtain ⟨oc, od, kV, doc, pm, an, cdv, ct, osl, rfl, lk, hcd⟩ := F.ex
  constructor
  · exact many
  · intro A above s H args us vs Q E room gd env bt rv hs
    have inK : K.In s.heap := env.mod.kin.keeps fun b o e => (env.bs b o e).1
    have noLim : s.heap.NoLimit := env.mod.nolimit.keeps fun b o e => (env.bs b o e).1
    have kinds : ∀ y ∈ ps.zip us, (defScope st).names.lookup y.1 = some .local ∨
        ((defScope st).names.lookup y.1 = some .cell ∧ ((cellsFrom (s.heap.objs.size + 1) (defScope st).names []).lookup y.1).isSome = true) := by
      rintro ⟨n, v⟩ hy
      cases S.par n (List.of_mem_zip hy).1 with
      | inl q => exact .inl q
      | inr q => exact .inr ⟨q, PySem.W.cellsFrom_some _ _ _ (.inl q)⟩
    refine codeAny_call_function room.depth (inK _ _ lk) rfl S.co S.gen rfl (PySem.W.codeRec_of inK hcd) (bt _ _ _ _ ?_)
    refine wpAny_newFunctionEnv_cells S.kind kinds fun e2 he s2 x => ?_
    subst he
    refine ⟨noLim.keeps x.toInCall.keep, codeAny_func ?_⟩
    obtain ⟨t, ht, hq⟩ := body cdv rfl A above s H vs Q E (room.deeper _) gd hs
    have inv := inv_start (CX := CX0) (E := E) S room.hd env (many _ _ _ _ hs) rv x
    refine wpAny_mono (ht.nox.run [] s2 (start N vs) H _ inv hq) (fun fl s3 h3 => ?_) fun e s3 h3 => h3
    cases fl with
    | ret u =>
      obtain ⟨v, σ3, H3, J, rr, q⟩ := h3
      exact ⟨v, H3, J.os, J.bare, J.base, J.hok, rr, q⟩
    | next =>
      obtain ⟨σ3, H3, J, q⟩ := h3
      exact ⟨.non, H3, J.os, J.bare, J.base, J.hok, rfl, q⟩
    | brk =>
      obtain ⟨_, _, _, z⟩ := h3
      exact False.elim z
    | cont =>
      obtain ⟨_, _, _, z⟩ := h3
      exact False.elim z
theorem fng_of {x qual : Str} {st : Stmt} {f : Addr} {fd : FuncData} {N ps : List Str} {k : Nat} {sp : Sp} (F : Fun K x qual st f fd)
    (S : FnScope N ps (defScope st)) (many : ∀ vs H Q E, sp vs H Q E → vs.length = ps.length)
    (body : ∀ (cdv : Value) (A : Around) (above : List Env) (s : Shared) (H : Hp) (vs : List V) (Q : VK) (E : XK),
      Room k (A.deeper (envOfC qual (defScope st) s.heap.objs.size f cdv)) → A.guards = some [] → sp vs H Q E →
      ∃ t, PSs (cxOf CX0 P w K mg base N qual (defScope st) f cdv A above s H E).nox (defBody st) t ∧
        t { nx := fun _ H' => Q .non H', rt := Q } (start N vs) H) : FnG P w K mg base (k + 1) f fd ps sp :=
  fng_code F S many fun cdv _ => body cdv
end
section
variable {X : Cx}
/-- f(e, ..) of such a def -/
theorem pe_callG {k : Nat} {f : Addr} {fd : FuncData} {ps : List Str} {sp : Sp} {E : XK} {x : Str} {p pos : Pos} {e : Expr} {es : List Expr} {t : TA}
    (F : FnG X.prog X.w X.K X.mg X.base k f fd ps sp) (room : Room k X.A) (gd : X.A.guards = some []) (hg : Gl X x)
    (hm : X.mg x = some (.ref f)) (kp : PySem.W.keepIn X.K (.ref f) = true) (hb : Binds X.K fd ps []) (ha : PA X (e :: es) t)
    (hdb : (x == ("__debug__" : Str)) = false := by decide)
    (he : starEach (e :: es) X.env = (false, eval e X.env) :: starEach es X.env := by rfl)
    (hpl : (backTo pos (starEach es X.env)).any (·.1) = false := by rfl) :
    PE X (.Call (.Name x p) (e :: es) [] pos) (tCall sp [] E t) := by
  constructor
  intro pins s σ H Q I h
  refine wpAny_Call_Name_kw (ld_glob I hg hm ?_ hdb)
  refine PySem.W.callWith_K (h₀ := X.base) I.ok.mod.kin kp (thn (ha.run pos pins s σ H _ I h) fun us s1 d => ?_) he hpl
  obtain ⟨vs, H1, I1, rv, q⟩ := d
  refine ⟨I1.kIn, ?_⟩
  have q : sp vs H1 Q E := by
    have q' : sp (vs ++ []) H1 Q E := q
    rw [List.append_nil] at q'
    exact q'
  have hl : us.length = ps.length := rv.length.symm.trans (F.many _ _ _ _ q)
  have bt := hb s1 us I1.kIn (by rw [List.append_nil]; exact hl)
  rw [List.append_nil] at bt
  refine wpAny_call (codeAny_mono (F.goes X.A X.stack s1 H1 ⟨us, []⟩ us vs Q E room gd I1.env0 bt rv q) fun r s2 h2 => ?_)
  cases r with
  | error e => exact False.elim h2
  | ok fl =>
    cases fl with
    | ret u => exact I1.after h2
    | next => exact False.elim h2
    | brk => exact False.elim h2
    | cont => exact False.elim h2
/-- repr of data, where none is under way -/
def rRepr (K : PySem.W.Frag) : List V → Hp → VK → Prop := fun xs H Q => ∃ (a : Addr) (d : PyData), xs = [.ref a] ∧ Dp K H (.ref a) d ∧
  d.showable = true ∧ d.hasDict = false ∧ d.depth ≤ 32 ∧ d.shown.length ≤ sizeLine ∧ Q (.str d.shown) H
theorem call_repr (gd : X.A.guards = some []) (hu : X.A.units + 64 < cLine) : CallR X (.builtin "repr") (rRepr X.K) := by
  intro pins s σ H xs us Q I r h
  obtain ⟨a, d, rfl, hd, h1, h2, h3, h4, q⟩ := h
  cases r with
  | cons r1 r2 =>
    cases r2
    cases r1
    obtain ⟨as, rd⟩ := Dp.reads I d (.ref a) (.ref a) hd rfl
    exact repr_of_reads' rd h1 (fun z => by rw [h2] at z; cases z) gd (by omega) (fun _ _ e => e)
      (fun h' u tk hk => ⟨.str d.shown, H, I.kept hk, ⟨u, rfl⟩, q⟩) h4
end
/-! ### the law's own call -/
section
variable {P : Program} {w : World} {K : PySem.W.Frag} {mg mb : Str → Option Value}
theorem law_callG {k : Nat} {fa a : Addr} {fd : FuncData} {x : Str} {sp : Sp} {s : Shared} {vs : List Value} {ns : List Int}
    (inK : K.In s.heap) (ns1 : s.heap.Ns mainGlobals mg) (ns2 : s.heap.Ns builtinsNs mb) (blt : ∀ x : Str, x ≠ "__name__" → mb x = bootBuiltins x)
    (noLim : s.heap.NoLimit) (hg : s.gens = #[]) (ha : s.heap.get? a = some { cls := .type "list", data := .seq vs.toArray })
    (hi : IntsAre vs ns) (hl : ns.length ≤ sizeLine) (hr : Room k callerA)
    (F : ∀ base : Heap, K.In base → base.Ns mainGlobals mg → FnG P w K mg base k fa fd [x] sp)
    (bt : ∀ (s : Shared) (u : Value), BindsTo s fd ⟨[u], []⟩ [(x, u)])
    (hsp : ∀ H : Hp, SqL K H a (ns.map V.int) → sp [.ref a] H (fun v _ => v = .bl true) fun _ _ _ => False) :
    codeAny (model P w) callerA (.call (.ref fa) ⟨[.ref a], []⟩)
      (fun r s' => r = .ok (.ret (.bool true)) ∧ OldK s.heap s'.heap ∧ s'.os = s.os ∧ AllBare s'.gens) s := by
  have rv := vals_ints hi
  have lv := hi.length
  have key : ∀ H : Hp, (∀ b u, H b = some u → b = a ∧ K.lookup a = none ∧ u = .frz { cls := .type "list", data := .seq vs.toArray } (.lst (ns.map V.int))) →
      SqL K H a (ns.map V.int) → codeAny (model P w) callerA (.call (.ref fa) ⟨[.ref a], []⟩)
        (fun r s' => r = .ok (.ret (.bool true)) ∧ OldK s.heap s'.heap ∧ s'.os = s.os ∧ AllBare s'.gens) s := by
    intro H only sq
    have ok : HOk P w H s.heap := by
      intro b u e
      obtain ⟨rfl, _, rfl⟩ := only b u e
      exact ⟨ha, by rw [List.length_map]; exact hl, vs, _, rv, ha⟩
    have plain : ∀ {b : Addr} {o : Obj} {es : Array DictEntry} {n : Nat}, s.heap.get? b = some o → o.data = .dict es n → H b = none := by
      intro b o es n e d
      cases q : H b with
      | none => rfl
      | some u =>
        obtain ⟨rfl, _, _⟩ := only b u q
        rw [ha] at e
        cases e
        exact nomatch d
    have names : ∀ {b : Addr} {m : Str → Option Value}, s.heap.Ns b m → (hidT s.heap H).Ns b m := by
      rintro b m ⟨o, es, n, e, d, r⟩
      exact ⟨o, es, n, hidT_get e (plain e d), d, r⟩
    have inB : K.In (hidT s.heap H) := by
      intro b o e
      refine hidT_get (inK b o e) ?_
      cases q : H b with
      | none => rfl
      | some u =>
        obtain ⟨rfl, n, _⟩ := only b u q
        rw [n] at e
        cases e
    obtain ⟨mc, l1, l2⟩ := noLim
    have md : Mod K mg (hidT s.heap H) := ⟨inB, names ns1, ⟨mb, names ns2, blt⟩, ⟨mc, names l1, l2⟩⟩
    have env : Env0 P w K mg (hidT s.heap H) callerA [] s H :=
      ⟨rfl, md, fun b o e => of_hidT e, Nat.le_of_eq (hidT_size _ _), trivial, (fun b hb => by cases hb), ok, .of_eq hg⟩
    have go := (F _ inB (names ns1)).goes callerA [] s H ⟨[.ref a], []⟩ [.ref a] [.ref a] _ _ hr rfl env (bt s (.ref a)) (.cons rfl .nil) (hsp H sq)
    refine codeAny_mono go fun r s2 h2 => ?_
    cases r with
    | error e => exact False.elim h2
    | ok fl =>
      cases fl with
      | next => exact False.elim h2
      | brk => exact False.elim h2
      | cont => exact False.elim h2
      | ret u =>
        obtain ⟨v, H2, os, bare, un, ok2, rr, q⟩ := h2
        obtain rfl : v = V.bl true := q
        obtain rfl : u = Value.bool true := rr
        refine ⟨rfl, OldK.of_keep fun b o e => ?_, os, bare⟩
        cases q : H b with
        | none => exact un.keep b o e q (by intro z; cases z) (by simp)
        | some u =>
          obtain ⟨rfl, _, rfl⟩ := only b u q
          obtain ⟨e1, _⟩ := ok b _ q
          obtain ⟨e2, _⟩ := ok2 b _ (un.frzs b _ _ q)
          rw [e] at e1
          cases e1
          exact e2
  cases hk : K.lookup a with
  | none =>
    refine key (fun b => if b = a then some (.frz { cls := .type "list", data := .seq vs.toArray } (.lst (ns.map V.int))) else none) (fun b u e => ?_) (.inl (.inr ⟨_, if_pos rfl⟩))
    by_cases z : b = a
    · rw [if_pos z] at e
      cases e
      exact ⟨z, hk, rfl⟩
    · rw [if_neg z] at e
      cases e
  | some o =>
    have e := inK a o hk
    rw [ha] at e
    cases e
    refine key (fun _ => none) (fun b u e => by cases e) (.inr ⟨_, vs.toArray, _, hk, rfl, rfl, rfl, ?_, by simpa using rv⟩)
    rw [List.size_toArray, lv]
    exact hl
end
theorem walk_ofG {l : PySem.W.OpenLaw} {n k : Nat} {q : Program} {loose : List Str} {XP : (Str → Option Value) → Heap → Prop} {YP : World → Heap → Prop}
    {d : DefRec} {K : Params → PySem.W.Frag} {sp : World → Sp} {x : Str} (hn : l.most = some n) (hn2 : n ≤ sizeLine) (hdf : d.params.defaults = [])
    (hr : Room k callerA) (hY : ∀ (w : World) (h : Heap), YP w h → (K w.params).In h)
    (F : ∀ (w : World) (mg : Str → Option Value) (fa : Addr) (h : Heap), (K w.params).In h → h.Ns mainGlobals mg → mg d.name = some (.ref fa) →
      ∃ fd : FuncData, (∀ (s : Shared) (u : Value), BindsTo s fd ⟨[u], []⟩ [(x, u)]) ∧
        ∀ base : Heap, (K w.params).In base → base.Ns mainGlobals mg → FnG l.prog w (K w.params) mg base k fa fd [x] (sp w))
    (hsp : ∀ (w : World) (H : Hp) (a : Addr) (ns : List Int), ns.length ≤ n → SqL (K w.params) H a (ns.map V.int) → sp w [.ref a] H (fun v _ => v = .bl true) fun _ _ _ => False) :
    PySem.W.WalkO q loose XP YP l.row.toRowW d [] (fun f vs => PySem.call f vs) := by
  refine Att.attach_call hn hdf fun w s0 s1 mg mb fa o pm cd doc a vs ns G Y h1 h2 h3 h4 h5 h6 h7 h8 => ?_
  obtain ⟨fd, bt, hF⟩ := F w mg fa _ (hY w _ Y) G.T.g h4
  exact law_callG (hY w _ Y) G.T.g G.T.b G.T.builtins G.T.nolimit h8 h5 h6 (Nat.le_trans h7 hn2) hr hF bt (fun H sq => hsp w H a ns h7 sq)
end Ev
namespace Ev
open PySem L2 PySem.Spec PyProof.Rows
theorem walk_ofGE {l : PySem.W.OpenLaw} {n k : Nat} {q : Program} {loose : List Str} {XP : (Str → Option Value) → Heap → Prop} {YP : World → Heap → Prop}
    {d : DefRec} {x : Str} (hn : l.most = some n) (hn2 : n ≤ sizeLine) (hdf : d.params.defaults = []) (hr : Room k callerA)
    (F : ∀ (w : World) (mg : Str → Option Value) (fa : Addr) (h : Heap), YP w h → h.Ns mainGlobals mg → mg d.name = some (.ref fa) →
      ∃ (K : PySem.W.Frag) (fd : FuncData) (sp : Sp), K.In h ∧ (∀ (s : Shared) (u : Value), BindsTo s fd ⟨[u], []⟩ [(x, u)]) ∧
        (∀ (H : Hp) (a : Addr) (ns : List Int), ns.length ≤ n → SqL K H a (ns.map V.int) → sp [.ref a] H (fun v _ => v = .bl true) fun _ _ _ => False) ∧
        ∀ base : Heap, K.In base → base.Ns mainGlobals mg → FnG l.prog w K mg base k fa fd [x] sp) :
    PySem.W.WalkO q loose XP YP l.row.toRowW d [] (fun f vs => PySem.call f vs) := by
  refine Att.attach_call hn hdf fun w s0 s1 mg mb fa o pm cd doc a vs ns G Y h1 h2 h3 h4 h5 h6 h7 h8 => ?_
  obtain ⟨K, fd, sp, inK, bt, hsp, hF⟩ := F w mg fa _ Y G.T.g h4
  exact law_callG inK G.T.g G.T.b G.T.builtins G.T.nolimit h8 h5 h6 (Nat.le_trans h7 hn2) hr hF bt (fun H sq => hsp H a ns h7 sq)
end Ev
namespace Ev
open PySem L2 PySem.Spec PyProof.Rows
/-- an error of the class C with the field n is told -/
def TellE (C : Addr) (n : Str) (v : V) (H : Hp) (E : XK) : Prop := ∀ (d : Addr) (H' : Hp), Same H H' → H d = none → H' d = some (.xd [(n, v)]) → E (.ref C) (some d) H'
def spErrI (C : Addr) (n : Str) : Sp := fun vs H Q _ => ∃ (a : Addr) (v : V) (T : String), vs = [.ref a, v] ∧ Flat v T ∧ H a = some (exo a C none) ∧
  ∀ (d : Addr) (H' : Hp), H d = none → H' a = some (exo a C (some d)) → H' d = some (exd d [(n, v)]) → (∀ b o, b ≠ a → H b = some o → H' b = some o) → Q .non H'
/-- an error class of the package with one field n -/
structure ErrC (P : Program) (w : World) (K : PySem.W.Frag) (mg : Str → Option Value) (base : Heap) (x n : Str) (C : Addr) : Prop where
  cl : OexC K C
  g : mg x = some (.ref C)
  ex : ∃ (f : Addr) (fd : FuncData), PySem.W.findIn K (.ref C) "__init__" = some (some (.ref f)) ∧ PySem.W.typeIn K (.ref f) = some (.type "function") ∧ FnOk P w K mg base CX0 3 f fd ["self", n] (spErrI C n) ∧ Binds K fd ["self", n] []
inductive Out
  | ok
  | rule (m : Str)
  | halves (w : Int)
def OutK (B N : Addr) (H : Hp) (E : XK) (good : Prop) : Out → Prop
  | .ok => good
  | .rule m => ∀ H1, Same H H1 → TellE B "part" (.str m) H1 E
  | .halves w => ∀ H1, Same H H1 → TellE N "weight" (.int w) H1 E
theorem OutK.mono {B N : Addr} {H H2 : Hp} {E : XK} {g g' : Prop} {o : Out} (h : OutK B N H E g o) (k : Same H H2) (f : g → g') : OutK B N H2 E g' o := by
  cases o with
  | ok => exact f h
  | rule m => exact fun H1 s => h H1 (k.trans s)
  | halves w => exact fun H1 s => h H1 (k.trans s)
/-- what the raising of such an error comes to -/
theorem raised {C : Addr} {n : Str} {H : Hp} {v : V} {T : String} {E : XK} (hv : Flat v T) (k : TellE C n v H E) (a' : Addr) (na : H a' = none) :
    spErrI C n [.ref a', v] (upd H a' (exo a' C none)) (fun v' H2 => v' = .non ∧ ∃ (d : Addr) (fs : List (Str × V)), H2 a' = some (exo a' C (some d)) ∧ H2 d = some (exd d fs) ∧ H d = none ∧ E (.ref C) (some d) (upd (del H2 a') d (.xd fs))) (fun _ _ _ => False) := by
  refine ⟨a', v, T, rfl, hv, upd_same, fun d H' nd ha' hd bt => ⟨rfl, d, _, ha', hd, ?_, ?_⟩⟩
  · have dne : d ≠ a' := fun z => by rw [z, upd_same] at nd; cases nd
    rw [upd_ne dne] at nd
    exact nd
  · have dne : d ≠ a' := fun z => by rw [z, upd_same] at nd; cases nd
    rw [upd_ne dne] at nd
    refine k d _ (fun b o e => ?_) nd upd_same
    rw [upd_ne (ne_of_none e nd), del_ne (ne_of_none e na)]
    exact bt b o (ne_of_none e na) (by rw [upd_ne (ne_of_none e na)]; exact e)
section
variable {P : Program} {w : World} {K : PySem.W.Frag} {mg : Str → Option Value} {base : Heap}
theorem scBR : FnScope ["self", "part"] ["self", "part"] (defScope sBRInit) := ⟨rfl, rfl, rfl, by decide +kernel, rfl, by decide +kernel, by decide +kernel⟩
theorem ok_br {f C : Addr} {fd : FuncData} (F : Fun K "__init__" "BadRule.__init__" sBRInit f fd) (T : OexC K C) (no : PySem.W.findIn K (.ref C) "part" = some none) (D : Df P w K mg base 2 "kept" ["value"] spKept) : FnOk P w K mg base CX0 3 f fd ["self", "part"] (spErrI C "part") := by
  obtain ⟨f1, fd1, G1, g1, k1, b1⟩ := D.ex
  refine F.ok scBR (fun vs H Q E h => ?_) (fun cdv A outer s H vs Q E hr h => ?_)
  · obtain ⟨a, v, TT, rfl, _⟩ := h
    rfl
  · obtain ⟨a, v, TT, rfl, fl, ha, kk⟩ := h
    refine ⟨_, pss_one (ps_ost (pv 0) (pe_call G1 hr (by rfl) g1 k1 b1 .nil pass0 (pa_cons (pv 1) pa_nil))), ?_⟩
    refine ⟨_, rfl, v, TT, rfl, fl, fun H1 s1 => ⟨_, rfl, a, C, rfl, T, no, .inl ⟨s1 _ _ ha, fun dx nd dne => ?_⟩⟩⟩
    refine kk dx _ (Same.gone s1 nd) upd_same (by rw [upd_ne dne]; exact upd_same) fun b o nb e => ?_
    rw [upd_ne nb, upd_ne (ne_of_none (s1 _ _ e) nd)]
    exact s1 _ _ e
/-- a def that may raise, under its name -/
structure DfX (P : Program) (w : World) (K : PySem.W.Frag) (mg : Str → Option Value) (base : Heap) (k : Nat) (x : Str) (ps : List Str) (sp : Sp) : Prop where
  ex : ∃ (f : Addr) (fd : FuncData), FnOk P w K mg base (L2.CX P w) k f fd ps sp ∧ mg x = some (.ref f) ∧ PySem.W.keepIn K (.ref f) = true ∧ Binds K fd ps []
end
end Ev
namespace Ev
open PySem L2 PySem.Spec PyProof.Rows
/-! ### repr of a value that holds nothing but scalars -/
def sclr : V → PyData → Bool
  | .non, .none => true
  | .bl a, .bool b => a == b
  | .int a, .int b => decide (a = b)
  | .str a, .str b => a == b
  | _, _ => false
def keyD : Key → PyData
  | .inl i => .int i
  | .inr x => .str x
inductive Vd (K : PySem.W.Frag) (H : Hp) : V → PyData → Prop
  | plain {v : V} {d : PyData} : Dp K H v d → d.hasDict = false → Vd K H v d
  | dct {a : Addr} {kvs : List (Key × V)} {ds : List (PyData × PyData)} : H a = some (.dK kvs) → ds.map (·.1) = kvs.map (fun p => keyD p.1) → Paired (fun v d => sclr v d = true) (kvs.map (·.2)) (ds.map (·.2)) → Vd K H (.ref a) (.dict ds)
theorem reads_sc {h : Heap} {v : V} {d : PyData} {u : Value} (e : sclr v d = true) (r : RelV v u) : Reads h u d [] := by
  cases v <;> cases d <;> first | cases e | skip
  · cases (show u = Value.none from r); exact .none
  · obtain rfl := beq_iff_eq.mp e
    cases (show u = Value.bool _ from r); exact .bool _
  · obtain rfl := of_decide_eq_true e
    obtain ⟨t, q⟩ := (show ∃ t, u = Value.int _ t from r); cases q; exact .int _ _
  · obtain rfl := beq_iff_eq.mp e
    obtain ⟨t, q⟩ := (show ∃ t, u = Value.str _ t from r); cases q; exact .str _ _
theorem reads_scs {h : Heap} : ∀ {vs : List V} {ds : List PyData} {us : List Value}, Paired (fun v d => sclr v d = true) vs ds → Vals vs us → ReadsAll h us ds []
  | _, _, _, .nil, .nil => .nil
  | _, _, _, .cons e t, .cons r q => .cons (as := []) (bs := []) (reads_sc e r) (reads_scs t q)
theorem pair_vals {P : Program} {w : World} : ∀ {es : List DictEntry} {vs : List (Key × Value)}, Pairs (mixKind P w) es vs → es.map (·.val) = vs.map (·.2)
  | _, _, .nil => rfl
  | _, _, .cons h1 h2 t => by
    rw [List.map_cons, List.map_cons, h2, pair_vals t]
theorem reads_keys {P : Program} {w : World} {h : Heap} : ∀ {es : List DictEntry} {kvs : List (Key × V)} {vs : List (Key × Value)}, Pairs (mixKind P w) es vs → KV kvs vs → ReadsAll h (es.map (·.key)) (kvs.map fun p => keyD p.1) []
  | _, _, _, .nil, .nil => .nil
  | _, _, _, .cons h1 h2 t, .cons r q => by
    refine .cons (as := []) (bs := []) ?_ (reads_keys t q)
    dsimp only
    rw [r.1]
    rcases keyIs_shape (show keyIs _ _ = true from h1) with ⟨i, tk, e1, e2⟩ | ⟨x, tk, e1, e2⟩
    · rw [e1, e2]; exact .int _ _
    · rw [e1, e2]; exact .str _ _
theorem vals_snd : ∀ {kvs : List (Key × V)} {vs : List (Key × Value)}, KV kvs vs → Vals (kvs.map (·.2)) (vs.map (·.2))
  | _, _, .nil => .nil
  | _, _, .cons h t => .cons h.2 (vals_snd t)
section
variable {X : Cx}
/-- repr of such a value, where none is under way -/
def rReprV (K : PySem.W.Frag) : List V → Hp → VK → Prop := fun xs H Q => ∃ (v : V) (d : PyData), xs = [v] ∧ Vd K H v d ∧
  d.showable = true ∧ d.depth ≤ 32 ∧ d.shown.length ≤ sizeLine ∧ Q (.str d.shown) H
theorem call_reprV (gd : X.A.guards = some []) (hu : X.A.units + 64 < cLine) : CallR X (.builtin "repr") (rReprV X.K) := by
  intro pins s σ H xs us Q I r h
  obtain ⟨v, d, rfl, hd, h1, h3, h4, q⟩ := h
  obtain ⟨u, rfl, ru⟩ := vals1 r
  have fin : ∀ (h' : Heap) (t : Tok) (tk : Nat), (∀ b o, s.heap.get? b = some o → h'.get? b = some o) → EP X pins σ Q (.str d.shown t) { s with heap := h', toks := tk } := fun h' t tk hk => ⟨.str d.shown, H, I.kept hk, ⟨t, rfl⟩, q⟩
  have byRef : ∀ (a : Addr) (as : List Addr), u = .ref a → Reads s.heap (.ref a) d as → (d.hasDict = true → sysModules ∉ as) → wpAny (model X.prog X.w) X.A (call (.builtin "repr") [u]) (EP X pins σ Q) X.xe s := by
    intro a as eu rd hm
    subst eu
    exact repr_of_reads' rd h1 hm gd (by omega) (fun _ _ e => e) (fun h' t tk hk => fin h' t tk hk) h4
  cases hd with
  | plain dp nd =>
    cases dp with
    | non => cases ru; exact PySem.P.repr_of_none (fin s.heap _ _ fun _ _ e => e)
    | bl b => cases ru; exact PySem.P.repr_of_bool (fin s.heap _ _ fun _ _ e => e)
    | int i => obtain ⟨t, rfl⟩ := ru; exact PySem.P.repr_of_int (of_decide_eq_true h1) (fin s.heap _ _ fun _ _ e => e)
    | str x => obtain ⟨t, rfl⟩ := ru; exact PySem.P.repr_of_str (fin s.heap _ _ fun _ _ e => e) h4
    | lst sq al =>
      cases ru
      obtain ⟨as, rd⟩ := Dp.reads I _ _ _ (.lst sq al) rfl
      exact byRef _ as rfl rd fun z => by rw [nd] at z; cases z
    | tup sq al =>
      cases ru
      obtain ⟨as, rd⟩ := Dp.reads I _ _ _ (.tup sq al) rfl
      exact byRef _ as rfl rd fun z => by rw [nd] at z; cases z
  | @dct a kvs ds e ek ev =>
    cases ru
    obtain ⟨hz, hs0, vs, kv, hdo⟩ := (show ObjOk X.prog X.w H s.heap a (.dK kvs) from I.hok a _ e)
    obtain ⟨ep, ob, es, ho, ex, hdat, hko, hpr, hnd⟩ := hdo.dictAt
    have e1 : ReadsAll s.heap (es.toList.map (·.key)) (ds.map (·.1)) [] := by
      rw [ek]; exact reads_keys hpr kv
    have e2 : ReadsAll s.heap (es.toList.map (·.val)) (ds.map (·.2)) [] := by
      refine reads_scs ev ?_
      have e3 : es.toList.map (·.val) = vs.map (·.2) := pair_vals hpr
      rw [e3]; exact vals_snd kv
    refine byRef a (a :: [] ++ []) rfl (.dict ho ex.1 hdat e1 e2) fun _ z => ?_
    simp at z
    rw [← z] at hs0
    simp at hs0
end
end Ev
namespace Ev
open PySem L2 PySem.Spec PyProof.Rows
/-! An error that was caught stays in a local behind its suite: its object is told of from then on. -/
def Held (cls : Value) (d : Option Addr) (a : Addr) : HO := .ext fun h => ∃ oe : Obj, h.get? a = some oe ∧ Zc cls d oe ∧ ∃ vs : Array Value, oe.data = .fields vs
theorem held_ok {P : Program} {w : World} {H : Hp} {h : Heap} {a : Addr} {cls : Value} {d : Option Addr} {oe : Obj}
    (e : h.get? a = some oe) (z : Zc cls d oe) (f : ∃ vs : Array Value, oe.data = .fields vs) : ObjOk P w H h a (Held cls d a) :=
  ⟨⟨oe, e, z, f⟩, ⟨oe, e⟩, fun _ _ t k => by obtain ⟨o, q, r⟩ := t; exact ⟨o, k _ q, r⟩⟩
section
variable {X : Cx} {pins : List (Addr × Obj)} {σ : L2.St} {H : Hp} {s : Shared} {a : Addr} {cls : Value} {d : Option Addr} {oe : Obj}
theorem inv_hold (I : Inv X pins σ H s) (e : s.heap.get? a = some oe) (z : Zc cls d oe) (f : ∃ vs : Array Value, oe.data = .fields vs) (n : H a = none)
    (n0 : X.s_0.heap.get? a = none) (nL : a ≠ X.env.locals) (np : ∀ p ∈ X.pn ++ pins, p.1 ≠ a) : Inv X pins σ (upd H a (Held cls d a)) s := by
  have other : ∀ {b : Addr} {o : HO}, H b = some o → upd H a (Held cls d a) b = some o := fun {b o} q => by rw [upd_ne (ne_of_none q n)]; exact q
  constructor
  · exact I.ok
  · exact I.os
  · exact I.bare
  · constructor
    · exact I.base.keep
    · exact I.base.slot
    · intro b o q1 q2 q3
      have nb : b ≠ a := fun t => by rw [t, n0] at q1; cases q1
      rw [upd_ne nb]; exact I.base.free b o q1 q2 q3
    · exact I.base.there
    · exact fun b xs q => other (I.base.tups b xs q)
    · exact fun b o u q => other (I.base.frzs b o u q)
    · intro b ps q
      obtain ⟨more, t⟩ := I.base.tbls b ps q
      exact ⟨more, other t⟩
  · exact I.loc
  · exact I.cell
  · rw [upd_ne nL.symm]; exact I.free
  · intro x c q
    have nb : c ≠ a := fun t => by
      obtain ⟨v, o, q1, q2⟩ := I.cell x c q
      obtain ⟨vs, q3⟩ := f
      rw [t, e] at q1; cases q1
      rw [q3] at q2; cases q2
    rw [upd_ne nb]; exact I.freeC x c q
  · intro p hp
    obtain ⟨q1, q2, q3⟩ := I.pin p hp
    exact ⟨q1, by rw [upd_ne (np p hp)]; exact q2, q3⟩
  · intro b o q
    by_cases nb : b = a
    · subst nb
      rw [upd_same] at q
      cases q
      exact held_ok e z f
    · rw [upd_ne nb] at q
      exact (I.hok b o q).stay (fun _ _ _ t => t) (fun _ t => other t) (fun _ _ t => other t)
  · exact I.len
end
/-- what the clause wishes: the suite reads the error in slot i; behind it the error is told of, slot i is empty -/
def wHeld (K : PySem.W.Frag) (c : Value) (i : Nat) (ts : Addr → Value → Option Addr → TS) (Wout : WX) (n : Nat) (D : Ends) : WX := fun cls d σ H => σ.length = n →
  ∃ b, PySem.W.exmOne K cls c = some b ∧ (b = false → Wout cls d σ H) ∧ (b = true → ∀ a, H a = none →
    ts a cls d { nx := fun τ G => G a = none → D.nx (τ.set i none) (upd G a (Held cls d a)), rt := fun v G => D.rt v G, bk := fun τ G => D.bk (τ.set i none) G, ct := fun τ G => D.ct (τ.set i none) G } (σ.set i (some (.ref a))) H)
section
variable {X : Cx} {x n : Str} {c : Value} {i : Nat} {body suite : List Stmt} {b₀ : Stmt} {np pos pos' : Pos} {tb : WX → TS} {ts : Addr → Value → Option Addr → TS} {Wout : WX}
theorem ps_try_held (hs : X.stack = X.env :: X.outer) (hf : X.env.frame = some X.env.locals) (hex : X.ex = []) (hN : X.N.Nodup) (hi : X.N[i]? = some n) (hln : X.env.kindOf n = some .local) (hc : Names X x c) (tk : Takes X Wout)
    (hb : ∀ (W : WX) (pn : List (Addr × Obj)) (xe : Value → Shared → Prop), Takes (X.tr pn xe) W → PSs (X.tr pn xe) body (tb W))
    (hsu : ∀ (a : Addr) (oe : Obj) (cls : Value) (d : Option Addr) (pn : List (Addr × Obj)), Zc cls d oe → (∃ vs, oe.data = .fields vs) → PSs (X.suite a ((a, oe) :: pn)) (b₀ :: suite) (ts a cls d)) :
    PS X (.Try body [.ExceptHandler (some (.Name x np)) (some n) (b₀ :: suite) pos'] [] [] pos) (fun D σ H => tb (wHeld X.K c i ts Wout X.N.length D) D σ H) := by
  constructor
  intro pins s σ H D I h
  have ok := I.ok
  have frames : X.A.frames = some (X.env :: X.outer) := by rw [ok.frames, hs]
  have isLoc : Loc X.env.scope n := .inl hln
  let hands : List ExceptHandler := [.ExceptHandler (some (.Name x np)) (some n) (b₀ :: suite) pos']
  let land : Value → Shared → Prop := fun e s1 => wpAny (model X.prog X.w) X.A (noteFrame e X.env) (fun _ s2 => wpAny (model X.prog X.w) X.A (setFlight e none)
    (fun _ s3 => wpAny (model X.prog X.w) X.A (handleBy e X.env hands) (SP X pins D) X.xe s3) X.xe s2) X.xe s1
  have caught : Takes (X.tr (X.pn ++ pins) land) (wHeld X.K c i ts Wout X.N.length D) := by
    rintro u s' ⟨a, B, sI, pins', σ', H', cls, d, rfl, J', nb, up, sky, na, os, ag, wish⟩
    obtain ⟨b, hb1, hno, hyes⟩ := wish J'.len
    have J : Inv X pins σ' H' sI := J'.ofTry ok
    have sky2 : Sky B (X.env :: X.outer) a (Zc cls d) X.env.locals s'.heap := by rw [← hs]; exact sky
    refine Sky.land Zc.steady frames hf sky2 fun h3 fl3 up3 => ?_
    have J3 : Inv X pins σ' H' { s' with heap := h3 } := J.landed nb fl3.1 (up.trans up3) os ag
    obtain ⟨oe3, vs3, he3, hz3, hd3⟩ := fl3.there
    have nfr : a ∉ frs (X.env :: X.outer) := by
      intro hm
      obtain ⟨_, o2, e2, nf⟩ := fl3.2.2.1.mem hm
      rw [he3] at e2; cases e2
      exact nf _ hd3
    have nfr2 : a ∉ frs X.stack := by rw [hs]; exact nfr
    have nL : a ≠ X.env.locals := fun z => nfr (List.mem_filterMap.mpr ⟨_, List.mem_cons_self, by rw [hf, z]⟩)
    have nF : a ∉ X.fs := by
      intro hm
      obtain ⟨e, he, q⟩ := List.mem_filterMap.mp hm
      exact nfr (List.mem_filterMap.mpr ⟨e, List.mem_cons_of_mem _ he, q⟩)
    have nI : sI.heap.get? a = none := by
      cases q : sI.heap.get? a with
      | none => rfl
      | some o =>
        have z := nb a o q nfr2
        rw [fl3.2.1] at z; cases z
    have n0 : X.s_0.heap.get? a = none := by
      cases q : X.s_0.heap.get? a with
      | none => rfl
      | some o =>
        obtain ⟨o2, z⟩ := J.base.there a o q (by rw [hex]; simp)
        rw [nI] at z; cases z
    have npin : ∀ p ∈ X.pn ++ pins, p.1 ≠ a := fun p hp z => by
      have q := (J.pin p hp).1
      rw [z, nI] at q; cases q
    have S3 := J3.suite he3 hd3 na nL nF
    refine wpAny_handleBy_cons (codeAny_handlers_test ?_) (fun q => nomatch q)
    have LT : PySem.W.Looks (model X.prog X.w) h3 (typeOf (.ref a)) cls := by
      intro A Q E s k q
      exact wpAny_typeOf_ref (k _ _ he3) (by rw [hz3.1]; exact q)
    have LM := PySem.W.exm_one (M := model X.prog X.w) J3.kIn LT hb1
    have named : ∀ {Q E : Value → Shared → Prop}, Q c { s' with heap := h3 } → wpAny (model X.prog X.w) (X.A.mark (some (.ref a))) (eval (.Name x np) X.env) Q E { s' with heap := h3 } := by
      intro Q E q
      obtain ⟨g1, g2, g3⟩ := hc
      rcases g3 with m | ⟨m, v, nn⟩
      · exact ld_glob (X := X.suite a ((a, oe3) :: (X.pn ++ pins))) S3 g1 m q g2
      · exact ld_blt (X := X.suite a ((a, oe3) :: (X.pn ++ pins))) S3 g1 m v q nn g2
    refine named (LM.here ?_)
    cases b with
    | false =>
      refine wpAny_handleBy_nil (e := .ref a) (env := X.env) ?_
      obtain ⟨k1, k2, k3, oe, vs, T, oT, ts', he, hz, hd, h1, hr⟩ := id fl3
      unfold PySem.passOn
      refine wpAny_bind (wpAny_field he hd h1 ?_)
      rw [if_neg (by simp : ¬ ((Value.ref T == Value.none) = true))]
      have on : wpAny (model X.prog X.w) X.A (setFlight (.ref a) X.env.frame) (fun _ s4 => wpAny (model X.prog X.w) X.A (throw (.ref a) : Sem Flow) (SP X pins D) X.xe s4) X.xe { s' with heap := h3 } := by
        rw [hf]
        refine HandSPX.setFlight_upZ fl3 fun h4 hh4 up4 => ?_
        refine wpAny_throw (tk _ _ ⟨a, B, sI, pins, σ', H', cls, d, rfl, J, nb, (up.trans up3).trans up4, ?_, na, os, ag, hno rfl⟩)
        rw [hs]; exact .inr (.inr hh4)
      first
        | exact wpAny_bind (wpAny_pure (wpAny_bind on))
        | exact wpAny_bind on
    | true =>
      refine codeAny_handlers_suite_as (HandSPX.lands_againZ fl3 fun h4 fl4 up4 => ?_)
      have J4 : Inv X pins σ' H' { s' with heap := h4 } := J.landed nb fl4.1 ((up.trans up3).trans up4) os ag
      obtain ⟨oe4, vs4, he4, hz4, hd4⟩ := fl4.there
      refine store_ok (X := X.suite a ((a, oe4) :: (X.pn ++ pins))) (v := .ref a) (J4.suite he4 hd4 na nL nF) hN hi isLoc rfl (fun s5 S5 => ?_) (.inr hln)
      have suite := (hsu a oe4 cls d (X.pn ++ pins) hz4 ⟨_, hd4⟩).run [] s5 _ H' _ S5 (hyes rfl a na)
      refine wpAny_mono suite (fun f s6 hsp => ?_) (fun _ _ z => False.elim z)
      have gone : ∀ {τ : L2.St} {G : Hp} {Q : Shared → Prop}, Inv X pins τ G s6 → (∀ s7, Inv X pins (τ.set i none) G s7 → Q s7) →
          wpAny (model X.prog X.w) X.A (do bindName X.env n .none; unbindBehindTheSuite X.env n pos') (fun _ s7 => Q s7) X.xe s6 := by
        intro τ G Q S6 hq
        exact gone_ok S6 hN hi hln hq
      cases f with
      | next =>
        obtain ⟨τ, G, S6, q6⟩ := hsp
        obtain ⟨p1, p2, _⟩ := S6.pin (a, oe4) (List.mem_append_left _ List.mem_cons_self)
        exact gone (inv_hold (S6.unsuite ok) p1 hz4 ⟨_, hd4⟩ p2 n0 nL npin) fun s7 J7 => ⟨_, _, J7, q6 p2⟩
      | brk =>
        obtain ⟨τ, G, S6, q6⟩ := hsp
        exact gone (S6.unsuite ok) fun s7 J7 => ⟨_, _, J7, q6⟩
      | cont =>
        obtain ⟨τ, G, S6, q6⟩ := hsp
        exact gone (S6.unsuite ok) fun s7 J7 => ⟨_, _, J7, q6⟩
      | ret u =>
        obtain ⟨v, τ, G, S6, r6, q6⟩ := hsp
        exact gone (S6.unsuite ok) fun s7 J7 => ⟨_, _, _, J7, r6, q6⟩
  refine wpAny_Try_except (wpAny_mono ((hb _ (X.pn ++ pins) land caught).run [] s σ H D (I.toTry _) h) (fun f s1 hsp => ?_) (fun e s1 he => he))
  cases f with
  | next =>
    obtain ⟨τ, G, J, q⟩ := hsp
    exact wpAny_execs_nil ⟨τ, G, J.ofTry ok, q⟩
  | brk =>
    obtain ⟨τ, G, J, q⟩ := hsp
    exact ⟨τ, G, J.ofTry ok, q⟩
  | cont =>
    obtain ⟨τ, G, J, q⟩ := hsp
    exact ⟨τ, G, J.ofTry ok, q⟩
  | ret u =>
    obtain ⟨v, τ, G, J, r, q⟩ := hsp
    exact ⟨v, τ, G, J.ofTry ok, r, q⟩
end
/-- what the class of such an error says -/
structure HeldC (K : PySem.W.Frag) (C : Addr) : Prop where
  cl : (PySem.W.clsIn K C).isSome = true
  ga : PySem.W.findIn K (.ref C) "__getattribute__" = some (some (.builtin "BaseException.__getattribute__"))
  gg : PySem.W.findIn K (.ref C) "__getattr__" = some none
  ex : PySem.W.subIn K (.ref C) (.type "BaseException") = some true
  hd : PySem.W.hasDictIn K C = true
  ca : PySem.W.findIn K (.ref C) "__class__" = some (some (.builtin "object.__class__"))
  sp : PySem.W.specialIn K (.builtin "object.__class__") "__get__" = some (some (.builtin "getset_descriptor.__get__"))
  tk : PySem.W.takesIn K (.builtin "object.__class__") = some true
  mo : PySem.W.mroIn K C (.type "object") = some true
section
variable {X : Cx}
theorem held_at {pins : List (Addr × Obj)} {σ : L2.St} {H : Hp} {s : Shared} {a : Addr} {cls : Value} {d : Option Addr} (I : Inv X pins σ H s) (e : H a = some (Held cls d a)) :
    ∃ oe : Obj, s.heap.get? a = some oe ∧ Zc cls d oe ∧ ∃ vs : Array Value, oe.data = .fields vs := by
  have x : ObjOk X.prog X.w H s.heap a (.ext fun h => ∃ oe : Obj, h.get? a = some oe ∧ Zc cls d oe ∧ ∃ vs : Array Value, oe.data = .fields vs) := I.hok a _ e
  exact x.1
theorem held_inst {pins : List (Addr × Obj)} {σ : L2.St} {H : Hp} {s : Shared} {a C dd : Addr} {fs : List (Str × V)} (I : Inv X pins σ H s) (e : H a = some (Held (.ref C) (some dd) a)) (ed : H dd = some (.xd fs)) :
    ∃ (oe od : Obj) (mA : Str → Option Value), PySem.W.InstAt s.heap a oe C (some od) ∧ (∀ f, RelO (fs.lookup f) (mA f)) ∧ ∀ n, PySem.W.lookIn n od = some (mA n) := by
  obtain ⟨oe, he, hz, vs, hd⟩ := held_at I e
  obtain ⟨mA, hns, hr⟩ := (show ObjOk X.prog X.w H s.heap dd (.xd fs) from I.hok dd _ ed)
  obtain ⟨od, ho, hl⟩ := lookIn_ns hns
  exact ⟨oe, od, mA, ⟨he, hz.1, by unfold PySem.W.notCls; rw [hd] <;> rfl, by rw [hz.2]; exact ho⟩, hr, hl⟩
/-- isinstance(e, c), e such an error -/
def rIsHeld (K : PySem.W.Frag) : List V → Hp → VK → Prop := fun xs H Q => ∃ (a C dd : Addr) (fs : List (Str × V)) (c : V) (u : Value) (b : Bool),
  xs = [.ref a, c] ∧ H a = some (Held (.ref C) (some dd) a) ∧ H dd = some (.xd fs) ∧ HeldC K C ∧ ClsV c u ∧ PySem.W.kitOne K (.ref C) u = some b ∧ Q (.bl b) H
theorem call_isHeld : CallR X (.builtin "isinstance") (rIsHeld X.K) := by
  intro pins s σ H xs us Q I r h
  obtain ⟨a, C, dd, fs, c, u, b, rfl, ea, ed, T, k, e, q⟩ := h
  obtain ⟨u1, u2, rfl, r1, r2⟩ := vals2 r
  have e2 := k.eq r2
  subst e2
  cases r1
  obtain ⟨oe, od, mA, J, _, _⟩ := held_inst I ea ed
  exact PySem.W.kia_one (PySem.W.kitx_exc T.cl T.ga T.gg T.ex T.ca T.sp T.tk T.mo) I.kIn J e (fun z => nomatch z) fun tk => ⟨.bl b, H, I.tok tk, rfl, q⟩
/-- e.n, e such an error -/
def tHeldFld (K : PySem.W.Frag) (n : Str) (te : TE) : TE := fun σ H Q => te σ H fun x H1 => ∃ (a C dd : Addr) (fs : List (Str × V)) (v : V),
  x = .ref a ∧ H1 a = some (Held (.ref C) (some dd) a) ∧ H1 dd = some (.xd fs) ∧ HeldC K C ∧ PySem.W.findIn K (.ref C) n = some none ∧ fs.lookup n = some v ∧ Q v H1
theorem pe_heldFld {e : Expr} {te : TE} {pos : Pos} {n : Str} (he : PE X e te) (hb : attributeBase e n X.env (eval e X.env) = eval e X.env := by rfl) : PE X (.Attribute e n pos) (tHeldFld X.K n te) := by
  constructor
  intro pins s σ H Q I h
  refine attr_of hb (thn (he.run pins s σ H _ I h) fun u s1 hh => ?_)
  obtain ⟨x, H1, I1, rx, a, C, dd, fs, v, rfl, ea, ed, T, hno, l, q⟩ := hh
  obtain rfl : u = Value.ref a := rx
  obtain ⟨oe, od, mA, J, hr, hl⟩ := held_inst I1 ea ed
  obtain ⟨u, hu, ru⟩ := RelO.some_of (v := v) (o := mA n) (by rw [← l]; exact hr n)
  exact HandSPX.exc_get I1.kIn J T.ga T.gg T.ex (PySem.W.findObj_own T.hd hno rfl (by rw [hl, hu])) (handed_of ru) ⟨v, H1, I1.tok _, ru, q⟩
end
end Ev
namespace Ev
open PySem L2 PySem.Spec PyProof.Rows LamX
/-! The law's own call, where the law makes lambdas: the table of its code object is told of. -/
section
variable {P : Program} {w : World} {K : PySem.W.Frag} {mg mb : Str → Option Value}
theorem law_callT {k : Nat} {fa a c T : Addr} {fd : FuncData} {x : Str} {sp : Sp} {s : Shared} {vs : List Value} {ns : List Int}
    (inK : K.In s.heap) (ns1 : s.heap.Ns mainGlobals mg) (ns2 : s.heap.Ns builtinsNs mb) (blt : ∀ x : Str, x ≠ "__name__" → mb x = bootBuiltins x)
    (noLim : s.heap.NoLimit) (hg : s.gens = #[]) (hT : s.heap.get? T = some { cls := .none, data := .fields #[] }) (nT : K.lookup T = none) (hc : PySem.W.CodeHd s.heap c T)
    (hbm : ∃ (bm : Addr) (ob : Obj), mg "__builtins__" = some (.ref bm) ∧ bm ≠ builtinsNs ∧ s.heap.get? bm = some ob ∧ ob.cls = .type "module" ∧ ob.dict = some builtinsNs ∧ ob.data = .plain)
    (ha : s.heap.get? a = some { cls := .type "list", data := .seq vs.toArray }) (hi : IntsAre vs ns) (hl : ns.length ≤ sizeLine) (hr : Room k callerA)
    (F : ∀ base : Heap, K.In base → base.Ns mainGlobals mg → TabB base mg c T → FnG P w K mg base k fa fd [x] sp)
    (bt : ∀ (s : Shared) (u : Value), BindsTo s fd ⟨[u], []⟩ [(x, u)])
    (hsp : ∀ H : Hp, H T = some (.tbl #[]) → SqL K H a (ns.map V.int) → sp [.ref a] H (fun v _ => v = .bl true) fun _ _ _ => False) :
    codeAny (model P w) callerA (.call (.ref fa) ⟨[.ref a], []⟩)
      (fun r s' => r = .ok (.ret (.bool true)) ∧ OldK s.heap s'.heap ∧ s'.os = s.os ∧ AllBare s'.gens) s := by
  have rv := vals_ints hi
  have lv := hi.length
  have aT : a ≠ T := fun z => by
    rw [z, hT] at ha
    cases ha
  have key : ∀ H : Hp, H T = some (.tbl #[]) → (∀ b u, H b = some u → b ≠ T → b = a ∧ K.lookup a = none ∧ u = .frz { cls := .type "list", data := .seq vs.toArray } (.lst (ns.map V.int))) →
      SqL K H a (ns.map V.int) → codeAny (model P w) callerA (.call (.ref fa) ⟨[.ref a], []⟩)
        (fun r s' => r = .ok (.ret (.bool true)) ∧ OldK s.heap s'.heap ∧ s'.os = s.os ∧ AllBare s'.gens) s := by
    intro H eT only sq
    have ok : HOk P w H s.heap := by
      intro b u e
      by_cases zb : b = T
      · subst zb
        rw [eT] at e
        cases e
        exact hT
      · obtain ⟨rfl, _, rfl⟩ := only b u e zb
        exact ⟨ha, by rw [List.length_map]; exact hl, vs, _, rv, ha⟩
    have plain : ∀ {b : Addr} {o : Obj}, s.heap.get? b = some o → (∀ vs n, o.data ≠ .seq vs n) → o.data ≠ .fields #[] → H b = none := by
      intro b o e d1 d2
      cases q : H b with
      | none => rfl
      | some u =>
        by_cases zb : b = T
        · subst zb
          rw [hT] at e
          cases e
          exact absurd rfl d2
        · obtain ⟨rfl, _, _⟩ := only b u q zb
          rw [ha] at e
          cases e
          exact absurd rfl (d1 _ _)
    have names : ∀ {b : Addr} {m : Str → Option Value}, s.heap.Ns b m → (hidT s.heap H).Ns b m := by
      rintro b m ⟨o, es, n, e, d, r⟩
      exact ⟨o, es, n, hidT_get e (plain e (fun _ _ z => by rw [d] at z; cases z) fun z => by rw [d] at z; cases z), d, r⟩
    have inB : K.In (hidT s.heap H) := by
      intro b o e
      refine hidT_get (inK b o e) ?_
      cases q : H b with
      | none => rfl
      | some u =>
        by_cases zb : b = T
        · rw [zb, nT] at e
          cases e
        · obtain ⟨rfl, n, _⟩ := only b u q zb
          rw [n] at e
          cases e
    have tb : TabB (hidT s.heap H) mg c T := by
      obtain ⟨bm, ob, b1, b2, b3, b4, b5, b6⟩ := hbm
      refine ⟨?_, ⟨bm, ob, b1, b2, fun q => ?_, fun q => ?_, hidT_get b3 (plain b3 (fun _ _ z => by rw [b6] at z; cases z) fun z => by rw [b6] at z; cases z), b4, b5, b6⟩, fun z => ?_⟩
      · obtain ⟨o, us, file, tf, flags, tg, inF, text, tt, e1, r1, r2, r3, rest⟩ := hc
        refine ⟨o, us, file, tf, flags, tg, inF, text, tt, hidT_get e1 (plain e1 (fun _ _ z => by rw [r2] at z; cases z) fun z => ?_), r1, r2, r3, rest⟩
        rw [r2] at z
        cases z
        simp at r3
      · obtain ⟨o, es, n, e, d, _⟩ := ns1
        rw [q, e] at b3
        cases b3
        rw [d] at b6
        cases b6
      · rw [q, hT] at b3
        cases b3
        cases b6
      · obtain ⟨o, es, n, e, d, _⟩ := ns1
        rw [z, hT] at e
        cases e
        cases d
    obtain ⟨mc, l1, l2⟩ := noLim
    have md : Mod K mg (hidT s.heap H) := ⟨inB, names ns1, ⟨mb, names ns2, blt⟩, ⟨mc, names l1, l2⟩⟩
    have env : Env0 P w K mg (hidT s.heap H) callerA [] s H :=
      ⟨rfl, md, fun b o e => of_hidT e, Nat.le_of_eq (hidT_size _ _), trivial, (fun b hb => by cases hb), ok, .of_eq hg⟩
    have go := (F _ inB (names ns1) tb).goes callerA [] s H ⟨[.ref a], []⟩ [.ref a] [.ref a] _ _ hr rfl env (bt s (.ref a)) (.cons rfl .nil) (hsp H eT sq)
    refine codeAny_mono go fun r s2 h2 => ?_
    cases r with
    | error e => exact False.elim h2
    | ok fl =>
      cases fl with
      | next => exact False.elim h2
      | brk => exact False.elim h2
      | cont => exact False.elim h2
      | ret u =>
        obtain ⟨v, H2, os, bare, un, ok2, rr, q⟩ := h2
        obtain rfl : v = V.bl true := q
        obtain rfl : u = Value.bool true := rr
        have others : ∀ b o, b ≠ T → s.heap.get? b = some o → s2.heap.get? b = some o := by
          intro b o nb e
          cases q : H b with
          | none => exact un.keep b o e q (by intro z; cases z) (by simp)
          | some u =>
            obtain ⟨rfl, _, rfl⟩ := only b u q nb
            obtain ⟨e1, _⟩ := ok b _ q
            obtain ⟨e2, _⟩ := ok2 b _ (un.frzs b _ _ q)
            rw [e] at e1
            cases e1
            exact e2
        obtain ⟨more, eM⟩ := un.tbls T #[] eT
        have grown : s2.heap.get? T = some { cls := .none, data := .fields (#[] ++ more) } := ok2 T _ eM
        refine ⟨rfl, ⟨fun b o e => ?_, fun b o e => ?_⟩, os, bare⟩
        · by_cases nb : b = T
          · subst nb
            rw [hT] at e
            cases e
            exact .inr (.inl ⟨(hc.tab hT).isCodeTable, rfl, #[], more, rfl, grown⟩)
          · exact .inl (others b o nb e)
        · by_cases nb : b = T
          · subst nb
            exact ⟨_, grown⟩
          · exact ⟨o, others b o nb e⟩
  cases hk : K.lookup a with
  | none =>
    refine key (fun b => if b = T then some (.tbl #[]) else if b = a then some (.frz { cls := .type "list", data := .seq vs.toArray } (.lst (ns.map V.int))) else none) (if_pos rfl) (fun b u e nb => ?_)
      (.inl (.inr ⟨_, (if_neg aT).trans (if_pos rfl)⟩))
    rw [if_neg nb] at e
    by_cases z : b = a
    · rw [if_pos z] at e
      cases e
      exact ⟨z, hk, rfl⟩
    · rw [if_neg z] at e
      cases e
  | some o =>
    have e := inK a o hk
    rw [ha] at e
    cases e
    refine key (fun b => if b = T then some (.tbl #[]) else none) (if_pos rfl) (fun b u e nb => by rw [if_neg nb] at e; cases e) (.inr ⟨_, vs.toArray, _, hk, rfl, rfl, rfl, ?_, by simpa using rv⟩)
    rw [List.size_toArray, lv]
    exact hl
end
/-- the law's call, the table of another def's code object told -/
theorem walk_ofGT {l : PySem.W.OpenLaw} {n k : Nat} {q : Program} {loose : List Str} {XP : (Str → Option Value) → Heap → Prop} {YP : World → Heap → Prop}
    {d : DefRec} {x xr : Str} (hn : l.most = some n) (hn2 : n ≤ sizeLine) (hdf : d.params.defaults = []) (hr : Room k callerA) (hrec : ((recsOf q).any fun e => e.name == xr) = true)
    (F : ∀ (w : World) (mg : Str → Option Value) (fa : Addr) (h : Heap), YP w h → h.Ns mainGlobals mg → mg d.name = some (.ref fa) →
      ∃ (K : PySem.W.Frag) (fd fdr : FuncData) (sp : Sp) (fr c T : Addr) (o : Obj), K.In h ∧ (∀ (s : Shared) (u : Value), BindsTo s fd ⟨[u], []⟩ [(x, u)]) ∧
        mg xr = some (.ref fr) ∧ K.lookup fr = some o ∧ o.data = .func fdr ∧ fdr.code = .ref c ∧ PySem.W.codeHdIn K c T = true ∧ K.lookup T = none ∧
        (∀ (H : Hp) (a : Addr) (ns : List Int), ns.length ≤ n → H T = some (.tbl #[]) → SqL K H a (ns.map V.int) → sp [.ref a] H (fun v _ => v = .bl true) fun _ _ _ => False) ∧
        ∀ base : Heap, K.In base → base.Ns mainGlobals mg → TabB base mg c T → FnG l.prog w K mg base k fa fd [x] sp) :
    PySem.W.WalkO q loose XP YP l.row.toRowW d [] (fun f vs => PySem.call f vs) := by
  refine Att.attach_callB hn hdf fun w s0 s1 mg mb fa o pm cd doc a vs ns G Y h1 h2 h3 h4 h5 h6 h7 hbits h8 => ?_
  obtain ⟨K, fd, fdr, sp, fr, c, T, o1, inK, bt, k0, k1, k2, k3, kc, kT, hsp, hF⟩ := F w mg fa _ Y G.T.g h4
  have hc := PySem.W.codeHd_of_K inK kc
  have hT : s1.heap.get? T = some { cls := .none, data := .fields #[] } := by
    obtain ⟨dL, hm, e1⟩ := List.any_eq_true.mp hrec
    obtain ⟨a2, o2, fd2, c2, P2, g1, g2, g3, g4, g5, g6⟩ := G.T.tab dL hm
    rw [beq_iff_eq.mp e1, k0] at g1
    cases g1
    rw [inK _ _ k1] at g2
    cases g2
    rw [k2] at g3
    cases g3
    rw [k3] at g4
    cases g4
    obtain ⟨⟨oc, vc, e1, _, e3, e4⟩, hP⟩ := g6
    obtain ⟨oc', vs', file, tf, flags, tg, inF, text, tt, f1, f2, f3, f4, _⟩ := id hc
    rw [f1] at e1
    cases e1
    rw [f3] at e3
    cases e3
    rw [f4] at e4
    cases e4
    exact hP
  exact law_callT inK G.T.g G.T.b G.T.builtins G.T.nolimit h8 hT kT hc G.T.bmain h5 h6 (Nat.le_trans h7 hn2) hr hF bt (fun H eT sq => hsp H a ns h7 eT sq)
end Ev
namespace Ev
open PySem L2 PySem.Spec PyProof.Rows
/-- the five fields of a fill rule made of any two parts and two numbers -/
def widV (c j : Int) : Int := if c > j then c else j
def fillV (tv kv : V) (c j : Int) : List (Str × V) := [("times", tv), ("plus", kv), ("cut_of", .int c), ("join_of", .int j), ("width", .int (widV c j))]
theorem lk_hit {k : Str} {v : V} {l : List (Str × V)} : List.lookup k ((k, v) :: l) = some v := by simp [List.lookup]
theorem lk_miss {k k' : Str} {v : V} {l : List (Str × V)} (h : ¬ k = k') : List.lookup k ((k', v) :: l) = List.lookup k l := by
  have : (k == k') = false := by simpa using h
  simp [List.lookup, this]
theorem put_new {k : Str} {v : V} : ∀ {l : List (Str × V)}, (∀ e ∈ l, ¬ e.1 = k) → putF k v l = l ++ [(k, v)]
  | [], _ => rfl
  | (k', v') :: l, h => by
    show (if k' = k then _ else _) = _
    rw [if_neg (h _ List.mem_cons_self)]
    show (k', v') :: putF k v l = _
    rw [put_new (fun e he => h e (List.mem_cons_of_mem _ he))]
    rfl
theorem pf1 {a : V} : putF "times" a [] = ([("times", a)] : List (Str × V)) := rfl
theorem pf2 {a b : V} : putF "plus" b ([("times", a)] : List (Str × V)) = ([("times", a), ("plus", b)] : List (Str × V)) := put_new (by intro e0 he; simp only [List.mem_cons, List.not_mem_nil, or_false] at he; subst he; dsimp only; decide +kernel)
theorem pf3 {a b c : V} : putF "cut_of" c ([("times", a), ("plus", b)] : List (Str × V)) = ([("times", a), ("plus", b), ("cut_of", c)] : List (Str × V)) := put_new (by intro e0 he; simp only [List.mem_cons, List.not_mem_nil, or_false] at he; rcases he with rfl | rfl <;> (dsimp only; decide +kernel))
theorem pf4 {a b c d : V} : putF "join_of" d ([("times", a), ("plus", b), ("cut_of", c)] : List (Str × V)) = ([("times", a), ("plus", b), ("cut_of", c), ("join_of", d)] : List (Str × V)) := put_new (by intro e0 he; simp only [List.mem_cons, List.not_mem_nil, or_false] at he; rcases he with rfl | rfl | rfl <;> (dsimp only; decide +kernel))
theorem pf5 {a b c d e : V} : putF "width" e ([("times", a), ("plus", b), ("cut_of", c), ("join_of", d)] : List (Str × V)) = ([("times", a), ("plus", b), ("cut_of", c), ("join_of", d), ("width", e)] : List (Str × V)) := put_new (by intro e0 he; simp only [List.mem_cons, List.not_mem_nil, or_false] at he; rcases he with rfl | rfl | rfl | rfl <;> (dsimp only; decide +kernel))
/-- the class of fill rules -/
structure FCls (K : PySem.W.Frag) (C : Addr) : Prop where
  cl : Cls K C
  n1 : NoAttr K C "times"
  n2 : NoAttr K C "plus"
  n3 : NoAttr K C "cut_of"
  n4 : NoAttr K C "join_of"
  n5 : NoAttr K C "width"
def parts4 : List V := [.str "times", .str "plus", .str "cut_of", .str "join_of"]
/-- the tables PARTS and BOUNDS -/
structure TabF (K : PySem.W.Frag) (w : World) (mg : Str → Option Value) (TP D D1 D2 D3 : Addr) : Prop where
  gP : mg "PARTS" = some (.ref TP)
  tP : ∀ H : Hp, SqT K H TP parts4
  gB : mg "BOUNDS" = some (.ref D)
  kd : ∃ es n, KDict K w D es n
  l1 : PySem.W.nsIn K D "plus" = some (some (.ref D1))
  l2 : PySem.W.nsIn K D "cut_of" = some (some (.ref D2))
  l3 : PySem.W.nsIn K D "join_of" = some (some (.ref D3))
  t1 : ∀ H : Hp, SqT K H D1 [.int (-12), .int 12]
  t2 : ∀ H : Hp, SqT K H D2 [.int 1, .int 5]
  t3 : ∀ H : Hp, SqT K H D3 [.int 2, .int 6]
def partS (j : Nat) : Str := if j = 1 then "times" else if j = 2 then "plus" else if j = 3 then "cut_of" else "join_of"
/-- whether a value can be a part -/
def canB (j : Nat) (v : V) (o : Option (List V)) : Bool := if j = 1 then pairB 12 o else if j = 2 then inB (-12) 12 v else if j = 3 then inB 1 5 v else inB 2 6 v
def CanQ (j : Nat) (H : Hp) (v : V) (o : Option (List V)) : Prop := if j = 1 then PairQ H v o else IntQ H v
theorem CanQ.keep {j : Nat} {H H' : Hp} {v : V} {o : Option (List V)} (h : CanQ j H v o) (k : Same H H') : CanQ j H' v o := by
  unfold CanQ at h ⊢
  split
  · rw [if_pos (by assumption)] at h; exact PairQ.keep h k
  · rw [if_neg (by assumption)] at h; exact IntQ.keep h k
def spCan : Sp := fun vs H Q _ => ∃ (j : Nat) (v : V) (o : Option (List V)), vs = [.str (partS j), v] ∧ 1 ≤ j ∧ j ≤ 4 ∧ CanQ j H v o ∧ ∀ H', Same H H' → Q (.bl (canB j v o)) H'
section
variable {P : Program} {w : World} {K : PySem.W.Frag} {mg : Str → Option Value} {base : Heap}
theorem scCanBe : FnScope ["part", "value", "low", "high"] ["part", "value"] (defScope sCanBe) := ⟨rfl, rfl, rfl, by decide +kernel, rfl, by decide +kernel, by decide +kernel⟩
theorem ok_canBe {f TP D Da Db Dc : Addr} {fd : FuncData} (F : Fun K "can_be" "can_be" sCanBe f fd) (B : TabF K w mg TP D Da Db Dc) {t : Tok} (gM : mg "MOST_TIMES" = some (.int 12 t)) (D1 : Df P w K mg base 3 "is_pair" ["value", "most"] spPairA) (D2 : Df P w K mg base 2 "is_within" ["value", "least", "most"] spWithinA) : FnOk P w K mg base CX0 4 f fd ["part", "value"] spCan := by
  obtain ⟨f1, fd1, G1, g1, k1, b1⟩ := D1.ex
  obtain ⟨f2, fd2, G2, g2, k2, b2⟩ := D2.ex
  obtain ⟨es, n, kd⟩ := B.kd
  refine F.ok scCanBe (fun vs H Q E h => ?_) (fun cdv A outer s H vs Q E hr h => ?_)
  · obtain ⟨j, v, o, rfl, _⟩ := h
    rfl
  · obtain ⟨j, v, o, rfl, j1, j4, hv, kk⟩ := h
    refine ⟨_, (pss_cons (ps_if (pt_cmpR op_eq (pv 0) pe_str (nomark _))
        (pss_one (ps_ret (pe_call G1 hr (by rfl) g1 k1 b1 .nil pass0 (pa_cons (pv 1) (pa_cons (pe_glob (v := .int 12) rfl gM ⟨_, rfl⟩) pa_nil))))) pss_nil)
      (pss_cons (ps_asg (pe_ix ix_kdict (pe_glob (v := .ref D) (by rfl) B.gB rfl) (pv 0) (fun _ _ => rfl)) (pg_tup (by rfl) (pgs_cons (pg_name (i := 2) scCanBe.nd rfl (.inl rfl)) (pgs_cons (pg_name (i := 3) scCanBe.nd rfl (.inl rfl)) pgs_nil))))
      (pss_one (ps_ret (pe_call G2 (hr.mono (by decide)) (by rfl) g2 k2 b2 .nil pass0 (pa_cons (pv 1) (pa_cons (pv 2) (pa_cons (pv 3) pa_nil)))))))), ?_⟩
    refine ⟨_, rfl, rfl, _, rfl, ?_⟩
    rcases (show j = 1 ∨ j = 2 ∨ j = 3 ∨ j = 4 by omega) with rfl | rfl | rfl | rfl
    · rw [show decide (V.str (partS 1) = V.str "times") = true from decide_eq_true rfl]
      exact iteT ⟨_, rfl, v, _, _, rfl, hv, fun H' s1 => kk H' s1⟩
    · rw [show decide (V.str (partS 2) = V.str "times") = false from decide_eq_false fun z => absurd (V.str.inj z) (by decide +kernel)]
      refine iteF ⟨_, rfl, D, "plus", .ref Da, rfl, rfl, ⟨es, n, .ref Da, kd.at_, kd.lit, B.l1, rfl⟩, Da, _, rfl, B.t1 _, rfl, _, _, rfl, _, _, rfl, rfl, ?_⟩
      refine ⟨_, rfl, _, rfl, _, rfl, v, _, _, rfl, hv, ?_⟩
      exact kk _ (Same.refl _)
    · rw [show decide (V.str (partS 3) = V.str "times") = false from decide_eq_false fun z => absurd (V.str.inj z) (by decide +kernel)]
      refine iteF ⟨_, rfl, D, "cut_of", .ref Db, rfl, rfl, ⟨es, n, .ref Db, kd.at_, kd.lit, B.l2, rfl⟩, Db, _, rfl, B.t2 _, rfl, _, _, rfl, _, _, rfl, rfl, ?_⟩
      refine ⟨_, rfl, _, rfl, _, rfl, v, _, _, rfl, hv, ?_⟩
      exact kk _ (Same.refl _)
    · rw [show decide (V.str (partS 4) = V.str "times") = false from decide_eq_false fun z => absurd (V.str.inj z) (by decide +kernel)]
      refine iteF ⟨_, rfl, D, "join_of", .ref Dc, rfl, rfl, ⟨es, n, .ref Dc, kd.at_, kd.lit, B.l3, rfl⟩, Dc, _, rfl, B.t3 _, rfl, _, _, rfl, _, _, rfl, rfl, ?_⟩
      refine ⟨_, rfl, _, rfl, _, rfl, v, _, _, rfl, hv, ?_⟩
      exact kk _ (Same.refl _)
end
end Ev
namespace Ev
open PySem L2 PySem.Spec PyProof.Rows RZ
/-- which part of a fill rule is told first -/
def outF (o : Option (List V)) (kv cv jv : V) : Out := if pairB 12 o = false then .rule "times" else if inB (-12) 12 kv = false then .rule "plus" else if inB 1 5 cv = false then .rule "cut_of" else if inB 2 6 jv = false then .rule "join_of" else .ok
def valF (tv kv cv jv : V) (j : Nat) : V := if j = 1 then tv else if j = 2 then kv else if j = 3 then cv else jv
theorem outF_at {o : Option (List V)} {tv kv cv jv : V} {j : Nat} (j1 : 1 ≤ j) (j4 : j ≤ 4) (h : ∀ i, 1 ≤ i → i < j → canB i (valF tv kv cv jv i) o = true) (n : canB j (valF tv kv cv jv j) o = false) : outF o kv cv jv = .rule (partS j) := by
  unfold outF
  rcases (show j = 1 ∨ j = 2 ∨ j = 3 ∨ j = 4 by omega) with rfl | rfl | rfl | rfl
  · have n : pairB 12 o = false := n
    rw [if_pos n]; rfl
  · have h1 : pairB 12 o = true := h 1 (by decide) (by decide)
    have n : inB (-12) 12 kv = false := n
    rw [if_neg (by rw [h1]; simp), if_pos n]; rfl
  · have h1 : pairB 12 o = true := h 1 (by decide) (by decide)
    have h2 : inB (-12) 12 kv = true := h 2 (by decide) (by decide)
    have n : inB 1 5 cv = false := n
    rw [if_neg (by rw [h1]; simp), if_neg (by rw [h2]; simp), if_pos n]; rfl
  · have h1 : pairB 12 o = true := h 1 (by decide) (by decide)
    have h2 : inB (-12) 12 kv = true := h 2 (by decide) (by decide)
    have h3 : inB 1 5 cv = true := h 3 (by decide) (by decide)
    have n : inB 2 6 jv = false := n
    rw [if_neg (by rw [h1]; simp), if_neg (by rw [h2]; simp), if_neg (by rw [h3]; simp), if_pos n]; rfl
theorem outF_ok {o : Option (List V)} {tv kv cv jv : V} (h : ∀ i, 1 ≤ i → i ≤ 4 → canB i (valF tv kv cv jv i) o = true) : outF o kv cv jv = .ok ∧ (∃ c, cv = .int c) ∧ ∃ j, jv = .int j := by
  have h1 : pairB 12 o = true := h 1 (by decide) (by decide)
  have h2 : inB (-12) 12 kv = true := h 2 (by decide) (by decide)
  have h3 : inB 1 5 cv = true := h 3 (by decide) (by decide)
  have h4 : inB 2 6 jv = true := h 4 (by decide) (by decide)
  refine ⟨?_, ?_, ?_⟩
  · unfold outF
    rw [if_neg (by rw [h1]; simp), if_neg (by rw [h2]; simp), if_neg (by rw [h3]; simp), if_neg (by rw [h4]; simp)]
  · cases cv <;> first | exact ⟨_, rfl⟩ | (simp [inB] at h3)
  · cases jv <;> first | exact ⟨_, rfl⟩ | (simp [inB] at h4)
def spFillInit (C B N : Addr) : Sp := fun vs H Q E => ∃ (x dx : Addr) (tv kv cv jv : V) (o : Option (List V)), vs = [.ref x, tv, kv, cv, jv] ∧ H x = some (.ins C dx []) ∧ PairQ H tv o ∧ IntQ H kv ∧ IntQ H cv ∧ IntQ H jv ∧
  OutK B N H E (∀ c j, cv = .int c → jv = .int j → ∀ H', But x H H' → H' x = some (.ins C dx (fillV tv kv c j)) → Q .non H') (outF o kv cv jv)
section
variable {P : Program} {w : World} {K : PySem.W.Frag} {mg : Str → Option Value} {base : Heap}
theorem scFillRule_init : FnScope ["self", "times", "plus", "cut_of", "join_of", "part", "value"] ["self", "times", "plus", "cut_of", "join_of"] (defScope sFillRule_init) := ⟨rfl, rfl, rfl, by decide +kernel, rfl, by decide +kernel, by decide +kernel⟩
theorem ok_fillInit {f C B N TP D Da Db Dc : Addr} {fd : FuncData} {dvs : List V} {kws : List (Str × V)} (F : FunD K "__init__" "FillRule.__init__" (defArgs sFillRule_init) (defBody sFillRule_init) (defScope sFillRule_init) dvs kws f fd) (T : FCls K C) (mz : mg "zip" = none) (BT : TabF K w mg TP D Da Db Dc) (D1 : Df P w K mg base 4 "can_be" ["part", "value"] spCan) (EB : ErrC P w K mg base "BadRule" "part" B) : FnOk P w K mg base (L2.CX P w) 5 f fd ["self", "times", "plus", "cut_of", "join_of"] (spFillInit C B N) := by
  obtain ⟨f1, fd1, G1, g1, k1, b1⟩ := D1.ex
  obtain ⟨TC, gC, fi, fdi, iC, tI, GI, bI⟩ := id EB
  refine F.ok scFillRule_init (fun vs H Q E h => ?_) (fun cdv A outer s H vs Q E hr h => ?_)
  · obtain ⟨x, dx, tv, kv, cv, jv, o, rfl, _⟩ := h
    rfl
  · obtain ⟨x, dx, tv, kv, cv, jv, o, rfl, hx, hp, hk, hc, hj, h⟩ := h
    refine ⟨_, (pss_cons (ps_for (passes_of rfl) rfl (pi_zipA (by rfl) mz (pa_cons (pe_glob (v := .ref TP) rfl BT.gP rfl) (pa_cons (pe_tup (pa_cons (pv 1) (pa_cons (pv 2) (pa_cons (pv 3) (pa_cons (pv 4) pa_nil))))) pa_nil))) (pg_tup (by rfl) (pgs_cons (pg_name (i := 5) scFillRule_init.nd rfl (.inl rfl)) (pgs_cons (pg_name (i := 6) scFillRule_init.nd rfl (.inl rfl)) pgs_nil)))
        (pss_one (ps_if (pt_not (pt_val (pe_call G1 hr (by rfl) g1 k1 b1 .nil pass0 (pa_cons (pv 5) (pa_cons (pv 6) pa_nil)))))
          (pss_one (ps_raise rfl (takes_of rfl rfl rfl rfl) (pmk_oex TC iC tI GI (hr.mono (by decide)) bI .nil pass0 (by rfl) gC (pa_cons (pv 5) pa_nil)))) pss_nil)))
      (pss_cons (ps_fld (pv 0) (pv 1) rfl)
      (pss_cons (ps_fld (pv 0) (pv 2) rfl)
      (pss_cons (ps_fld (pv 0) (pv 3) rfl)
      (pss_cons (ps_fld (pv 0) (pv 4) rfl)
      (pss_one (ps_fld (pv 0) (pe_ifExp (pt_cmpR op_gt (pv 3) (pv 4) (nomark _)) (pv 3) (pv 4)) rfl))))))), ?_⟩
    refine ⟨_, rfl, _, rfl, _, rfl, _, rfl, (by show 4 ≤ sizeLine; decide), fun t nt => ⟨TP, t, parts4, [tv, kv, cv, jv], rfl, .inr ⟨BT.tP _, SqT.of upd_same, ?_⟩⟩⟩
    have s1 : Same H (upd H t (.tup [tv, kv, cv, jv])) := same_new nt
    have ht : upd H t (.tup [tv, kv, cv, jv]) t = some (.tup [tv, kv, cv, jv]) := upd_same
    generalize upd H t (.tup [tv, kv, cv, jv]) = H1 at s1 ht ⊢
    refine for_zipT (xs := parts4) (ys := [tv, kv, cv, jv]) rfl (fun m σ H' => (∃ v5 v6 : Option V, σ = [some (.ref x), some tv, some kv, some cv, some jv, v5, v6]) ∧ Same H1 H' ∧ ∀ i, 1 ≤ i → i ≤ m → canB i (valF tv kv cv jv i) o = true) ⟨⟨_, _, rfl⟩, Same.refl _, fun i a b => absurd (Nat.le_trans a b) (by decide)⟩ (fun i σ H' h => ⟨BT.tP _, SqT.of (h.2.1 _ _ ht)⟩) (fun i xv yv Tp σ H' ex ey h nT => ?_) (fun σ H' h => ?_)
    · obtain ⟨⟨v5, v6, rfl⟩, s2, ok⟩ := h
      have s3 : Same H1 (upd H' Tp (.tup [xv, yv])) := s2.trans (same_new nT)
      have hT : upd H' Tp (.tup [xv, yv]) Tp = some (.tup [xv, yv]) := upd_same
      generalize upd H' Tp (.tup [xv, yv]) = H2 at s3 hT ⊢
      have s03 : Same H H2 := s1.trans s3
      have hil : i < 4 := (List.getElem?_eq_some_iff.mp ex).1
      have hq : xv = .str (partS (i + 1)) ∧ yv = valF tv kv cv jv (i + 1) ∧ CanQ (i + 1) H2 yv o := by
        rcases (show i = 0 ∨ i = 1 ∨ i = 2 ∨ i = 3 by omega) with rfl | rfl | rfl | rfl
        · obtain rfl := Option.some.inj ex; obtain rfl := Option.some.inj ey
          exact ⟨rfl, rfl, hp.keep s03⟩
        · obtain rfl := Option.some.inj ex; obtain rfl := Option.some.inj ey
          exact ⟨rfl, rfl, hk.keep s03⟩
        · obtain rfl := Option.some.inj ex; obtain rfl := Option.some.inj ey
          exact ⟨rfl, rfl, hc.keep s03⟩
        · obtain rfl := Option.some.inj ex; obtain rfl := Option.some.inj ey
          exact ⟨rfl, rfl, hj.keep s03⟩
      obtain ⟨rfl, rfl, hq⟩ := hq
      refine ⟨Tp, _, rfl, SqT.of hT, rfl, _, _, rfl, _, _, rfl, rfl, ?_⟩
      refine ⟨_, rfl, _, rfl, i + 1, _, o, rfl, by omega, by omega, hq, fun H3 s4 => ⟨_, rfl, ?_⟩⟩
      cases z : canB (i + 1) (valF tv kv cv jv (i + 1)) o with
      | false =>
        rw [outF_at (by omega) (by omega) (fun m a b => ok m a (by omega)) z] at h
        exact iteT ⟨_, rfl, (by show 1 ≤ 1000; decide), fun a' na => raised (flat_str _) (h H3 (s03.trans s4)) a' na⟩
      | true =>
        refine iteF ⟨⟨_, _, rfl⟩, s3.trans s4, fun m a b => ?_⟩
        by_cases e : m = i + 1
        · rw [e]; exact z
        · exact ok m a (by omega)
    · obtain ⟨⟨v5, v6, rfl⟩, s2, ok⟩ := h
      obtain ⟨ho, ⟨c, rfl⟩, j, rfl⟩ := outF_ok ok
      rw [ho] at h
      have kk := fun H' => h c j rfl rfl H'
      have s3 := s1.trans s2
      refine ⟨_, rfl, _, rfl, x, C, dx, _, rfl, s3 _ _ hx, T.cl, T.n1, (by show 0 < 1000; decide), ?_⟩
      refine ⟨_, rfl, _, rfl, x, C, dx, _, rfl, upd_same, T.cl, T.n2, (by rw [pf1]; show 1 < 1000; decide), ?_⟩
      refine ⟨_, rfl, _, rfl, x, C, dx, _, rfl, upd_same, T.cl, T.n3, (by rw [pf1, pf2]; show 2 < 1000; decide), ?_⟩
      refine ⟨_, rfl, _, rfl, x, C, dx, _, rfl, upd_same, T.cl, T.n4, (by rw [pf1, pf2, pf3]; show 3 < 1000; decide), ?_⟩
      rw [pf1, pf2, pf3, pf4]
      have t4 : ∀ o1 o2 o3 o4 : HO, But x H (upd (upd (upd (upd H' x o1) x o2) x o3) x o4) := fun o1 o2 o3 o4 => (Same.but s3).trans (But.upd_at.trans (But.upd_at.trans (But.upd_at.trans But.upd_at)))
      refine ⟨_, rfl, _, rfl, _, _, rfl, rfl, _, rfl, ite2 (fun e => ?_) (fun e => ?_)⟩
      · have e := of_decide_eq_true e
        refine ⟨_, rfl, _, rfl, x, C, dx, _, rfl, upd_same, T.cl, T.n5, (by show 4 < 1000; decide), kk _ ((t4 _ _ _ _).trans But.upd_at) ?_⟩
        rw [upd_same, pf5]
        unfold fillV widV
        rw [if_pos e]
      · have e : ¬ (c > j) := fun z => e (decide_eq_true z)
        refine ⟨_, rfl, _, rfl, x, C, dx, _, rfl, upd_same, T.cl, T.n5, (by show 4 < 1000; decide), kk _ ((t4 _ _ _ _).trans But.upd_at) ?_⟩
        rw [upd_same, pf5]
        unfold fillV widV
        rw [if_neg e]
end
end Ev
namespace Ev
open PySem L2 PySem.Spec PyProof.Rows RZ
/-! ### list(d.values()) -/
def tListVals (te : TE) : TE := fun σ H Q => te σ H fun x H1 => ∃ (d : Addr) (kvs : List (Key × V)), x = .ref d ∧ H1 d = some (.dK kvs) ∧ ∀ p, H1 p = none → Q (.ref p) (upd H1 p (.lst (kvs.map (·.2))))
section
variable {X : Cx} {e : Expr} {te : TE} {p apos cpos pos : Pos}
theorem pe_listVals (hc : X.calm = true) (he : PE X e te) (hg : Gl X "list") (hm : X.mg "list" = none) (hv : bootBuiltins "list" = some (.type "list")) (hbase : attributeBase e "values" X.env (eval e X.env) = eval e X.env := by rfl) (hline : (apos.endLine == cpos.line) = true := by rfl)
    (hs : starEach [.Call (.Attribute e "values" apos) [] [] cpos] X.env = (false, eval (.Call (.Attribute e "values" apos) [] [] cpos) X.env) :: starEach [] X.env := by rfl) :
    PE X (.Call (.Name "list" p) [.Call (.Attribute e "values" apos) [] [] cpos] [] pos) (tListVals te) := by
  constructor
  intro pins s σ H Q I hq
  refine wpAny_Call_Name_kw (ld_blt I hg hm hv ?_)
  refine PyProof.Rows.callWith_type1 ?_ hs rfl
  rw [hs]
  show wpAny _ _ (spliced ((false, eval (.Call (.Attribute e "values" apos) [] [] cpos) X.env) :: backTo pos (starEach [] X.env))) _ _ s
  refine Calls.spliced_cons ?_
  refine wpAny_Call_method (T := "dict") (id := "dict.values") hbase rfl hline F.plainAttrs_dict F.slot_dict_values F.type_dict_values (thn (he.run pins s σ H _ I hq) fun u s1 hh => ?_)
  obtain ⟨x, H1, I1, rx, d, kvs, rfl, hd, q⟩ := hh
  obtain rfl : u = Value.ref d := rx
  obtain ⟨hz, hs0, vs, kv, hdo⟩ := I1.hok d _ hd
  obtain ⟨ep, hat⟩ := hdo.dictAt
  have lk : kvs.length = vs.length := Paired.length kv
  refine ⟨hdo.typeIs, hdo.mapOf.noDict, ?_⟩
  show wpAny _ _ (callWith cpos (.builtin "dict.values") [.ref d] [] []) _ X.xe s1
  refine method_meetsIn F.slot_dict_values F.entry_dict_values rfl (PySem.evalArgs_none ⟨rfl, hdo.typeIs, F.args_dict_values_1 _, _, meets_dict_values (mixKind X.prog X.w) d hs0, ⟨vs, hdo⟩, ?_⟩)
  refine Calls.spliced_nil ?_
  have I2 : Inv X pins σ H1 { s1 with heap := s1.heap.push { cls := .type "dict_values", data := .fields #[.ref d] } } := I1.kept (t' := s1.toks) fun b ob q => Heap.get?_push_of_some _ q
  refine PySem.W.kdl_call (PySem.W.kdl_values (knd := mixKind X.prog X.w) (kvs := vs) (ep := ep)) (I1.ok.hd hc) ⟨⟨_, Heap.get?_push_size _ rfl, rfl, rfl⟩, hat.push _⟩ (by omega) fun h' tk acc c' hk hD hacc => ?_
  have e2 : acc.toList = vs.map (·.2) := PySem.W.kdl_vals_eq acc.toList (by rw [Array.length_toList]; exact hacc.1) fun j v e => hacc.2 j v (by rw [← Array.getElem?_toList]; exact e)
  refine ⟨.ref _, upd H1 _ (.lst (kvs.map (·.2))), I2.laid (t' := tk) hk (Nat.le_refl _) (show ObjOk X.prog X.w _ _ _ (.lst (kvs.map (·.2))) from ⟨by rw [List.length_map]; exact hz, acc.toList, c', by rw [e2]; exact vals_snd kv, by rw [Array.toArray_toList]; exact hD⟩), rfl, q _ (I2.hok.fresh (Nat.le_refl _))⟩
end
/-! ### what stands in a value -/
def AllFlat (us : List V) : Prop := ∀ u ∈ us, ∃ T, Flat u T
inductive Hold (H : Hp) : V → List V → Bool → Prop
  | flat {v : V} {T : String} : Flat v T → Hold H v [] false
  | tup {a : Addr} {us : List V} : H a = some (.tup us) → AllFlat us → us.length ≤ 900 → Hold H (.ref a) us false
  | lst {a : Addr} {us : List V} : H a = some (.lst us) → AllFlat us → us.length ≤ 900 → Hold H (.ref a) us true
  | dct {a : Addr} {kvs : List (Key × V)} : H a = some (.dK kvs) → AllFlat (kvs.map (·.2)) → kvs.length ≤ 900 → (kvs.map (·.1)).Nodup → Hold H (.ref a) (kvs.map (·.2)) true
/-- the copy of a value -/
inductive Alike (H : Hp) : V → Hp → V → Prop
  | same {v : V} {H' : Hp} : Alike H v H' v
  | lst {a b : Addr} {us : List V} {H' : Hp} : H a = some (.lst us) → H' b = some (.lst us) → Alike H (.ref a) H' (.ref b)
  | dct {a b : Addr} {kvs : List (Key × V)} {H' : Hp} : H a = some (.dK kvs) → H' b = some (.dK kvs) → Alike H (.ref a) H' (.ref b)
theorem Hold.keep {H H' : Hp} {v : V} {us : List V} {b : Bool} (h : Hold H v us b) (k : Same H H') : Hold H' v us b := by
  cases h with
  | flat f => exact .flat f
  | tup e a l => exact .tup (k _ _ e) a l
  | lst e a l => exact .lst (k _ _ e) a l
  | dct e a l n => exact .dct (k _ _ e) a l n
theorem Hold.len {H : Hp} {v : V} {us : List V} {b : Bool} (h : Hold H v us b) : us.length ≤ 900 := by
  cases h with
  | flat f => exact Nat.zero_le _
  | tup e a l => exact l
  | lst e a l => exact l
  | dct e a l n => rw [List.length_map]; exact l
theorem Hold.items {H : Hp} {v : V} {us : List V} {b : Bool} (h : Hold H v us b) : AllFlat us := by
  cases h with
  | flat f => exact fun u z => by cases z
  | tup e a l => exact a
  | lst e a l => exact a
  | dct e a l n => exact a
theorem Hold.ty {H : Hp} {v : V} {us : List V} {b : Bool} (h : Hold H v us b) : ∃ T : String, (∀ (K : PySem.W.Frag) (H' : Hp), Same H H' → TyX K H' v (.type T)) ∧ ∃ b1 b2 b3, kitB T "list" = some b1 ∧ kitB T "tuple" = some b2 ∧ kitB T "dict" = some b3 ∧ b = (b1 || b3) := by
  cases h with
  | @flat v T f => exact ⟨T, fun K H' _ => f.ty K H', false, false, false, f.l, f.t, f.d, rfl⟩
  | tup e a l => exact ⟨"tuple", fun K H' k => .base (.tup (k _ _ e)), false, true, false, by decide +kernel, by decide +kernel, by decide +kernel, rfl⟩
  | lst e a l => exact ⟨"list", fun K H' k => .base (.lst (k _ _ e)), true, false, false, by decide +kernel, by decide +kernel, by decide +kernel, rfl⟩
  | dct e a l n => exact ⟨"dict", fun K H' k => .base (.dK (k _ _ e)), false, false, true, by decide +kernel, by decide +kernel, by decide +kernel, rfl⟩
theorem kit_any2 {K : PySem.W.Frag} {T a b : String} {r1 r2 : Bool} (h1 : kitB T a = some r1) (h2 : kitB T b = some r2) : PySem.W.kitAny K (.type T) [.type a, .type b] = some (r1 || r2) := by
  refine kitAny_cons (kit_ty h1) (fun e => ?_) (fun e => by rw [e]; rfl)
  refine kitAny_cons (kit_ty h2) (fun e2 => ?_) (fun e2 => by rw [e, e2]; rfl)
  rw [e, e2]
  exact kitAny_nil
def spPartsV : Sp := fun vs H Q _ => ∃ (v : V) (us : List V) (b : Bool), vs = [v] ∧ Hold H v us b ∧ ∀ (p : Addr) (H' : Hp), H p = none → Same H H' → H' p = some (.lst us) → Q (.ref p) H'
def spRebuilt : Sp := fun vs H Q _ => ∃ (v : V) (us : List V) (p : Addr), vs = [v, .ref p] ∧ Hold H v us true ∧ H p = some (.lst us) ∧ ∀ (v' : V) (H' : Hp), Same H H' → Alike H v H' v' → Q v' H'
def spKeptV : Sp := fun vs H Q _ => ∃ (v : V) (us : List V) (b : Bool), vs = [v] ∧ Hold H v us b ∧ ∀ (v' : V) (H' : Hp), Same H H' → Alike H v H' v' → Q v' H'
section
variable {P : Program} {w : World} {K : PySem.W.Frag} {mg : Str → Option Value} {base : Heap}
theorem ok_partsV {f : Addr} {fd : FuncData} (F : Fun K "parts_of" "parts_of" sParts f fd) (T : Blt mg) (md : mg "dict" = none) : FnOk P w K mg base CX0 1 f fd ["value"] spPartsV := by
  refine F.ok scParts (fun vs H Q E h => ?_) (fun cdv A outer s H vs Q E hr h => ?_)
  · obtain ⟨v, us, b, rfl, _⟩ := h
    rfl
  · obtain ⟨v, us, b, rfl, hh, kk⟩ := h
    refine ⟨_, pss_cons (ps_if (pt_val (pe_callB call_isiT (by rfl) T.isi (by decide +kernel) (pa_cons (pv 0) (pa_cons (pe_tup (pa_cons (pe_bltn (v := .ty "list") (by rfl) T.list (by decide +kernel) rfl) (pa_cons (pe_bltn (v := .ty "tuple") (by rfl) T.tuple (by decide +kernel) rfl) pa_nil))) pa_nil))))
        (pss_one (ps_ret (pe_callTy call_list_of (by rfl) T.list (by decide +kernel) (pa_cons (pv 0) pa_nil)))) pss_nil)
      (pss_one (ps_ret (pe_ifExp (pt_val (pe_callB call_isi (by rfl) T.isi (by decide +kernel) (pa_cons (pv 0) (pa_cons (pe_bltn (v := .ty "dict") (by rfl) md (by decide +kernel) rfl) pa_nil)))) (pe_listVals rfl (pv 0) (by rfl) T.list (by decide +kernel)) (pe_lst pa_nil)))), ?_⟩
    have fin : ∀ (tp p : Addr) (ntp : H tp = none) (np : upd H tp (.tup [.ty "list", .ty "tuple"]) p = none), Q (.ref p) (upd (upd H tp (.tup [.ty "list", .ty "tuple"])) p (.lst us)) := fun tp p ntp np =>
      kk p _ (Same.gone (same_new ntp) np) ((same_new ntp).trans (same_new np)) upd_same
    cases hh with
    | @flat v TT f =>
      refine ⟨_, rfl, (by show 2 ≤ sizeLine; decide), fun tp ntp => ⟨_, tp, _, _, _, false, rfl, upd_same, .cons (.ty _) (.cons (.ty _) .nil), f.ty _ _, kit_any2 f.l f.t, _, rfl, iteF ?_⟩⟩
      exact ⟨_, rfl, _, _, _, _, false, rfl, .ty _, f.ty _ _, kit_ty f.d, _, rfl, iteF ⟨(by show 0 ≤ sizeLine; decide), fun p np => fin tp p ntp np⟩⟩
    | tup e a l =>
      refine ⟨_, rfl, (by show 2 ≤ sizeLine; decide), fun tp ntp => ⟨_, tp, _, _, _, true, rfl, upd_same, .cons (.ty _) (.cons (.ty _) .nil), .base (.tup (same_new ntp _ _ e)), kit_any2 (r1 := false) (r2 := true) (by decide +kernel) (by decide +kernel), _, rfl, iteT ?_⟩⟩
      exact ⟨_, rfl, _, _, rfl, .inr (SqT.of (same_new ntp _ _ e)), fun p np => fin tp p ntp np⟩
    | lst e a l =>
      refine ⟨_, rfl, (by show 2 ≤ sizeLine; decide), fun tp ntp => ⟨_, tp, _, _, _, true, rfl, upd_same, .cons (.ty _) (.cons (.ty _) .nil), .base (.lst (same_new ntp _ _ e)), kit_any2 (r1 := true) (r2 := false) (by decide +kernel) (by decide +kernel), _, rfl, iteT ?_⟩⟩
      exact ⟨_, rfl, _, _, rfl, .inl (SqL.of (same_new ntp _ _ e)), fun p np => fin tp p ntp np⟩
    | dct e a l n =>
      refine ⟨_, rfl, (by show 2 ≤ sizeLine; decide), fun tp ntp => ⟨_, tp, _, _, _, false, rfl, upd_same, .cons (.ty _) (.cons (.ty _) .nil), .base (.dK (same_new ntp _ _ e)), kit_any2 (r1 := false) (r2 := false) (by decide +kernel) (by decide +kernel), _, rfl, iteF ?_⟩⟩
      exact ⟨_, rfl, _, _, _, _, true, rfl, .ty _, .base (.dK (same_new ntp _ _ e)), kit_ty (by decide +kernel), _, rfl, iteT ⟨_, rfl, _, _, rfl, same_new ntp _ _ e, fun p np => fin tp p ntp np⟩⟩
theorem putK_take {kvs : List (Key × V)} (n : (kvs.map (·.1)).Nodup) {i : Nat} {k : Key} {z : V} (e : kvs[i]? = some (k, z)) : putK (kvs.take i) k z = kvs.take (i + 1) := by
  have hi : i < kvs.length := (List.getElem?_eq_some_iff.mp e).1
  have ei : kvs[i] = (k, z) := (List.getElem?_eq_some_iff.mp e).2
  have new : ((kvs.take i).any fun kv => decide (kv.1 = k)) = false := by
    rw [List.any_eq_false]
    intro p hp hq
    obtain ⟨j, hj, ej⟩ := List.mem_take_iff_getElem.mp hp
    have hq : p.1 = k := of_decide_eq_true hq
    have h1 : (kvs.map (·.1))[j]'(by rw [List.length_map]; omega) = k := by rw [List.getElem_map, ej, hq]
    have h2 : (kvs.map (·.1))[i]'(by rw [List.length_map]; omega) = k := by rw [List.getElem_map, ei]
    have h3 := (List.getElem_inj n).mp (h1.trans h2.symm)
    omega
  unfold putK
  rw [new, if_neg (by decide), List.take_add_one, e]
  rfl
theorem scRebuilt : FnScope ["value", "parts", "key", "part"] ["value", "parts"] (defScope sRebuilt) := ⟨rfl, rfl, rfl, by decide +kernel, rfl, by decide +kernel, by decide +kernel⟩
theorem ok_rebuilt {f : Addr} {fd : FuncData} (F : Fun K "rebuilt" "rebuilt" sRebuilt f fd) (T : Blt mg) (md : mg "dict" = none) (mz : mg "zip" = none) : FnOk P w K mg base CX0 1 f fd ["value", "parts"] spRebuilt := by
  refine F.ok scRebuilt (fun vs H Q E h => ?_) (fun cdv A outer s H vs Q E hr h => ?_)
  · obtain ⟨v, us, p, rfl, _⟩ := h
    rfl
  · obtain ⟨v, us, p, rfl, hh, hp, kk⟩ := h
    refine ⟨_, pss_cons (ps_if (pt_val (pe_callB call_isi (by rfl) T.isi (by decide +kernel) (pa_cons (pv 0) (pa_cons (pe_bltn (v := .ty "dict") (by rfl) md (by decide +kernel) rfl) pa_nil))))
        (pss_one (ps_ret (pe_dc (g := gTup K 2 (gCons (gName 2) (gCons (gName 3) gNil))) (tt := tYes) (tk := tVar 2) (tv := tVar 3) (own := [("key", 2), ("part", 3)]) rfl scRebuilt.nd (pi_zip (by rfl) mz (pa_cons (pe_callTy (call_list_dK rfl) (by rfl) T.list (by decide +kernel) (pa_cons (pv 0) pa_nil)) (pa_cons (pv 1) pa_nil)))
          (blkOk_by (own := [("key", 2), ("part", 3)]) (N := ["value", "parts", "key", "part"]) (sc := defScope sRebuilt) (by decide +kernel))
          (fun _ _ _ _ _ => pg_tup (by rfl) (pgs_cons (pg_name (i := 2) scRebuilt.nd rfl (.inl rfl)) (pgs_cons (pg_name (i := 3) scRebuilt.nd rfl (.inl rfl)) pgs_nil))) (fun _ _ _ _ _ => pts_nil) (fun _ _ _ _ _ => pv 2) (fun _ _ _ _ _ => pv 3)))) pss_nil)
      (pss_one (ps_ret (pe_ifExp (pt_val (pe_callB call_isi (by rfl) T.isi (by decide +kernel) (pa_cons (pv 0) (pa_cons (pe_bltn (v := .ty "tuple") (by rfl) T.tuple (by decide +kernel) rfl) pa_nil)))) pe_never (pv 1)))), ?_⟩
    generalize eb : true = bb at hh
    cases hh with
    | flat f => cases eb
    | tup e a l => cases eb
    | lst e a l =>
      refine ⟨_, rfl, _, _, _, _, false, rfl, .ty _, .base (.lst e), kit_ty (by decide +kernel), _, rfl, iteF ?_⟩
      refine ⟨_, rfl, _, _, _, _, false, rfl, .ty _, .base (.lst e), kit_ty (by decide +kernel), _, rfl, iteF ⟨_, rfl, ?_⟩⟩
      exact kk _ H (Same.refl H) (.lst e hp)
    | @dct a kvs e al l n =>
      refine ⟨_, rfl, _, _, _, _, true, rfl, .ty _, .base (.dK e), kit_ty (by decide +kernel), _, rfl, iteT ?_⟩
      refine ⟨_, rfl, a, kvs, rfl, e, fun q nq => ⟨_, rfl, q, p, _, _, rfl, SqL.of upd_same, SqL.of (same_new nq _ _ hp), fun D nD => ?_⟩⟩
      have hq1 := same_new (o := .dK []) nD _ _ (upd_same (H := H) (a := q) (o := .lst (kvs.map fun kv => kV kv.1)))
      have hp1 := same_new (o := .dK []) nD _ _ (same_new (o := .lst (kvs.map fun kv => kV kv.1)) nq _ _ hp)
      have hD1 : upd (upd H q (.lst (kvs.map fun kv => kV kv.1))) D (.dK []) D = some (.dK []) := upd_same
      have nDp : D ≠ p := fun z => by rw [z, same_new nq _ _ hp] at nD; cases nD
      have nDq : D ≠ q := fun z => by rw [z, upd_same] at nD; cases nD
      have s1 : Same H (upd (upd H q (.lst (kvs.map fun kv => kV kv.1))) D (.dK [])) := (same_new nq).trans (same_new nD)
      have nDH : H D = none := Same.gone (same_new nq) nD
      generalize upd (upd H q (.lst (kvs.map fun kv => kV kv.1))) D (.dK []) = H1 at hq1 hp1 hD1 s1
      refine ⟨fun i m G => m = kvs.length - i ∧ i ≤ kvs.length ∧ But D H1 G ∧ G D = some (.dK (kvs.take i)), ⟨_, rfl, Nat.zero_le _, But.refl _ _, hD1⟩, ?_⟩
      rintro i m G ⟨rfl, hi, bt, gD⟩
      have gq := bt _ _ nDq.symm hq1
      have gp := bt _ _ nDp.symm hp1
      by_cases hlt : i < kvs.length
      · right
        have ek : (kvs.map fun kv => kV kv.1)[i]? = some (kV kvs[i].1) := by rw [List.getElem?_map, List.getElem?_eq_getElem hlt]; rfl
        have ev : (kvs.map (·.2))[i]? = some kvs[i].2 := by rw [List.getElem?_map, List.getElem?_eq_getElem hlt]; rfl
        refine ⟨⟨_, _, _, _, SqL.of gq, SqL.of gp, ek, ev⟩, fun G' => But D H1 G' ∧ G' D = some (.dK (kvs.take (i + 1))), fun G' ⟨b2, d2⟩ => ⟨_, by omega, rfl, hlt, b2, d2⟩, fun x G' y => ?_⟩
        obtain ⟨tp, x1, x2, rfl, nt, rfl, h1, h2⟩ := y
        have e1 := h1 _ (SqL.of gq)
        have e2 := h2 _ (SqL.of gp)
        rw [ek] at e1
        rw [ev] at e2
        obtain rfl := Option.some.inj e1
        obtain rfl := Option.some.inj e2
        have gD2 := same_new (o := .tup [kV kvs[i].1, kvs[i].2]) nt _ _ gD
        refine ⟨_, _, rfl, SqT.of upd_same, rfl, _, _, rfl, _, _, rfl, rfl, rfl, ?_⟩
        refine ⟨_, rfl, _, rfl, _, kvs[i].1, rfl, gD2, ?_, ?_, ?_⟩
        · rw [List.length_take]
          exact Nat.lt_of_le_of_lt (show _ ≤ 900 by omega) (by rw [sizeLine_eq]; decide)
        · exact bt.trans ((Same.but (same_new nt)).trans But.upd_at)
        · rw [upd_same, show putK (kvs.take i) kvs[i].1 kvs[i].2 = kvs.take (i + 1) from putK_take n (by rw [List.getElem?_eq_getElem hlt])]
      · left
        have ei : i = kvs.length := by omega
        refine ⟨⟨_, _, SqL.of gq, SqL.of gp, .inl (by rw [List.length_map]; omega)⟩, ?_⟩
        rw [ei, List.take_length] at gD
        exact kk _ G (fun b o z => bt _ _ (ne_of_none z nDH) (s1 _ _ z)) (.dct e gD)
end
end Ev
namespace Ev
open PySem L2 PySem.Spec PyProof.Rows RZ
theorem Alike.from {H H1 H' : Hp} {v v' : V} (k : Same H H1) (us : List V) (h : Hold H v us true) (a : Alike H1 v H' v') : Alike H v H' v' := by
  cases a with
  | same => exact .same
  | lst e1 e2 =>
    generalize eb : true = bb at h
    cases h with
    | flat f => cases eb
    | tup e a l => cases eb
    | lst e a l => rw [k _ _ e] at e1; cases e1; exact .lst e e2
    | dct e a l n => rw [k _ _ e] at e1; cases e1
  | dct e1 e2 =>
    generalize eb : true = bb at h
    cases h with
    | flat f => cases eb
    | tup e a l => cases eb
    | lst e a l => rw [k _ _ e] at e1; cases e1
    | dct e a l n => rw [k _ _ e] at e1; cases e1; exact .dct e e2
theorem flat_hold {H : Hp} {us : List V} (h : AllFlat us) {j : Nat} {u : V} (e : us[j]? = some u) : Hold H u [] false := by
  obtain ⟨T, f⟩ := h u (List.mem_of_getElem? e)
  exact .flat f
/-- the marks of the things -/
def marks (b : Bool) (n : Nat) : List Bool := b :: List.replicate n false
theorem marks_at {b : Bool} {n j : Nat} (h : j < n) : (marks b n)[j + 1]? = some false := by
  show (List.replicate n false)[j]? = some false
  rw [List.getElem?_replicate, if_pos h]
theorem ends_at {m n j : Nat} (h : j < m) : (List.replicate m (V.int (1 + (n : Int))))[j]? = some (V.int (1 + (n : Int))) := by
  rw [List.getElem?_replicate, if_pos h]
theorem cut_tail {x : V} {ys : List V} : cutV (x :: ys) (some 1) (some (1 + (ys.length : Int))) = ys := by
  unfold cutV
  have h1 : HT.sIx (x :: ys).length 0 (some 1) = 1 := by
    have := HT.sIx_nat (x :: ys).length 0 1
    rw [List.length_cons] at this ⊢
    rw [show ((1 : Nat) : Int) = 1 from rfl] at this
    rw [this]; omega
  have h2 : HT.sIx (x :: ys).length (x :: ys).length (some (1 + (ys.length : Int))) = ys.length + 1 := by
    have := HT.sIx_nat (x :: ys).length (x :: ys).length (ys.length + 1)
    rw [show ((ys.length + 1 : Nat) : Int) = 1 + (ys.length : Int) by omega] at this
    rw [this, List.length_cons]; omega
  rw [h1, h2, show (x :: ys).drop 1 = ys from rfl, show ys.length + 1 - 1 = ys.length by omega, List.take_length]
theorem cut_none {xs : List V} {h : Option Int} : cutV xs h h = [] ∨ h = none := by
  cases h with
  | none => exact .inr rfl
  | some k =>
    left
    unfold cutV
    have e : HT.sIx xs.length xs.length (some k) = HT.sIx xs.length 0 (some k) := rfl
    rw [e, Nat.sub_self, List.take_zero]
theorem cut_void {xs : List V} {k : Int} : cutV xs (some k) (some k) = [] := by
  rcases cut_none (xs := xs) (h := some k) with e | e
  · exact e
  · cases e
theorem ix_first {x : V} {ys : List V} : ixN (x :: ys).length 0 = some 0 := by
  unfold ixN
  rw [List.length_cons]
  simp
theorem any_none (n : Nat) : (List.replicate n false).any id = false := by
  rw [List.any_eq_false]
  intro x hx
  rw [List.eq_of_mem_replicate hx]
  decide
theorem Alike.put {H G : Hp} {v v' : V} {m : Addr} {xs : List V} {us : List V} (h : Alike H v G v') (hv : Hold H v us true) (hm : G m = some (.lst xs)) (nl : xs.length = us.length + 1) {o : HO} : Alike H v (upd G m o) v' := by
  cases h with
  | same => exact .same
  | lst e1 e2 =>
    refine .lst e1 ?_
    rw [upd_ne]
    · exact e2
    · intro z
      rw [z, hm] at e2
      cases e2
      generalize eb : true = bb at hv
      cases hv with
      | flat f => cases eb
      | tup e a l => cases eb
      | lst e a l => rw [e] at e1; cases e1; omega
      | dct e a l n => rw [e] at e1; cases e1
  | dct e1 e2 =>
    refine .dct e1 ?_
    rw [upd_ne]
    · exact e2
    · intro z
      rw [z, hm] at e2
      cases e2
abbrev sFlat : Stmt := sIsFlat
abbrev sCopied : Stmt := sCopiedDeep
theorem scCopied : FnScope ["value", "things", "ends", "at", "made", "loose", "place", "first", "end", "thing"] ["value"] (defScope sCopied) := ⟨rfl, rfl, rfl, by decide +kernel, rfl, by decide +kernel, by decide +kernel⟩
theorem scFlat : FnScope ["value", "part"] ["value"] (defScope sFlat) := ⟨rfl, rfl, rfl, by decide +kernel, rfl, by decide +kernel, by decide +kernel⟩
theorem kit_any3 {K : PySem.W.Frag} {T a b c : String} {r1 r2 r3 : Bool} (h1 : kitB T a = some r1) (h2 : kitB T b = some r2) (h3 : kitB T c = some r3) : PySem.W.kitAny K (.type T) [.type a, .type b, .type c] = some (r1 || (r2 || r3)) := by
  refine kitAny_cons (kit_ty h1) (fun e => ?_) (fun e => by rw [e]; rfl)
  rw [e]
  exact (kit_any2 h2 h3).trans rfl
def spFlat : Sp := fun vs H Q _ => ∃ (a : Addr) (us : List V), vs = [.ref a] ∧ H a = some (.tup us) ∧ AllFlat us ∧ us.length ≤ 900 ∧ ∀ H', Same H H' → Q (.bl true) H'
section
variable {P : Program} {w : World} {K : PySem.W.Frag} {mg : Str → Option Value} {base : Heap}
theorem ok_copied {f : Addr} {fd : FuncData} (F : Fun K "copied_deep" "copied_deep" sCopied f fd) (T : Blt mg) (md : mg "dict" = none) (ma : mg "any" = none) (D : Df P w K mg base 1 "parts_of" ["value"] spPartsV) (D2 : Df P w K mg base 1 "rebuilt" ["value", "parts"] spRebuilt) : FnOk P w K mg base CX0 2 f fd ["value"] spKeptV := by
  obtain ⟨f1, fd1, G1, g1, k1, b1⟩ := D.ex
  obtain ⟨f2, fd2, G2, g2, k2, b2⟩ := D2.ex
  refine F.ok scCopied (fun vs H Q E h => ?_) (fun cdv A outer s H vs Q E hr h => ?_)
  · obtain ⟨v, us, b, rfl, _⟩ := h
    rfl
  · obtain ⟨v, us, b, rfl, hh, kk⟩ := h
    refine ⟨_, pss_cons (ps_set (i := 1) scCopied.nd rfl (.inl rfl) (pe_lst (pa_cons (pv 0) pa_nil)))
      (pss_cons (ps_set (i := 2) scCopied.nd rfl (.inl rfl) (pe_lst pa_nil))
      (pss_cons (ps_set (i := 3) scCopied.nd rfl (.inl rfl) pe_int)
      (pss_cons (ps_while PassesOwn.never (pt_cmpR op_lt (pv 3) (pe_callB call_len_seq (by rfl) T.len PySem.boot_len (pa_cons (pv 1) pa_nil)) (nomark _))
        (pss_cons (ps_expr (pe_bm PySem.F.plainAttrs_list PySem.F.slot_list_extend PySem.F.type_list_extend mt_extend (pv 1) (pa_cons (pe_callTy call_list_of (by rfl) T.list (by decide +kernel) (pa_cons (pe_call G1 hr (by rfl) g1 k1 b1 .nil pass0 (pa_cons (pe_ix ix_list (pv 1) (pv 3) (fun _ _ => rfl)) pa_nil)) pa_nil)) pa_nil)))
        (pss_cons (ps_expr (pe_bm PySem.F.plainAttrs_list PySem.F.slot_list_append PySem.F.type_list_append mt_append (pv 2) (pa_cons (pe_callB call_len_seq (by rfl) T.len PySem.boot_len (pa_cons (pv 1) pa_nil)) pa_nil)))
        (pss_one (ps_aug (i := 3) scCopied.nd rfl (.inl rfl) pe_int ip_add)))))
      (pss_cons (ps_set (i := 4) scCopied.nd rfl (.inl rfl) (pe_callTy call_list_of (by rfl) T.list (by decide +kernel) (pa_cons (pv 1) pa_nil)))
      (pss_cons (ps_setLc (i := 5) (te := tCB (rIsiT K) (tCons (tVar 9) (tCons (tTup (tCons (tC (.ty "list")) (tCons (tC (.ty "dict")) tNil))) tNil))) (own := [("thing", 9)]) (g := gName 9) (by rfl) scCopied.nd rfl rfl (sw_true rfl rfl rfl (by decide +kernel)) (pi_list (pv 1))
          (blkOk_by (own := [("thing", 9)]) (N := ["value", "things", "ends", "at", "made", "loose", "place", "first", "end", "thing"]) (sc := defScope sCopied) (by decide +kernel))
          (fun _ _ _ _ _ => pg_name (i := 9) scCopied.nd rfl (.inl rfl)) (fun _ _ _ _ _ => pts_nil)
          (fun _ _ _ _ _ => pe_callB (id := "isinstance") call_isiT (by rfl) T.isi (by decide +kernel) (pa_cons (pv 9) (pa_cons (pe_tup (pa_cons (pe_bltn (v := .ty "list") (by rfl) T.list (by decide +kernel) rfl) (pa_cons (pe_bltn (v := .ty "dict") (by rfl) md (by decide +kernel) rfl) pa_nil))) pa_nil))))
      (pss_cons (ps_for PassesOwn.never rfl (pi_range3 rfl T.range (pa_cons (pe_op op_sub (pe_callB call_len_seq (by rfl) T.len PySem.boot_len (pa_cons (pv 1) pa_nil)) pe_int) (pa_cons (pe_un un_neg pe_int) (pa_cons (pe_un un_neg pe_int) pa_nil)))) (pg_name (i := 6) scCopied.nd rfl (.inl rfl))
        (pss_cons (ps_par (i := 7) (j := 8) rfl scCopied.nd rfl rfl (by decide) rfl rfl (pa_cons (pe_ifExp (pt_cmpR op_gt (pv 6) pe_int (nomark _)) (pe_ix ix_list (pv 2) (pe_op op_sub (pv 6) pe_int) (fun _ _ => rfl)) pe_int) (pa_cons (pe_ix ix_list (pv 2) (pv 6) (fun _ _ => rfl)) pa_nil)) (by rfl))
        (pss_cons (ps_if (pt_val (pe_callB (cr_any rfl) (by rfl) ma (by decide +kernel) (pa_cons (pe_slice sl_list (pv 5) (po_some (pv 7)) (po_some (pv 8))) pa_nil))) (pss_one ps_never) pss_nil)
        (pss_one (ps_if (pt_val (pe_ix ix_list (pv 5) (pv 6) (fun _ _ => rfl)))
          (pss_one (ps_asg (pe_call G2 hr (by rfl) g2 k2 b2 .nil pass0 (pa_cons (pe_ix ix_list (pv 1) (pv 6) (fun _ _ => rfl)) (pa_cons (pe_slice sl_list (pv 4) (po_some (pv 7)) (po_some (pv 8))) pa_nil))) (pg_sub (pv 4) (pv 6) set_list))) pss_nil)))))
      (pss_one (ps_ret (pe_ix ix_list (pv 4) pe_int (fun _ _ => rfl)))))))))), ?_⟩
    have hlen := hh.len
    have hit := hh.items
    have z1000 : ∀ {n : Nat}, n ≤ 902 → n ≤ sizeLine := fun h => Nat.le_trans h (by rw [sizeLine_eq]; decide)
    refine ⟨_, rfl, (by show 1 ≤ sizeLine; decide), fun t nt => ⟨(by show 0 ≤ sizeLine; decide), fun e ne => ?_⟩⟩
    have te : e ≠ t := fun z => by rw [z, upd_same] at ne; cases ne
    have s2 : Same H (upd (upd H t (.lst [v])) e (.lst [])) := (same_new nt).trans (same_new ne)
    have ht2 : upd (upd H t (.lst [v])) e (.lst []) t = some (.lst [v]) := same_new ne _ _ upd_same
    have he2 : upd (upd H t (.lst [v])) e (.lst []) e = some (.lst []) := upd_same
    have nte : H e = none := Same.gone (same_new nt) ne
    generalize upd (upd H t (.lst [v])) e (.lst []) = H2 at s2 ht2 he2 ⊢
    -- the walk over the things
    refine ⟨fun m σ H' => (m = us.length + 1 ∧ σ = [some v, some (.ref t), some (.ref e), some (.int 0), none, none, none, none, none, none] ∧ H' = H2) ∨
      (∃ k, k ≤ us.length ∧ m = us.length - k ∧ σ = [some v, some (.ref t), some (.ref e), some (.int (1 + (k : Int))), none, none, none, none, none, none] ∧ H' t = some (.lst (v :: us)) ∧ H' e = some (.lst (List.replicate (1 + k) (V.int (1 + (us.length : Int))))) ∧ Same H H'), ⟨_, .inl ⟨rfl, rfl, rfl⟩⟩, fun m σ H' h => ?_⟩
    rcases h with ⟨rfl, rfl, rfl⟩ | ⟨k, hk, rfl, rfl, ht, he, sm⟩
    · refine ⟨_, rfl, _, rfl, t, _, rfl, .inl (SqL.of ht2), _, _, rfl, rfl, _, rfl, ite2 (fun _ => ?_) (fun z => absurd (decide_eq_true (show (0 : Int) < ((1 : Nat) : Int) by decide)) z)⟩
      refine ⟨fun σ H' => σ = [some v, some (.ref t), some (.ref e), some (.int (1 + ((0 : Nat) : Int))), none, none, none, none, none, none] ∧ H' t = some (.lst (v :: us)) ∧ H' e = some (.lst (List.replicate (1 + 0) (V.int (1 + (us.length : Int))))) ∧ Same H H', fun σ' H' q => ⟨us.length, by omega, .inr ⟨0, Nat.zero_le _, rfl, q⟩⟩, ?_⟩
      refine ⟨_, rfl, .inl ⟨rfl, _, SqL.of ht2⟩, _, rfl, _, rfl, t, _, 0, v, rfl, rfl, SqL.of ht2, atI_nat (j := 0) rfl, v, us, b, rfl, hh.keep s2, fun p0 H30 np0 s30 hp0 => ⟨p0, _, rfl, .inl (SqL.of hp0), fun p np => ?_⟩⟩
      have s3 : Same H' (upd H30 p (.lst us)) := s30.trans (same_new np)
      have hp : upd H30 p (.lst us) p = some (.lst us) := upd_same
      generalize upd H30 p (.lst us) = H3 at s3 hp ⊢
      refine ⟨t, p, _, _, rfl, rfl, s3 _ _ ht2, hp, z1000 (by show 1 + us.length ≤ 902; omega), ?_⟩
      have he3 : upd H3 t (.lst ([v] ++ us)) e = some (.lst []) := by rw [upd_ne te]; exact s3 _ _ he2
      refine ⟨_, rfl, .inl ⟨rfl, _, SqL.of he3⟩, _, rfl, t, [v] ++ us, rfl, .inl (SqL.of upd_same), e, _, _, rfl, rfl, he3, (by show 0 < sizeLine; decide), ?_⟩
      refine ⟨_, rfl, _, _, rfl, rfl, rfl, ?_, ?_, fun b o q => ?_⟩
      · rw [upd_ne te.symm]; exact upd_same
      · have e1 : ((([v] ++ us).length : Nat) : Int) = 1 + (us.length : Int) := by rw [List.length_append, List.length_singleton]; omega
        rw [upd_same, e1]; rfl
      · rw [upd_ne (ne_of_none q nte), upd_ne (ne_of_none q nt)]
        exact s3 _ _ (s2 _ _ q)
    · by_cases hlt : k < us.length
      · have hge : (v :: us)[1 + k]? = some us[k] := by rw [Nat.add_comm]; exact List.getElem?_eq_getElem hlt
        have hix : atI (v :: us) (1 + (k : Int)) = some us[k] := by
          have := atI_nat (xs := v :: us) (j := 1 + k) hge
          rw [show ((1 + k : Nat) : Int) = 1 + (k : Int) by omega] at this
          exact this
        refine ⟨_, rfl, _, rfl, t, _, rfl, .inl (SqL.of ht), _, _, rfl, rfl, _, rfl, ite2 (fun _ => ?_) (fun z => absurd (decide_eq_true (show (1 + (k : Int)) < (((v :: us).length : Nat) : Int) by rw [List.length_cons]; omega)) z)⟩
        refine ⟨fun σ H' => σ = [some v, some (.ref t), some (.ref e), some (.int (1 + ((k + 1 : Nat) : Int))), none, none, none, none, none, none] ∧ H' t = some (.lst (v :: us)) ∧ H' e = some (.lst (List.replicate (1 + (k + 1)) (V.int (1 + (us.length : Int))))) ∧ Same H H', fun σ' H' q => ⟨us.length - (k + 1), by omega, .inr ⟨k + 1, hlt, rfl, q⟩⟩, ?_⟩
        refine ⟨_, rfl, .inl ⟨rfl, _, SqL.of ht⟩, _, rfl, _, rfl, t, _, _, us[k], rfl, rfl, SqL.of ht, hix, us[k], [], false, rfl, flat_hold hit (List.getElem?_eq_getElem hlt), fun p0 H30 np0 s30 hp0 => ⟨p0, _, rfl, .inl (SqL.of hp0), fun p np => ?_⟩⟩
        have s3 : Same H' (upd H30 p (.lst [])) := s30.trans (same_new np)
        have hp : upd H30 p (.lst []) p = some (.lst []) := upd_same
        generalize upd H30 p (.lst []) = H3 at s3 hp ⊢
        refine ⟨t, p, _, _, rfl, rfl, s3 _ _ ht, hp, z1000 (by show (v :: us).length + 0 ≤ 902; rw [List.length_cons]; omega), ?_⟩
        have he3 : upd H3 t (.lst ((v :: us) ++ [])) e = some (.lst (List.replicate (1 + k) (V.int (1 + (us.length : Int))))) := by rw [upd_ne te]; exact s3 _ _ he
        refine ⟨_, rfl, .inl ⟨rfl, _, SqL.of he3⟩, _, rfl, t, (v :: us) ++ [], rfl, .inl (SqL.of upd_same), e, _, _, rfl, rfl, he3, Nat.lt_of_lt_of_le (show (List.replicate (1 + k) (V.int (1 + (us.length : Int)))).length < 902 by rw [List.length_replicate]; omega) (z1000 (Nat.le_refl _)), ?_⟩
        refine ⟨_, rfl, _, _, rfl, rfl, ?_, ?_, ?_, fun b o q => ?_⟩
        · have e5 : (1 + (k : Int)) + 1 = 1 + ((k + 1 : Nat) : Int) := by omega
          show List.set _ 3 (some (V.int ((1 + (k : Int)) + 1))) = _
          rw [e5]; rfl
        · rw [upd_ne te.symm, upd_same, List.append_nil]
        · have e1 : ((((v :: us) ++ []).length : Nat) : Int) = 1 + (us.length : Int) := by rw [List.append_nil, List.length_cons]; omega
          rw [upd_same, e1, show 1 + (k + 1) = (1 + k) + 1 by omega, List.replicate_succ' (n := 1 + k)]
        · have e3 := s3 _ _ (sm _ _ q)
          rw [upd_ne (ne_of_none q nte), upd_ne (ne_of_none q nt)]
          exact e3
      · obtain rfl : k = us.length := by omega
        refine ⟨_, rfl, _, rfl, t, _, rfl, .inl (SqL.of ht), _, _, rfl, rfl, _, rfl, ite2 (fun z => absurd (of_decide_eq_true z) (show ¬ ((1 + (us.length : Int)) < (((v :: us).length : Nat) : Int)) by rw [List.length_cons]; omega)) (fun _ => ?_)⟩
        refine ⟨_, rfl, t, _, rfl, .inl (SqL.of ht), fun md nmd => ?_⟩
        have ht3 := same_new (o := .lst (v :: us)) nmd _ _ ht
        have he3 := same_new (o := .lst (v :: us)) nmd _ _ he
        have hm3 : upd H' md (.lst (v :: us)) md = some (.lst (v :: us)) := upd_same
        have sm3 := sm.trans (same_new (o := .lst (v :: us)) nmd)
        have nmH : H md = none := Same.gone sm nmd
        generalize upd H' md (.lst (v :: us)) = H3 at ht3 he3 hm3 sm3 ⊢
        refine ⟨_, rfl, t, rfl, ⟨_, SqL.of ht3⟩, fun D nD => ?_⟩
        refine lc_list (K := K) (a := t) (xs := v :: us) (fun i H' => H' D = some (.lst (((marks b us.length).take i).map V.bl)) ∧ But D H3 H') ⟨upd_same, But.upd_at⟩ (fun i H' _ q => SqL.of (q.2 _ _ (ne_of_none ht3 nD) ht3)) (fun i y H' hi ⟨e1, e2⟩ => ?_) (fun H' ⟨e1, e2⟩ => ?_)
        · have hil : i < us.length + 1 := (List.getElem?_eq_some_iff.mp hi).1
          obtain ⟨TT, r, hr1, ty, kit⟩ : ∃ (TT : String) (r : Bool), (marks b us.length)[i]? = some r ∧ (∀ (K : PySem.W.Frag) (G : Hp), Same H' G → TyX K G y (.type TT)) ∧ PySem.W.kitAny K (.type TT) [.type "list", .type "dict"] = some r := by
            cases i with
            | zero =>
              obtain rfl : v = y := Option.some.inj hi
              obtain ⟨TT, ty, b1, b2, b3, f1, f2, f3, eb⟩ := hh.ty
              refine ⟨TT, b, rfl, fun K G k => ty K G fun c o q => k _ _ (e2 _ _ (ne_of_none (sm3 _ _ q) nD) (sm3 _ _ q)), ?_⟩
              rw [eb]; exact kit_any2 f1 f3
            | succ j =>
              obtain ⟨TT, f⟩ := hit y (List.mem_of_getElem? (show us[j]? = some y from hi))
              exact ⟨TT, false, marks_at (by omega), fun K G _ => f.ty K G, kit_any2 f.l f.d⟩
          refine ⟨rfl, _, rfl, (by show 2 ≤ sizeLine; decide), fun tp ntp => ⟨y, tp, _, _, _, r, rfl, upd_same, .cons (.ty _) (.cons (.ty _) .nil), ty _ _ (same_new ntp), kit, _, same_new ntp _ _ e1, ?_, ?_, ?_⟩⟩
          · refine Nat.lt_of_lt_of_le (show _ < 902 from ?_) (z1000 (Nat.le_refl _))
            rw [List.length_map, List.length_take]; omega
          · rw [upd_same, List.take_add_one, hr1, List.map_append]; rfl
          · exact (e2.trans (Same.but (same_new ntp))).trans But.upd_at
        · have eM : (marks b us.length).take (v :: us).length = marks b us.length := by
            rw [List.take_of_length_le]
            show (List.replicate us.length false).length + 1 ≤ us.length + 1
            rw [List.length_replicate]; exact Nat.le_refl _
          rw [eM] at e1
          have s4 : Same H3 H' := fun b o q => e2 b o (ne_of_none q nD) q
          have ht4 := s4 _ _ ht3
          have he4 := s4 _ _ he3
          have hm4 := s4 _ _ hm3
          have s04 := sm3.trans s4
          have nDH : H D = none := Same.gone sm3 nD
          have lenI : ((((v :: us).length : Nat) : Int)) - 1 = (us.length : Int) := by rw [List.length_cons]; omega
          refine ⟨_, rfl, t, _, rfl, .inl (SqL.of ht4), _, _, rfl, rfl, _, rfl, _, rfl, (us.length : Int), -1, -1, us.length + 1, ?_, ?_, ?_⟩
          · show [V.int (((((v :: us).length : Nat) : Int)) - 1), V.int (-1), V.int (-1)] = _
            rw [lenI]
          · have h := RgC.neg (i := (us.length : Int)) (j := -1) (by omega) (by omega) (by decide) (by decide)
            rw [show ((us.length : Int) - -1).toNat = us.length + 1 by omega] at h
            exact h
          refine for_rangeC (lo := (us.length : Int)) (c := -1) (n := us.length + 1) (fun i σ H5 => (∃ v6 v7 v8 v9 : Option V, σ = [some v, some (.ref t), some (.ref e), some (.int (1 + (us.length : Int))), some (.ref md), some (.ref D), v6, v7, v8, v9]) ∧
            (i ≤ us.length → Same H' H5) ∧ (i = us.length + 1 → Same H H5 ∧ ∃ v', H5 md = some (.lst (v' :: us)) ∧ Alike H v H5 v')) ⟨⟨none, none, none, none, rfl⟩, fun _ => Same.refl _, fun z => by omega⟩ ?_ ?_
          · rintro i σ H5 hi ⟨⟨v6, v7, v8, v9, rfl⟩, u5, _⟩
            have s5 := u5 (by omega)
            clear u5
            have he5 := s5 _ _ he4
            have hD5 := s5 _ _ e1
            by_cases hlast : i = us.length
            · subst hlast
              have e0 : (us.length : Int) + ((us.length : Nat) : Int) * -1 = 0 := by omega
              rw [e0]
              refine ⟨_, rfl, _, _, rfl, rfl, _, rfl, ite2 (fun z => absurd (of_decide_eq_true z) (show ¬ ((0 : Int) < 0) by decide)) (fun _ => ?_)⟩
              refine ⟨_, rfl, _, rfl, e, _, _, _, rfl, rfl, SqL.of he5, atI_nat (j := 0) (ends_at (m := 1 + us.length) (by omega)), _, _, rfl, ?_⟩
              refine ⟨_, rfl, _, rfl, _, rfl, _, rfl, _, rfl, D, _, rfl, SqL.of hD5, fun sl nsl => ?_⟩
              have ecut : cutV ((marks b us.length).map V.bl) (some 1) (some (1 + (us.length : Int))) = (List.replicate us.length false).map V.bl := by
                have := cut_tail (x := V.bl b) (ys := (List.replicate us.length false).map V.bl)
                rw [List.length_map, List.length_replicate] at this
                exact this
              rw [ecut]
              refine ⟨sl, List.replicate us.length false, rfl, SqL.of upd_same, _, rfl, ?_⟩
              rw [any_none]
              refine iteF ?_
              have s6 := s5.trans (same_new (o := .lst ((List.replicate us.length false).map V.bl)) nsl)
              generalize upd H5 sl (.lst ((List.replicate us.length false).map V.bl)) = H6 at s6
              refine ⟨_, rfl, _, rfl, D, _, _, _, rfl, rfl, SqL.of (s6 _ _ e1), atI_nat (j := 0) rfl, _, rfl, ?_⟩
              cases b with
              | false => exact iteF ⟨⟨_, _, _, _, rfl⟩, fun z => by omega, fun _ => ⟨s04.trans s6, v, s6 _ _ hm4, .same⟩⟩
              | true =>
                refine iteT ⟨_, rfl, _, rfl, t, _, _, _, rfl, rfl, SqL.of (s6 _ _ ht4), atI_nat (j := 0) rfl, _, rfl, _, rfl, _, rfl, _, rfl, _, rfl, md, _, rfl, SqL.of (s6 _ _ hm4), fun q nq => ?_⟩
                rw [cut_tail]
                have s7 := s6.trans (same_new (o := .lst us) nq)
                have hq : upd H6 q (.lst us) q = some (.lst us) := upd_same
                generalize upd H6 q (.lst us) = H7 at s7 hq
                refine ⟨v, us, q, rfl, hh.keep (s04.trans s7), hq, fun v' H8 s8 al => ?_⟩
                have hm8 := s8 _ _ (s7 _ _ hm4)
                refine ⟨_, rfl, _, rfl, md, _, _, 0, rfl, rfl, hm8, ix_first, ?_⟩
                refine ⟨⟨_, _, _, _, rfl⟩, fun z => by omega, fun _ => ⟨fun c o z => ?_, v', upd_same, (al.from (s04.trans s7) us hh).put hh hm8 rfl⟩⟩
                rw [upd_ne (ne_of_none z nmH)]
                exact s8 _ _ (s7 _ _ (s04 _ _ z))
            · have hi2 : i < us.length := by omega
              obtain ⟨j, ej⟩ : ∃ j : Nat, us.length = i + j + 1 := ⟨us.length - i - 1, by omega⟩
              have e0 : (us.length : Int) + ((i : Nat) : Int) * -1 = ((j + 1 : Nat) : Int) := by omega
              rw [e0]
              have e9 : ((j + 1 : Nat) : Int) - 1 = ((j : Nat) : Int) := by omega
              refine ⟨_, rfl, _, _, rfl, rfl, _, rfl, ite2 (fun _ => ?_) (fun z => absurd (decide_eq_true (show (0 : Int) < ((j + 1 : Nat) : Int) by omega)) z)⟩
              have hfst : atI (List.replicate (1 + us.length) (V.int (1 + (us.length : Int)))) (((j + 1 : Nat) : Int) - 1) = some (V.int (1 + (us.length : Int))) := by
                rw [e9]
                exact atI_nat (ends_at (m := 1 + us.length) (by omega))
              refine ⟨_, rfl, _, rfl, _, _, rfl, rfl, e, _, _, V.int (1 + (us.length : Int)), rfl, rfl, SqL.of he5, hfst, ?_⟩
              refine ⟨_, rfl, _, rfl, e, _, _, _, rfl, rfl, SqL.of he5, atI_nat (j := j + 1) (ends_at (m := 1 + us.length) (by omega)), _, _, rfl, ?_⟩
              refine ⟨_, rfl, _, rfl, _, rfl, _, rfl, _, rfl, D, _, rfl, SqL.of hD5, fun sl nsl => ?_⟩
              rw [cut_void]
              refine ⟨sl, [], rfl, SqL.of upd_same, _, rfl, iteF ?_⟩
              refine ⟨_, rfl, _, rfl, D, _, _, _, rfl, rfl, SqL.of (same_new nsl _ _ hD5), atI_nat (j := j + 1) (show ((marks b us.length).map V.bl)[j + 1]? = some (V.bl false) by rw [List.getElem?_map, marks_at (by omega)]; rfl), _, rfl, iteF ?_⟩
              exact ⟨⟨_, _, _, _, rfl⟩, fun _ => s5.trans (same_new nsl), fun z => by omega⟩
          · rintro σ H5 ⟨⟨v6, v7, v8, v9, rfl⟩, _, s5⟩
            obtain ⟨s5, v', hm5, al⟩ := s5 rfl
            exact ⟨_, rfl, md, _, 0, v', rfl, rfl, SqL.of hm5, atI_nat (j := 0) rfl, kk _ H5 s5 al⟩
theorem ok_flat {f : Addr} {fd : FuncData} (F : Fun K "is_flat" "is_flat" sFlat f fd) (T : Blt mg) (md : mg "dict" = none) : FnOk P w K mg base CX0 2 f fd ["value"] spFlat := by
  refine F.ok scFlat (fun vs H Q E h => ?_) (fun cdv A outer s H vs Q E hr h => ?_)
  · obtain ⟨a, us, rfl, _⟩ := h
    rfl
  · obtain ⟨a, us, rfl, ha, af, hn, k⟩ := h
    refine ⟨_, pss_cons (ps_for PassesOwn.never rfl (pi_tup (pv 0)) (pg_name (i := 1) scFlat.nd rfl (.inl rfl))
        (pss_one (ps_if (pt_val (pe_callB call_isiT (by rfl) T.isi (by decide +kernel) (pa_cons (pv 1) (pa_cons (pe_tup (pa_cons (pe_bltn (v := .ty "list") (by rfl) T.list (by decide +kernel) rfl) (pa_cons (pe_bltn (v := .ty "tuple") (by rfl) T.tuple (by decide +kernel) rfl) (pa_cons (pe_bltn (v := .ty "dict") (by rfl) md (by decide +kernel) rfl) pa_nil)))) pa_nil)))) (pss_one ps_never) pss_nil)))
      (pss_one (ps_ret pe_bl)), ?_⟩
    refine ⟨_, rfl, a, rfl, ⟨_, SqT.of ha⟩, ?_⟩
    refine for_it (walk_tup (K := K) (a := a) (xs := us)) (fun i σ G => Same H G ∧ ∃ z, σ = [some (.ref a), z]) ⟨Same.refl _, _, rfl⟩ (fun i σ G _ h => SqT.of (h.1 _ _ ha)) (fun i v σ G2 G3 hi h y => ?_) (fun σ G h => ?_)
    · obtain ⟨s2, z, rfl⟩ := h
      obtain ⟨rfl, hx⟩ := y
      obtain ⟨TT, fl⟩ := af v (List.mem_of_getElem? hx)
      exact ⟨_, rfl, (by show 3 ≤ sizeLine; decide), fun tp ntp => ⟨v, tp, _, _, _, false, rfl, upd_same, .cons (.ty _) (.cons (.ty _) (.cons (.ty _) .nil)), fl.ty _ _, kit3 fl.l fl.t fl.d, _, rfl, iteF ⟨s2.trans (same_new ntp), _, rfl⟩⟩⟩
    · obtain ⟨s2, z, rfl⟩ := h
      exact k G s2
theorem ok_keptV {f : Addr} {fd : FuncData} (F : Fun K "kept" "kept" sKept f fd) (T : Blt mg) (md : mg "dict" = none) (D : Df P w K mg base 2 "is_flat" ["value"] spFlat) (D2 : Df P w K mg base 2 "copied_deep" ["value"] spKeptV) : FnOk P w K mg base CX0 3 f fd ["value"] spKeptV := by
  obtain ⟨f1, fd1, G1, g1, k1, b1⟩ := D.ex
  obtain ⟨f2, fd2, G2, g2, k2, b2⟩ := D2.ex
  refine F.ok scKept (fun vs H Q E h => ?_) (fun cdv A outer s H vs Q E hr h => ?_)
  · obtain ⟨v, us, b, rfl, _⟩ := h
    rfl
  · obtain ⟨v, us, b, rfl, hh, kk⟩ := h
    refine ⟨_, pss_cons (ps_if (pt_not (pt_val (pe_callB call_isiT (by rfl) T.isi (by decide +kernel) (pa_cons (pv 0) (pa_cons (pe_tup (pa_cons (pe_bltn (v := .ty "list") (by rfl) T.list (by decide +kernel) rfl) (pa_cons (pe_bltn (v := .ty "tuple") (by rfl) T.tuple (by decide +kernel) rfl) (pa_cons (pe_bltn (v := .ty "dict") (by rfl) md (by decide +kernel) rfl) pa_nil)))) pa_nil))))) (pss_one (ps_ret (pv 0))) pss_nil)
      (pss_cons (ps_if (PW.pt (pw_and (pt_val (pe_callB call_isi (by rfl) T.isi (by decide +kernel) (pa_cons (pv 0) (pa_cons (pe_bltn (v := .ty "tuple") (by rfl) T.tuple (by decide +kernel) rfl) pa_nil)))) (pw_and1 (pt_val (pe_call G1 hr (by rfl) g1 k1 b1 .nil pass0 (pa_cons (pv 0) pa_nil)))))) (pss_one (ps_ret (pv 0))) pss_nil)
      (pss_one (ps_ret (pe_call G2 hr (by rfl) g2 k2 b2 .nil pass0 (pa_cons (pv 0) pa_nil))))), ?_⟩
    cases hh with
    | @flat v TT fl =>
      refine ⟨_, rfl, (by show 3 ≤ sizeLine; decide), fun tp ntp => ⟨v, tp, _, _, _, false, rfl, upd_same, .cons (.ty _) (.cons (.ty _) (.cons (.ty _) .nil)), fl.ty _ _, kit3 fl.l fl.t fl.d, _, rfl, iteT ⟨_, rfl, ?_⟩⟩⟩
      exact kk _ _ (same_new ntp) .same
    | @tup a us e al l =>
      refine ⟨_, rfl, (by show 3 ≤ sizeLine; decide), fun tp ntp => ⟨_, tp, _, _, _, true, rfl, upd_same, .cons (.ty _) (.cons (.ty _) (.cons (.ty _) .nil)), .base (.tup (same_new ntp _ _ e)), kit_any3 (r1 := false) (r2 := true) (r3 := false) (by decide +kernel) (by decide +kernel) (by decide +kernel), _, rfl, iteF ?_⟩⟩
      have e1 := same_new (o := .tup [.ty "list", .ty "tuple", .ty "dict"]) ntp _ _ e
      refine ⟨_, rfl, _, _, _, _, true, rfl, .ty _, .base (.tup e1), kit_ty (by decide +kernel), _, rfl, iteT ?_⟩
      refine ⟨_, rfl, a, us, rfl, e1, al, l, fun H' s' => ⟨_, rfl, iteT ⟨_, rfl, ?_⟩⟩⟩
      exact kk _ _ ((same_new ntp).trans s') .same
    | @lst a us e al l =>
      refine ⟨_, rfl, (by show 3 ≤ sizeLine; decide), fun tp ntp => ⟨_, tp, _, _, _, true, rfl, upd_same, .cons (.ty _) (.cons (.ty _) (.cons (.ty _) .nil)), .base (.lst (same_new ntp _ _ e)), kit_any3 (r1 := true) (r2 := false) (r3 := false) (by decide +kernel) (by decide +kernel) (by decide +kernel), _, rfl, iteF ?_⟩⟩
      have s1 := same_new (H := H) (o := .tup [.ty "list", .ty "tuple", .ty "dict"]) ntp
      have e1 := s1 _ _ e
      refine ⟨_, rfl, _, _, _, _, false, rfl, .ty _, .base (.lst e1), kit_ty (by decide +kernel), _, rfl, iteF ?_⟩
      refine ⟨_, rfl, _, us, true, rfl, (Hold.lst e1 al l), fun v' H' s' al' => ?_⟩
      exact kk _ _ (s1.trans s') (al'.from s1 us (.lst e al l))
    | @dct a kvs e al l nd =>
      refine ⟨_, rfl, (by show 3 ≤ sizeLine; decide), fun tp ntp => ⟨_, tp, _, _, _, true, rfl, upd_same, .cons (.ty _) (.cons (.ty _) (.cons (.ty _) .nil)), .base (.dK (same_new ntp _ _ e)), kit_any3 (r1 := false) (r2 := false) (r3 := true) (by decide +kernel) (by decide +kernel) (by decide +kernel), _, rfl, iteF ?_⟩⟩
      have s1 := same_new (H := H) (o := .tup [.ty "list", .ty "tuple", .ty "dict"]) ntp
      have e1 := s1 _ _ e
      refine ⟨_, rfl, _, _, _, _, false, rfl, .ty _, .base (.dK e1), kit_ty (by decide +kernel), _, rfl, iteF ?_⟩
      refine ⟨_, rfl, _, _, true, rfl, (Hold.dct e1 al l nd), fun v' H' s' al' => ?_⟩
      exact kk _ _ (s1.trans s') (al'.from s1 _ (.dct e al l nd))
end
end Ev
namespace Ev
open PySem L2 PySem.Spec PyProof.Rows RZ
abbrev sBNInit : Stmt := sBadNumber_init
/-- a contract with a lesser promise -/
theorem FnOk.less {P : Program} {w : World} {K : PySem.W.Frag} {mg : Str → Option Value} {base : Heap} {CX : CXT} {k : Nat} {f : Addr} {fd : FuncData} {ps : List Str} {sp sp' : Sp}
    (F : FnOk P w K mg base CX k f fd ps sp) (h : ∀ vs H Q E, sp' vs H Q E → sp vs H Q E) : FnOk P w K mg base CX k f fd ps sp' :=
  ⟨fun vs H Q E t => F.len vs H Q E (h _ _ _ _ t), fun A above s H args us vs Q E hr env bt rv t => F.run A above s H args us vs Q E hr env bt rv (h _ _ _ _ t)⟩
/-- .. of a call that raises nothing -/
theorem FnOk.calm {P : Program} {w : World} {K : PySem.W.Frag} {mg : Str → Option Value} {base : Heap} {k : Nat} {f : Addr} {fd : FuncData} {ps : List Str} {sp sp' : Sp}
    (F : FnOk P w K mg base (L2.CX P w) k f fd ps sp) (h : ∀ vs H Q E, sp' vs H Q E → sp vs H Q fun _ _ _ => False) : FnOk P w K mg base CX0 k f fd ps sp' := by
  constructor
  · exact fun vs H Q E t => F.len vs H Q _ (h _ _ _ _ t)
  · intro A above s H args us vs Q E hr env bt rv t
    refine codeAny_mono (F.run A above s H args us vs Q _ hr env bt rv (h _ _ _ _ t)) fun r s2 q => ?_
    cases r with
    | error e =>
      obtain ⟨_, _, _, _, _, _, _, _, _, _, _, _, z⟩ := q
      exact z.elim
    | ok fl =>
      cases fl with
      | ret u => exact q
      | next => exact q
      | brk => exact q
      | cont => exact q
/-- an error's field -/
def Told (C : Addr) (n : Str) (H : Hp) (v : V) (E : XK) : Prop := ∀ (d : Addr) (v' : V) (H' : Hp), Same H H' → H d = none → H' d = some (.xd [(n, v')]) → Alike H v H' v' → E (.ref C) (some d) H'
def spExInit (C : Addr) (n : Str) : Sp := fun vs H Q _ => ∃ (a : Addr) (v : V) (us : List V) (b : Bool), vs = [.ref a, v] ∧ H a = some (exo a C none) ∧ Hold H v us b ∧
  ∀ (d : Addr) (v' : V) (H' : Hp), H d = none → H' a = some (exo a C (some d)) → H' d = some (exd d [(n, v')]) → (∀ b o, b ≠ a → H b = some o → H' b = some o) → Alike H v H' v' → Q .non H'
theorem Alike.on {H G G' : Hp} {v v' : V} (h : Alike H v G v') (k1 : ∀ b xs, G b = some (.lst xs) → G' b = some (.lst xs)) (k2 : ∀ b kvs, G b = some (.dK kvs) → G' b = some (.dK kvs)) : Alike H v G' v' := by
  cases h with
  | same => exact .same
  | lst e1 e2 => exact .lst e1 (k1 _ _ e2)
  | dct e1 e2 => exact .dct e1 (k2 _ _ e2)
theorem exo_lst {a C : Addr} {d : Option Addr} {xs : List V} : exo a C d ≠ .lst xs := fun z => by
  have z : HO.ext _ = HO.lst xs := z
  cases z
theorem exo_dK {a C : Addr} {d : Option Addr} {xs : List (Key × V)} : exo a C d ≠ .dK xs := fun z => by
  have z : HO.ext _ = HO.dK xs := z
  cases z
theorem exd_lst {a : Addr} {d : List (Str × V)} {xs : List V} : exd a d ≠ .lst xs := fun z => by
  have z : HO.ext _ = HO.lst xs := z
  cases z
theorem exd_dK {a : Addr} {d : List (Str × V)} {xs : List (Key × V)} : exd a d ≠ .dK xs := fun z => by
  have z : HO.ext _ = HO.dK xs := z
  cases z
/-- an error class of the package with one field n -/
structure ErrV (P : Program) (w : World) (K : PySem.W.Frag) (mg : Str → Option Value) (base : Heap) (x n : Str) (C : Addr) : Prop where
  cl : OexC K C
  g : mg x = some (.ref C)
  ex : ∃ (f : Addr) (fd : FuncData), PySem.W.findIn K (.ref C) "__init__" = some (some (.ref f)) ∧ PySem.W.typeIn K (.ref f) = some (.type "function") ∧ FnOk P w K mg base CX0 4 f fd ["self", n] (spExInit C n) ∧ Binds K fd ["self", n] []
section
variable {P : Program} {w : World} {K : PySem.W.Frag} {mg : Str → Option Value} {base : Heap}
theorem scBN : FnScope ["self", "value"] ["self", "value"] (defScope sBNInit) := ⟨rfl, rfl, rfl, by decide +kernel, rfl, by decide +kernel, by decide +kernel⟩
theorem ok_bn {f C : Addr} {fd : FuncData} (F : Fun K "__init__" "BadNumber.__init__" sBNInit f fd) (T : OexC K C) (no : PySem.W.findIn K (.ref C) "value" = some none) (D : Df P w K mg base 3 "kept" ["value"] spKeptV) : FnOk P w K mg base CX0 4 f fd ["self", "value"] (spExInit C "value") := by
  obtain ⟨f1, fd1, G1, g1, k1, b1⟩ := D.ex
  refine F.ok scBN (fun vs H Q E h => ?_) (fun cdv A outer s H vs Q E hr h => ?_)
  · obtain ⟨a, v, us, b, rfl, _⟩ := h
    rfl
  · obtain ⟨a, v, us, b, rfl, ha, hv, kk⟩ := h
    refine ⟨_, pss_one (ps_ost (pv 0) (pe_call G1 hr (by rfl) g1 k1 b1 .nil pass0 (pa_cons (pv 1) pa_nil))), ?_⟩
    refine ⟨_, rfl, v, us, b, rfl, hv, fun v' H1 s1 al => ⟨_, rfl, a, C, rfl, T, no, .inl ⟨s1 _ _ ha, fun dx nd dne => ?_⟩⟩⟩
    refine kk dx v' _ (s1.free nd) upd_same (by rw [upd_ne dne]; exact upd_same) (fun b o nb e => ?_) (al.on (fun b xs e => ?_) (fun b xs e => ?_))
    · rw [upd_ne nb, upd_ne (ne_of_none (s1 _ _ e) nd)]
      exact s1 _ _ e
    · have nb : b ≠ a := fun z => by rw [z, s1 _ _ ha] at e; exact exo_lst (Option.some.inj e)
      rw [upd_ne nb, upd_ne (ne_of_none e nd)]; exact e
    · have nb : b ≠ a := fun z => by rw [z, s1 _ _ ha] at e; exact exo_dK (Option.some.inj e)
      rw [upd_ne nb, upd_ne (ne_of_none e nd)]; exact e
/-- what the raising of such an error comes to -/
theorem raisedV {C : Addr} {n : Str} {H : Hp} {v : V} {E : XK} (hv : ∃ us b, Hold H v us b) (k : Told C n H v E) (a' : Addr) (na : H a' = none) :
    spExInit C n [.ref a', v] (upd H a' (exo a' C none)) (fun v' H2 => v' = .non ∧ ∃ (d : Addr) (fs : List (Str × V)), H2 a' = some (exo a' C (some d)) ∧ H2 d = some (exd d fs) ∧ H d = none ∧ E (.ref C) (some d) (upd (del H2 a') d (.xd fs))) (fun _ _ _ => False) := by
  obtain ⟨us, b, hv⟩ := hv
  refine ⟨a', v, us, b, rfl, upd_same, hv.keep (same_new na), fun d v' H' nd ha' hd bt al => ⟨rfl, d, _, ha', hd, ?_, ?_⟩⟩
  · have dne : d ≠ a' := fun z => by rw [z, upd_same] at nd; cases nd
    rw [upd_ne dne] at nd
    exact nd
  · have dne : d ≠ a' := fun z => by rw [z, upd_same] at nd; cases nd
    rw [upd_ne dne] at nd
    have hkeep : ∀ b o, H b = some o → upd (del H' a') d (.xd [(n, v')]) b = some o := fun b o e => by
      rw [upd_ne (ne_of_none e nd), del_ne (ne_of_none e na)]
      exact bt b o (ne_of_none e na) (by rw [upd_ne (ne_of_none e na)]; exact e)
    refine k d v' _ hkeep nd upd_same ?_
    have al2 : Alike H v H' v' := by
      cases al with
      | same => exact .same
      | lst e1 e2 =>
        rename_i a b us
        refine .lst ?_ e2
        have nb : a ≠ a' := fun z => by rw [z, upd_same] at e1; exact exo_lst (Option.some.inj e1)
        rw [upd_ne nb] at e1; exact e1
      | dct e1 e2 =>
        rename_i a b us
        refine .dct ?_ e2
        have nb : a ≠ a' := fun z => by rw [z, upd_same] at e1; exact exo_dK (Option.some.inj e1)
        rw [upd_ne nb] at e1; exact e1
    refine al2.on (fun b xs e => ?_) (fun b xs e => ?_)
    · have n1 : b ≠ a' := fun z => by rw [z, ha'] at e; exact exo_lst (Option.some.inj e)
      have n2 : b ≠ d := fun z => by rw [z, hd] at e; exact exd_lst (Option.some.inj e)
      rw [upd_ne n2, del_ne n1]; exact e
    · have n1 : b ≠ a' := fun z => by rw [z, ha'] at e; exact exo_dK (Option.some.inj e)
      have n2 : b ≠ d := fun z => by rw [z, hd] at e; exact exd_dK (Option.some.inj e)
      rw [upd_ne n2, del_ne n1]; exact e
def spNeedSize (C : Addr) : Sp := fun vs H Q E => ∃ v : V, vs = [v] ∧ IntQ H v ∧ ((inB 2 (10 ^ 12) v = true ∧ Q .non H) ∨ (inB 2 (10 ^ 12) v = false ∧ (∃ us b, Hold H v us b) ∧ Told C "value" H v E))
theorem scNeedSize : FnScope ["value"] ["value"] (defScope sNeedSize) := ⟨rfl, rfl, rfl, by decide +kernel, rfl, by decide +kernel, by decide +kernel⟩
theorem ok_needSize {f C : Addr} {fd : FuncData} (F : Fun K "need_size" "need_size" sNeedSize f fd) (D : Df P w K mg base 2 "is_within" ["value", "least", "most"] spWithinA) {t1 t2 : Tok} (gL : mg "LEAST_SIZE" = some (.int 2 t1)) (gM : mg "MOST_SIZE" = some (.int (10 ^ 12) t2)) (B : ErrV P w K mg base "BadNumber" "value" C) :
    FnOk P w K mg base (L2.CX P w) 6 f fd ["value"] (spNeedSize C) := by
  obtain ⟨fW, fdW, GW, gW, kW, bW⟩ := D.ex
  obtain ⟨TC, gC, fi, fdi, iC, tI, GI, bI⟩ := id B
  refine F.okX scNeedSize (fun vs H Q E h => ?_) (fun cdv A outer s H vs Q E hr h => ?_)
  · obtain ⟨v, rfl, _⟩ := h
    rfl
  · obtain ⟨v, rfl, hq, h⟩ := h
    refine ⟨_, pss_one (ps_if (pt_not (pt_val (pe_call GW (hr.mono (by decide)) (by rfl) gW kW bW .nil pass0 (pa_cons (pv 0) (pa_cons (pe_glob (v := .int 2) rfl gL ⟨_, rfl⟩) (pa_cons (pe_glob (v := .int (10 ^ 12)) rfl gM ⟨_, rfl⟩) pa_nil))))))
      (pss_one (ps_raise rfl (takes_of rfl rfl rfl rfl) (pmk_oex TC iC tI GI (hr.mono (by decide)) bI .nil pass0 (by rfl) gC (pa_cons (pv 0) pa_nil)))) pss_nil), ?_⟩
    rcases h with ⟨z, k⟩ | ⟨z, hv, k⟩
    · refine ⟨_, rfl, _, _, _, rfl, hq, _, rfl, ?_⟩
      rw [z]
      exact iteF k
    · have out : tMkO C (spExInit C "value") [] (tCons (tVar 0) tNil) [some v] H E := ⟨_, rfl, (by show 1 ≤ 1000; decide), fun a' na => raisedV hv k a' na⟩
      refine ⟨_, rfl, _, _, _, rfl, hq, _, rfl, ?_⟩
      rw [z]
      exact iteT out
end
end Ev
namespace Ev
open PySem L2 PySem.Spec PyProof.Rows RZ
/-! Fill rules. -/
structure Fr where
  p : Int
  q : Int
  k : Int
  c : Int
  j : Int
structure Fr.ok (r : Fr) : Prop where
  p1 : 1 ≤ r.p
  p2 : r.p ≤ 12
  q1 : 1 ≤ r.q
  q2 : r.q ≤ 12
  k1 : -12 ≤ r.k
  k2 : r.k ≤ 12
  c1 : 1 ≤ r.c
  c2 : r.c ≤ 5
  j1 : 2 ≤ r.j
  j2 : r.j ≤ 6
def Fr.wd (r : Fr) : Int := if r.c > r.j then r.c else r.j
def Fr.least (r : Fr) (m : Int) : Int := (r.p * m + r.k).fdiv r.q
def Fr.many (r : Fr) : Int := if r.c + 1 < r.j then r.c + 1 else r.j
def Fr.right (r : Fr) (m : Int) : Bool := decide (1 ≤ r.least m) && decide (r.many * r.least m ≤ (r.many - 1) * m + 1)
def fillF (a : Addr) (r : Fr) : List (Str × V) := [("times", .ref a), ("plus", .int r.k), ("cut_of", .int r.c), ("join_of", .int r.j), ("width", .int r.wd)]
def FAt (C : Addr) (H : Hp) (x : Addr) (r : Fr) : Prop := ∃ dx a, H x = some (.ins C dx (fillF a r)) ∧ H a = some (.tup [.int r.p, .int r.q])
theorem FAt.keep {C x : Addr} {H H' : Hp} {r : Fr} (h : FAt C H x r) (k : Same H H') : FAt C H' x r := by
  obtain ⟨dx, a, h1, h2⟩ := h
  exact ⟨dx, a, k _ _ h1, k _ _ h2⟩
theorem FAt.but {C x p : Addr} {H H' : Hp} {r : Fr} {xs : List V} (h : FAt C H x r) (hp : H p = some (.lst xs)) (k : But p H H') : FAt C H' x r := by
  obtain ⟨dx, a, h1, h2⟩ := h
  exact ⟨dx, a, k _ _ (ne_of h1 hp (by intro z; cases z)) h1, k _ _ (ne_of h2 hp (by intro z; cases z)) h2⟩
theorem fill_times (a : Addr) (r : Fr) : (fillF a r).lookup ("times" : Str) = some (.ref a) := lk_hit
theorem fill_plus (a : Addr) (r : Fr) : (fillF a r).lookup ("plus" : Str) = some (.int r.k) := (lk_miss (by decide +kernel)).trans lk_hit
theorem fill_cut (a : Addr) (r : Fr) : (fillF a r).lookup ("cut_of" : Str) = some (.int r.c) := (lk_miss (by decide +kernel)).trans ((lk_miss (by decide +kernel)).trans lk_hit)
theorem fill_join (a : Addr) (r : Fr) : (fillF a r).lookup ("join_of" : Str) = some (.int r.j) := (lk_miss (by decide +kernel)).trans ((lk_miss (by decide +kernel)).trans ((lk_miss (by decide +kernel)).trans lk_hit))
theorem fill_width (a : Addr) (r : Fr) : (fillF a r).lookup ("width" : Str) = some (.int r.wd) := (lk_miss (by decide +kernel)).trans ((lk_miss (by decide +kernel)).trans ((lk_miss (by decide +kernel)).trans ((lk_miss (by decide +kernel)).trans lk_hit)))
theorem fill_no (a : Addr) (r : Fr) {m : Str} (h1 : ¬ m = "times") (h2 : ¬ m = "plus") (h3 : ¬ m = "cut_of") (h4 : ¬ m = "join_of") (h5 : ¬ m = "width") : (fillF a r).lookup m = none := (lk_miss h1).trans ((lk_miss h2).trans ((lk_miss h3).trans ((lk_miss h4).trans ((lk_miss h5).trans rfl))))
def spLeastOf (C : Addr) : Sp := fun vs H Q _ => ∃ (x : Addr) (r : Fr) (m : Int), vs = [.ref x, .int m] ∧ FAt C H x r ∧ r.ok ∧ Q (.int (r.least m)) H
/-- a size asked of a rule: an answer, or an error with that value -/
def SizeK (N : Addr) (H : Hp) (E : XK) (v : V) (good : Int → Prop) : Prop := IntQ H v ∧ ((∃ m, v = .int m ∧ 2 ≤ m ∧ m ≤ 10 ^ 12 ∧ good m) ∨ (inB 2 (10 ^ 12) v = false ∧ (∃ us b, Hold H v us b) ∧ Told N "value" H v E))
theorem mw {q b : Int} (h1 : -b ≤ q) (h2 : q ≤ b) (hb : b ≤ 10 ^ 19) : -(2 ^ 64) < q ∧ q < 2 ^ 64 := ⟨by omega, by omega⟩
theorem inB_in {l m i : Int} (h1 : l ≤ i) (h2 : i ≤ m) : inB l m (.int i) = true := by
  show (decide (l ≤ i) && decide (i ≤ m)) = true
  rw [decide_eq_true h1, decide_eq_true h2]; rfl
section
variable {P : Program} {w : World} {K : PySem.W.Frag} {mg : Str → Option Value} {base : Heap}
theorem scLeastOf : FnScope ["rule", "most", "over", "under"] ["rule", "most"] (defScope sLeastOf) := ⟨rfl, rfl, rfl, by decide +kernel, rfl, by decide +kernel, by decide +kernel⟩
theorem ok_leastOf {f C : Addr} {fd : FuncData} (F : Fun K "least_of" "least_of" sLeastOf f fd) (T : FCls K C) : FnOk P w K mg base CX0 1 f fd ["rule", "most"] (spLeastOf C) := by
  refine F.ok scLeastOf (fun vs H Q E h => ?_) (fun cdv A outer s H vs Q E hr h => ?_)
  · obtain ⟨x, r, m, rfl, _⟩ := h
    rfl
  · obtain ⟨x, r, m, rfl, ⟨dx, a, hx, ha⟩, o, kk⟩ := h
    have o1 := o.q1; have o2 := o.q2
    refine ⟨_, (pss_cons (ps_asg (pe_fld (pv 0) rfl) (pg_tup (by rfl) (pgs_cons (pg_name (i := 2) scLeastOf.nd rfl (.inl rfl)) (pgs_cons (pg_name (i := 3) scLeastOf.nd rfl (.inl rfl)) pgs_nil))))
      (pss_one (ps_ret (pe_op op_fdivN (pe_op op_add (pe_op op_mul (pv 2) (pv 1)) (pe_fld (pv 0) rfl)) (pv 3))))), ?_⟩
    refine ⟨_, rfl, x, C, dx, _, _, rfl, hx, T.cl, T.n1, fill_times _ _, a, _, rfl, SqT.of ha, rfl, _, _, rfl, _, _, rfl, rfl, ?_⟩
    exact ⟨_, rfl, _, rfl, _, _, rfl, rfl, .inl (mw (b := 12) (by have := o.p1; omega) o.p2 (by decide)), _, rfl, x, C, dx, _, _, rfl, hx, T.cl, T.n2, fill_plus _ _, _, _, rfl, rfl, _, rfl, _, _, rfl, rfl, ⟨by omega, by omega⟩, kk⟩
end
end Ev
namespace Ev
open PySem L2 PySem.Spec PyProof.Rows RZ LamX
/-- an instance's kind -/
structure InsT (K : PySem.W.Frag) (C : Addr) : Prop where
  ha : PySem.W.findIn K (.ref C) "__class__" = some (some (.builtin "object.__class__"))
  hn : PySem.W.specialIn K (.builtin "object.__class__") "__get__" = some (some (.builtin "getset_descriptor.__get__"))
  htk : PySem.W.takesIn K (.builtin "object.__class__") = some true
  hm : PySem.W.mroIn K C (.type "object") = some true
  ic : PySem.W.isClsIn K C = true
  tt : PySem.W.typeIn K (.ref C) = some (.type "type")
theorem sub_no {K : PySem.W.Frag} {C : Addr} {T : String} {l : List String} (h : fastBuiltinMro T = some (l.map Value.type)) : PySem.W.subIn K (.type T) (.ref C) = some false := by
  show (fastBuiltinMro T).map (·.contains (.ref C)) = some false
  rw [h]
  have z : (l.map Value.type).contains (.ref C) = false := by
    rw [Bool.eq_false_iff]
    intro z
    have m := List.contains_iff_mem.mp z
    simp at m
  exact congrArg some z
theorem kit_self {K : PySem.W.Frag} {C : Addr} : PySem.W.kitOne K (.ref C) (.ref C) = some true := by
  unfold PySem.W.kitOne
  rw [if_pos (by simp)]
/-- v shows as x -/
def Shows (K : PySem.W.Frag) (H : Hp) (v : V) (x : Str) : Prop := ∃ d : PyData, Vd K H v d ∧ d.showable = true ∧ d.depth ≤ 32 ∧ d.shown.length ≤ sizeLine ∧ d.shown = x
theorem held_lst {cls : Value} {d : Option Addr} {a : Addr} {xs : List V} : HO.lst xs ≠ Held cls d a := fun z => by
  have z : HO.lst xs = HO.ext _ := z
  cases z
theorem sqL_keep {K : PySem.W.Frag} {H H' : Hp} {a : Addr} {xs : List V} (k : Same H H') (h : SqL K H a xs) : SqL K H' a xs := by
  rcases h with (e | ⟨o, e⟩) | e
  · exact .inl (.inl (k _ _ e))
  · exact .inl (.inr ⟨o, k _ _ e⟩)
  · exact .inr e
theorem sqT_keep {K : PySem.W.Frag} {H H' : Hp} {a : Addr} {xs : List V} (k : Same H H') (h : SqT K H a xs) : SqT K H' a xs := by
  rcases h with (e | ⟨o, e⟩) | e
  · exact .inl (.inl (k _ _ e))
  · exact .inl (.inr ⟨o, k _ _ e⟩)
  · exact .inr e
mutual
theorem dp_keep {K : PySem.W.Frag} {H H' : Hp} (k : Same H H') : ∀ (v : V) (d : PyData), Dp K H v d → Dp K H' v d
  | _, _, .non => .non
  | _, _, .bl b => .bl b
  | _, _, .int i => .int i
  | _, _, .str x => .str x
  | _, _, .lst s a => .lst (sqL_keep k s) (dps_keep k _ _ a)
  | _, _, .tup s a => .tup (sqT_keep k s) (dps_keep k _ _ a)
theorem dps_keep {K : PySem.W.Frag} {H H' : Hp} (k : Same H H') : ∀ (vs : List V) (ds : List PyData), DpAll K H vs ds → DpAll K H' vs ds
  | _, _, .nil => .nil
  | _, _, .cons h t => .cons (dp_keep k _ _ h) (dps_keep k _ _ t)
end
theorem Shows.keep {K : PySem.W.Frag} {H H' : Hp} {v : V} {x : Str} (h : Shows K H v x) (k : Same H H') : Shows K H' v x := by
  obtain ⟨d, hd, sh⟩ := h
  refine ⟨d, ?_, sh⟩
  cases hd with
  | plain dp nd => exact .plain (dp_keep k _ _ dp) nd
  | dct e ek ev => exact .dct (k _ _ e) ek ev
/-- the five error classes of the law, and what stands in them -/
structure Five (K : PySem.W.Frag) (mg : Str → Option Value) (B N O G T FE : Addr) : Prop where
  gF : mg "FairError" = some (.ref FE)
  gB : mg "BadRule" = some (.ref B)
  gN : mg "BadNumber" = some (.ref N)
  gO : mg "BadOther" = some (.ref O)
  gG : mg "BadPages" = some (.ref G)
  gT : mg "TooMany" = some (.ref T)
  hB : HeldC K B
  hN : HeldC K N
  hO : HeldC K O
  hG : HeldC K G
  hT : HeldC K T
  fB : PySem.W.findIn K (.ref B) "part" = some none
  fN : PySem.W.findIn K (.ref N) "value" = some none
  fO : PySem.W.findIn K (.ref O) "part" = some none
  fG : PySem.W.findIn K (.ref G) "at" = some none
  fT : PySem.W.findIn K (.ref T) "what" = some none
  fT2 : PySem.W.findIn K (.ref T) "most" = some none
  te : ∀ C, C = B ∨ C = N ∨ C = O ∨ C = G ∨ C = T → PySem.W.exmOne K (.ref C) (.ref FE) = some true
  tv : ∀ C, C = B ∨ C = N ∨ C = O ∨ C = G ∨ C = T → PySem.W.kitOne K (.ref C) (.type "ValueError") = some true
  BN : PySem.W.kitOne K (.ref B) (.ref N) = some false
  BO : PySem.W.kitOne K (.ref B) (.ref O) = some false
  BG : PySem.W.kitOne K (.ref B) (.ref G) = some false
  BT : PySem.W.kitOne K (.ref B) (.ref T) = some false
  NB : PySem.W.kitOne K (.ref N) (.ref B) = some false
  NO : PySem.W.kitOne K (.ref N) (.ref O) = some false
  NG : PySem.W.kitOne K (.ref N) (.ref G) = some false
  NT : PySem.W.kitOne K (.ref N) (.ref T) = some false
  OB : PySem.W.kitOne K (.ref O) (.ref B) = some false
  ON : PySem.W.kitOne K (.ref O) (.ref N) = some false
  OG : PySem.W.kitOne K (.ref O) (.ref G) = some false
  OT : PySem.W.kitOne K (.ref O) (.ref T) = some false
  GB : PySem.W.kitOne K (.ref G) (.ref B) = some false
  GN : PySem.W.kitOne K (.ref G) (.ref N) = some false
  GO : PySem.W.kitOne K (.ref G) (.ref O) = some false
  GT : PySem.W.kitOne K (.ref G) (.ref T) = some false
  TB : PySem.W.kitOne K (.ref T) (.ref B) = some false
  TN : PySem.W.kitOne K (.ref T) (.ref N) = some false
  TO : PySem.W.kitOne K (.ref T) (.ref O) = some false
  TG : PySem.W.kitOne K (.ref T) (.ref G) = some false
def tmF (w : Str) (n : Int) : List (Str × V) := [("most", .int n), ("what", .str w)]
theorem tm_most (w : Str) (n : Int) : (tmF w n).lookup ("most" : Str) = some (.int n) := lk_hit
theorem tm_what (w : Str) (n : Int) : (tmF w n).lookup ("what" : Str) = some (.str w) := (lk_miss (by decide +kernel)).trans lk_hit
/-- what such an error tells: a word and a value -/
def HdC (K : PySem.W.Frag) (B N O G T : Addr) (cls : Value) (fs : List (Str × V)) (H : Hp) (w : Str) (z : V) : Prop :=
  (cls = .ref B ∧ fs = ([("part", z)] : List (Str × V)) ∧ w = "rule") ∨ (cls = .ref N ∧ w = "number" ∧ ∃ v x, fs = ([("value", v)] : List (Str × V)) ∧ z = .str x ∧ Shows K H v x) ∨
  (cls = .ref O ∧ fs = ([("part", z)] : List (Str × V)) ∧ w = "other") ∨ (cls = .ref G ∧ fs = ([("at", z)] : List (Str × V)) ∧ w = "pages") ∨ (cls = .ref T ∧ ∃ n, fs = tmF w n ∧ z = .int n)
/-- what is heard of a call: what it returns, or the word and the field of its error -/
def EHeard (K : PySem.W.Frag) (B N O G T : Addr) (QQ : Addr → Hp → Prop) : XK := fun cls d H' => ∃ (dd : Addr) (fs : List (Str × V)) (w : Str) (z : V), d = some dd ∧ H' dd = some (.xd fs) ∧ HdC K B N O G T cls fs H' w z ∧
    ∀ (r : Addr) (G : Hp), Same H' G → H' r = none → G r = some (.tup [.str w, z]) → QQ r G
def THeard (K : PySem.W.Frag) (B N O G T : Addr) : (XK → Hp → VK → Prop) → Hp → VK → Prop := fun tl H Q => tl (EHeard K B N O G T fun r G => Q (.ref r) G) H fun v H' => [v].length ≤ sizeLine ∧ ∀ r, H' r = none → Q (.ref r) (upd H' r (.lst [v]))
theorem four {σ : L2.St} (h : σ.length = 4) : ∃ x0 x1 x2 x3, σ = [x0, x1, x2, x3] := by
  match σ, h with
  | [x0, x1, x2, x3], _ => exact ⟨x0, x1, x2, x3, rfl⟩
theorem scHeard : FnScope ["_law_ask", "_law_caught", "error", "_law_found"] ["_law_ask"] (defScope sLHeard) := ⟨rfl, rfl, rfl, by decide +kernel, rfl, by decide +kernel, by decide +kernel⟩
section
variable {X : Cx}
theorem heard_gives {B N O G T FE : Addr} {q : Str} {g : Addr} {cdg : Value} (gd : X.A.guards = some []) {k : Nat} (hr : Room (k + 1) X.A) (L : Blt X.mg) (mr : X.mg "repr" = none) (mv : X.mg "ValueError" = none) (Y5 : Five X.K X.mg B N O G T FE) :
    GivesTo X ["_law_ask", "_law_caught", "error", "_law_found"] "_law_heard" (defScope sLHeard) g cdg (defBody sLHeard) "_law_ask" q (THeard X.K B N O G T) := by
  intro f c' s H Q tl act hc h
  refine ⟨_, pss_cons (ps_set (i := 1) scHeard.nd rfl (.inl rfl) pe_non)
    (pss_cons (ps_try_held (X := (cxOf C8.CX0 X.prog X.w X.K X.mg X.base ["_law_ask", "_law_caught", "error", "_law_found"] "_law_heard" (defScope sLHeard) g cdg X.A X.stack s H C8.E0).nox) (c := .ref FE) (i := 2) (Wout := fun _ _ _ _ => False)
      (tb := fun W D σ H => ∃ Ech : XK, (∀ cls d σ' H', Ech cls d H' → W cls d σ' H') ∧ σ[0]? = some (some (.ref f)) ∧ H c' = some (CodeO c' q) ∧ tl Ech H fun v H' => [v].length ≤ sizeLine ∧ ∀ r, H' r = none → D.rt (.ref r) (upd H' r (.lst [v])))
      (ts := fun a cls d => tAsg (tVar 2) (gName 1)) rfl rfl rfl scHeard.nd rfl rfl ⟨rfl, by decide, .inl Y5.gF⟩ L2.takes0 (fun W pn xe tk => ?_) (fun a oe cls d pn _ _ => pss_one (ps_set (i := 1) scHeard.nd rfl (.inl rfl) (pv 2))))
    (pss_cons (ps_set (i := 3) scHeard.nd rfl (.inl rfl) (pe_lst pa_nil))
    (pss_cons (ps_if (pt_val (pe_callB call_isHeld (by rfl) L.isi (by decide +kernel) (pa_cons (pv 1) (pa_cons (pe_glob (v := .ref B) rfl Y5.gB rfl) pa_nil))))
      (pss_one (ps_expr (pe_bm PySem.F.plainAttrs_list PySem.F.slot_list_append PySem.F.type_list_append mt_append (pv 3) (pa_cons (pe_tup (pa_cons pe_str (pa_cons (pe_heldFld (pv 1)) pa_nil))) pa_nil)))) pss_nil)
    (pss_cons (ps_if (pt_val (pe_callB call_isHeld (by rfl) L.isi (by decide +kernel) (pa_cons (pv 1) (pa_cons (pe_glob (v := .ref N) rfl Y5.gN rfl) pa_nil))))
      (pss_one (ps_expr (pe_bm PySem.F.plainAttrs_list PySem.F.slot_list_append PySem.F.type_list_append mt_append (pv 3) (pa_cons (pe_tup (pa_cons pe_str (pa_cons (pe_callB (call_reprV gd (Room.units (hr.deeper _))) (by rfl) mr (by decide +kernel) (pa_cons (pe_heldFld (pv 1)) pa_nil)) pa_nil))) pa_nil)))) pss_nil)
    (pss_cons (ps_if (pt_val (pe_callB call_isHeld (by rfl) L.isi (by decide +kernel) (pa_cons (pv 1) (pa_cons (pe_glob (v := .ref O) rfl Y5.gO rfl) pa_nil))))
      (pss_one (ps_expr (pe_bm PySem.F.plainAttrs_list PySem.F.slot_list_append PySem.F.type_list_append mt_append (pv 3) (pa_cons (pe_tup (pa_cons pe_str (pa_cons (pe_heldFld (pv 1)) pa_nil))) pa_nil)))) pss_nil)
    (pss_cons (ps_if (pt_val (pe_callB call_isHeld (by rfl) L.isi (by decide +kernel) (pa_cons (pv 1) (pa_cons (pe_glob (v := .ref G) rfl Y5.gG rfl) pa_nil))))
      (pss_one (ps_expr (pe_bm PySem.F.plainAttrs_list PySem.F.slot_list_append PySem.F.type_list_append mt_append (pv 3) (pa_cons (pe_tup (pa_cons pe_str (pa_cons (pe_heldFld (pv 1)) pa_nil))) pa_nil)))) pss_nil)
    (pss_cons (ps_if (pt_val (pe_callB call_isHeld (by rfl) L.isi (by decide +kernel) (pa_cons (pv 1) (pa_cons (pe_glob (v := .ref T) rfl Y5.gT rfl) pa_nil))))
      (pss_one (ps_expr (pe_bm PySem.F.plainAttrs_list PySem.F.slot_list_append PySem.F.type_list_append mt_append (pv 3) (pa_cons (pe_tup (pa_cons (pe_heldFld (pv 1)) (pa_cons (pe_heldFld (pv 1)) pa_nil))) pa_nil)))) pss_nil)
    (pss_one (ps_ret (pe_ifExp (PW.pt (pw_and (pt_cmpR op_eq (pe_callB call_len_seq (by rfl) L.len PySem.boot_len (pa_cons (pv 3) pa_nil)) pe_int (nomark _))
        (pw_and1 (pt_val (pe_callB call_isHeld (by rfl) L.isi (by decide +kernel) (pa_cons (pv 1) (pa_cons (pe_bltn (v := .ty "ValueError") (by rfl) mv (by decide +kernel) rfl) pa_nil)))))))
      (pe_ix ix_list (pv 3) pe_int (fun _ _ => rfl)) pe_never)))))))))), ?_⟩
  · refine ⟨fun pins s' σ H' D I h' => ?_⟩
    obtain ⟨Ech, hW, h1, h2, h3⟩ := h'
    exact (pss_one (ps_ret (pe_lst (pa_cons (act W pn xe Ech _ _ tk hW) pa_nil)))).run pins s' σ H' D I ⟨h1, h2, h3⟩
  · refine ⟨_, fun cls d σ' H' z hlen => ?_, rfl, hc, h⟩
    obtain ⟨dd, fs, w, zv, rfl, ed, hcls, fin⟩ := z
    have te : PySem.W.exmOne X.K cls (.ref FE) = some true := by
      rcases hcls with ⟨rfl, _⟩ | ⟨rfl, _⟩ | ⟨rfl, _⟩ | ⟨rfl, _⟩ | ⟨rfl, _⟩ <;> exact Y5.te _ (by simp)
    obtain ⟨x0, x1, x2, x3, rfl⟩ := four hlen
    refine ⟨true, te, (fun z => by cases z), fun _ a na => ⟨_, rfl, fun _ => ?_⟩⟩
    have sA : Same H' (upd H' a (Held cls (some dd) a)) := same_new na
    have hA : upd H' a (Held cls (some dd) a) a = some (Held cls (some dd) a) := upd_same
    have hD := sA _ _ ed
    generalize upd H' a (Held cls (some dd) a) = HA at sA hA hD
    refine ⟨(by show 0 ≤ sizeLine; decide), fun l nl => ?_⟩
    have hA1 := same_new (o := .lst []) nl _ _ hA
    have hD1 := same_new (o := .lst []) nl _ _ hD
    have sB := sA.trans (same_new (o := .lst []) nl)
    have hl : upd HA l (.lst []) l = some (.lst []) := upd_same
    generalize upd HA l (.lst []) = HB at hA1 hD1 sB hl
    have nlH : H' l = none := Same.gone sA nl
    have tail : ∀ (tq : Addr), HB tq = none →
        upd (upd HB tq (.tup [.str w, zv])) l (.lst [.ref tq]) a = some (Held cls (some dd) a) ∧ upd (upd HB tq (.tup [.str w, zv])) l (.lst [.ref tq]) dd = some (.xd fs) ∧ upd (upd HB tq (.tup [.str w, zv])) l (.lst [.ref tq]) l = some (.lst [.ref tq]) ∧
        Q (.ref tq) (upd (upd HB tq (.tup [.str w, zv])) l (.lst [.ref tq])) := by
      intro tq ntq
      have ltq : l ≠ tq := ne_of_none hl ntq
      have hq : upd (upd HB tq (.tup [.str w, zv])) l (.lst [.ref tq]) tq = some (.tup [.str w, zv]) := by rw [upd_ne ltq.symm]; exact upd_same
      refine ⟨?_, ?_, upd_same, ?_⟩
      · rw [upd_ne (fun z => by rw [z, hl] at hA1; exact held_lst (Option.some.inj hA1)), upd_ne (ne_of_none hA1 ntq)]; exact hA1
      · rw [upd_ne (fun z => by rw [z, hl] at hD1; cases hD1), upd_ne (ne_of_none hD1 ntq)]; exact hD1
      · refine fin tq _ (fun b o e => ?_) (Same.gone sB ntq) hq
        rw [upd_ne (ne_of_none e nlH), upd_ne (ne_of_none (sB _ _ e) ntq)]; exact sB _ _ e
    have at0 : ∀ tq : Addr, atI [V.ref tq] 0 = some (V.ref tq) := fun tq => atI_nat (j := 0) rfl
    rcases hcls with ⟨rfl, rfl, rfl⟩ | ⟨rfl, rfl, v, x, rfl, rfl, sh⟩ | ⟨rfl, rfl, rfl⟩ | ⟨rfl, rfl, rfl⟩ | ⟨rfl, n, rfl, rfl⟩
    · have Z1A := hA1; have Z1D := hD1
      refine ⟨_, rfl, a, B, dd, _, _, _, true, rfl, Z1A, Z1D, Y5.hB, .own B, kit_self, _, rfl, iteT ?_⟩
      refine ⟨_, rfl, .inl ⟨rfl, _, SqL.of hl⟩, _, rfl, a, B, dd, _, _, rfl, Z1A, Z1D, Y5.hB, Y5.fB, lk_hit, (by show 2 ≤ sizeLine; decide), fun tq ntq => ?_⟩
      obtain ⟨Z2A, Z2D, hl3, hQ⟩ := tail tq ntq
      refine ⟨l, _, _, rfl, rfl, same_new ntq _ _ hl, (by show 0 < sizeLine; decide), ?_⟩
      refine ⟨_, rfl, a, B, dd, _, _, _, false, rfl, Z2A, Z2D, Y5.hB, .own N, Y5.BN, _, rfl, iteF ?_⟩
      refine ⟨_, rfl, a, B, dd, _, _, _, false, rfl, Z2A, Z2D, Y5.hB, .own O, Y5.BO, _, rfl, iteF ?_⟩
      refine ⟨_, rfl, a, B, dd, _, _, _, false, rfl, Z2A, Z2D, Y5.hB, .own G, Y5.BG, _, rfl, iteF ?_⟩
      refine ⟨_, rfl, a, B, dd, _, _, _, false, rfl, Z2A, Z2D, Y5.hB, .own T, Y5.BT, _, rfl, iteF ?_⟩
      refine ⟨_, rfl, l, _, rfl, .inl (SqL.of hl3), rfl, _, rfl, iteT ?_⟩
      refine ⟨_, rfl, a, B, dd, _, _, _, true, rfl, Z2A, Z2D, Y5.hB, .ty _, Y5.tv _ (by simp), _, rfl, iteT ?_⟩
      exact ⟨_, rfl, l, _, 0, _, rfl, rfl, SqL.of hl3, at0 tq, hQ⟩
    · have Z1A := hA1; have Z1D := hD1
      refine ⟨_, rfl, a, N, dd, _, _, _, false, rfl, Z1A, Z1D, Y5.hN, .own B, Y5.NB, _, rfl, iteF ?_⟩
      refine ⟨_, rfl, a, N, dd, _, _, _, true, rfl, Z1A, Z1D, Y5.hN, .own N, kit_self, _, rfl, iteT ?_⟩
      obtain ⟨d, vd, v1, v2, v3, v4⟩ := sh.keep sB
      refine ⟨_, rfl, .inl ⟨rfl, _, SqL.of hl⟩, _, rfl, a, N, dd, _, v, rfl, Z1A, Z1D, Y5.hN, Y5.fN, lk_hit, v, d, rfl, vd, v1, v2, v3, (by show 2 ≤ sizeLine; decide), fun tq ntq => ?_⟩
      rw [v4]
      obtain ⟨Z2A, Z2D, hl3, hQ⟩ := tail tq ntq
      refine ⟨l, _, _, rfl, rfl, same_new ntq _ _ hl, (by show 0 < sizeLine; decide), ?_⟩
      refine ⟨_, rfl, a, N, dd, _, _, _, false, rfl, Z2A, Z2D, Y5.hN, .own O, Y5.NO, _, rfl, iteF ?_⟩
      refine ⟨_, rfl, a, N, dd, _, _, _, false, rfl, Z2A, Z2D, Y5.hN, .own G, Y5.NG, _, rfl, iteF ?_⟩
      refine ⟨_, rfl, a, N, dd, _, _, _, false, rfl, Z2A, Z2D, Y5.hN, .own T, Y5.NT, _, rfl, iteF ?_⟩
      refine ⟨_, rfl, l, _, rfl, .inl (SqL.of hl3), rfl, _, rfl, iteT ?_⟩
      refine ⟨_, rfl, a, N, dd, _, _, _, true, rfl, Z2A, Z2D, Y5.hN, .ty _, Y5.tv _ (by simp), _, rfl, iteT ?_⟩
      exact ⟨_, rfl, l, _, 0, _, rfl, rfl, SqL.of hl3, at0 tq, hQ⟩
    · have Z1A := hA1; have Z1D := hD1
      refine ⟨_, rfl, a, O, dd, _, _, _, false, rfl, Z1A, Z1D, Y5.hO, .own B, Y5.OB, _, rfl, iteF ?_⟩
      refine ⟨_, rfl, a, O, dd, _, _, _, false, rfl, Z1A, Z1D, Y5.hO, .own N, Y5.ON, _, rfl, iteF ?_⟩
      refine ⟨_, rfl, a, O, dd, _, _, _, true, rfl, Z1A, Z1D, Y5.hO, .own O, kit_self, _, rfl, iteT ?_⟩
      refine ⟨_, rfl, .inl ⟨rfl, _, SqL.of hl⟩, _, rfl, a, O, dd, _, _, rfl, Z1A, Z1D, Y5.hO, Y5.fO, lk_hit, (by show 2 ≤ sizeLine; decide), fun tq ntq => ?_⟩
      obtain ⟨Z2A, Z2D, hl3, hQ⟩ := tail tq ntq
      refine ⟨l, _, _, rfl, rfl, same_new ntq _ _ hl, (by show 0 < sizeLine; decide), ?_⟩
      refine ⟨_, rfl, a, O, dd, _, _, _, false, rfl, Z2A, Z2D, Y5.hO, .own G, Y5.OG, _, rfl, iteF ?_⟩
      refine ⟨_, rfl, a, O, dd, _, _, _, false, rfl, Z2A, Z2D, Y5.hO, .own T, Y5.OT, _, rfl, iteF ?_⟩
      refine ⟨_, rfl, l, _, rfl, .inl (SqL.of hl3), rfl, _, rfl, iteT ?_⟩
      refine ⟨_, rfl, a, O, dd, _, _, _, true, rfl, Z2A, Z2D, Y5.hO, .ty _, Y5.tv _ (by simp), _, rfl, iteT ?_⟩
      exact ⟨_, rfl, l, _, 0, _, rfl, rfl, SqL.of hl3, at0 tq, hQ⟩
    · have Z1A := hA1; have Z1D := hD1
      refine ⟨_, rfl, a, G, dd, _, _, _, false, rfl, Z1A, Z1D, Y5.hG, .own B, Y5.GB, _, rfl, iteF ?_⟩
      refine ⟨_, rfl, a, G, dd, _, _, _, false, rfl, Z1A, Z1D, Y5.hG, .own N, Y5.GN, _, rfl, iteF ?_⟩
      refine ⟨_, rfl, a, G, dd, _, _, _, false, rfl, Z1A, Z1D, Y5.hG, .own O, Y5.GO, _, rfl, iteF ?_⟩
      refine ⟨_, rfl, a, G, dd, _, _, _, true, rfl, Z1A, Z1D, Y5.hG, .own G, kit_self, _, rfl, iteT ?_⟩
      refine ⟨_, rfl, .inl ⟨rfl, _, SqL.of hl⟩, _, rfl, a, G, dd, _, _, rfl, Z1A, Z1D, Y5.hG, Y5.fG, lk_hit, (by show 2 ≤ sizeLine; decide), fun tq ntq => ?_⟩
      obtain ⟨Z2A, Z2D, hl3, hQ⟩ := tail tq ntq
      refine ⟨l, _, _, rfl, rfl, same_new ntq _ _ hl, (by show 0 < sizeLine; decide), ?_⟩
      refine ⟨_, rfl, a, G, dd, _, _, _, false, rfl, Z2A, Z2D, Y5.hG, .own T, Y5.GT, _, rfl, iteF ?_⟩
      refine ⟨_, rfl, l, _, rfl, .inl (SqL.of hl3), rfl, _, rfl, iteT ?_⟩
      refine ⟨_, rfl, a, G, dd, _, _, _, true, rfl, Z2A, Z2D, Y5.hG, .ty _, Y5.tv _ (by simp), _, rfl, iteT ?_⟩
      exact ⟨_, rfl, l, _, 0, _, rfl, rfl, SqL.of hl3, at0 tq, hQ⟩
    · have Z1A := hA1; have Z1D := hD1
      refine ⟨_, rfl, a, T, dd, _, _, _, false, rfl, Z1A, Z1D, Y5.hT, .own B, Y5.TB, _, rfl, iteF ?_⟩
      refine ⟨_, rfl, a, T, dd, _, _, _, false, rfl, Z1A, Z1D, Y5.hT, .own N, Y5.TN, _, rfl, iteF ?_⟩
      refine ⟨_, rfl, a, T, dd, _, _, _, false, rfl, Z1A, Z1D, Y5.hT, .own O, Y5.TO, _, rfl, iteF ?_⟩
      refine ⟨_, rfl, a, T, dd, _, _, _, false, rfl, Z1A, Z1D, Y5.hT, .own G, Y5.TG, _, rfl, iteF ?_⟩
      refine ⟨_, rfl, a, T, dd, _, _, _, true, rfl, Z1A, Z1D, Y5.hT, .own T, kit_self, _, rfl, iteT ?_⟩
      refine ⟨_, rfl, .inl ⟨rfl, _, SqL.of hl⟩, _, rfl, a, T, dd, _, _, rfl, Z1A, Z1D, Y5.hT, Y5.fT, tm_what _ _, _, rfl, a, T, dd, _, _, rfl, Z1A, Z1D, Y5.hT, Y5.fT2, tm_most _ _, (by show 2 ≤ sizeLine; decide), fun tq ntq => ?_⟩
      obtain ⟨Z2A, Z2D, hl3, hQ⟩ := tail tq ntq
      refine ⟨l, _, _, rfl, rfl, same_new ntq _ _ hl, (by show 0 < sizeLine; decide), ?_⟩
      refine ⟨_, rfl, l, _, rfl, .inl (SqL.of hl3), rfl, _, rfl, iteT ?_⟩
      refine ⟨_, rfl, a, T, dd, _, _, _, true, rfl, Z2A, Z2D, Y5.hT, .ty _, Y5.tv _ (by simp), _, rfl, iteT ?_⟩
      exact ⟨_, rfl, l, _, 0, _, rfl, rfl, SqL.of hl3, at0 tq, hQ⟩
end
end Ev
namespace Ev
open PySem L2 PySem.Spec PyProof.Rows
theorem Pen.new {L : Addr} {H : Hp} {p q : Addr} {B : Int} {o : HO} (h : Pen L H p B) (n : H q = none) : Pen L (upd H q o) p B := h.keep (fun b u e => by rw [upd_ne (ne_of_none e n)]; exact e)
theorem Pen.some {L : Addr} {H : Hp} {p : Addr} {B : Int} (h : Pen L H p B) : ∃ xs, H p = some (.lst xs) := by
  obtain ⟨ns, t, c, h1, _⟩ := h
  exact ⟨_, h1⟩
theorem Pen.ne {L : Addr} {H : Hp} {p q : Addr} {B : Int} (h : Pen L H p B) (n : H q = none) : q ≠ p := by
  obtain ⟨xs, e⟩ := h.some
  exact (ne_of_none e n).symm
theorem But.free {L p a : Addr} {H H' : Hp} {B : Int} (t : But p H H') (h : Pen L H' p B) (n : H' a = none) : H a = none := by
  cases e : H a with
  | none => rfl
  | some o =>
    have := t a o (h.ne n) e
    rw [n] at this
    cases this
def spPick : Sp := fun vs H Q _ => ∃ (p l L : Addr) (xs : List V) (B : Int), vs = [.ref p, .ref l] ∧ H l = some (.lst xs) ∧ l ≠ p ∧ 1 ≤ xs.length ∧ xs.length ≤ 1000 ∧ B ≤ 1000000 ∧ Pen L H p B ∧
  ∀ (d : V) (H' : Hp), d ∈ xs → But p H H' → Pen L H' p (B + 1) → Q d H'
def spPen (K : PySem.W.Frag) : Sp := fun vs H Q _ => ∃ (a : Addr) (ns : List Int), vs = [.ref a] ∧ SqL K H a (ns.map V.int) ∧ ns.length ≤ 63 ∧
  ∀ (p L : Addr) (H' : Hp), H p = none → Same H H' → Pen L H' p 0 → Q (.ref p) H'
def spLaw (K : PySem.W.Frag) : Sp := fun vs H Q _ => ∃ (a : Addr) (ns : List Int), vs = [.ref a] ∧ SqL K H a (ns.map V.int) ∧ ns.length ≤ 63 ∧ ∀ H', Q (.bl true) H'
theorem But.tup {L p a : Addr} {H H' : Hp} {B : Int} {xs : List V} (h : H a = some (.tup xs)) (pn : Pen L H p B) (t : But p H H') : H' a = some (.tup xs) := by
  obtain ⟨ys, e⟩ := pn.some
  exact t _ _ (ne_of h e (by intro z; cases z)) h
theorem Pen.put {L p D : Addr} {H : Hp} {B : Int} {o : HO} (h : Pen L H p B) (d1 : D ≠ p) (d2 : D ≠ L) : Pen L (upd H D o) p B := by
  obtain ⟨ns, t, c, h1, h2, h3⟩ := h
  exact ⟨ns, t, c, by rw [upd_ne d1.symm]; exact h1, by rw [upd_ne d2.symm]; exact h2, h3⟩
theorem Pen.neL {L p D : Addr} {H : Hp} {B : Int} (h : Pen L H p B) (n : H D = none) : D ≠ L := by
  obtain ⟨ns, t, c, h1, h2, h3⟩ := h
  exact (ne_of_none h2 n).symm
theorem cut_ints (ns : List Int) (h : Int) : ∃ ms : List Int, cutV (ns.map V.int) none (some h) = ms.map V.int ∧ ms.length ≤ ns.length := by
  unfold cutV
  generalize HT.sIx (ns.map V.int).length 0 none = x
  generalize HT.sIx (ns.map V.int).length (ns.map V.int).length (some h) - x = y
  refine ⟨(ns.drop x).take y, ?_, ?_⟩
  · rw [List.map_take, List.map_drop]
  · rw [List.length_take, List.length_drop]; omega
theorem int_at {ns : List Int} {i : Nat} {x : V} (h : (ns.map V.int)[i]? = some x) : ∃ n, ns[i]? = some n ∧ x = .int n := by
  rw [List.getElem?_map] at h
  cases z : ns[i]? with
  | none => rw [z] at h; cases h
  | some n => rw [z] at h; exact ⟨n, rfl, (Option.some.inj h).symm⟩
theorem m64 {q : Int} (h1 : 1 ≤ q) (h2 : q ≤ 8) : -(2 ^ 64) < q ∧ q < 2 ^ 64 := ⟨by omega, by omega⟩
section
variable {P : Program} {w : World} {K : PySem.W.Frag} {mg : Str → Option Value} {base : Heap}
theorem scPick : FnScope ["_law_pen_here", "_law_some"] ["_law_pen_here", "_law_some"] (defScope sPick) := ⟨rfl, rfl, rfl, by decide +kernel, rfl, by decide +kernel, by decide +kernel⟩
theorem ok_pick {f : Addr} {fd : FuncData} (F : Fun K "_law_pick" "_law_pick" sPick f fd) (T : Blt mg) (D : Df P w K mg base 1 "_law_draw" ["_law_pen_here", "_law_many"] spDraw) : FnOk P w K mg base CX0 2 f fd ["_law_pen_here", "_law_some"] spPick := by
  obtain ⟨f1, fd1, G1, g1, k1, b1⟩ := D.ex
  refine F.ok scPick (fun vs H Q E h => ?_) (fun cdv A outer s H vs Q E hr h => ?_)
  · obtain ⟨p, l, L, xs, B, rfl, _⟩ := h
    rfl
  · obtain ⟨p, l, L, xs, B, rfl, hl, hne, x1, x2, hB, hp, kk⟩ := h
    refine ⟨_, pss_one (ps_ret (pe_ix ix_list (pv 1) (pe_call G1 hr (by rfl) g1 k1 b1 .nil pass0 (pa_cons (pv 0) (pa_cons (pe_callB call_len_seq (by rfl) T.len PySem.boot_len (pa_cons (pv 1) pa_nil)) pa_nil))) (fun _ _ => rfl))), ?_⟩
    refine ⟨_, rfl, _, rfl, _, rfl, l, _, rfl, .inl (SqL.of hl), p, L, _, B, rfl, by omega, by omega, hB, hp, fun d H1 bt pn d0 d1 => ?_⟩
    obtain ⟨j, rfl⟩ := Int.eq_ofNat_of_zero_le d0
    have hj : j < xs.length := by omega
    refine ⟨l, xs, _, xs[j], rfl, rfl, SqL.of (bt _ _ hne hl), atI_nat (List.getElem?_eq_getElem hj), ?_⟩
    exact kk _ _ (List.getElem_mem hj) bt pn
theorem scPen : FnScope ["_law_script"] ["_law_script"] (defScope sPen) := ⟨rfl, rfl, rfl, by decide +kernel, rfl, by decide +kernel, by decide +kernel⟩
theorem ok_pen {f : Addr} {fd : FuncData} (F : Fun K "_law_pen" "_law_pen" sPen f fd) (T : Blt mg) : FnOk P w K mg base CX0 1 f fd ["_law_script"] (spPen K) := by
  refine F.ok scPen (fun vs H Q E h => ?_) (fun cdv A outer s H vs Q E hr h => ?_)
  · obtain ⟨a, ns, rfl, _⟩ := h
    rfl
  · obtain ⟨a, ns, rfl, hS, hlen, kk⟩ := h
    refine ⟨_, pss_one (ps_ret (pe_lst (pa_cons (pe_callTy call_list_of (by rfl) T.list (by decide +kernel) (pa_cons (pe_slice sl_list (pv 0) po_none (po_some pe_int)) pa_nil)) (pa_cons pe_int (pa_cons pe_int pa_nil))))), ?_⟩
    refine ⟨_, rfl, _, rfl, a, _, rfl, hS, fun l1 nl1 => ⟨l1, _, rfl, .inl (SqL.of upd_same), fun l2 nl2 => ⟨(by show 3 ≤ sizeLine; decide), fun p np => ?_⟩⟩⟩
    obtain ⟨ms, e1, e2⟩ := cut_ints ns 63
    rw [e1] at nl2 np ⊢
    have s1 : Same H (upd (upd H l1 (.lst (ms.map V.int))) l2 (.lst (ms.map V.int))) := (same_new nl1).trans (same_new nl2)
    have s2 := s1.trans (same_new (o := .lst [.ref l2, .int 0, .int 0]) np)
    refine kk p l2 _ ?_ s2 ⟨ms, 0, 0, upd_same, by rw [upd_ne (ne_of_none upd_same np)]; exact upd_same, ne_of_none upd_same np, by omega, by decide, by decide, by decide⟩
    cases z : H p with
    | none => rfl
    | some o => rw [s1 _ _ z] at np; cases np
end
end Ev
namespace Ev
open PySem L2 PySem.Spec PyProof.Rows RZ
def tupR (r : Fr) : List V := [.int r.p, .int r.q, .int r.k, .int r.c, .int r.j]
def spLNums : Sp := fun vs H Q _ => ∃ (p L : Addr) (B : Int), vs = [.ref p] ∧ B ≤ 900000 ∧ Pen L H p B ∧
  ∀ (a : Addr) (r : Fr) (H' : Hp), r.ok → H a = none → H' a = some (.tup (tupR r)) → But p H H' → Pen L H' p (B + 10) → Q (.ref a) H'
def spLRule (C : Addr) : Sp := fun vs H Q _ => ∃ (a : Addr) (r : Fr), vs = [.ref a] ∧ H a = some (.tup (tupR r)) ∧ r.ok ∧ ∀ x H', Same H H' → FAt C H' x r → Q (.ref x) H'
theorem i5_0 {a b c d e : V} : atI [a, b, c, d, e] 0 = some a := atI_nat (j := 0) rfl
theorem i5_1 {a b c d e : V} : atI [a, b, c, d, e] 1 = some b := atI_nat (j := 1) rfl
theorem i5_2 {a b c d e : V} : atI [a, b, c, d, e] 2 = some c := atI_nat (j := 2) rfl
theorem i5_3 {a b c d e : V} : atI [a, b, c, d, e] 3 = some d := atI_nat (j := 3) rfl
theorem i5_4 {a b c d e : V} : atI [a, b, c, d, e] 4 = some e := atI_nat (j := 4) rfl
section
variable {P : Program} {w : World} {K : PySem.W.Frag} {mg : Str → Option Value} {base : Heap}
theorem scLNumbers : FnScope ["_law_pen_here", "_law_kind", "_law_pair", "_law_extra"] ["_law_pen_here"] (defScope sLNumbers) := ⟨rfl, rfl, rfl, by decide +kernel, rfl, by decide +kernel, by decide +kernel⟩
theorem ok_lnums {f : Addr} {fd : FuncData} (F : Fun K "_law_numbers" "_law_numbers" sLNumbers f fd) (T : Blt mg) (D1 : Df P w K mg base 1 "_law_draw" ["_law_pen_here", "_law_many"] spDraw) : FnOk P w K mg base CX0 2 f fd ["_law_pen_here"] spLNums := by
  obtain ⟨f1, fd1, G1, g1, k1, b1⟩ := D1.ex
  refine F.ok scLNumbers (fun vs H Q E h => ?_) (fun cdv A outer s H vs Q E hr h => ?_)
  · obtain ⟨p, L, B, rfl, _⟩ := h
    rfl
  · obtain ⟨p, L, B, rfl, hB, pn, kk⟩ := h
    -- from the pair on
    obtain ⟨tR, hR, qR⟩ : ∃ t : TS, PSs (cxOf CX0 P w K mg base ["_law_pen_here", "_law_kind", "_law_pair", "_law_extra"] "_law_numbers" (defScope sLNumbers) f cdv A outer s H E).nox ((defBody sLNumbers).drop 3) t ∧ ∀ (G : Hp) (a : Addr) (u v kd : Int), G a = some (.tup [.int u, .int v]) → 1 ≤ u ∧ u ≤ 12 → 1 ≤ v ∧ v ≤ 12 → But p H G → Pen L G p (B + 4) →
        t { nx := fun _ H' => Q .non H', rt := Q } [some (.ref p), some (.int kd), some (.ref a), none] G := by
      refine ⟨_, (pss_cons (ps_set (i := 3) scLNumbers.nd rfl (.inl rfl) (pe_ifExp (pt_cmpR op_eq (pe_call G1 hr (by rfl) g1 k1 b1 .nil pass0 (pa_cons (pv 0) (pa_cons pe_int pa_nil))) pe_int (nomark _)) (pe_op op_sub (pe_call G1 hr (by rfl) g1 k1 b1 .nil pass0 (pa_cons (pv 0) (pa_cons pe_int pa_nil))) pe_int) pe_int))
        (pss_one (ps_ret (pe_tup (pa_cons (pe_ix ix_tup (pv 2) pe_int (fun _ _ => rfl)) (pa_cons (pe_ix ix_tup (pv 2) pe_int (fun _ _ => rfl)) (pa_cons (pv 3) (pa_cons (pe_op op_add pe_int (pe_call G1 hr (by rfl) g1 k1 b1 .nil pass0 (pa_cons (pv 0) (pa_cons pe_int pa_nil)))) (pa_cons (pe_op op_add pe_int (pe_call G1 hr (by rfl) g1 k1 b1 .nil pass0 (pa_cons (pv 0) (pa_cons pe_int pa_nil)))) pa_nil))))))))), ?_⟩
      intro G a u v kd ha hu hv bt pn
      have fin : ∀ (G2 : Hp) (e : Int), -12 ≤ e → e ≤ 12 → But p H G2 → G2 a = some (.tup [.int u, .int v]) → Pen L G2 p (B + 6) → ∀ (d1 d2 : Int) (G3 G4 : Hp), 0 ≤ d1 → d1 < 5 → 0 ≤ d2 → d2 < 5 → But p G2 G3 → But p G3 G4 → Pen L G4 p (B + 8) → ∀ t, G4 t = none → Q (.ref t) (upd G4 t (.tup [.int u, .int v, .int e, .int (1 + d1), .int (2 + d2)])) := by
        intro G2 e e1 e2 bt2 ha2 pn2 d1 d2 G3 G4 h1 h2 h3 h4 bt3 bt4 pn4 t nt
        have b4 : But p H G4 := bt2.trans (bt3.trans bt4)
        exact kk t ⟨u, v, e, 1 + d1, 2 + d2⟩ _ ⟨hu.1, hu.2, hv.1, hv.2, e1, e2, by show 1 ≤ 1 + d1; omega, by show 1 + d1 ≤ 5; omega, by show 2 ≤ 2 + d2; omega, by show 2 + d2 ≤ 6; omega⟩ (b4.free pn4 nt) upd_same (b4.trans (But.upd_new nt)) ((pn4.new nt).mono (by omega))
      refine ⟨_, rfl, p, L, _, _, rfl, by decide, by decide, by omega, pn, fun d G1 t1 p1 a1 c1 => ⟨rfl, _, rfl, ite2 (fun e => ?_) (fun e => ?_)⟩⟩
      · refine ⟨_, rfl, p, L, _, _, rfl, by decide, by decide, by omega, p1, fun d2 G2 t2 p2 a2 c2 => ⟨_, _, rfl, rfl, ?_⟩⟩
        have bt2 := bt.trans (t1.trans t2)
        have ha2 : G2 a = some (.tup [.int u, .int v]) := But.tup ha pn (t1.trans t2)
        refine ⟨_, rfl, a, _, _, _, rfl, rfl, SqT.of ha2, tup0, _, rfl, a, _, _, _, rfl, rfl, SqT.of ha2, tup1, _, rfl, _, rfl, p, L, _, _, rfl, by decide, by decide, by omega, p2, fun d3 G3 t3 p3 a3 c3 => ⟨_, _, rfl, rfl, ?_⟩⟩
        refine ⟨_, rfl, p, L, _, _, rfl, by decide, by decide, by omega, p3, fun d4 G4 t4 p4 a4 c4 => ⟨_, _, rfl, rfl, (by show 5 ≤ sizeLine; decide), fun t nt => ?_⟩⟩
        exact fin G2 (d2 - 12) (by omega) (by omega) bt2 ha2 (p2.mono (by omega)) d3 d4 G3 G4 a3 c3 a4 c4 t3 t4 (p4.mono (by omega)) t nt
      · have bt2 := bt.trans t1
        have ha2 : G1 a = some (.tup [.int u, .int v]) := But.tup ha pn t1
        refine ⟨_, rfl, a, _, _, _, rfl, rfl, SqT.of ha2, tup0, _, rfl, a, _, _, _, rfl, rfl, SqT.of ha2, tup1, _, rfl, _, rfl, p, L, _, _, rfl, by decide, by decide, by omega, p1, fun d3 G3 t3 p3 a3 c3 => ⟨_, _, rfl, rfl, ?_⟩⟩
        refine ⟨_, rfl, p, L, _, _, rfl, by decide, by decide, by omega, p3, fun d4 G4 t4 p4 a4 c4 => ⟨_, _, rfl, rfl, (by show 5 ≤ sizeLine; decide), fun t nt => ?_⟩⟩
        exact fin G1 0 (by omega) (by omega) bt2 ha2 (p1.mono (by omega)) d3 d4 G3 G4 a3 c3 a4 c4 t3 t4 (p4.mono (by omega)) t nt
    refine ⟨_, (pss_cons (ps_set (i := 1) scLNumbers.nd rfl (.inl rfl) (pe_call G1 hr (by rfl) g1 k1 b1 .nil pass0 (pa_cons (pv 0) (pa_cons pe_int pa_nil))))
      (pss_cons (ps_set (i := 2) scLNumbers.nd rfl (.inl rfl) (pe_ix ix_list (pe_lst (pa_cons (pe_tup (pa_cons pe_int (pa_cons pe_int pa_nil))) (pa_cons (pe_tup (pa_cons pe_int (pa_cons pe_int pa_nil))) (pa_cons (pe_tup (pa_cons pe_int (pa_cons pe_int pa_nil))) (pa_cons (pe_tup (pa_cons pe_int (pa_cons pe_int pa_nil))) (pa_cons (pe_tup (pa_cons pe_int (pa_cons pe_int pa_nil))) pa_nil)))))) (pv 1) (fun _ _ => rfl)))
      (pss_cons (ps_if (pt_cmpR op_gt (pv 1) pe_int (nomark _))
        (pss_one (ps_set (i := 2) scLNumbers.nd rfl (.inl rfl) (pe_tup (pa_cons (pe_op op_add pe_int (pe_call G1 hr (by rfl) g1 k1 b1 .nil pass0 (pa_cons (pv 0) (pa_cons pe_int pa_nil)))) (pa_cons (pe_op op_add pe_int (pe_call G1 hr (by rfl) g1 k1 b1 .nil pass0 (pa_cons (pv 0) (pa_cons pe_int pa_nil)))) pa_nil))))) pss_nil)
      hR))), ?_⟩
    refine ⟨_, rfl, p, L, _, _, rfl, by decide, by decide, by omega, pn, fun d H1 t1 p1 a1 c1 => ?_⟩
    refine ⟨(by show 2 ≤ sizeLine; decide), fun x1 n1 => ⟨(by show 2 ≤ sizeLine; decide), fun x2 n2 => ⟨(by show 2 ≤ sizeLine; decide), fun x3 n3 => ⟨(by show 2 ≤ sizeLine; decide), fun x4 n4 => ⟨(by show 2 ≤ sizeLine; decide), fun x5 n5 => ⟨(by show 5 ≤ sizeLine; decide), fun l nl => ?_⟩⟩⟩⟩⟩⟩
    -- five pairs
    have e1 : upd H1 x1 (.tup [.int 1, .int 2]) x1 = some (.tup [.int 1, .int 2]) := upd_same
    have s1 : Same H1 (upd H1 x1 (.tup [.int 1, .int 2])) := same_new n1
    generalize upd H1 x1 (.tup [.int 1, .int 2]) = G1 at e1 s1 n2 n3 n4 n5 nl ⊢
    have e2 : upd G1 x2 (.tup [.int 2, .int 3]) x2 = some (.tup [.int 2, .int 3]) := upd_same
    have s2 : Same G1 (upd G1 x2 (.tup [.int 2, .int 3])) := same_new n2
    generalize upd G1 x2 (.tup [.int 2, .int 3]) = G2 at e2 s2 n3 n4 n5 nl ⊢
    have e3 : upd G2 x3 (.tup [.int 3, .int 4]) x3 = some (.tup [.int 3, .int 4]) := upd_same
    have s3 : Same G2 (upd G2 x3 (.tup [.int 3, .int 4])) := same_new n3
    generalize upd G2 x3 (.tup [.int 3, .int 4]) = G3 at e3 s3 n4 n5 nl ⊢
    have e4 : upd G3 x4 (.tup [.int 1, .int 1]) x4 = some (.tup [.int 1, .int 1]) := upd_same
    have s4 : Same G3 (upd G3 x4 (.tup [.int 1, .int 1])) := same_new n4
    generalize upd G3 x4 (.tup [.int 1, .int 1]) = G4 at e4 s4 n5 nl ⊢
    have e5 : upd G4 x5 (.tup [.int 1, .int 1]) x5 = some (.tup [.int 1, .int 1]) := upd_same
    have s5 : Same G4 (upd G4 x5 (.tup [.int 1, .int 1])) := same_new n5
    generalize upd G4 x5 (.tup [.int 1, .int 1]) = G5 at e5 s5 nl ⊢
    have s6 : Same G5 (upd G5 l (.lst [.ref x1, .ref x2, .ref x3, .ref x4, .ref x5])) := same_new nl
    have hl : upd G5 l (.lst [.ref x1, .ref x2, .ref x3, .ref x4, .ref x5]) l = some (.lst [.ref x1, .ref x2, .ref x3, .ref x4, .ref x5]) := upd_same
    generalize upd G5 l (.lst [.ref x1, .ref x2, .ref x3, .ref x4, .ref x5]) = G6 at s6 hl ⊢
    have sa : Same H1 G6 := s1.trans (s2.trans (s3.trans (s4.trans (s5.trans s6))))
    obtain ⟨xa, u, v, hx, ha, hu, hv⟩ : ∃ (xa : Addr) (u v : Int), atI [V.ref x1, .ref x2, .ref x3, .ref x4, .ref x5] d = some (.ref xa) ∧ G6 xa = some (.tup [.int u, .int v]) ∧ (1 ≤ u ∧ u ≤ 12) ∧ (1 ≤ v ∧ v ≤ 12) := by
      rcases (show d = 0 ∨ d = 1 ∨ d = 2 ∨ d = 3 ∨ d = 4 by omega) with rfl | rfl | rfl | rfl | rfl
      · exact ⟨x1, 1, 2, i5_0, (s2.trans (s3.trans (s4.trans (s5.trans s6)))) _ _ e1, by decide, by decide⟩
      · exact ⟨x2, 2, 3, i5_1, (s3.trans (s4.trans (s5.trans s6))) _ _ e2, by decide, by decide⟩
      · exact ⟨x3, 3, 4, i5_2, (s4.trans (s5.trans s6)) _ _ e3, by decide, by decide⟩
      · exact ⟨x4, 1, 1, i5_3, (s5.trans s6) _ _ e4, by decide, by decide⟩
      · exact ⟨x5, 1, 1, i5_4, s6 _ _ e5, by decide, by decide⟩
    have p6 := p1.keep sa
    have b6 := t1.trans (Same.but sa)
    refine ⟨_, rfl, l, _, _, _, rfl, rfl, SqL.of hl, hx, ?_⟩
    refine ⟨_, rfl, _, _, rfl, rfl, _, rfl, ite2 (fun e => ?_) (fun e => ?_)⟩
    · refine ⟨_, rfl, p, L, _, _, rfl, by decide, by decide, by omega, p6, fun d3 G7 t3 p3 a3 c3 => ⟨_, _, rfl, rfl, ?_⟩⟩
      refine ⟨_, rfl, p, L, _, _, rfl, by decide, by decide, by omega, p3, fun d4 G8 t4 p4 a4 c4 => ⟨_, _, rfl, rfl, (by show 2 ≤ sizeLine; decide), fun t nt => ?_⟩⟩
      exact qR _ t (1 + d3) (1 + d4) d upd_same ⟨by omega, by omega⟩ ⟨by omega, by omega⟩ (b6.trans (t3.trans (t4.trans (But.upd_new nt)))) ((p4.new nt).mono (by omega))
    · exact qR G6 xa u v d ha hu hv b6 (p6.mono (by omega))
end
end Ev
namespace Ev
open PySem L2 PySem.Spec PyProof.Rows RZ
def spFillOk (C : Addr) : Sp := fun vs H Q _ => ∃ (x dx a : Addr) (r : Fr), vs = [.ref x, .ref a, .int r.k, .int r.c, .int r.j] ∧ H x = some (.ins C dx []) ∧ H a = some (.tup [.int r.p, .int r.q]) ∧ r.ok ∧
  ∀ H', But x H H' → H' x = some (.ins C dx (fillF a r)) → Q .non H'
theorem pairQ_int {H : Hp} {a : Addr} {i j : Int} (h : H a = some (.tup [.int i, .int j])) : PairQ H (.ref a) (some [.int i, .int j]) := ⟨a, rfl, h, (by show 2 ≤ 1000; decide), fun x m => by
  simp only [List.mem_cons, List.not_mem_nil, or_false] at m
  rcases m with rfl | rfl <;> exact .inl ⟨_, rfl⟩⟩
theorem outF_fr {r : Fr} (o : r.ok) : outF (some [.int r.p, .int r.q]) (.int r.k) (.int r.c) (.int r.j) = .ok := by
  unfold outF
  rw [if_neg (by show ¬ (inB 1 12 (.int r.p) && inB 1 12 (.int r.q)) = false; rw [inB_in o.p1 o.p2, inB_in o.q1 o.q2]; simp), if_neg (by rw [inB_in o.k1 o.k2]; simp), if_neg (by rw [inB_in o.c1 o.c2]; simp), if_neg (by rw [inB_in o.j1 o.j2]; simp)]
theorem fill_ok {C B N : Addr} {vs : List V} {H : Hp} {Q : VK} {E E' : XK} (h : spFillOk C vs H Q E) : spFillInit C B N vs H Q E' := by
  obtain ⟨x, dx, a, r, rfl, hx, ha, o, kk⟩ := h
  refine ⟨x, dx, _, _, _, _, _, rfl, hx, pairQ_int ha, .inl ⟨_, rfl⟩, .inl ⟨_, rfl⟩, .inl ⟨_, rfl⟩, ?_⟩
  rw [outF_fr o]
  intro c j ec ej H' b e
  obtain rfl := V.int.inj ec
  obtain rfl := V.int.inj ej
  exact kk H' b e
section
variable {P : Program} {w : World} {K : PySem.W.Frag} {mg : Str → Option Value} {base : Heap}
theorem scLRule : FnScope ["_law_told"] ["_law_told"] (defScope sLRule) := ⟨rfl, rfl, rfl, by decide +kernel, rfl, by decide +kernel, by decide +kernel⟩
theorem ok_lrule {f C fI : Addr} {fd fdI : FuncData} {g : List Value → List Value → List Value} (F : Fun K "_law_rule" "_law_rule" sLRule f fd) (gC : mg "FillRule" = some (.ref C)) (M : Mk K C fI)
    (GI : FnOk P w K mg base CX0 5 fI fdI ["self", "times", "plus", "cut_of", "join_of"] (spFillOk C)) (bI : KBn K fdI ["self", "times", "plus", "cut_of", "join_of"] 3 ["cut_of", "join_of"] g (fun vs zs => vs ++ zs)) :
    FnOk P w K mg base CX0 7 f fd ["_law_told"] (spLRule C) := by
  refine F.ok scLRule (fun vs H Q E h => ?_) (fun cdv A outer s H vs Q E hr h => ?_)
  · obtain ⟨a, r, rfl, _⟩ := h
    rfl
  · obtain ⟨a, r, rfl, ha, o, kk⟩ := h
    refine ⟨_, (pss_one (ps_ret (pe_makeN (n := 2) M GI hr (by rfl) gC bI pass0 (pa_cons (pe_tup (pa_cons (pe_ix ix_tup (pv 0) pe_int (fun _ _ => rfl)) (pa_cons (pe_ix ix_tup (pv 0) pe_int (fun _ _ => rfl)) pa_nil))) (pa_cons (pe_ix ix_tup (pv 0) pe_int (fun _ _ => rfl)) pa_nil)) (pk_cons (pe_ix ix_tup (pv 0) pe_int (fun _ _ => rfl)) (pk_cons (pe_ix ix_tup (pv 0) pe_int (fun _ _ => rfl)) pk_nil))))), ?_⟩
    refine ⟨_, rfl, a, _, _, _, rfl, rfl, SqT.of ha, i5_0, _, rfl, a, _, _, _, rfl, rfl, SqT.of ha, i5_1, (by show 2 ≤ sizeLine; decide), fun t nt => ?_⟩
    have s1 : Same H (upd H t (.tup [.int r.p, .int r.q])) := same_new nt
    have ht : upd H t (.tup [.int r.p, .int r.q]) t = some (.tup [.int r.p, .int r.q]) := upd_same
    generalize upd H t (.tup [.int r.p, .int r.q]) = H1 at s1 ht ⊢
    have ha1 := s1 _ _ ha
    refine ⟨_, rfl, a, _, _, _, rfl, rfl, SqT.of ha1, i5_2, _, rfl, a, _, _, _, rfl, rfl, SqT.of ha1, i5_3, _, rfl, a, _, _, _, rfl, rfl, SqT.of ha1, i5_4, rfl, rfl, fun x dx nx ndx nex => ?_⟩
    have keep : ∀ (o1 o2 : HO) (b : Addr) (u : HO), H1 b = some u → upd (upd H1 dx o1) x o2 b = some u := fun o1 o2 b u e => by
      rw [upd_ne (ne_of_none e nx), upd_ne (ne_of_none e ndx)]; exact e
    refine ⟨x, dx, t, r, rfl, upd_same, keep _ _ _ _ ht, o, fun H3 t3 hx3 => ⟨rfl, ?_⟩⟩
    have s3 : ∀ b u, H1 b = some u → H3 b = some u := fun b u e => t3 _ _ (ne_of_none e nx) (keep _ _ _ _ e)
    exact kk x H3 (fun b u e => s3 _ _ (s1 _ _ e)) ⟨dx, t, hx3, s3 _ _ ht⟩
end
end Ev
namespace Ev
open PySem L2 PySem.Spec PyProof.Rows RZ
theorem Fr.many_le {r : Fr} (o : r.ok) : 2 ≤ r.many ∧ r.many ≤ 6 := by
  have := o.c1; have := o.j1; have := o.j2
  unfold Fr.many
  by_cases z : r.c + 1 < r.j
  · rw [if_pos z]; omega
  · rw [if_neg z]; omega
section
variable {P : Program} {w : World} {K : PySem.W.Frag} {mg : Str → Option Value} {base : Heap}
end
end Ev
namespace Ev
open PySem L2 PySem.Spec PyProof.Rows RZ
/-- the fills of pages to which entries are dealt -/
def dealtL (t p : Int) : List Int := List.replicate (t % p).toNat (t / p + 1) ++ List.replicate (p - t % p).toNat (t / p)
theorem dealtL_len {t p : Int} (h : 1 ≤ p) : (dealtL t p).length = p.toNat := by
  have h1 := Int.emod_nonneg t (by omega : p ≠ 0)
  have h2 := Int.emod_lt_of_pos t (by omega : 0 < p)
  simp only [dealtL, List.length_append, List.length_replicate]
  omega
theorem cut_to {xs : List Int} {e : Int} (h0 : 0 ≤ e) (h1 : e ≤ xs.length) : cutV (xs.map V.int) (some 0) (some e) = (xs.take e.toNat).map V.int := by
  obtain ⟨k, rfl⟩ := Int.eq_ofNat_of_zero_le h0
  unfold cutV
  rw [show (some (0 : Int)) = some ((0 : Nat) : Int) from rfl, HT.sIx_nat, HT.sIx_nat, List.length_map, Int.toNat_natCast, Nat.zero_min, List.drop_zero, Nat.sub_zero, Nat.min_eq_left (by omega), List.map_take]
theorem cut_nil {xs : List Int} : cutV (xs.map V.int) none (some 0) = [] := by
  unfold cutV
  rw [show (some (0 : Int)) = some ((0 : Nat) : Int) from rfl, HT.sIx_nat, HT.sIx_none]
  simp
theorem cut_from {xs : List Int} {e : Int} (h0 : 0 ≤ e) (h1 : e ≤ xs.length) : cutV (xs.map V.int) (some e) none = (xs.drop e.toNat).map V.int := by
  obtain ⟨k, rfl⟩ := Int.eq_ofNat_of_zero_le h0
  unfold cutV
  rw [HT.sIx_nat, HT.sIx_none, List.length_map, Int.toNat_natCast, Nat.min_eq_left (by omega), ← List.map_drop, List.take_of_length_le (by rw [List.length_map, List.length_drop]; omega)]
/-- the item of a list by an index that is not negative, by values -/
def rIxL0 (K : PySem.W.Frag) : V → V → Hp → VK → Prop := fun x y H Q => ∃ p xs i v, x = .ref p ∧ y = .int i ∧ 0 ≤ i ∧ SqL K H p xs ∧ atI xs i = some v ∧ Q v H
theorem get_list {X : Cx} : PGet X (rIxL0 X.K) := by
  intro pins s σ H o i ov iv Q I ro ri h
  obtain ⟨p, xs, i, z, rfl, rfl, h0, hq, he, q⟩ := h
  cases ro
  obtain ⟨t, rfl⟩ := ri
  obtain ⟨its, r, pl, hz⟩ := I.list hq
  obtain ⟨j, h1, h2, h3, h4, h5⟩ := atI_get he
  obtain ⟨w, ew, rw'⟩ := r.get h2
  have hl := r.length
  have hn := line63
  have hj : i.toNat = j := by
    rw [seqIndex_of h0 h5] at h1
    exact Option.some.inj h1
  exact wpAny_getItem_list pl.isList h0 (by omega) (by rw [hj]; simpa using ew) ⟨z, H, I, rw', q⟩
theorem cut_upto {xs : List Int} {e : Int} (h0 : 0 ≤ e) (h1 : e ≤ xs.length) : cutV (xs.map V.int) none (some e) = (xs.take e.toNat).map V.int := by
  obtain ⟨k, rfl⟩ := Int.eq_ofNat_of_zero_le h0
  unfold cutV
  rw [HT.sIx_none, HT.sIx_nat, List.length_map, Int.toNat_natCast, List.drop_zero, Nat.sub_zero, Nat.min_eq_left (by omega), List.map_take]
theorem cut_mid {xs : List Int} {s e : Int} (h0 : 0 ≤ s) (hs : s ≤ e) (h1 : e ≤ xs.length) : cutV (xs.map V.int) (some s) (some e) = ((xs.take e.toNat).drop s.toNat).map V.int := by
  obtain ⟨k, rfl⟩ := Int.eq_ofNat_of_zero_le h0
  obtain ⟨j, rfl⟩ := Int.eq_ofNat_of_zero_le (Int.le_trans h0 hs)
  unfold cutV
  rw [HT.sIx_nat, HT.sIx_nat, List.length_map, Int.toNat_natCast, Int.toNat_natCast, Nat.min_eq_left (by omega), Nat.min_eq_left (by omega), List.map_drop, List.map_take, List.drop_take]
/-- the page of the entry of an index -/
def pageAt : List Int → Int → Nat
  | [], _ => 0
  | x :: xs, i => if i ≥ x then pageAt xs (i - x) + 1 else 0
def pageFor (xs : List Int) (a : Int) : Nat := if a > 0 then pageAt xs (a - 1) else 0
theorem pageAt_lt : ∀ {xs : List Int} {i : Int}, i < xs.sum → xs ≠ [] → (∀ x ∈ xs, 0 ≤ x) → pageAt xs i < xs.length
  | [], _, _, h, _ => absurd rfl h
  | x :: xs, i, h, _, p => by
    rw [pageAt]
    split
    · rw [List.sum_cons] at h
      have hx : xs ≠ [] := by rintro rfl; simp at h; omega
      have := pageAt_lt (xs := xs) (i := i - x) (by omega) hx fun y m => p y (List.mem_cons_of_mem _ m)
      rw [List.length_cons]
      omega
    · rw [List.length_cons]; omega
/-- a page with so many entries more -/
def bump (xs : List Int) (k : Nat) (d : Int) : List Int := xs.set k (xs.getD k 0 + d)
theorem bump_len (xs : List Int) (k : Nat) (d : Int) : (bump xs k d).length = xs.length := by unfold bump; rw [List.length_set]
def groupS (at' many : Int) : Int := if at' ≥ many then at' - many + 1 else 0
/-- a deed for the row above -/
abbrev Deed := Option (Bool × Int)
def anewL (xs : List Int) (s e p : Int) : List Int := xs.take s.toNat ++ (dealtL ((xs.take e.toNat).drop s.toNat).sum p ++ xs.drop e.toNat)
def anewD (s e p : Int) : Deed := if p > e - s then some (true, e) else if p < e - s then some (false, e - 1) else none
def DeedV (H : Hp) (v : V) : Deed → Prop
  | none => v = .non
  | some (b, i) => ∃ a, v = .ref a ∧ H a = some (.tup [.str (if b then "more" else "fewer"), .int i])
theorem DeedV.keep {H H' : Hp} {v : V} {d : Deed} (h : DeedV H v d) (k : ∀ b o, H b = some o → H' b = some o) : DeedV H' v d := by
  cases d with
  | none => exact h
  | some p =>
    obtain ⟨b, i⟩ := p
    obtain ⟨a, e, h⟩ := h
    exact ⟨a, e, k _ _ h⟩
theorem dealtL_zero : dealtL 0 0 = [] := by decide
theorem Fr.wd_bd {r : Fr} (o : r.ok) : 2 ≤ r.wd ∧ r.wd ≤ 6 ∧ r.c ≤ r.wd ∧ r.j ≤ r.wd := by
  have := o.c1; have := o.c2; have := o.j1; have := o.j2
  unfold Fr.wd
  split <;> omega
/-- a put -/
def Fr.putR (r : Fr) (m : Int) (xs : List Int) (a : Int) : List Int × Deed :=
  if xs = [] then ([1], some (true, 0)) else
    let k := pageFor xs a
    let row := bump xs k 1
    if (row.length : Int) > r.wd then
      if row.getD k 0 ≤ m then (row, none) else
        let s := groupS k r.c
        let e := s + r.c
        let p := if ((row.take e.toNat).drop s.toNat).sum > r.c * m then r.c + 1 else r.c
        (anewL row s e p, anewD s e p)
    else
      let e := (row.length : Int)
      let p := if row.sum > e * m then e + 1 else e
      (anewL row 0 e p, anewD 0 e p)
/-- a take -/
def Fr.takeR (r : Fr) (m : Int) (xs : List Int) (i : Int) : List Int × Deed :=
  let k := pageAt xs i
  let row := bump xs k (-1)
  if (row.length : Int) ≤ r.wd then
    let e := (row.length : Int)
    let p := e - (if row.sum ≤ (e - 1) * m then 1 else 0)
    (anewL row 0 e p, anewD 0 e p)
  else if row.getD k 0 ≥ r.least m then (row, none) else
    let s := groupS k r.j
    let e := s + r.j
    let p := r.j - (if ((row.take e.toNat).drop s.toNat).sum < r.j * r.least m then 1 else 0)
    (anewL row s e p, anewD s e p)
def spDealt : Sp := fun vs H Q _ => ∃ t p : Int, vs = [.int t, .int p] ∧ 0 ≤ p ∧ p ≤ 12 ∧ (p = 0 → t = 0) ∧ ∀ q H', Same H H' → H' q = some (.lst ((dealtL t p).map V.int)) → Q (.ref q) H'
def spGroup : Sp := fun vs H Q _ => ∃ at' many : Int, vs = [.int at', .int many] ∧ ∀ t H', Same H H' → H' t = some (.tup [.int (groupS at' many), .int (groupS at' many + many)]) → Q (.ref t) H'
def spPageA : Sp := fun vs H Q _ => ∃ (l : Addr) (xs : List Int) (i : Int), vs = [.ref l, .int i] ∧ H l = some (.tup (xs.map V.int)) ∧ i < xs.sum ∧ (∀ x ∈ xs, 0 ≤ x) ∧ xs ≠ [] ∧ Q (.int (pageAt xs i : Nat)) H
def spPageF : Sp := fun vs H Q _ => ∃ (l : Addr) (xs : List Int) (a : Int), vs = [.ref l, .int a] ∧ H l = some (.tup (xs.map V.int)) ∧ a ≤ xs.sum ∧ (∀ x ∈ xs, 0 ≤ x) ∧ xs ≠ [] ∧ Q (.int (pageFor xs a : Nat)) H
def spAnew : Sp := fun vs H Q _ => ∃ (l : Addr) (xs : List Int) (s e p : Int), vs = [.ref l, .int s, .int e, .int p] ∧ H l = some (.lst (xs.map V.int)) ∧ 0 ≤ s ∧ s ≤ e ∧ e ≤ xs.length ∧ xs.length ≤ 2000 ∧ 0 ≤ p ∧ p ≤ 12 ∧ (p = 0 → ((xs.take e.toNat).drop s.toNat).sum = 0) ∧
  ∀ t q v H', Same H H' → H' t = some (.tup [.ref q, v]) → H' q = some (.lst ((anewL xs s e p).map V.int)) → DeedV H' v (anewD s e p) → Q (.ref t) H'
section
variable {P : Program} {w : World} {K : PySem.W.Frag} {mg : Str → Option Value} {base : Heap}
theorem scDealt : FnScope ["total", "pages", "each", "rest"] ["total", "pages"] (defScope sDealt) := ⟨rfl, rfl, rfl, by decide +kernel, rfl, by decide +kernel, by decide +kernel⟩
theorem ok_dealt {f : Addr} {fd : FuncData} (F : Fun K "dealt" "dealt" sDealt f fd) (md : mg "divmod" = none) : FnOk P w K mg base CX0 1 f fd ["total", "pages"] spDealt := by
  refine F.ok scDealt (fun vs H Q E h => ?_) (fun cdv A outer s H vs Q E hr h => ?_)
  · obtain ⟨t, p, rfl, _⟩ := h
    rfl
  · obtain ⟨t, p, rfl, p0, p2, pz, kk⟩ := h
    refine ⟨_, (pss_cons (ps_if (pt_cmpR op_eq (pv 1) pe_int (nomark _))
      (pss_one (ps_ret (pe_lst pa_nil))) pss_nil)
    (pss_cons (ps_asg (pe_callB call_divmod (by rfl) md (by decide +kernel) (pa_cons (pv 0) (pa_cons (pv 1) pa_nil))) (pg_tup (by rfl) (pgs_cons (pg_name (i := 2) scDealt.nd rfl (.inl rfl)) (pgs_cons (pg_name (i := 3) scDealt.nd rfl (.inl rfl)) pgs_nil))))
    (pss_one (ps_ret (pe_op op_cat (pe_op op_rep (pe_lst (pa_cons (pe_op op_add (pv 2) pe_int) pa_nil)) (pv 3)) (pe_op op_rep (pe_lst (pa_cons (pv 2) pa_nil)) (pe_op op_sub (pv 1) (pv 3)))))))), ?_⟩
    refine ⟨_, rfl, rfl, _, rfl, ite2 (fun e => ?_) (fun e => ?_)⟩
    · have e : p = 0 := V.int.inj (of_decide_eq_true e)
      have et := pz e
      subst e et
      refine ⟨(by show 0 ≤ sizeLine; decide), fun l nl => kk l _ (same_new nl) ?_⟩
      rw [upd_same, dealtL_zero]
      rfl
    have e : ¬ p = 0 := fun z => e (decide_eq_true (congrArg V.int z))
    have p1 : 1 ≤ p := by omega
    refine ⟨_, rfl, _, rfl, t, p, rfl, ⟨by omega, by omega⟩, fun a na => ?_⟩
    have h1 := Int.emod_nonneg t (by omega : p ≠ 0)
    have h2 := Int.emod_lt_of_pos t (by omega : 0 < p)
    refine ⟨a, _, rfl, SqT.of upd_same, rfl, _, _, rfl, _, _, rfl, rfl, ?_⟩
    have s1 : Same H (upd H a (.tup [.int (t / p), .int (t % p)])) := same_new na
    generalize upd H a (.tup [.int (t / p), .int (t % p)]) = H1 at s1 ⊢
    refine ⟨_, rfl, _, _, rfl, rfl, (by show 1 ≤ sizeLine; decide), fun l1 n1 => ?_⟩
    refine ⟨_, rfl, l1, _, _, rfl, rfl, upd_same, by omega, by omega, ?_, fun l2 n2 => ?_⟩
    · have : 1 * (t % p).toNat ≤ 12 := by omega
      exact Nat.le_trans this (by decide)
    have s2 := s1.trans (same_new (o := .lst [.int (t / p + 1)]) n1)
    generalize upd H1 l1 (.lst [.int (t / p + 1)]) = H2 at s2 n2 ⊢
    have s3 := s2.trans (same_new (o := .lst (List.replicate (t % p).toNat [V.int (t / p + 1)]).flatten) n2)
    have u3 : upd H2 l2 (.lst (List.replicate (t % p).toNat [V.int (t / p + 1)]).flatten) l2 = some (.lst (List.replicate (t % p).toNat (V.int (t / p + 1)))) := by rw [upd_same, List.flatten_replicate_singleton]
    generalize upd H2 l2 (.lst (List.replicate (t % p).toNat [V.int (t / p + 1)]).flatten) = H3 at s3 u3 ⊢
    refine ⟨_, rfl, (by show 1 ≤ sizeLine; decide), fun l3 n3 => ?_⟩
    have u4 := same_new (o := .lst [V.int (t / p)]) n3 _ _ u3
    have s4 := s3.trans (same_new (o := .lst [V.int (t / p)]) n3)
    have v4 : upd H3 l3 (.lst [V.int (t / p)]) l3 = some (.lst [V.int (t / p)]) := upd_same
    generalize upd H3 l3 (.lst [V.int (t / p)]) = H4 at s4 u4 v4 ⊢
    refine ⟨_, rfl, _, rfl, _, _, rfl, rfl, l3, p - t % p, _, rfl, rfl, v4, by omega, by omega, ?_, fun l4 n4 => ?_⟩
    · have : 1 * (p - t % p).toNat ≤ 12 := by omega
      exact Nat.le_trans this (by decide)
    rw [List.flatten_replicate_singleton]
    have u5 := same_new (o := .lst (List.replicate (p - t % p).toNat (V.int (t / p)))) n4 _ _ u4
    have s5 := s4.trans (same_new (o := .lst (List.replicate (p - t % p).toNat (V.int (t / p)))) n4)
    have v5 : upd H4 l4 (.lst (List.replicate (p - t % p).toNat (V.int (t / p)))) l4 = some (.lst (List.replicate (p - t % p).toNat (V.int (t / p)))) := upd_same
    generalize upd H4 l4 (.lst (List.replicate (p - t % p).toNat (V.int (t / p)))) = H5 at s5 u5 v5 ⊢
    refine ⟨l2, l4, _, _, rfl, rfl, u5, v5, ?_, fun l5 n5 => ?_⟩
    · rw [List.length_replicate, List.length_replicate]
      exact Nat.le_trans (show _ ≤ 12 by omega) (by decide)
    · refine kk l5 _ (s5.trans (same_new n5)) ?_
      rw [upd_same, dealtL, List.map_append, List.map_replicate, List.map_replicate]
theorem scGroupOf : FnScope ["at", "many", "start"] ["at", "many"] (defScope sGroupOf) := ⟨rfl, rfl, rfl, by decide +kernel, rfl, by decide +kernel, by decide +kernel⟩
theorem ok_group {f : Addr} {fd : FuncData} (F : Fun K "group_of" "group_of" sGroupOf f fd) : FnOk P w K mg base CX0 1 f fd ["at", "many"] spGroup := by
  refine F.ok scGroupOf (fun vs H Q E h => ?_) (fun cdv A outer s H vs Q E hr h => ?_)
  · obtain ⟨t, p, rfl, _⟩ := h
    rfl
  · obtain ⟨a, m, rfl, kk⟩ := h
    refine ⟨_, (pss_cons (ps_set (i := 2) scGroupOf.nd rfl (.inl rfl) (pe_ifExp (pt_cmpR op_ge (pv 0) (pv 1) (nomark _)) (pe_op op_add (pe_op op_sub (pv 0) (pv 1)) pe_int) pe_int))
    (pss_one (ps_ret (pe_tup (pa_cons (pv 2) (pa_cons (pe_op op_add (pv 2) (pv 1)) pa_nil)))))), ?_⟩
    refine ⟨_, rfl, _, rfl, _, _, rfl, rfl, _, rfl, ite2 (fun e => ?_) (fun e => ?_)⟩
    · have e : a ≥ m := of_decide_eq_true e
      rw [groupS, if_pos e] at kk
      exact ⟨_, rfl, _, rfl, _, _, rfl, rfl, _, _, rfl, rfl, _, rfl, _, rfl, _, rfl, _, _, rfl, rfl, (by show 2 ≤ sizeLine; decide), fun t nt => kk t _ (same_new nt) upd_same⟩
    · have e : ¬ a ≥ m := fun z => e (decide_eq_true z)
      rw [groupS, if_neg e] at kk
      exact ⟨_, rfl, _, rfl, _, rfl, _, _, rfl, rfl, (by show 2 ≤ sizeLine; decide), fun t nt => kk t _ (same_new nt) upd_same⟩
theorem scPageAt : FnScope ["fills", "index", "at"] ["fills", "index"] (defScope sPageAt) := ⟨rfl, rfl, rfl, by decide +kernel, rfl, by decide +kernel, by decide +kernel⟩
theorem ok_pageAt {f : Addr} {fd : FuncData} (F : Fun K "page_at" "page_at" sPageAt f fd) : FnOk P w K mg base CX0 1 f fd ["fills", "index"] spPageA := by
  refine F.ok scPageAt (fun vs H Q E h => ?_) (fun cdv A outer s H vs Q E hr h => ?_)
  · obtain ⟨l, xs, i, rfl, _⟩ := h
    rfl
  · obtain ⟨l, xs, i, rfl, hl, hi, hp, hne, kk⟩ := h
    refine ⟨_, (pss_cons (ps_set (i := 2) scPageAt.nd rfl (.inl rfl) pe_int)
    (pss_cons (ps_while PassesOwn.never (pt_cmpR op_ge (pv 1) (pe_ix ix_tup (pv 0) (pv 2) (fun _ _ => rfl)) (nomark _))
      (pss_cons (ps_set (i := 1) scPageAt.nd rfl (.inl rfl) (pe_op op_sub (pv 1) (pe_ix ix_tup (pv 0) (pv 2) (fun _ _ => rfl))))
      (pss_one (ps_aug (i := 2) scPageAt.nd rfl (.inl rfl) pe_int ip_add))))
    (pss_one (ps_ret (pv 2))))), ?_⟩
    refine ⟨fun μ σ H' => ∃ (n : Nat) (i' : Int), μ = xs.length - n ∧ σ = [some (.ref l), some (.int i'), some (.int (n : Int))] ∧ H' = H ∧ pageAt xs i = n + pageAt (xs.drop n) i' ∧ i' < (xs.drop n).sum ∧ xs.drop n ≠ [], ⟨xs.length, 0, i, rfl, rfl, rfl, by simp, by simpa using hi, by simpa using hne⟩, ?_⟩
    rintro μ σ H' ⟨n, i', rfl, rfl, rfl, e1, e2, e3⟩
    obtain ⟨x, ys, ex⟩ : ∃ x ys, xs.drop n = x :: ys := by
      cases h : xs.drop n with
      | nil => exact absurd h e3
      | cons x ys => exact ⟨x, ys, rfl⟩
    have hn : n < xs.length := by
      by_cases z : n < xs.length
      · exact z
      · rw [List.drop_of_length_le (by omega)] at ex; cases ex
    have an : atI (xs.map V.int) (n : Int) = some (V.int x) := by
      refine atI_nat ?_
      have : (xs.drop n)[0]? = some x := by rw [ex]; rfl
      rw [List.getElem?_drop, Nat.add_zero] at this
      rw [List.getElem?_map, this]
      rfl
    have ed : xs.drop (n + 1) = ys := by
      rw [← List.drop_drop, ex]; rfl
    rw [ex] at e1 e2
    refine ⟨_, rfl, _, rfl, _, rfl, l, _, _, _, rfl, rfl, SqT.of hl, an, _, _, rfl, rfl, _, rfl, ite2 (fun g => ?_) (fun g => ?_)⟩
    · have g : i' ≥ x := of_decide_eq_true g
      rw [pageAt, if_pos g] at e1
      rw [List.sum_cons] at e2
      refine ⟨fun σ' H2 => σ' = [some (.ref l), some (.int (i' - x)), some (.int ((n : Int) + 1))] ∧ H2 = H', fun σ' H2 ⟨q1, q2⟩ => ⟨xs.length - (n + 1), by omega, n + 1, i' - x, rfl, q1, q2, by rw [ed]; omega, by rw [ed]; omega, ?_⟩, ?_⟩
      · rw [ed]
        intro z
        rw [z] at e2
        simp at e2
        omega
      · exact ⟨_, rfl, _, rfl, _, rfl, l, _, _, _, rfl, rfl, SqT.of hl, an, _, _, rfl, rfl, _, rfl, _, _, rfl, rfl, rfl, rfl⟩
    · have g : ¬ i' ≥ x := fun z => g (decide_eq_true z)
      rw [pageAt, if_neg g] at e1
      rw [show pageAt xs i = n by omega] at kk
      exact ⟨_, rfl, kk⟩
theorem scPageFor : FnScope ["fills", "ahead"] ["fills", "ahead"] (defScope sPageFor) := ⟨rfl, rfl, rfl, by decide +kernel, rfl, by decide +kernel, by decide +kernel⟩
theorem ok_pageFor {f : Addr} {fd : FuncData} (F : Fun K "page_for" "page_for" sPageFor f fd) (D1 : Df P w K mg base 1 "page_at" ["fills", "index"] spPageA) : FnOk P w K mg base CX0 2 f fd ["fills", "ahead"] spPageF := by
  obtain ⟨f1, fd1, G1, g1, k1, b1⟩ := D1.ex
  refine F.ok scPageFor (fun vs H Q E h => ?_) (fun cdv A outer s H vs Q E hr h => ?_)
  · obtain ⟨l, xs, a, rfl, _⟩ := h
    rfl
  · obtain ⟨l, xs, a, rfl, hl, ha, hp, hne, kk⟩ := h
    refine ⟨_, (pss_one (ps_ret (pe_ifExp (pt_cmpR op_gt (pv 1) pe_int (nomark _)) (pe_call G1 hr (by rfl) g1 k1 b1 .nil pass0 (pa_cons (pv 0) (pa_cons (pe_op op_sub (pv 1) pe_int) pa_nil))) pe_int))), ?_⟩
    refine ⟨_, rfl, _, _, rfl, rfl, _, rfl, ite2 (fun e => ?_) (fun e => ?_)⟩
    · have e : a > 0 := of_decide_eq_true e
      rw [pageFor, if_pos e] at kk
      exact ⟨_, rfl, _, rfl, _, _, rfl, rfl, l, xs, a - 1, rfl, hl, by omega, hp, hne, kk⟩
    · have e : ¬ a > 0 := fun z => e (decide_eq_true z)
      rw [pageFor, if_neg e] at kk
      exact kk
theorem scDealtAnew : FnScope ["row", "start", "end", "pages", "fills"] ["row", "start", "end", "pages"] (defScope sDealtAnew) := ⟨rfl, rfl, rfl, by decide +kernel, rfl, by decide +kernel, by decide +kernel⟩
theorem dealtL_len0 {t p : Int} (h : 0 ≤ p) (hz : p = 0 → t = 0) : (dealtL t p).length = p.toNat := by
  by_cases z : p = 0
  · rw [hz z, z, dealtL_zero]; rfl
  · exact dealtL_len (by omega)
theorem ok_anew {f : Addr} {fd : FuncData} (F : Fun K "dealt_anew" "dealt_anew" sDealtAnew f fd) (ms : mg "sum" = none) {t1 t2 : Tok} (gM : mg "MORE" = some (.str "more" t1)) (gF : mg "FEWER" = some (.str "fewer" t2)) (D1 : Df P w K mg base 1 "dealt" ["total", "pages"] spDealt) : FnOk P w K mg base CX0 2 f fd ["row", "start", "end", "pages"] spAnew := by
  obtain ⟨f1, fd1, G1, g1, k1, b1⟩ := D1.ex
  refine F.ok scDealtAnew (fun vs H Q E h => ?_) (fun cdv A outer s H vs Q E hr h => ?_)
  · obtain ⟨l, xs, e0, e, p, rfl, _⟩ := h
    rfl
  · obtain ⟨l, xs, s0, e, p, rfl, hl, h0, h1, e1, xz, p1, p2, pz, kk⟩ := h
    refine ⟨_, (pss_cons (ps_set (i := 4) scDealtAnew.nd rfl (.inl rfl) (pe_lst (StX.pa_star (pe_slice sl_list (pv 0) po_none (po_some (pv 1))) (StX.pa_star (pe_call G1 hr (by rfl) g1 k1 b1 .nil pass0 (pa_cons (pe_callB (cr_sum rfl) (by rfl) ms (by decide +kernel) (pa_cons (pe_slice sl_list (pv 0) (po_some (pv 1)) (po_some (pv 2))) pa_nil)) (pa_cons (pv 3) pa_nil))) (StX.pa_star (pe_slice sl_list (pv 0) (po_some (pv 2)) po_none) pa_nil)))))
    (pss_cons (ps_if (pt_cmpR op_gt (pv 3) (pe_op op_sub (pv 2) (pv 1)) (nomark _))
      (pss_one (ps_ret (pe_tup (pa_cons (pv 4) (pa_cons (pe_tup (pa_cons (pe_glob (v := .str "more") rfl gM ⟨_, rfl⟩) (pa_cons (pv 2) pa_nil))) pa_nil))))) pss_nil)
    (pss_one (ps_ret (pe_tup (pa_cons (pv 4) (pa_cons (pe_ifExp (pt_cmpR op_lt (pv 3) (pe_op op_sub (pv 2) (pv 1)) (nomark _)) (pe_tup (pa_cons (pe_glob (v := .str "fewer") rfl gF ⟨_, rfl⟩) (pa_cons (pe_op op_sub (pv 2) pe_int) pa_nil))) pe_non) pa_nil))))))), ?_⟩
    refine ⟨_, rfl, _, rfl, _, rfl, l, _, rfl, SqL.of hl, fun a1 n1 => ?_⟩
    rw [cut_upto h0 (by omega)]
    refine ⟨a1, _, rfl, .inr (SqL.of upd_same), ?_⟩
    have s1 : Same H (upd H a1 (.lst ((xs.take s0.toNat).map V.int))) := same_new n1
    have hl1 := s1 _ _ hl
    generalize upd H a1 (.lst ((xs.take s0.toNat).map V.int)) = H1 at s1 hl1 ⊢
    refine ⟨_, rfl, _, rfl, _, rfl, _, rfl, _, rfl, l, _, rfl, SqL.of hl1, fun a2 n2 => ?_⟩
    rw [cut_mid h0 h1 e1]
    refine ⟨a2, _, rfl, SqL.of upd_same, ?_⟩
    have s2 := s1.trans (same_new (o := .lst (((xs.take e.toNat).drop s0.toNat).map V.int)) n2)
    have hl2 := s2 _ _ hl
    generalize upd H1 a2 (.lst (((xs.take e.toNat).drop s0.toNat).map V.int)) = H2 at s2 hl2 ⊢
    refine ⟨_, rfl, _, p, rfl, p1, p2, pz, fun a3 H3 s3 h3 => ?_⟩
    refine ⟨a3, _, rfl, .inr (SqL.of h3), ?_⟩
    have s3 := s2.trans s3
    have hl3 := s3 _ _ hl
    refine ⟨_, rfl, _, rfl, _, rfl, l, _, rfl, SqL.of hl3, fun a4 n4 => ?_⟩
    rw [cut_from (by omega) e1]
    refine ⟨a4, _, rfl, .inr (SqL.of upd_same), ?_⟩
    have s4 := s3.trans (same_new (o := .lst ((xs.drop e.toNat).map V.int)) n4)
    generalize upd H3 a4 (.lst ((xs.drop e.toNat).map V.int)) = H4 at s4 ⊢
    refine ⟨?_, fun q nq => ?_⟩
    · rw [List.append_nil, List.length_append, List.length_append, List.length_map, List.length_map, List.length_map, dealtL_len0 p1 pz, List.length_drop, List.length_take]
      exact Nat.le_trans (show _ ≤ 5000 by omega) (by decide)
    rw [List.append_nil, ← List.map_append, ← List.map_append]
    have ean : xs.take s0.toNat ++ (dealtL ((xs.take e.toNat).drop s0.toNat).sum p ++ xs.drop e.toNat) = anewL xs s0 e p := rfl
    rw [ean]
    have s5 := s4.trans (same_new (o := .lst ((anewL xs s0 e p).map V.int)) nq)
    have h5 : upd H4 q (.lst ((anewL xs s0 e p).map V.int)) q = some (.lst ((anewL xs s0 e p).map V.int)) := upd_same
    generalize upd H4 q (.lst ((anewL xs s0 e p).map V.int)) = H5 at s5 h5 ⊢
    refine ⟨_, rfl, _, rfl, _, rfl, _, _, rfl, rfl, _, _, rfl, rfl, _, rfl, ite2 (fun g => ?_) (fun g => ?_)⟩
    · have g : p > e - s0 := of_decide_eq_true g
      refine ⟨_, rfl, _, rfl, (by show 2 ≤ sizeLine; decide), fun t nt => ⟨(by show 2 ≤ sizeLine; decide), fun t' nt' => ?_⟩⟩
      have s6 := same_new (o := .tup [V.str "more", V.int e]) nt
      refine kk t' q _ _ ((s5.trans s6).trans (same_new nt')) upd_same (same_new nt' _ _ (s6 _ _ h5)) ?_
      rw [anewD, if_pos g]
      exact ⟨t, rfl, same_new nt' _ _ upd_same⟩
    · have g : ¬ p > e - s0 := fun z => g (decide_eq_true z)
      refine ⟨_, rfl, _, rfl, _, rfl, _, rfl, _, _, rfl, rfl, _, _, rfl, rfl, _, rfl, ite2 (fun g2 => ?_) (fun g2 => ?_)⟩
      · have g2 : p < e - s0 := of_decide_eq_true g2
        refine ⟨_, rfl, _, _, rfl, rfl, (by show 2 ≤ sizeLine; decide), fun t nt => ⟨(by show 2 ≤ sizeLine; decide), fun t' nt' => ?_⟩⟩
        have s6 := same_new (o := .tup [V.str "fewer", V.int (e - 1)]) nt
        refine kk t' q _ _ ((s5.trans s6).trans (same_new nt')) upd_same (same_new nt' _ _ (s6 _ _ h5)) ?_
        rw [anewD, if_neg g, if_pos g2]
        exact ⟨t, rfl, same_new nt' _ _ upd_same⟩
      · have g2 : ¬ p < e - s0 := fun z => g2 (decide_eq_true z)
        refine ⟨(by show 2 ≤ sizeLine; decide), fun t nt => kk t q _ _ (s5.trans (same_new nt)) upd_same (same_new nt _ _ h5) ?_⟩
        rw [anewD, if_neg g, if_neg g2]
        rfl
end
end Ev
namespace Ev
open PySem L2 PySem.Spec PyProof.Rows
section
variable {prog : Program} {w : World} {A : Around} {E : Value → Shared → Prop} {s : Shared} {K : PySem.W.Frag} {x C f : Addr} {ox : Obj} {od : Option Obj}
theorem lenRun {Q : Value → Shared → Prop} (X : K.In s.heap) (I : PySem.W.InstAt s.heap x ox C od) (hs : PySem.W.findIn K (.ref C) "__len__" = some (some (.ref f))) (hf : PySem.W.isFn K (.ref f) = true)
    (h : wpAny (model prog w) A.in1 (call (.ref f) [.ref x]) (fun r s' => ∃ (n : Int) (u : Tok), r = .int n u ∧ (0 ≤ n ∧ n < 2 ^ 63) ∧ Q (.int n s'.toks) { s' with toks := s'.toks + 1 }) E s) : wpAny (model prog w) A (call (.builtin "len") [.ref x]) Q E s := by
  refine Calls.call_function_entry kind_len plain_len entry_len (args_len1 (.ref x)) ?_
  unfold Builtin.«len»
  refine wpAny_bind (m := oneArg "len" ⟨[.ref x], []⟩) (wpAny_pure ?_)
  refine wpAny_bind (m := callSpecial? (.ref x) (Str.ofString "__len__")) (PySem.W.special_fn X I hs (beq_iff_eq.mp hf) (wpAny_mono h (fun r s' z => ?_) fun _ _ z => z))
  obtain ⟨n, u, rfl, ⟨n0, n1⟩, q⟩ := z
  refine wpAny_bind (wpAny_holding (wpAny_pure (wpAny_bind (wpAny_letGo ?_))))
  show wpAny _ _ (if n < 0 then _ else _) _ _ s'
  rw [if_neg (show ¬ n < 0 by omega)]
  show wpAny _ _ (if n ≥ 2 ^ 63 then _ else _) _ _ s'
  rw [if_neg (show ¬ n ≥ 2 ^ 63 by omega)]
  exact wpAny_bind (wpAny_mkInt (wpAny_pure ⟨_, rfl, q⟩))
end
section
variable {X : Cx} {CX : CXT} {C g : Addr} {n : Nat} {sp : Sp} {E : XK}
def rLenO (C : Addr) (sp : Sp) (E : XK) : List V → Hp → VK → Prop := fun xs H Q => ∃ (a dx : Addr) (fs : List (Str × V)), xs = [V.ref a] ∧ H a = some (.ins C dx fs) ∧ sp [.ref a] H (fun z H' => ∃ i : Int, z = .int i ∧ (0 ≤ i ∧ i < 2 ^ 63) ∧ Q (.int i) H') E
theorem call_lenO (hs : PySem.W.findIn X.K (.ref C) "__len__" = some (some (.ref g))) (hf : PySem.W.isFn X.K (.ref g) = true) (F : FnR X.prog X.w X.K X.mg X.base CX n g sp) (hr : Room (n + 1) X.A) (hx : Passes CX X E) : CallR X (.builtin "len") (rLenO C sp E) := by
  intro pins s σ H xs us Q I r h
  obtain ⟨a, dx, fs, rfl, ha, q⟩ := h
  obtain ⟨u, rfl, ru⟩ := vals1 r
  cases (show u = Value.ref a from ru)
  obtain ⟨mA, J, _⟩ := ins_get I.hok ha
  obtain ⟨od, J, _⟩ := J.look
  have hr1 : Room n X.A.in1 := hr.in1
  refine lenRun I.kIn J hs hf (wpAny_mono (wpAny_call (SlX.run_at (us := [.ref a]) (ws := [.ref a]) F hr1 I.env0.in1 hx I (.cons rfl .nil) q)) (fun w' s' z => ?_) fun _ _ z => z)
  obtain ⟨z', H', I', rz, i, rfl, b, q'⟩ := z
  obtain ⟨t, e⟩ := (show ∃ t, w' = Value.int i t from rz)
  exact ⟨i, t, e, b, .int i, H', I'.tok _, ⟨_, rfl⟩, q'⟩
end
/-- a tuple's iterator -/
def TtO (l it : Addr) (i : Nat) : HO := .ext fun h => h.IsTupleIter it l i
theorem ttO_ok {P : Program} {w : World} {H : Hp} {h : Heap} {l it : Addr} {i : Nat} (e : h.IsTupleIter it l i) : ObjOk P w H h it (TtO l it i) :=
  ⟨e, (let ⟨o, q, _⟩ := e; ⟨o, q⟩), fun _ _ q k => Heap.IsTupleIter.at q k⟩
theorem ttO_get {X : Cx} {pins : List (Addr × Obj)} {σ : L2.St} {H : Hp} {s : Shared} {l it : Addr} {i : Nat} (I : Inv X pins σ H s) (e : H it = some (TtO l it i)) : s.heap.IsTupleIter it l i := (I.hok it _ e).1
def rIterT : List V → Hp → VK → Prop := fun xs H Q => ∃ (l : Addr) (zs : List V), xs = [.ref l] ∧ H l = some (.tup zs) ∧ ∀ it, H it = none → (∀ b u, H b = some u → b < it) → Q (.ref it) (upd H it (TtO l it 0))
theorem call_iterT {X : Cx} : CallR X (.builtin "iter") rIterT := by
  intro pins s σ H xs us Q I r h
  obtain ⟨l, zs, rfl, hq, q⟩ := h
  obtain ⟨u, rfl, ru⟩ := vals1 r
  cases ru
  obtain ⟨its, rv, pl, hz⟩ := I.tuple (.inl (Rd.of hq))
  refine Calls.call_function_entry (by decide +kernel) (by decide +kernel) PySem.W.kdk_entry_iter (PySem.W.kdk_args_iter _) ?_
  unfold Builtin.«iter»
  refine wpAny_bind (m := someArgs "iter" 1 2 _) (wpAny_of_eq (a := [Value.ref l]) (by first | rfl | kernel_rfl!) ?_)
  show wpAny _ _ (pyIter (.ref l) >>= _) _ _ _
  refine wpAny_bind (wpAny_pyIter_tuple (show s.heap.IsTuple l its.toArray from pl) ?_)
  refine wpAny_pure ⟨_, rfl, ?_⟩
  exact ⟨.ref s.heap.objs.size, _, I.laid (t' := s.toks) (fun b u e => Heap.get?_push_of_some _ e) (Nat.le_refl _) (ttO_ok ⟨_, Heap.get?_push_size _ rfl, rfl, rfl⟩), rfl, q _ (I.hok.fresh (Nat.le_refl _)) fun b u e => I.hok.lt e⟩
theorem upd_comm {H : Hp} {a b : Addr} {o u : HO} (n : a ≠ b) : upd (upd H a o) b u = upd (upd H b u) a o := by
  funext c
  by_cases ha : c = a
  · subst ha
    rw [upd_ne n, upd_same, upd_same]
  · by_cases hb : c = b
    · subst hb
      rw [upd_same, upd_ne ha, upd_same]
    · rw [upd_ne hb, upd_ne ha, upd_ne ha, upd_ne hb]
section
variable {X : Cx} {pins : List (Addr × Obj)} {σ : L2.St} {H : Hp} {l q it : Addr} {zs : List V} {A1 : Around} {Rs : Result → Shared → Prop}
theorem row_loop (hA : A1.in1.handled = none) (hl : H l = some (.tup zs)) (hn : zs.length < sizeLine) (hq : H q = none) (hi : H it = none) (hqi : q ≠ it) (hy : X.s_0.heap.objs.size ≤ it)
    (hdone : ∀ s, Inv X pins σ (upd H q (.lst zs)) s → Rs (.ok (.ret .none)) s) :
    ∀ (k i : Nat) (s : Shared), k + i = zs.length → Inv X pins σ (upd (upd H q (.lst (zs.take i))) it (TtO l it i)) s → codeAny (model X.prog X.w) A1 (.builtin "list.extend.loop" ⟨[.ref q, .ref it, .none], []⟩) Rs s := by
  have hlq : l ≠ q := ne_of_none hl hq
  have hli : l ≠ it := ne_of_none hl hi
  intro k
  induction k with
  | zero =>
    intro i s e I
    refine codeAny_builtin PySem.F.entry_extend_loop ?_
    rw [Around.under_plainId PySem.F.plain_extend_loop _]
    show wpAny _ A1.in1 (pyNext (.ref it) >>= _) _ _ s
    have el : upd (upd H q (.lst (zs.take i))) it (TtO l it i) l = some (.tup zs) := by rw [upd_ne hli, upd_ne hlq]; exact hl
    obtain ⟨its, rv, p, hz⟩ := I.tuple (.inl (Rd.of el))
    have st := ttO_get I upd_same
    have J := ItX.inv_drop I (show _ = some (HO.ext _) from upd_same)
    have hf := ItX.inv_fp I upd_same hy
    obtain ⟨f0, f1, f2, f3, f4, f5⟩ := hf
    have hlen := rv.length
    refine wpAny_bind (wpAny_pyNext_tuple_end hA st (show s.heap.IsTuple l its.toArray from p) (by simp; omega) fun h' eb => ?_)
    have J1 : Inv X pins σ _ { s with heap := h' } := J.turned (t' := s.toks) (fun b o hb e => eb b o hb e) f0 f1 f3 f4 f5
    rw [ItX.dropH_upd (by rw [upd_ne hqi.symm]; exact hi), List.take_of_length_le (by omega)] at J1
    exact wpAny_pure (hdone _ J1)
  | succ k ih =>
    intro i s e I
    refine codeAny_builtin PySem.F.entry_extend_loop ?_
    rw [Around.under_plainId PySem.F.plain_extend_loop _]
    show wpAny _ A1.in1 (pyNext (.ref it) >>= _) _ _ s
    have el : upd (upd H q (.lst (zs.take i))) it (TtO l it i) l = some (.tup zs) := by rw [upd_ne hli, upd_ne hlq]; exact hl
    obtain ⟨its, rv, p, hz⟩ := I.tuple (.inl (Rd.of el))
    have st := ttO_get I upd_same
    have hx : zs[i]? = some (zs[i]'(by omega)) := List.getElem?_eq_getElem _
    obtain ⟨u, hu, ru⟩ := rv.get hx
    refine wpAny_bind (wpAny_pyNext_tuple_item st (show s.heap.IsTuple l its.toArray from p) (x := u) (by simpa using hu) fun h' st' sb => ?_)
    have mu : Mut (upd (upd H q (.lst (zs.take i))) it (TtO l it i) it) := by rw [upd_same]; exact True.intro
    have I1 : Inv X pins σ _ { s with heap := h' } := I.write (x := it) (e := it) (t' := s.toks) mu (.inl rfl) (fun b o nb z => (sb.2 b nb).trans z) (let ⟨o, z, _⟩ := st'; ⟨o, z⟩) (ttO_ok st')
    rw [upd_upd] at I1
    have hq' : upd (upd H q (.lst (zs.take i))) it (TtO l it (i + 1)) q = some (.lst (zs.take i)) := by rw [upd_ne hqi, upd_same]
    show wpAny _ A1.in1 (updateSeq q (·.push u) >>= _) _ _ _
    obtain ⟨z, its', k', r2, hl2, e2⟩ := I1.lstM hq'
    have tl : (zs.take i).length = i := by rw [List.length_take]; omega
    refine wpAny_bind (wpAny_updateSeq e2 rfl (wpAny_pure ⟨plainId_quiet PySem.F.plain_extend_loop _, ?_⟩) (by rw [List.size_toArray]; omega) (by show (its'.toArray.push u).size ≤ sizeLine + 1; rw [Array.size_push, List.size_toArray]; omega))
    refine ih (i + 1) _ (by omega) ?_
    have I2 := I1.lset (its' := its' ++ [u]) (f := (·.push u)) (ys := zs.take i ++ [zs[i]'(by omega)]) (t' := s.toks) hq' e2 (by simp) (r2.append (.cons ru .nil)) (by rw [List.length_append, List.length_singleton]; omega)
    rw [upd_comm hqi.symm, upd_upd] at I2
    rw [List.take_succ, hx]
    exact I2
end
/-- what the row's own __iter__ and __len__ promise -/
def spRIter (C : Addr) : Sp := fun vs H Q _ => ∃ (x dx l : Addr) (fs : List (Str × V)) (zs : List V), vs = [.ref x] ∧ H x = some (.ins C dx fs) ∧ fs.lookup ("fills" : Str) = some (.ref l) ∧ H l = some (.tup zs) ∧ ∀ it, H it = none → (∀ b u, H b = some u → b < it) → Q (.ref it) (upd H it (TtO l it 0))
def spRLen (C : Addr) : Sp := fun vs H Q _ => ∃ (x dx l : Addr) (fs : List (Str × V)) (zs : List V), vs = [.ref x] ∧ H x = some (.ins C dx fs) ∧ fs.lookup ("fills" : Str) = some (.ref l) ∧ H l = some (.tup zs) ∧ Q (.int zs.length) H
/-- a class whose instances have their own __iter__ and __len__ -/
structure RwC (K : PySem.W.Frag) (C fi fl : Addr) : Prop where
  it : PySem.W.findIn K (.ref C) "__iter__" = some (some (.ref fi))
  itF : PySem.W.isFn K (.ref fi) = true
  ln : PySem.W.findIn K (.ref C) "__len__" = some (some (.ref fl))
  lnF : PySem.W.isFn K (.ref fl) = true
def rListRow (C : Addr) : List V → Hp → VK → Prop := fun xs H Q => ∃ (x dx l : Addr) (fs : List (Str × V)) (zs : List V), xs = [.ref x] ∧ H x = some (.ins C dx fs) ∧ fs.lookup ("fills" : Str) = some (.ref l) ∧ H l = some (.tup zs) ∧ zs.length ≤ 2100 ∧ ∀ q, H q = none → Q (.ref q) (upd H q (.lst zs))
section
variable {X : Cx} {pins : List (Addr × Obj)} {σ : L2.St} {H : Hp} {C fi fl q x dx l : Addr} {fs : List (Str × V)} {zs : List V} {n : Nat} {A1 : Around} {Rs : Result → Shared → Prop} {s : Shared}
/-- a call that never raises -/
theorem run_0 {A : Around} {g : Addr} {sp : Sp} {Q : VK} {us : List Value} {ws : List V} {P : Value → Shared → Prop} {E : Value → Shared → Prop} (F : FnR X.prog X.w X.K X.mg X.base CX0 n g sp) (hr : Room n A) (e0 : Env0 X.prog X.w X.K X.mg X.base A X.stack s H) (I : Inv X pins σ H s) (r : Vals ws us) (h : sp ws H Q E0)
    (k : ∀ u s' v H', Inv X pins σ H' s' → RelV v u → Q v H' → P u s') : wpAny (model X.prog X.w) A (call (.ref g) us) P E s := by
  refine wpAny_call (codeAny_mono (F A X.stack s H us ws Q E0 hr e0 r h) fun r s' hq => ?_)
  cases r with
  | error e => exact False.elim hq
  | ok fl =>
    cases fl with
    | ret u => obtain ⟨v, H', I', rv, q⟩ := I.after hq; exact k _ _ _ _ I' rv q
    | next => exact False.elim hq
    | brk => exact False.elim hq
    | cont => exact False.elim hq
/-- the hint: the length -/
theorem row_hint {A : Around} {E : Value → Shared → Prop} {R : Bool → Shared → Prop} (c : RwC X.K C fi fl) (FL : FnR X.prog X.w X.K X.mg X.base CX0 n fl (spRLen C)) (hr : Room n A.in1) (e0 : Env0 X.prog X.w X.K X.mg X.base A.in1 X.stack s H) (I : Inv X pins σ H s)
    (hx : H x = some (.ins C dx fs)) (hf : fs.lookup ("fills" : Str) = some (.ref l)) (hl : H l = some (.tup zs)) (hn : zs.length ≤ 2100) (h : ∀ b s', Inv X pins σ H s' → R b s') : wpAny (model X.prog X.w) A (Builtin.List.listLengthHint (.ref x)) R E s := by
  obtain ⟨mA, J, _⟩ := ins_get I.hok hx
  obtain ⟨od, J, _⟩ := J.look
  unfold Builtin.List.listLengthHint
  refine wpAny_bind (wpAny_bind (J.type.here ((PySem.W.looks_findIn I.kIn c.ln).here ?_)))
  refine PySem.W.KFB.if_not rfl ?_
  show wpAny _ _ (rule "list.length-hint.len" >>= _) _ _ _
  refine wpAny_bind (wpAny_rule ?_)
  show wpAny _ _ ((call (.builtin "len") [.ref x]).attempt >>= _) _ _ _
  refine wpAny_bind (wpAny_attempt (lenRun I.kIn J c.ln c.lnF (run_0 (Q := fun v H' => v = .int zs.length ∧ H' = H) (ws := [.ref x]) FL hr e0 I (.cons rfl .nil) ⟨x, dx, l, fs, zs, rfl, hx, hf, hl, rfl, rfl⟩ fun w' s' v H' I' rz e => ?_)))
  obtain ⟨rfl, rfl⟩ := e
  obtain ⟨t, e⟩ := (show ∃ t, w' = Value.int zs.length t from rz)
  refine ⟨_, t, e, ⟨by omega, by omega⟩, ?_⟩
  refine wpAny_bind (m := asInt? _) (wpAny_pure ?_)
  show wpAny _ _ (if Builtin.List.listTooLong (zs.length : Int).toNat = true then _ else _) _ _ _
  rw [notLongL (by have := sizeLine_eq; omega)]
  exact wpAny_pure (h _ _ (I'.tok _))
theorem row_extend (hA : X.A.handled = none) (c : RwC X.K C fi fl) (FI : FnR X.prog X.w X.K X.mg X.base CX0 n fi (spRIter C)) (FL : FnR X.prog X.w X.K X.mg X.base CX0 n fl (spRLen C)) (hr : Room (n + 3) X.A)
    (I : Inv X pins σ (upd H q (.lst [])) s) (hq : H q = none) (hy : X.s_0.heap.objs.size ≤ q)
    (hx : H x = some (.ins C dx fs)) (hf : fs.lookup ("fills" : Str) = some (.ref l)) (hl : H l = some (.tup zs)) (hn : zs.length ≤ 2100) (hdone : ∀ s, Inv X pins σ (upd H q (.lst zs)) s → Rs (.ok (.ret .none)) s) :
    wpAny (model X.prog X.w) X.A.in1.in1 (Builtin.List.listExtendWith (.ref q) (.ref x) .none)
      (fun fin s' => match fin with | .done f => Rs (.ok f) s' | .again c' => c'.quiet = true ∧ codeAny (model X.prog X.w) X.A.in1 c' Rs s') (fun e s' => Rs (.error e) s') s := by
  have hxq : x ≠ q := ne_of_none hx hq
  have hlq : l ≠ q := ne_of_none hl hq
  have hx' : upd H q (.lst []) x = some (.ins C dx fs) := by rw [upd_ne hxq]; exact hx
  have hl' : upd H q (.lst []) l = some (.tup zs) := by rw [upd_ne hlq]; exact hl
  have hS := sizeLine_eq
  obtain ⟨mA, J, _⟩ := ins_get I.hok hx'
  obtain ⟨od, J, _⟩ := J.look
  obtain ⟨m0, hF⟩ := I.fr
  have hr1 : Room n X.A.in1.in1 := (hr.mono (by omega) : Room (n + 2) X.A).in1.in1
  have hr2 : Room n X.A.in1.in1.in1 := hr.in1.in1.in1
  unfold Builtin.List.listExtendWith
  refine wpAny_bind (J.type.here ?_)
  have h1 : Builtin.List.listSameRef (.ref q) (.ref x) = false := by simp [Builtin.List.listSameRef, hxq.symm]
  have h2 : (Value.ref C == Value.type "list") = false := rfl
  have h3 : (Value.ref C == Value.type "tuple") = false := rfl
  simp only [h1, h2, h3, Bool.or_false, Bool.false_eq_true, if_false]
  refine wpAny_bind (PySem.W.owit_iter hF I.ok.mod.kin J c.it c.itF ?_)
  refine run_0 (ws := [.ref x]) (Q := fun v H' => ∃ it, v = .ref it ∧ q < it ∧ upd H q (.lst []) it = none ∧ H' = upd (upd H q (.lst [])) it (TtO l it 0)) FI hr1 I.env0.in1.in1 I (.cons rfl .nil) ⟨x, dx, l, fs, zs, rfl, hx', hf, hl', fun it ni young => ⟨it, rfl, young _ _ upd_same, ni, rfl⟩⟩ fun u s' v H' I' rv e => ?_
  obtain ⟨it, rfl, lt, ni, rfl⟩ := e
  cases rv
  have hqi : q ≠ it := Nat.ne_of_lt lt
  have hi : H it = none := by rw [← ni, upd_ne hqi.symm]
  have st := ttO_get I' upd_same
  unfold PySem.W.OwitIt
  refine wpAny_specialOf (name := Str.ofString "__next__") st.typeIs F.slot_tuple_iterator_next.lookup ?_
  have hxi : x ≠ it := ne_of_none hx hi
  have hli : l ≠ it := ne_of_none hl hi
  refine wpAny_bind (wpAny_holding (row_hint c FL hr2 I'.env0.in1.in1.in1 I' (by rw [upd_ne hxi]; exact hx') hf (by rw [upd_ne hli]; exact hl') hn fun b s2 I2 => ?_))
  have hq2 : upd (upd H q (.lst [])) it (TtO l it 0) q = some (.lst []) := by rw [upd_ne hqi, upd_same]
  have go : ∀ s3, Inv X pins σ (upd (upd H q (.lst [])) it (TtO l it 0)) s3 → codeAny (model X.prog X.w) X.A.in1 (.builtin "list.extend.loop" ⟨[.ref q, .ref it, .none], []⟩) Rs s3 := fun s3 I3 =>
    row_loop (A1 := X.A.in1) hA hl (by omega) hq hi hqi (Nat.le_trans hy (Nat.le_of_lt lt)) hdone zs.length 0 s3 (by omega) I3
  obtain ⟨z, its, k, r3, hl3, e3⟩ := I2.lstM hq2
  cases r3
  refine wpAny_ite_split (fun _ => ?_) (fun _ => wpAny_pure ⟨plainId_quiet PySem.F.plain_extend_loop _, go _ I2⟩)
  refine wpAny_bind (wpAny_rule ?_)
  refine wpAny_bind ?_
  show wpAny _ _ (updateSeq q (·.push .none) >>= fun _ => updateSeq q (·.pop)) _ _ _
  refine wpAny_bind (wpAny_updateSeq e3 rfl ?_)
  have I4 := I2.lset (f := (·.push Value.none)) (its' := [Value.none]) (ys := [.non]) (t' := s2.toks) hq2 e3 (by simp) (.cons rfl .nil) (by rw [List.length_singleton, sizeLine_eq]; decide)
  obtain ⟨z4, its4, k4, r4, hl4, e4⟩ := I4.lstM upd_same
  obtain ⟨u4, rfl, ru4⟩ := r4.one
  refine wpAny_updateSeq e4 rfl ?_ (by show 1 ≤ sizeLine; rw [sizeLine_eq]; decide) (by show 0 ≤ sizeLine + 1; exact Nat.zero_le _)
  refine wpAny_pure ⟨plainId_quiet PySem.F.plain_extend_loop _, go _ ?_⟩
  have I5 := I4.lset (f := (·.pop)) (its := [u4]) (its' := []) (ys := []) (t' := s2.toks) upd_same e4 (by rfl) .nil (Nat.zero_le _)
  rw [upd_upd] at I5
  have hH : upd (upd (upd H q (.lst [])) it (TtO l it 0)) q (.lst []) = upd (upd H q (.lst [])) it (TtO l it 0) := by
    funext b
    by_cases hb : b = q
    · rw [hb, upd_same, hq2]
    · rw [upd_ne hb]
  rw [hH] at I5
  exact I5
theorem call_listRow (hc : X.calm = true) (c : RwC X.K C fi fl) (FI : FnR X.prog X.w X.K X.mg X.base CX0 n fi (spRIter C)) (FL : FnR X.prog X.w X.K X.mg X.base CX0 n fl (spRLen C)) (hr : Room (n + 3) X.A) : CallR X (.type "list") (rListRow C) := by
  intro pins s σ H xs us Q I rv h
  obtain ⟨x, dx, l, fs, zs, rfl, hx, hf, hl, hn, q⟩ := h
  obtain ⟨u, rfl, ru⟩ := rv.one
  cases ru
  refine callType_codes (Q₁ := fun obj s₁ => obj = .ref s.heap.objs.size ∧ s₁ = { s with heap := s.heap.push { cls := .type "list", data := .seq #[] } }) PySem.F.called_list (PySem.F.typeCall_list_1 _) PySem.F.entry_list_init
    (code_list_new _ ⟨rfl, rfl⟩) fun obj s₁ h₁ => ?_
  obtain ⟨rfl, rfl⟩ := h₁
  have hS : (s.heap.push { cls := .type "list", data := .seq #[] }).get? s.heap.objs.size = some { cls := .type "list", data := .seq #[] } := Heap.get?_push_size _ rfl
  refine ⟨⟨_, hS, rfl⟩, PySem.F.args_list_init_2 _ _, ?_⟩
  have fr : H s.heap.objs.size = none := I.hok.fresh (Nat.le_refl _)
  have I1 : Inv X pins σ (upd H s.heap.objs.size (.lst [])) { s with heap := s.heap.push { cls := .type "list", data := .seq #[] } } := I.lnew (its := []) (t' := s.toks) .nil (Nat.zero_le _)
  show wpAny _ _ (do let old ← Builtin.List.listItems (.ref s.heap.objs.size); Builtin.List.listUpdate (.ref s.heap.objs.size) (fun _ => #[]); letGo old.toList.reverse; Builtin.List.listExtendWith (.ref s.heap.objs.size) (.ref x) .none) _ _ _
  refine wpAny_bind ?_
  unfold Builtin.List.listItems
  refine wpAny_bind (wpAny_seqItems hS rfl (wpAny_pure ?_))
  show wpAny _ _ (updateSeq s.heap.objs.size (fun _ => #[]) >>= fun _ => letGo (#[] : Array Value).toList.reverse >>= fun _ => Builtin.List.listExtendWith (.ref s.heap.objs.size) (.ref x) .none) _ _ _
  refine wpAny_bind (wpAny_updateSeq hS rfl ?_)
  have I2 := I1.lset (f := fun _ => #[]) (its := []) (its' := []) (ys := []) (t' := s.toks) upd_same hS rfl .nil (Nat.zero_le _)
  rw [upd_upd] at I2
  refine wpAny_bind (wpAny_letGo ?_)
  exact row_extend (Rs := wants (fun r s₂ => r = .none ∧ EP X pins σ Q (.ref s.heap.objs.size) s₂) X.xe) (I.ok.hd hc) c FI FL hr I2 fr I.sz hx hf hl hn
    (fun s' I' => ⟨rfl, .ref s.heap.objs.size, _, I', rfl, q _ fr⟩)
end
end Ev
namespace Ev
open PySem L2 PySem.Spec PyProof.Rows RZ
/-! The row class. -/
def rSumT (K : PySem.W.Frag) : List V → Hp → VK → Prop := fun vs H Q => ∃ (a : Addr) (ns : List Int), vs = [V.ref a] ∧ SqT K H a (ns.map V.int) ∧ Q (.int ns.sum) H
theorem cr_sumT {X : Cx} (hc : X.calm = true) : CallR X (.builtin "sum") (rSumT X.K) := by
  intro pins s σ H vs us Q I r h
  obtain ⟨a, ns, rfl, hs, q⟩ := h
  obtain ⟨its, rv, hl, _⟩ := I.tuple hs
  rw [Vals.ref1 r]
  have hi := rv.ints
  have hl : s.heap.IsTuple a its.toArray := hl
  obtain ⟨xs, hx⟩ := hi.allInts.items
  have hn : numsOf its.toArray.toList = ns := by rw [show its.toArray.toList = its from rfl, hi.numsOf]
  rw [hx] at hl hn
  rw [nums_intItems] at hn
  refine PySem.W.ktm_sumG (I.ok.hd hc) hl fun h' tk t' hk => ?_
  rw [preSum_eq, List.take_of_length_le (by simp), hn]
  exact ⟨.int _, H, I.kept hk, ⟨_, rfl⟩, q⟩
/-- an instance's kind -/
structure FTwo (K : PySem.W.Frag) (C : Addr) : Prop where
  cl : FCls K C
  it : InsT K C
theorem tyF {K : PySem.W.Frag} {C : Addr} {H : Hp} {x dx : Addr} {fs : List (Str × V)} (R : FTwo K C) (h : H x = some (.ins C dx fs)) : TyX K H (.ref x) (.ref C) := .base (.ins h R.cl.cl R.it.ha R.it.hn R.it.htk R.it.hm)
def spNeedFO (C : Addr) : Sp := fun vs H Q _ => ∃ (x : Addr) (r : Fr), vs = [.ref x] ∧ FAt C H x r ∧ Q .non H
def spNeedSO : Sp := fun vs H Q _ => ∃ m : Int, vs = [.int m] ∧ 2 ≤ m ∧ m ≤ 10 ^ 12 ∧ Q .non H
def spNeedPO (C : Addr) : Sp := fun vs H Q _ => ∃ (x : Addr) (r : Fr) (m : Int), vs = [.ref x, .int m] ∧ FAt C H x r ∧ r.ok ∧ 2 ≤ m ∧ m ≤ 10 ^ 12 ∧ 1 ≤ r.least m ∧ r.least m ≤ m ∧ Q .non H
def spNeedU : Sp := fun vs H Q _ => ∃ a m : Int, vs = [.int a, .int m] ∧ 0 ≤ a ∧ a ≤ m ∧ Q .non H
/-- the least fill that a row keeps -/
def Fr.lowK (r : Fr) (m : Int) (xs : List Int) : Int := if (xs.length : Int) = 1 then 1 else if (xs.length : Int) ≤ r.wd ∧ r.least m > (m + 1).fdiv 2 then (m + 1).fdiv 2 else r.least m
def Fr.inK (r : Fr) (m : Int) (xs : List Int) (x : Int) : Bool := decide (r.lowK m xs ≤ x) && decide (x ≤ m)
def Fr.keepR (r : Fr) (m : Int) (xs : List Int) : Bool := xs.all (r.inK m xs)
def spIsKept (C : Addr) : Sp := fun vs H Q _ => ∃ (x l : Addr) (r : Fr) (m : Int) (xs : List Int), vs = [.ref x, .int m, .ref l] ∧ FAt C H x r ∧ r.ok ∧ H l = some (.tup (xs.map V.int)) ∧ Q (.bl (r.keepR m xs)) H
section
variable {P : Program} {w : World} {K : PySem.W.Frag} {mg : Str → Option Value} {base : Heap}
theorem scNeedF : FnScope ["value"] ["value"] (defScope sNeedFillRule) := ⟨rfl, rfl, rfl, by decide +kernel, rfl, by decide +kernel, by decide +kernel⟩
theorem ok_needFO {f C : Addr} {fd : FuncData} (F : Fun K "need_fill_rule" "need_fill_rule" sNeedFillRule f fd) (T : Blt mg) (R : FTwo K C) (gC : mg "FillRule" = some (.ref C)) : FnOk P w K mg base CX0 1 f fd ["value"] (spNeedFO C) := by
  refine F.ok scNeedF (fun vs H Q E h => ?_) (fun cdv A outer s H vs Q E hr h => ?_)
  · obtain ⟨x, r, rfl, _⟩ := h
    rfl
  · obtain ⟨x, r, rfl, ⟨dx, a, hx, ha⟩, k⟩ := h
    refine ⟨_, (pss_one (ps_if (pt_not (pt_val (pe_callB call_isi (by rfl) T.isi (by decide +kernel) (pa_cons (pv 0) (pa_cons (pe_glob (v := .ref C) rfl gC rfl) pa_nil)))))
      (pss_one ps_never) pss_nil)), ?_⟩
    exact ⟨_, rfl, _, _, _, _, true, rfl, .own C, tyF R hx, kit_self, _, rfl, iteF k⟩
theorem scNeedSO : FnScope ["value"] ["value"] (defScope sNeedSize) := ⟨rfl, rfl, rfl, by decide +kernel, rfl, by decide +kernel, by decide +kernel⟩
theorem ok_needSO {f : Addr} {fd : FuncData} (F : Fun K "need_size" "need_size" sNeedSize f fd) (D : Df P w K mg base 2 "is_within" ["value", "least", "most"] spWithinA) {t1 t2 : Tok} (gL : mg "LEAST_SIZE" = some (.int 2 t1)) (gM : mg "MOST_SIZE" = some (.int (10 ^ 12) t2)) : FnOk P w K mg base CX0 3 f fd ["value"] spNeedSO := by
  obtain ⟨fW, fdW, GW, gW, kW, bW⟩ := D.ex
  refine F.ok scNeedSO (fun vs H Q E h => ?_) (fun cdv A outer s H vs Q E hr h => ?_)
  · obtain ⟨m, rfl, _⟩ := h
    rfl
  · obtain ⟨m, rfl, m1, m2, k⟩ := h
    refine ⟨_, pss_one (ps_if (pt_not (pt_val (pe_call GW hr (by rfl) gW kW bW .nil pass0 (pa_cons (pv 0) (pa_cons (pe_glob (v := .int 2) rfl gL ⟨_, rfl⟩) (pa_cons (pe_glob (v := .int (10 ^ 12)) rfl gM ⟨_, rfl⟩) pa_nil))))))
      (pss_one ps_never) pss_nil), ?_⟩
    refine ⟨_, rfl, _, _, _, rfl, .inl ⟨_, rfl⟩, _, rfl, ?_⟩
    rw [inB_in m1 m2]
    exact iteF k
theorem scNeedPO : FnScope ["rule", "most"] ["rule", "most"] (defScope sNeedPageSize) := ⟨rfl, rfl, rfl, by decide +kernel, rfl, by decide +kernel, by decide +kernel⟩
theorem ok_needPO {f C : Addr} {fd : FuncData} (F : Fun K "need_page_size" "need_page_size" sNeedPageSize f fd) (D1 : Df P w K mg base 3 "need_size" ["value"] spNeedSO) (D2 : Df P w K mg base 1 "least_of" ["rule", "most"] (spLeastOf C)) : FnOk P w K mg base CX0 4 f fd ["rule", "most"] (spNeedPO C) := by
  obtain ⟨f1, fd1, G1, g1, k1, b1⟩ := D1.ex
  obtain ⟨f2, fd2, G2, g2, k2, b2⟩ := D2.ex
  refine F.ok scNeedPO (fun vs H Q E h => ?_) (fun cdv A outer s H vs Q E hr h => ?_)
  · obtain ⟨x, r, m, rfl, _⟩ := h
    rfl
  · obtain ⟨x, r, m, rfl, fa, o, m1, m2, q1, q2, k⟩ := h
    refine ⟨_, (pss_cons (ps_expr (pe_call G1 hr (by rfl) g1 k1 b1 .nil pass0 (pa_cons (pv 1) pa_nil)))
      (pss_one (ps_if (pt_not (pt_chain op_le op_le pe_int (pe_call G2 (hr.mono (by decide)) (by rfl) g2 k2 b2 .nil pass0 (pa_cons (pv 0) (pa_cons (pv 1) pa_nil))) (pv 1)))
        (pss_one ps_never) pss_nil))), ?_⟩
    refine ⟨_, rfl, m, rfl, m1, m2, _, rfl, _, rfl, x, r, m, rfl, fa, o, _, _, rfl, rfl, _, rfl, ?_⟩
    rw [decide_eq_true q1]
    refine iteT ⟨_, rfl, _, _, rfl, rfl, _, rfl, ?_⟩
    rw [decide_eq_true q2]
    exact iteF k
theorem scNeedU : FnScope ["value", "most"] ["value", "most"] (defScope sNeedUpTo) := ⟨rfl, rfl, rfl, by decide +kernel, rfl, by decide +kernel, by decide +kernel⟩
theorem ok_needU {f : Addr} {fd : FuncData} (F : Fun K "need_up_to" "need_up_to" sNeedUpTo f fd) (D : Df P w K mg base 2 "is_within" ["value", "least", "most"] spWithinA) : FnOk P w K mg base CX0 3 f fd ["value", "most"] spNeedU := by
  obtain ⟨fW, fdW, GW, gW, kW, bW⟩ := D.ex
  refine F.ok scNeedU (fun vs H Q E h => ?_) (fun cdv A outer s H vs Q E hr h => ?_)
  · obtain ⟨a, m, rfl, _⟩ := h
    rfl
  · obtain ⟨a, m, rfl, m1, m2, k⟩ := h
    refine ⟨_, pss_one (ps_if (pt_not (pt_val (pe_call GW hr (by rfl) gW kW bW .nil pass0 (pa_cons (pv 0) (pa_cons pe_int (pa_cons (pv 1) pa_nil))))))
      (pss_one ps_never) pss_nil), ?_⟩
    refine ⟨_, rfl, _, rfl, _, _, _, rfl, .inl ⟨_, rfl⟩, _, rfl, ?_⟩
    rw [inB_in m1 m2]
    exact iteF k
abbrev nIk : List Str := ["rule", "most", "fills", "least", "fill"]
theorem scIsKept : FnScope nIk ["rule", "most", "fills"] (defScope sIsKept) := ⟨rfl, rfl, rfl, by decide +kernel, rfl, by decide +kernel, by decide +kernel⟩
theorem ok_isKept {f C : Addr} {fd : FuncData} (F : Fun K "is_kept" "is_kept" sIsKept f fd) (T : Blt mg) (TC : FCls K C) (D : Df P w K mg base 1 "least_of" ["rule", "most"] (spLeastOf C)) : FnOk P w K mg base CX0 2 f fd ["rule", "most", "fills"] (spIsKept C) := by
  obtain ⟨f1, fd1, G1, g1, k1, b1⟩ := D.ex
  refine F.ok scIsKept (fun vs H Q E h => ?_) (fun cdv A outer s H vs Q E hr h => ?_)
  · obtain ⟨x, l, r, m, xs, rfl, _⟩ := h
    rfl
  · obtain ⟨x, l, r, m, xs, rfl, fa, o, hl, kk⟩ := h
    obtain ⟨tE, hE, qE⟩ : ∃ t : TS, PSs (cxOf CX0 P w K mg base nIk "is_kept" (defScope sIsKept) f cdv A outer s H E).nox ((defBody sIsKept).drop 2) t ∧
        t { nx := fun _ H' => Q .non H', rt := Q } [some (.ref x), some (.int m), some (.ref l), some (.int (r.lowK m xs)), none] H := by
      refine ⟨_, (pss_cons (ps_for PassesOwn.never rfl (pi_tup (pv 2)) (pg_name (i := 4) scIsKept.nd rfl (.inl rfl))
        (pss_one (ps_if (pt_not (pt_chain op_le op_le (pv 3) (pv 4) (pv 1)))
          (pss_one (ps_ret pe_bl)) pss_nil)))
        (pss_one (ps_ret pe_bl))), ?_⟩
      refine ⟨_, rfl, l, rfl, ⟨_, SqT.of hl⟩, ?_⟩
      refine for_it (walk_tup (K := K) (a := l) (xs := xs.map V.int)) (fun i σ G => G = H ∧ (xs.take i).all (r.inK m xs) = true ∧ ∃ z, σ = [some (.ref x), some (.int m), some (.ref l), some (.int (r.lowK m xs)), z]) ⟨rfl, by simp, _, rfl⟩ (fun i σ G _ h => by rw [h.1]; exact SqT.of hl) (fun i v σ G2 G3 hi h y => ?_) (fun σ G h => ?_)
      · obtain ⟨rfl, hall, z, rfl⟩ := h
        obtain ⟨rfl, hx⟩ := y
        obtain ⟨n, hn, rfl⟩ := int_at hx
        have bad : r.inK m xs n = false → r.keepR m xs = false := fun q => by
          unfold Fr.keepR
          rw [List.all_eq_false]
          exact ⟨n, List.mem_of_getElem? hn, by rw [q]; decide⟩
        have good : r.inK m xs n = true → (xs.take (i + 1)).all (r.inK m xs) = true := fun q => by
          rw [List.take_succ, hn, List.all_append, hall]
          simp [q]
        refine ⟨_, rfl, _, rfl, _, _, rfl, rfl, _, rfl, ?_⟩
        by_cases q1 : r.lowK m xs ≤ n
        · rw [decide_eq_true q1]
          refine iteT ⟨_, rfl, _, _, rfl, rfl, _, rfl, ?_⟩
          by_cases q2 : n ≤ m
          · rw [decide_eq_true q2]
            exact iteF ⟨rfl, good (by unfold Fr.inK; rw [decide_eq_true q1, decide_eq_true q2]; rfl), _, rfl⟩
          · rw [decide_eq_false q2]
            have e := bad (by unfold Fr.inK; rw [decide_eq_false q2, Bool.and_false])
            rw [e] at kk
            exact iteT kk
        · rw [decide_eq_false q1]
          have e := bad (by unfold Fr.inK; rw [decide_eq_false q1]; rfl)
          rw [e] at kk
          exact iteF ⟨_, rfl, iteT kk⟩
      · obtain ⟨rfl, hall, z, rfl⟩ := h
        rw [List.length_map, List.take_length] at hall
        have e : r.keepR m xs = true := hall
        rw [e] at kk
        exact kk
    refine ⟨_, (pss_cons (ps_set (i := 3) scIsKept.nd rfl (.inl rfl) (pe_call G1 hr (by rfl) g1 k1 b1 .nil pass0 (pa_cons (pv 0) (pa_cons (pv 1) pa_nil))))
    (pss_cons (ps_if (pt_cmpR op_eq (pe_callB call_len_seq (by rfl) T.len PySem.boot_len (pa_cons (pv 2) pa_nil)) pe_int (nomark _))
      (pss_one (ps_set (i := 3) scIsKept.nd rfl (.inl rfl) pe_int)) (pss_one (ps_if (PW.pt (pw_and (pt_cmpR op_le (pe_callB call_len_seq (by rfl) T.len PySem.boot_len (pa_cons (pv 2) pa_nil)) (pe_fld (pv 0) rfl) (nomark _)) (pw_and1 (pt_cmpR op_gt (pv 3) (pe_op op_fdivN (pe_op op_add (pv 1) pe_int) pe_int) (nomark _)))))
        (pss_one (ps_set (i := 3) scIsKept.nd rfl (.inl rfl) (pe_op op_fdivN (pe_op op_add (pv 1) pe_int) pe_int))) pss_nil)))
    hE)), ?_⟩
    obtain ⟨dx, a, hx, ha⟩ := id fa
    refine ⟨_, rfl, _, rfl, x, r, m, rfl, fa, o, ?_⟩
    refine ⟨_, rfl, l, _, rfl, .inr (SqT.of hl), rfl, _, rfl, ?_⟩
    rw [List.length_map]
    unfold Fr.lowK at qE
    by_cases z : (xs.length : Int) = 1
    · rw [show decide (V.int (xs.length : Int) = V.int 1) = true from decide_eq_true (by rw [z])]
      rw [if_pos z] at qE
      exact iteT qE
    · rw [show decide (V.int (xs.length : Int) = V.int 1) = false from decide_eq_false fun q => z (V.int.inj q)]
      rw [if_neg z] at qE
      refine iteF ⟨_, rfl, l, _, rfl, .inr (SqT.of hl), _, rfl, x, C, dx, _, _, rfl, hx, TC.cl, TC.n5, fill_width _ _, _, _, rfl, rfl, _, rfl, ?_⟩
      rw [List.length_map]
      by_cases z1 : (xs.length : Int) ≤ r.wd
      · rw [decide_eq_true z1]
        refine iteT ⟨_, rfl, _, rfl, _, _, rfl, rfl, _, _, rfl, rfl, ⟨by omega, by omega⟩, _, _, rfl, rfl, _, rfl, ?_⟩
        by_cases z2 : r.least m > (m + 1).fdiv 2
        · rw [decide_eq_true z2]
          rw [if_pos ⟨z1, z2⟩] at qE
          exact iteT ⟨_, rfl, _, _, rfl, rfl, _, _, rfl, rfl, ⟨by omega, by omega⟩, qE⟩
        · rw [decide_eq_false z2]
          rw [if_neg fun q => z2 q.2] at qE
          exact iteF qE
      · rw [decide_eq_false z1]
        rw [if_neg fun q => z1 q.1] at qE
        exact iteF (iteF qE)
end
end Ev
namespace Ev
open PySem L2 PySem.Spec PyProof.Rows RZ
structure RowC (K : PySem.W.Frag) (R : Addr) : Prop where
  cl : Cls K R
  n1 : NoAttr K R "fill_rule"
  n2 : NoAttr K R "most"
  n3 : NoAttr K R "fills"
def rowF (x l : Addr) (m : Int) : List (Str × V) := [("fill_rule", .ref x), ("most", .int m), ("fills", .ref l)]
def RAt (R C : Addr) (H : Hp) (y : Addr) (r : Fr) (m : Int) (xs : List Int) : Prop := ∃ dx x l, H y = some (.ins R dx (rowF x l m)) ∧ FAt C H x r ∧ H l = some (.tup (xs.map V.int))
theorem RAt.keep {R C y : Addr} {H H' : Hp} {r : Fr} {m : Int} {xs : List Int} (h : RAt R C H y r m xs) (k : Same H H') : RAt R C H' y r m xs := by
  obtain ⟨dx, x, l, h1, h2, h3⟩ := h
  exact ⟨dx, x, l, k _ _ h1, h2.keep k, k _ _ h3⟩
theorem row_rule (x l : Addr) (m : Int) : (rowF x l m).lookup ("fill_rule" : Str) = some (.ref x) := lk_hit
theorem row_most (x l : Addr) (m : Int) : (rowF x l m).lookup ("most" : Str) = some (.int m) := (lk_miss (by decide +kernel)).trans lk_hit
theorem row_fills (x l : Addr) (m : Int) : (rowF x l m).lookup ("fills" : Str) = some (.ref l) := (lk_miss (by decide +kernel)).trans ((lk_miss (by decide +kernel)).trans lk_hit)
theorem row_no (x l : Addr) (m : Int) {f : Str} (h1 : ¬ f = "fill_rule") (h2 : ¬ f = "most") (h3 : ¬ f = "fills") : (rowF x l m).lookup f = none := (lk_miss h1).trans ((lk_miss h2).trans ((lk_miss h3).trans rfl))
theorem rp1 {a : V} : putF "fill_rule" a [] = ([("fill_rule", a)] : List (Str × V)) := rfl
theorem rp2 {a b : V} : putF "most" b [("fill_rule", a)] = ([("fill_rule", a), ("most", b)] : List (Str × V)) := put_new (by intro e0 he; simp only [List.mem_cons, List.not_mem_nil, or_false] at he; subst he; dsimp only; decide +kernel)
theorem rp3 {a b c : V} : putF "fills" c [("fill_rule", a), ("most", b)] = ([("fill_rule", a), ("most", b), ("fills", c)] : List (Str × V)) := put_new (by intro e0 he; simp only [List.mem_cons, List.not_mem_nil, or_false] at he; rcases he with he | he <;> subst he <;> dsimp only <;> decide +kernel)
def spRowI (R C : Addr) : Sp := fun vs H Q _ => ∃ (y dx x l : Addr) (r : Fr) (m : Int) (xs : List Int), vs = [.ref y, .ref x, .int m, .ref l] ∧ H y = some (.ins R dx []) ∧ FAt C H x r ∧ r.ok ∧ 2 ≤ m ∧ m ≤ 10 ^ 12 ∧ 1 ≤ r.least m ∧ r.least m ≤ m ∧
  H l = some (.lst (xs.map V.int)) ∧ xs.length ≤ 2000 ∧ (∀ z ∈ xs, 1 ≤ z ∧ z ≤ 10 ^ 15) ∧ ∀ H', But y H H' → RAt R C H' y r m xs → Q .non H'
def spTotal (R C : Addr) : Sp := fun vs H Q _ => ∃ (y : Addr) (r : Fr) (m : Int) (xs : List Int), vs = [.ref y] ∧ RAt R C H y r m xs ∧ Q (.int xs.sum) H
def spYoung (R C : Addr) : Sp := fun vs H Q _ => ∃ (y : Addr) (r : Fr) (m : Int) (xs : List Int), vs = [.ref y] ∧ RAt R C H y r m xs ∧ Q (.bl (decide ((xs.length : Int) ≤ r.wd))) H
def spKeepsP (R C : Addr) : Sp := fun vs H Q _ => ∃ (y : Addr) (r : Fr) (m : Int) (xs : List Int), vs = [.ref y] ∧ RAt R C H y r m xs ∧ r.ok ∧ Q (.bl (r.keepR m xs)) H
def okFills (xs : List Int) : Prop := xs.length ≤ 2000 ∧ ∀ z ∈ xs, 1 ≤ z ∧ z ≤ 10 ^ 15
def spPut (R C : Addr) : Sp := fun vs H Q _ => ∃ (y : Addr) (r : Fr) (m a : Int) (xs : List Int), vs = [.ref y, .int a] ∧ RAt R C H y r m xs ∧ r.ok ∧ 2 ≤ m ∧ m ≤ 10 ^ 12 ∧ 1 ≤ r.least m ∧ r.least m ≤ m ∧ okFills xs ∧ 0 ≤ a ∧ a ≤ xs.sum ∧ okFills (r.putR m xs a).1 ∧
  ∀ t y' v H', Same H H' → H' t = some (.tup [.ref y', v]) → RAt R C H' y' r m (r.putR m xs a).1 → DeedV H' v (r.putR m xs a).2 → Q (.ref t) H'
def spTake (R C : Addr) : Sp := fun vs H Q _ => ∃ (y : Addr) (r : Fr) (m a : Int) (xs : List Int), vs = [.ref y, .int a] ∧ RAt R C H y r m xs ∧ r.ok ∧ 2 ≤ m ∧ m ≤ 10 ^ 12 ∧ 1 ≤ r.least m ∧ r.least m ≤ m ∧ okFills xs ∧ 0 ≤ a ∧ a < xs.sum ∧ okFills (r.takeR m xs a).1 ∧
  ∀ t y' v H', Same H H' → H' t = some (.tup [.ref y', v]) → RAt R C H' y' r m (r.takeR m xs a).1 → DeedV H' v (r.takeR m xs a).2 → Q (.ref t) H'
/-- a row may be made -/
structure RowM (P : Program) (w : World) (K : PySem.W.Frag) (mg : Str → Option Value) (base : Heap) (R C : Addr) : Prop where
  g : mg "Row" = some (.ref R)
  ex : ∃ (f : Addr) (fd : FuncData), Mk K R f ∧ FnOk P w K mg base CX0 5 f fd ["self", "rule", "most", "fills"] (spRowI R C) ∧ Binds K fd ["self", "rule", "most", "fills"] []
/-- a property -/
def RowP (P : Program) (w : World) (K : PySem.W.Frag) (mg : Str → Option Value) (base : Heap) (R : Addr) (n : Str) (k : Nat) (sp : Sp) : Prop :=
  ∃ (p g : Addr) (fd : FuncData), PropOf K R n p g ∧ FnOk P w K mg base CX0 k g fd ["self"] sp ∧ Binds K fd ["self"] []
/-- the reading of a new row -/
theorem mk_row {R C : Addr} {x l : Addr} {r : Fr} {m : Int} {xs : List Int} {H : Hp} {Q : Addr → Hp → Prop} (fa : FAt C H x r) (o : r.ok) (m1 : 2 ≤ m) (m2 : m ≤ 10 ^ 12) (q1 : 1 ≤ r.least m) (q2 : r.least m ≤ m) (hl : H l = some (.lst (xs.map V.int))) (ok : okFills xs)
    (k : ∀ y H', Same H H' → RAt R C H' y r m xs → Q y H') : ∀ y dx, H y = none → H dx = none → dx ≠ y → spRowI R C (.ref y :: ([.ref x, .int m, .ref l] ++ [])) (upd (upd H dx (.own y)) y (.ins R dx [])) (fun v H2 => v = .non ∧ Q y H2) E0 := by
  intro y dx ny ndx ne
  have keep : ∀ (o1 o2 : HO), Same H (upd (upd H dx o1) y o2) := fun o1 o2 b u e => by
    rw [upd_ne (ne_of_none e ny), upd_ne (ne_of_none e ndx)]; exact e
  refine ⟨y, dx, x, l, r, m, xs, rfl, upd_same, fa.keep (keep _ _), o, m1, m2, q1, q2, keep _ _ _ _ hl, ok.1, ok.2, fun H' bt ra => ⟨rfl, k y H' (fun b u e => bt _ _ (ne_of_none e ny) (keep _ _ _ _ e)) ra⟩⟩
section
variable {P : Program} {w : World} {K : PySem.W.Frag} {mg : Str → Option Value} {base : Heap}
theorem fund_ok0 {x qual : Str} {params : Arguments} {body : List Stmt} {scope : Scope} {dvs : List V} {kws : List (Str × V)} {f : Addr} {fd : FuncData} {N ps : List Str} {k : Nat} {sp : Sp} (F : FunD K x qual params body scope dvs kws f fd) (S : FnScope N ps scope) (len : ∀ vs H Q E, sp vs H Q E → vs.length = ps.length)
    (hbody : ∀ (cdv : Value) (A : Around) (outer : List Env) (s : Shared) (H : Hp) (vs : List V) (Q : VK) (E : XK), Room k (A.deeper (envOfC qual scope s.heap.objs.size f cdv)) → sp vs H Q E →
      ∃ t, PSs (cxOf CX0 P w K mg base N qual scope f cdv A outer s H E).nox body t ∧ t { nx := fun _ H' => Q .non H', rt := Q } (start N vs) H) : FnOk P w K mg base CX0 (k + 1) f fd ps sp :=
  F.ok S len fun cdv A outer s H vs Q E hr h => let ⟨t, p, q⟩ := hbody cdv A outer s H vs Q E hr h; ⟨t, p.nox, q⟩
abbrev nRi : List Str := ["self", "rule", "most", "fills", "at", "fill"]
theorem scRowI : FnScope nRi ["self", "rule", "most", "fills"] (defScope sRow_init) := ⟨rfl, rfl, rfl, by decide +kernel, rfl, by decide +kernel, by decide +kernel⟩
theorem ok_rowI {f R C : Addr} {fd : FuncData} {dvs : List V} {kws : List (Str × V)} (F : FunD K "__init__" "Row.__init__" (defArgs sRow_init) (defBody sRow_init) (defScope sRow_init) dvs kws f fd) (T : Blt mg) (me : mg "enumerate" = none) (TR : RowC K R)
    (D1 : Df P w K mg base 1 "need_fill_rule" ["value"] (spNeedFO C)) (D2 : Df P w K mg base 4 "need_page_size" ["rule", "most"] (spNeedPO C)) (D3 : Df P w K mg base 2 "is_within" ["value", "least", "most"] spWithinA)
    {t1 t2 : Tok} (gP : mg "MOST_PAGES" = some (.int 2000 t1)) (gF : mg "MOST_FILL" = some (.int (10 ^ 15) t2)) : FnOk P w K mg base CX0 5 f fd ["self", "rule", "most", "fills"] (spRowI R C) := by
  obtain ⟨f1, fd1, G1, g1, k1, b1⟩ := D1.ex
  obtain ⟨f2, fd2, G2, g2, k2, b2⟩ := D2.ex
  obtain ⟨f3, fd3, G3, g3, k3, b3⟩ := D3.ex
  refine fund_ok0 F scRowI (fun vs H Q E h => ?_) (fun cdv A outer s H vs Q E hr h => ?_)
  · obtain ⟨y, dx, x, l, r, m, xs, rfl, _⟩ := h
    rfl
  · obtain ⟨y, dx, x, l, r, m, xs, rfl, hy, fa, o, m1, m2, q1, q2, hl, z1, z2, kk⟩ := h
    refine ⟨_, (pss_cons (ps_expr (pe_call G1 (hr.mono (by decide)) (by rfl) g1 k1 b1 .nil pass0 (pa_cons (pv 1) pa_nil)))
    (pss_cons (ps_expr (pe_call G2 hr (by rfl) g2 k2 b2 .nil pass0 (pa_cons (pv 1) (pa_cons (pv 2) pa_nil))))
    (pss_cons (ps_if (pt_not (pt_val (pe_callB call_isiT (by rfl) T.isi (by decide +kernel) (pa_cons (pv 3) (pa_cons (pe_tup (pa_cons (pe_bltn (v := .ty "list") (by rfl) T.list (by decide +kernel) rfl) (pa_cons (pe_bltn (v := .ty "tuple") (by rfl) T.tuple (by decide +kernel) rfl) pa_nil))) pa_nil)))))
      (pss_one ps_never) pss_nil)
    (pss_cons (ps_if (pt_cmpR op_gt (pe_callB call_len_seq (by rfl) T.len PySem.boot_len (pa_cons (pv 3) pa_nil)) (pe_glob (v := .int 2000) rfl gP ⟨_, rfl⟩) (nomark _))
      (pss_one ps_never) pss_nil)
    (pss_cons (ps_for PassesOwn.never rfl (pi_enum (by rfl) me (pa_cons (pv 3) pa_nil)) (pg_tup rfl (pgs_cons (pg_name (i := 4) scRowI.nd rfl (.inl rfl)) (pgs_cons (pg_name (i := 5) scRowI.nd rfl (.inl rfl)) pgs_nil)))
      (pss_one (ps_if (pt_not (pt_val (pe_call G3 (hr.mono (by decide)) (by rfl) g3 k3 b3 .nil pass0 (pa_cons (pv 5) (pa_cons pe_int (pa_cons (pe_glob (v := .int (10 ^ 15)) rfl gF ⟨_, rfl⟩) pa_nil))))))
        (pss_one ps_never) pss_nil)))
    (pss_cons (ps_fld (pv 0) (pv 1) rfl)
    (pss_cons (ps_fld (pv 0) (pv 2) rfl)
    (pss_one (ps_fld (pv 0) (pe_callTy call_tuple_of (by rfl) T.tuple (by decide +kernel) (pa_cons (pv 3) pa_nil)) rfl))))))))), ?_⟩
    refine ⟨_, rfl, x, r, rfl, fa, _, rfl, _, rfl, x, r, m, rfl, fa, o, m1, m2, q1, q2, ?_⟩
    refine ⟨_, rfl, (by show 2 ≤ sizeLine; decide), fun tp ntp => ⟨_, tp, _, _, _, true, rfl, upd_same, .cons (.ty _) (.cons (.ty _) .nil), .base (.lst (same_new ntp _ _ hl)), kit_any2 (r1 := true) (r2 := false) (by decide +kernel) (by decide +kernel), _, rfl, iteF ?_⟩⟩
    have s1 : Same H (upd H tp (.tup [.ty "list", .ty "tuple"])) := same_new ntp
    generalize upd H tp (.tup [.ty "list", .ty "tuple"]) = H1 at s1 ⊢
    refine ⟨_, rfl, l, _, rfl, .inl (SqL.of (s1 _ _ hl)), _, _, rfl, rfl, _, rfl, ?_⟩
    rw [List.length_map]
    rw [show decide ((xs.length : Int) > 2000) = false from decide_eq_false (by omega)]
    refine iteF ⟨_, rfl, l, _, rfl, SqL.of (s1 _ _ hl), ?_⟩
    refine for_it (walk_enum (K := K) (a := l) (xs := xs.map V.int)) (fun i σ G => Same H G ∧ ∃ v4 v5, σ = [some (.ref y), some (.ref x), some (.int m), some (.ref l), v4, v5]) ⟨s1, _, _, rfl⟩ (fun i σ G _ h => SqL.of (h.1 _ _ hl)) (fun i v σ G2 G3 hi h y' => ?_) (fun σ G h => ?_)
    · obtain ⟨s2, v4, v5, rfl⟩ := h
      obtain ⟨Tp, vx, vy, rfl, nT, rfl, ex, ey⟩ := y'
      obtain ⟨n, hn, rfl⟩ := int_at ey
      obtain rfl : V.int (i : Int) = vx := Option.some.inj ex
      obtain ⟨n1, n2⟩ := z2 n (List.mem_of_getElem? hn)
      have s3 : Same H (upd G2 Tp (.tup [.int (i : Int), .int n])) := s2.trans (same_new nT)
      refine ⟨Tp, _, rfl, SqT.of upd_same, rfl, _, _, rfl, _, _, rfl, rfl, _, rfl, _, _, _, rfl, .inl ⟨_, rfl⟩, _, rfl, ?_⟩
      rw [inB_in n1 n2]
      exact iteF ⟨s3, _, _, rfl⟩
    · obtain ⟨s2, v4, v5, rfl⟩ := h
      have fa2 := fa.keep s2
      refine ⟨_, rfl, _, rfl, y, R, dx, _, rfl, s2 _ _ hy, TR.cl, TR.n1, (by show 0 < 1000; decide), ?_⟩
      rw [rp1]
      have y1 : upd G y (.ins R dx [("fill_rule", .ref x)]) y = some (.ins R dx [("fill_rule", .ref x)]) := upd_same
      have t1 : But y H (upd G y (.ins R dx [("fill_rule", .ref x)])) := (Same.but s2).trans But.upd_at
      generalize upd G y (.ins R dx [("fill_rule", .ref x)]) = H2 at y1 t1 ⊢
      refine ⟨_, rfl, _, rfl, y, R, dx, _, rfl, y1, TR.cl, TR.n2, (by show 1 < 1000; decide), ?_⟩
      rw [rp2]
      have y2 : upd H2 y (.ins R dx [("fill_rule", .ref x), ("most", .int m)]) y = some (.ins R dx [("fill_rule", .ref x), ("most", .int m)]) := upd_same
      have t2 : But y H (upd H2 y (.ins R dx [("fill_rule", .ref x), ("most", .int m)])) := t1.trans But.upd_at
      generalize upd H2 y (.ins R dx [("fill_rule", .ref x), ("most", .int m)]) = H3 at y2 t2 ⊢
      have ly : l ≠ y := ne_of hl hy (by intro z; cases z)
      refine ⟨_, rfl, l, _, rfl, .inl ⟨SqL.of (t2 _ _ ly hl), fun q nq => ?_⟩⟩
      refine ⟨_, rfl, y, R, dx, _, rfl, same_new nq _ _ y2, TR.cl, TR.n3, (by show 2 < 1000; decide), ?_⟩
      rw [rp3]
      have qy : q ≠ y := fun z => by rw [z, y2] at nq; cases nq
      refine kk _ (t2.trans ((But.upd_new nq).trans But.upd_at)) ⟨dx, x, q, upd_same, ?_, by rw [upd_ne qy]; exact upd_same⟩
      obtain ⟨dx', a, h1, h2⟩ := fa
      have bt := t2.trans ((But.upd_new nq).trans (But.upd_at (p := y) (H := upd H3 q (.tup (xs.map V.int))) (o := .ins R dx (rowF x q m))))
      exact ⟨dx', a, bt _ _ (fun z => by subst z; rw [hy] at h1; cases h1) h1, bt _ _ (ne_of h2 hy (by intro z; cases z)) h2⟩
end
end Ev
namespace Ev
open PySem L2 PySem.Spec PyProof.Rows RZ
/-! The methods of a row. -/
section
variable {P : Program} {w : World} {K : PySem.W.Frag} {mg : Str → Option Value} {base : Heap}
theorem scRLen : FnScope ["self"] ["self"] (defScope sRow_len) := ⟨rfl, rfl, rfl, by decide +kernel, rfl, by decide +kernel, by decide +kernel⟩
theorem scRIter : FnScope ["self"] ["self"] (defScope sRow_iter) := ⟨rfl, rfl, rfl, by decide +kernel, rfl, by decide +kernel, by decide +kernel⟩
theorem scRTotal : FnScope ["self"] ["self"] (defScope sRow_total) := ⟨rfl, rfl, rfl, by decide +kernel, rfl, by decide +kernel, by decide +kernel⟩
theorem scRYoung : FnScope ["self"] ["self"] (defScope sRow_is_young) := ⟨rfl, rfl, rfl, by decide +kernel, rfl, by decide +kernel, by decide +kernel⟩
theorem scRKeeps : FnScope ["self"] ["self"] (defScope sRow_keeps) := ⟨rfl, rfl, rfl, by decide +kernel, rfl, by decide +kernel, by decide +kernel⟩
theorem ok_rlen {f R : Addr} {fd : FuncData} (F : Fun K "__len__" "Row.__len__" sRow_len f fd) (T : Blt mg) (TR : RowC K R) : FnOk P w K mg base CX0 1 f fd ["self"] (spRLen R) := by
  refine F.ok scRLen (fun vs H Q E h => ?_) (fun cdv A outer s H vs Q E hr h => ?_)
  · obtain ⟨x, dx, l, fs, zs, rfl, _⟩ := h
    rfl
  · obtain ⟨x, dx, l, fs, zs, rfl, hx, hf, hl, k⟩ := h
    refine ⟨_, (pss_one (ps_ret (pe_callB call_len_seq (by rfl) T.len PySem.boot_len (pa_cons (pe_fld (pv 0) rfl) pa_nil)))), ?_⟩
    exact ⟨_, rfl, x, R, dx, _, _, rfl, hx, TR.cl, TR.n3, hf, l, _, rfl, .inr (SqT.of hl), k⟩
theorem ok_riter {f R : Addr} {fd : FuncData} (F : Fun K "__iter__" "Row.__iter__" sRow_iter f fd) (mi : mg "iter" = none) (TR : RowC K R) : FnOk P w K mg base CX0 1 f fd ["self"] (spRIter R) := by
  refine F.ok scRIter (fun vs H Q E h => ?_) (fun cdv A outer s H vs Q E hr h => ?_)
  · obtain ⟨x, dx, l, fs, zs, rfl, _⟩ := h
    rfl
  · obtain ⟨x, dx, l, fs, zs, rfl, hx, hf, hl, k⟩ := h
    refine ⟨_, (pss_one (ps_ret (pe_callB call_iterT (by rfl) mi (by decide +kernel) (pa_cons (pe_fld (pv 0) rfl) pa_nil)))), ?_⟩
    exact ⟨_, rfl, x, R, dx, _, _, rfl, hx, TR.cl, TR.n3, hf, l, _, rfl, hl, k⟩
theorem ok_rtotal {f R C : Addr} {fd : FuncData} (F : Fun K "total" "Row.total" sRow_total f fd) (ms : mg "sum" = none) (TR : RowC K R) : FnOk P w K mg base CX0 1 f fd ["self"] (spTotal R C) := by
  refine F.ok scRTotal (fun vs H Q E h => ?_) (fun cdv A outer s H vs Q E hr h => ?_)
  · obtain ⟨y, r, m, xs, rfl, _⟩ := h
    rfl
  · obtain ⟨y, r, m, xs, rfl, ⟨dx, x, l, hy, fa, hl⟩, k⟩ := h
    refine ⟨_, (pss_one (ps_ret (pe_callB (cr_sumT rfl) (by rfl) ms (by decide +kernel) (pa_cons (pe_fld (pv 0) rfl) pa_nil)))), ?_⟩
    exact ⟨_, rfl, y, R, dx, _, _, rfl, hy, TR.cl, TR.n3, row_fills _ _ _, l, _, rfl, SqT.of hl, k⟩
theorem ok_ryoung {f R C : Addr} {fd : FuncData} (F : Fun K "is_young" "Row.is_young" sRow_is_young f fd) (T : Blt mg) (TR : RowC K R) (TC : FCls K C) : FnOk P w K mg base CX0 1 f fd ["self"] (spYoung R C) := by
  refine F.ok scRYoung (fun vs H Q E h => ?_) (fun cdv A outer s H vs Q E hr h => ?_)
  · obtain ⟨y, r, m, xs, rfl, _⟩ := h
    rfl
  · obtain ⟨y, r, m, xs, rfl, ⟨dx, x, l, hy, ⟨dx2, a, hx, ha⟩, hl⟩, k⟩ := h
    refine ⟨_, (pss_one (ps_ret (pe_cmpR op_le (pe_callB call_len_seq (by rfl) T.len PySem.boot_len (pa_cons (pe_fld (pv 0) rfl) pa_nil)) (pe_fld (pe_fld (pv 0) rfl) rfl) (nomark _)))), ?_⟩
    refine ⟨_, rfl, y, R, dx, _, _, rfl, hy, TR.cl, TR.n3, row_fills _ _ _, l, _, rfl, .inr (SqT.of hl), ?_⟩
    rw [List.length_map]
    exact ⟨_, rfl, y, R, dx, _, _, rfl, hy, TR.cl, TR.n1, row_rule _ _ _, x, C, dx2, _, _, rfl, hx, TC.cl, TC.n5, fill_width _ _, _, _, rfl, rfl, k⟩
theorem ok_rkeeps {f R C : Addr} {fd : FuncData} (F : Fun K "keeps" "Row.keeps" sRow_keeps f fd) (TR : RowC K R) (D : Df P w K mg base 2 "is_kept" ["rule", "most", "fills"] (spIsKept C)) : FnOk P w K mg base CX0 3 f fd ["self"] (spKeepsP R C) := by
  obtain ⟨f1, fd1, G1, g1, k1, b1⟩ := D.ex
  refine F.ok scRKeeps (fun vs H Q E h => ?_) (fun cdv A outer s H vs Q E hr h => ?_)
  · obtain ⟨y, r, m, xs, rfl, _⟩ := h
    rfl
  · obtain ⟨y, r, m, xs, rfl, ⟨dx, x, l, hy, fa, hl⟩, o, k⟩ := h
    refine ⟨_, (pss_one (ps_ret (pe_call G1 hr (by rfl) g1 k1 b1 .nil pass0 (pa_cons (pe_fld (pv 0) rfl) (pa_cons (pe_fld (pv 0) rfl) (pa_cons (pe_fld (pv 0) rfl) pa_nil)))))), ?_⟩
    exact ⟨_, rfl, y, R, dx, _, _, rfl, hy, TR.cl, TR.n1, row_rule _ _ _, _, rfl, y, R, dx, _, _, rfl, hy, TR.cl, TR.n2, row_most _ _ _, _, rfl, y, R, dx, _, _, rfl, hy, TR.cl, TR.n3, row_fills _ _ _, x, l, r, m, xs, rfl, fa, o, hl, k⟩
end
end Ev
namespace Ev
open PySem L2 PySem.Spec PyProof.Rows LamX
theorem passX0 {P : Program} {w : World} {X : Cx} : Passes (L2.CX P w) X E0 := fun _ _ _ _ _ _ _ h => by
  obtain ⟨a, B, H', cls, d, _, _, _, _, _, _, _, z⟩ := h
  exact z.elim
/-- all is kept but the list at p and tables -/
def ExtP (p : Addr) (H H' : Hp) : Prop := ∀ b o, b ≠ p → H b = some o → (∀ ps : Array Value, o ≠ HO.tbl ps) → H' b = some o
theorem ExtP.refl (p : Addr) (H : Hp) : ExtP p H H := fun _ _ _ e _ => e
theorem ExtP.trans {p : Addr} {H H1 H2 : Hp} (a : ExtP p H H1) (b : ExtP p H1 H2) : ExtP p H H2 := fun c o n e t => b c o n (a c o n e t) t
theorem ExtN.p {p : Addr} {H H' : Hp} (h : ExtN H H') : ExtP p H H' := fun b o _ e t => h b o e t
theorem But.p {p : Addr} {H H' : Hp} (h : But p H H') : ExtP p H H' := fun b o n e _ => h b o n e
theorem Same.p {p : Addr} {H H' : Hp} (h : Same H H') : ExtP p H H' := fun b o _ e _ => h b o e
theorem Same.extN {H H' : Hp} (k : Same H H') : ExtN H H' := fun b o e _ => k b o e
theorem Tabs.but {T : List (Addr × Str)} {p : Addr} {H H' : Hp} {xs : List V} (t : Tabs T H) (hp : H p = some (.lst xs)) (k : But p H H') : Tabs T H' := by
  intro q hq
  obtain ⟨ps, h1, h2, h3⟩ := t q hq
  refine ⟨ps, k _ _ (fun z => by rw [z, hp] at h1; cases h1) h1, h2, fun pos cv hc => ?_⟩
  obtain ⟨c, e1, e2⟩ := h3 pos cv hc
  refine ⟨c, e1, k _ _ (fun z => ?_) e2⟩
  rw [z, hp] at e2
  have e3 : HO.lst xs = HO.ext _ := Option.some.inj e2
  cases e3
theorem Pen.ext {L : Addr} {H H' : Hp} {p : Addr} {B : Int} (h : Pen L H p B) (k : ExtN H H') : Pen L H' p B := by
  obtain ⟨ns, t, c, h1, h2, r⟩ := h
  exact ⟨ns, t, c, k _ _ h1 (fun _ z => by cases z), k _ _ h2 (fun _ z => by cases z), r⟩
theorem FAt.ext {C : Addr} {H H' : Hp} {x : Addr} {r : Fr} (h : FAt C H x r) (k : ExtN H H') : FAt C H' x r := by
  obtain ⟨dx, a, h1, h2⟩ := h
  exact ⟨dx, a, k _ _ h1 (fun _ z => by cases z), k _ _ h2 (fun _ z => by cases z)⟩
end Ev
namespace Ev
open PySem L2 PySem.Spec PyProof.Rows LamX
theorem tiny_log {n : Int} (h : n.natAbs ≤ 99) : n.natAbs.log2 < 1920 := by
  by_cases z : n.natAbs = 0
  · rw [z]; decide
  · exact (Nat.log2_lt z).mpr (Nat.lt_of_le_of_lt h (by decide +kernel))
theorem tiny_show {n : Int} (h : n.natAbs ≤ 99) : (PyData.int n).showable = true := decide_eq_true (tiny_log h)
theorem tiny_weight {n : Int} (h : n.natAbs ≤ 99) : (PyData.int n).weight ≤ 1002 := by
  have e : n = 0 ∨ n.natAbs.log2 < 1000 := by
    by_cases z : n.natAbs = 0
    · exact .inl (Int.natAbs_eq_zero.mp z)
    · exact .inr ((Nat.log2_lt z).mpr (Nat.lt_of_le_of_lt h (by decide +kernel)))
  simp only [PyData.weight]
  split
  · omega
  · rename_i z
    have : ¬ n = 0 := by simpa using z
    omega
theorem tiny_leaf {n : Int} (h : n.natAbs ≤ 99) : (PyData.int n).leavesShort 2000 = true := by
  have e := int_text_length_le (k := 1920) (by decide) (tiny_log h)
  refine decide_eq_true ?_
  show (Str.ofString (toString n)).length ≤ 2000
  rw [PySem.ofString_length]
  omega
theorem show_len {d : PyData} (h : d.leavesShort 2000 = true) (hw : d.weight ≤ 8000) : d.shown.length ≤ sizeLine := by
  have := PyData.shown_le 2000 (by decide) d h
  rw [sizeLine_eq]
  omega
def frD (r : Fr) (v : Int) : PyData := .list [.tuple [.int r.p, .int r.q], .int r.k, .int r.c, .int r.j, .int v]
theorem fr_show {r : Fr} (o : r.ok) {v : Int} (hv : v.natAbs ≤ 99) : (frD r v).showable = true ∧ (frD r v).depth ≤ 32 ∧ (frD r v).shown.length ≤ sizeLine := by
  have hp : r.p.natAbs ≤ 99 := by have := o.p1; have := o.p2; omega
  have hq : r.q.natAbs ≤ 99 := by have := o.q1; have := o.q2; omega
  have hk : r.k.natAbs ≤ 99 := by have := o.k1; have := o.k2; omega
  have hc : r.c.natAbs ≤ 99 := by have := o.c1; have := o.c2; omega
  have hj : r.j.natAbs ≤ 99 := by have := o.j1; have := o.j2; omega
  refine ⟨?_, by simp [frD, PyData.depth, PyData.depthAll], show_len ?_ ?_⟩
  · have a1 := tiny_show hp; have a2 := tiny_show hq; have a3 := tiny_show hk; have a4 := tiny_show hc; have a5 := tiny_show hj; have a6 := tiny_show hv
    simp only [frD, PyData.showable, PyData.showableAll] at a1 a2 a3 a4 a5 a6 ⊢
    simp [a1, a2, a3, a4, a5, a6]
  · have a1 := tiny_leaf hp; have a2 := tiny_leaf hq; have a3 := tiny_leaf hk; have a4 := tiny_leaf hc; have a5 := tiny_leaf hj; have a6 := tiny_leaf hv
    simp only [frD, PyData.leavesShort, PyData.leavesShortAll] at a1 a2 a3 a4 a5 a6 ⊢
    simp [a1, a2, a3, a4, a5, a6]
  · have a1 := tiny_weight hp; have a2 := tiny_weight hq; have a3 := tiny_weight hk; have a4 := tiny_weight hc; have a5 := tiny_weight hj; have a6 := tiny_weight hv
    simp only [frD, PyData.weight, PyData.weightAll] at a1 a2 a3 a4 a5 a6 ⊢
    omega
theorem fr_dp {K : PySem.W.Frag} {H : Hp} {l t : Addr} {r : Fr} {v : Int} (h : H l = some (.lst [.ref t, .int r.k, .int r.c, .int r.j, .int v])) (ht : H t = some (.tup [.int r.p, .int r.q])) : Dp K H (.ref l) (frD r v) :=
  .lst (SqL.of h) (.cons (.tup (SqT.of ht) (.cons (.int _) (.cons (.int _) .nil))) (.cons (.int _) (.cons (.int _) (.cons (.int _) (.cons (.int _) .nil)))))
theorem Fr.wd_le {r : Fr} (o : r.ok) : r.wd.natAbs ≤ 99 := by
  have := o.c1; have := o.c2; have := o.j1; have := o.j2
  unfold Fr.wd
  split <;> omega
/-- a fill rule made -/
theorem mk_fill {C x dx t : Addr} {r : Fr} {H : Hp} {Q : VK} {E : XK} (nx : H x = none) (ndx : H dx = none) (ht : H t = some (.tup [.int r.p, .int r.q])) (o : r.ok) (k : ∀ H', Same H H' → FAt C H' x r → Q .non H') :
    spFillOk C [.ref x, .ref t, .int r.k, .int r.c, .int r.j] (upd (upd H dx (.own x)) x (.ins C dx [])) Q E := by
  have keep : ∀ (b : Addr) (u : HO), H b = some u → upd (upd H dx (.own x)) x (.ins C dx []) b = some u := fun b u e => by
    rw [upd_ne (ne_of_none e nx), upd_ne (ne_of_none e ndx)]; exact e
  refine ⟨x, dx, t, r, rfl, upd_same, keep _ _ ht, o, fun H3 t3 hx3 => ?_⟩
  have s3 : Same H H3 := fun b u e => t3 _ _ (ne_of_none e nx) (keep _ _ e)
  exact k H3 s3 ⟨dx, t, hx3, s3 _ _ ht⟩
end Ev
namespace Ev
open PySem L2 PySem.Spec PyProof.Rows RZ
def spLLeast : Sp := fun vs H Q _ => ∃ (l : Addr) (r : Fr) (m : Int), vs = [.ref l, .int m] ∧ H l = some (.tup (tupR r)) ∧ r.ok ∧ Q (.int (r.least m)) H
section
variable {P : Program} {w : World} {K : PySem.W.Frag} {mg : Str → Option Value} {base : Heap}
theorem scLLeast : FnScope ["_law_told", "_law_top"] ["_law_told", "_law_top"] (defScope sLLeast) := ⟨rfl, rfl, rfl, by decide +kernel, rfl, by decide +kernel, by decide +kernel⟩
theorem ok_lleast {f : Addr} {fd : FuncData} (F : Fun K "_law_least" "_law_least" sLLeast f fd) : FnOk P w K mg base CX0 1 f fd ["_law_told", "_law_top"] spLLeast := by
  refine F.ok scLLeast (fun vs H Q E h => ?_) (fun cdv A outer s H vs Q E hr h => ?_)
  · obtain ⟨l, r, m, rfl, _⟩ := h
    rfl
  · obtain ⟨l, r, m, rfl, hl, o, k⟩ := h
    have := o.q1; have := o.q2
    refine ⟨_, (pss_one (ps_ret (pe_op op_fdivN (pe_op op_add (pe_op op_mul (pe_ix ix_tup (pv 0) pe_int (fun _ _ => rfl)) (pv 1)) (pe_ix ix_tup (pv 0) pe_int (fun _ _ => rfl))) (pe_ix ix_tup (pv 0) pe_int (fun _ _ => rfl))))), ?_⟩
    exact ⟨_, rfl, l, _, _, _, rfl, rfl, SqT.of hl, i5_0, _, rfl, _, _, rfl, rfl, .inl (mw (b := 12) (by have := o.p1; omega) o.p2 (by decide)), _, rfl, l, _, _, _, rfl, rfl, SqT.of hl, i5_2, _, _, rfl, rfl, _, rfl, l, _, _, _, rfl, rfl, SqT.of hl, i5_1, _, _, rfl, rfl, ⟨by omega, by omega⟩, k⟩
end
end Ev
namespace Ev
open PySem L2 PySem.Spec PyProof.Rows RZ
theorem cut_fromV {xs : List V} {j : Nat} (h : j ≤ xs.length) : cutV xs (some (j : Int)) none = xs.drop j := by
  unfold cutV
  rw [HT.sIx_none, HT.sIx_nat, Nat.min_eq_left h]
  rw [← List.length_drop]
  exact List.take_length
theorem catA {K : PySem.W.Frag} {a b : Addr} {xs ys : List V} {H : Hp} {Q : VK} (h1 : H a = some (.tup xs)) (h2 : H b = some (.tup ys)) (hl : xs.length + ys.length ≤ 1000) (k : ∀ (r : Addr) (H' : Hp), Same H H' → H' r = some (.tup (xs ++ ys)) → Q (.ref r) H') : rCatA K (.ref a) (.ref b) H Q := by
  refine ⟨a, b, xs, ys, rfl, rfl, SqT.of h1, SqT.of h2, Nat.le_trans hl (by decide), fun e => ?_, fun _ e => ?_, fun _ _ r nr => k r _ (same_new nr) upd_same⟩
  · subst e
    exact k b H (Same.refl H) h2
  · subst e
    exact k a H (Same.refl H) (by rw [List.append_nil]; exact h1)
theorem slA {K : PySem.W.Frag} {l : Addr} {xs : List V} {lo hi : Option Int} {H : Hp} {Q : VK} (h : H l = some (.tup xs)) (k : ∀ (a : Addr) (H' : Hp), Same H H' → H' a = some (.tup (cutV xs lo hi)) → Q (.ref a) H') : rSlA K (.ref l) lo hi H Q := by
  refine ⟨l, _, rfl, SqT.of h, fun z => k l H (Same.refl H) ?_, fun z a na => k a _ (same_new na) upd_same⟩
  unfold cutV
  rw [z.1, z.2]
  simpa using h
def spWorld : Sp := fun vs H Q _ => ∃ (p L : Addr) (b : Int), vs = [.ref p] ∧ b ≤ 900000 ∧ Pen L H p b ∧
  ∀ (a l : Addr) (r : Fr) (m : Int) (H' : Hp), r.ok → 2 ≤ m → m ≤ 10 ^ 9 + 1 → 1 ≤ r.least m → r.least m ≤ m → H' l = some (.tup (tupR r)) → H' a = some (.tup [.ref l, .int m]) → But p H H' → Pen L H' p (b + 20) → Q (.ref a) H'
section
variable {P : Program} {w : World} {K : PySem.W.Frag} {mg : Str → Option Value} {base : Heap}
theorem scLWorld : FnScope ["_law_pen_here", "_law_told", "_law_kind", "_law_top"] ["_law_pen_here"] (defScope sLWorld) := ⟨rfl, rfl, rfl, by decide +kernel, rfl, by decide +kernel, by decide +kernel⟩
theorem ok_lworld {f : Addr} {fd : FuncData} (F : Fun K "_law_world" "_law_world" sLWorld f fd) (D0 : Df P w K mg base 1 "_law_draw" ["_law_pen_here", "_law_many"] spDraw) (D1 : Df P w K mg base 1 "_law_least" ["_law_told", "_law_top"] spLLeast) (D2 : Df P w K mg base 2 "_law_numbers" ["_law_pen_here"] spLNums) : FnOk P w K mg base CX0 3 f fd ["_law_pen_here"] spWorld := by
  obtain ⟨f0, fd0, G0, g0, k0, b0⟩ := D0.ex
  obtain ⟨f1, fd1, G1, g1, k1, b1⟩ := D1.ex
  obtain ⟨f2, fd2, G2, g2, k2, b2⟩ := D2.ex
  refine F.ok scLWorld (fun vs H Q E h => ?_) (fun cdv A outer s H vs Q E hr h => ?_)
  · obtain ⟨p, L, b, rfl, _⟩ := h
    rfl
  · obtain ⟨p, L, b, rfl, hb, pn, kk⟩ := h
    have hr1 := hr.mono (show 1 ≤ 2 by decide)
    refine ⟨_, (pss_cons (ps_par (i := 1) (j := 2) (by rfl) scLWorld.nd rfl rfl (by decide) rfl rfl (pa_cons (pe_call G2 hr (by rfl) g2 k2 b2 .nil pass0 (pa_cons (pv 0) pa_nil)) (pa_cons (pe_call G0 hr1 (by rfl) g0 k0 b0 .nil pass0 (pa_cons (pv 0) (pa_cons pe_int pa_nil))) pa_nil)) (by rfl))
      (pss_cons (ps_set (i := 3) scLWorld.nd rfl (.inl rfl) (pe_op op_add pe_int (pe_call G0 hr1 (by rfl) g0 k0 b0 .nil pass0 (pa_cons (pv 0) (pa_cons (pe_ix ix_list (pe_lst (pa_cons pe_int (pa_cons pe_int (pa_cons pe_int (pa_cons (pe_op op_pow pe_int pe_int) pa_nil))))) (pv 2) (fun _ _ => rfl)) pa_nil)))))
      (pss_one (ps_ret (pe_tup (pa_cons (pe_ifExp (pt_chain op_le op_le pe_int (pe_call G1 hr1 (by rfl) g1 k1 b1 .nil pass0 (pa_cons (pv 1) (pa_cons (pv 3) pa_nil))) (pv 3)) (pv 1) (pe_op op_catA (pe_tup (pa_cons pe_int (pa_cons pe_int (pa_cons pe_int pa_nil)))) (pe_slice sl_tupA (pv 1) (po_some pe_int) po_none))) (pa_cons (pv 3) pa_nil))))))), ?_⟩
    refine ⟨_, rfl, p, L, _, rfl, by omega, pn, fun l r H1 o nl hl bt pn1 => ?_⟩
    refine ⟨_, rfl, p, L, _, _, rfl, by decide, by decide, by omega, pn1, fun d H2 bt2 pn2 d1 d2 => ⟨_, _, rfl, ?_⟩⟩
    refine ⟨_, rfl, _, _, rfl, rfl, ⟨by decide, by decide, by decide⟩, (by show 4 ≤ sizeLine; decide), fun z nz => ?_⟩
    have f1 : upd H2 z (.lst [.int 8, .int 8, .int 30, .int (10 ^ Int.toNat 9)]) z = some (.lst [.int 8, .int 8, .int 30, .int (10 ^ Int.toNat 9)]) := upd_same
    have g1 : Same H2 (upd H2 z (.lst [.int 8, .int 8, .int 30, .int (10 ^ Int.toNat 9)])) := same_new nz
    dsimp only
    generalize upd H2 z (.lst [.int 8, .int 8, .int 30, .int (10 ^ Int.toNat 9)]) = H3 at f1 g1 ⊢
    have e9 : (10 : Int) ^ Int.toNat 9 = 1000000000 := by decide
    have e9' : (10 : Int) ^ 9 = 1000000000 := by decide
    obtain ⟨t, ht, t1, t2⟩ : ∃ t : Int, atI [V.int 8, .int 8, .int 30, .int (10 ^ Int.toNat 9)] d = some (.int t) ∧ 1 ≤ t ∧ t ≤ 1000000000 := by
      rcases (show d = 0 ∨ d = 1 ∨ d = 2 ∨ d = 3 by omega) with rfl | rfl | rfl | rfl
      · exact ⟨_, atI_nat (j := 0) rfl, by decide, by decide⟩
      · exact ⟨_, atI_nat (j := 1) rfl, by decide, by decide⟩
      · exact ⟨_, atI_nat (j := 2) rfl, by decide, by decide⟩
      · exact ⟨_, atI_nat (j := 3) rfl, by rw [e9]; decide, by rw [e9]; decide⟩
    have hl3 : H3 l = some (.tup (tupR r)) := g1 _ _ (But.tup hl pn1 bt2)
    have pn3 := pn2.keep g1
    refine ⟨_, rfl, z, _, _, _, rfl, rfl, SqL.of f1, ht, p, L, _, _, rfl, t1, by omega, by omega, pn3, fun d' H4 bt4 pn4 e1 e2 => ⟨_, _, rfl, rfl, ?_⟩⟩
    have hl4 := But.tup hl3 pn3 bt4
    have bb : But p H H4 := bt.trans (bt2.trans ((Same.but g1).trans bt4))
    refine ⟨_, rfl, _, rfl, l, r, _, rfl, hl4, o, _, _, rfl, rfl, _, rfl, ?_⟩
    have other : ¬ (1 ≤ r.least (2 + d') ∧ r.least (2 + d') ≤ 2 + d') → tOp (rCatA K) (tTup (tCons (tC (.int 1)) (tCons (tC (.int 2)) (tCons (tC (.int 0)) tNil)))) (tSl (rSlA K) (tVar 1) (tPart (tC (.int 3))) tNoPart) [some (.ref p), some (.ref l), some (.int d), some (.int (2 + d'))] H4 (fun x H5 => tCons (tVar 3) tNil [some (.ref p), some (.ref l), some (.int d), some (.int (2 + d'))] H5 fun xs H6 => (x :: xs).length ≤ sizeLine ∧ ∀ a, H6 a = none → Q (.ref a) (upd H6 a (.tup (x :: xs)))) := by
      intro _
      refine ⟨(by show 3 ≤ sizeLine; decide), fun u nu => ?_⟩
      have su : Same H4 (upd H4 u (.tup [.int 1, .int 2, .int 0])) := same_new nu
      have hu : upd H4 u (.tup [.int 1, .int 2, .int 0]) u = some (.tup [.int 1, .int 2, .int 0]) := upd_same
      generalize upd H4 u (.tup [.int 1, .int 2, .int 0]) = H5 at su hu ⊢
      refine ⟨_, rfl, _, rfl, ?_⟩
      unfold L2.tNoPart
      refine slA (su _ _ hl4) fun v H6 s6 h6 => ?_
      have hc : cutV (tupR r) (some 3) none = [.int r.c, .int r.j] := cut_fromV (xs := tupR r) (j := 3) (by show 3 ≤ 5; decide)
      rw [hc] at h6
      refine catA (s6 _ _ hu) h6 (by show 3 + 2 ≤ 1000; decide) fun x H7 s7 h7 => ?_
      have s47 := su.trans (s6.trans s7)
      refine ⟨_, rfl, (by show 2 ≤ sizeLine; decide), fun a na => ?_⟩
      have o2 : (Fr.mk 1 2 0 r.c r.j).ok := ⟨(by decide : (1 : Int) ≤ 1), (by decide : (1 : Int) ≤ 12), (by decide : (1 : Int) ≤ 2), (by decide : (2 : Int) ≤ 12), (by decide : (-12 : Int) ≤ 0), (by decide : (0 : Int) ≤ 12), o.c1, o.c2, o.j1, o.j2⟩
      have el : (Fr.mk 1 2 0 r.c r.j).least (2 + d') = (2 + d') / 2 := by
        show (1 * (2 + d') + 0).fdiv 2 = _
        rw [Int.fdiv_eq_ediv_of_nonneg _ (by decide)]
        congr 1
        omega
      exact kk a x ⟨1, 2, 0, r.c, r.j⟩ (2 + d') _ o2 (by omega) (by omega) (by rw [el]; omega) (by rw [el]; omega) (same_new na _ _ h7) upd_same (bb.trans (Same.but (s47.trans (same_new na)))) ((pn4.keep (s47.trans (same_new na))).mono (by omega))
    by_cases q1 : 1 ≤ r.least (2 + d')
    · rw [decide_eq_true q1]
      refine iteT ⟨_, rfl, _, _, rfl, rfl, _, rfl, ?_⟩
      by_cases q2 : r.least (2 + d') ≤ 2 + d'
      · rw [decide_eq_true q2]
        refine iteT ⟨_, rfl, _, rfl, (by show 2 ≤ sizeLine; decide), fun a na => ?_⟩
        exact kk a l r (2 + d') _ o (by omega) (by omega) q1 q2 (same_new na _ _ hl4) upd_same (bb.trans (Same.but (same_new na))) ((pn4.keep (same_new na)).mono (by omega))
      · rw [decide_eq_false q2]
        exact iteF (other fun z => q2 z.2)
    · rw [decide_eq_false q1]
      exact iteF ⟨_, rfl, iteF (other fun z => q1 z.1)⟩
end
end Ev
namespace Ev
open PySem L2 PySem.Spec PyProof.Rows RZ
def Fr.lowL (r : Fr) (m : Int) (xs : List Int) : Int := if (xs.length : Int) ≤ r.wd then (if (xs.length : Int) > 1 then (if (m + 1).fdiv 2 < r.least m then (m + 1).fdiv 2 else r.least m) else 1) else r.least m
def Fr.inL (r : Fr) (m : Int) (xs : List Int) (x : Int) : Bool := decide (r.lowL m xs ≤ x) && decide (x ≤ m)
theorem lowL_eq {r : Fr} {m : Int} {xs : List Int} (o : r.ok) (ne : xs ≠ []) : r.lowL m xs = r.lowK m xs := by
  obtain ⟨w1, w2, _, _⟩ := Fr.wd_bd o
  have := List.length_pos_iff.mpr ne
  unfold Fr.lowL Fr.lowK
  by_cases z : (xs.length : Int) = 1
  · rw [if_pos z, if_pos (by omega), if_neg (by omega)]
  · rw [if_neg z]
    by_cases y : (xs.length : Int) ≤ r.wd
    · rw [if_pos y, if_pos (by omega)]
      by_cases u : (m + 1).fdiv 2 < r.least m
      · rw [if_pos u, if_pos ⟨y, u⟩]
      · rw [if_neg u, if_neg fun q => u q.2]
    · rw [if_neg y, if_neg fun q => y q.1]
theorem keep_bad {r : Fr} {m : Int} {xs : List Int} (o : r.ok) : (xs.filter fun x => !r.inL m xs x).isEmpty = r.keepR m xs := by
  by_cases ne : xs = []
  · subst ne; rfl
  · unfold Fr.keepR
    have e : r.inK m xs = r.inL m xs := by
      funext x
      unfold Fr.inK Fr.inL
      rw [lowL_eq o ne]
    rw [e, Bool.eq_iff_iff, List.isEmpty_iff, List.filter_eq_nil_iff, List.all_eq_true]
    simp
theorem take_filter {fs : List Int} {p : Int → Bool} {i : Nat} {x : Int} (h : fs[i]? = some x) : (fs.take (i + 1)).filter p = (fs.take i).filter p ++ (if p x then [x] else []) := by
  obtain ⟨hi, e⟩ := List.getElem?_eq_some_iff.mp h
  rw [List.take_succ_eq_append_getElem hi, List.filter_append, e]
  cases q : p x <;> simp [q]
end Ev
namespace Ev
open PySem L2 PySem.Spec PyProof.Rows RZ
theorem wd_max (r : Fr) : (if r.j > r.c then r.j else r.c) = r.wd := by
  unfold Fr.wd
  split <;> split <;> omega
def spLKeeps : Sp := fun vs H Q _ => ∃ (l a : Addr) (r : Fr) (m : Int) (fs : List Int), vs = [.ref l, .int m, .ref a] ∧ H l = some (.tup (tupR r)) ∧ r.ok ∧ H a = some (.lst (fs.map V.int)) ∧ fs.length ≤ 900 ∧ ∀ H', Same H H' → Q (.bl (r.keepR m fs)) H'
section
variable {P : Program} {w : World} {K : PySem.W.Frag} {mg : Str → Option Value} {base : Heap}
abbrev nLke : List Str := ["_law_told", "_law_top", "_law_fills_so", "_law_low", "_law_fill"]
theorem scLKeeps : FnScope nLke ["_law_told", "_law_top", "_law_fills_so"] (defScope sLKeeps) := ⟨rfl, rfl, rfl, by decide +kernel, rfl, by decide +kernel, by decide +kernel⟩
theorem ok_lkeeps {f : Addr} {fd : FuncData} (F : Fun K "_law_keeps" "_law_keeps" sLKeeps f fd) (T : Blt mg) (D0 : Df P w K mg base 1 "_law_least" ["_law_told", "_law_top"] spLLeast) : FnOk P w K mg base CX0 2 f fd ["_law_told", "_law_top", "_law_fills_so"] spLKeeps := by
  obtain ⟨f0, fd0, G0, g0, k0, b0⟩ := D0.ex
  refine F.ok scLKeeps (fun vs H Q E h => ?_) (fun cdv A outer s H vs Q E hr h => ?_)
  · obtain ⟨l, a, r, m, fs, rfl, _⟩ := h
    rfl
  · obtain ⟨l, a, r, m, fs, rfl, hl, o, ha, z2, kk⟩ := h
    obtain ⟨tE, hE, qE⟩ : ∃ t : TS, PSs (cxOf CX0 P w K mg base nLke "_law_keeps" (defScope sLKeeps) f cdv A outer s H E).nox ((defBody sLKeeps).drop 2) t ∧
        t { nx := fun _ H' => Q .non H', rt := Q } [some (.ref l), some (.int m), some (.ref a), some (.int (r.lowL m fs)), none] H := by
      refine ⟨_, (pss_one (ps_ret (pe_cmpR (op_eqD (Room.units hr)) (pe_lc (own := [("_law_fill", 4)]) (g := gName 4) (by rfl) scLKeeps.nd (pi_list (pv 2)) (blkOk_by (own := [("_law_fill", 4)]) (N := nLke) (sc := defScope sLKeeps) (by decide +kernel)) (fun _ _ _ _ _ => pg_name (i := 4) scLKeeps.nd rfl (.inl rfl)) (fun _ _ _ _ _ => pts_one (pt_not (pt_chain op_le op_le (pv 3) (pv 4) (pv 1)))) (fun _ _ _ _ _ => (pv 4))) (pe_lst pa_nil) (nomark _)))), ?_⟩
      refine ⟨_, rfl, a, rfl, ⟨_, SqL.of ha⟩, fun D nD => lc_list (K := K) (a := a) (xs := fs.map V.int) (fun i H' => H' D = some (.lst (((fs.take i).filter fun x => !r.inL m fs x).map V.int)) ∧ Same H H') ⟨by rw [List.take_zero]; exact upd_same, same_new nD⟩ (fun i H' _ q => SqL.of (q.2 _ _ ha)) (fun i v H' hi h => ?_) (fun H' h => ?_)⟩
      · obtain ⟨hD, s1⟩ := h
        obtain ⟨x, hx, rfl⟩ := int_at hi
        have tf := take_filter (p := fun x => !r.inL m fs x) hx
        have fin1 : (!r.inL m fs x) = false → (H' D = some (.lst (((fs.take (i + 1)).filter fun x => !r.inL m fs x).map V.int)) ∧ Same H H') := fun q => ⟨by rw [tf, q, hD]; simp, s1⟩
        have fin2 : (!r.inL m fs x) = true → (∃ acc, H' D = some (.lst acc) ∧ acc.length < sizeLine ∧ upd H' D (.lst (acc ++ [V.int x])) D = some (.lst (((fs.take (i + 1)).filter fun x => !r.inL m fs x).map V.int)) ∧ Same H (upd H' D (.lst (acc ++ [V.int x])))) := fun q => by
          refine ⟨_, hD, ?_, ?_, fun b u e => by rw [upd_ne (ne_of_none e nD)]; exact s1 _ _ e⟩
          · have a1 := List.length_filter_le (fun x => !r.inL m fs x) (fs.take i)
            have a2 : (fs.take i).length ≤ fs.length := by rw [List.length_take]; omega
            rw [List.length_map]
            exact Nat.lt_of_le_of_lt (show _ ≤ 900 by omega) (by decide)
          · rw [upd_same, tf, q, List.map_append]
            rfl
        refine ⟨rfl, _, rfl, _, rfl, _, _, rfl, rfl, _, rfl, ?_⟩
        by_cases q1 : r.lowL m fs ≤ x
        · rw [decide_eq_true q1]
          refine iteT ⟨_, rfl, _, _, rfl, rfl, _, rfl, ?_⟩
          by_cases q2 : x ≤ m
          · rw [decide_eq_true q2]
            exact iteF (fin1 (by unfold Fr.inL; rw [decide_eq_true q1, decide_eq_true q2]; rfl))
          · rw [decide_eq_false q2]
            exact iteT ⟨_, rfl, fin2 (by unfold Fr.inL; rw [decide_eq_false q2, Bool.and_false]; rfl)⟩
        · rw [decide_eq_false q1]
          exact iteF ⟨_, rfl, iteT ⟨_, rfl, fin2 (by unfold Fr.inL; rw [decide_eq_false q1]; rfl)⟩⟩
      · obtain ⟨hD, s1⟩ := h
        rw [List.length_map, List.take_length] at hD
        refine ⟨(by show 0 ≤ sizeLine; decide), fun q nq => ?_⟩
        have sq : Same H' (upd H' q (.lst [])) := same_new nq
        refine ⟨_, .list [], .lst (SqL.of (sq _ _ hD)) (dpInts _), .lst (SqL.of upd_same) .nil, sh_ints _, sh_ints [], ?_⟩
        rw [eqv_nil, keep_bad o]
        exact kk _ (s1.trans sq)
    refine ⟨_, (pss_cons (ps_set (i := 3) scLKeeps.nd rfl (by first | exact .inl rfl | exact .inr rfl) (pe_call G0 hr (by rfl) g0 k0 b0 .nil pass0 (pa_cons (pv 0) (pa_cons (pv 1) pa_nil))))
    (pss_cons (ps_if (pt_cmpR op_le (pe_callB call_len_seq (by rfl) T.len PySem.boot_len (pa_cons (pv 2) pa_nil)) (pe_callB (call_max2 rfl) (by rfl) T.max (by decide +kernel) (pa_cons (pe_callTy call_int1 (by rfl) T.int (by decide +kernel) (pa_cons (pe_ix ix_tup (pv 0) pe_int (fun _ _ => rfl)) pa_nil)) (pa_cons (pe_callTy call_int1 (by rfl) T.int (by decide +kernel) (pa_cons (pe_ix ix_tup (pv 0) pe_int (fun _ _ => rfl)) pa_nil)) pa_nil))) (nomark _))
      (pss_one (ps_set (i := 3) scLKeeps.nd rfl (by first | exact .inl rfl | exact .inr rfl) (pe_ifExp (pt_cmpR op_gt (pe_callB call_len_seq (by rfl) T.len PySem.boot_len (pa_cons (pv 2) pa_nil)) pe_int (nomark _)) (pe_callB (call_min2 rfl) (by rfl) T.min (by decide +kernel) (pa_cons (pe_callTy call_int1 (by rfl) T.int (by decide +kernel) (pa_cons (pv 3) pa_nil)) (pa_cons (pe_op op_fdivN (pe_op op_add (pv 1) pe_int) pe_int) pa_nil))) pe_int))) pss_nil)
    hE)), ?_⟩
    refine ⟨_, rfl, _, rfl, l, r, m, rfl, hl, o, ?_⟩
    refine ⟨_, rfl, a, _, rfl, .inl (SqL.of ha), ?_⟩
    rw [List.length_map]
    refine ⟨_, rfl, l, _, _, _, rfl, rfl, SqT.of hl, i5_3, .inl ⟨_, rfl, _, rfl, l, _, _, _, rfl, rfl, SqT.of hl, i5_4, .inl ⟨_, rfl, _, _, rfl, ?_⟩⟩⟩
    rw [wd_max]
    refine ⟨_, _, rfl, rfl, _, rfl, ?_⟩
    unfold Fr.lowL at qE
    by_cases y : (fs.length : Int) ≤ r.wd
    · rw [decide_eq_true y]
      rw [if_pos y] at qE
      refine iteT ⟨_, rfl, a, _, rfl, .inl (SqL.of ha), _, _, rfl, rfl, _, rfl, ?_⟩
      rw [List.length_map]
      by_cases u : (fs.length : Int) > 1
      · rw [decide_eq_true u]
        rw [if_pos u] at qE
        refine iteT ⟨_, rfl, .inl ⟨_, rfl, _, rfl, _, _, rfl, rfl, _, _, rfl, rfl, ⟨by omega, by omega⟩, _, _, rfl, ?_⟩⟩
        exact qE
      · rw [decide_eq_false u]
        rw [if_neg u] at qE
        exact iteF qE
    · rw [decide_eq_false y]
      rw [if_neg y] at qE
      exact iteF qE
end
end Ev
namespace Ev
open PySem L2 PySem.Spec PyProof.Rows RZ
theorem sh_intsT (ns : List Int) : SeqAt.shaped (.tuple (ns.map PyData.int)) = true := by
  have h := sh_ints ns
  unfold SeqAt.shaped at h ⊢
  simpa [PyData.canLay0, PyData.depth] using h
theorem eqv_tupI (ps qs : List Int) : PyData.eqv (.tuple (ps.map PyData.int)) (.tuple (qs.map PyData.int)) = decide (ps = qs) := by
  have h : ∀ ps qs : List Int, PyData.eqvAll (ps.map PyData.int) (qs.map PyData.int) = decide (ps = qs) := by
    intro ps
    induction ps with
    | nil => intro qs; cases qs <;> simp [PyData.eqvAll]
    | cons a r ih =>
      intro qs
      cases qs with
      | nil => simp [PyData.eqvAll]
      | cons c t =>
        simp only [List.map_cons, PyData.eqvAll, ih t, PyData.eqv]
        by_cases e1 : a = c <;> by_cases e2 : r = t <;> simp [e1, e2]
  simp only [PyData.eqv, h]
def frB (r s : Fr) : Bool := decide ([r.p, r.q] = [s.p, s.q]) && (decide (V.int r.k = V.int s.k) && (decide (V.int r.c = V.int s.c) && decide (V.int r.j = V.int s.j)))
theorem frB_self (r : Fr) : frB r r = true := by simp [frB]
theorem frB_ne {r s : Fr} (e : r ≠ s) : frB r s = false := by
  obtain ⟨p, q, k, c, j⟩ := r
  obtain ⟨p', q', k', c', j'⟩ := s
  rw [Bool.eq_false_iff]
  intro z
  apply e
  simp only [frB, Bool.and_eq_true, decide_eq_true_eq, List.cons.injEq, V.int.injEq, and_true] at z
  obtain ⟨⟨rfl, rfl⟩, rfl, rfl, rfl⟩ := z
  rfl
def spEqF (K : PySem.W.Frag) (C : Addr) : Sp := fun vs H Q _ => ∃ (x : Addr) (y : V) (r : Fr), vs = [.ref x, y] ∧ FAt C H x r ∧ ((∃ (z : Addr) (s : Fr), y = .ref z ∧ FAt C H z s ∧ Q (.bl (frB r s)) H) ∨ (∃ t : Value, TyX K H y t ∧ PySem.W.kitOne K t (.ref C) = some false ∧ Q (.bl false) H))
section
variable {P : Program} {w : World} {K : PySem.W.Frag} {mg : Str → Option Value} {base : Heap}
theorem scFillEq : FnScope ["self", "other"] ["self", "other"] (defScope sFillRule_eq) := ⟨rfl, rfl, rfl, by decide +kernel, rfl, by decide +kernel, by decide +kernel⟩
theorem ok_fillEq {f C : Addr} {fd : FuncData} (F : Fun K "__eq__" "FillRule.__eq__" sFillRule_eq f fd) (T : Blt mg) (TC : FCls K C) (IT : InsT K C) (gC : mg "FillRule" = some (.ref C)) : FnOk P w K mg base CX0 1 f fd ["self", "other"] (spEqF K C) := by
  refine F.ok scFillEq (fun vs H Q E h => ?_) (fun cdv A outer s H vs Q E hr h => ?_)
  · obtain ⟨x, y, r, rfl, _⟩ := h
    rfl
  · obtain ⟨x, y, r, rfl, ⟨dx, a, hx, ha⟩, h⟩ := h
    refine ⟨_, pss_one (ps_ret (pe_and (pe_callB call_isi (by rfl) T.isi (by decide +kernel) (pa_cons (pv 1) (pa_cons (pe_glob (v := .ref C) rfl gC rfl) pa_nil)))
      (pe_and (pe_cmpR (op_eqD (Room.units hr)) (pe_fld (pv 0) rfl) (pe_fld (pv 1) rfl) (nomark _)) (pe_and (pe_cmpR op_eq (pe_fld (pv 0) rfl) (pe_fld (pv 1) rfl) (nomark _))
      (pe_and (pe_cmpR op_eq (pe_fld (pv 0) rfl) (pe_fld (pv 1) rfl) (nomark _)) (pe_one (pe_cmpR op_eq (pe_fld (pv 0) rfl) (pe_fld (pv 1) rfl) (nomark _)))))))), ?_⟩
    rcases h with ⟨z, s2, rfl, ⟨dy, a', hy, ha'⟩, k⟩ | ⟨t, ty, kt, k⟩
    · refine ⟨_, rfl, _, _, _, _, true, rfl, .own C, .base (.ins hy TC.cl IT.ha IT.hn IT.htk IT.hm), kit_self, true, rfl, iteT ?_⟩
      refine ⟨_, rfl, x, C, dx, _, _, rfl, hx, TC.cl, TC.n1, fill_times _ _, _, rfl, z, C, dy, _, _, rfl, hy, TC.cl, TC.n1, fill_times _ _, _, _, .tup (SqT.of ha) (dpInts [r.p, r.q]), .tup (SqT.of ha') (dpInts [s2.p, s2.q]), sh_intsT _, sh_intsT _, _, rfl, ?_⟩
      rw [eqv_tupI]
      unfold frB at k
      by_cases e : [r.p, r.q] = [s2.p, s2.q]
      · rw [decide_eq_true e] at k ⊢
        refine iteT ⟨_, rfl, x, C, dx, _, _, rfl, hx, TC.cl, TC.n2, fill_plus _ _, _, rfl, z, C, dy, _, _, rfl, hy, TC.cl, TC.n2, fill_plus _ _, rfl, _, rfl, ?_⟩
        by_cases e2 : V.int r.k = V.int s2.k
        · rw [decide_eq_true e2] at k ⊢
          refine iteT ⟨_, rfl, x, C, dx, _, _, rfl, hx, TC.cl, TC.n3, fill_cut _ _, _, rfl, z, C, dy, _, _, rfl, hy, TC.cl, TC.n3, fill_cut _ _, rfl, _, rfl, ?_⟩
          by_cases e3 : V.int r.c = V.int s2.c
          · rw [decide_eq_true e3] at k ⊢
            refine iteT ⟨_, rfl, x, C, dx, _, _, rfl, hx, TC.cl, TC.n4, fill_join _ _, _, rfl, z, C, dy, _, _, rfl, hy, TC.cl, TC.n4, fill_join _ _, rfl, ?_⟩
            simpa using k
          · rw [decide_eq_false e3] at k ⊢
            exact iteF (by simpa using k)
        · rw [decide_eq_false e2] at k ⊢
          exact iteF (by simpa using k)
      · rw [decide_eq_false e] at k ⊢
        exact iteF (by simpa using k)
    · exact ⟨_, rfl, _, _, _, _, false, rfl, .own C, ty, kt, _, rfl, iteF k⟩
end
end Ev
namespace Ev
open PySem L2 PySem.Spec PyProof.Rows
/-! == and != by an own __eq__, both answers, beside values of other types. -/
section
variable {prog : Program} {w : World} {A : Around} {E : Value → Shared → Prop} {s : Shared} {K : PySem.W.Frag} {x C f : Addr} {ox : Obj} {od : Option Obj} {y : Value}
theorem neEntry {Q : Fin → Shared → Prop} (room : A.units < cLine) (X : K.In s.heap) (I : PySem.W.InstAt s.heap x ox C od) (he : PySem.W.findIn K (.ref C) "__eq__" = some (some (.ref f))) (hf : PySem.W.isFn K (.ref f) = true)
    (h : wpAny (model prog w) A (call (.ref f) [.ref x, y]) (fun v s' => ∃ b, v = .bool b ∧ Q (.done (.ret (.bool (!b)))) s') E s) : wpAny (model prog w) A (Builtin.«object.__ne__» ⟨[.ref x, y], []⟩) Q E s := by
  have asked : wpAny (model prog w) A (callSpecialIfBound? (.ref x) (Str.ofString "__eq__") [y]) (fun r s' => ∃ b, r = some (.bool b) ∧ Q (.done (.ret (.bool (!b)))) s') E s := by
    refine PySem.W.ifBound_K X I he hf (wpAny_mono h (fun v s' hv => ?_) fun _ _ z => z)
    obtain ⟨b, rfl, q⟩ := hv
    exact ⟨b, rfl, q⟩
  unfold Builtin.«object.__ne__»
  repeat (first
    | (with_reducible refine wpAny_cRoomFor room ?_)
    | (refine wpAny_bind (m := callSpecialIfBound? (.ref x) (Str.ofString "__eq__") [y]) (wpAny_mono asked (fun r s' hr => ?_) fun _ _ z => z)
       obtain ⟨b, rfl, q⟩ := hr)
    | exact q
    | (exact wpAny_truthy_bool q)
    | wp_step)
theorem neCall {Q : Value → Shared → Prop} (room : A.in1.units < cLine) (X : K.In s.heap) (I : PySem.W.InstAt s.heap x ox C od) (hm : PySem.W.mroIn K C (.type "object") = some true) (he : PySem.W.findIn K (.ref C) "__eq__" = some (some (.ref f))) (hf : PySem.W.isFn K (.ref f) = true)
    (h : wpAny (model prog w) A.in1 (call (.ref f) [.ref x, y]) (fun v s' => ∃ b, v = .bool b ∧ Q (.bool (!b)) s') E s) : wpAny (model prog w) A (call (.builtin "object.__ne__") [.ref x, y]) Q E s :=
  wpAny_call (codeAny_call_builtin F.cmp_object.ne.plain F.cmpEntry_ne (PySem.W.check_slot F.cmpKind_ne F.cmpSplit_ne (I.type.andThen (PySem.W.looks_mroIn X hm)) (F.cmpArgs_ne _ _)
    (neEntry room X I he hf h)))
theorem neBound {Q : Option Value → Shared → Prop} {M : Model} (X : K.In s.heap) (I : PySem.W.InstAt s.heap x ox C od) (hn : PySem.W.findIn K (.ref C) "__ne__" = some (some (.builtin "object.__ne__")))
    (h : wpAny M A (call (.builtin "object.__ne__") [.ref x, y]) (fun v => Q (some v)) E s) : wpAny M A (callSpecialIfBound? (.ref x) "__ne__" [y]) Q E s := by
  have last : wpAny M A (call (.builtin "object.__ne__") ([.ref x] ++ [y]) >>= fun v => pure (some v)) Q E s := by
    refine wpAny_bind (wpAny_mono h (fun v s' z => ?_) fun _ _ z => z)
    exact wpAny_pure z
  simp only [callSpecialIfBound?, bindSpecialIfBound?]
  refine wpAny_holding (wpAny_bind (wpAny_bind (wpAny_bind (I.type.here ?_))))
  refine (PySem.W.looks_findIn X hn).here (wpAny_bind (wpAny_askSetting (wpAny_ite ?_)))
  have bd := F.cmp_object.ne.bind (.ref x)
  split
  · refine wpAny_bind (wpAny_of_eq bd ?_)
    exact wpAny_pure (by exact last)
  · refine wpAny_tryCatch (wpAny_bind (wpAny_of_eq bd ?_))
    exact wpAny_pure (by exact last)
theorem neRich {Q : Value → Shared → Prop} {tb : Value} (room : A.units + 1 < cLine) (X : K.In s.heap) (I : PySem.W.InstAt s.heap x ox C od) (hb : PySem.W.Looks (model prog w) s.heap (typeOf y) tb) (nf : PySem.W.notFirst K C tb = true)
    (hm : PySem.W.mroIn K C (.type "object") = some true) (hn : PySem.W.findIn K (.ref C) "__ne__" = some (some (.builtin "object.__ne__"))) (he : PySem.W.findIn K (.ref C) "__eq__" = some (some (.ref f))) (hf : PySem.W.isFn K (.ref f) = true)
    (h : wpAny (model prog w) A.in1 (call (.ref f) [.ref x, y]) (fun v s' => ∃ b, v = .bool b ∧ Q (.bool (!b)) s') E s) : wpAny (model prog w) A (richCompare .NotEq (.ref x) y) Q E s := by
  have one : wpAny (model prog w) A (tryCompare (.ref x) "__ne__" y) (fun r s' => ∃ b, r = some (.bool b) ∧ Q (.bool b) s') E s := by
    unfold tryCompare
    refine wpAny_bind (neBound X I hn (neCall (show A.in1.units < cLine from room) X I hm he hf (wpAny_mono h (fun v s' z => ?_) fun _ _ z => z)))
    obtain ⟨b, rfl, q⟩ := z
    exact ⟨b, rfl, wpAny_pure ⟨_, rfl, q⟩⟩
  unfold richCompare
  simp only [oneThing_ref]
  rw [cmpInfo_NotEq]
  refine wpAny_holding (wpAny_bind (wpAny_cRoomFor (Nat.lt_of_succ_lt room) ?_))
  refine wpAny_bind (I.type.here ?_)
  refine wpAny_bind (hb.here ?_)
  split
  · rename_i q
    have sub : PySem.W.subIn K tb (.ref C) = some false := by
      rcases Bool.or_eq_true_iff.mp nf with z | z
      · rw [beq_iff_eq.mp z] at q
        simp at q
      · exact beq_iff_eq.mp z
    refine wpAny_bind ((PySem.W.looks_subIn X sub).here ?_)
    simp only [Bool.false_eq_true, if_false]
    refine wpAny_bind (wpAny_mono one (fun r s' z => ?_) fun _ _ z => z)
    obtain ⟨b, rfl, q2⟩ := z
    exact wpAny_pure q2
  · refine wpAny_bind (wpAny_pure ?_)
    simp only [Bool.false_eq_true, if_false]
    refine wpAny_bind (wpAny_mono one (fun r s' z => ?_) fun _ _ z => z)
    obtain ⟨b, rfl, q2⟩ := z
    exact wpAny_pure q2
end
/-- which types come behind an own class -/
theorem nf_own {K : PySem.W.Frag} {C : Addr} : PySem.W.notFirst K C (.ref C) = true := by
  unfold PySem.W.notFirst
  simp
theorem nf_sub {K : PySem.W.Frag} {C : Addr} {t : Value} (h : PySem.W.subIn K t (.ref C) = some false) : PySem.W.notFirst K C t = true := by
  unfold PySem.W.notFirst
  rw [h]
  simp
theorem nf_ty {K : PySem.W.Frag} {C : Addr} {T : String} {l : List String} (h : fastBuiltinMro T = some (l.map Value.type)) : PySem.W.notFirst K C (.type T) = true := by
  refine nf_sub ?_
  show (fastBuiltinMro T).map (·.contains (.ref C)) = some false
  rw [h]
  have z : (l.map Value.type).contains (.ref C) = false := by
    rw [Bool.eq_false_iff]
    intro z
    have m := List.contains_iff_mem.mp z
    simp at m
  exact congrArg some z
section
variable {X : Cx} {CX : CXT} {C g : Addr} {n : Nat} {sp : Sp} {E : XK}
/-- what an own == promises for such values: a truth -/
def rOwnB (K : PySem.W.Frag) (C : Addr) (sp : Sp) (E : XK) (neg : Bool) : R2 := fun x y H Q => ∃ (a dx : Addr) (fs : List (Str × V)) (t : Value), x = .ref a ∧ H a = some (.ins C dx fs) ∧ TyX K H y t ∧ PySem.W.notFirst K C t = true ∧ sp [x, y] H (fun z H' => ∃ b, z = .bl b ∧ Q (.bl (neg ^^ b)) H') E
theorem op_eqO (he : PySem.W.findIn X.K (.ref C) "__eq__" = some (some (.ref g))) (hf : PySem.W.isFn X.K (.ref g) = true) (F : FnR X.prog X.w X.K X.mg X.base CX n g sp) (hr : Room n X.A) (hx : Passes CX X E) : OpR X (compareOp .Eq) (rOwnB X.K C sp E false) := by
  intro pins s σ H x y v u Q I rx ry h
  obtain ⟨a, dx, fs, t, rfl, ha, ty, nf, q⟩ := h
  cases (show v = Value.ref a from rx)
  obtain ⟨mA, J, _⟩ := ins_get I.hok ha
  obtain ⟨od, J, _⟩ := J.look
  obtain ⟨m, hF⟩ := I.fr
  obtain ⟨P, Z, hP, _⟩ := kit_of I ry ty
  show wpAny _ _ (richCompare .Eq (.ref a) u) _ _ s
  refine PySem.W.cmp_K (op := .Eq) hr.units0 hF I.ok.mod.kin J (Z.ty _ _ I.kIn hP) nf he hf ?_
  refine wpAny_mono (wpAny_call (SlX.run_at (us := [.ref a, u]) (ws := [.ref a, y]) F hr I.env0 hx I (.cons rfl (.cons ry .nil)) q)) (fun w' s' z => ?_) fun _ _ z => z
  obtain ⟨z', H', I', rz, b, rfl, q'⟩ := z
  cases (show w' = Value.bool b from rz)
  have q' : Q (.bl b) H' := by simpa using q'
  exact ⟨.bl b, H', I', rfl, q'⟩
theorem op_neO (he : PySem.W.findIn X.K (.ref C) "__eq__" = some (some (.ref g))) (hn : PySem.W.findIn X.K (.ref C) "__ne__" = some (some (.builtin "object.__ne__"))) (hm : PySem.W.mroIn X.K C (.type "object") = some true) (hf : PySem.W.isFn X.K (.ref g) = true)
    (F : FnR X.prog X.w X.K X.mg X.base CX n g sp) (hr : Room (n + 1) X.A) (hx : Passes CX X E) : OpR X (compareOp .NotEq) (rOwnB X.K C sp E true) := by
  intro pins s σ H x y v u Q I rx ry h
  obtain ⟨a, dx, fs, t, rfl, ha, ty, nf, q⟩ := h
  cases (show v = Value.ref a from rx)
  obtain ⟨mA, J, _⟩ := ins_get I.hok ha
  obtain ⟨od, J, _⟩ := J.look
  obtain ⟨P, Z, hP, _⟩ := kit_of I ry ty
  have hr1 : Room n X.A.in1 := hr.in1
  show wpAny _ _ (richCompare .NotEq (.ref a) u) _ _ s
  refine neRich (by have := hr1.units0; exact this) I.kIn J (Z.ty _ _ I.kIn hP) nf hm hn he hf ?_
  refine wpAny_mono (wpAny_call (SlX.run_at (us := [.ref a, u]) (ws := [.ref a, y]) F hr1 I.env0.in1 hx I (.cons rfl (.cons ry .nil)) q)) (fun w' s' z => ?_) fun _ _ z => z
  obtain ⟨z', H', I', rz, b, rfl, q'⟩ := z
  cases (show w' = Value.bool b from rz)
  have q' : Q (.bl (!b)) H' := by simpa using q'
  exact ⟨b, rfl, .bl (!b), H', I', rfl, q'⟩
end
end Ev
namespace Ev
open PySem L2 PySem.Spec PyProof.Rows
/-! enumerate of a tuple, the start given by its name. -/
section
variable {M : Model} {A : Around} {E : Value → Shared → Prop} {s : Shared} {env : Env}
theorem callWith_typeKw {pos : Pos} {T : String} {first : List Value} {args : List (Bool × Sem Value)} {kw : List (Option Str × Sem Value)} {Q : Value → Shared → Prop} (hplain : args.any (·.1) = false) (hkw : kw.any (·.1.isNone) = false)
    (h : wpAny M A (evalArgs (.type T) true args kw) (fun a s₁ => wpAny M A (call (.type T) (first ++ a.pos) a.kw) Q E s₁) E s) :
    wpAny M A (callWith pos (.type T) first args kw) Q E s := by
  unfold callWith
  refine wpAny_bind (wpAny_holding (wpAny_mono h (fun a s₁ h₁ => wpAny_bind (wpAny_standAt ?_)) fun _ _ x => x))
  simp only [hplain, hkw, Bool.or_false]
  refine wpAny_bind (wpAny_pure ?_)
  exact wpAny_bind (wpAny_mono h₁ (fun r s₂ hr => wpAny_bind (wpAny_holding (wpAny_point (wpAny_pure hr)))) fun _ _ x => x)
end
def IteT (K : PySem.W.Frag) (a : Addr) (k0 : Int) : It where
  go i H := ∃ us : List V, SqT K H a us ∧ i < us.length
  yld i H v H' := ∃ T x, v = .ref T ∧ H T = none ∧ H' = upd H T (.tup [.int (k0 + (i : Int)), x]) ∧ ∀ us, SqT K H a us → us[i]? = some x
  stop i H := ∃ us : List V, SqT K H a us ∧ i = us.length
theorem turn_enumT {P : Program} {w : World} {K : PySem.W.Frag} {elts : List Expr} {kk : Nat} {tpos : Pos} {a e it : Addr} {k0 : Int} (ae : a ≠ e) (ai : a ≠ it) :
    Turn P w K (.Tuple elts kk tpos) (IteT K a k0) [e, it] e (fun i h => (∃ old, IsEnum h e it (k0 + (i : Int)) old) ∧ h.IsTupleIter it a i ∧ e ≠ it) where
  mem := by simp
  obj := fun i h st b hb => by
    obtain ⟨⟨old, he⟩, ⟨o, ho, hc, hd⟩, _⟩ := st
    have e' : b = e ∨ b = it := by simpa using hb
    rcases e' with z | z
    · rw [z]; exact ⟨_, he, fun v q => nomatch q⟩
    · rw [z]; exact ⟨o, ho, fun v q => by rw [hd] at q; cases q⟩
  keep := fun i h h' st k => let ⟨⟨old, he⟩, hi, hne⟩ := st; ⟨⟨old, k e (by simp) _ he⟩, hi.at fun o q => k it (by simp) o q, hne⟩
  item := by
    intro X hP hw hK hc i pins s σ H E J hf st hg
    subst hP hw hK
    obtain ⟨⟨old, he⟩, hit, hne⟩ := st
    obtain ⟨us, hq, hx⟩ := hg
    obtain ⟨its, rv, p, hz⟩ := J.tuple hq
    obtain ⟨u, hu, ru⟩ := rv.get (List.getElem?_eq_getElem hx)
    have l1 := rv.length
    have hd : X.A.in1.handled = none := J.ok.hd hc
    have hel : e < s.heap.objs.size := Heap.lt_size he
    have hil : it < s.heap.objs.size := by obtain ⟨_, q, _⟩ := hit; exact Heap.lt_size q
    refine wpAny_pyNext_enum_itemC (Draws.tuple hd it a ai its.toArray) he ⟨hit, p⟩ (by simp; omega) hne (by simp; exact ⟨hne, fun z => ae z.symm⟩) fun x h' tk hP ho hs' hT hsz hk => ?_
    obtain rfl : u = x := by
      have e : its[i]? = some x := by simpa using hP
      rw [hu] at e
      exact Option.some.inj e
    refine ⟨_, rfl, wpAny_letOwnedTupleGo_enum (s := { s with heap := h', toks := tk + 1 }) ho fun h'' he' sb => ?_⟩
    have hT2 : h''.get? s.heap.objs.size = some { cls := .type "tuple", data := .seq #[.int (k0 + (i : Int)) tk, u] } := (sb.2 _ (Nat.ne_of_gt hel)).trans hT
    have new : ObjOk X.prog X.w (upd H s.heap.objs.size (.tup [.int (k0 + (i : Int)), us[i]])) h'' s.heap.objs.size (.tup [.int (k0 + (i : Int)), us[i]]) :=
      ⟨by show 2 ≤ sizeLine; decide, [.int (k0 + (i : Int)) tk, u], .cons ⟨_, rfl⟩ (.cons ru .nil), ⟨_, hT2, rfl, _, rfl⟩⟩
    have I1 : Inv X pins σ (upd H s.heap.objs.size (.tup [.int (k0 + (i : Int)), us[i]])) { s with heap := h'', toks := tk + 1 } :=
      J.turnedNew (ch := [e, it]) (fun b ob hb q => (sb.2 b (fun z => hb (by simp [z]))).trans (hk b ob (fun z => hb (by simp [z])) (fun z => hb (by simp [z])) q)) hf (Nat.le_refl _) new
    refine ⟨.ref s.heap.objs.size, _, I1, rfl, ⟨_, us[i], rfl, J.hok.fresh (Nat.le_refl _), rfl, fun ys hy => by rw [J.tuple_inj hy hq]; exact List.getElem?_eq_getElem hx⟩, ⟨⟨u, ?_⟩, hs'.1.at fun o q => (sb.2 it (Ne.symm hne)).trans q, hne⟩, fun b hb => ?_⟩
    · have e1 : k0 + ((i + 1 : Nat) : Int) = k0 + (i : Int) + 1 := by omega
      rw [e1]; exact he'
    · have hb' : b < s.heap.objs.size := by
        have e' : b = e ∨ b = it := by simpa using hb
        rcases e' with z | z
        · rw [z]; exact hel
        · rw [z]; exact hil
      rw [upd_ne (Nat.ne_of_lt hb')]
      exact (hf b hb).1
  done := by
    intro X hP hw hK hc i pins s σ H E J hf st hg
    subst hP hw hK
    obtain ⟨⟨old, he⟩, hit, hne⟩ := st
    obtain ⟨us, hq, rfl⟩ := hg
    obtain ⟨its, rv, p, hz⟩ := J.tuple hq
    have l1 := rv.length
    have hd : X.A.in1.handled = none := J.ok.hd hc
    have ez : us.length = its.toArray.size := by simp; omega
    rw [ez] at hit
    refine wpAny_pyNext_enum_endD (Draws.tuple hd it a ai its.toArray) he ⟨hit, p⟩ fun h' hx => ⟨rfl, ?_⟩
    exact J.turnedL (t' := s.toks) (ch := [e, it]) (fun c o n q => hx c o (fun z => n (by simp [z])) q) hf
  self := fun A i s Q E st h => let ⟨⟨_, he⟩, _⟩ := st; wpAny_pyIter_enum he h
def iEnumT (K : PySem.W.Frag) (ta tk : TA) : TI := fun σ H R => ta σ H fun vs H1 => tk σ H1 fun ks H2 => ∃ a us k0, vs = [.ref a] ∧ ks = [.int k0] ∧ SqT K H2 a us ∧ 0 ≤ k0 ∧ k0 < 1000 ∧ R (IteT K a k0) H2
theorem pi_enumT {X : Cx} {e : Expr} {ta tk : TA} {kws : List Keyword} {p pos tpos : Pos} {elts : List Expr} {kk : Nat} (hg : Gl X "enumerate") (hm : X.mg "enumerate" = none) (ha : PA X [e] ta) (hkw : PK X kws tk)
    (hall : (backToKw pos (keywordEach kws X.env)).all (·.1.isSome) = true := by rfl) (hks : (backToKw pos (keywordEach kws X.env)).filterMap (·.1) = [Str.ofString "start"] := by rfl)
    (hs : starEach [e] X.env = [(false, eval e X.env)] := by rfl) (hpl : (backTo pos (starEach [e] X.env)).any (·.1) = false := by rfl) (hnn : (backToKw pos (keywordEach kws X.env)).any (·.1.isNone) = false := by rfl) :
    PI X (.Tuple elts kk tpos) (.Call (.Name "enumerate" p) [e] kws pos) (iEnumT X.K ta tk) := by
  refine ⟨fun pins s σ H R I h => ?_⟩
  refine wpAny_Call_Name_kw (ld_blt I hg hm boot_enumerate (callWith_typeKw hpl hnn (PyProof.Rows.evalArgs_kw2 hall (thn (ha.run pos pins s σ H _ I h) fun us s1 ⟨vs, H1, I1, r1, q1⟩ => thn (hkw.run pos pins s1 σ H1 _ I1 q1) fun ks s2 ⟨zs, H2, I2, r2, q2⟩ => ?_) hs)))
  obtain ⟨a, xs, k0, rfl, rfl, hq, k1, k2, q⟩ := q2
  rw [hks]
  cases r1 with
  | cons r rr =>
    cases rr
    cases r
    cases r2 with
    | cons r' rr' =>
      cases rr'
      obtain ⟨tk, rfl⟩ := r'
      obtain ⟨its, rv, p', hz⟩ := I2.tuple hq
      have la : a < s2.heap.objs.size := by obtain ⟨_, z, _⟩ := id p'; exact Heap.lt_size z
      refine enum_begins_start (begins_tuple a its.toArray) p' (by omega) (by omega) fun h' he hit hsz hk => wpAny_pyIter_enum he ?_
      have I3 : Inv X pins σ H2 { s2 with heap := h' } := I2.kept (t' := s2.toks) hk
      refine ⟨s2.heap.objs.size + 1, [s2.heap.objs.size + 1, s2.heap.objs.size], _, _, H2, rfl, I3, turn_enumT (k0 := k0) (e := s2.heap.objs.size + 1) (it := s2.heap.objs.size) (Nat.ne_of_lt (Nat.lt_succ_of_lt la)) (Nat.ne_of_lt la), ⟨⟨.none, by simpa using he⟩, ⟨_, hit, rfl, rfl⟩, Nat.succ_ne_self _⟩, fun b hb => ?_, q⟩
      have e' : b = s2.heap.objs.size + 1 ∨ b = s2.heap.objs.size := by simpa using hb
      have hle : s2.heap.objs.size ≤ b := by
        rcases e' with z | z
        · rw [z]; exact Nat.le_add_right _ _
        · rw [z]; exact Nat.le_refl _
      exact I2.fpOk hle (I2.hok.fresh hle)
end Ev
namespace PySem.EnumOne
open PySem
theorem new1 {v : Value} {o : Obj} {H : Heap → Prop} (B : Begins v o H) :
    Meets (Builtin.«enumerate.__new__» ⟨[.type "enumerate", v], []⟩) (fun _ R s => H s.heap ∧
      R (.ok (.ret (.ref (s.heap.push o).objs.size))) { s with heap := (s.heap.push o).push { cls := .type "enumerate", data := .fields #[.none, .bool false, .ref s.heap.objs.size, rawInt 0, .none, .none] } }) :=
  .of_wp fun prog w A R s h => by
    obtain ⟨hp, g, d, tk, os⟩ := s
    obtain ⟨h1, h⟩ := h
    have hsub := sub_enumerate
    have q1 : ∀ {A' : Around} {E : Value → Shared → Prop} {Q : Value → Shared → Prop}, Q (.ref hp.objs.size) ⟨hp.push o, g, d, tk, os⟩ → wpAny (model prog w) A' (pyIter v) Q E ⟨hp, g, d, tk, os⟩ :=
      fun q => B.iter prog w _ _ ⟨hp, g, d, tk, os⟩ _ h1 q
    wp_walk using q1
    refine wpAny_stack_any fun st => wpAny_pure ?_
    split
    · rename_i c _ _ _ _ _
      cases (c == Value.type "enumerate") <;> (wp_walk using q1; exact ⟨_, rfl, h⟩)
    · wp_walk using q1
      exact ⟨_, rfl, h⟩
theorem begins1 {prog : Program} {w : World} {A : Around} {E : Value → Shared → Prop} {s : Shared} {v : Value} {o : Obj} {H : Heap → Prop} {Q : Value → Shared → Prop} (B : Begins v o H) (h1 : H s.heap)
    (h : ∀ h', IsEnum h' (s.heap.objs.size + 1) s.heap.objs.size 0 .none → h'.get? s.heap.objs.size = some o → (∀ b o, s.heap.get? b = some o → h'.get? b = some o) → Q (.ref (s.heap.objs.size + 1)) { s with heap := h' }) :
    wpAny (model prog w) A (call (.type "enumerate") [v]) Q E s := by
  refine callType_new F.called_enumerate (by decide) (F.typeCall_enumerate_1 _) (F.newCall_enumerate_1 _) (fun obj => F.args_object_init_2 obj _) F.entry_enumerate_new (new1 B) ⟨h1, ?_⟩
  have hz : (s.heap.push o).objs.size = s.heap.objs.size + 1 := Heap.size_push ..
  show _ ∧ _
  rw [hz]
  have he : IsEnum ((s.heap.push o).push { cls := .type "enumerate", data := .fields #[.none, .bool false, .ref s.heap.objs.size, rawInt 0, .none, .none] }) (s.heap.objs.size + 1) s.heap.objs.size 0 .none := by
    have := Heap.get?_push_size (s.heap.push o) (o := { cls := .type "enumerate", data := .fields #[.none, .bool false, .ref s.heap.objs.size, rawInt 0, .none, .none] }) rfl
    rw [hz] at this
    exact this
  exact ⟨⟨_, he, rfl⟩, h _ he (Heap.get?_push_of_some _ (Heap.get?_push_size _ B.free)) fun b o x => Heap.get?_push_of_some _ (Heap.get?_push_of_some _ x)⟩
end PySem.EnumOne
namespace Ev
open PySem L2 PySem.Spec PyProof.Rows RZ
def iEnumT0 (K : PySem.W.Frag) (ta : TA) : TI := fun σ H R => ta σ H fun vs H1 => ∃ a us, vs = [.ref a] ∧ SqT K H1 a us ∧ R (IteT K a 0) H1
theorem pi_enumT0 {X : Cx} {e : Expr} {ta : TA} {p pos tpos : Pos} {elts : List Expr} {kk : Nat} (hg : Gl X "enumerate") (hm : X.mg "enumerate" = none) (ha : PA X [e] ta) (hs : starEach [e] X.env = [(false, eval e X.env)] := by rfl) :
    PI X (.Tuple elts kk tpos) (.Call (.Name "enumerate" p) [e] [] pos) (iEnumT0 X.K ta) := by
  refine ⟨fun pins s σ H R I h => ?_⟩
  refine Call_ (ld_blt I hg hm boot_enumerate (PyProof.Rows.callWith_type1 (thn (ha.run pos pins s σ H _ I h) fun us s1 ⟨vs, H1, I1, r1, q1⟩ => ?_) hs rfl))
  obtain ⟨a, xs, rfl, hq, q⟩ := q1
  cases r1 with
  | cons r rr =>
    cases rr
    cases r
    obtain ⟨its, rv, p', hz⟩ := I1.tuple hq
    have la : a < s1.heap.objs.size := by obtain ⟨_, z, _⟩ := id p'; exact Heap.lt_size z
    refine PySem.EnumOne.begins1 (begins_tuple a its.toArray) p' fun h' he hit hk => wpAny_pyIter_enum he ?_
    have I3 : Inv X pins σ H1 { s1 with heap := h' } := I1.kept (t' := s1.toks) hk
    refine ⟨s1.heap.objs.size + 1, [s1.heap.objs.size + 1, s1.heap.objs.size], _, _, H1, rfl, I3, turn_enumT (k0 := 0) (e := s1.heap.objs.size + 1) (it := s1.heap.objs.size) (Nat.ne_of_lt (Nat.lt_succ_of_lt la)) (Nat.ne_of_lt la), ⟨⟨.none, by simpa using he⟩, ⟨_, hit, rfl, rfl⟩, Nat.succ_ne_self _⟩, fun b hb => ?_, q⟩
    have e' : b = s1.heap.objs.size + 1 ∨ b = s1.heap.objs.size := by simpa using hb
    have hle : s1.heap.objs.size ≤ b := by
      rcases e' with z | z
      · rw [z]; exact Nat.le_add_right _ _
      · rw [z]; exact Nat.le_refl _
    exact I1.fpOk hle (I1.hok.fresh hle)
end Ev
namespace Ev
open PySem L2 PySem.Spec PyProof.Rows RZ
theorem walk_enumT2 {K : PySem.W.Frag} {a : Addr} {xs : List V} : Walk (IteT K a 0) xs.length (fun H => SqT K H a xs) (YPair (fun i => some (.int (0 + (i : Int)))) (fun i => xs[i]?)) := by
  refine ⟨fun i H hi h => ⟨xs, h, hi⟩, fun H h => ⟨xs, h, rfl⟩, fun i H v H' _ h y => ?_⟩
  obtain ⟨T, x, h1, h2, h3, h4⟩ := y
  exact ⟨T, .int (0 + (i : Int)), x, h1, h2, h3, rfl, h4 xs h⟩
def spRowIT (R C : Addr) : Sp := fun vs H Q _ => ∃ (y dx x l : Addr) (r : Fr) (m : Int) (xs : List Int), vs = [.ref y, .ref x, .int m, .ref l] ∧ H y = some (.ins R dx []) ∧ FAt C H x r ∧ r.ok ∧ 2 ≤ m ∧ m ≤ 10 ^ 12 ∧ 1 ≤ r.least m ∧ r.least m ≤ m ∧
  H l = some (.tup (xs.map V.int)) ∧ xs.length ≤ 2000 ∧ (∀ z ∈ xs, 1 ≤ z ∧ z ≤ 10 ^ 15) ∧ ∀ H', But y H H' → RAt R C H' y r m xs → Q .non H'
theorem mk_rowT {R C : Addr} {x l : Addr} {r : Fr} {m : Int} {xs : List Int} {H : Hp} {Q : Addr → Hp → Prop} (fa : FAt C H x r) (o : r.ok) (m1 : 2 ≤ m) (m2 : m ≤ 10 ^ 12) (q1 : 1 ≤ r.least m) (q2 : r.least m ≤ m) (hl : H l = some (.tup (xs.map V.int))) (ok : okFills xs)
    (k : ∀ y H', Same H H' → RAt R C H' y r m xs → Q y H') : ∀ y dx, H y = none → H dx = none → dx ≠ y → spRowIT R C (.ref y :: ([.ref x, .int m, .ref l] ++ [])) (upd (upd H dx (.own y)) y (.ins R dx [])) (fun v H2 => v = .non ∧ Q y H2) E0 := by
  intro y dx ny ndx ne
  have keep : ∀ (o1 o2 : HO), Same H (upd (upd H dx o1) y o2) := fun o1 o2 b u e => by
    rw [upd_ne (ne_of_none e ny), upd_ne (ne_of_none e ndx)]; exact e
  refine ⟨y, dx, x, l, r, m, xs, rfl, upd_same, fa.keep (keep _ _), o, m1, m2, q1, q2, keep _ _ _ _ hl, ok.1, ok.2, fun H' bt ra => ⟨rfl, k y H' (fun b u e => bt _ _ (ne_of_none e ny) (keep _ _ _ _ e)) ra⟩⟩
section
variable {P : Program} {w : World} {K : PySem.W.Frag} {mg : Str → Option Value} {base : Heap}
theorem ok_rowIT {f R C : Addr} {fd : FuncData} {dvs : List V} {kws : List (Str × V)} (F : FunD K "__init__" "Row.__init__" (defArgs sRow_init) (defBody sRow_init) (defScope sRow_init) dvs kws f fd) (T : Blt mg) (me : mg "enumerate" = none) (TR : RowC K R)
    (D1 : Df P w K mg base 1 "need_fill_rule" ["value"] (spNeedFO C)) (D2 : Df P w K mg base 4 "need_page_size" ["rule", "most"] (spNeedPO C)) (D3 : Df P w K mg base 2 "is_within" ["value", "least", "most"] spWithinA)
    {t1 t2 : Tok} (gP : mg "MOST_PAGES" = some (.int 2000 t1)) (gF : mg "MOST_FILL" = some (.int (10 ^ 15) t2)) : FnOk P w K mg base CX0 5 f fd ["self", "rule", "most", "fills"] (spRowIT R C) := by
  obtain ⟨f1, fd1, G1, g1, k1, b1⟩ := D1.ex
  obtain ⟨f2, fd2, G2, g2, k2, b2⟩ := D2.ex
  obtain ⟨f3, fd3, G3, g3, k3, b3⟩ := D3.ex
  refine fund_ok0 F scRowI (fun vs H Q E h => ?_) (fun cdv A outer s H vs Q E hr h => ?_)
  · obtain ⟨y, dx, x, l, r, m, xs, rfl, _⟩ := h
    rfl
  · obtain ⟨y, dx, x, l, r, m, xs, rfl, hy, fa, o, m1, m2, q1, q2, hl, z1, z2, kk⟩ := h
    refine ⟨_, (pss_cons (ps_expr (pe_call G1 (hr.mono (by decide)) (by rfl) g1 k1 b1 .nil pass0 (pa_cons (pv 1) pa_nil)))
    (pss_cons (ps_expr (pe_call G2 hr (by rfl) g2 k2 b2 .nil pass0 (pa_cons (pv 1) (pa_cons (pv 2) pa_nil))))
    (pss_cons (ps_if (pt_not (pt_val (pe_callB call_isiT (by rfl) T.isi (by decide +kernel) (pa_cons (pv 3) (pa_cons (pe_tup (pa_cons (pe_bltn (v := .ty "list") (by rfl) T.list (by decide +kernel) rfl) (pa_cons (pe_bltn (v := .ty "tuple") (by rfl) T.tuple (by decide +kernel) rfl) pa_nil))) pa_nil)))))
      (pss_one ps_never) pss_nil)
    (pss_cons (ps_if (pt_cmpR op_gt (pe_callB call_len_seq (by rfl) T.len PySem.boot_len (pa_cons (pv 3) pa_nil)) (pe_glob (v := .int 2000) rfl gP ⟨_, rfl⟩) (nomark _))
      (pss_one ps_never) pss_nil)
    (pss_cons (ps_for PassesOwn.never rfl (pi_enumT0 (by rfl) me (pa_cons (pv 3) pa_nil)) (pg_tup rfl (pgs_cons (pg_name (i := 4) scRowI.nd rfl (.inl rfl)) (pgs_cons (pg_name (i := 5) scRowI.nd rfl (.inl rfl)) pgs_nil)))
      (pss_one (ps_if (pt_not (pt_val (pe_call G3 (hr.mono (by decide)) (by rfl) g3 k3 b3 .nil pass0 (pa_cons (pv 5) (pa_cons pe_int (pa_cons (pe_glob (v := .int (10 ^ 15)) rfl gF ⟨_, rfl⟩) pa_nil))))))
        (pss_one ps_never) pss_nil)))
    (pss_cons (ps_fld (pv 0) (pv 1) rfl)
    (pss_cons (ps_fld (pv 0) (pv 2) rfl)
    (pss_one (ps_fld (pv 0) (pe_callTy call_tuple_of (by rfl) T.tuple (by decide +kernel) (pa_cons (pv 3) pa_nil)) rfl))))))))), ?_⟩
    refine ⟨_, rfl, x, r, rfl, fa, _, rfl, _, rfl, x, r, m, rfl, fa, o, m1, m2, q1, q2, ?_⟩
    refine ⟨_, rfl, (by show 2 ≤ sizeLine; decide), fun tp ntp => ⟨_, tp, _, _, _, true, rfl, upd_same, .cons (.ty _) (.cons (.ty _) .nil), .base (.tup (same_new ntp _ _ hl)), kit_any2 (r1 := false) (r2 := true) (by decide +kernel) (by decide +kernel), _, rfl, iteF ?_⟩⟩
    have s1 : Same H (upd H tp (.tup [.ty "list", .ty "tuple"])) := same_new ntp
    generalize upd H tp (.tup [.ty "list", .ty "tuple"]) = H1 at s1 ⊢
    refine ⟨_, rfl, l, _, rfl, .inr (SqT.of (s1 _ _ hl)), _, _, rfl, rfl, _, rfl, ?_⟩
    rw [List.length_map]
    rw [show decide ((xs.length : Int) > 2000) = false from decide_eq_false (by omega)]
    refine iteF ⟨_, rfl, l, _, rfl, SqT.of (s1 _ _ hl), ?_⟩
    refine for_it (walk_enumT2 (K := K) (a := l) (xs := xs.map V.int)) (fun i σ G => Same H G ∧ ∃ v4 v5, σ = [some (.ref y), some (.ref x), some (.int m), some (.ref l), v4, v5]) ⟨s1, _, _, rfl⟩ (fun i σ G _ h => SqT.of (h.1 _ _ hl)) (fun i v σ G2 G3 hi h y' => ?_) (fun σ G h => ?_)
    · obtain ⟨s2, v4, v5, rfl⟩ := h
      obtain ⟨Tp, vx, vy, rfl, nT, rfl, ex, ey⟩ := y'
      obtain ⟨n, hn, rfl⟩ := int_at ey
      obtain rfl : V.int (0 + (i : Int)) = vx := Option.some.inj ex
      obtain ⟨n1, n2⟩ := z2 n (List.mem_of_getElem? hn)
      have s3 : Same H (upd G2 Tp (.tup [.int (0 + (i : Int)), .int n])) := s2.trans (same_new nT)
      refine ⟨Tp, _, rfl, SqT.of upd_same, rfl, _, _, rfl, _, _, rfl, rfl, _, rfl, _, _, _, rfl, .inl ⟨_, rfl⟩, _, rfl, ?_⟩
      rw [inB_in n1 n2]
      exact iteF ⟨s3, _, _, rfl⟩
    · obtain ⟨s2, v4, v5, rfl⟩ := h
      have fa2 := fa.keep s2
      refine ⟨_, rfl, _, rfl, y, R, dx, _, rfl, s2 _ _ hy, TR.cl, TR.n1, (by show 0 < 1000; decide), ?_⟩
      rw [rp1]
      have y1 : upd G y (.ins R dx [("fill_rule", .ref x)]) y = some (.ins R dx [("fill_rule", .ref x)]) := upd_same
      have t1 : But y H (upd G y (.ins R dx [("fill_rule", .ref x)])) := (Same.but s2).trans But.upd_at
      generalize upd G y (.ins R dx [("fill_rule", .ref x)]) = H2 at y1 t1 ⊢
      refine ⟨_, rfl, _, rfl, y, R, dx, _, rfl, y1, TR.cl, TR.n2, (by show 1 < 1000; decide), ?_⟩
      rw [rp2]
      have y2 : upd H2 y (.ins R dx [("fill_rule", .ref x), ("most", .int m)]) y = some (.ins R dx [("fill_rule", .ref x), ("most", .int m)]) := upd_same
      have t2 : But y H (upd H2 y (.ins R dx [("fill_rule", .ref x), ("most", .int m)])) := t1.trans But.upd_at
      generalize upd H2 y (.ins R dx [("fill_rule", .ref x), ("most", .int m)]) = H3 at y2 t2 ⊢
      have ly : l ≠ y := ne_of hl hy (by intro z; cases z)
      refine ⟨_, rfl, l, _, rfl, .inr ⟨SqT.of (t2 _ _ ly hl), ?_⟩⟩
      refine ⟨_, rfl, y, R, dx, _, rfl, y2, TR.cl, TR.n3, (by show 2 < 1000; decide), ?_⟩
      rw [rp3]
      have bt : But y H (upd H3 y (.ins R dx [("fill_rule", .ref x), ("most", .int m), ("fills", .ref l)])) := t2.trans But.upd_at
      refine kk _ bt ⟨dx, x, l, upd_same, ?_, bt _ _ ly hl⟩
      obtain ⟨dx', a, h1, h2⟩ := fa
      exact ⟨dx', a, bt _ _ (fun z => by subst z; rw [hy] at h1; cases h1) h1, bt _ _ (ne_of h2 hy (by intro z; cases z)) h2⟩
end
end Ev
namespace Ev
open PySem L2 PySem.Spec PyProof.Rows RZ
/-! Rows that grow too long. -/
def TellT (C : Addr) (w : Str) (n : Int) (H : Hp) (E : XK) : Prop := ∀ (d : Addr) (H' : Hp), Same H H' → H d = none → H' d = some (.xd (tmF w n)) → E (.ref C) (some d) H'
theorem TellT.on {C : Addr} {w : Str} {n : Int} {H H1 : Hp} {E : XK} (h : TellT C w n H E) (s : Same H H1) : TellT C w n H1 E := fun d H' s1 q e => h d H' (s.trans s1) (Same.gone s q) e
def spTmI (C : Addr) : Sp := fun vs H Q _ => ∃ (a : Addr) (w : Str) (n : Int), vs = [.ref a, .str w, .int n] ∧ H a = some (exo a C none) ∧
  ∀ (d : Addr) (H' : Hp), H d = none → H' a = some (exo a C (some d)) → H' d = some (exd d (tmF w n)) → (∀ b o, b ≠ a → H b = some o → H' b = some o) → Q .non H'
structure ErrT (P : Program) (w : World) (K : PySem.W.Frag) (mg : Str → Option Value) (base : Heap) (C : Addr) : Prop where
  cl : OexC K C
  g : mg "TooMany" = some (.ref C)
  ex : ∃ (f : Addr) (fd : FuncData), PySem.W.findIn K (.ref C) "__init__" = some (some (.ref f)) ∧ PySem.W.typeIn K (.ref f) = some (.type "function") ∧ FnOk P w K mg base CX0 3 f fd ["self", "what", "most"] (spTmI C) ∧ Binds K fd ["self", "what", "most"] []
theorem raisedT {C : Addr} {H : Hp} {w : Str} {n : Int} {E : XK} (k : TellT C w n H E) (a' : Addr) (na : H a' = none) :
    spTmI C [.ref a', .str w, .int n] (upd H a' (exo a' C none)) (fun v' H2 => v' = .non ∧ ∃ (d : Addr) (fs : List (Str × V)), H2 a' = some (exo a' C (some d)) ∧ H2 d = some (exd d fs) ∧ H d = none ∧ E (.ref C) (some d) (upd (del H2 a') d (.xd fs))) (fun _ _ _ => False) := by
  refine ⟨a', w, n, rfl, upd_same, fun d H' nd ha' hd bt => ⟨rfl, d, _, ha', hd, ?_, ?_⟩⟩
  · have dne : d ≠ a' := fun z => by rw [z, upd_same] at nd; cases nd
    rw [upd_ne dne] at nd
    exact nd
  · have dne : d ≠ a' := fun z => by rw [z, upd_same] at nd; cases nd
    rw [upd_ne dne] at nd
    refine k d _ (fun b o e => ?_) nd upd_same
    rw [upd_ne (ne_of_none e nd), del_ne (ne_of_none e na)]
    exact bt b o (ne_of_none e na) (by rw [upd_ne (ne_of_none e na)]; exact e)
section
variable {P : Program} {w : World} {K : PySem.W.Frag} {mg : Str → Option Value} {base : Heap}
theorem scTm : FnScope ["self", "what", "most"] ["self", "what", "most"] (defScope sTooMany_init) := ⟨rfl, rfl, rfl, by decide +kernel, rfl, by decide +kernel, by decide +kernel⟩
theorem ok_tm {f C : Addr} {fd : FuncData} (F : Fun K "__init__" "TooMany.__init__" sTooMany_init f fd) (T : OexC K C) (no : PySem.W.findIn K (.ref C) "what" = some none) (no2 : PySem.W.findIn K (.ref C) "most" = some none) (D : Df P w K mg base 2 "kept" ["value"] spKept) : FnOk P w K mg base CX0 3 f fd ["self", "what", "most"] (spTmI C) := by
  obtain ⟨f1, fd1, G1, g1, k1, b1⟩ := D.ex
  refine F.ok scTm (fun vs H Q E h => ?_) (fun cdv A outer s H vs Q E hr h => ?_)
  · obtain ⟨a, i, j, rfl, _⟩ := h
    rfl
  · obtain ⟨a, i, j, rfl, ha, kk⟩ := h
    refine ⟨_, pss_cons (ps_ost (pv 0) (pe_call G1 hr (by rfl) g1 k1 b1 .nil pass0 (pa_cons (pv 1) pa_nil))) (pss_one (ps_ost (pv 0) (pe_call G1 hr (by rfl) g1 k1 b1 .nil pass0 (pa_cons (pv 2) pa_nil)))), ?_⟩
    refine ⟨_, rfl, .str i, "str", rfl, flat_str i, fun H1 s1 => ⟨_, rfl, a, C, rfl, T, no, .inl ⟨s1 _ _ ha, fun dx nx ne => ?_⟩⟩⟩
    have z1 : ∀ b o, b ≠ a → H1 b = some o → upd (upd H1 dx (exd dx [("what", .str i)])) a (exo a C (some dx)) b = some o := fun b o nb e => by rw [upd_ne nb, upd_ne (ne_of_none e nx)]; exact e
    have z2 : upd (upd H1 dx (exd dx [("what", .str i)])) a (exo a C (some dx)) a = some (exo a C (some dx)) := upd_same
    have z4 : upd (upd H1 dx (exd dx [("what", .str i)])) a (exo a C (some dx)) dx = some (exd dx [("what", .str i)]) := by rw [upd_ne ne]; exact upd_same
    generalize upd (upd H1 dx (exd dx [("what", .str i)])) a (exo a C (some dx)) = H2 at z1 z2 z4 ⊢
    refine ⟨_, rfl, .int j, "int", rfl, flat_int j, fun H3 s3 => ⟨_, rfl, a, C, rfl, T, no2, .inr ⟨dx, _, s3 _ _ z2, s3 _ _ z4, (by show 1 ≤ 900; decide), ?_⟩⟩⟩
    have y2 := s3 _ _ z2
    refine kk dx _ (Same.gone s1 nx) (by rw [upd_ne ne.symm]; exact y2) upd_same fun b o nb q => ?_
    rw [upd_ne (ne_of_none (s1 _ _ q) nx)]
    exact s3 _ _ (z1 _ _ nb (s1 _ _ q))
end
end Ev
namespace Ev
open PySem L2 PySem.Spec PyProof.Rows RZ
def loopBody : Stmt → List Stmt
  | .For _ _ b _ _ => b
  | _ => []
def spLFills : Sp := fun vs H Q _ => ∃ (p L l : Addr) (r : Fr) (m B : Int), vs = [.ref p, .ref l, .int m] ∧ H l = some (.tup (tupR r)) ∧ r.ok ∧ 2 ≤ m ∧ m ≤ 10 ^ 12 ∧ 1 ≤ r.least m ∧ r.least m ≤ m ∧ B ≤ 900000 ∧ Pen L H p B ∧
  ∀ (q : Addr) (xs : List Int) (H' : Hp), H' q = some (.lst (xs.map V.int)) → q ≠ p → xs.length ≤ 20 → (∀ x ∈ xs, 1 ≤ x ∧ x ≤ 2 * m) → But p H H' → Pen L H' p (B + 60) → Q (.ref q) H'
def spLSpot : Sp := fun vs H Q _ => ∃ (p L f : Addr) (xs : List Int) (B : Int), vs = [.ref p, .ref f] ∧ H f = some (.lst (xs.map V.int)) ∧ f ≠ p ∧ xs.length ≤ 20 ∧ (∀ x ∈ xs, 1 ≤ x ∧ x ≤ 10 ^ 15) ∧ B ≤ 900000 ∧ Pen L H p B ∧
  ∀ (z : Int) (H' : Hp), 0 ≤ z → z ≤ xs.sum → But p H H' → Pen L H' p (B + 3) → Q (.int z) H'
section
variable {P : Program} {w : World} {K : PySem.W.Frag} {mg : Str → Option Value} {base : Heap}
abbrev nLf : List Str := ["_law_pen_here", "_law_told", "_law_top", "_law_wide", "_law_low", "_law_kind", "_law_found", "_law_page", "_law_way"]
theorem scLFills : FnScope nLf ["_law_pen_here", "_law_told", "_law_top"] (defScope sLFills) := ⟨rfl, rfl, rfl, by decide +kernel, rfl, by decide +kernel, by decide +kernel⟩
theorem ok_lfills {f : Addr} {fd : FuncData} (F : Fun K "_law_fills" "_law_fills" sLFills f fd) (T : Blt mg) (D0 : Df P w K mg base 1 "_law_draw" ["_law_pen_here", "_law_many"] spDraw) (D1 : Df P w K mg base 1 "_law_least" ["_law_told", "_law_top"] spLLeast) : FnOk P w K mg base CX0 2 f fd ["_law_pen_here", "_law_told", "_law_top"] spLFills := by
  obtain ⟨f0, fd0, G0, g0, k0, b0⟩ := D0.ex
  obtain ⟨f1, fd1, G1, g1, k1, b1⟩ := D1.ex
  refine F.ok scLFills (fun vs H Q E h => ?_) (fun cdv A outer s H vs Q E hr h => ?_)
  · obtain ⟨p, L, l, r, m, B, rfl, _⟩ := h
    rfl
  · obtain ⟨p, L, l, r, m, B, rfl, hl, o, m1, m2, q1, q2, hB, pn, kk⟩ := h
    obtain ⟨w1, w2, w3, w4⟩ := Fr.wd_bd o
    obtain ⟨tB, hB', qB⟩ : ∃ t : TS, PSs (cxOf CX0 P w K mg base nLf "_law_fills" (defScope sLFills) f cdv A outer s H E).nox (loopBody ((defBody sLFills).getD 2 (.Pass ⟨0, 0, 0, 0⟩))) t ∧ ∀ (D : Ends) (G : Hp) (q : Addr) (xs : List Int) (kd C : Int) (v7 v8 : Option V), G q = some (.lst (xs.map V.int)) → q ≠ p → q ≠ L → H q = none → xs.length ≤ 30 → (∀ x ∈ xs, 1 ≤ x ∧ x ≤ 2 * m) → But p H G → C ≤ 900100 → Pen L G p C →
        (∀ (G' : Hp) (ys : List Int) (v8' : Option V), G' q = some (.lst (ys.map V.int)) → ys.length = xs.length + 1 → (∀ x ∈ ys, 1 ≤ x ∧ x ≤ 2 * m) → But p H G' → Pen L G' p (C + 2) → D.nx [some (.ref p), some (.ref l), some (.int m), some (.int r.wd), some (.int (r.least m)), some (.int kd), some (.ref q), v7, v8'] G') →
        t D [some (.ref p), some (.ref l), some (.int m), some (.int r.wd), some (.int (r.least m)), some (.int kd), some (.ref q), v7, v8] G := by
      refine ⟨_, (pss_cons (ps_set (i := 8) scLFills.nd rfl (.inl rfl) (pe_call G0 hr (by rfl) g0 k0 b0 .nil pass0 (pa_cons (pv 0) (pa_cons pe_int pa_nil))))
      (pss_one (ps_if (pt_cmpR op_lt (pv 8) pe_int (nomark _))
        (pss_one (ps_expr (pe_bm PySem.F.plainAttrs_list PySem.F.slot_list_append PySem.F.type_list_append mt_append (pv 6) (pa_cons (pe_ix ix_list (pe_lst (pa_cons (pv 2) (pa_cons (pv 4) (pa_cons (pe_callB (call_max2 rfl) (by rfl) T.max (by decide +kernel) (pa_cons pe_int (pa_cons (pe_op op_sub (pv 4) pe_int) pa_nil))) (pa_cons (pv 2) pa_nil))))) (pv 8) (fun _ _ => rfl)) pa_nil)))) (pss_one (ps_expr (pe_bm PySem.F.plainAttrs_list PySem.F.slot_list_append PySem.F.type_list_append mt_append (pv 6) (pa_cons (pe_ifExp (pt_cmpR op_eq (pv 8) pe_int (nomark _)) (pe_op op_add pe_int (pe_call G0 hr (by rfl) g0 k0 b0 .nil pass0 (pa_cons (pv 0) (pa_cons (pv 2) pa_nil)))) (pe_op op_add pe_int (pe_call G0 hr (by rfl) g0 k0 b0 .nil pass0 (pa_cons (pv 0) (pa_cons (pe_op op_mul pe_int (pv 2)) pa_nil))))) pa_nil))))))), ?_⟩
      intro D G q xs kd C v7 v8 hq qp qL Hq hlen hx bt hC pg fin
      have len : (xs.map V.int).length < sizeLine := by rw [List.length_map]; exact Nat.lt_of_le_of_lt hlen (by decide)
      have put : ∀ (y : Int) (G' : Hp), 1 ≤ y → y ≤ 2 * m → G' q = some (.lst (xs.map V.int)) → But p H G' → Pen L G' p (C + 2) → ∀ v8', D.nx [some (.ref p), some (.ref l), some (.int m), some (.int r.wd), some (.int (r.least m)), some (.int kd), some (.ref q), v7, v8'] (upd G' q (.lst (xs.map V.int ++ [V.int y]))) := fun y G' y1 y2 g1 g2 g3 v8' =>
        fin _ (xs ++ [y]) v8' (by rw [upd_same, List.map_append]; rfl) (by rw [List.length_append]; rfl) (fun x h => by
          rcases List.mem_append.mp h with h | h
          · exact hx x h
          · rw [List.mem_singleton.mp h]; exact ⟨y1, y2⟩) (fun b u nb e => by rw [upd_ne (ne_of_none e Hq)]; exact g2 _ _ nb e) (g3.put qp qL)
      refine ⟨_, rfl, p, L, _, _, rfl, by decide, by decide, by omega, pg, fun wy G1 bt1 pg1 y0 y1 => ?_⟩
      have hq1 := bt1 _ _ qp hq
      have bt1' := bt.trans bt1
      refine ⟨_, rfl, _, _, rfl, rfl, _, rfl, ?_⟩
      by_cases z : wy < 4
      · rw [decide_eq_true z]
        refine iteT ⟨_, rfl, .inl ⟨rfl, _, SqL.of hq1⟩, _, rfl, _, rfl, _, rfl, _, _, rfl, rfl, _, _, rfl, _, rfl, (by show 4 ≤ sizeLine; decide), fun u nu => ?_⟩
        obtain ⟨y, hy, ya, yb⟩ : ∃ y : Int, atI [V.int m, .int (r.least m), .int (if r.least m - 1 > 1 then r.least m - 1 else 1), .int m] wy = some (.int y) ∧ 1 ≤ y ∧ y ≤ 2 * m := by
          rcases (show wy = 0 ∨ wy = 1 ∨ wy = 2 ∨ wy = 3 by omega) with rfl | rfl | rfl | rfl
          · exact ⟨_, atI_nat (j := 0) rfl, by omega, by omega⟩
          · exact ⟨_, atI_nat (j := 1) rfl, by omega, by omega⟩
          · exact ⟨_, atI_nat (j := 2) rfl, by split <;> omega, by split <;> omega⟩
          · exact ⟨_, atI_nat (j := 3) rfl, by omega, by omega⟩
        refine ⟨_, rfl, u, _, _, _, rfl, rfl, SqL.of upd_same, hy, q, _, _, rfl, rfl, same_new nu _ _ hq1, len, ?_⟩
        exact put y _ ya yb (same_new nu _ _ hq1) (bt1'.trans (But.upd_new nu)) ((pg1.new nu).mono (by omega)) _
      · rw [decide_eq_false z]
        refine iteF ⟨_, rfl, .inl ⟨rfl, _, SqL.of hq1⟩, _, rfl, rfl, _, rfl, ?_⟩
        by_cases z4 : wy = 4
        · rw [show decide (V.int wy = V.int 4) = true from decide_eq_true (by rw [z4])]
          refine iteT ⟨_, rfl, _, rfl, p, L, _, _, rfl, by omega, by omega, by omega, pg1, fun d G2 bt2 pg2 x0 x1 => ⟨_, _, rfl, rfl, q, _, _, rfl, rfl, bt2 _ _ qp hq1, len, ?_⟩⟩
          exact put (1 + d) G2 (by omega) (by omega) (bt2 _ _ qp hq1) (bt1'.trans bt2) (pg2.mono (by omega)) _
        · rw [show decide (V.int wy = V.int 4) = false from decide_eq_false fun h => z4 (V.int.inj h)]
          refine iteF ⟨_, rfl, _, rfl, _, _, rfl, rfl, .inl (mw (b := 12) (by omega) (by omega) (by decide)), p, L, _, _, rfl, by omega, by omega, by omega, pg1, fun d G2 bt2 pg2 x0 x1 => ⟨_, _, rfl, rfl, q, _, _, rfl, rfl, bt2 _ _ qp hq1, len, ?_⟩⟩
          exact put (1 + d) G2 (by omega) (by omega) (bt2 _ _ qp hq1) (bt1'.trans bt2) (pg2.mono (by omega)) _
    refine ⟨_, (pss_cons (ps_par (i := 3) (j := 4) (by rfl) scLFills.nd rfl rfl (by decide) rfl rfl (pa_cons (pe_callB (call_max2 rfl) (by rfl) T.max (by decide +kernel) (pa_cons (pe_callTy call_int1 (by rfl) T.int (by decide +kernel) (pa_cons (pe_ix ix_tup (pv 1) pe_int (fun _ _ => rfl)) pa_nil)) (pa_cons (pe_callTy call_int1 (by rfl) T.int (by decide +kernel) (pa_cons (pe_ix ix_tup (pv 1) pe_int (fun _ _ => rfl)) pa_nil)) pa_nil))) (pa_cons (pe_call G1 hr (by rfl) g1 k1 b1 .nil pass0 (pa_cons (pv 1) (pa_cons (pv 2) pa_nil))) pa_nil)) (by rfl))
    (pss_cons (ps_par (i := 5) (j := 6) (by rfl) scLFills.nd rfl rfl (by decide) rfl rfl (pa_cons (pe_call G0 hr (by rfl) g0 k0 b0 .nil pass0 (pa_cons (pv 0) (pa_cons pe_int pa_nil))) (pa_cons (pe_lst pa_nil) pa_nil)) (by rfl))
    (pss_cons (ps_for PassesOwn.never rfl (pi_range1 (by rfl) T.range (pa_cons (pe_ifExp (pt_cmpR op_eq (pv 5) pe_int (nomark _)) (pe_call G0 hr (by rfl) g0 k0 b0 .nil pass0 (pa_cons (pv 0) (pa_cons (pe_op op_add (pv 3) pe_int) pa_nil))) (pe_op op_add (pe_op op_add (pv 3) pe_int) (pe_call G0 hr (by rfl) g0 k0 b0 .nil pass0 (pa_cons (pv 0) (pa_cons (pe_ix ix_list (pe_lst (pa_cons pe_int (pa_cons pe_int (pa_cons pe_int (pa_cons pe_int pa_nil))))) (pv 5) (fun _ _ => rfl)) pa_nil))))) pa_nil)) (pg_name (i := 7) scLFills.nd rfl (.inl rfl))
      hB')
    (pss_one (ps_ret (pv 6)))))), ?_⟩
    refine ⟨_, rfl, l, _, _, _, rfl, rfl, SqT.of hl, i5_3, .inl ⟨_, rfl, _, rfl, l, _, _, _, rfl, rfl, SqT.of hl, i5_4, .inl ⟨_, rfl, _, _, rfl, ?_⟩⟩⟩
    rw [wd_max]
    refine ⟨_, rfl, _, rfl, l, r, m, rfl, hl, o, _, _, rfl, ?_⟩
    refine ⟨_, rfl, p, L, _, _, rfl, by decide, by decide, by omega, pn, fun kd H1 bt1 pn1 d0 d1 => ⟨(by show 0 ≤ sizeLine; decide), fun q nq => ⟨_, _, rfl, ?_⟩⟩⟩
    have qp := pn1.ne nq
    have qL : q ≠ L := pn1.neL nq
    have hq : upd H1 q (.lst []) q = some (.lst (([] : List Int).map V.int)) := upd_same
    have Hq : H q = none := bt1.free pn1 nq
    have bt2 : But p H (upd H1 q (.lst [])) := bt1.trans (But.upd_new nq)
    have pn2 := pn1.new (o := .lst []) nq
    generalize upd H1 q (.lst []) = H2 at hq bt2 pn2 ⊢
    refine ⟨_, rfl, rfl, _, rfl, ?_⟩
    by_cases e0 : kd = 0
    · rw [show decide (V.int kd = V.int 0) = true from decide_eq_true (by rw [e0])]
      refine iteT ⟨_, rfl, _, rfl, _, _, rfl, rfl, p, L, _, _, rfl, by omega, by omega, by omega, pn2, fun d H3 bt3 pn3 x0 x1 => ?_⟩
      obtain ⟨n, rfl⟩ := Int.eq_ofNat_of_zero_le x0
      exact ⟨n, rfl, by omega, by omega, for_range (n := n) (fun i σ G => ∃ (xs : List Int) (v7 v8 : Option V), σ = [some (.ref p), some (.ref l), some (.int m), some (.int r.wd), some (.int (r.least m)), some (.int kd), some (.ref q), v7, v8] ∧ G q = some (.lst (xs.map V.int)) ∧ xs.length = i ∧ (∀ x ∈ xs, 1 ≤ x ∧ x ≤ 2 * m) ∧ But p H G ∧ Pen L G p (B + 2 + 2 * (i : Int))) ⟨[], _, _, rfl, bt3 _ _ qp hq, rfl, (fun x hx => by cases hx), bt2.trans bt3, pn3.mono (by omega)⟩
        (fun i σ G hi h => by
          obtain ⟨xs, v7, v8, rfl, g1, g2, g3, g4, g5⟩ := h
          exact qB _ G q xs kd _ _ _ g1 qp qL Hq (by omega) g3 g4 (by omega) g5 fun G' ys v8' h1 h2 h3 h4 h5 => ⟨ys, _, _, rfl, h1, by omega, h3, h4, h5.mono (by omega)⟩)
        (fun σ G h => by
          obtain ⟨xs, v7, v8, rfl, g1, g2, g3, g4, g5⟩ := h
          exact ⟨_, rfl, kk q xs G g1 qp (by omega) g3 g4 (g5.mono (by omega))⟩)⟩
    · rw [show decide (V.int kd = V.int 0) = false from decide_eq_false fun h => e0 (V.int.inj h)]
      refine iteF ⟨_, rfl, _, _, rfl, rfl, _, rfl, (by show 4 ≤ sizeLine; decide), fun u nu => ?_⟩
      obtain ⟨t, ht, t1, t2⟩ : ∃ t : Int, atI [V.int 1, .int 2, .int 2, .int 5] kd = some (.int t) ∧ 1 ≤ t ∧ t ≤ 5 := by
        rcases (show kd = 1 ∨ kd = 2 ∨ kd = 3 by omega) with rfl | rfl | rfl
        · exact ⟨_, atI_nat (j := 1) rfl, by decide, by decide⟩
        · exact ⟨_, atI_nat (j := 2) rfl, by decide, by decide⟩
        · exact ⟨_, atI_nat (j := 3) rfl, by decide, by decide⟩
      refine ⟨_, rfl, u, _, _, _, rfl, rfl, SqL.of upd_same, ht, p, L, _, _, rfl, t1, by omega, by omega, pn2.new nu, fun d H3 bt3 pn3 x0 x1 => ⟨_, _, rfl, rfl, ?_⟩⟩
      obtain ⟨n, hn⟩ := Int.eq_ofNat_of_zero_le (show 0 ≤ r.wd + 1 + d by omega)
      have bt23 := bt2.trans ((But.upd_new nu).trans bt3)
      exact ⟨n, (by show [V.int (r.wd + 1 + d)] = _; rw [hn]), by omega, by omega, for_range (n := n) (fun i σ G => ∃ (xs : List Int) (v7 v8 : Option V), σ = [some (.ref p), some (.ref l), some (.int m), some (.int r.wd), some (.int (r.least m)), some (.int kd), some (.ref q), v7, v8] ∧ G q = some (.lst (xs.map V.int)) ∧ xs.length = i ∧ (∀ x ∈ xs, 1 ≤ x ∧ x ≤ 2 * m) ∧ But p H G ∧ Pen L G p (B + 2 + 2 * (i : Int))) ⟨[], _, _, rfl, bt3 _ _ qp (same_new nu _ _ hq), rfl, (fun x hx => by cases hx), bt23, pn3.mono (by omega)⟩
        (fun i σ G hi h => by
          obtain ⟨xs, v7, v8, rfl, g1, g2, g3, g4, g5⟩ := h
          exact qB _ G q xs kd _ _ _ g1 qp qL Hq (by omega) g3 g4 (by omega) g5 fun G' ys v8' h1 h2 h3 h4 h5 => ⟨ys, _, _, rfl, h1, by omega, h3, h4, h5.mono (by omega)⟩)
        (fun σ G h => by
          obtain ⟨xs, v7, v8, rfl, g1, g2, g3, g4, g5⟩ := h
          exact ⟨_, rfl, kk q xs G g1 qp (by omega) g3 g4 (g5.mono (by omega))⟩)⟩
end
end Ev
namespace Ev
open PySem L2 PySem.Spec PyProof.Rows RZ LamX
section
variable {P : Program} {w : World} {K : PySem.W.Frag} {mg : Str → Option Value} {base : Heap}
theorem scBO : FnScope ["self", "part"] ["self", "part"] (defScope sBadOther_init) := ⟨rfl, rfl, rfl, by decide +kernel, rfl, by decide +kernel, by decide +kernel⟩
theorem ok_bo {f C : Addr} {fd : FuncData} (F : Fun K "__init__" "BadOther.__init__" sBadOther_init f fd) (T : OexC K C) (no : PySem.W.findIn K (.ref C) "part" = some none) (D : Df P w K mg base 2 "kept" ["value"] spKept) : FnOk P w K mg base CX0 3 f fd ["self", "part"] (spErrI C "part") := by
  obtain ⟨f1, fd1, G1, g1, k1, b1⟩ := D.ex
  refine F.ok scBO (fun vs H Q E h => ?_) (fun cdv A outer s H vs Q E hr h => ?_)
  · obtain ⟨a, v, TT, rfl, _⟩ := h
    rfl
  · obtain ⟨a, v, TT, rfl, fl, ha, kk⟩ := h
    refine ⟨_, pss_one (ps_ost (pv 0) (pe_call G1 hr (by rfl) g1 k1 b1 .nil pass0 (pa_cons (pv 1) pa_nil))), ?_⟩
    refine ⟨_, rfl, v, TT, rfl, fl, fun H1 s1 => ⟨_, rfl, a, C, rfl, T, no, .inl ⟨s1 _ _ ha, fun dx nd dne => ?_⟩⟩⟩
    refine kk dx _ (Same.gone s1 nd) upd_same (by rw [upd_ne dne]; exact upd_same) fun b o nb e => ?_
    rw [upd_ne nb, upd_ne (ne_of_none (s1 _ _ e) nd)]
    exact s1 _ _ e
theorem scBP : FnScope ["self", "at"] ["self", "at"] (defScope sBadPages_init) := ⟨rfl, rfl, rfl, by decide +kernel, rfl, by decide +kernel, by decide +kernel⟩
theorem ok_bp {f C : Addr} {fd : FuncData} (F : Fun K "__init__" "BadPages.__init__" sBadPages_init f fd) (T : OexC K C) (no : PySem.W.findIn K (.ref C) "at" = some none) (D : Df P w K mg base 2 "kept" ["value"] spKept) : FnOk P w K mg base CX0 3 f fd ["self", "at"] (spErrI C "at") := by
  obtain ⟨f1, fd1, G1, g1, k1, b1⟩ := D.ex
  refine F.ok scBP (fun vs H Q E h => ?_) (fun cdv A outer s H vs Q E hr h => ?_)
  · obtain ⟨a, v, TT, rfl, _⟩ := h
    rfl
  · obtain ⟨a, v, TT, rfl, fl, ha, kk⟩ := h
    refine ⟨_, pss_one (ps_ost (pv 0) (pe_call G1 hr (by rfl) g1 k1 b1 .nil pass0 (pa_cons (pv 1) pa_nil))), ?_⟩
    refine ⟨_, rfl, v, TT, rfl, fl, fun H1 s1 => ⟨_, rfl, a, C, rfl, T, no, .inl ⟨s1 _ _ ha, fun dx nd dne => ?_⟩⟩⟩
    refine kk dx _ (Same.gone s1 nd) upd_same (by rw [upd_ne dne]; exact upd_same) fun b o nb e => ?_
    rw [upd_ne nb, upd_ne (ne_of_none (s1 _ _ e) nd)]
    exact s1 _ _ e
end
end Ev
namespace Ev
open PySem L2 PySem.Spec PyProof.Rows RZ LamX
/-- the heard call, the def that makes the lambda apart -/
structure HeardB (P : Program) (w : World) (K : PySem.W.Frag) (mg : Str → Option Value) (B N O G T FE fh : Addr) (fdh : FuncData) : Prop where
  F : Fun K "_law_heard" "_law_heard" sLHeard fh fdh
  g : mg "_law_heard" = some (.ref fh)
  b : Binds K fdh ["_law_ask"] []
  mr : mg "repr" = none
  mv : mg "ValueError" = none
  z : Five K mg B N O G T FE
/-- a wrong part is heard -/
theorem lam_rule {TL : List (Addr × Str)} {K : PySem.W.Frag} {B N O G T N' : Addr} {t : XK → TE} {σ : L2.St} {H : Hp} {Q : VK} (m : Str) (hT : Tabs TL H)
    (ht : ∀ (H1 : Hp) (E' : XK) (Q' : VK), ExtN H H1 → (∀ (g : Prop) Hx, Same H1 Hx → OutK B N' Hx E' g (.rule m)) → t E' σ H1 Q')
    (k : ∀ (r : Addr) (H1 G : Hp), ExtN H H1 → Tabs TL H1 → Same H1 G → G r = some (.tup [.str "rule", .str m]) → Q (.ref r) G) : tLam TL (THeard K B N O G T) t σ H Q := by
  refine ⟨hT, fun H1 e1 T1 => ht H1 _ _ e1 fun g Hx sx => ?_⟩
  intro H2 s2 d H' s' nd hd
  exact ⟨d, _, "rule", .str m, rfl, hd, .inl ⟨rfl, rfl, rfl⟩, fun r G sG nr hr => k r H1 G e1 T1 (sx.trans (s2.trans (s'.trans sG))) hr⟩
/-- another wrong value is heard -/
theorem lam_oth {TL : List (Addr × Str)} {K : PySem.W.Frag} {B N O G T : Addr} {t : XK → TE} {σ : L2.St} {H : Hp} {Q : VK} (m : Str) (hT : Tabs TL H)
    (ht : ∀ (H1 : Hp) (E' : XK) (Q' : VK), ExtN H H1 → (∀ Hx, Same H1 Hx → TellE O "part" (.str m) Hx E') → t E' σ H1 Q')
    (k : ∀ (r : Addr) (H1 G : Hp), ExtN H H1 → Tabs TL H1 → Same H1 G → G r = some (.tup [.str "other", .str m]) → Q (.ref r) G) : tLam TL (THeard K B N O G T) t σ H Q := by
  refine ⟨hT, fun H1 e1 T1 => ht H1 _ _ e1 fun Hx sx => ?_⟩
  intro d H' s' nd hd
  exact ⟨d, _, "other", .str m, rfl, hd, .inr (.inr (.inl ⟨rfl, rfl, rfl⟩)), fun r G sG nr hr => k r H1 G e1 T1 (sx.trans (s'.trans sG)) hr⟩
/-- a wrong page is heard -/
theorem lam_pag {TL : List (Addr × Str)} {K : PySem.W.Frag} {B N O G T : Addr} {t : XK → TE} {σ : L2.St} {H : Hp} {Q : VK} (i : Int) (hT : Tabs TL H)
    (ht : ∀ (H1 : Hp) (E' : XK) (Q' : VK), ExtN H H1 → (∀ Hx, Same H1 Hx → TellE G "at" (.int i) Hx E') → t E' σ H1 Q')
    (k : ∀ (r : Addr) (H1 G : Hp), ExtN H H1 → Tabs TL H1 → Same H1 G → G r = some (.tup [.str "pages", .int i]) → Q (.ref r) G) : tLam TL (THeard K B N O G T) t σ H Q := by
  refine ⟨hT, fun H1 e1 T1 => ht H1 _ _ e1 fun Hx sx => ?_⟩
  intro d H' s' nd hd
  exact ⟨d, _, "pages", .int i, rfl, hd, .inr (.inr (.inr (.inl ⟨rfl, rfl, rfl⟩))), fun r G sG nr hr => k r H1 G e1 T1 (sx.trans (s'.trans sG)) hr⟩
/-- too many are heard -/
theorem lam_tm {TL : List (Addr × Str)} {K : PySem.W.Frag} {B N O G T : Addr} {t : XK → TE} {σ : L2.St} {H : Hp} {Q : VK} (x : Str) (i : Int) (hT : Tabs TL H)
    (ht : ∀ (H1 : Hp) (E' : XK) (Q' : VK), ExtN H H1 → (∀ Hx, Same H1 Hx → TellT T x i Hx E') → t E' σ H1 Q')
    (k : ∀ (r : Addr) (H1 G : Hp), ExtN H H1 → Tabs TL H1 → Same H1 G → G r = some (.tup [.str x, .int i]) → Q (.ref r) G) : tLam TL (THeard K B N O G T) t σ H Q := by
  refine ⟨hT, fun H1 e1 T1 => ht H1 _ _ e1 fun Hx sx => ?_⟩
  intro d H' s' nd hd
  exact ⟨d, _, x, .int i, rfl, hd, .inr (.inr (.inr (.inr ⟨rfl, i, rfl, rfl⟩))), fun r G sG nr hr => k r H1 G e1 T1 (sx.trans (s'.trans sG)) hr⟩
/-- a value that is no size, and how it shows -/
inductive OddV (lo hi : Int) (H : Hp) : V → PyData → Prop
  | non : OddV lo hi H .non .none
  | int (i : Int) : ¬ (lo ≤ i ∧ i ≤ hi) → i.natAbs.log2 < 1920 → (PyData.int i).shown.length ≤ sizeLine → (PyData.str (PyData.int i).shown).canLay0 = true → OddV lo hi H (.int i) (.int i)
  | bl (b : Bool) : OddV lo hi H (.bl b) (.bool b)
  | str (x : Str) : (PyData.str x).shown.length ≤ sizeLine → (PyData.str (PyData.str x).shown).canLay0 = true → OddV lo hi H (.str x) (.str x)
  | tup {a : Addr} (i : Int) : i = 0 ∨ i = 6 → H a = some (.tup [.int i]) → OddV lo hi H (.ref a) (.tuple [.int i])
  | lst {a : Addr} : H a = some (.lst []) → OddV lo hi H (.ref a) (.list [])
  | dct {a : Addr} : H a = some (.dK []) → OddV lo hi H (.ref a) (.dict [])
theorem OddV.ext {lo hi : Int} {H H' : Hp} {v : V} {d : PyData} (h : OddV lo hi H v d) (k : ExtN H H') : OddV lo hi H' v d := by
  cases h with
  | non => exact .non
  | int i a b c e => exact .int i a b c e
  | bl b => exact .bl b
  | str x a e => exact .str x a e
  | tup i z e => exact .tup i z (k _ _ e (fun _ z => by cases z))
  | lst e => exact .lst (k _ _ e (fun _ z => by cases z))
  | dct e => exact .dct (k _ _ e (fun _ z => by cases z))
theorem flat_non : Flat .non "NoneType" := ⟨fun _ _ => .base .non, by decide +kernel, by decide +kernel, by decide +kernel⟩
theorem flat_bl (b : Bool) : Flat (.bl b) "bool" := ⟨fun _ _ => .base (.bl b), by decide +kernel, by decide +kernel, by decide +kernel⟩
theorem OddV.hold {lo hi : Int} {H : Hp} {v : V} {d : PyData} (h : OddV lo hi H v d) : ∃ us b, Hold H v us b := by
  cases h with
  | non => exact ⟨_, _, .flat flat_non⟩
  | int i a b c _ => exact ⟨_, _, .flat (flat_int i)⟩
  | bl b => exact ⟨_, _, .flat (flat_bl b)⟩
  | str x a _ => exact ⟨_, _, .flat (flat_str x)⟩
  | tup i z e => exact ⟨_, _, .tup e (fun u z => by obtain rfl := List.mem_singleton.mp z; exact ⟨_, flat_int i⟩) (by show 1 ≤ 900; decide)⟩
  | lst e => exact ⟨_, _, .lst e (fun u z => nomatch z) (by decide)⟩
  | dct e => exact ⟨_, _, .dct e (fun u z => nomatch z) (by decide) (by simp)⟩
theorem noInt_non (H : Hp) : NoInt H .non := ⟨fun i z => (by cases z), "NoneType", false, false, fun _ _ _ => .base .non, by decide +kernel, by decide +kernel, fun z => z⟩
theorem noInt_tup {H : Hp} {a : Addr} {xs : List V} (h : H a = some (.tup xs)) : NoInt H (.ref a) := ⟨fun i z => (by cases z), "tuple", false, false, fun _ _ k => .base (.tup (k _ _ h (fun _ z => by cases z))), by decide +kernel, by decide +kernel, fun z => z⟩
theorem noInt_lst {H : Hp} {a : Addr} {xs : List V} (h : H a = some (.lst xs)) : NoInt H (.ref a) := ⟨fun i z => (by cases z), "list", false, false, fun _ _ k => .base (.lst (k _ _ h (fun _ z => by cases z))), by decide +kernel, by decide +kernel, fun z => z⟩
theorem noInt_dct {H : Hp} {a : Addr} {xs : List (Key × V)} (h : H a = some (.dK xs)) : NoInt H (.ref a) := ⟨fun i z => (by cases z), "dict", false, false, fun _ _ k => .base (.dK (k _ _ h (fun _ z => by cases z))), by decide +kernel, by decide +kernel, fun z => z⟩
theorem OddV.bad {lo hi : Int} {H : Hp} {v : V} {d : PyData} (h : OddV lo hi H v d) : IntQ H v ∧ inB lo hi v = false := by
  cases h with
  | non => exact ⟨.inr (noInt_non H), rfl⟩
  | int i a b c _ =>
    refine ⟨.inl ⟨i, rfl⟩, ?_⟩
    rw [Bool.eq_false_iff]
    intro z
    have z : (decide (lo ≤ i) && decide (i ≤ hi)) = true := z
    rw [Bool.and_eq_true] at z
    exact a ⟨of_decide_eq_true z.1, of_decide_eq_true z.2⟩
  | bl b => exact ⟨.inr (noInt_bl H b), rfl⟩
  | str x a _ => exact ⟨.inr (noInt_str H x), rfl⟩
  | tup i z e => exact ⟨.inr (noInt_tup e), rfl⟩
  | lst e => exact ⟨.inr (noInt_lst e), rfl⟩
  | dct e => exact ⟨.inr (noInt_dct e), rfl⟩
theorem OddV.alike {lo hi : Int} {H H' : Hp} {v v' : V} {d : PyData} (h : OddV lo hi H v d) (k : Same H H') (a : Alike H v H' v') : OddV lo hi H' v' d := by
  cases a with
  | same => exact h.ext (Same.extN k)
  | lst e1 e2 =>
    cases h with
    | tup i z e => rw [e] at e1; cases e1
    | lst e => rw [e] at e1; cases e1; exact .lst e2
    | dct e => rw [e] at e1; cases e1
  | dct e1 e2 =>
    cases h with
    | tup i z e => rw [e] at e1; cases e1
    | lst e => rw [e] at e1; cases e1
    | dct e => rw [e] at e1; cases e1; exact .dct e2
theorem OddV.vd {lo hi : Int} {K : PySem.W.Frag} {H : Hp} {v : V} {d : PyData} (h : OddV lo hi H v d) : Vd K H v d ∧ d.showable = true ∧ d.depth ≤ 32 ∧ d.shown.length ≤ sizeLine := by
  cases h with
  | non => exact ⟨.plain .non rfl, rfl, by decide, by decide +kernel⟩
  | int i a b c _ => exact ⟨.plain (.int i) rfl, decide_eq_true b, by show 0 ≤ 32; decide, c⟩
  | bl b => exact ⟨.plain (.bl b) rfl, rfl, by show 0 ≤ 32; decide, by cases b <;> decide +kernel⟩
  | str x a _ => exact ⟨.plain (.str x) rfl, rfl, by show 0 ≤ 32; decide, a⟩
  | tup i z e => rcases z with rfl | rfl <;> exact ⟨.plain (.tup (SqT.of e) (.cons (.int _) .nil)) rfl, by decide +kernel, by decide, by decide +kernel⟩
  | lst e => exact ⟨.plain (.lst (SqL.of e) .nil) rfl, rfl, by decide, by decide +kernel⟩
  | dct e => exact ⟨.dct e rfl .nil, rfl, by decide, by decide +kernel⟩
theorem OddV.lay {lo hi : Int} {H : Hp} {v : V} {d : PyData} (h : OddV lo hi H v d) : (PyData.str d.shown).canLay0 = true := by
  cases h with
  | non => decide +kernel
  | int i a b c e => exact e
  | bl b => cases b <;> decide +kernel
  | str x a e => exact e
  | tup i z e => rcases z with rfl | rfl <;> decide +kernel
  | lst e => decide +kernel
  | dct e => decide +kernel
/-- a wrong number is heard -/
theorem lam_num {lo hi : Int} {TL : List (Addr × Str)} {K : PySem.W.Frag} {B N O G T : Addr} {t : XK → TE} {σ : L2.St} {H : Hp} {Q : VK} {v : V} {d : PyData} (hv : OddV lo hi H v d) (hT : Tabs TL H)
    (ht : ∀ (H1 : Hp) (E' : XK) (Q' : VK), ExtN H H1 → OddV lo hi H1 v d → (∀ Hx, Same H1 Hx → Told N "value" Hx v E') → t E' σ H1 Q')
    (k : ∀ (r : Addr) (H1 G : Hp), ExtN H H1 → Tabs TL H1 → Same H1 G → G r = some (.tup [.str "number", .str d.shown]) → Q (.ref r) G) : tLam TL (THeard K B N O G T) t σ H Q := by
  refine ⟨hT, fun H1 e1 T1 => ht H1 _ _ e1 (hv.ext e1) fun Hx sx => ?_⟩
  intro a v' H' s' nd hd al
  have h' := ((hv.ext e1).ext (Same.extN sx)).alike s' al
  obtain ⟨v1, v2, v3, v4⟩ := h'.vd (K := K)
  exact ⟨a, _, "number", .str d.shown, rfl, hd, .inr (.inl ⟨rfl, rfl, v', d.shown, rfl, rfl, d, v1, v2, v3, v4, rfl⟩), fun r G sG nr hr => k r H1 G e1 T1 (sx.trans (s'.trans sG)) hr⟩
theorem noSeq_kit {T : String} (h1 : kitB T "list" = some false) (h2 : kitB T "tuple" = some false) {K : PySem.W.Frag} : PySem.W.kitAny K (.type T) [.type "list", .type "tuple"] = some false := kit2 h1 h2
/-- neither a list nor a tuple -/
def NoSeq (K : PySem.W.Frag) (H : Hp) (v : V) : Prop := ∃ t : Value, (∀ H', ExtN H H' → TyX K H' v t) ∧ PySem.W.kitAny K t [.type "list", .type "tuple"] = some false
theorem NoSeq.ext {K : PySem.W.Frag} {H H' : Hp} {v : V} (h : NoSeq K H v) (k : ExtN H H') : NoSeq K H' v := by
  obtain ⟨t, a, b⟩ := h
  exact ⟨t, fun G q => a G (k.trans q), b⟩
def kit_clsC {K : PySem.W.Frag} {t : Value} {C : Addr} {b : Bool} (h1 : PySem.W.isClsIn K C = true) (h2 : PySem.W.typeIn K (.ref C) = some (.type "type")) (h3 : PySem.W.subIn K t (.ref C) = some b) : PySem.W.kitCls K t (.ref C) = some b := by
  have h1 : (PySem.W.clsIn K C).isSome = true := h1
  unfold PySem.W.kitCls
  simp only [h1, h2, h3]
  cases b <;> decide
theorem kit_no_ty {K : PySem.W.Frag} {C : Addr} {T : String} {l : List String} (I : InsT K C) (h : fastBuiltinMro T = some (l.map Value.type)) : PySem.W.kitOne K (.type T) (.ref C) = some false := by
  unfold PySem.W.kitOne
  split
  · rename_i z
    simp at z
  · exact kit_clsC I.ic I.tt (sub_no h)
/-- what is no fill rule -/
inductive OddR (K : PySem.W.Frag) (p : Addr) (H : Hp) : V → Prop
  | any {v : V} {T : String} {l : List String} : (∀ H', TyX K H' v (.type T)) → fastBuiltinMro T = some (l.map Value.type) → OddR K p H v
  | tup {a : Addr} {xs : List V} : a ≠ p → H a = some (.tup xs) → OddR K p H (.ref a)
  | lst {a : Addr} {xs : List V} : a ≠ p → H a = some (.lst xs) → OddR K p H (.ref a)
theorem OddR.ext {K : PySem.W.Frag} {p : Addr} {H H' : Hp} {v : V} (h : OddR K p H v) (k : ExtP p H H') : OddR K p H' v := by
  cases h with
  | any e n => exact .any e n
  | tup n e => exact .tup n (k _ _ n e (fun _ z => by cases z))
  | lst n e => exact .lst n (k _ _ n e (fun _ z => by cases z))
theorem OddR.ty {K : PySem.W.Frag} {C p : Addr} {H : Hp} {v : V} (I : InsT K C) (h : OddR K p H v) : ∃ t, TyX K H v t ∧ PySem.W.kitOne K t (.ref C) = some false := by
  cases h with
  | any e n => exact ⟨_, e H, kit_no_ty I n⟩
  | tup n e => exact ⟨_, .base (.tup e), kit_no_ty (l := ["tuple", "object"]) I (by decide +kernel)⟩
  | lst n e => exact ⟨_, .base (.lst e), kit_no_ty (l := ["list", "object"]) I (by decide +kernel)⟩
/-- the list of what was heard -/
def dZ : V → PyData
  | .str x => .str x
  | .int i => .int i
  | _ => .none
def okZ : V → Prop
  | .str _ => True
  | .int _ => True
  | _ => False
theorem okZ.dp {K : PySem.W.Frag} {G : Hp} {z : V} (h : okZ z) : Dp K G z (dZ z) := by
  cases z <;> first | exact .str _ | exact .int _ | exact h.elim
def HdL (G : Hp) : List V → List PyData → Prop
  | [], [] => True
  | v :: vs, d :: ds => (∃ (r : Addr) (w : Str) (z : V), v = .ref r ∧ G r = some (.tup [.str w, z]) ∧ okZ z ∧ d = .tuple [.str w, dZ z]) ∧ HdL G vs ds
  | _, _ => False
theorem HdL.to {G G' : Hp} (k : ∀ r ys, G r = some (.tup ys) → G' r = some (.tup ys)) : ∀ {vs : List V} {ds : List PyData}, HdL G vs ds → HdL G' vs ds
  | [], [], _ => trivial
  | _ :: _, _ :: _, ⟨⟨r, w, x, e1, e2, e3⟩, t⟩ => ⟨⟨r, w, x, e1, k _ _ e2, e3⟩, HdL.to k t⟩
theorem HdL.dp {K : PySem.W.Frag} {G : Hp} : ∀ {vs : List V} {ds : List PyData}, HdL G vs ds → DpAll K G vs ds
  | [], [], _ => .nil
  | _ :: _, _ :: _, ⟨⟨r, w, x, e1, e2, e4, e3⟩, t⟩ => by
    subst e1 e3
    exact .cons (.tup (SqT.of e2) (.cons (.str _) (.cons e4.dp .nil))) (HdL.dp t)
theorem HdL.snoc {G : Hp} {r : Addr} {w : Str} {z : V} (h : G r = some (.tup [.str w, z])) (ok : okZ z) : ∀ {vs : List V} {ds : List PyData}, HdL G vs ds → HdL G (vs ++ [.ref r]) (ds ++ [.tuple [.str w, dZ z]])
  | [], [], _ => ⟨⟨r, w, z, rfl, h, ok, rfl⟩, trivial⟩
  | _ :: _, _ :: _, ⟨a, t⟩ => ⟨a, HdL.snoc h ok t⟩
structure Iv (p m L : Addr) (b : Int) (TL : List (Addr × Str)) (G0 G : Hp) (rs : List V) (ds : List PyData) : Prop where
  x : ExtP p G0 G
  nm : ∀ b o, b ≠ p → G0 b = some o → (∀ ps : Array Value, o ≠ HO.tbl ps) → b ≠ m
  dp : m ≠ p
  dL : m ≠ L
  pn : Pen L G p b
  T : Tabs TL G
  hm : G m = some (.lst rs)
  hl : HdL G rs ds
theorem Iv.next {p m L r : Addr} {b : Int} {TL : List (Addr × Str)} {G0 G H1 G' : Hp} {rs : List V} {ds : List PyData} {w : Str} {z : V} (I : Iv p m L b TL G0 G rs ds) (e1 : ExtN G H1) (T1 : Tabs TL H1) (s1 : Same H1 G') (hr : G' r = some (.tup [.str w, z])) (ok : okZ z) :
    G' m = some (.lst rs) ∧ Iv p m L b TL G0 (upd G' m (.lst (rs ++ [.ref r]))) (rs ++ [.ref r]) (ds ++ [.tuple [.str w, dZ z]]) := by
  have hm' := s1 _ _ (e1 _ _ I.hm (fun _ z => by cases z))
  refine ⟨hm', fun b u nb e t => ?_, I.nm, I.dp, I.dL, Pen.put ((I.pn.ext e1).keep s1) I.dp I.dL, Ev.Tabs.but (T1.ext s1) hm' But.upd_at, upd_same, HdL.snoc ?_ ok (I.hl.to fun a ys e => ?_)⟩
  · rw [upd_ne (I.nm b u nb e t)]
    exact s1 _ _ (e1 _ _ (I.x b u nb e t) t)
  · rw [upd_ne (ne_of hr hm' (by intro z; cases z))]
    exact hr
  · rw [upd_ne (ne_of e I.hm (by intro z; cases z))]
    exact s1 _ _ (e1 _ _ e (fun _ z => by cases z))
theorem Iv.first {p m L r : Addr} {b : Int} {TL : List (Addr × Str)} {G0 H1 G' : Hp} {w : Str} {z : V} (pn : Pen L G0 p b) (e1 : ExtN G0 H1) (T1 : Tabs TL H1) (s1 : Same H1 G') (hr : G' r = some (.tup [.str w, z])) (ok : okZ z) (nm : G' m = none) :
    Iv p m L b TL G0 (upd G' m (.lst [.ref r])) [.ref r] [.tuple [.str w, dZ z]] := by
  have x1 : ExtP p G0 G' := (ExtN.p e1).trans (Ev.Same.p s1)
  have pn1 := (pn.ext e1).keep s1
  have sm : Same G' (upd G' m (.lst [.ref r])) := same_new nm
  exact ⟨x1.trans (Ev.Same.p sm), fun b o nb e t => ne_of_none (x1 b o nb e t) nm, pn1.ne nm, pn1.neL nm, pn1.keep sm, (T1.ext s1).ext sm, upd_same, ⟨⟨r, w, z, rfl, sm _ _ hr, ok, rfl⟩, trivial⟩⟩
/-- one more is heard -/
theorem app_step {K : PySem.W.Frag} {B N O Gg T p m L : Addr} {b : Int} {TL : List (Addr × Str)} {G0 G : Hp} {rs : List V} {ds : List PyData} {w : Str} {z : V} {t : XK → TE} {σ : L2.St} {i : Nat} {D : Ends} (I : Iv p m L b TL G0 G rs ds) (hlen : rs.length < 1000) (hσ : σ[i]? = some (some (.ref m))) (ok : okZ z)
    (hl : ∀ Q : VK, (∀ (r : Addr) (H1 G' : Hp), ExtN G H1 → Tabs TL H1 → Same H1 G' → G' r = some (.tup [.str w, z]) → Q (.ref r) G') → tLam TL (THeard K B N O Gg T) t σ G Q)
    (k : ∀ (r : Addr) (G2 : Hp), Iv p m L b TL G0 G2 (rs ++ [.ref r]) (ds ++ [.tuple [.str w, dZ z]]) → D.nx σ G2) :
    tDrop (tBM K "list" rAppend (tVar i) (tCons (tLam TL (THeard K B N O Gg T) t) tNil)) D σ G := by
  refine ⟨_, hσ, .inl ⟨rfl, _, SqL.of I.hm⟩, hl _ fun r H1 G' e1 T1 s1 hr => ?_⟩
  obtain ⟨hm', I2⟩ := I.next e1 T1 s1 hr ok
  exact ⟨m, _, _, rfl, rfl, hm', Nat.lt_of_lt_of_le hlen (by decide), k r _ I2⟩
end Ev
namespace Ev
open PySem L2 PySem.Spec PyProof.Rows RZ
def spNeedF (K : PySem.W.Frag) (C B N : Addr) : Sp := fun vs H Q E => ∃ rv : V, vs = [rv] ∧ ((∃ t : Value, TyX K H rv t ∧ PySem.W.kitOne K t (.ref C) = some false ∧ ∀ g : Prop, OutK B N H E g (.rule "rule")) ∨ (∃ (x : Addr) (r : Fr), rv = .ref x ∧ FAt C H x r ∧ Q .non H))
def spNeedP (C N : Addr) : Sp := fun vs H Q E => ∃ (x : Addr) (r : Fr) (mv : V), vs = [.ref x, mv] ∧ FAt C H x r ∧ r.ok ∧ IntQ H mv ∧ ((inB 2 (10 ^ 12) mv = false ∧ (∃ us b, Hold H mv us b) ∧ Told N "value" H mv E) ∨
    (∃ m : Int, mv = .int m ∧ 2 ≤ m ∧ m ≤ 10 ^ 12 ∧ ((¬ (1 ≤ r.least m ∧ r.least m ≤ m) ∧ Told N "value" H (.int m) E) ∨ (1 ≤ r.least m ∧ r.least m ≤ m ∧ Q .non H))))
section
variable {P : Program} {w : World} {K : PySem.W.Frag} {mg : Str → Option Value} {base : Heap}
theorem scNeedFx : FnScope ["value"] ["value"] (defScope sNeedFillRule) := ⟨rfl, rfl, rfl, by decide +kernel, rfl, by decide +kernel, by decide +kernel⟩
theorem ok_needF {f C B N : Addr} {fd : FuncData} (F : Fun K "need_fill_rule" "need_fill_rule" sNeedFillRule f fd) (T : Blt mg) (R : FTwo K C) (gC : mg "FillRule" = some (.ref C)) (EB : ErrC P w K mg base "BadRule" "part" B) : FnOk P w K mg base (L2.CX P w) 5 f fd ["value"] (spNeedF K C B N) := by
  obtain ⟨TC, gB, fi, fdi, iC, tI, GI, bI⟩ := id EB
  refine F.okX scNeedFx (fun vs H Q E h => ?_) (fun cdv A outer s H vs Q E hr h => ?_)
  · obtain ⟨rv, rfl, _⟩ := h
    rfl
  · obtain ⟨rv, rfl, h⟩ := h
    refine ⟨_, (pss_one (ps_if (pt_not (pt_val (pe_callB call_isi (by rfl) T.isi (by decide +kernel) (pa_cons (pv 0) (pa_cons (pe_glob (v := .ref C) rfl gC rfl) pa_nil)))))
      (pss_one (ps_raise rfl (takes_of rfl rfl rfl rfl) (pmk_oex TC iC tI GI (hr.mono (by decide)) bI .nil pass0 (by rfl) gB (pa_cons pe_str pa_nil)))) pss_nil)), ?_⟩
    rcases h with ⟨t, ty, kt, ho⟩ | ⟨x, r, rfl, ⟨dx, a, hx, ha⟩, k⟩
    · refine ⟨_, rfl, _, _, _, _, false, rfl, .own C, ty, kt, _, rfl, ?_⟩
      exact iteT ⟨(by show 1 ≤ 1000; decide), fun a' na => raised (flat_str "rule") (ho True H (Same.refl H)) a' na⟩
    · exact ⟨_, rfl, _, _, _, _, true, rfl, .own C, tyF R hx, kit_self, _, rfl, iteF k⟩
theorem scNeedPx : FnScope ["rule", "most"] ["rule", "most"] (defScope sNeedPageSize) := ⟨rfl, rfl, rfl, by decide +kernel, rfl, by decide +kernel, by decide +kernel⟩
theorem ok_needP {f C N : Addr} {fd : FuncData} (F : Fun K "need_page_size" "need_page_size" sNeedPageSize f fd) (D1 : DfX P w K mg base 6 "need_size" ["value"] (spNeedSize N)) (D2 : Df P w K mg base 1 "least_of" ["rule", "most"] (spLeastOf C)) (B : ErrV P w K mg base "BadNumber" "value" N) : FnOk P w K mg base (L2.CX P w) 7 f fd ["rule", "most"] (spNeedP C N) := by
  obtain ⟨f1, fd1, G1, g1, k1, b1⟩ := D1.ex
  obtain ⟨f2, fd2, G2, g2, k2, b2⟩ := D2.ex
  obtain ⟨TC, gC, fi, fdi, iC, tI, GI, bI⟩ := id B
  refine F.okX scNeedPx (fun vs H Q E h => ?_) (fun cdv A outer s H vs Q E hr h => ?_)
  · obtain ⟨x, r, mv, rfl, _⟩ := h
    rfl
  · obtain ⟨x, r, mv, rfl, fa, o, hq, h⟩ := h
    refine ⟨_, (pss_cons (ps_expr (pe_callS G1 hr (by rfl) g1 k1 b1 (fun σ => passAt (takes_of rfl rfl rfl rfl) σ) (pa_cons (pv 1) pa_nil)))
      (pss_one (ps_if (pt_not (pt_chain op_le op_le pe_int (pe_call G2 (hr.mono (by decide)) (by rfl) g2 k2 b2 .nil pass0 (pa_cons (pv 0) (pa_cons (pv 1) pa_nil))) (pv 1)))
        (pss_one (ps_raise rfl (takes_of rfl rfl rfl rfl) (pmk_oex TC iC tI GI (hr.mono (by decide)) bI .nil pass0 (by rfl) gC (pa_cons (pv 1) pa_nil)))) pss_nil))), ?_⟩
    rcases h with ⟨z, hv, k⟩ | ⟨m, rfl, m1, m2, h⟩
    · exact ⟨_, rfl, _, rfl, hq, .inr ⟨z, hv, k⟩⟩
    · refine ⟨_, rfl, _, rfl, hq, .inl ⟨inB_in m1 m2, _, rfl, _, rfl, x, r, m, rfl, fa, o, _, _, rfl, rfl, _, rfl, ?_⟩⟩
      have out : ∀ k : Told N "value" H (.int m) E, tMkO N (spExInit N "value") [] (tCons (tVar 1) tNil) [some (.ref x), some (.int m)] H E := fun k => ⟨_, rfl, (by show 1 ≤ 1000; decide), fun a' na => raisedV ⟨_, _, .flat (flat_int m)⟩ k a' na⟩
      by_cases q1 : 1 ≤ r.least m
      · rw [decide_eq_true q1]
        refine iteT ⟨_, rfl, _, _, rfl, rfl, _, rfl, ?_⟩
        by_cases q2 : r.least m ≤ m
        · rw [decide_eq_true q2]
          rcases h with ⟨n, _⟩ | ⟨_, _, k⟩
          · exact absurd ⟨q1, q2⟩ n
          · exact iteF k
        · rw [decide_eq_false q2]
          rcases h with ⟨_, k⟩ | ⟨_, z, _⟩
          · exact iteT (out k)
          · exact absurd z q2
      · rw [decide_eq_false q1]
        rcases h with ⟨_, k⟩ | ⟨z, _⟩
        · exact iteF ⟨_, rfl, iteT (out k)⟩
        · exact absurd z q1
end
end Ev
namespace Ev
open PySem L2 PySem.Spec PyProof.Rows RZ LamX
/-! Rows that are refused. -/
def spRowX (K : PySem.W.Frag) (R C B N O T : Addr) : Sp := fun vs H Q E => ∃ (y dx : Addr) (rv mv fv : V), vs = [.ref y, rv, mv, fv] ∧ H y = some (.ins R dx []) ∧
  ((∃ t : Value, TyX K H rv t ∧ PySem.W.kitOne K t (.ref C) = some false ∧ ∀ (g : Prop) Hx, Same H Hx → OutK B N Hx E g (.rule "rule")) ∨
   (∃ (x : Addr) (r : Fr), rv = .ref x ∧ FAt C H x r ∧ r.ok ∧
    ((IntQ H mv ∧ inB 2 (10 ^ 12) mv = false ∧ (∃ us b, Hold H mv us b) ∧ ∀ Hx, Same H Hx → Told N "value" Hx mv E) ∨
     (∃ m : Int, mv = .int m ∧ 2 ≤ m ∧ m ≤ 10 ^ 12 ∧ 1 ≤ r.least m ∧ r.least m ≤ m ∧
      ((NoSeq K H fv ∧ ∀ Hx, Same H Hx → TellE O "part" (.str "fills") Hx E) ∨
       (∃ (l : Addr) (us : List V), fv = .ref l ∧ H l = some (.lst us) ∧ 2000 < us.length ∧ ∀ Hx, Same H Hx → TellT T "pages" 2000 Hx E))))))
def spRowP (R C G : Addr) : Sp := fun vs H Q E => ∃ (y dx x l : Addr) (r : Fr) (m : Int) (us : List V) (i : Nat), vs = [.ref y, .ref x, .int m, .ref l] ∧ H y = some (.ins R dx []) ∧ FAt C H x r ∧ r.ok ∧ 2 ≤ m ∧ m ≤ 10 ^ 12 ∧ 1 ≤ r.least m ∧ r.least m ≤ m ∧
  H l = some (.tup us) ∧ us.length ≤ 2000 ∧ i < us.length ∧ (∀ (j : Nat) (u : V), j ≤ i → us[j]? = some u → IntQ H u) ∧ (∀ (j : Nat) (u : V), j < i → us[j]? = some u → inB 1 (10 ^ 15) u = true) ∧ (∀ u : V, us[i]? = some u → inB 1 (10 ^ 15) u = false) ∧ ∀ Hx, Same H Hx → TellE G "at" (.int i) Hx E
section
variable {P : Program} {w : World} {K : PySem.W.Frag} {mg : Str → Option Value} {base : Heap}
theorem ok_rowX {f R C B N O TM : Addr} {fd : FuncData} {dvs : List V} {kws : List (Str × V)} (F : FunD K "__init__" "Row.__init__" (defArgs sRow_init) (defBody sRow_init) (defScope sRow_init) dvs kws f fd) (T : Blt mg) (EO : ErrC P w K mg base "BadOther" "part" O) (ET : ErrT P w K mg base TM)
    (D1 : DfX P w K mg base 5 "need_fill_rule" ["value"] (spNeedF K C B N)) (D2 : DfX P w K mg base 7 "need_page_size" ["rule", "most"] (spNeedP C N)) {t1 : Tok} (gP : mg "MOST_PAGES" = some (.int 2000 t1)) : FnOk P w K mg base (L2.CX P w) 8 f fd ["self", "rule", "most", "fills"] (spRowX K R C B N O TM) := by
  obtain ⟨f1, fd1, G1, g1, k1, b1⟩ := D1.ex
  obtain ⟨f2, fd2, G2, g2, k2, b2⟩ := D2.ex
  obtain ⟨TO, gO, fo, fdo, iO, tO, GO, bO⟩ := id EO
  obtain ⟨TC, gB, fi, fdi, iC, tI, GI, bI⟩ := id ET
  refine F.ok scRowI (fun vs H Q E h => ?_) (fun cdv A outer s H vs Q E hr h => ?_)
  · obtain ⟨y, dx, rv, mv, fv, rfl, _⟩ := h
    rfl
  · obtain ⟨y, dx, rv, mv, fv, rfl, hy, h⟩ := h
    refine ⟨_, (pss_cons (ps_expr (pe_callS G1 (hr.mono (by decide)) (by rfl) g1 k1 b1 (fun σ => passAt (takes_of rfl rfl rfl rfl) σ) (pa_cons (pv 1) pa_nil)))
    (pss_cons (ps_expr (pe_callS G2 hr (by rfl) g2 k2 b2 (fun σ => passAt (takes_of rfl rfl rfl rfl) σ) (pa_cons (pv 1) (pa_cons (pv 2) pa_nil))))
    (pss_cons (ps_if (pt_not (pt_val (pe_callB call_isiT (by rfl) T.isi (by decide +kernel) (pa_cons (pv 3) (pa_cons (pe_tup (pa_cons (pe_bltn (v := .ty "list") (by rfl) T.list (by decide +kernel) rfl) (pa_cons (pe_bltn (v := .ty "tuple") (by rfl) T.tuple (by decide +kernel) rfl) pa_nil))) pa_nil)))))
      (pss_one (ps_raise rfl (takes_of rfl rfl rfl rfl) (pmk_oex TO iO tO GO (hr.mono (by decide)) bO .nil pass0 (by rfl) gO (pa_cons pe_str pa_nil)))) pss_nil)
    (pss_cons (ps_if (pt_cmpR op_gt (pe_callB call_len_seq (by rfl) T.len PySem.boot_len (pa_cons (pv 3) pa_nil)) (pe_glob (v := .int 2000) rfl gP ⟨_, rfl⟩) (nomark _))
      (pss_one (ps_raise rfl (takes_of rfl rfl rfl rfl) (pmk_oex TC iC tI GI (hr.mono (by decide)) bI .nil pass0 (by rfl) gB (pa_cons pe_str (pa_cons (pe_glob (v := .int 2000) rfl gP ⟨_, rfl⟩) pa_nil))))) pss_nil)
    (pss_cons ps_never (pss_cons ps_never (pss_cons ps_never (pss_one ps_never)))))))), ?_⟩
    rcases h with ⟨t, ty, kt, ho⟩ | ⟨x, r, rfl, fa, o, h⟩
    · exact ⟨_, rfl, rv, rfl, .inl ⟨t, ty, kt, fun g => ho g H (Same.refl H)⟩⟩
    · rcases h with ⟨iq, nb, hv, ho⟩ | ⟨m, rfl, m1, m2, q1, q2, h⟩
      · exact ⟨_, rfl, _, rfl, .inr ⟨x, r, rfl, fa, _, rfl, _, rfl, x, r, mv, rfl, fa, o, iq, .inl ⟨nb, hv, ho H (Same.refl H)⟩⟩⟩
      · refine ⟨_, rfl, _, rfl, .inr ⟨x, r, rfl, fa, _, rfl, _, rfl, x, r, _, rfl, fa, o, .inl ⟨m, rfl⟩, .inr ⟨m, rfl, m1, m2, .inr ⟨q1, q2, ?_⟩⟩⟩⟩
        rcases h with ⟨⟨t, ty, kt⟩, ho⟩ | ⟨l, us, rfl, hl, big, ho⟩
        · refine ⟨_, rfl, (by show 2 ≤ sizeLine; decide), fun tp ntp => ⟨_, tp, _, _, _, false, rfl, upd_same, .cons (.ty _) (.cons (.ty _) .nil), ty _ (Ev.Same.extN (same_new ntp)), kt, _, rfl, iteT ?_⟩⟩
          exact ⟨(by show 1 ≤ 1000; decide), fun a' na => raised (flat_str "fills") (ho _ (same_new ntp)) a' na⟩
        · refine ⟨_, rfl, (by show 2 ≤ sizeLine; decide), fun tp ntp => ⟨_, tp, _, _, _, true, rfl, upd_same, .cons (.ty _) (.cons (.ty _) .nil), .base (.lst (same_new ntp _ _ hl)), kit_any2 (r1 := true) (r2 := false) (by decide +kernel) (by decide +kernel), _, rfl, iteF ?_⟩⟩
          have s1 : Same H (upd H tp (.tup [.ty "list", .ty "tuple"])) := same_new ntp
          generalize upd H tp (.tup [.ty "list", .ty "tuple"]) = H1 at s1 ⊢
          refine ⟨_, rfl, l, _, rfl, .inl (SqL.of (s1 _ _ hl)), _, _, rfl, rfl, _, rfl, ?_⟩
          rw [show decide ((us.length : Int) > 2000) = true from decide_eq_true (by omega)]
          exact iteT ⟨(by show 2 ≤ 1000; decide), fun a' na => raisedT (ho H1 s1) a' na⟩
theorem ok_rowP {f R C G : Addr} {fd : FuncData} {dvs : List V} {kws : List (Str × V)} (F : FunD K "__init__" "Row.__init__" (defArgs sRow_init) (defBody sRow_init) (defScope sRow_init) dvs kws f fd) (T : Blt mg) (me : mg "enumerate" = none) (EG : ErrC P w K mg base "BadPages" "at" G)
    (D1 : Df P w K mg base 1 "need_fill_rule" ["value"] (spNeedFO C)) (D2 : Df P w K mg base 4 "need_page_size" ["rule", "most"] (spNeedPO C)) (D3 : Df P w K mg base 2 "is_within" ["value", "least", "most"] spWithinA)
    {t1 t2 : Tok} (gP : mg "MOST_PAGES" = some (.int 2000 t1)) (gF : mg "MOST_FILL" = some (.int (10 ^ 15) t2)) : FnOk P w K mg base (L2.CX P w) 5 f fd ["self", "rule", "most", "fills"] (spRowP R C G) := by
  obtain ⟨f1, fd1, G1, g1, k1, b1⟩ := D1.ex
  obtain ⟨f2, fd2, G2, g2, k2, b2⟩ := D2.ex
  obtain ⟨f3, fd3, G3, g3, k3, b3⟩ := D3.ex
  obtain ⟨TO, gO, fo, fdo, iO, tO, GO, bO⟩ := id EG
  refine F.ok scRowI (fun vs H Q E h => ?_) (fun cdv A outer s H vs Q E hr h => ?_)
  · obtain ⟨y, dx, x, l, r, m, us, i, rfl, _⟩ := h
    rfl
  · obtain ⟨y, dx, x, l, r, m, us, i, rfl, hy, fa, o, m1, m2, q1, q2, hl, z1, hi, hq, hgood, hbad, ho⟩ := h
    refine ⟨_, (pss_cons (ps_expr (pe_call G1 (hr.mono (by decide)) (by rfl) g1 k1 b1 .nil pass0 (pa_cons (pv 1) pa_nil)))
    (pss_cons (ps_expr (pe_call G2 hr (by rfl) g2 k2 b2 .nil pass0 (pa_cons (pv 1) (pa_cons (pv 2) pa_nil))))
    (pss_cons (ps_if (pt_not (pt_val (pe_callB call_isiT (by rfl) T.isi (by decide +kernel) (pa_cons (pv 3) (pa_cons (pe_tup (pa_cons (pe_bltn (v := .ty "list") (by rfl) T.list (by decide +kernel) rfl) (pa_cons (pe_bltn (v := .ty "tuple") (by rfl) T.tuple (by decide +kernel) rfl) pa_nil))) pa_nil)))))
      (pss_one ps_never) pss_nil)
    (pss_cons (ps_if (pt_cmpR op_gt (pe_callB call_len_seq (by rfl) T.len PySem.boot_len (pa_cons (pv 3) pa_nil)) (pe_glob (v := .int 2000) rfl gP ⟨_, rfl⟩) (nomark _))
      (pss_one ps_never) pss_nil)
    (pss_cons (ps_for (passes_of rfl) rfl (pi_enumT0 (by rfl) me (pa_cons (pv 3) pa_nil)) (pg_tup rfl (pgs_cons (pg_name (i := 4) scRowI.nd rfl (.inl rfl)) (pgs_cons (pg_name (i := 5) scRowI.nd rfl (.inl rfl)) pgs_nil)))
      (pss_one (ps_if (pt_not (pt_val (pe_call G3 (hr.mono (by decide)) (by rfl) g3 k3 b3 .nil pass0 (pa_cons (pv 5) (pa_cons pe_int (pa_cons (pe_glob (v := .int (10 ^ 15)) rfl gF ⟨_, rfl⟩) pa_nil))))))
        (pss_one (ps_raise rfl (takes_of rfl rfl rfl rfl) (pmk_oex TO iO tO GO (hr.mono (by decide)) bO .nil pass0 (by rfl) gO (pa_cons (pv 4) pa_nil)))) pss_nil)))
    (pss_cons ps_never (pss_cons ps_never (pss_one ps_never)))))))), ?_⟩
    refine ⟨_, rfl, x, r, rfl, fa, _, rfl, _, rfl, x, r, m, rfl, fa, o, m1, m2, q1, q2, ?_⟩
    refine ⟨_, rfl, (by show 2 ≤ sizeLine; decide), fun tp ntp => ⟨_, tp, _, _, _, true, rfl, upd_same, .cons (.ty _) (.cons (.ty _) .nil), .base (.tup (same_new ntp _ _ hl)), kit_any2 (r1 := false) (r2 := true) (by decide +kernel) (by decide +kernel), _, rfl, iteF ?_⟩⟩
    have s1 : Same H (upd H tp (.tup [.ty "list", .ty "tuple"])) := same_new ntp
    generalize upd H tp (.tup [.ty "list", .ty "tuple"]) = H1 at s1 ⊢
    refine ⟨_, rfl, l, _, rfl, .inr (SqT.of (s1 _ _ hl)), _, _, rfl, rfl, _, rfl, ?_⟩
    rw [show decide ((us.length : Int) > 2000) = false from decide_eq_false (by omega)]
    refine iteF ⟨_, rfl, l, _, rfl, SqT.of (s1 _ _ hl), ?_⟩
    refine for_it (walk_enumT2 (K := K) (a := l) (xs := us)) (fun j σ G => Same H G ∧ j ≤ i ∧ ∃ v4 v5, σ = [some (.ref y), some (.ref x), some (.int m), some (.ref l), v4, v5]) ⟨s1, Nat.zero_le _, _, _, rfl⟩ (fun j σ G _ h => SqT.of (h.1 _ _ hl)) (fun j v σ G2 G3 hj h y' => ?_) (fun σ G h => ?_)
    · obtain ⟨s2, ji, v4, v5, rfl⟩ := h
      obtain ⟨Tp, vx, vy, rfl, nT, rfl, ex, ey⟩ := y'
      obtain rfl : V.int (0 + (j : Int)) = vx := Option.some.inj ex
      have s3 : Same H (upd G2 Tp (.tup [.int (0 + (j : Int)), vy])) := s2.trans (same_new nT)
      refine ⟨Tp, _, rfl, SqT.of upd_same, rfl, _, _, rfl, _, _, rfl, rfl, _, rfl, _, _, _, rfl, (hq j vy ji ey).keep s3, _, rfl, ?_⟩
      by_cases e : j = i
      · subst e
        rw [hbad vy ey]
        refine iteT ⟨_, rfl, (by show 1 ≤ 1000; decide), fun a' na => ?_⟩
        rw [show ((0 : Int) + (j : Int)) = (j : Int) by omega] at s3 na ⊢
        exact raised (flat_int _) (ho _ s3) a' na
      · rw [hgood j vy (by omega) ey]
        exact iteF ⟨s3, by omega, _, _, rfl⟩
    · obtain ⟨s2, ji, _⟩ := h
      omega
end
end Ev
namespace Ev
open PySem L2 PySem.Spec PyProof.Rows RZ LamX
def spNeedUX (N : Addr) : Sp := fun vs H Q E => ∃ (v : V) (hi : Int), vs = [v, .int hi] ∧ IntQ H v ∧ inB 0 hi v = false ∧ (∃ us b, Hold H v us b) ∧ ∀ Hx, Same H Hx → Told N "value" Hx v E
def spOff (R C N : Addr) (less : Int) : Sp := fun vs H Q E => ∃ (y : Addr) (r : Fr) (m : Int) (xs : List Int) (v : V), vs = [.ref y, v] ∧ RAt R C H y r m xs ∧ IntQ H v ∧ inB 0 (xs.sum - less) v = false ∧ (∃ us b, Hold H v us b) ∧ ∀ Hx, Same H Hx → Told N "value" Hx v E
def spPageOf (R C : Addr) : Sp := fun vs H Q _ => ∃ (y : Addr) (r : Fr) (m a : Int) (xs : List Int), vs = [.ref y, .int a] ∧ RAt R C H y r m xs ∧ 0 ≤ a ∧ a < xs.sum ∧ (∀ x ∈ xs, 0 ≤ x) ∧ Q (.int (pageAt xs a)) H
section
variable {P : Program} {w : World} {K : PySem.W.Frag} {mg : Str → Option Value} {base : Heap}
abbrev nPu : List Str := ["self", "ahead", "fills", "deed"]
abbrev nTk : List Str := ["self", "index", "fills", "deed"]
theorem scRPut : FnScope nPu ["self", "ahead"] (defScope sRow_put) := ⟨rfl, rfl, rfl, by decide +kernel, rfl, by decide +kernel, by decide +kernel⟩
theorem scRTake : FnScope nTk ["self", "index"] (defScope sRow_take) := ⟨rfl, rfl, rfl, by decide +kernel, rfl, by decide +kernel, by decide +kernel⟩
theorem ok_needUX {f N : Addr} {fd : FuncData} (F : Fun K "need_up_to" "need_up_to" sNeedUpTo f fd) (D : Df P w K mg base 2 "is_within" ["value", "least", "most"] spWithinA) (B : ErrV P w K mg base "BadNumber" "value" N) : FnOk P w K mg base (L2.CX P w) 6 f fd ["value", "most"] (spNeedUX N) := by
  obtain ⟨fW, fdW, GW, gW, kW, bW⟩ := D.ex
  obtain ⟨TC, gC, fi, fdi, iC, tI, GI, bI⟩ := id B
  refine F.okX scNeedU (fun vs H Q E h => ?_) (fun cdv A outer s H vs Q E hr h => ?_)
  · obtain ⟨v, hi, rfl, _⟩ := h
    rfl
  · obtain ⟨v, hi, rfl, hq, z, hv, k⟩ := h
    refine ⟨_, pss_one (ps_if (pt_not (pt_val (pe_call GW (hr.mono (by decide)) (by rfl) gW kW bW .nil pass0 (pa_cons (pv 0) (pa_cons pe_int (pa_cons (pv 1) pa_nil))))))
      (pss_one (ps_raise rfl (takes_of rfl rfl rfl rfl) (pmk_oex TC iC tI GI (hr.mono (by decide)) bI .nil pass0 (by rfl) gC (pa_cons (pv 0) pa_nil)))) pss_nil), ?_⟩
    refine ⟨_, rfl, _, rfl, _, _, _, rfl, hq, _, rfl, ?_⟩
    rw [z]
    exact iteT ⟨_, rfl, (by show 1 ≤ 1000; decide), fun a' na => raisedV hv (k H (Same.refl H)) a' na⟩
theorem scRPageOf : FnScope ["self", "index"] ["self", "index"] (defScope sRow_page_of) := ⟨rfl, rfl, rfl, by decide +kernel, rfl, by decide +kernel, by decide +kernel⟩
theorem ok_rpage {f R C : Addr} {fd : FuncData} (F : Fun K "page_of" "Row.page_of" sRow_page_of f fd) (TR : RowC K R) (PT : RowP P w K mg base R "total" 1 (spTotal R C)) (D1 : Df P w K mg base 3 "need_up_to" ["value", "most"] spNeedU) (D2 : Df P w K mg base 1 "page_at" ["fills", "index"] spPageA) : FnOk P w K mg base CX0 4 f fd ["self", "index"] (spPageOf R C) := by
  obtain ⟨f1, fd1, G1, g1, k1, b1⟩ := D1.ex
  obtain ⟨f2, fd2, G2, g2, k2, b2⟩ := D2.ex
  obtain ⟨pt, gt, fdt, PP, Gt, bt⟩ := id PT
  refine F.ok scRPageOf (fun vs H Q E h => ?_) (fun cdv A outer s H vs Q E hr h => ?_)
  · obtain ⟨y, r, m, a, xs, rfl, _⟩ := h
    rfl
  · obtain ⟨y, r, m, a, xs, rfl, ra, a0, a1, pos, kk⟩ := h
    obtain ⟨dx, x, l, hy, fa, hl⟩ := id ra
    refine ⟨_, (pss_cons (ps_expr (pe_call G1 hr (by rfl) g1 k1 b1 .nil pass0 (pa_cons (pv 1) (pa_cons (pe_op op_sub (pe_prop (pv 0) TR.cl PP Gt (hr.mono (by decide)) bt .nil pass0 rfl) pe_int) pa_nil))))
    (pss_one (ps_ret (pe_call G2 (hr.mono (by decide)) (by rfl) g2 k2 b2 .nil pass0 (pa_cons (pe_fld (pv 0) rfl) (pa_cons (pv 1) pa_nil)))))), ?_⟩
    refine ⟨_, rfl, _, rfl, y, dx, _, rfl, hy, y, r, m, xs, rfl, ra, _, _, rfl, rfl, a, _, rfl, a0, by omega, ?_⟩
    exact ⟨_, rfl, y, R, dx, _, _, rfl, hy, TR.cl, TR.n3, row_fills _ _ _, _, rfl, l, xs, a, rfl, hl, a1, pos, (fun z => by subst z; simp at a1; omega), kk⟩
theorem ok_rpageX {f R C N : Addr} {fd : FuncData} (F : Fun K "page_of" "Row.page_of" sRow_page_of f fd) (TR : RowC K R) (PT : RowP P w K mg base R "total" 1 (spTotal R C)) (D1 : DfX P w K mg base 6 "need_up_to" ["value", "most"] (spNeedUX N)) : FnOk P w K mg base (L2.CX P w) 7 f fd ["self", "index"] (spOff R C N 1) := by
  obtain ⟨f1, fd1, G1, g1, k1, b1⟩ := D1.ex
  obtain ⟨pt, gt, fdt, PP, Gt, bt⟩ := id PT
  refine F.okX scRPageOf (fun vs H Q E h => ?_) (fun cdv A outer s H vs Q E hr h => ?_)
  · obtain ⟨y, r, m, xs, v, rfl, _⟩ := h
    rfl
  · obtain ⟨y, r, m, xs, v, rfl, ra, hq, z, hv, kk⟩ := h
    obtain ⟨dx, x, l, hy, fa, hl⟩ := id ra
    refine ⟨_, (pss_cons (ps_expr (pe_callS G1 hr (by rfl) g1 k1 b1 (fun σ => passAt (takes_of rfl rfl rfl rfl) σ) (pa_cons (pv 1) (pa_cons (pe_op op_sub (pe_prop (pv 0) TR.cl PP Gt (hr.mono (by decide)) bt .nil pass0 rfl) pe_int) pa_nil))))
    (pss_one ps_never)), ?_⟩
    exact ⟨_, rfl, _, rfl, y, dx, _, rfl, hy, y, r, m, xs, rfl, ra, _, _, rfl, rfl, v, _, rfl, hq, z, hv, kk⟩
theorem ok_rtakeX {f R C N : Addr} {fd : FuncData} (F : Fun K "take" "Row.take" sRow_take f fd) (TR : RowC K R) (PT : RowP P w K mg base R "total" 1 (spTotal R C)) (D1 : DfX P w K mg base 6 "need_up_to" ["value", "most"] (spNeedUX N)) : FnOk P w K mg base (L2.CX P w) 7 f fd ["self", "index"] (spOff R C N 1) := by
  obtain ⟨f1, fd1, G1, g1, k1, b1⟩ := D1.ex
  obtain ⟨pt, gt, fdt, PP, Gt, bt⟩ := id PT
  refine F.okX scRTake (fun vs H Q E h => ?_) (fun cdv A outer s H vs Q E hr h => ?_)
  · obtain ⟨y, r, m, xs, v, rfl, _⟩ := h
    rfl
  · obtain ⟨y, r, m, xs, v, rfl, ra, hq, z, hv, kk⟩ := h
    obtain ⟨dx, x, l, hy, fa, hl⟩ := id ra
    refine ⟨_, (pss_cons (ps_expr (pe_callS G1 hr (by rfl) g1 k1 b1 (fun σ => passAt (takes_of rfl rfl rfl rfl) σ) (pa_cons (pv 1) (pa_cons (pe_op op_sub (pe_prop (pv 0) TR.cl PP Gt (hr.mono (by decide)) bt .nil pass0 rfl) pe_int) pa_nil))))
    (pss_cons ps_never (pss_one ps_never))), ?_⟩
    exact ⟨_, rfl, _, rfl, y, dx, _, rfl, hy, y, r, m, xs, rfl, ra, _, _, rfl, rfl, v, _, rfl, hq, z, hv, kk⟩
theorem ok_rputX {f R C N : Addr} {fd : FuncData} (F : Fun K "put" "Row.put" sRow_put f fd) (TR : RowC K R) (PT : RowP P w K mg base R "total" 1 (spTotal R C)) (D1 : DfX P w K mg base 6 "need_up_to" ["value", "most"] (spNeedUX N)) : FnOk P w K mg base (L2.CX P w) 7 f fd ["self", "ahead"] (spOff R C N 0) := by
  obtain ⟨f1, fd1, G1, g1, k1, b1⟩ := D1.ex
  obtain ⟨pt, gt, fdt, PP, Gt, bt⟩ := id PT
  refine F.okX scRPut (fun vs H Q E h => ?_) (fun cdv A outer s H vs Q E hr h => ?_)
  · obtain ⟨y, r, m, xs, v, rfl, _⟩ := h
    rfl
  · obtain ⟨y, r, m, xs, v, rfl, ra, hq, z, hv, kk⟩ := h
    obtain ⟨dx, x, l, hy, fa, hl⟩ := id ra
    refine ⟨_, (pss_cons (ps_expr (pe_callS G1 hr (by rfl) g1 k1 b1 (fun σ => passAt (takes_of rfl rfl rfl rfl) σ) (pa_cons (pv 1) (pa_cons (pe_prop (pv 0) TR.cl PP Gt (hr.mono (by decide)) bt .nil pass0 rfl) pa_nil))))
    (pss_cons ps_never (pss_one ps_never))), ?_⟩
    rw [Int.sub_zero] at z
    exact ⟨_, rfl, _, rfl, y, dx, _, rfl, hy, y, r, m, xs, rfl, ra, v, _, rfl, hq, z, hv, kk⟩
end
end Ev
namespace Ev
open PySem L2 PySem.Spec PyProof.Rows RZ LamX
/-! Rows beside anything. -/
/-- the own == of fill rules -/
structure FEq (P : Program) (w : World) (K : PySem.W.Frag) (mg : Str → Option Value) (base : Heap) (C : Addr) : Prop where
  two : FTwo K C
  ne : PySem.W.findIn K (.ref C) "__ne__" = some (some (.builtin "object.__ne__"))
  ex : ∃ g : Addr, PySem.W.findIn K (.ref C) "__eq__" = some (some (.ref g)) ∧ PySem.W.isFn K (.ref g) = true ∧ FnR P w K mg base CX0 1 g (spEqF K C)
structure RTwo (K : PySem.W.Frag) (R : Addr) : Prop where
  cl : RowC K R
  it : InsT K R
theorem tyR {K : PySem.W.Frag} {R : Addr} {H : Hp} {x dx : Addr} {fs : List (Str × V)} (T : RTwo K R) (h : H x = some (.ins R dx fs)) : TyX K H (.ref x) (.ref R) := .base (.ins h T.cl.cl T.it.ha T.it.hn T.it.htk T.it.hm)
def sameR (r r' : Fr) (m m' : Int) (xs xs' : List Int) : Bool := frB r r' && (decide (m = m') && decide (xs = xs'))
def spRowE (K : PySem.W.Frag) (R C : Addr) : Sp := fun vs H Q _ => ∃ (x : Addr) (v : V) (r : Fr) (m : Int) (xs : List Int), vs = [.ref x, v] ∧ RAt R C H x r m xs ∧
  ((∃ (y : Addr) (r' : Fr) (m' : Int) (xs' : List Int), v = .ref y ∧ RAt R C H y r' m' xs' ∧ Q (.bl (sameR r r' m m' xs xs')) H) ∨ (∃ t : Value, TyX K H v t ∧ PySem.W.kitOne K t (.ref R) = some false ∧ Q (.bl false) H))
section
variable {P : Program} {w : World} {K : PySem.W.Frag} {mg : Str → Option Value} {base : Heap}
theorem scRowE : FnScope ["self", "other"] ["self", "other"] (defScope sRow_eq) := ⟨rfl, rfl, rfl, by decide +kernel, rfl, by decide +kernel, by decide +kernel⟩
theorem ok_rowE {f R C : Addr} {fd : FuncData} (F : Fun K "__eq__" "Row.__eq__" sRow_eq f fd) (T : Blt mg) (RT : RTwo K R) (gR : mg "Row" = some (.ref R)) (FQ : FEq P w K mg base C) : FnOk P w K mg base CX0 2 f fd ["self", "other"] (spRowE K R C) := by
  obtain ⟨g, he, hf, G⟩ := FQ.ex
  have TR := RT.cl
  refine F.ok scRowE (fun vs H Q E h => ?_) (fun cdv A outer s H vs Q E hr h => ?_)
  · obtain ⟨x, v, r, m, xs, rfl, _⟩ := h
    rfl
  · obtain ⟨x, v, r, m, xs, rfl, ⟨dx, fx, lx, hx, fa, hlx⟩, h⟩ := h
    refine ⟨_, (pss_one (ps_ret (pe_and (pe_callB call_isi (by rfl) T.isi (by decide +kernel) (pa_cons (pv 1) (pa_cons (pe_glob (v := .ref R) rfl gR rfl) pa_nil))) (pe_and (pe_cmpR (op_eqO (E := E0) he hf G hr pass0) (pe_fld (pv 0) rfl) (pe_fld (pv 1) rfl) (nomark _)) (pe_and (pe_cmpR op_eq (pe_fld (pv 0) rfl) (pe_fld (pv 1) rfl) (nomark _)) (pe_one (pe_cmpR (op_eqD (Room.units hr)) (pe_fld (pv 0) rfl) (pe_fld (pv 1) rfl) (nomark _)))))))), ?_⟩
    rcases h with ⟨y, r', m', xs', rfl, ⟨dy, fy, ly, hy, fb, hly⟩, k⟩ | ⟨t, ty, kt, k⟩
    · obtain ⟨dfx, ax, hfx, _⟩ := id fa
      obtain ⟨dfy, ay, hfy, _⟩ := id fb
      refine ⟨_, rfl, _, _, _, _, true, rfl, .own R, tyR RT hy, kit_self, true, rfl, iteT ?_⟩
      refine ⟨_, rfl, x, R, dx, _, _, rfl, hx, TR.cl, TR.n1, row_rule _ _ _, _, rfl, y, R, dy, _, _, rfl, hy, TR.cl, TR.n1, row_rule _ _ _, fx, dfx, _, .ref C, rfl, hfx, tyF FQ.two hfy, nf_own, fx, .ref fy, r, rfl, fa, .inl ⟨fy, r', rfl, fb, _, rfl, _, rfl, ?_⟩⟩
      unfold sameR at k
      cases z : frB r r' with
      | false => rw [z] at k; exact iteF k
      | true =>
        rw [z, Bool.true_and] at k
        refine iteT ⟨_, rfl, x, R, dx, _, _, rfl, hx, TR.cl, TR.n2, row_most _ _ _, _, rfl, y, R, dy, _, _, rfl, hy, TR.cl, TR.n2, row_most _ _ _, rfl, _, rfl, ?_⟩
        by_cases z2 : m = m'
        · rw [decide_eq_true z2, Bool.true_and] at k
          rw [decide_eq_true (show V.int m = V.int m' by rw [z2])]
          refine iteT ⟨_, rfl, x, R, dx, _, _, rfl, hx, TR.cl, TR.n3, row_fills _ _ _, _, rfl, y, R, dy, _, _, rfl, hy, TR.cl, TR.n3, row_fills _ _ _, _, _, .tup (SqT.of hlx) (dpInts xs), .tup (SqT.of hly) (dpInts xs'), sh_intsT _, sh_intsT _, ?_⟩
          rw [eqv_tupI]
          exact k
        · rw [decide_eq_false z2, Bool.false_and] at k
          rw [decide_eq_false (show ¬ V.int m = V.int m' from fun z => z2 (V.int.inj z))]
          exact iteF k
    · exact ⟨_, rfl, _, _, _, _, false, rfl, .own R, ty, kt, false, rfl, iteF k⟩
end
/-- the own == and != of rows -/
structure REq (P : Program) (w : World) (K : PySem.W.Frag) (mg : Str → Option Value) (base : Heap) (R C : Addr) : Prop where
  two : RTwo K R
  ne : PySem.W.findIn K (.ref R) "__ne__" = some (some (.builtin "object.__ne__"))
  ex : ∃ g : Addr, PySem.W.findIn K (.ref R) "__eq__" = some (some (.ref g)) ∧ PySem.W.isFn K (.ref g) = true ∧ FnR P w K mg base CX0 2 g (spRowE K R C)
/-! `for` over a row. -/
/-- a call's promise, told of the state at its entry -/
def FnS (P : Program) (w : World) (K : PySem.W.Frag) (mg : Str → Option Value) (base : Heap) (n : Nat) (f : Addr) (sp : Nat → Sp) : Prop :=
  ∀ (A : Around) (above : List Env) (s : Shared) (H : Hp) (us : List Value) (vs : List V) (Q : VK) (E : XK), Room n A → Env0 P w K mg base A above s H → Vals vs us → sp s.heap.objs.size vs H Q E → codeAny (model P w) A (.call (.ref f) ⟨us, []⟩) (CR CX0 above P w H s Q E) s
section
variable {P : Program} {w : World} {K : PySem.W.Frag} {mg : Str → Option Value} {base : Heap}
theorem fns_code {x qual : Str} {st : Stmt} {f : Addr} {fd : FuncData} {N ps : List Str} {k : Nat} {sp : Nat → Sp} (F : Fun K x qual st f fd)
    (S : FnScope N ps (defScope st)) (bd : Binds K fd ps []) (many : ∀ n vs H Q E, sp n vs H Q E → vs.length = ps.length)
    (body : ∀ (cdv : Value) (A : Around) (above : List Env) (s : Shared) (H : Hp) (vs : List V) (Q : VK) (E : XK),
      Room k (A.deeper (envOfC qual (defScope st) s.heap.objs.size f cdv)) → sp s.heap.objs.size vs H Q E →
      ∃ t, PSs (cxOf CX0 P w K mg base N qual (defScope st) f cdv A above s H E).nox (defBody st) t ∧
        t { nx := fun _ H' => Q .non H', rt := Q } (start N vs) H) : FnS P w K mg base (k + 1) f sp := by
  intro A above s H us vs Q E room env rv hs
  have hl : us.length = ps.length := rv.length.symm.trans (many _ _ _ _ _ hs)
  have bt := bd s us (env.mod.kin.keeps fun b o e => (env.bs b o e).1) (by rw [List.append_nil]; exact hl)
  rw [List.append_nil] at bt
  obtain ⟨oc, od, kV, doc, pm, an, cdv, ct, osl, rfl, lk, hcd⟩ := F.ex
  have inK : K.In s.heap := env.mod.kin.keeps fun b o e => (env.bs b o e).1
  have noLim : s.heap.NoLimit := env.mod.nolimit.keeps fun b o e => (env.bs b o e).1
  have kinds : ∀ y ∈ ps.zip us, (defScope st).names.lookup y.1 = some .local ∨
      ((defScope st).names.lookup y.1 = some .cell ∧ ((cellsFrom (s.heap.objs.size + 1) (defScope st).names []).lookup y.1).isSome = true) := by
    rintro ⟨n, v⟩ hy
    cases S.par n (List.of_mem_zip hy).1 with
    | inl q => exact .inl q
    | inr q => exact .inr ⟨q, PySem.W.cellsFrom_some _ _ _ (.inl q)⟩
  refine codeAny_call_function room.depth (inK _ _ lk) rfl S.co S.gen rfl (PySem.W.codeRec_of inK hcd) (bt _ _ _ _ ?_)
  refine wpAny_newFunctionEnv_cells S.kind kinds fun e2 he s2 x => ?_
  subst he
  refine ⟨noLim.keeps x.toInCall.keep, codeAny_func ?_⟩
  obtain ⟨t, ht, hq⟩ := body cdv A above s H vs Q E (room.deeper _) hs
  have inv := inv_start (CX := CX0) (E := E) S room.hd env (many _ _ _ _ _ hs) rv x
  refine wpAny_mono (ht.nox.run [] s2 (start N vs) H _ inv hq) (fun fl s3 h3 => ?_) fun e s3 h3 => h3
  cases fl with
  | ret u =>
    obtain ⟨v, σ3, H3, J, rr, q⟩ := h3
    exact ⟨v, H3, J.os, J.bare, J.base, J.hok, rr, q⟩
  | next =>
    obtain ⟨σ3, H3, J, q⟩ := h3
    exact ⟨.non, H3, J.os, J.bare, J.base, J.hok, rfl, q⟩
  | brk =>
    obtain ⟨_, _, _, z⟩ := h3
    exact False.elim z
  | cont =>
    obtain ⟨_, _, _, z⟩ := h3
    exact False.elim z
end
def rIterN (N : Nat) : List V → Hp → VK → Prop := fun xs H Q => ∃ (l : Addr) (zs : List V), xs = [.ref l] ∧ H l = some (.tup zs) ∧ ∀ it, H it = none → N ≤ it → Q (.ref it) (upd H it (TtO l it 0))
theorem call_iterN {X : Cx} : CallR X (.builtin "iter") (rIterN X.s_0.heap.objs.size) := by
  intro pins s σ H xs us Q I r h
  obtain ⟨l, zs, rfl, hq, q⟩ := h
  obtain ⟨u, rfl, ru⟩ := vals1 r
  cases ru
  obtain ⟨its, rv, pl, hz⟩ := I.tuple (.inl (Rd.of hq))
  refine Calls.call_function_entry (by decide +kernel) (by decide +kernel) PySem.W.kdk_entry_iter (PySem.W.kdk_args_iter _) ?_
  unfold Builtin.«iter»
  refine wpAny_bind (m := someArgs "iter" 1 2 _) (wpAny_of_eq (a := [Value.ref l]) (by first | rfl | kernel_rfl!) ?_)
  show wpAny _ _ (pyIter (.ref l) >>= _) _ _ _
  refine wpAny_bind (wpAny_pyIter_tuple (show s.heap.IsTuple l its.toArray from pl) ?_)
  refine wpAny_pure ⟨_, rfl, ?_⟩
  exact ⟨.ref s.heap.objs.size, _, I.laid (t' := s.toks) (fun b u e => Heap.get?_push_of_some _ e) (Nat.le_refl _) (ttO_ok ⟨_, Heap.get?_push_size _ rfl, rfl, rfl⟩), rfl, q _ (I.hok.fresh (Nat.le_refl _)) I.sz⟩
def spRIterN (C : Addr) (N : Nat) : Sp := fun vs H Q _ => ∃ (x dx l : Addr) (fs : List (Str × V)) (zs : List V), vs = [.ref x] ∧ H x = some (.ins C dx fs) ∧ fs.lookup ("fills" : Str) = some (.ref l) ∧ H l = some (.tup zs) ∧ ∀ it, H it = none → N ≤ it → Q (.ref it) (upd H it (TtO l it 0))
section
variable {P : Program} {w : World} {K : PySem.W.Frag} {mg : Str → Option Value} {base : Heap}
theorem ok_riterN {f R : Addr} {fd : FuncData} (F : Fun K "__iter__" "Row.__iter__" sRow_iter f fd) (mi : mg "iter" = none) (TR : RowC K R) (bd : Binds K fd ["self"] []) : FnS P w K mg base 1 f (spRIterN R) := by
  refine fns_code F scRIter bd (fun n vs H Q E h => ?_) (fun cdv A outer s H vs Q E hr h => ?_)
  · obtain ⟨x, dx, l, fs, zs, rfl, _⟩ := h
    rfl
  · obtain ⟨x, dx, l, fs, zs, rfl, hx, hf, hl, k⟩ := h
    refine ⟨_, (pss_one (ps_ret (pe_callB call_iterN (by rfl) mi (by decide +kernel) (pa_cons (pe_fld (pv 0) rfl) pa_nil)))), ?_⟩
    exact ⟨_, rfl, x, R, dx, _, _, rfl, hx, TR.cl, TR.n3, hf, l, _, rfl, hl, k⟩
end
section
variable {X : Cx} {C fi fl : Addr} {n : Nat} {tg l : Expr} {tl : TE}
def iRow (K : PySem.W.Frag) (C : Addr) (te : TE) : TI := fun σ H R => te σ H fun x H1 => ∃ (y dx l : Addr) (fs : List (Str × V)) (zs : List V), x = .ref y ∧ H1 y = some (.ins C dx fs) ∧ fs.lookup ("fills" : Str) = some (.ref l) ∧ H1 l = some (.tup zs) ∧ R (Itt K l) H1
theorem pi_row (c : RwC X.K C fi fl) (FI : FnS X.prog X.w X.K X.mg X.base n fi (spRIterN C)) (hr : Room n X.A) (hl : PE X l tl) : PI X tg l (iRow X.K C tl) := by
  refine ⟨fun pins s σ H R I h => ?_⟩
  refine thn (hl.run pins s σ H _ I h) fun v s1 ⟨x, H1, I1, r1, q1⟩ => ?_
  obtain ⟨y, dx, la, fs, zs, rfl, hy, hf, hla, q⟩ := q1
  cases r1
  obtain ⟨mA, J, _⟩ := ins_get I1.hok hy
  obtain ⟨od, J, _⟩ := J.look
  obtain ⟨m0, hF⟩ := I1.fr
  refine PySem.W.owit_iter hF I1.ok.mod.kin J c.it c.itF ?_
  refine wpAny_call (codeAny_mono (FI X.A X.stack s1 H1 [.ref y] [.ref y] (fun v H' => ∃ it, v = .ref it ∧ H1 it = none ∧ X.s_0.heap.objs.size ≤ it ∧ H' = upd H1 it (TtO la it 0)) E0 hr I1.env0 (.cons rfl .nil) ⟨y, dx, la, fs, zs, rfl, hy, hf, hla, fun it ni yo => ⟨it, rfl, ni, Nat.le_trans I1.sz yo, rfl⟩⟩) fun r s' hq => ?_)
  cases r with
  | error e => exact False.elim hq
  | ok f0 =>
    cases f0 with
    | next => exact False.elim hq
    | brk => exact False.elim hq
    | cont => exact False.elim hq
    | ret u =>
      obtain ⟨v, H', I', rv, e⟩ := I1.after hq
      obtain ⟨it, rfl, ni, yo, rfl⟩ := e
      cases rv
      have st := ttO_get I' upd_same
      unfold PySem.W.OwitIt
      refine wpAny_specialOf (name := Str.ofString "__next__") st.typeIs F.slot_tuple_iterator_next.lookup ?_
      have J1 := ItX.inv_drop I' (show _ = some (HO.ext _) from upd_same)
      have fp := ItX.inv_fp I' upd_same yo
      rw [ItX.dropH_upd ni] at J1 fp
      obtain ⟨its, rv, p, hz⟩ := J1.tuple (.inl (Rd.of hla))
      exact ⟨it, [it], _, _, H1, rfl, J1, turn_tuple la it, st, fun b hb => by
        have e : b = it := by simpa using hb
        subst e
        exact fp, q⟩
end
end Ev
namespace Ev
open PySem L2 PySem.Spec PyProof.Rows RZ LamX
/-! What rows tell of themselves. -/
theorem RAt.but {R C y p : Addr} {H H' : Hp} {r : Fr} {m : Int} {xs : List Int} {zs : List V} (h : RAt R C H y r m xs) (hp : H p = some (.lst zs)) (k : But p H H') : RAt R C H' y r m xs := by
  obtain ⟨dx, x, l, h1, h2, h3⟩ := h
  exact ⟨dx, x, l, k _ _ (ne_of h1 hp (by intro z; cases z)) h1, h2.but hp k, k _ _ (ne_of h3 hp (by intro z; cases z)) h3⟩
theorem RAt.ext {R C y : Addr} {H H' : Hp} {r : Fr} {m : Int} {xs : List Int} (h : RAt R C H y r m xs) (k : ExtN H H') : RAt R C H' y r m xs := by
  obtain ⟨dx, x, l, h1, h2, h3⟩ := h
  exact ⟨dx, x, l, k _ _ h1 (fun _ z => by cases z), h2.ext k, k _ _ h3 (fun _ z => by cases z)⟩
structure Wd (H : Hp) (l : Addr) (r : Fr) (m : Int) (q : Addr) (xs : List Int) : Prop where
  hl : H l = some (.tup (tupR r))
  o : r.ok
  m1 : 2 ≤ m
  m2 : m ≤ 10 ^ 10
  q1 : 1 ≤ r.least m
  q2 : r.least m ≤ m
  hq : H q = some (.lst (xs.map V.int))
  len : xs.length ≤ 20
  bd : ∀ x ∈ xs, 1 ≤ x ∧ x ≤ 10 ^ 13
theorem Wd.keep {H H' : Hp} {l q : Addr} {r : Fr} {m : Int} {xs : List Int} (h : Wd H l r m q xs) (k : Same H H') : Wd H' l r m q xs := ⟨k _ _ h.hl, h.o, h.m1, h.m2, h.q1, h.q2, k _ _ h.hq, h.len, h.bd⟩
theorem Wd.ext {H H' : Hp} {l q : Addr} {r : Fr} {m : Int} {xs : List Int} (h : Wd H l r m q xs) (k : ExtN H H') : Wd H' l r m q xs := ⟨k _ _ h.hl (fun _ z => by cases z), h.o, h.m1, h.m2, h.q1, h.q2, k _ _ h.hq (fun _ z => by cases z), h.len, h.bd⟩
theorem e10 : (10 : Int) ^ 10 = 10000000000 := by decide
theorem e12 : (10 : Int) ^ 12 = 1000000000000 := by decide
theorem e13 : (10 : Int) ^ 13 = 10000000000000 := by decide
theorem e15 : (10 : Int) ^ 15 = 1000000000000000 := by decide
theorem Wd.m3 {H : Hp} {l q : Addr} {r : Fr} {m : Int} {xs : List Int} (h : Wd H l r m q xs) : m ≤ 10 ^ 12 := by have := h.m2; rw [e10] at this; rw [e12]; omega
theorem Wd.okF {H : Hp} {l q : Addr} {r : Fr} {m : Int} {xs : List Int} (h : Wd H l r m q xs) : okFills xs := ⟨Nat.le_trans h.len (by decide), fun z hz => ⟨(h.bd z hz).1, by have := (h.bd z hz).2; rw [e13] at this; rw [e15]; omega⟩⟩
/-- the rows of the law -/
structure RowA (P : Program) (w : World) (K : PySem.W.Frag) (mg : Str → Option Value) (base : Heap) (R C : Addr) : Prop where
  rt : RTwo K R
  rm : RowM P w K mg base R C
  tot : RowP P w K mg base R "total" 1 (spTotal R C)
  yg : RowP P w K mg base R "is_young" 1 (spYoung R C)
  kp : RowP P w K mg base R "keeps" 3 (spKeepsP R C)
  fq : FEq P w K mg base C
  re : REq P w K mg base R C
  ln : ∃ fi fl, RwC K R fi fl ∧ FnR P w K mg base CX0 1 fi (spRIter R) ∧ FnS P w K mg base 1 fi (spRIterN R) ∧ FnR P w K mg base CX0 1 fl (spRLen R)
def rowD (xs : List Int) (m : Int) : PyData := .list [.tuple (xs.map PyData.int), .int m, .int xs.length, .int xs.sum]
def twoD (a b : Bool) : PyData := .list [.bool a, .bool b]
theorem two_show (a b : Bool) : (twoD a b).showable = true ∧ (twoD a b).hasDict = false ∧ (twoD a b).depth ≤ 32 ∧ (twoD a b).shown.length ≤ sizeLine := by
  cases a <;> cases b <;> exact ⟨by decide +kernel, by decide +kernel, by decide +kernel, by decide +kernel⟩
theorem bg_log {n : Int} (h : n.natAbs ≤ 10 ^ 16) : n.natAbs.log2 < 54 := by
  by_cases z : n.natAbs = 0
  · rw [z]; decide
  · exact (Nat.log2_lt z).mpr (Nat.lt_of_le_of_lt h (by decide +kernel))
theorem bg_weight {n : Int} (h : n.natAbs ≤ 10 ^ 16) : (PyData.int n).weight ≤ 54 := by
  have := bg_log h
  simp only [PyData.weight]
  split <;> omega
theorem bg_show {n : Int} (h : n.natAbs ≤ 10 ^ 16) : (PyData.int n).showable = true := decide_eq_true (Nat.lt_trans (bg_log h) (by decide))
theorem bg_leaf {n : Int} (h : n.natAbs ≤ 10 ^ 16) : (PyData.int n).leavesShort 2000 = true := by
  have e := int_text_length_le (k := 1920) (by decide) (Nat.lt_of_lt_of_le (bg_log h) (by decide))
  refine decide_eq_true ?_
  show (Str.ofString (toString n)).length ≤ 2000
  rw [PySem.ofString_length]
  omega
def Bgs (ns : List Int) : Prop := ∀ n ∈ ns, n.natAbs ≤ 10 ^ 16
theorem Bgs.show {ns : List Int} (h : Bgs ns) : PyData.showableAll (ns.map PyData.int) = true ∧ PyData.leavesShortAll 2000 (ns.map PyData.int) = true ∧ PyData.weightAll (ns.map PyData.int) ≤ 60 * ns.length ∧ PyData.hasDictAll (ns.map PyData.int) = false ∧ PyData.depthAll (ns.map PyData.int) = 0 := by
  induction ns with
  | nil => exact ⟨rfl, rfl, Nat.le_refl _, rfl, rfl⟩
  | cons n r ih =>
    obtain ⟨a, b, c, d, e⟩ := ih fun x hx => h x (List.mem_cons_of_mem _ hx)
    have hn := h n List.mem_cons_self
    have s1 := bg_show hn
    have w1 := bg_weight hn
    have l1 := bg_leaf hn
    refine ⟨?_, ?_, ?_, ?_, ?_⟩
    · rw [List.map_cons, PyData.showableAll, s1, a]; rfl
    · rw [List.map_cons, PyData.leavesShortAll, l1, b]; rfl
    · rw [List.map_cons, PyData.weightAll, List.length_cons]; omega
    · rw [List.map_cons, PyData.hasDictAll, d]; rfl
    · rw [List.map_cons, PyData.depthAll, e]; rfl
theorem sum_hi {xs : List Int} (h : ∀ x ∈ xs, 1 ≤ x ∧ x ≤ 10 ^ 13) : 0 ≤ xs.sum ∧ xs.sum ≤ 10 ^ 13 * xs.length := by
  induction xs with
  | nil => exact ⟨Int.le_refl _, by simp⟩
  | cons x r ih =>
    obtain ⟨a, b⟩ := ih fun y hy => h y (List.mem_cons_of_mem _ hy)
    have := h x List.mem_cons_self
    rw [List.sum_cons, List.length_cons]
    rw [e13] at *
    constructor
    · omega
    · have e : ((r.length + 1 : Nat) : Int) = (r.length : Int) + 1 := by omega
      rw [e, Int.mul_add]
      omega
theorem row_show {H : Hp} {l q : Addr} {r : Fr} {m : Int} {xs : List Int} (h : Wd H l r m q xs) : (rowD xs m).showable = true ∧ (rowD xs m).hasDict = false ∧ (rowD xs m).depth ≤ 32 ∧ (rowD xs m).shown.length ≤ sizeLine := by
  have hb : Bgs xs := fun n hn => by
    have := h.bd n hn
    rw [e13] at this
    show n.natAbs ≤ 10000000000000000
    omega
  obtain ⟨a1, a2, a3, a4, a5⟩ := hb.show
  have hm : m.natAbs ≤ 10 ^ 16 := by
    have := h.m1; have := h.m2; rw [e10] at this
    show m.natAbs ≤ 10000000000000000
    omega
  have hn : ((xs.length : Int)).natAbs ≤ 10 ^ 16 := by
    have := h.len
    show _ ≤ 10000000000000000
    omega
  have hs : (xs.sum).natAbs ≤ 10 ^ 16 := by
    obtain ⟨s0, s1⟩ := sum_hi h.bd
    have := h.len
    rw [e13] at s1
    show _ ≤ 10000000000000000
    omega
  have x1 := bg_show hm; have x2 := bg_show hn; have x3 := bg_show hs
  have w1 := bg_weight hm; have w2 := bg_weight hn; have w3 := bg_weight hs
  have l1 := bg_leaf hm; have l2 := bg_leaf hn; have l3 := bg_leaf hs
  have := h.len
  refine ⟨?_, ?_, ?_, show_len ?_ ?_⟩
  · simp only [rowD, PyData.showable, PyData.showableAll, a1, Bool.and_true, Bool.true_and] at x1 x2 x3 ⊢
    rw [x1, x2, x3]; rfl
  · simp only [rowD, PyData.hasDict, PyData.hasDictAll, a4, Bool.or_false]
  · simp only [rowD, PyData.depth, PyData.depthAll, a5]; omega
  · simp only [rowD, PyData.leavesShort, PyData.leavesShortAll, a2, Bool.and_true, Bool.true_and] at l1 l2 l3 ⊢
    rw [l1, l2, l3]; rfl
  · simp only [rowD, PyData.weight, PyData.weightAll] at w1 w2 w3 ⊢
    omega
theorem row_dp {K : PySem.W.Frag} {G : Hp} {a t : Addr} {xs : List Int} {m n s : Int} (ha : G a = some (.lst [.ref t, .int m, .int n, .int s])) (ht : G t = some (.tup (xs.map V.int))) (e1 : n = xs.length) (e2 : s = xs.sum) : Dp K G (.ref a) (rowD xs m) := by
  subst e1 e2
  exact .lst (SqL.of ha) (.cons (.tup (SqT.of ht) (dpInts _)) (.cons (.int _) (.cons (.int _) (.cons (.int _) .nil))))
theorem two_dpB {K : PySem.W.Frag} {G : Hp} {a : Addr} {x y : Bool} (ha : G a = some (.lst [.bl x, .bl y])) : Dp K G (.ref a) (twoD x y) := .lst (SqL.of ha) (.cons (.bl _) (.cons (.bl _) .nil))
theorem eqv_lstI (ps qs : List Int) : PyData.eqv (.list (ps.map PyData.int)) (.list (qs.map PyData.int)) = decide (ps = qs) := by
  have := eqv_tupI ps qs
  simpa [PyData.eqv] using this
def spTold : Sp := fun vs H Q _ => ∃ (v : V) (l : Addr) (r : Fr) (m : Int) (q : Addr) (xs : List Int), vs = [v, .ref l, .int m, .ref q] ∧ Wd H l r m q xs ∧ ∀ H', Same H H' → Q (.bl true) H'
abbrev nTo : List Str := ["_law_pen_here", "_law_told", "_law_top", "_law_fills_so", "_law_made", "_law_passed", "_law_row", "_law_fill", "_law_wide"]
section
variable {P : Program} {w : World} {K : PySem.W.Frag} {mg : Str → Option Value} {base : Heap}
theorem scTo : FnScope nTo ["_law_pen_here", "_law_told", "_law_top", "_law_fills_so"] (defScope sLToldRight) := ⟨rfl, rfl, rfl, by decide +kernel, rfl, by decide +kernel, by decide +kernel⟩
theorem ok_ltold {f R C : Addr} {fd : FuncData} (F : Fun K "_law_told_right" "_law_told_right" sLToldRight f fd) (T : Blt mg) (ms : mg "sum" = none) (RA : RowA P w K mg base R C) (D1 : Df P w K mg base 7 "_law_rule" ["_law_told"] (spLRule C)) (D2 : Df P w K mg base 2 "_law_keeps" ["_law_told", "_law_top", "_law_fills_so"] spLKeeps) : FnG P w K mg base 8 f fd ["_law_pen_here", "_law_told", "_law_top", "_law_fills_so"] spTold := by
  obtain ⟨f1, fd1, G1, g1, k1, b1⟩ := D1.ex
  obtain ⟨f2, fd2, G2, g2, k2, b2⟩ := D2.ex
  obtain ⟨fI, fdI, MI, GI, bI⟩ := RA.rm.ex
  obtain ⟨pt, gt, fdt, PT, GT, bT⟩ := id RA.tot
  obtain ⟨py, gy, fdy, PY, GY, bY⟩ := id RA.yg
  obtain ⟨pk, gk, fdk, PKp, GKp, bKp⟩ := id RA.kp
  obtain ⟨ge, he, hfe, Ge⟩ := RA.fq.ex
  obtain ⟨fi, fl, RW, FI, FIS, FL⟩ := RA.ln
  have TR := RA.rt.cl
  refine fng_of F scTo (fun vs H Q E h => ?_) (fun cdv A outer s H vs Q E hr gd h => ?_)
  · obtain ⟨v, l, r, m, q, xs, rfl, _⟩ := h
    rfl
  · obtain ⟨v, l, r, m, q, xs, rfl, W, kk⟩ := h
    have hu : (cxOf CX0 P w K mg base nTo "_law_told_right" (defScope sLToldRight) f cdv A outer s H E).nox.A.units + 64 < cLine := Room.units hr
    refine ⟨_, (pss_cons (ps_par (i := 4) (j := 5) (by rfl) scTo.nd rfl rfl (by decide) rfl rfl (pa_cons (pe_call G1 hr (by rfl) g1 k1 b1 .nil pass0 (pa_cons (pv 1) pa_nil)) (pa_cons (pe_callTy call_list_of (by rfl) T.list (by decide +kernel) (pa_cons (pv 3) pa_nil)) pa_nil)) (by rfl))
    (pss_cons (ps_set (i := 6) scTo.nd rfl (.inl rfl) (pe_make (E := E0) MI GI (hr.mono (by decide)) (by rfl) RA.rm.g bI .nil pass0 (pa_cons (pv 4) (pa_cons (pv 2) (pa_cons (pv 5) pa_nil)))))
    (pss_cons (ps_expr (pe_bm PySem.F.plainAttrs_list PySem.F.slot_list_append PySem.F.type_list_append mt_append (pv 5) (pa_cons pe_int pa_nil)))
    (pss_cons (ps_if (pt_cmpR op_ne (pe_callB (call_repr gd hu) (by rfl) T.repr (by decide +kernel) (pa_cons (pe_lst (pa_cons (pe_fld (pv 6) rfl) (pa_cons (pe_fld (pv 6) rfl) (pa_cons (pe_callB (call_lenO (E := E0) RW.ln RW.lnF FL (hr.mono (by decide)) pass0) (by rfl) T.len PySem.boot_len (pa_cons (pv 6) pa_nil)) (pa_cons (pe_prop (pv 6) TR.cl PT GT (hr.mono (by decide)) bT .nil pass0 rfl) pa_nil))))) pa_nil)) (pe_callB (call_repr gd hu) (by rfl) T.repr (by decide +kernel) (pa_cons (pe_lst (pa_cons (pe_callTy call_tuple_of (by rfl) T.tuple (by decide +kernel) (pa_cons (pv 3) pa_nil)) (pa_cons (pv 2) (pa_cons (pe_callB call_len_seq (by rfl) T.len PySem.boot_len (pa_cons (pv 3) pa_nil)) (pa_cons (pe_callB (cr_sum rfl) (by rfl) ms (by decide +kernel) (pa_cons (pv 3) pa_nil)) pa_nil))))) pa_nil)) (nomark _))
      (pss_one (ps_ret pe_bl)) pss_nil)
    (pss_cons (ps_if (PW.pt (pw_or (pt_cmpR (op_neO (E := E0) he RA.fq.ne RA.fq.two.it.hm hfe Ge (hr.mono (by decide)) pass0) (pe_fld (pv 6) rfl) (pv 4) (nomark _)) (pw_or (pt_cmpR (op_neD hu) (pe_lc (own := [("_law_fill", 7)]) (g := gName 7) (tt := tYes) (te := tVar 7) (by rfl) scTo.nd (pi_row RW FIS (hr.mono (by decide)) (pv 6)) (blkOk_by (own := [("_law_fill", 7)]) (N := nTo) (sc := defScope sLToldRight) (by decide +kernel)) (fun _ _ _ _ _ => pg_name (i := 7) scTo.nd rfl (.inl rfl)) (fun _ _ _ _ _ => pts_nil) (fun _ _ _ _ _ => (pv 7))) (pv 3) (nomark _)) (pw_or1 (pt_cmpR (op_neD hu) (pe_callTy (call_listRow rfl RW FI FL (hr.mono (by decide))) (by rfl) T.list (by decide +kernel) (pa_cons (pv 6) pa_nil)) (pv 3) (nomark _))))))
      (pss_one (ps_ret pe_bl)) pss_nil)
    (pss_cons (ps_set (i := 8) scTo.nd rfl (.inl rfl) (pe_callB (call_max2 rfl) (by rfl) T.max (by decide +kernel) (pa_cons (pe_callTy call_int1 (by rfl) T.int (by decide +kernel) (pa_cons (pe_ix ix_tup (pv 1) pe_int (fun _ _ => rfl)) pa_nil)) (pa_cons (pe_callTy call_int1 (by rfl) T.int (by decide +kernel) (pa_cons (pe_ix ix_tup (pv 1) pe_int (fun _ _ => rfl)) pa_nil)) pa_nil))))
    (pss_cons (ps_if (pt_cmpR op_ne (pe_callB (call_repr gd hu) (by rfl) T.repr (by decide +kernel) (pa_cons (pe_lst (pa_cons (pe_prop (pv 6) TR.cl PY GY (hr.mono (by decide)) bY .nil pass0 rfl) (pa_cons (pe_prop (pv 6) TR.cl PKp GKp (hr.mono (by decide)) bKp .nil pass0 rfl) pa_nil))) pa_nil)) (pe_callB (call_repr gd hu) (by rfl) T.repr (by decide +kernel) (pa_cons (pe_lst (pa_cons (pe_cmpR op_le (pe_callB call_len_seq (by rfl) T.len PySem.boot_len (pa_cons (pv 3) pa_nil)) (pv 8) (nomark _)) (pa_cons (pe_call G2 (hr.mono (by decide)) (by rfl) g2 k2 b2 .nil pass0 (pa_cons (pv 1) (pa_cons (pv 2) (pa_cons (pv 3) pa_nil)))) pa_nil))) pa_nil)) (nomark _))
      (pss_one (ps_ret pe_bl)) pss_nil)
    (pss_one (ps_ret pe_bl))))))))), ?_⟩
    obtain ⟨w1, w2, w3, w4⟩ := row_show W
    refine ⟨_, rfl, l, r, rfl, W.hl, W.o, fun x H1 s1 fa => ?_⟩
    have W1 := W.keep s1
    refine ⟨_, rfl, q, _, rfl, .inl (SqL.of W1.hq), fun u nu => ⟨_, _, rfl, ?_⟩⟩
    have s2 : Same H1 (upd H1 u (.lst (xs.map V.int))) := same_new nu
    have hu2 : upd H1 u (.lst (xs.map V.int)) u = some (.lst (xs.map V.int)) := upd_same
    generalize upd H1 u (.lst (xs.map V.int)) = H2 at s2 hu2 ⊢
    have W2 := W1.keep s2
    refine ⟨_, rfl, _, rfl, _, rfl, ?_⟩
    refine mk_row (fa.keep s2) W.o W.m1 W.m3 W.q1 W.q2 hu2 W.okF fun y H3 s3 ra => ?_
    have hu3 := s3 _ _ hu2
    have W3 := W2.keep s3
    have Hu : H u = none := Same.gone s1 nu
    refine ⟨_, rfl, .inl ⟨rfl, _, SqL.of hu3⟩, u, _, _, rfl, rfl, hu3, (by rw [List.length_map]; exact Nat.lt_of_le_of_lt W.len (by decide)), ?_⟩
    have bt : But u H3 (upd H3 u (.lst (xs.map V.int ++ [V.int 3]))) := But.upd_at
    have ra4 := ra.but hu3 bt
    have fa4 : FAt C (upd H3 u (.lst (xs.map V.int ++ [V.int 3]))) x r := ((fa.keep s2).keep s3).but hu3 bt
    have s4 : Same H (upd H3 u (.lst (xs.map V.int ++ [V.int 3]))) := fun b o e => bt b o (ne_of_none e Hu) (s3 _ _ (s2 _ _ (s1 _ _ e)))
    generalize upd H3 u (.lst (xs.map V.int ++ [V.int 3])) = H4 at ra4 fa4 s4 ⊢
    have W4 := W.keep s4
    obtain ⟨dx, fx, lx, hy, fax, hlx⟩ := id ra4
    -- the first texts
    refine ⟨_, rfl, y, R, dx, _, _, rfl, hy, TR.cl, TR.n3, row_fills _ _ _, _, rfl, y, R, dx, _, _, rfl, hy, TR.cl, TR.n2, row_most _ _ _, _, rfl, y, dx, _, rfl, hy, y, dx, lx, _, _, rfl, hy, row_fills _ _ _, hlx, _, rfl, ⟨by omega, by have := W.len; rw [List.length_map]; omega⟩, _, rfl, y, dx, _, rfl, hy, y, r, m, xs, rfl, ra4, (by show 4 ≤ sizeLine; decide), fun a1 na1 => ?_⟩
    have s5 : Same H4 (upd H4 a1 (.lst [.ref lx, .int m, .int ((xs.map V.int).length : Int), .int xs.sum])) := same_new na1
    have ha1 : upd H4 a1 (.lst [.ref lx, .int m, .int ((xs.map V.int).length : Int), .int xs.sum]) a1 = some (.lst [.ref lx, .int m, .int ((xs.map V.int).length : Int), .int xs.sum]) := upd_same
    generalize upd H4 a1 (.lst [.ref lx, .int m, .int ((xs.map V.int).length : Int), .int xs.sum]) = H5 at s5 ha1 ⊢
    refine ⟨a1, rowD xs m, rfl, row_dp ha1 (s5 _ _ hlx) (by rw [List.length_map]) rfl, w1, w2, w3, w4, ?_⟩
    have W5 := W4.keep s5
    refine ⟨_, rfl, q, _, rfl, .inl ⟨SqL.of W5.hq, fun t2 nt2 => ⟨_, rfl, ?_⟩⟩⟩
    have s6 : Same H5 (upd H5 t2 (.tup (xs.map V.int))) := same_new nt2
    have ht2 : upd H5 t2 (.tup (xs.map V.int)) t2 = some (.tup (xs.map V.int)) := upd_same
    generalize upd H5 t2 (.tup (xs.map V.int)) = H6 at s6 ht2 ⊢
    have W6 := W5.keep s6
    refine ⟨_, rfl, q, _, rfl, .inl (SqL.of W6.hq), _, rfl, q, xs, rfl, SqL.of W6.hq, (by show 4 ≤ sizeLine; decide), fun a2 na2 => ?_⟩
    have s7 : Same H6 (upd H6 a2 (.lst [.ref t2, .int m, .int ((xs.map V.int).length : Int), .int xs.sum])) := same_new na2
    have ha2 : upd H6 a2 (.lst [.ref t2, .int m, .int ((xs.map V.int).length : Int), .int xs.sum]) a2 = some (.lst [.ref t2, .int m, .int ((xs.map V.int).length : Int), .int xs.sum]) := upd_same
    generalize upd H6 a2 (.lst [.ref t2, .int m, .int ((xs.map V.int).length : Int), .int xs.sum]) = H7 at s7 ha2 ⊢
    refine ⟨a2, rowD xs m, rfl, row_dp ha2 (s7 _ _ ht2) (by rw [List.length_map]) rfl, w1, w2, w3, w4, rfl, _, rfl, ite2 (fun e => absurd e (by simp)) (fun _ => ?_)⟩
    have s47 := s5.trans (s6.trans s7)
    have W7 := W4.keep s47
    have ra7 := ra4.keep s47
    obtain ⟨dx7, fx7, lx7, hy7, fax7, hlx7⟩ := id ra7
    have fa7 := fa4.keep s47
    obtain ⟨dfx, ax, hfx, _⟩ := id fax7
    obtain ⟨dfy, ay, hfy, _⟩ := id fa7
    -- the rule, the fills
    refine ⟨_, rfl, y, R, dx7, _, _, rfl, hy7, TR.cl, TR.n1, row_rule _ _ _, _, rfl, fx7, dfx, _, .ref C, rfl, hfx, tyF RA.fq.two hfy, nf_own, fx7, .ref x, r, rfl, fax7, .inl ⟨x, r, rfl, fa7, _, rfl, _, rfl, ?_⟩⟩
    rw [frB_self]
    refine iteF ⟨_, rfl, y, dx7, lx7, _, _, rfl, hy7, row_fills _ _ _, hlx7, fun D nD => lc_tup (K := K) (a := lx7) (xs := xs.map V.int) (fun i H' => H' D = some (.lst ((xs.take i).map V.int)) ∧ Same H7 H') ⟨by rw [List.take_zero]; exact upd_same, same_new nD⟩ (fun i H' _ h => SqT.of (h.2 _ _ hlx7)) (fun i v H' hi h => ?_) (fun H' h => ?_)⟩
    · obtain ⟨hD, sD⟩ := h
      obtain ⟨n, hn, rfl⟩ := int_at hi
      refine ⟨rfl, ?_⟩
      unfold tYes
      refine iteT ⟨_, rfl, _, hD, ?_, ?_, fun b o e => by rw [upd_ne (ne_of_none e nD)]; exact sD _ _ e⟩
      · rw [List.length_map, List.length_take]
        have := W.len
        exact Nat.lt_of_le_of_lt (show _ ≤ 20 by omega) (by decide)
      · rw [upd_same, List.take_add_one, hn, List.map_append]
        rfl
    · obtain ⟨hD, s8⟩ := h
      rw [List.length_map, List.take_length] at hD
      have W8 := W7.keep s8
      have ra8 := ra7.keep s8
      refine ⟨_, rfl, _, _, .lst (SqL.of hD) (dpInts xs), .lst (SqL.of W8.hq) (dpInts xs), sh_ints _, sh_ints _, _, rfl, ?_⟩
      rw [eqv_lstI, decide_eq_true rfl]
      obtain ⟨dx8, fx8, lx8, hy8, fax8, hlx8⟩ := id ra8
      refine iteF ⟨_, rfl, y, dx8, lx8, _, _, rfl, hy8, row_fills _ _ _, hlx8, (by rw [List.length_map]; have := W.len; omega), fun u9 nu9 => ?_⟩
      have s9 : Same H' (upd H' u9 (.lst (xs.map V.int))) := same_new nu9
      have hu9 : upd H' u9 (.lst (xs.map V.int)) u9 = some (.lst (xs.map V.int)) := upd_same
      generalize upd H' u9 (.lst (xs.map V.int)) = H9 at s9 hu9 ⊢
      have W9 := W8.keep s9
      have ra9 := ra8.keep s9
      refine ⟨_, rfl, _, _, .lst (SqL.of hu9) (dpInts xs), .lst (SqL.of W9.hq) (dpInts xs), sh_ints _, sh_ints _, _, rfl, ?_⟩
      rw [eqv_lstI, decide_eq_true rfl]
      refine iteF ⟨_, rfl, l, _, _, _, rfl, rfl, SqT.of W9.hl, i5_3, .inl ⟨_, rfl, _, rfl, l, _, _, _, rfl, rfl, SqT.of W9.hl, i5_4, .inl ⟨_, rfl, _, _, rfl, ?_⟩⟩⟩
      rw [wd_max]
      obtain ⟨dxa, _, _, hya, _, _⟩ := id ra9
      refine ⟨_, rfl, y, dxa, _, rfl, hya, y, r, m, xs, rfl, ra9, _, rfl, y, dxa, _, rfl, hya, y, r, m, xs, rfl, ra9, W.o, (by show 2 ≤ sizeLine; decide), fun b1 nb1 => ?_⟩
      obtain ⟨z1, z2, z3, z4⟩ := two_show (decide ((xs.length : Int) ≤ r.wd)) (r.keepR m xs)
      have s10 : Same H9 (upd H9 b1 (.lst [.bl (decide ((xs.length : Int) ≤ r.wd)), .bl (r.keepR m xs)])) := same_new nb1
      have hb1 : upd H9 b1 (.lst [.bl (decide ((xs.length : Int) ≤ r.wd)), .bl (r.keepR m xs)]) b1 = some (.lst [.bl (decide ((xs.length : Int) ≤ r.wd)), .bl (r.keepR m xs)]) := upd_same
      generalize upd H9 b1 (.lst [.bl (decide ((xs.length : Int) ≤ r.wd)), .bl (r.keepR m xs)]) = H10 at s10 hb1 ⊢
      refine ⟨b1, _, rfl, two_dpB hb1, z1, z2, z3, z4, ?_⟩
      have W10 := W9.keep s10
      refine ⟨_, rfl, q, _, rfl, .inl (SqL.of W10.hq), _, rfl, _, _, rfl, rfl, ?_⟩
      rw [List.length_map]
      refine ⟨_, rfl, _, rfl, _, rfl, l, q, r, m, xs, rfl, W10.hl, W.o, W10.hq, (by have := W.len; omega), fun H11 s11 => ⟨(by show 2 ≤ sizeLine; decide), fun b2 nb2 => ?_⟩⟩
      have s12 : Same H11 (upd H11 b2 (.lst [.bl (decide ((xs.length : Int) ≤ r.wd)), .bl (r.keepR m xs)])) := same_new nb2
      refine ⟨b2, _, rfl, two_dpB upd_same, z1, z2, z3, z4, rfl, _, rfl, ite2 (fun e => absurd e (by simp)) (fun _ => ?_)⟩
      exact kk _ (s4.trans (s47.trans (s8.trans (s9.trans (s10.trans (Same.trans s11 s12))))))
end
end Ev
namespace Ev
open PySem L2 PySem.Spec PyProof.Rows RZ LamX
/-! Rows that are equal, and others. -/
def RowT (P : Program) (w : World) (K : PySem.W.Frag) (mg : Str → Option Value) (base : Heap) (R C : Addr) : Prop := ∃ (f : Addr) (fd : FuncData), Mk K R f ∧ FnOk P w K mg base CX0 5 f fd ["self", "rule", "most", "fills"] (spRowIT R C) ∧ Binds K fd ["self", "rule", "most", "fills"] []
/-- a row that is another one -/
def RowV (R C : Addr) (r : Fr) (m : Int) (xs : List Int) (H : Hp) (v : V) : Prop := ∃ (y : Addr) (r' : Fr) (m' : Int) (xs' : List Int), v = .ref y ∧ RAt R C H y r' m' xs' ∧ sameR r r' m m' xs xs' = false
theorem RowV.keep {R C : Addr} {r : Fr} {m : Int} {xs : List Int} {H H' : Hp} {v : V} (h : RowV R C r m xs H v) (k : Same H H') : RowV R C r m xs H' v := by
  obtain ⟨y, r', m', xs', e, a, b⟩ := h
  exact ⟨y, r', m', xs', e, a.keep k, b⟩
theorem RowV.but {R C p : Addr} {r : Fr} {m : Int} {xs : List Int} {H H' : Hp} {v : V} {zs : List V} (h : RowV R C r m xs H v) (hp : H p = some (.lst zs)) (k : But p H H') : RowV R C r m xs H' v := by
  obtain ⟨y, r', m', xs', e, a, b⟩ := h
  exact ⟨y, r', m', xs', e, a.but hp k, b⟩
def Fr.oth (r : Fr) : Fr := ⟨r.p, r.q, r.k, r.c, if r.j = 6 then r.j - 1 else r.j + 1⟩
theorem Fr.oth_ok {r : Fr} (o : r.ok) : r.oth.ok := ⟨o.p1, o.p2, o.q1, o.q2, o.k1, o.k2, o.c1, o.c2, by have := o.j1; have := o.j2; show 2 ≤ (if r.j = 6 then r.j - 1 else r.j + 1); split <;> omega, by have := o.j1; have := o.j2; show (if r.j = 6 then r.j - 1 else r.j + 1) ≤ 6; split <;> omega⟩
theorem same_oth (r : Fr) (m m' : Int) (xs xs' : List Int) : sameR r r.oth m m' xs xs' = false := by
  have e : frB r r.oth = false := frB_ne fun z => by
    have : r.j = r.oth.j := congrArg Fr.j z
    unfold Fr.oth at this
    simp only at this
    split at this <;> omega
  unfold sameR
  rw [e]; rfl
theorem same_self (r : Fr) (m : Int) (xs : List Int) : sameR r r m m xs xs = true := by
  unfold sameR
  rw [frB_self, decide_eq_true rfl, decide_eq_true rfl]; rfl
theorem same_fills (r : Fr) (m : Int) {xs xs' : List Int} (h : xs ≠ xs') : sameR r r m m xs xs' = false := by
  unfold sameR
  rw [decide_eq_false h, Bool.and_false, Bool.and_false]
theorem same_most (r : Fr) {m m' : Int} (xs xs' : List Int) (h : m ≠ m') : sameR r r m m' xs xs' = false := by
  unfold sameR
  rw [decide_eq_false h, Bool.false_and, Bool.and_false]
abbrev nEq : List Str := ["_law_pen_here", "_law_told", "_law_top", "_law_fills_so", "_law_row", "_law_other", "_law_near", "_law_thing"]
section
variable {P : Program} {w : World} {K : PySem.W.Frag} {mg : Str → Option Value} {base : Heap}
theorem scEq : FnScope nEq ["_law_pen_here", "_law_told", "_law_top", "_law_fills_so"] (defScope sLEqualRight) := ⟨rfl, rfl, rfl, by decide +kernel, rfl, by decide +kernel, by decide +kernel⟩
/-- beside the row: its own == -/
theorem ask_row {R C y : Addr} {r : Fr} {m : Int} {xs : List Int} {H : Hp} {v : V} {E : XK} {b : Bool} {Q : VK} (RT : RTwo K R) (ra : RAt R C H y r m xs)
    (h : (∃ (z : Addr) (r' : Fr) (m' : Int) (xs' : List Int), v = .ref z ∧ RAt R C H z r' m' xs' ∧ sameR r r' m m' xs xs' = b) ∨ (b = false ∧ ∃ (T : String) (l : List String), TyX K H v (.type T) ∧ fastBuiltinMro T = some (l.map Value.type))) (neg : Bool) (k : Q (.bl (neg ^^ b)) H) : rOwnB K R (spRowE K R C) E neg (.ref y) v H Q := by
  obtain ⟨dx, x, l, hy, fa, hl⟩ := id ra
  rcases h with ⟨z, r', m', xs', rfl, rz, e⟩ | ⟨rfl, T, ls, ty, e⟩
  · obtain ⟨dz, _, _, hz, _, _⟩ := id rz
    exact ⟨y, dx, _, .ref R, rfl, hy, tyR RT hz, nf_own, y, _, r, m, xs, rfl, ra, .inl ⟨z, r', m', xs', rfl, rz, _, rfl, by rw [e]; exact k⟩⟩
  · exact ⟨y, dx, _, .type T, rfl, hy, ty, nf_ty e, y, _, r, m, xs, rfl, ra, .inr ⟨.type T, ty, kit_no_ty RT.it e, _, rfl, k⟩⟩
theorem eq_five {f R C : Addr} {cdv : Value} {A : Around} {outer : List Env} {s : Shared} {H : Hp} {E : XK} (T : Blt mg) (RA : RowA P w K mg base R C) (RT : RowT P w K mg base R C) (D1 : Df P w K mg base 7 "_law_rule" ["_law_told"] (spLRule C))
    (hr : Room 7 (cxOf CX0 P w K mg base nEq "_law_equal_right" (defScope sLEqualRight) f cdv A outer s H E).nox.A) :
    ∃ tr : TS, PSs (cxOf CX0 P w K mg base nEq "_law_equal_right" (defScope sLEqualRight) f cdv A outer s H E).nox ((defBody sLEqualRight).drop 5) tr ∧ ∀ (D : Ends) (G : Hp) (v : V) (l q y nn : Addr) (r : Fr) (m : Int) (xs : List Int) (vs : List V) (v5 : Option V),
      Wd G l r m q xs → RAt R C G y r m xs → G nn = some (.lst vs) → vs.length ≤ 4 → (∀ u ∈ vs, RowV R C r m xs G u) → (∀ G', Same G G' → D.rt (.bl true) G') →
      tr D [some v, some (.ref l), some (.int m), some (.ref q), some (.ref y), v5, some (.ref nn), none] G := by
  obtain ⟨f1, fd1, G1, g1, k1, b1⟩ := D1.ex
  obtain ⟨fI, fdI, MI, GI, bI⟩ := RA.rm.ex
  obtain ⟨fT, fdT, MT, GT, bT⟩ := id RT
  obtain ⟨ge, he, hfe, Ge⟩ := RA.re.ex
  have hu : (cxOf CX0 P w K mg base nEq "_law_equal_right" (defScope sLEqualRight) f cdv A outer s H E).nox.A.units + 64 < cLine := Room.units hr
  refine ⟨_, (pss_cons (ps_set (i := 6) scEq.nd rfl (.inl rfl) (pe_op op_cat (pv 6) (pe_lst (pa_cons pe_non (pa_cons (pv 3) (pa_cons (pe_callTy call_tuple_of (by rfl) T.tuple (by decide +kernel) (pa_cons (pv 3) pa_nil)) (pa_cons (pe_callB call_len_seq (by rfl) T.len PySem.boot_len (pa_cons (pv 3) pa_nil)) pa_nil)))))))
    (pss_cons (ps_if (pt_cmpR (op_neD hu) (pe_lc (own := [("_law_thing", 7)]) (g := gName 7) (by rfl) scEq.nd (pi_list (pv 6)) (blkOk_by (own := [("_law_thing", 7)]) (N := nEq) (sc := defScope sLEqualRight) (by decide +kernel)) (fun _ _ _ _ _ => pg_name (i := 7) scEq.nd rfl (.inl rfl)) (fun _ _ _ _ _ => pts_one (pt_cmpR (r := rOwnB K R (spRowE K R C) E0 false) (op_eqO (E := E0) he hfe Ge (hr.mono (by decide)) pass0) (pv 4) (pv 7) (nomark _))) (fun _ _ _ _ _ => (pv 7))) (pe_lst pa_nil) (nomark _))
      (pss_one (ps_ret pe_bl)) pss_nil)
    (pss_one (ps_ret (pe_and (pe_cmpR (op_eqO (E := E0) he hfe Ge (hr.mono (by decide)) pass0) (pv 4) (pe_make (E := E0) MT GT (hr.mono (by decide)) (by rfl) RA.rm.g bT .nil pass0 (pa_cons (pe_call G1 hr (by rfl) g1 k1 b1 .nil pass0 (pa_cons (pv 1) pa_nil)) (pa_cons (pv 2) (pa_cons (pe_callTy call_tuple_of (by rfl) T.tuple (by decide +kernel) (pa_cons (pv 3) pa_nil)) pa_nil)))) (nomark _)) (pe_one (pe_not (pe_cmpR (op_neO (E := E0) he RA.re.ne RA.re.two.it.hm hfe Ge (hr.mono (by decide)) pass0) (pv 4) (pe_make (E := E0) MI GI (hr.mono (by decide)) (by rfl) RA.rm.g bI .nil pass0 (pa_cons (pe_call G1 hr (by rfl) g1 k1 b1 .nil pass0 (pa_cons (pv 1) pa_nil)) (pa_cons (pv 2) (pa_cons (pv 3) pa_nil)))) (nomark _))))))))), ?_⟩
  intro D G v l q y nn r m xs vs v5 W ra hn hv rv fin
  refine ⟨_, rfl, _, rfl, _, rfl, q, _, rfl, .inl ⟨SqL.of W.hq, fun t nt => ⟨_, rfl, ?_⟩⟩⟩
  have s1 : Same G (upd G t (.tup (xs.map V.int))) := same_new nt
  have ht : upd G t (.tup (xs.map V.int)) t = some (.tup (xs.map V.int)) := upd_same
  generalize upd G t (.tup (xs.map V.int)) = G1' at s1 ht ⊢
  have W1 := W.keep s1
  refine ⟨q, _, rfl, .inl (SqL.of W1.hq), (by show 4 ≤ sizeLine; decide), fun l4 n4 => ?_⟩
  have s2 : Same G1' (upd G1' l4 (.lst [.non, .ref q, .ref t, .int ((xs.map V.int).length : Int)])) := same_new n4
  have h4 : upd G1' l4 (.lst [.non, .ref q, .ref t, .int ((xs.map V.int).length : Int)]) l4 = some (.lst [.non, .ref q, .ref t, .int ((xs.map V.int).length : Int)]) := upd_same
  generalize upd G1' l4 (.lst [.non, .ref q, .ref t, .int ((xs.map V.int).length : Int)]) = G2 at s2 h4 ⊢
  refine ⟨nn, l4, _, _, rfl, rfl, s2 _ _ (s1 _ _ hn), h4, (by show vs.length + 4 ≤ sizeLine; exact Nat.le_trans (show _ ≤ 8 by omega) (by decide)), fun a na => ?_⟩
  have s3 : Same G2 (upd G2 a (.lst (vs ++ [.non, .ref q, .ref t, .int ((xs.map V.int).length : Int)]))) := same_new na
  have ha : upd G2 a (.lst (vs ++ [.non, .ref q, .ref t, .int ((xs.map V.int).length : Int)])) a = some (.lst (vs ++ [.non, .ref q, .ref t, .int ((xs.map V.int).length : Int)])) := upd_same
  generalize upd G2 a (.lst (vs ++ [.non, .ref q, .ref t, .int ((xs.map V.int).length : Int)])) = G3 at s3 ha ⊢
  have s03 := s1.trans (s2.trans s3)
  have ht3 := s3 _ _ (s2 _ _ ht)
  have W3 := W.keep s03
  have ra3 := ra.keep s03
  refine ⟨_, rfl, a, rfl, ⟨_, SqL.of ha⟩, fun D nD => lc_list (K := K) (a := a) (xs := vs ++ [.non, .ref q, .ref t, .int ((xs.map V.int).length : Int)]) (fun i H' => H' D = some (.lst []) ∧ Same G3 H') ⟨upd_same, same_new nD⟩ (fun i H' _ h => SqL.of (h.2 _ _ ha)) (fun i x H' hi h => ?_) (fun H' h => ?_)⟩
  · obtain ⟨hD, sD⟩ := h
    refine ⟨rfl, _, rfl, _, rfl, ask_row (b := false) RA.rt (ra3.keep sD) ?_ false ⟨_, rfl, iteF ⟨hD, sD⟩⟩⟩
    rcases List.mem_append.mp (List.mem_of_getElem? hi) with h | h
    · obtain ⟨z, r', m', xs', e, a1, a2⟩ := rv x h
      exact .inl ⟨z, r', m', xs', e, (a1.keep s03).keep sD, a2⟩
    · refine .inr ⟨rfl, ?_⟩
      simp only [List.mem_cons, List.not_mem_nil, or_false] at h
      rcases h with rfl | rfl | rfl | rfl
      · exact ⟨"NoneType", ["NoneType", "object"], .base .non, by decide +kernel⟩
      · exact ⟨"list", ["list", "object"], .base (.lst (sD _ _ W3.hq)), by decide +kernel⟩
      · exact ⟨"tuple", ["tuple", "object"], .base (.tup (sD _ _ ht3)), by decide +kernel⟩
      · exact ⟨"int", ["int", "object"], .base (.int _), by decide +kernel⟩
  · obtain ⟨hD, sD⟩ := h
    refine ⟨(by show 0 ≤ sizeLine; decide), fun e0 ne0 => ?_⟩
    have s4 : Same H' (upd H' e0 (.lst [])) := same_new ne0
    have h0 : upd H' e0 (.lst []) e0 = some (.lst []) := upd_same
    generalize upd H' e0 (.lst []) = G4 at s4 h0 ⊢
    refine ⟨.list [], .list [], .lst (SqL.of (s4 _ _ hD)) .nil, .lst (SqL.of h0) .nil, sh_ints [], sh_ints [], _, rfl, ?_⟩
    rw [show PyData.eqv (.list []) (.list []) = true from eqv_nil []]
    have s34 := sD.trans s4
    have W4 := W3.keep s34
    have ra4 := ra3.keep s34
    refine iteF ⟨_, rfl, _, rfl, l, r, rfl, W4.hl, W.o, fun x1 G5 s5 fa5 => ?_⟩
    have W5 := W4.keep s5
    refine ⟨_, rfl, _, rfl, q, _, rfl, .inl ⟨SqL.of W5.hq, fun t6 nt6 => ?_⟩⟩
    have s6 : Same G5 (upd G5 t6 (.tup (xs.map V.int))) := same_new nt6
    have ht6 : upd G5 t6 (.tup (xs.map V.int)) t6 = some (.tup (xs.map V.int)) := upd_same
    generalize upd G5 t6 (.tup (xs.map V.int)) = G6 at s6 ht6 ⊢
    refine mk_rowT (R := R) (fa5.keep s6) W.o W.m1 W.m3 W.q1 W.q2 ht6 W.okF fun y7 G7 s7 ra7 => ?_
    have s47 := Same.trans s5 (s6.trans s7)
    have W7 := W4.keep s47
    refine ask_row (b := true) RA.rt (ra4.keep s47) (.inl ⟨y7, r, m, xs, rfl, ra7, same_self _ _ _⟩) false ⟨_, rfl, iteT ?_⟩
    refine ⟨_, rfl, _, rfl, l, r, rfl, W7.hl, W.o, fun x8 G8 s8 fa8 => ?_⟩
    have W8 := W7.keep s8
    refine ⟨_, rfl, _, rfl, ?_⟩
    refine mk_row (R := R) fa8 W.o W.m1 W.m3 W.q1 W.q2 W8.hq W.okF fun y9 G9 s9 ra9 => ?_
    have s79 := Same.trans s8 s9
    refine ask_row (b := true) RA.rt ((ra4.keep s47).keep s79) (.inl ⟨y9, r, m, xs, rfl, ra9, same_self _ _ _⟩) true ⟨_, rfl, ?_⟩
    exact fin _ (s03.trans (s34.trans (s47.trans s79)))
end
end Ev
namespace Ev
open PySem L2 PySem.Spec PyProof.Rows RZ LamX
theorem cut_init (ys : List V) (z : V) : cutV (ys ++ [z]) none (some (-1)) = ys := by
  unfold cutV
  have e : HT.sIx (ys ++ [z]).length (ys ++ [z]).length (some (-1)) = ys.length := by
    show (if (-1 : Int) < 0 then ((-1 : Int) + ((ys ++ [z]).length : Int)).toNat else min (-1 : Int).toNat (ys ++ [z]).length) = ys.length
    rw [if_pos (by decide), List.length_append, List.length_singleton]
    omega
  rw [e, HT.sIx_none, List.drop_zero, Nat.sub_zero, List.take_left']
  rfl
def spEqr : Sp := spTold
section
variable {P : Program} {w : World} {K : PySem.W.Frag} {mg : Str → Option Value} {base : Heap}
theorem eq_four {f R C : Addr} {cdv : Value} {A : Around} {outer : List Env} {s : Shared} {H : Hp} {E : XK} (T : Blt mg) (RA : RowA P w K mg base R C) (RT : RowT P w K mg base R C) (D1 : Df P w K mg base 7 "_law_rule" ["_law_told"] (spLRule C))
    (hr : Room 7 (cxOf CX0 P w K mg base nEq "_law_equal_right" (defScope sLEqualRight) f cdv A outer s H E).nox.A) :
    ∃ tr : TS, PSs (cxOf CX0 P w K mg base nEq "_law_equal_right" (defScope sLEqualRight) f cdv A outer s H E).nox ((defBody sLEqualRight).drop 4) tr ∧ ∀ (D : Ends) (G : Hp) (v : V) (l q y nn : Addr) (r : Fr) (m : Int) (xs : List Int) (vs : List V) (v5 : Option V) (Z : Hp),
      Wd G l r m q xs → RAt R C G y r m xs → G nn = some (.lst vs) → vs.length ≤ 3 → (∀ u ∈ vs, RowV R C r m xs G u) → Same Z G → Z nn = none → nn ≠ q → (∀ G', Same Z G' → D.rt (.bl true) G') →
      tr D [some v, some (.ref l), some (.int m), some (.ref q), some (.ref y), v5, some (.ref nn), none] G := by
  obtain ⟨f1, fd1, G1, g1, k1, b1⟩ := D1.ex
  obtain ⟨fI, fdI, MI, GI, bI⟩ := RA.rm.ex
  obtain ⟨tE, hE, qE⟩ := eq_five (f := f) (cdv := cdv) (A := A) (outer := outer) (s := s) (H := H) (E := E) T RA RT D1 hr
  have hu : (cxOf CX0 P w K mg base nEq "_law_equal_right" (defScope sLEqualRight) f cdv A outer s H E).nox.A.units + 64 < cLine := Room.units hr
  refine ⟨_, (pss_cons (ps_if (pt_cmpR (op_neD hu) (pv 3) (pe_lst pa_nil) (nomark _))
      (pss_one (ps_expr (pe_bm PySem.F.plainAttrs_list PySem.F.slot_list_append PySem.F.type_list_append mt_append (pv 6) (pa_cons (pe_make (E := E0) MI GI (hr.mono (by decide)) (by rfl) RA.rm.g bI .nil pass0 (pa_cons (pe_call G1 hr (by rfl) g1 k1 b1 .nil pass0 (pa_cons (pv 1) pa_nil)) (pa_cons (pv 2) (pa_cons (pe_op op_cat (pe_slice sl_list (pv 3) po_none (po_some (pe_un un_neg pe_int))) (pe_lst (pa_cons (pe_op op_add (pe_ix ix_list (pv 3) (pe_un un_neg pe_int) (fun _ _ => rfl)) pe_int) pa_nil))) pa_nil)))) pa_nil)))) pss_nil)
    hE), ?_⟩
  intro D G v l q y nn r m xs vs v5 Z W ra hn hv rv sZ Zn nq fin
  refine ⟨_, rfl, (by show 0 ≤ sizeLine; decide), fun e ne => ?_⟩
  have s1 : Same G (upd G e (.lst [])) := same_new ne
  have he : upd G e (.lst []) e = some (.lst []) := upd_same
  generalize upd G e (.lst []) = G2 at s1 he ⊢
  have W1 := W.keep s1
  have ra1 := ra.keep s1
  have hn1 := s1 _ _ hn
  refine ⟨_, .list [], .lst (SqL.of W1.hq) (dpInts xs), .lst (SqL.of he) .nil, sh_ints _, sh_ints [], _, rfl, ?_⟩
  rw [eqv_nil]
  rcases List.eq_nil_or_concat xs with rfl | ⟨ys, z, ex⟩
  · exact iteF (qE D G2 v l q y nn r m [] vs v5 W1 ra1 hn1 (by omega) (fun u hu => (rv u hu).keep s1) fun G' sG => fin G' (sZ.trans (s1.trans sG)))
  · rw [List.concat_eq_append] at ex
    subst ex
    rw [show (!(ys ++ [z]).isEmpty) = true by simp]
    have zb := W.bd z (by simp)
    refine iteT ⟨_, rfl, .inl ⟨rfl, _, SqL.of hn1⟩, _, rfl, l, r, rfl, W1.hl, W.o, fun x1 G3 s3 fa3 => ?_⟩
    have W3 := W1.keep s3
    have hq3 : G3 q = some (.lst (ys.map V.int ++ [V.int z])) := by
      have := W3.hq
      rw [List.map_append] at this
      exact this
    refine ⟨_, rfl, _, rfl, _, rfl, _, rfl, q, _, rfl, SqL.of hq3, fun u nu => ?_⟩
    rw [show ((-1 : Int)) = -1 from rfl, cut_init]
    have s4 : Same G3 (upd G3 u (.lst (ys.map V.int))) := same_new nu
    have hu4 : upd G3 u (.lst (ys.map V.int)) u = some (.lst (ys.map V.int)) := upd_same
    generalize upd G3 u (.lst (ys.map V.int)) = G4 at s4 hu4 ⊢
    refine ⟨_, rfl, _, rfl, q, _, _, _, rfl, rfl, SqL.of (s4 _ _ hq3), atI_last _ _, _, _, rfl, rfl, (by show 1 ≤ sizeLine; decide), fun u5 nu5 => ?_⟩
    have s5 : Same G4 (upd G4 u5 (.lst [.int (z + 1)])) := same_new nu5
    have hu5 : upd G4 u5 (.lst [.int (z + 1)]) u5 = some (.lst [.int (z + 1)]) := upd_same
    generalize upd G4 u5 (.lst [.int (z + 1)]) = G5 at s5 hu5 ⊢
    have ln := W.len
    rw [List.length_append, List.length_singleton] at ln
    refine ⟨u, u5, _, _, rfl, rfl, s5 _ _ hu4, hu5, (by rw [List.length_map]; exact Nat.le_trans (show ys.length + 1 ≤ 30 by omega) (by decide)), fun u6 nu6 => ?_⟩
    have s6 : Same G5 (upd G5 u6 (.lst (ys.map V.int ++ [.int (z + 1)]))) := same_new nu6
    have hu6 : upd G5 u6 (.lst (ys.map V.int ++ [.int (z + 1)])) u6 = some (.lst ((ys ++ [z + 1]).map V.int)) := by rw [upd_same, List.map_append]; rfl
    generalize upd G5 u6 (.lst (ys.map V.int ++ [.int (z + 1)])) = G6 at s6 hu6 ⊢
    have s36 := s4.trans (s5.trans s6)
    have ok6 : okFills (ys ++ [z + 1]) := ⟨by rw [List.length_append, List.length_singleton]; omega, fun x hx => by
      rcases List.mem_append.mp hx with h | h
      · exact W.okF.2 x (List.mem_append_left _ h)
      · rw [List.mem_singleton.mp h]
        rw [e13] at zb
        rw [e15]
        omega⟩
    refine mk_row (R := R) (fa3.keep s36) W.o W.m1 W.m3 W.q1 W.q2 hu6 ok6 fun y7 G7 s7 ra7 => ?_
    have s17 := Same.trans s3 (s36.trans s7)
    have hn7 := s17 _ _ hn1
    refine ⟨nn, _, _, rfl, rfl, hn7, Nat.lt_of_le_of_lt hv (by decide), ?_⟩
    have bt : But nn G7 (upd G7 nn (.lst (vs ++ [.ref y7]))) := But.upd_at
    have hn8 : upd G7 nn (.lst (vs ++ [.ref y7])) nn = some (.lst (vs ++ [.ref y7])) := upd_same
    generalize upd G7 nn (.lst (vs ++ [.ref y7])) = G8 at bt hn8 ⊢
    have W7 := W1.keep s17
    have W8 : Wd G8 l r m q (ys ++ [z]) := ⟨bt _ _ (ne_of W7.hl hn7 (by intro z; cases z)) W7.hl, W.o, W.m1, W.m2, W.q1, W.q2, bt _ _ nq.symm W7.hq, W.len, W.bd⟩
    have sZ7 : Same Z G7 := sZ.trans (s1.trans s17)
    refine qE D G8 v l q y nn r m _ _ v5 W8 ((ra1.keep s17).but hn7 bt) hn8 (by rw [List.length_append, List.length_singleton]; omega) (fun u hu => ?_) fun G' sG => fin G' fun b o eb => sG _ _ (bt _ _ (ne_of_none eb Zn) (sZ7 _ _ eb))
    rcases List.mem_append.mp hu with h | h
    · exact (((rv u h).keep s1).keep s17).but hn7 bt
    · rw [List.mem_singleton.mp h]
      refine ⟨y7, r, m, ys ++ [z + 1], rfl, ra7.but hn7 bt, same_fills _ _ fun z2 => ?_⟩
      have := List.append_cancel_left z2
      simp at this
      omega
theorem ok_lequal {f R C : Addr} {fd : FuncData} (F : Fun K "_law_equal_right" "_law_equal_right" sLEqualRight f fd) (T : Blt mg) (RA : RowA P w K mg base R C) (RT : RowT P w K mg base R C) (D1 : Df P w K mg base 7 "_law_rule" ["_law_told"] (spLRule C)) (D2 : Df P w K mg base 1 "_law_least" ["_law_told", "_law_top"] spLLeast) : FnOk P w K mg base CX0 8 f fd ["_law_pen_here", "_law_told", "_law_top", "_law_fills_so"] spEqr := by
  obtain ⟨f1, fd1, G1, g1, k1, b1⟩ := D1.ex
  obtain ⟨f2, fd2, G2, g2, k2, b2⟩ := D2.ex
  obtain ⟨fI, fdI, MI, GI, bI⟩ := RA.rm.ex
  refine F.ok scEq (fun vs H Q E h => ?_) (fun cdv A outer s H vs Q E hr h => ?_)
  · obtain ⟨v, l, r, m, q, xs, rfl, _⟩ := h
    rfl
  · obtain ⟨v, l, r, m, q, xs, rfl, W, kk⟩ := h
    obtain ⟨tE, hE, qE⟩ := eq_four (f := f) (cdv := cdv) (A := A) (outer := outer) (s := s) (H := H) (E := E) T RA RT D1 hr
    refine ⟨_, (pss_cons (ps_set (i := 4) scEq.nd rfl (by first | exact .inl rfl | exact .inr rfl) (pe_make (E := E0) MI GI (hr.mono (by decide)) (by rfl) RA.rm.g bI .nil pass0 (pa_cons (pe_call G1 hr (by rfl) g1 k1 b1 .nil pass0 (pa_cons (pv 1) pa_nil)) (pa_cons (pv 2) (pa_cons (pv 3) pa_nil)))))
    (pss_cons (ps_set (i := 5) scEq.nd rfl (.inl rfl) (pe_op op_catA (pe_slice sl_tupA (pv 1) po_none (po_some pe_int)) (pe_tup (pa_cons (pe_ifExp (pt_cmpR op_eq (pe_ix ix_tup (pv 1) pe_int (fun _ _ => rfl)) pe_int (nomark _)) (pe_op op_sub (pe_ix ix_tup (pv 1) pe_int (fun _ _ => rfl)) pe_int) (pe_op op_add (pe_ix ix_tup (pv 1) pe_int (fun _ _ => rfl)) pe_int)) pa_nil))))
    (pss_cons (ps_set (i := 6) scEq.nd rfl (.inl rfl) (pe_lst (pa_cons (pe_make (E := E0) MI GI (hr.mono (by decide)) (by rfl) RA.rm.g bI .nil pass0 (pa_cons (pe_call G1 hr (by rfl) g1 k1 b1 .nil pass0 (pa_cons (pv 1) pa_nil)) (pa_cons (pv 2) (pa_cons (pe_op op_cat (pv 3) (pe_lst (pa_cons pe_int pa_nil))) pa_nil)))) (pa_cons (pe_make (E := E0) MI GI (hr.mono (by decide)) (by rfl) RA.rm.g bI .nil pass0 (pa_cons (pe_call G1 hr (by rfl) g1 k1 b1 .nil pass0 (pa_cons (pv 5) pa_nil)) (pa_cons (pv 2) (pa_cons (pv 3) pa_nil)))) pa_nil))))
    (pss_cons (ps_if (pt_chain op_le op_le pe_int (pe_call G2 (hr.mono (by decide)) (by rfl) g2 k2 b2 .nil pass0 (pa_cons (pv 1) (pa_cons (pe_op op_add (pv 2) pe_int) pa_nil))) (pe_op op_add (pv 2) pe_int))
      (pss_one (ps_expr (pe_bm PySem.F.plainAttrs_list PySem.F.slot_list_append PySem.F.type_list_append mt_append (pv 6) (pa_cons (pe_make (E := E0) MI GI (hr.mono (by decide)) (by rfl) RA.rm.g bI .nil pass0 (pa_cons (pe_call G1 hr (by rfl) g1 k1 b1 .nil pass0 (pa_cons (pv 1) pa_nil)) (pa_cons (pe_op op_add (pv 2) pe_int) (pa_cons (pv 3) pa_nil)))) pa_nil)))) pss_nil)
    hE)))), ?_⟩
    refine ⟨_, rfl, l, r, rfl, W.hl, W.o, fun x1 H1 s1 fa1 => ⟨_, rfl, _, rfl, ?_⟩⟩
    have W1 := W.keep s1
    refine mk_row (R := R) fa1 W.o W.m1 W.m3 W.q1 W.q2 W1.hq W.okF fun y H2 s2 ra2 => ?_
    have W2 := W1.keep s2
    -- the other numbers
    refine ⟨_, rfl, _, rfl, slA W2.hl fun a3 H3 s3 h3 => ?_⟩
    have hc : cutV (tupR r) none (some 4) = [.int r.p, .int r.q, .int r.k, .int r.c] := cut_upto (xs := [r.p, r.q, r.k, r.c, r.j]) (e := 4) (by decide) (by show (4 : Int) ≤ 5; decide)
    rw [hc] at h3
    have W3 := W2.keep s3
    have ra3 := ra2.keep s3
    refine ⟨_, rfl, l, _, _, _, rfl, rfl, SqT.of W3.hl, i5_4, rfl, _, rfl, ite2 (fun z => ?a) (fun z => ?b)⟩
    case' a =>
      have z : r.j = 6 := V.int.inj (of_decide_eq_true z)
      refine ⟨_, rfl, l, _, _, _, rfl, rfl, SqT.of W3.hl, i5_4, _, _, rfl, rfl, ?_⟩
      dsimp only
      rw [show r.j - 1 = r.oth.j by show _ = (if r.j = 6 then r.j - 1 else r.j + 1); rw [if_pos z]]
    case' b =>
      have z : ¬ r.j = 6 := fun h => z (decide_eq_true (by rw [h]))
      refine ⟨_, rfl, l, _, _, _, rfl, rfl, SqT.of W3.hl, i5_4, _, _, rfl, rfl, ?_⟩
      dsimp only
      rw [show r.j + 1 = r.oth.j by show _ = (if r.j = 6 then r.j - 1 else r.j + 1); rw [if_neg z]]
    all_goals
      refine ⟨(by show 1 ≤ sizeLine; decide), fun t4 nt4 => ?_⟩
      have s4 : Same H3 (upd H3 t4 (.tup [.int r.oth.j])) := same_new nt4
      have h4 : upd H3 t4 (.tup [.int r.oth.j]) t4 = some (.tup [.int r.oth.j]) := upd_same
      generalize upd H3 t4 (.tup [.int r.oth.j]) = H4 at s4 h4 ⊢
      refine catA (s4 _ _ h3) h4 (by show 4 + 1 ≤ 1000; decide) fun l5 H5 s5 h5 => ?_
      have h5 : H5 l5 = some (.tup (tupR r.oth)) := h5
      have s35 := Same.trans s4 s5
      have W5 := W3.keep s35
      have ra5 := ra3.keep s35
      -- two rows
      refine ⟨_, rfl, l, r, rfl, W5.hl, W.o, fun x6 H6 s6 fa6 => ⟨_, rfl, _, rfl, (by show 1 ≤ sizeLine; decide), fun u7 nu7 => ?_⟩⟩
      have W6 := W5.keep s6
      have s7 : Same H6 (upd H6 u7 (.lst [.int 1])) := same_new nu7
      have h7 : upd H6 u7 (.lst [.int 1]) u7 = some (.lst [.int 1]) := upd_same
      generalize upd H6 u7 (.lst [.int 1]) = H7 at s7 h7 ⊢
      have W7 := W6.keep s7
      have ln := W.len
      refine ⟨q, u7, _, _, rfl, rfl, W7.hq, h7, (by rw [List.length_map]; exact Nat.le_trans (show xs.length + 1 ≤ 30 by omega) (by decide)), fun u8 nu8 => ?_⟩
      have s8 : Same H7 (upd H7 u8 (.lst (xs.map V.int ++ [.int 1]))) := same_new nu8
      have h8 : upd H7 u8 (.lst (xs.map V.int ++ [.int 1])) u8 = some (.lst ((xs ++ [1]).map V.int)) := by rw [upd_same, List.map_append]; rfl
      generalize upd H7 u8 (.lst (xs.map V.int ++ [.int 1])) = H8 at s8 h8 ⊢
      have ok8 : okFills (xs ++ [1]) := ⟨by rw [List.length_append, List.length_singleton]; omega, fun x hx => by
        rcases List.mem_append.mp hx with h | h
        · exact W.okF.2 x h
        · rw [List.mem_singleton.mp h]; decide⟩
      refine mk_row (R := R) ((fa6.keep s7).keep s8) W.o W.m1 W.m3 W.q1 W.q2 h8 ok8 fun y9 H9 s9 ra9 => ?_
      have s59 := Same.trans s6 (s7.trans (s8.trans s9))
      refine ⟨_, rfl, l5, r.oth, rfl, s59 _ _ h5, Fr.oth_ok W.o, fun x10 H10 s10 fa10 => ⟨_, rfl, _, rfl, ?_⟩⟩
      have s510 := Same.trans s59 s10
      have W10 := W5.keep s510
      refine mk_row (R := R) fa10 (Fr.oth_ok W.o) W.m1 W.m3 W.q1 W.q2 W10.hq W.okF fun y11 H11 s11 ra11 => ?_
      refine ⟨(by show 2 ≤ sizeLine; decide), fun nn nnn => ?_⟩
      have s12 : Same H11 (upd H11 nn (.lst [.ref y9, .ref y11])) := same_new nnn
      have h12 : upd H11 nn (.lst [.ref y9, .ref y11]) nn = some (.lst [.ref y9, .ref y11]) := upd_same
      generalize hg : upd H11 nn (.lst [.ref y9, .ref y11]) = H12 at s12 h12 ⊢
      have s912 := Same.trans s10 (Same.trans s11 s12)
      have s512 := Same.trans s59 s912
      have sH : Same H H11 := Same.trans s1 (Same.trans s2 (Same.trans s3 (s35.trans (Same.trans s59 (Same.trans s10 s11)))))
      have Hn : H nn = none := Same.gone sH nnn
      have W12 := W5.keep s512
      have ra12 := ra5.keep s512
      have nq : nn ≠ q := fun z => by rw [z, sH _ _ W.hq] at nnn; cases nnn
      have rv : ∀ u ∈ ([.ref y9, .ref y11] : List V), RowV R C r m xs H12 u := by
        intro u hu
        simp only [List.mem_cons, List.not_mem_nil, or_false] at hu
        rcases hu with rfl | rfl
        · exact ⟨y9, r, m, xs ++ [1], rfl, ra9.keep s912, same_fills _ _ (by simp)⟩
        · exact ⟨y11, r.oth, m, xs, rfl, ra11.keep s12, same_oth _ _ _ _ _⟩
      have sH12 : Same H H12 := sH.trans s12
      have skip := qE { nx := fun _ H' => Q .non H', rt := Q } H12 v l q y nn r m xs _ (some (.ref l5)) H W12 ra12 h12 (by show 2 ≤ 3; decide) rv sH12 Hn nq kk
      refine ⟨_, rfl, _, rfl, _, _, rfl, rfl, l, r, m + 1, rfl, W12.hl, W.o, _, _, rfl, rfl, _, rfl, ?_⟩
      by_cases c1 : 1 ≤ r.least (m + 1)
      case' neg =>
        rw [decide_eq_false c1]
        exact iteF ⟨_, rfl, iteF skip⟩
      rw [decide_eq_true c1]
      refine iteT ⟨_, rfl, _, _, rfl, rfl, _, _, rfl, rfl, _, rfl, ?_⟩
      by_cases c2 : r.least (m + 1) ≤ m + 1
      case' neg =>
        rw [decide_eq_false c2]
        exact iteF skip
      rw [decide_eq_true c2]
      refine iteT ⟨_, rfl, .inl ⟨rfl, _, SqL.of h12⟩, _, rfl, l, r, rfl, W12.hl, W.o, fun x13 H13 s13 fa13 => ⟨_, rfl, _, _, rfl, rfl, _, rfl, ?_⟩⟩
      have m4 : m + 1 ≤ 10 ^ 12 := by have := W.m2; rw [e10] at this; rw [e12]; omega
      refine mk_row (R := R) fa13 W.o (by have := W.m1; omega) m4 c1 c2 (s13 _ _ W12.hq) W.okF fun y14 H14 s14 ra14 => ?_
      have s1214 := Same.trans s13 s14
      have hn14 := s1214 _ _ h12
      refine ⟨nn, _, _, rfl, rfl, hn14, (by show 2 < sizeLine; decide), ?_⟩
      have bt : But nn H14 (upd H14 nn (.lst ([.ref y9, .ref y11] ++ [.ref y14]))) := But.upd_at
      have hn15 : upd H14 nn (.lst ([.ref y9, .ref y11] ++ [.ref y14])) nn = some (.lst ([.ref y9, .ref y11] ++ [.ref y14])) := upd_same
      generalize upd H14 nn (.lst ([.ref y9, .ref y11] ++ [.ref y14])) = H15 at bt hn15 ⊢
      have W14 := W12.keep s1214
      have W15 : Wd H15 l r m q xs := ⟨bt _ _ (ne_of W14.hl hn14 (by intro z; cases z)) W14.hl, W.o, W.m1, W.m2, W.q1, W.q2, bt _ _ nq.symm W14.hq, W.len, W.bd⟩
      refine qE { nx := fun _ H' => Q .non H', rt := Q } H15 v l q y nn r m xs _ (some (.ref l5)) H W15 ((ra12.keep s1214).but hn14 bt) hn15 (by show 3 ≤ 3; decide) (fun u hu => ?_) (fun b o eb => bt _ _ (ne_of_none eb Hn) (s1214 _ _ (sH12 _ _ eb))) Hn nq kk
      rcases List.mem_append.mp hu with h | h
      · exact ((rv u h).keep s1214).but hn14 bt
      · rw [List.mem_singleton.mp h]
        exact ⟨y14, r, m + 1, xs, rfl, ra14.but hn14 bt, same_most _ _ _ (by omega)⟩
end
end Ev
namespace Ev
open PySem L2 PySem.Spec PyProof.Rows RZ LamX
/-! Rows that are refused: what the law asks. -/
theorem OddV.extP {lo hi : Int} {p L : Addr} {b : Int} {H H' : Hp} {v : V} {d : PyData} (h : OddV lo hi H v d) (pn : Pen L H p b) (k : ExtP p H H') : OddV lo hi H' v d := by
  obtain ⟨ns, t, c, hp, _⟩ := pn
  cases h with
  | non => exact .non
  | int i a b c e => exact .int i a b c e
  | bl b => exact .bl b
  | str x a e => exact .str x a e
  | tup i z e => exact .tup i z (k _ _ (ne_of e hp (by intro z; cases z)) e (fun _ z => by cases z))
  | lst e => exact .lst (k _ _ (ne_of e hp (by intro z; cases z)) e (fun _ z => by cases z))
  | dct e => exact .dct (k _ _ (ne_of e hp (by intro z; cases z)) e (fun _ z => by cases z))
theorem FAt.extP {C p L x : Addr} {b : Int} {H H' : Hp} {r : Fr} (h : FAt C H x r) (pn : Pen L H p b) (k : ExtP p H H') : FAt C H' x r := by
  obtain ⟨ns, t, c, hp, _⟩ := pn
  obtain ⟨dx, a, h1, h2⟩ := h
  exact ⟨dx, a, k _ _ (ne_of h1 hp (by intro z; cases z)) h1 (fun _ z => by cases z), k _ _ (ne_of h2 hp (by intro z; cases z)) h2 (fun _ z => by cases z)⟩
/-- neither a list nor a tuple, also when the pen has moved -/
inductive Worse (C p : Addr) (H : Hp) : V → Prop
  | any {v : V} {T : String} : (∀ (K : PySem.W.Frag) H', TyX K H' v (.type T)) → kitB T "list" = some false → kitB T "tuple" = some false → Worse C p H v
  | dct {a : Addr} {kvs : List (Key × V)} : a ≠ p → H a = some (.dK kvs) → Worse C p H (.ref a)
  | ins {a dx : Addr} {fs : List (Str × V)} : a ≠ p → H a = some (.ins C dx fs) → Worse C p H (.ref a)
theorem Worse.ext {C p : Addr} {H H' : Hp} {v : V} (h : Worse C p H v) (k : ExtP p H H') : Worse C p H' v := by
  cases h with
  | any e n m => exact .any e n m
  | dct n e => exact .dct n (k _ _ n e (fun _ z => by cases z))
  | ins n e => exact .ins n (k _ _ n e (fun _ z => by cases z))
theorem Worse.no {K : PySem.W.Frag} {C p : Addr} {H : Hp} {v : V} (I : FTwo K C) (hk : PySem.W.kitAny K (.ref C) [.type "list", .type "tuple"] = some false) (h : Worse C p H v) : NoSeq K H v := by
  cases h with
  | any e n m => exact ⟨_, fun H' _ => e K H', noSeq_kit n m⟩
  | dct n e => exact ⟨.type "dict", fun H' k => .base (.dK (k _ _ e (fun _ z => by cases z))), noSeq_kit (by decide +kernel) (by decide +kernel)⟩
  | ins n e => exact ⟨.ref C, fun H' k => tyF I (k _ _ e (fun _ z => by cases z)), hk⟩
/-- no fill of a page -/
inductive Thg (p : Addr) (H : Hp) : V → Prop
  | scal {v : V} : (∀ H', IntQ H' v) → inB 1 (10 ^ 15) v = false → Thg p H v
  | tup {a : Addr} {xs : List V} : a ≠ p → H a = some (.tup xs) → Thg p H (.ref a)
  | lst {a : Addr} {xs : List V} : a ≠ p → H a = some (.lst xs) → Thg p H (.ref a)
  | dct {a : Addr} {kvs : List (Key × V)} : a ≠ p → H a = some (.dK kvs) → Thg p H (.ref a)
theorem Thg.ext {p : Addr} {H H' : Hp} {v : V} (h : Thg p H v) (k : ExtP p H H') : Thg p H' v := by
  cases h with
  | scal e n => exact .scal e n
  | tup n e => exact .tup n (k _ _ n e (fun _ z => by cases z))
  | lst n e => exact .lst n (k _ _ n e (fun _ z => by cases z))
  | dct n e => exact .dct n (k _ _ n e (fun _ z => by cases z))
theorem Thg.q {p : Addr} {H : Hp} {v : V} (h : Thg p H v) : IntQ H v ∧ inB 1 (10 ^ 15) v = false := by
  cases h with
  | scal e n => exact ⟨e H, n⟩
  | tup n e => exact ⟨.inr (noInt_tup e), rfl⟩
  | lst n e => exact ⟨.inr (noInt_lst e), rfl⟩
  | dct n e => exact ⟨.inr (noInt_dct e), rfl⟩
theorem lstP {p L a : Addr} {b : Int} {H H' : Hp} {xs : List V} (n : a ≠ p) (e : H a = some (.lst xs)) (k : ExtP p H H') : H' a = some (.lst xs) := k _ _ n e (fun _ z => by cases z)
theorem tupP {p L a : Addr} {b : Int} {H H' : Hp} {xs : List V} (pn : Pen L H p b) (e : H a = some (.tup xs)) (k : ExtP p H H') : H' a = some (.tup xs) := by
  obtain ⟨ns, t, c, hp, _⟩ := pn
  exact k _ _ (ne_of e hp (by intro z; cases z)) e (fun _ z => by cases z)
/-- the row's makings that are refused -/
structure RowR (P : Program) (w : World) (K : PySem.W.Frag) (mg : Str → Option Value) (base : Heap) (R C B N O G T : Addr) : Prop where
  g : mg "Row" = some (.ref R)
  two : FTwo K C
  hk : PySem.W.kitAny K (.ref C) [.type "list", .type "tuple"] = some false
  mx : ∃ (f : Addr) (fd : FuncData), Mk K R f ∧ FnOk P w K mg base (L2.CX P w) 8 f fd ["self", "rule", "most", "fills"] (spRowX K R C B N O T) ∧ Binds K fd ["self", "rule", "most", "fills"] []
  mp : ∃ (f : Addr) (fd : FuncData) (g : List Value → List Value → List Value), Mk K R f ∧ FnOk P w K mg base (L2.CX P w) 5 f fd ["self", "rule", "most", "fills"] (spRowP R C G) ∧ KBn K fd ["self", "rule", "most", "fills"] 1 ["fills", "most", "rule"] g (fun vs zs => vs ++ zs.reverse)
theorem keep2 {H : Hp} {x dx : Addr} {o1 o2 : HO} (nx : H x = none) (ndx : H dx = none) : Same H (upd (upd H dx o1) x o2) := fun b u e => by
  rw [upd_ne (ne_of_none e nx), upd_ne (ne_of_none e ndx)]; exact e
abbrev nRf : List Str := ["_law_pen_here", "_law_told", "_law_top", "_law_made", "_law_odd", "_law_wrong", "_law_worse", "_law_thing", "_law_row", "_law_at", "_law_lap", "_law_some", "_law_heard_here", "_law_due"]
def fiveD (x : Str) (i : Int) : PyData := .list [.tuple [.str "rule", .str "rule"], .tuple [.str "number", .str x], .tuple [.str "other", .str "fills"], .tuple [.str "pages", .int 2000], .tuple [.str "pages", .int i]]
theorem five_shaped {x : Str} {i : Int} (h : (PyData.str x).canLay0 = true) : SeqAt.shaped (fiveD x i) = true := by
  have e1 : (PyData.str ("rule" : Str)).canLay0 = true := by decide +kernel
  have e2 : (PyData.str ("number" : Str)).canLay0 = true := by decide +kernel
  have e3 : (PyData.str ("other" : Str)).canLay0 = true := by decide +kernel
  have e4 : (PyData.str ("fills" : Str)).canLay0 = true := by decide +kernel
  have e5 : (PyData.str ("pages" : Str)).canLay0 = true := by decide +kernel
  unfold SeqAt.shaped
  rw [Bool.and_eq_true]
  refine ⟨?_, by simp [PyData.depth, PyData.depthAll, fiveD]⟩
  simp only [fiveD, PyData.canLay0, PyData.canLayAll0, Bool.and_true, Bool.and_eq_true] at h e1 e2 e3 e4 e5 ⊢
  exact ⟨⟨e1, e1⟩, ⟨e2, h⟩, ⟨e3, e4⟩, e5, e5⟩
section
variable {P : Program} {w : World} {K : PySem.W.Frag} {mg : Str → Option Value} {base : Heap}
theorem scRf : FnScope nRf ["_law_pen_here", "_law_told", "_law_top"] (defScope sLRefusedRight) := ⟨rfl, rfl, rfl, by decide +kernel, rfl, by decide +kernel, by decide +kernel⟩
theorem rf_lam {f B N O G T FE cc TT fh : Addr} {TL : List (Addr × Str)} {fdh : FuncData} {q : Str} {A : Around} {outer : List Env} {s : Shared} {H : Hp} {E : XK} (L : Blt mg) (TB : TabB base mg cc TT) (hTL : (TT, q) ∈ TL) (hTL2 : ∀ p ∈ TL, p.1 = TT → p.2 = q)
    (hq : q = (envOfC "_law_refused_right" (defScope sLRefusedRight) 0 f (.ref cc)).qual ++ ("<lambda>" : Str)) (HH : HeardB P w K mg B N O G T FE fh fdh)
    (hr : Room 11 (cxOf CX0 P w K mg base nRf "_law_refused_right" (defScope sLRefusedRight) f (.ref cc) A outer s H E).nox.A) (gd : (cxOf CX0 P w K mg base nRf "_law_refused_right" (defScope sLRefusedRight) f (.ref cc) A outer s H E).nox.A.guards = some [])
    {params : Arguments} {body : Expr} {scope : Scope} {lpos pos p : Pos} {t : XK → TE} (LS : LamS (defScope sLRefusedRight) scope) (hdef : defaultsOf params (cxOf CX0 P w K mg base nRf "_law_refused_right" (defScope sLRefusedRight) f (.ref cc) A outer s H E).env = ([], []))
    (hbind : ∀ (q : Str) (cl : List (Str × Addr)) (pm cv ctv : Value), bindArgs (PySem.W.kla_fn "<lambda>" q params body scope cl pm cv ctv) ⟨[], []⟩ = pure [])
    (hbody : ∀ (A' : Around) (outer' : List Env) (s' : Shared) (H' : Hp) (E' : XK) (f' c' : Addr), Room 9 (A'.deeper (lamEnv (cxOf CX0 P w K mg base nRf "_law_refused_right" (defScope sLRefusedRight) f (.ref cc) A outer s H E).nox scope s'.heap.objs.size f' c')) →
      PE (lamCx (cxOf CX0 P w K mg base nRf "_law_refused_right" (defScope sLRefusedRight) f (.ref cc) A outer s H E).nox A' outer' s' H' E' scope f' c') body (t E')) :
    PE (cxOf CX0 P w K mg base nRf "_law_refused_right" (defScope sLRefusedRight) f (.ref cc) A outer s H E).nox (.Call (.Name "_law_heard" p) [.Lambda params body scope lpos] [] pos) (tLam TL (THeard K B N O G T) t) := by
  have kh := HH.F.kp
  obtain ⟨och, odh, kVh, doch, pmh, anh, cdvh, cth, oslh, rfl, lkh, hcdh⟩ := HH.F.ex
  have hq' : q = (cxOf CX0 P w K mg base nRf "_law_refused_right" (defScope sLRefusedRight) f (.ref cc) A outer s H E).nox.env.qual ++ ("<lambda>" : Str) := hq
  subst hq'
  have h4 : Gl (cxOf CX0 P w K mg base nRf "_law_refused_right" (defScope sLRefusedRight) f (.ref cc) A outer s H E).nox "_law_heard" := by rfl
  refine pe_lamcall (X := (cxOf CX0 P w K mg base nRf "_law_refused_right" (defScope sLRefusedRight) f (.ref cc) A outer s H E).nox) (k := 9) (T := TL) (TT := THeard K B N O G T) (x := "_law_heard") (a := "_law_ask") (g := fh) (c := cc) (P := TT) (pg := defArgs sLHeard) (bg := defBody sLHeard) (sg := defScope sLHeard)
    (Ng := ["_law_ask", "_law_caught", "error", "_law_found"]) h4 HH.g kh lkh hcdh HH.b scHeard ?_ ?_ ?_ ?_ ?_ ?_ ?_ ?_ ?_ ?_ ?_ ?_ ?_ ?_ ?_
  · rfl
  · exact .inl rfl
  · exact heard_gives gd hr L HH.mr HH.mv HH.z
  · exact TB
  · rfl
  · exact hTL
  · exact hTL2
  · exact hr
  · exact LS
  · exact hdef
  · exact hbind
  · exact hbody
  · decide
  · decide
  · decide
end
end Ev
namespace Ev
open PySem L2 PySem.Spec PyProof.Rows RZ LamX
def rTupL (K : PySem.W.Frag) : List V → Hp → VK → Prop := fun xs H Q => ∃ p ys, xs = [.ref p] ∧ ((SqL K H p ys ∧ ∀ l, H l = none → Q (.ref l) (upd H l (.tup ys))) ∨ (SqT K H p ys ∧ Q (.ref p) H))
section
variable {P : Program} {w : World} {K : PySem.W.Frag} {mg : Str → Option Value} {base : Heap}
theorem rf_heard {f R C B N O G T FE cc TT fh : Addr} {TL : List (Addr × Str)} {fdh : FuncData} {q : Str} {A : Around} {outer : List Env} {s : Shared} {H : Hp} {E : XK} (L : Blt mg) (TB : TabB base mg cc TT) (hTL : (TT, q) ∈ TL) (hTL2 : ∀ p ∈ TL, p.1 = TT → p.2 = q)
    (hq : q = (envOfC "_law_refused_right" (defScope sLRefusedRight) 0 f (.ref cc)).qual ++ ("<lambda>" : Str)) (HH : HeardB P w K mg B N O G T FE fh fdh) (RR : RowR P w K mg base R C B N O G T)
    (hr : Room 11 (cxOf CX0 P w K mg base nRf "_law_refused_right" (defScope sLRefusedRight) f (.ref cc) A outer s H E).nox.A) (gd : (cxOf CX0 P w K mg base nRf "_law_refused_right" (defScope sLRefusedRight) f (.ref cc) A outer s H E).nox.A.guards = some []) :
    ∃ t : TS, PSs (cxOf CX0 P w K mg base nRf "_law_refused_right" (defScope sLRefusedRight) f (.ref cc) A outer s H E).nox ((defBody sLRefusedRight).drop 7) t ∧ ∀ (D : Ends) (Z : Hp) (p Lp x xl sl : Addr) (b : Int) (r : Fr) (m at' : Int) (v1 v10 : Option V) (od wr wo th : V) (dw : PyData) (xs : List Int) (ex : List V),
      FAt C Z x r → r.ok → 2 ≤ m → m ≤ 10 ^ 12 → 1 ≤ r.least m → r.least m ≤ m → OddR K p Z od → OddV 2 (10 ^ 12) Z wr dw → Worse C p Z wo → Thg p Z th → Z xl = some (.lst (xs.map V.int)) → xl ≠ p → xs.length ≤ 7 → (∀ n ∈ xs, 1 ≤ n ∧ n ≤ 9) → 0 ≤ at' → at' ≤ 7 →
      Z sl = some (.lst ((xs.take at'.toNat).map V.int ++ [th] ++ (xs.drop at'.toNat).map V.int ++ ex)) → sl ≠ p → ex.length ≤ 1 → Pen Lp Z p b → Tabs TL Z →
      (∀ G', ExtP p Z G' → Pen Lp G' p b → Tabs TL G' → D.rt (.bl true) G') →
      t D [some (.ref p), v1, some (.int m), some (.ref x), some od, some wr, some wo, some th, some (.ref xl), some (.int at'), v10, some (.ref sl), none, none] Z := by
  obtain ⟨f1, fd1, M1, G1, b1⟩ := RR.mx
  obtain ⟨f2, fd2, g2, M2, G2, b2⟩ := RR.mp
  have mr := HH.mr
  have hu : (cxOf CX0 P w K mg base nRf "_law_refused_right" (defScope sLRefusedRight) f (.ref cc) A outer s H E).nox.A.units + 64 < cLine := Room.units hr
  refine ⟨_, (pss_cons (ps_set (i := 12) scRf.nd rfl (.inl rfl) (pe_lst (pa_cons (rf_lam L TB hTL hTL2 hq HH hr gd (lamS_by (by decide +kernel)) rfl (fun _ _ _ _ _ => rfl) (fun _ _ _ _ E' _ _ hrL => pe_make (E := E') M1 G1 hrL (by rfl) RR.g b1 .nil (passes_call (takes_of rfl rfl rfl rfl) (fun _ _ _ _ h => h)) (pa_cons (pv 4) (pa_cons (pv 5) (pa_cons (pv 6) pa_nil))))) pa_nil)))
    (pss_cons (ps_expr (pe_bm PySem.F.plainAttrs_list PySem.F.slot_list_append PySem.F.type_list_append mt_append (pv 12) (pa_cons (rf_lam L TB hTL hTL2 hq HH hr gd (lamS_by (by decide +kernel)) rfl (fun _ _ _ _ _ => rfl) (fun _ _ _ _ E' _ _ hrL => pe_make (E := E') M1 G1 hrL (by rfl) RR.g b1 .nil (passes_call (takes_of rfl rfl rfl rfl) (fun _ _ _ _ h => h)) (pa_cons (pv 3) (pa_cons (pv 5) (pa_cons (pv 6) pa_nil))))) pa_nil)))
    (pss_cons (ps_expr (pe_bm PySem.F.plainAttrs_list PySem.F.slot_list_append PySem.F.type_list_append mt_append (pv 12) (pa_cons (rf_lam L TB hTL hTL2 hq HH hr gd (lamS_by (by decide +kernel)) rfl (fun _ _ _ _ _ => rfl) (fun _ _ _ _ E' _ _ hrL => pe_make (E := E') M1 G1 hrL (by rfl) RR.g b1 .nil (passes_call (takes_of rfl rfl rfl rfl) (fun _ _ _ _ h => h)) (pa_cons (pv 3) (pa_cons (pv 2) (pa_cons (pv 6) pa_nil))))) pa_nil)))
    (pss_cons (ps_expr (pe_bm PySem.F.plainAttrs_list PySem.F.slot_list_append PySem.F.type_list_append mt_append (pv 12) (pa_cons (rf_lam L TB hTL hTL2 hq HH hr gd (lamS_by (by decide +kernel)) rfl (fun _ _ _ _ _ => rfl) (fun _ _ _ _ E' _ _ hrL => pe_make (E := E') M1 G1 hrL (by rfl) RR.g b1 .nil (passes_call (takes_of rfl rfl rfl rfl) (fun _ _ _ _ h => h)) (pa_cons (pv 3) (pa_cons (pv 2) (pa_cons (pe_op op_rep (pe_lst (pa_cons (pv 7) pa_nil)) pe_int) pa_nil))))) pa_nil)))
    (pss_cons (ps_expr (pe_bm PySem.F.plainAttrs_list PySem.F.slot_list_append PySem.F.type_list_append mt_append (pv 12) (pa_cons (rf_lam L TB hTL hTL2 hq HH hr gd (lamS_by (by decide +kernel)) rfl (fun _ _ _ _ _ => rfl) (fun _ _ _ _ E' _ _ hrL => pe_makeK0 (E := E') M2 G2 (hrL.mono (by decide)) (by rfl) RR.g b2 (passes_call (takes_of rfl rfl rfl rfl) (fun _ _ _ _ h => h)) (pk_cons (pe_callTy (r := rTupL K) (T := "tuple") call_tuple_of (by rfl) L.tuple (by decide +kernel) (pa_cons (pv 11) pa_nil)) (pk_cons (pv 2) (pk_cons (pv 3) pk_nil))))) pa_nil)))
    (pss_cons (ps_set (i := 13) scRf.nd rfl (.inl rfl) (pe_lst (pa_cons (pe_tup (pa_cons pe_str (pa_cons pe_str pa_nil))) (pa_cons (pe_tup (pa_cons pe_str (pa_cons (pe_callB (call_reprV gd hu) (by rfl) mr (by decide +kernel) (pa_cons (pv 5) pa_nil)) pa_nil))) (pa_cons (pe_tup (pa_cons pe_str (pa_cons pe_str pa_nil))) (pa_cons (pe_tup (pa_cons pe_str (pa_cons pe_int pa_nil))) (pa_cons (pe_tup (pa_cons pe_str (pa_cons (pe_callB (call_min2 rfl) (by rfl) L.min (by decide +kernel) (pa_cons (pe_callTy call_int1 (by rfl) L.int (by decide +kernel) (pa_cons (pv 9) pa_nil)) (pa_cons (pe_callB call_len_seq (by rfl) L.len PySem.boot_len (pa_cons (pv 8) pa_nil)) pa_nil))) pa_nil))) pa_nil)))))))
    (pss_one (ps_ret (pe_cmpR (op_eqD hu) (pv 12) (pv 13) (nomark _)))))))))), ?_⟩
  intro D Z p Lp x xl sl b r m at' v1 v10 od wr wo th dw xs ex fa o m1 m2 q1 q2 hod hwr hwo hth hxl xp hlen hxs a0 a7 hsl sp hex pn hT fin
  have k10 : xs.length + 2 ≤ 900 := by omega
  -- the first
  refine lam_rule (N' := N) "rule" hT (fun H1 E' Q' e1 hO => ?_) fun r1 H1 G1 e1 T1 s1 hr1 => ⟨(by show 1 ≤ sizeLine; decide), fun mm nm => ?_⟩
  · obtain ⟨t, ty, kt⟩ := OddR.ty RR.two.it (hod.ext (ExtN.p e1))
    refine ⟨_, rfl, _, rfl, _, rfl, fun y dx ny nd ne => ?_⟩
    have kp := keep2 (o1 := .own y) (o2 := .ins R dx []) ny nd
    obtain ⟨t2, ty2, kt2⟩ := OddR.ty RR.two.it ((hod.ext (ExtN.p e1)).ext (Ev.Same.p kp))
    exact ⟨y, dx, _, _, _, rfl, upd_same, .inl ⟨t2, ty2, kt2, fun g Hx sx => hO g Hx (kp.trans sx)⟩⟩
  have I1 := Iv.first (z := .str "rule") pn e1 T1 s1 hr1 trivial nm
  generalize upd G1 mm (.lst [.ref r1]) = J1 at I1 ⊢
  clear e1 T1 s1 hr1 nm
  -- the second
  refine app_step (z := .str dw.shown) I1 (by simp) rfl trivial (fun Q k => lam_num (hwr.extP pn I1.x) I1.T (fun H1 E' Q' e1 hv1 told => ⟨_, rfl, _, rfl, _, rfl, fun y dx ny nd ne => ?_⟩) k) fun r2 J2 I2 => ?_
  · have kp := keep2 (o1 := .own y) (o2 := .ins R dx []) ny nd
    have hv2 := hv1.ext (Ev.Same.extN kp)
    exact ⟨y, dx, _, _, _, rfl, upd_same, .inr ⟨x, r, rfl, (fa.extP pn (I1.x.trans (ExtN.p e1))).keep kp, o, .inl ⟨hv2.bad.1, hv2.bad.2, hv2.hold, fun Hx sx => told Hx (kp.trans sx)⟩⟩⟩
  -- the third
  refine app_step (z := .str "fills") I2 (by simp) rfl trivial (fun Q k => lam_oth "fills" I2.T (fun H1 E' Q' e1 hO => ⟨_, rfl, _, rfl, _, rfl, fun y dx ny nd ne => ?_⟩) k) fun r3 J3 I3 => ?_
  · have kp := keep2 (o1 := .own y) (o2 := .ins R dx []) ny nd
    have xx := I2.x.trans (ExtN.p e1)
    exact ⟨y, dx, _, _, _, rfl, upd_same, .inr ⟨x, r, rfl, (fa.extP pn xx).keep kp, o, .inr ⟨m, rfl, m1, m2, q1, q2, .inl ⟨((hwo.ext xx).no RR.two RR.hk).ext (Ev.Same.extN kp), fun Hx sx => hO Hx (kp.trans sx)⟩⟩⟩⟩
  -- the fourth
  refine app_step (z := .int 2000) I3 (by simp) rfl trivial (fun Q k => lam_tm "pages" 2000 I3.T (fun H1 E' Q' e1 hO => ⟨_, rfl, _, rfl, _, rfl, (by show 1 ≤ sizeLine; decide), fun u1 nu1 => ?_⟩) k) fun r4 J4 I4 => ?_
  · have s1 : Same H1 (upd H1 u1 (.lst [th])) := same_new nu1
    have h1 : upd H1 u1 (.lst [th]) u1 = some (.lst [th]) := upd_same
    generalize upd H1 u1 (.lst [th]) = H2 at s1 h1 ⊢
    refine ⟨u1, 2001, _, rfl, rfl, h1, by decide, by decide, (by show 1 * 2001 ≤ sizeLine; rw [sizeLine_eq]; decide), fun u2 nu2 => ?_⟩
    rw [List.flatten_replicate_singleton]
    have s2 : Same H2 (upd H2 u2 (.lst (List.replicate (2001 : Int).toNat th))) := same_new nu2
    have h2 : upd H2 u2 (.lst (List.replicate (2001 : Int).toNat th)) u2 = some (.lst (List.replicate (2001 : Int).toNat th)) := upd_same
    generalize upd H2 u2 (.lst (List.replicate (2001 : Int).toNat th)) = H3 at s2 h2 ⊢
    refine fun y dx ny nd ne => ?_
    have kp := keep2 (o1 := .own y) (o2 := .ins R dx []) ny nd
    have xx := (I3.x.trans (ExtN.p e1)).trans ((Ev.Same.p s1).trans (Ev.Same.p s2))
    exact ⟨y, dx, _, _, _, rfl, upd_same, .inr ⟨x, r, rfl, (fa.extP pn xx).keep kp, o, .inr ⟨m, rfl, m1, m2, q1, q2, .inr ⟨u2, _, rfl, kp _ _ h2, (by rw [List.length_replicate]; decide), fun Hx sx => hO Hx (s1.trans (s2.trans (kp.trans sx)))⟩⟩⟩⟩
  -- the fifth
  have hmin : (if (xs.length : Int) < at' then (xs.length : Int) else at') = ((xs.take at'.toNat).length : Int) := by
    rw [List.length_take]
    split <;> omega
  refine app_step (z := .int ((xs.take at'.toNat).length : Int)) I4 (by simp) rfl trivial (fun Q k => lam_pag _ I4.T (fun H1 E' Q' e1 hO => ⟨_, rfl, sl, _, rfl, .inl ⟨SqL.of (lstP (L := Lp) (b := b) sp hsl (I4.x.trans (ExtN.p e1))), fun t nt => ⟨_, rfl, _, rfl, rfl, rfl, fun y dx ny nd ne => ?_⟩⟩⟩) k) fun r5 J5 I5 => ?_
  · have s1 : Same H1 (upd H1 t (.tup ((xs.take at'.toNat).map V.int ++ [th] ++ (xs.drop at'.toNat).map V.int ++ ex))) := same_new nt
    have h1 : upd H1 t (.tup ((xs.take at'.toNat).map V.int ++ [th] ++ (xs.drop at'.toNat).map V.int ++ ex)) t = some (.tup ((xs.take at'.toNat).map V.int ++ [th] ++ (xs.drop at'.toNat).map V.int ++ ex)) := upd_same
    generalize upd H1 t (.tup ((xs.take at'.toNat).map V.int ++ [th] ++ (xs.drop at'.toNat).map V.int ++ ex)) = H2 at s1 h1 ny nd ⊢
    have kp := keep2 (o1 := .own y) (o2 := .ins R dx []) ny nd
    have xx := (I4.x.trans (ExtN.p e1)).trans ((Ev.Same.p s1).trans (Ev.Same.p kp))
    have tq := (hth.ext xx).q
    have lt : ((xs.take at'.toNat).map V.int ++ [th] ++ (xs.drop at'.toNat).map V.int ++ ex).length = xs.length + 1 + ex.length := by
      simp only [List.length_append, List.length_map, List.length_singleton, List.length_take, List.length_drop]
      omega
    have gl : ∀ (j : Nat) (u : V), j < (xs.take at'.toNat).length → ((xs.take at'.toNat).map V.int ++ [th] ++ (xs.drop at'.toNat).map V.int ++ ex)[j]? = some u → ∃ n, u = .int n ∧ 1 ≤ n ∧ n ≤ 9 := by
      intro j u hj hu
      rw [List.append_assoc, List.append_assoc, List.getElem?_append_left (by rw [List.length_map]; exact hj)] at hu
      obtain ⟨n, hn, rfl⟩ := int_at hu
      exact ⟨n, rfl, hxs n (List.mem_of_mem_take (List.mem_of_getElem? hn))⟩
    have ga : ((xs.take at'.toNat).map V.int ++ [th] ++ (xs.drop at'.toNat).map V.int ++ ex)[(xs.take at'.toNat).length]? = some th := by
      rw [List.append_assoc, List.append_assoc, List.getElem?_append_right (by rw [List.length_map]; exact Nat.le_refl _), List.length_map, Nat.sub_self]
      rfl
    refine ⟨y, dx, x, t, r, m, _, (xs.take at'.toNat).length, rfl, upd_same, fa.extP pn xx, o, m1, m2, q1, q2, kp _ _ h1, by omega, by rw [lt, List.length_take]; omega, fun j u hj hu => ?_, fun j u hj hu => ?_, fun u hu => ?_, fun Hx sx => hO Hx (s1.trans (kp.trans sx))⟩
    · rcases Nat.lt_or_ge j (xs.take at'.toNat).length with z | z
      · obtain ⟨n, rfl, _⟩ := gl j u z hu
        exact .inl ⟨n, rfl⟩
      · obtain rfl : j = (xs.take at'.toNat).length := Nat.le_antisymm hj z
        rw [ga] at hu
        obtain rfl := Option.some.inj hu
        exact tq.1
    · obtain ⟨n, rfl, n1, n2⟩ := gl j u hj hu
      exact inB_in n1 (by rw [e15]; omega)
    · rw [ga] at hu
      obtain rfl := Option.some.inj hu
      exact tq.2
  -- what is due
  have hm := I5.hm
  have hlL := I5.hl
  have x5 := I5.x
  have pn5 := I5.pn
  have T5 := I5.T
  have w5 := hwr.extP pn x5
  have hx5 := lstP (L := Lp) (b := b) xp hxl x5
  clear I1 I2 I3 I4 I5
  refine ⟨(by show 2 ≤ sizeLine; decide), fun a1 n1 => ?_⟩
  have g1 : Same J5 (upd J5 a1 (.tup [.str "rule", .str "rule"])) := same_new n1
  have f1 : upd J5 a1 (.tup [.str "rule", .str "rule"]) a1 = some (.tup [.str "rule", .str "rule"]) := upd_same
  generalize upd J5 a1 (.tup [.str "rule", .str "rule"]) = K1 at f1 g1 ⊢
  obtain ⟨u1, u2, u3, u4⟩ := (w5.ext (Ev.Same.extN g1)).vd (K := K)
  refine ⟨_, rfl, wr, dw, rfl, u1, u2, u3, u4, (by show 2 ≤ sizeLine; decide), fun a2 n2 => ?_⟩
  have g2' : Same K1 (upd K1 a2 (.tup [.str "number", .str dw.shown])) := same_new n2
  have f2 : upd K1 a2 (.tup [.str "number", .str dw.shown]) a2 = some (.tup [.str "number", .str dw.shown]) := upd_same
  generalize upd K1 a2 (.tup [.str "number", .str dw.shown]) = K2 at f2 g2' ⊢
  refine ⟨(by show 2 ≤ sizeLine; decide), fun a3 n3 => ?_⟩
  have g3 : Same K2 (upd K2 a3 (.tup [.str "other", .str "fills"])) := same_new n3
  have f3 : upd K2 a3 (.tup [.str "other", .str "fills"]) a3 = some (.tup [.str "other", .str "fills"]) := upd_same
  generalize upd K2 a3 (.tup [.str "other", .str "fills"]) = K3 at f3 g3 ⊢
  refine ⟨(by show 2 ≤ sizeLine; decide), fun a4 n4 => ?_⟩
  have g4 : Same K3 (upd K3 a4 (.tup [.str "pages", .int 2000])) := same_new n4
  have f4 : upd K3 a4 (.tup [.str "pages", .int 2000]) a4 = some (.tup [.str "pages", .int 2000]) := upd_same
  generalize upd K3 a4 (.tup [.str "pages", .int 2000]) = K4 at f4 g4 ⊢
  have g14 := g1.trans (g2'.trans (g3.trans g4))
  refine ⟨_, rfl, .inl ⟨_, rfl, _, rfl, xl, _, rfl, .inl (SqL.of (g14 _ _ hx5)), _, _, rfl, ?_⟩⟩
  rw [List.length_map, hmin]
  refine ⟨(by show 2 ≤ sizeLine; decide), fun a5 n5 => ?_⟩
  have g5 : Same K4 (upd K4 a5 (.tup [.str "pages", .int ((xs.take at'.toNat).length : Int)])) := same_new n5
  have f5 : upd K4 a5 (.tup [.str "pages", .int ((xs.take at'.toNat).length : Int)]) a5 = some (.tup [.str "pages", .int ((xs.take at'.toNat).length : Int)]) := upd_same
  generalize upd K4 a5 (.tup [.str "pages", .int ((xs.take at'.toNat).length : Int)]) = K5 at f5 g5 ⊢
  refine ⟨(by show 5 ≤ sizeLine; decide), fun a6 n6 => ?_⟩
  have g6 : Same K5 (upd K5 a6 (.lst [.ref a1, .ref a2, .ref a3, .ref a4, .ref a5])) := same_new n6
  have f6 : upd K5 a6 (.lst [.ref a1, .ref a2, .ref a3, .ref a4, .ref a5]) a6 = some (.lst [.ref a1, .ref a2, .ref a3, .ref a4, .ref a5]) := upd_same
  generalize upd K5 a6 (.lst [.ref a1, .ref a2, .ref a3, .ref a4, .ref a5]) = K6 at f6 g6 ⊢
  have g46 := g4.trans (g5.trans g6)
  have gA := g1.trans (g2'.trans (g3.trans g46))
  have hl3 : HdL K6 _ _ := hlL.to fun a ys e => gA _ _ e
  have hr3 : HdL K6 [.ref a1, .ref a2, .ref a3, .ref a4, .ref a5] [.tuple [.str "rule", .str "rule"], .tuple [.str "number", .str dw.shown], .tuple [.str "other", .str "fills"], .tuple [.str "pages", .int 2000], .tuple [.str "pages", .int ((xs.take at'.toNat).length : Int)]] :=
    ⟨⟨a1, "rule", .str "rule", rfl, (g2'.trans (g3.trans g46)) _ _ f1, trivial, rfl⟩, ⟨a2, "number", .str dw.shown, rfl, (g3.trans g46) _ _ f2, trivial, rfl⟩, ⟨a3, "other", .str "fills", rfl, g46 _ _ f3, trivial, rfl⟩, ⟨a4, "pages", .int 2000, rfl, (g5.trans g6) _ _ f4, trivial, rfl⟩, ⟨a5, "pages", .int _, rfl, g6 _ _ f5, trivial, rfl⟩, trivial⟩
  refine ⟨_, rfl, _, rfl, fiveD dw.shown ((xs.take at'.toNat).length : Int), fiveD dw.shown ((xs.take at'.toNat).length : Int), .lst (SqL.of (gA _ _ hm)) hl3.dp, .lst (SqL.of f6) hr3.dp, five_shaped w5.lay, five_shaped w5.lay, ?_⟩
  rw [SeqAt.eqv_refl_plain _ (by rfl)]
  exact fin K6 (x5.trans (Ev.Same.p gA)) (pn5.keep gA) (T5.ext gA)
end
end Ev
namespace Ev
open PySem L2 PySem.Spec PyProof.Rows RZ LamX
def spRefu (TL : List (Addr × Str)) : Sp := fun vs H Q _ => ∃ (p Lp l : Addr) (b : Int) (r : Fr) (m : Int), vs = [.ref p, .ref l, .int m] ∧ b ≤ 800000 ∧ Pen Lp H p b ∧ Tabs TL H ∧ H l = some (.tup (tupR r)) ∧ r.ok ∧ 2 ≤ m ∧ m ≤ 10 ^ 12 ∧ 1 ≤ r.least m ∧ r.least m ≤ m ∧ ∀ H', ExtP p H H' → Pen Lp H' p (b + 20) → Tabs TL H' → Q (.bl true) H'
theorem cut_fromI {xs : List Int} {e : Int} (h0 : 0 ≤ e) : cutV (xs.map V.int) (some e) none = (xs.drop e.toNat).map V.int := by
  obtain ⟨k, rfl⟩ := Int.eq_ofNat_of_zero_le h0
  unfold cutV
  rw [HT.sIx_nat, HT.sIx_none, List.length_map, Int.toNat_natCast, ← List.map_drop]
  rcases Nat.le_total k xs.length with z | z
  · rw [Nat.min_eq_left z, List.take_of_length_le (by rw [List.length_map, List.length_drop]; omega)]
  · rw [Nat.min_eq_right z, List.drop_of_length_le z, List.drop_of_length_le (Nat.le_refl _)]
    simp
theorem cut_uptoI {xs : List Int} {e : Int} (h0 : 0 ≤ e) : cutV (xs.map V.int) none (some e) = (xs.take e.toNat).map V.int := by
  obtain ⟨k, rfl⟩ := Int.eq_ofNat_of_zero_le h0
  unfold cutV
  rw [HT.sIx_none, HT.sIx_nat, List.length_map, Int.toNat_natCast, List.drop_zero, Nat.sub_zero, List.map_take]
  rcases Nat.le_total k xs.length with z | z
  · rw [Nat.min_eq_left z]
  · rw [Nat.min_eq_right z, List.take_of_length_le (by rw [List.length_map]; exact Nat.le_refl _), List.take_of_length_le (by rw [List.length_map]; exact z)]
section
variable {P : Program} {w : World} {K : PySem.W.Frag} {mg : Str → Option Value} {base : Heap}
theorem rf_some {f R C B N O G T FE cc TT fh : Addr} {TL : List (Addr × Str)} {fdh : FuncData} {q : Str} {A : Around} {outer : List Env} {s : Shared} {H : Hp} {E : XK} (L : Blt mg) (TB : TabB base mg cc TT) (hTL : (TT, q) ∈ TL) (hTL2 : ∀ p ∈ TL, p.1 = TT → p.2 = q)
    (hq : q = (envOfC "_law_refused_right" (defScope sLRefusedRight) 0 f (.ref cc)).qual ++ ("<lambda>" : Str)) (HH : HeardB P w K mg B N O G T FE fh fdh) (RR : RowR P w K mg base R C B N O G T)
    (D0 : Df P w K mg base 1 "_law_draw" ["_law_pen_here", "_law_many"] spDraw) (D1 : Df P w K mg base 2 "_law_pick" ["_law_pen_here", "_law_some"] spPick)
    (hr : Room 11 (cxOf CX0 P w K mg base nRf "_law_refused_right" (defScope sLRefusedRight) f (.ref cc) A outer s H E).nox.A) (gd : (cxOf CX0 P w K mg base nRf "_law_refused_right" (defScope sLRefusedRight) f (.ref cc) A outer s H E).nox.A.guards = some []) :
    ∃ t : TS, PSs (cxOf CX0 P w K mg base nRf "_law_refused_right" (defScope sLRefusedRight) f (.ref cc) A outer s H E).nox ((defBody sLRefusedRight).drop 5) t ∧ ∀ (D : Ends) (Z : Hp) (p Lp x : Addr) (b : Int) (r : Fr) (m : Int) (v1 : Option V) (od wr wo th : V) (dw : PyData),
      FAt C Z x r → r.ok → 2 ≤ m → m ≤ 10 ^ 12 → 1 ≤ r.least m → r.least m ≤ m → OddR K p Z od → OddV 2 (10 ^ 12) Z wr dw → Worse C p Z wo → Thg p Z th → b ≤ 800005 → Pen Lp Z p b → Tabs TL Z →
      (∀ G', ExtP p Z G' → Pen Lp G' p (b + 15) → Tabs TL G' → D.rt (.bl true) G') →
      t D [some (.ref p), v1, some (.int m), some (.ref x), some od, some wr, some wo, some th, none, none, none, none, none, none] Z := by
  obtain ⟨f0, fd0, G0, g0, k0, b0⟩ := D0.ex
  obtain ⟨f1, fd1, G1, g1, k1, b1⟩ := D1.ex
  obtain ⟨tE, hE, qE⟩ := rf_heard (outer := outer) (s := s) (H := H) (E := E) L TB hTL hTL2 hq HH RR hr gd
  have hr1 := hr.mono (show 1 ≤ 11 by decide)
  have hr2 := hr.mono (show 2 ≤ 11 by decide)
  refine ⟨_, (pss_cons (ps_par (i := 8) (j := 9) (by rfl) scRf.nd rfl rfl (by decide) rfl rfl (pa_cons (pe_lc (own := [("_law_lap", 10)]) (g := gName 10) (tt := tYes) (te := tOp (rI0 fun i j => V.int (i + j)) (tC (.int 1)) (tCall spDraw [] E0 (tCons (tVar 0) (tCons (tC (.int 9)) tNil)))) (by rfl) scRf.nd (pi_range1 (by rfl) L.range (pa_cons (pe_op op_add pe_int (pe_call G0 hr1 (by rfl) g0 k0 b0 .nil pass0 (pa_cons (pv 0) (pa_cons pe_int pa_nil)))) pa_nil)) (blkOk_by (own := [("_law_lap", 10)]) (N := nRf) (sc := defScope sLRefusedRight) (by decide +kernel)) (fun _ _ _ _ _ => pg_name (i := 10) scRf.nd rfl (.inl rfl)) (fun _ _ _ _ _ => pts_nil) (fun _ _ _ _ _ => (pe_op op_add pe_int (pe_call G0 hr1 (by rfl) g0 k0 b0 .nil pass0 (pa_cons (pv 0) (pa_cons pe_int pa_nil)))))) (pa_cons (pe_call G0 hr1 (by rfl) g0 k0 b0 .nil pass0 (pa_cons (pv 0) (pa_cons pe_int pa_nil))) pa_nil)) (by rfl))
    (pss_cons (ps_set (i := 11) scRf.nd rfl (by first | exact .inl rfl | exact .inr rfl) (pe_op op_cat (pe_op op_cat (pe_op op_cat (pe_slice sl_list (pv 8) po_none (po_some (pv 9))) (pe_lst (pa_cons (pv 7) pa_nil))) (pe_slice sl_list (pv 8) (po_some (pv 9)) po_none)) (pe_call G1 hr2 (by rfl) g1 k1 b1 .nil pass0 (pa_cons (pv 0) (pa_cons (pe_lst (pa_cons (pe_lst pa_nil) (pa_cons (pe_lst (pa_cons pe_non pa_nil)) (pa_cons (pe_lst (pa_cons pe_int pa_nil)) pa_nil)))) pa_nil)))))
    hE)), ?_⟩
  intro D Z p Lp x b r m v1 od wr wo th dw fa o m1 m2 q1 q2 hod hwr hwo hth hb pn hT fin
  obtain ⟨py, pe⟩ := pn.some
  refine ⟨_, rfl, p, Lp, _, b, rfl, by decide, by decide, by omega, pn, fun d G2 bt2 pn2 x0 x1 => ⟨_, _, rfl, rfl, ?_⟩⟩
  obtain ⟨n, hn⟩ := Int.eq_ofNat_of_zero_le (show 0 ≤ 1 + d by omega)
  refine ⟨n, (by show [V.int (1 + d)] = _; rw [hn]), by omega, by omega, fun D1' nD => ?_⟩
  have Dp := pn2.ne nD
  have DL := pn2.neL nD
  refine lc_range (lo := 0) (n := n) (fun i H' => ∃ ys : List Int, H' D1' = some (.lst (ys.map V.int)) ∧ ys.length = i ∧ (∀ z ∈ ys, 1 ≤ z ∧ z ≤ 9) ∧ But p G2 H' ∧ Pen Lp H' p (b + 1 + (i : Int))) ⟨[], upd_same, rfl, (fun z hz => by cases hz), But.upd_new nD, (pn2.new nD).mono (by omega)⟩ (fun i H' hi h => ?_) (fun H' h => ?_)
  · obtain ⟨ys, hD, hl, hy, bt, pni⟩ := h
    refine ⟨rfl, ?_⟩
    unfold tYes
    refine iteT ⟨_, rfl, p, Lp, _, _, rfl, by decide, by decide, by omega, pni, fun e G3 bt3 pn3 y0 y1 => ⟨_, _, rfl, rfl, _, bt3 _ _ Dp hD, ?_, ys ++ [1 + e], ?_, by rw [List.length_append, hl]; rfl, fun z hz => ?_, ?_, ?_⟩⟩
    · rw [List.length_map, hl]
      exact Nat.lt_of_lt_of_le (show i < 8 by omega) (by decide)
    · rw [upd_same, List.map_append]; rfl
    · rcases List.mem_append.mp hz with h | h
      · exact hy z h
      · rw [List.mem_singleton.mp h]; omega
    · exact fun c o nc ec => by rw [upd_ne (ne_of_none ec nD)]; exact bt3 _ _ nc (bt _ _ nc ec)
    · exact (pn3.put Dp DL).mono (by omega)
  obtain ⟨xs, hxl, hlen, hxs, bt, pn3⟩ := h
  have len7 : xs.length ≤ 7 := by omega
  refine ⟨_, rfl, p, Lp, _, _, rfl, by decide, by decide, by omega, pn3, fun at' G4 bt4 pn4 a0 a1 => ⟨_, _, rfl, ?_⟩⟩
  have hxl4 := bt4 _ _ Dp hxl
  have B4 : But p Z G4 := bt2.trans (bt.trans bt4)
  refine ⟨_, rfl, _, rfl, _, rfl, D1', _, rfl, SqL.of hxl4, fun c1 nc1 => ?_⟩
  rw [cut_uptoI a0]
  have s1 : Same G4 (upd G4 c1 (.lst ((xs.take at'.toNat).map V.int))) := same_new nc1
  have h1 : upd G4 c1 (.lst ((xs.take at'.toNat).map V.int)) c1 = some (.lst ((xs.take at'.toNat).map V.int)) := upd_same
  generalize upd G4 c1 (.lst ((xs.take at'.toNat).map V.int)) = G5 at s1 h1 ⊢
  refine ⟨_, rfl, (by show 1 ≤ sizeLine; decide), fun c2 nc2 => ?_⟩
  try dsimp only
  have s2 : Same G5 (upd G5 c2 (.lst [th])) := same_new nc2
  have h2 : upd G5 c2 (.lst [th]) c2 = some (.lst [th]) := upd_same
  generalize upd G5 c2 (.lst [th]) = G6 at s2 h2 ⊢
  have lt : ((xs.take at'.toNat).map V.int).length ≤ 7 := by rw [List.length_map, List.length_take]; omega
  refine ⟨c1, c2, _, _, rfl, rfl, s2 _ _ h1, h2, Nat.le_trans (show _ ≤ 7 + 1 from Nat.add_le_add lt (Nat.le_refl 1)) (by decide), fun c3 nc3 => ?_⟩
  have s3 : Same G6 (upd G6 c3 (.lst ((xs.take at'.toNat).map V.int ++ [th]))) := same_new nc3
  have h3 : upd G6 c3 (.lst ((xs.take at'.toNat).map V.int ++ [th])) c3 = some (.lst ((xs.take at'.toNat).map V.int ++ [th])) := upd_same
  generalize upd G6 c3 (.lst ((xs.take at'.toNat).map V.int ++ [th])) = G7 at s3 h3 ⊢
  have s13 := s1.trans (s2.trans s3)
  refine ⟨_, rfl, _, rfl, _, rfl, ?_⟩
  unfold L2.tNoPart
  refine ⟨D1', _, rfl, SqL.of (s13 _ _ hxl4), fun c4 nc4 => ?_⟩
  rw [cut_fromI a0]
  have s4 : Same G7 (upd G7 c4 (.lst ((xs.drop at'.toNat).map V.int))) := same_new nc4
  have h4 : upd G7 c4 (.lst ((xs.drop at'.toNat).map V.int)) c4 = some (.lst ((xs.drop at'.toNat).map V.int)) := upd_same
  generalize upd G7 c4 (.lst ((xs.drop at'.toNat).map V.int)) = G8 at s4 h4 ⊢
  have lt2 : ((xs.drop at'.toNat).map V.int).length ≤ 7 := by rw [List.length_map, List.length_drop]; omega
  have lt1 : ((xs.take at'.toNat).map V.int ++ [th]).length ≤ 8 := by rw [List.length_append]; exact Nat.add_le_add lt (Nat.le_refl 1)
  refine ⟨c3, c4, _, _, rfl, rfl, s4 _ _ h3, h4, Nat.le_trans (show _ ≤ 8 + 7 from Nat.add_le_add lt1 lt2) (by decide), fun c5 nc5 => ?_⟩
  have s5 : Same G8 (upd G8 c5 (.lst ((xs.take at'.toNat).map V.int ++ [th] ++ (xs.drop at'.toNat).map V.int))) := same_new nc5
  have h5 : upd G8 c5 (.lst ((xs.take at'.toNat).map V.int ++ [th] ++ (xs.drop at'.toNat).map V.int)) c5 = some (.lst ((xs.take at'.toNat).map V.int ++ [th] ++ (xs.drop at'.toNat).map V.int)) := upd_same
  generalize upd G8 c5 (.lst ((xs.take at'.toNat).map V.int ++ [th] ++ (xs.drop at'.toNat).map V.int)) = G9 at s5 h5 ⊢
  have s15 := s13.trans (s4.trans s5)
  have pn9 := pn4.keep s15
  refine ⟨_, rfl, (by show 0 ≤ sizeLine; decide), fun e0 ne0 => ?_⟩
  try dsimp only
  have se0 : Same G9 (upd G9 e0 (.lst [])) := same_new ne0
  have he0 : upd G9 e0 (.lst []) e0 = some (.lst []) := upd_same
  have qe0 : e0 ≠ p := pn9.ne ne0
  generalize upd G9 e0 (.lst []) = eG0 at se0 he0 ⊢
  have te0 : Same G9 eG0 := se0
  refine ⟨(by show 1 ≤ sizeLine; decide), fun e1 ne1 => ?_⟩
  try dsimp only
  have se1 : Same eG0 (upd eG0 e1 (.lst [.non])) := same_new ne1
  have he1 : upd eG0 e1 (.lst [.non]) e1 = some (.lst [.non]) := upd_same
  have qe1 : e1 ≠ p := (pn9.keep te0).ne ne1
  generalize upd eG0 e1 (.lst [.non]) = eG1 at se1 he1 ⊢
  have te1 : Same G9 eG1 := te0.trans se1
  refine ⟨(by show 1 ≤ sizeLine; decide), fun e2 ne2 => ?_⟩
  try dsimp only
  have se2 : Same eG1 (upd eG1 e2 (.lst [.int 0])) := same_new ne2
  have he2 : upd eG1 e2 (.lst [.int 0]) e2 = some (.lst [.int 0]) := upd_same
  have qe2 : e2 ≠ p := (pn9.keep te1).ne ne2
  generalize upd eG1 e2 (.lst [.int 0]) = eG2 at se2 he2 ⊢
  have te2 : Same G9 eG2 := te1.trans se2
  refine ⟨(by show 3 ≤ sizeLine; decide), fun ez nez => ?_⟩
  try dsimp only
  have sez : Same eG2 (upd eG2 ez (.lst [.ref e0, .ref e1, .ref e2])) := same_new nez
  have hez : upd eG2 ez (.lst [.ref e0, .ref e1, .ref e2]) ez = some (.lst [.ref e0, .ref e1, .ref e2]) := upd_same
  have qez : ez ≠ p := (pn9.keep te2).ne nez
  generalize upd eG2 ez (.lst [.ref e0, .ref e1, .ref e2]) = eZ at sez hez ⊢
  have tez : Same G9 eZ := te2.trans sez
  have epz := pn9.keep tez
  obtain ⟨ey, ee⟩ := epz.some
  refine ⟨p, ez, Lp, _, (b + 1 + (n : Int) + 1), rfl, hez, qez, (by show 1 ≤ 3; decide), (by show 3 ≤ 1000; decide), by omega, epz, fun ed eH eD eb epn => ?_⟩
  have he0 : eH e0 = some (.lst []) := eb _ _ qe0 ((se1.trans (se2.trans sez)) _ _ he0)
  have he1 : eH e1 = some (.lst [.non]) := eb _ _ qe1 ((se2.trans sez) _ _ he1)
  have he2 : eH e2 = some (.lst [.int 0]) := eb _ _ qe2 (sez _ _ he2)
  have ex : ExtP p G9 eH := (Ev.Same.p tez).trans (But.p eb)
  have eB : But p G9 eH := (Ev.Same.but tez).trans eb
  simp only [List.mem_cons, List.not_mem_nil, or_false] at eD
  have c5p : c5 ≠ p := fun z => by
    obtain ⟨y, e⟩ := (pn4.keep (s13.trans s4)).some
    rw [z, e] at nc5; cases nc5
  have h5e := eb _ _ c5p ((sez) _ _ (((se0.trans (se1.trans se2))) _ _ h5))
  obtain ⟨ca, ev, rfl, he5, hle⟩ : ∃ (ca : Addr) (ev : List V), ed = .ref ca ∧ eH ca = some (.lst ev) ∧ ev.length ≤ 1 := by
    rcases eD with rfl | rfl | rfl
    · exact ⟨_, _, rfl, he0, by decide⟩
    · exact ⟨_, _, rfl, he1, by decide⟩
    · exact ⟨_, _, rfl, he2, by decide⟩
  have lt5 : ((xs.take at'.toNat).map V.int ++ [th] ++ (xs.drop at'.toNat).map V.int).length ≤ 15 := by rw [List.length_append]; exact Nat.add_le_add lt1 lt2
  refine ⟨c5, ca, _, _, rfl, rfl, h5e, he5, Nat.le_trans (show _ ≤ 15 + 1 from Nat.add_le_add lt5 hle) (by decide), fun c6 nc6 => ?_⟩
  have s6 : Same eH (upd eH c6 (.lst ((xs.take at'.toNat).map V.int ++ [th] ++ (xs.drop at'.toNat).map V.int ++ ev))) := same_new nc6
  have h6 : upd eH c6 (.lst ((xs.take at'.toNat).map V.int ++ [th] ++ (xs.drop at'.toNat).map V.int ++ ev)) c6 = some (.lst ((xs.take at'.toNat).map V.int ++ [th] ++ (xs.drop at'.toNat).map V.int ++ ev)) := upd_same
  have c6p : c6 ≠ p := epn.ne nc6
  generalize upd eH c6 (.lst ((xs.take at'.toNat).map V.int ++ [th] ++ (xs.drop at'.toNat).map V.int ++ ev)) = W at s6 h6 ⊢
  have BW : But p Z W := B4.trans ((Same.but s15).trans (eB.trans (Same.but s6)))
  have xW : ExtP p Z W := But.p BW
  have TW : Tabs TL W := Ev.Tabs.but hT pe BW
  have hxlW : W D1' = some (.lst (xs.map V.int)) := s6 _ _ (eB _ _ Dp (s15 _ _ hxl4))
  refine qE D W p Lp x D1' c6 _ r m at' v1 _ od wr wo th dw xs ev (fa.extP pn xW) o m1 m2 q1 q2 (hod.ext xW) (hwr.extP pn xW) (hwo.ext xW) (hth.ext xW) hxlW Dp len7 hxs a0 (by omega) h6 c6p hle (epn.keep s6) TW fun G' xx pp tt => fin G' (xW.trans xx) (pp.mono (by omega)) tt
end
end Ev
namespace Ev
open PySem L2 PySem.Spec PyProof.Rows RZ LamX
theorem lay_int (i : Int) : (PyData.str (PyData.int i).shown).canLay0 = true := by
  show PyData.strOk (Str.ofString (toString i)) = true
  rw [PyData.strOk, Str.ofString_eq_toList, List.all_toArray, List.all_eq_true]
  intro n hn
  obtain ⟨c, hc, rfl⟩ := List.mem_map.mp hn
  have := int_ascii i c hc
  exact decide_eq_true (by omega)
theorem len_int {i : Int} (h : i.natAbs ≤ 10 ^ 40) : i.natAbs.log2 < 1920 ∧ (PyData.int i).shown.length ≤ sizeLine := by
  have e : i.natAbs.log2 < 1920 := by
    by_cases z : i.natAbs = 0
    · rw [z]; decide
    · exact (Nat.log2_lt z).mpr (Nat.lt_of_le_of_lt h (by decide +kernel))
  exact ⟨e, int_text_fits e⟩
theorem oddInt {lo hi : Int} {H : Hp} {i : Int} (h : ¬ (lo ≤ i ∧ i ≤ hi)) (z : i.natAbs ≤ 10 ^ 40) : OddV lo hi H (.int i) (.int i) := .int i h (len_int z).1 (len_int z).2 (lay_int i)
theorem scalI {p : Addr} {H : Hp} {i : Int} (h : ¬ (1 ≤ i ∧ i ≤ 10 ^ 15)) : Thg p H (.int i) := .scal (fun _ => .inl ⟨i, rfl⟩) (by
  rw [Bool.eq_false_iff]
  intro z
  have z : (decide (1 ≤ i) && decide (i ≤ 10 ^ 15)) = true := z
  rw [Bool.and_eq_true] at z
  exact h ⟨of_decide_eq_true z.1, of_decide_eq_true z.2⟩)
section
variable {P : Program} {w : World} {K : PySem.W.Frag} {mg : Str → Option Value} {base : Heap}
theorem ok_lrefused {f R C B N O G T FE cc TT fh : Addr} {TL : List (Addr × Str)} {fd fdh : FuncData} {q : Str} (F : Fun K "_law_refused_right" "_law_refused_right" sLRefusedRight f fd) (L : Blt mg) (hc : fd.code = .ref cc) (TB : TabB base mg cc TT) (hTL : (TT, q) ∈ TL) (hTL2 : ∀ p ∈ TL, p.1 = TT → p.2 = q)
    (hq : q = (envOfC "_law_refused_right" (defScope sLRefusedRight) 0 f (.ref cc)).qual ++ ("<lambda>" : Str)) (HH : HeardB P w K mg B N O G T FE fh fdh) (RR : RowR P w K mg base R C B N O G T)
    (D0 : Df P w K mg base 1 "_law_draw" ["_law_pen_here", "_law_many"] spDraw) (D1 : Df P w K mg base 2 "_law_pick" ["_law_pen_here", "_law_some"] spPick) (D2 : Df P w K mg base 7 "_law_rule" ["_law_told"] (spLRule C)) : FnG P w K mg base 12 f fd ["_law_pen_here", "_law_told", "_law_top"] (spRefu TL) := by
  obtain ⟨f1, fd1, G1, g1, k1, b1⟩ := D1.ex
  obtain ⟨f2, fd2, G2, g2, k2, b2⟩ := D2.ex
  refine fng_code F scRf (fun vs H Q E h => ?_) (fun cdv ecd A outer s H vs Q E hr gd h => ?_)
  · obtain ⟨p, Lp, l, b, r, m, rfl, _⟩ := h
    rfl
  · obtain ⟨p, Lp, l, b, r, m, rfl, hb, pn0, hT, hl, o, m1, m2, q1, q2, kk⟩ := h
    obtain rfl : cdv = .ref cc := ecd.symm.trans hc
    obtain ⟨tE, hE, qE⟩ := rf_some (outer := outer) (s := s) (H := H) (E := E) L TB hTL hTL2 hq HH RR D0 D1 hr gd
    have hr2 := hr.mono (show 2 ≤ 11 by decide)
    refine ⟨_, (pss_cons (ps_set (i := 3) scRf.nd rfl (by first | exact .inl rfl | exact .inr rfl) (pe_call G2 (hr.mono (by decide)) (by rfl) g2 k2 b2 .nil pass0 (pa_cons (pv 1) pa_nil)))
    (pss_cons (ps_set (i := 4) scRf.nd rfl (by first | exact .inl rfl | exact .inr rfl) (pe_call G1 hr2 (by rfl) g1 k1 b1 .nil pass0 (pa_cons (pv 0) (pa_cons (pe_lst (pa_cons pe_non (pa_cons pe_int (pa_cons pe_str (pa_cons (pe_tup (pa_cons pe_int (pa_cons pe_int pa_nil))) (pa_cons (pe_lst pa_nil) (pa_cons pe_bl pa_nil))))))) pa_nil))))
    (pss_cons (ps_set (i := 5) scRf.nd rfl (by first | exact .inl rfl | exact .inr rfl) (pe_call G1 hr2 (by rfl) g1 k1 b1 .nil pass0 (pa_cons (pv 0) (pa_cons (pe_lst (pa_cons pe_non (pa_cons pe_int (pa_cons pe_int (pa_cons (pe_un un_neg pe_int) (pa_cons pe_bl (pa_cons pe_str (pa_cons (pe_op op_add (pe_op op_pow pe_int pe_int) pe_int) (pa_cons (pe_op op_pow pe_int pe_int) (pa_cons (pe_tup (pa_cons pe_int pa_nil)) (pa_cons (pe_lst pa_nil) pa_nil))))))))))) pa_nil))))
    (pss_cons (ps_set (i := 6) scRf.nd rfl (by first | exact .inl rfl | exact .inr rfl) (pe_call G1 hr2 (by rfl) g1 k1 b1 .nil pass0 (pa_cons (pv 0) (pa_cons (pe_lst (pa_cons pe_non (pa_cons pe_int (pa_cons pe_str (pa_cons pe_dnewK (pa_cons (pe_disp (pps_cons pe_int pe_int pps_nil) rfl rfl (by simp) (by decide)) (pa_cons pe_bl (pa_cons (pv 3) pa_nil)))))))) pa_nil))))
    (pss_cons (ps_set (i := 7) scRf.nd rfl (by first | exact .inl rfl | exact .inr rfl) (pe_call G1 hr2 (by rfl) g1 k1 b1 .nil pass0 (pa_cons (pv 0) (pa_cons (pe_lst (pa_cons pe_non (pa_cons pe_int (pa_cons (pe_un un_neg pe_int) (pa_cons pe_bl (pa_cons pe_str (pa_cons (pe_op op_add (pe_op op_pow pe_int pe_int) pe_int) (pa_cons (pe_tup (pa_cons pe_int pa_nil)) (pa_cons (pe_lst (pa_cons pe_int pa_nil)) (pa_cons pe_dnewK pa_nil)))))))))) pa_nil))))
    hE))))), ?_⟩
    have e12' : (10 : Int) ^ Int.toNat 12 = 1000000000000 := by decide
    have e15' : (10 : Int) ^ Int.toNat 15 = 1000000000000000 := by decide
    refine ⟨_, rfl, l, r, rfl, hl, o, fun x Z0 s0 fa => ?_⟩
    have pn := pn0.keep s0
    obtain ⟨py, pe⟩ := id pn.some
    obtain ⟨dx, ax, hx, _⟩ := id fa
    have xp : x ≠ p := ne_of hx pe (by intro z; cases z)
    refine ⟨_, rfl, (by show 2 ≤ sizeLine; decide), fun u3 nu3 => ?_⟩
    try dsimp only
    have su3 : Same Z0 (upd Z0 u3 (.tup [.int 1, .int 2])) := same_new nu3
    have hu3 : upd Z0 u3 (.tup [.int 1, .int 2]) u3 = some (.tup [.int 1, .int 2]) := upd_same
    have qu3 : u3 ≠ p := pn.ne nu3
    generalize upd Z0 u3 (.tup [.int 1, .int 2]) = uG3 at su3 hu3 ⊢
    have tu3 : Same Z0 uG3 := su3
    refine ⟨(by show 0 ≤ sizeLine; decide), fun u4 nu4 => ?_⟩
    try dsimp only
    have su4 : Same uG3 (upd uG3 u4 (.lst [])) := same_new nu4
    have hu4 : upd uG3 u4 (.lst []) u4 = some (.lst []) := upd_same
    have qu4 : u4 ≠ p := (pn.keep tu3).ne nu4
    generalize upd uG3 u4 (.lst []) = uG4 at su4 hu4 ⊢
    have tu4 : Same Z0 uG4 := tu3.trans su4
    refine ⟨(by show 6 ≤ sizeLine; decide), fun uz nuz => ?_⟩
    try dsimp only
    have suz : Same uG4 (upd uG4 uz (.lst [.non, .int 0, .str "fill 1/2 0 1 2", .ref u3, .ref u4, .bl true])) := same_new nuz
    have huz : upd uG4 uz (.lst [.non, .int 0, .str "fill 1/2 0 1 2", .ref u3, .ref u4, .bl true]) uz = some (.lst [.non, .int 0, .str "fill 1/2 0 1 2", .ref u3, .ref u4, .bl true]) := upd_same
    have quz : uz ≠ p := (pn.keep tu4).ne nuz
    generalize upd uG4 uz (.lst [.non, .int 0, .str "fill 1/2 0 1 2", .ref u3, .ref u4, .bl true]) = uZ at suz huz ⊢
    have tuz : Same Z0 uZ := tu4.trans suz
    have upz := pn.keep tuz
    obtain ⟨uy, ue⟩ := upz.some
    refine ⟨p, uz, Lp, _, b, rfl, huz, quz, (by show 1 ≤ 6; decide), (by show 6 ≤ 1000; decide), by omega, upz, fun ud uH uD ub upn => ?_⟩
    have hu3 : uH u3 = some (.tup [.int 1, .int 2]) := ub _ _ qu3 ((su4.trans suz) _ _ hu3)
    have hu4 : uH u4 = some (.lst []) := ub _ _ qu4 (suz _ _ hu4)
    have ux : ExtP p Z0 uH := (Ev.Same.p tuz).trans (But.p ub)
    have uB : But p Z0 uH := (Ev.Same.but tuz).trans ub
    simp only [List.mem_cons, List.not_mem_nil, or_false] at uD
    have hod : OddR K p uH ud := by
      rcases uD with rfl | rfl | rfl | rfl | rfl | rfl
      · exact .any (T := "NoneType") (l := ["NoneType", "object"]) (fun _ => .base .non) (by decide +kernel)
      · exact .any (T := "int") (l := ["int", "object"]) (fun _ => .base (.int 0)) (by decide +kernel)
      · exact .any (T := "str") (l := ["str", "object"]) (fun _ => .base (.str _)) (by decide +kernel)
      · exact .tup qu3 hu3
      · exact .lst qu4 hu4
      · exact .any (T := "bool") (l := ["bool", "int", "object"]) (fun _ => .base (.bl true)) (by decide +kernel)
    refine ⟨_, rfl, _, rfl, _, _, rfl, rfl, ⟨by decide, by decide, by decide⟩, _, _, rfl, rfl, _, _, rfl, rfl, ⟨by decide, by decide, by decide⟩, (by show 1 ≤ sizeLine; decide), fun v8 nv8 => ?_⟩
    try dsimp only
    have sv8 : Same uH (upd uH v8 (.tup [.int 6])) := same_new nv8
    have hv8 : upd uH v8 (.tup [.int 6]) v8 = some (.tup [.int 6]) := upd_same
    have qv8 : v8 ≠ p := upn.ne nv8
    generalize upd uH v8 (.tup [.int 6]) = vG8 at sv8 hv8 ⊢
    have tv8 : Same uH vG8 := sv8
    refine ⟨(by show 0 ≤ sizeLine; decide), fun v9 nv9 => ?_⟩
    try dsimp only
    have sv9 : Same vG8 (upd vG8 v9 (.lst [])) := same_new nv9
    have hv9 : upd vG8 v9 (.lst []) v9 = some (.lst []) := upd_same
    have qv9 : v9 ≠ p := (upn.keep tv8).ne nv9
    generalize upd vG8 v9 (.lst []) = vG9 at sv9 hv9 ⊢
    have tv9 : Same uH vG9 := tv8.trans sv9
    refine ⟨(by show 10 ≤ sizeLine; decide), fun vz nvz => ?_⟩
    try dsimp only
    have svz : Same vG9 (upd vG9 vz (.lst [.non, .int 1, .int 0, .int (-3), .bl true, .str "6", .int (10 ^ Int.toNat 12 + 1), .int (10 ^ Int.toNat 40), .ref v8, .ref v9])) := same_new nvz
    have hvz : upd vG9 vz (.lst [.non, .int 1, .int 0, .int (-3), .bl true, .str "6", .int (10 ^ Int.toNat 12 + 1), .int (10 ^ Int.toNat 40), .ref v8, .ref v9]) vz = some (.lst [.non, .int 1, .int 0, .int (-3), .bl true, .str "6", .int (10 ^ Int.toNat 12 + 1), .int (10 ^ Int.toNat 40), .ref v8, .ref v9]) := upd_same
    have qvz : vz ≠ p := (upn.keep tv9).ne nvz
    generalize upd vG9 vz (.lst [.non, .int 1, .int 0, .int (-3), .bl true, .str "6", .int (10 ^ Int.toNat 12 + 1), .int (10 ^ Int.toNat 40), .ref v8, .ref v9]) = vZ at svz hvz ⊢
    have tvz : Same uH vZ := tv9.trans svz
    have vpz := upn.keep tvz
    obtain ⟨vy, ve⟩ := vpz.some
    refine ⟨p, vz, Lp, _, (b + 1), rfl, hvz, qvz, (by show 1 ≤ 10; decide), (by show 10 ≤ 1000; decide), by omega, vpz, fun vd vH vD vb vpn => ?_⟩
    have hv8 : vH v8 = some (.tup [.int 6]) := vb _ _ qv8 ((sv9.trans svz) _ _ hv8)
    have hv9 : vH v9 = some (.lst []) := vb _ _ qv9 (svz _ _ hv9)
    have vx : ExtP p uH vH := (Ev.Same.p tvz).trans (But.p vb)
    have vB : But p uH vH := (Ev.Same.but tvz).trans vb
    simp only [List.mem_cons, List.not_mem_nil, or_false] at vD
    obtain ⟨dw, hwr⟩ : ∃ dw, OddV 2 (10 ^ 12) vH vd dw := by
      rcases vD with rfl | rfl | rfl | rfl | rfl | rfl | rfl | rfl | rfl | rfl
      · exact ⟨_, .non⟩
      · exact ⟨_, oddInt (by omega) (by decide)⟩
      · exact ⟨_, oddInt (by omega) (by decide)⟩
      · exact ⟨_, oddInt (by omega) (by decide)⟩
      · exact ⟨_, .bl _⟩
      · exact ⟨_, .str _ (by decide +kernel) (by decide +kernel)⟩
      · exact ⟨_, oddInt (by rw [e12', e12]; omega) (by rw [e12']; decide)⟩
      · exact ⟨_, oddInt (by rw [e12]; intro z; exact absurd z.2 (by decide)) (by decide)⟩
      · exact ⟨_, .tup 6 (.inr rfl) hv8⟩
      · exact ⟨_, .lst hv9⟩
    refine ⟨_, rfl, fun x3 nx3 => ?_⟩
    try dsimp only
    have sx3 : Same vH (upd vH x3 (.dK [])) := same_new nx3
    have hx3 : upd vH x3 (.dK []) x3 = some (.dK []) := upd_same
    have qx3 : x3 ≠ p := vpn.ne nx3
    generalize upd vH x3 (.dK []) = xG3 at sx3 hx3 ⊢
    have tx3 : Same vH xG3 := sx3
    refine fun x4 nx4 => ?_
    have ex4 : upd (upd xG3 x4 (.dK [])) x4 (.dK (mergeK [] [(.inl 1, .int 2)])) = upd xG3 x4 (.dK [(.inl 1, .int 2)]) := by rw [upd_upd]; rfl
    refine ⟨upd_same, [(.inl 1, .int 2)], rfl, (by decide), ?_⟩
    try dsimp only
    rw [ex4]
    try dsimp only
    have sx4 : Same xG3 (upd xG3 x4 (.dK [(.inl 1, .int 2)])) := same_new nx4
    have hx4 : upd xG3 x4 (.dK [(.inl 1, .int 2)]) x4 = some (.dK [(.inl 1, .int 2)]) := upd_same
    have qx4 : x4 ≠ p := (vpn.keep tx3).ne nx4
    generalize upd xG3 x4 (.dK [(.inl 1, .int 2)]) = xG4 at sx4 hx4 ⊢
    have tx4 : Same vH xG4 := tx3.trans sx4
    refine ⟨_, rfl, (by show 7 ≤ sizeLine; decide), fun xz nxz => ?_⟩
    try dsimp only
    have sxz : Same xG4 (upd xG4 xz (.lst [.non, .int 3, .str "1 2", .ref x3, .ref x4, .bl true, .ref x])) := same_new nxz
    have hxz : upd xG4 xz (.lst [.non, .int 3, .str "1 2", .ref x3, .ref x4, .bl true, .ref x]) xz = some (.lst [.non, .int 3, .str "1 2", .ref x3, .ref x4, .bl true, .ref x]) := upd_same
    have qxz : xz ≠ p := (vpn.keep tx4).ne nxz
    generalize upd xG4 xz (.lst [.non, .int 3, .str "1 2", .ref x3, .ref x4, .bl true, .ref x]) = xZ at sxz hxz ⊢
    have txz : Same vH xZ := tx4.trans sxz
    have xpz := vpn.keep txz
    obtain ⟨xy, xe⟩ := xpz.some
    refine ⟨p, xz, Lp, _, (b + 1 + 1), rfl, hxz, qxz, (by show 1 ≤ 7; decide), (by show 7 ≤ 1000; decide), by omega, xpz, fun xd xH xD xb xpn => ?_⟩
    have hx3 : xH x3 = some (.dK []) := xb _ _ qx3 ((sx4.trans sxz) _ _ hx3)
    have hx4 : xH x4 = some (.dK [(.inl 1, .int 2)]) := xb _ _ qx4 (sxz _ _ hx4)
    have xx : ExtP p vH xH := (Ev.Same.p txz).trans (But.p xb)
    have xB : But p vH xH := (Ev.Same.but txz).trans xb
    simp only [List.mem_cons, List.not_mem_nil, or_false] at xD
    have fa3 : FAt C xH x r := ((fa.extP pn ux).extP upn vx).extP vpn xx
    have hx3' := hx3
    obtain ⟨dx3, ax3, hx3, _⟩ := id fa3
    have hwo : Worse C p xH xd := by
      rcases xD with rfl | rfl | rfl | rfl | rfl | rfl | rfl
      · exact .any (T := "NoneType") (fun _ _ => .base .non) (by decide +kernel) (by decide +kernel)
      · exact .any (T := "int") (fun _ _ => .base (.int _)) (by decide +kernel) (by decide +kernel)
      · exact .any (T := "str") (fun _ _ => .base (.str _)) (by decide +kernel) (by decide +kernel)
      · exact .dct qx3 hx3'
      · exact .dct qx4 hx4
      · exact .any (T := "bool") (fun _ _ => .base (.bl _)) (by decide +kernel) (by decide +kernel)
      · exact .ins xp hx3
    refine ⟨_, rfl, _, rfl, _, _, rfl, rfl, ⟨by decide, by decide, by decide⟩, _, _, rfl, rfl, (by show 1 ≤ sizeLine; decide), fun y6 ny6 => ?_⟩
    try dsimp only
    have sy6 : Same xH (upd xH y6 (.tup [.int 3])) := same_new ny6
    have hy6 : upd xH y6 (.tup [.int 3]) y6 = some (.tup [.int 3]) := upd_same
    have qy6 : y6 ≠ p := xpn.ne ny6
    generalize upd xH y6 (.tup [.int 3]) = yG6 at sy6 hy6 ⊢
    have ty6 : Same xH yG6 := sy6
    refine ⟨(by show 1 ≤ sizeLine; decide), fun y7 ny7 => ?_⟩
    try dsimp only
    have sy7 : Same yG6 (upd yG6 y7 (.lst [.int 3])) := same_new ny7
    have hy7 : upd yG6 y7 (.lst [.int 3]) y7 = some (.lst [.int 3]) := upd_same
    have qy7 : y7 ≠ p := (xpn.keep ty6).ne ny7
    generalize upd yG6 y7 (.lst [.int 3]) = yG7 at sy7 hy7 ⊢
    have ty7 : Same xH yG7 := ty6.trans sy7
    refine fun y8 ny8 => ?_
    try dsimp only
    have sy8 : Same yG7 (upd yG7 y8 (.dK [])) := same_new ny8
    have hy8 : upd yG7 y8 (.dK []) y8 = some (.dK []) := upd_same
    have qy8 : y8 ≠ p := (xpn.keep ty7).ne ny8
    generalize upd yG7 y8 (.dK []) = yG8 at sy8 hy8 ⊢
    have ty8 : Same xH yG8 := ty7.trans sy8
    refine ⟨(by show 9 ≤ sizeLine; decide), fun yz nyz => ?_⟩
    try dsimp only
    have syz : Same yG8 (upd yG8 yz (.lst [.non, .int 0, .int (-1), .bl true, .str "3", .int (10 ^ Int.toNat 15 + 1), .ref y6, .ref y7, .ref y8])) := same_new nyz
    have hyz : upd yG8 yz (.lst [.non, .int 0, .int (-1), .bl true, .str "3", .int (10 ^ Int.toNat 15 + 1), .ref y6, .ref y7, .ref y8]) yz = some (.lst [.non, .int 0, .int (-1), .bl true, .str "3", .int (10 ^ Int.toNat 15 + 1), .ref y6, .ref y7, .ref y8]) := upd_same
    have qyz : yz ≠ p := (xpn.keep ty8).ne nyz
    generalize upd yG8 yz (.lst [.non, .int 0, .int (-1), .bl true, .str "3", .int (10 ^ Int.toNat 15 + 1), .ref y6, .ref y7, .ref y8]) = yZ at syz hyz ⊢
    have tyz : Same xH yZ := ty8.trans syz
    have ypz := xpn.keep tyz
    obtain ⟨yy, ye⟩ := ypz.some
    refine ⟨p, yz, Lp, _, (b + 1 + 1 + 1), rfl, hyz, qyz, (by show 1 ≤ 9; decide), (by show 9 ≤ 1000; decide), by omega, ypz, fun yd yH yD yb ypn => ?_⟩
    have hy6 : yH y6 = some (.tup [.int 3]) := yb _ _ qy6 ((sy7.trans (sy8.trans syz)) _ _ hy6)
    have hy7 : yH y7 = some (.lst [.int 3]) := yb _ _ qy7 ((sy8.trans syz) _ _ hy7)
    have hy8 : yH y8 = some (.dK []) := yb _ _ qy8 (syz _ _ hy8)
    have yx : ExtP p xH yH := (Ev.Same.p tyz).trans (But.p yb)
    have yB : But p xH yH := (Ev.Same.but tyz).trans yb
    simp only [List.mem_cons, List.not_mem_nil, or_false] at yD
    have hth : Thg p yH yd := by
      rcases yD with rfl | rfl | rfl | rfl | rfl | rfl | rfl | rfl | rfl
      · exact .scal (fun H' => .inr (noInt_non H')) rfl
      · exact scalI (by omega)
      · exact scalI (by omega)
      · exact .scal (fun H' => .inr (noInt_bl H' _)) rfl
      · exact .scal (fun H' => .inr (noInt_str H' _)) rfl
      · exact scalI (by rw [e15', e15]; omega)
      · exact .tup qy6 hy6
      · exact .lst qy7 hy7
      · exact .dct qy8 hy8
    have fa4 := fa3.extP xpn yx
    have BB : But p Z0 yH := uB.trans (vB.trans (xB.trans yB))
    have TT' : Tabs TL yH := Ev.Tabs.but (hT.ext s0) pe BB
    refine qE { nx := fun _ H' => Q .non H', rt := Q } yH p Lp x _ r m _ ud vd xd yd dw fa4 o m1 m2 q1 q2 (hod.ext ((vx.trans xx).trans yx)) ((hwr.extP vpn xx).extP xpn yx) (hwo.ext yx) hth (by omega) ypn TT' fun G' gx gp gt => ?_
    exact kk G' ((Ev.Same.p s0).trans ((But.p BB).trans gx)) (gp.mono (by omega)) gt
end
end Ev
namespace Ev
open PySem L2 PySem.Spec PyProof.Rows RZ LamX
/-! Pages found, and wrong indexes refused. -/
theorem RAt.extP {R C p Lp y : Addr} {b : Int} {H H' : Hp} {r : Fr} {m : Int} {xs : List Int} (h : RAt R C H y r m xs) (pn : Pen Lp H p b) (k : ExtP p H H') : RAt R C H' y r m xs := by
  obtain ⟨ns, t, c, hp, _⟩ := id pn
  obtain ⟨dx, x, l, h1, h2, h3⟩ := h
  exact ⟨dx, x, l, k _ _ (ne_of h1 hp (by intro z; cases z)) h1 (fun _ z => by cases z), h2.extP pn k, k _ _ (ne_of h3 hp (by intro z; cases z)) h3 (fun _ z => by cases z)⟩
theorem OddV.dp {lo hi : Int} {K : PySem.W.Frag} {H : Hp} {v : V} {d : PyData} (h : OddV lo hi H v d) (n : d.hasDict = false) : Dp K H v d := by
  obtain ⟨vd, _⟩ := h.vd (K := K)
  cases vd with
  | plain dp _ => exact dp
  | dct _ _ _ => simp [PyData.hasDict] at n
theorem sum_nn : ∀ {xs : List Int}, (∀ x ∈ xs, 0 ≤ x) → 0 ≤ xs.sum
  | [], _ => by simp
  | x :: xs, h => by
    have a := h x (by simp)
    have b := sum_nn (xs := xs) (fun y hy => h y (by simp [hy]))
    simp only [List.sum_cons]
    omega
theorem OddV.more {t : Int} {H : Hp} {v : V} {d : PyData} (h : OddV 0 (t - 1) H v d) (e : PyData.eqv d (.int t) = false) : OddV 0 t H v d := by
  cases h with
  | non => exact .non
  | int i a b c l =>
    refine .int i (fun z => ?_) b c l
    have : i ≠ t := fun z => by subst z; simp [PyData.eqv] at e
    exact a ⟨z.1, by omega⟩
  | bl b => exact .bl b
  | str x a l => exact .str x a l
  | tup i z e' => exact .tup i z e'
  | lst e' => exact .lst e'
  | dct e' => exact .dct e'
theorem shaped_int (i : Int) : SeqAt.shaped (.int i) = true := by
  unfold SeqAt.shaped
  rw [Bool.and_eq_true]
  exact ⟨rfl, by simp [PyData.depth]⟩
def triD (x y : Str) : PyData := .list [.tuple [.str "number", .str x], .tuple [.str "number", .str x], .tuple [.str "number", .str y]]
theorem tri_shaped {x y : Str} (h : (PyData.str x).canLay0 = true) (h2 : (PyData.str y).canLay0 = true) : SeqAt.shaped (triD x y) = true := by
  have e : (PyData.str ("number" : Str)).canLay0 = true := by decide +kernel
  unfold SeqAt.shaped
  rw [Bool.and_eq_true]
  refine ⟨?_, by simp [PyData.depth, PyData.depthAll, triD]⟩
  simp only [triD, PyData.canLay0, PyData.canLayAll0, Bool.and_true, Bool.and_eq_true] at h h2 e ⊢
  exact ⟨⟨e, h⟩, ⟨e, h⟩, e, h2⟩
theorem pageAt_in : ∀ (xs : List Int) (k : Nat) (j : Int), (∀ x ∈ xs, 1 ≤ x) → (hk : k < xs.length) → 0 ≤ j → j < xs[k] → pageAt xs ((xs.take k).sum + j) = k
  | [], k, j, _, hk, _, _ => by simp at hk
  | x :: xs, 0, j, _, _, h0, h1 => by
    have h1 : j < x := h1
    show (if (([] : List Int).sum + j) ≥ x then _ else 0) = 0
    rw [List.sum_nil, if_neg (by omega)]
  | x :: xs, k + 1, j, hx, hk, h0, h1 => by
    have hk' : k < xs.length := by simpa using hk
    have ih := pageAt_in xs k j (fun y hy => hx y (List.mem_cons_of_mem _ hy)) hk' h0 (by simpa using h1)
    have n1 : 0 ≤ (xs.take k).sum := sum_nn fun y hy => by have := hx y (List.mem_cons_of_mem _ (List.mem_of_mem_take hy)); omega
    show (if (x :: xs.take k).sum + j ≥ x then pageAt xs ((x :: xs.take k).sum + j - x) + 1 else 0) = k + 1
    rw [List.sum_cons, if_pos (by omega), show x + (xs.take k).sum + j - x = (xs.take k).sum + j by omega, ih]
/-- the row's calls that are refused -/
structure RowO (P : Program) (w : World) (K : PySem.W.Frag) (mg : Str → Option Value) (base : Heap) (R C N : Addr) : Prop where
  pg : ∃ (f : Addr) (fd : FuncData), Meth K R "page_of" f ∧ FnOk P w K mg base CX0 4 f fd ["self", "index"] (spPageOf R C) ∧ Binds K fd ["self", "index"] []
  pgx : ∃ (f : Addr) (fd : FuncData), Meth K R "page_of" f ∧ FnOk P w K mg base (L2.CX P w) 7 f fd ["self", "index"] (spOff R C N 1) ∧ Binds K fd ["self", "index"] []
  tkx : ∃ (f : Addr) (fd : FuncData), Meth K R "take" f ∧ FnOk P w K mg base (L2.CX P w) 7 f fd ["self", "index"] (spOff R C N 1) ∧ Binds K fd ["self", "index"] []
  ptx : ∃ (f : Addr) (fd : FuncData), Meth K R "put" f ∧ FnOk P w K mg base (L2.CX P w) 7 f fd ["self", "ahead"] (spOff R C N 0) ∧ Binds K fd ["self", "ahead"] []
abbrev nPg : List Str := ["_law_pen_here", "_law_told", "_law_top", "_law_fills_so", "_law_row", "_law_ends", "_law_page", "_law_pair", "_law_total", "_law_odd", "_law_heard_here", "_law_due"]
section
variable {P : Program} {w : World} {K : PySem.W.Frag} {mg : Str → Option Value} {base : Heap}
theorem scPg : FnScope nPg ["_law_pen_here", "_law_told", "_law_top", "_law_fills_so"] (defScope sLPagesRight) := ⟨rfl, rfl, rfl, by decide +kernel, rfl, by decide +kernel, by decide +kernel⟩
theorem pg_lam {f B N O G T FE cc TT fh : Addr} {TL : List (Addr × Str)} {fdh : FuncData} {q : Str} {A : Around} {outer : List Env} {s : Shared} {H : Hp} {E : XK} (L : Blt mg) (TB : TabB base mg cc TT) (hTL : (TT, q) ∈ TL) (hTL2 : ∀ p ∈ TL, p.1 = TT → p.2 = q)
    (hq : q = (envOfC "_law_pages_right" (defScope sLPagesRight) 0 f (.ref cc)).qual ++ ("<lambda>" : Str)) (HH : HeardB P w K mg B N O G T FE fh fdh)
    (hr : Room 11 (cxOf CX0 P w K mg base nPg "_law_pages_right" (defScope sLPagesRight) f (.ref cc) A outer s H E).nox.A) (gd : (cxOf CX0 P w K mg base nPg "_law_pages_right" (defScope sLPagesRight) f (.ref cc) A outer s H E).nox.A.guards = some [])
    {params : Arguments} {body : Expr} {scope : Scope} {lpos pos p : Pos} {t : XK → TE} (LS : LamS (defScope sLPagesRight) scope) (hdef : defaultsOf params (cxOf CX0 P w K mg base nPg "_law_pages_right" (defScope sLPagesRight) f (.ref cc) A outer s H E).env = ([], []))
    (hbind : ∀ (q : Str) (cl : List (Str × Addr)) (pm cv ctv : Value), bindArgs (PySem.W.kla_fn "<lambda>" q params body scope cl pm cv ctv) ⟨[], []⟩ = pure [])
    (hbody : ∀ (A' : Around) (outer' : List Env) (s' : Shared) (H' : Hp) (E' : XK) (f' c' : Addr), Room 9 (A'.deeper (lamEnv (cxOf CX0 P w K mg base nPg "_law_pages_right" (defScope sLPagesRight) f (.ref cc) A outer s H E).nox scope s'.heap.objs.size f' c')) →
      PE (lamCx (cxOf CX0 P w K mg base nPg "_law_pages_right" (defScope sLPagesRight) f (.ref cc) A outer s H E).nox A' outer' s' H' E' scope f' c') body (t E')) :
    PE (cxOf CX0 P w K mg base nPg "_law_pages_right" (defScope sLPagesRight) f (.ref cc) A outer s H E).nox (.Call (.Name "_law_heard" p) [.Lambda params body scope lpos] [] pos) (tLam TL (THeard K B N O G T) t) := by
  have kh := HH.F.kp
  obtain ⟨och, odh, kVh, doch, pmh, anh, cdvh, cth, oslh, rfl, lkh, hcdh⟩ := HH.F.ex
  have hq' : q = (cxOf CX0 P w K mg base nPg "_law_pages_right" (defScope sLPagesRight) f (.ref cc) A outer s H E).nox.env.qual ++ ("<lambda>" : Str) := hq
  subst hq'
  have h4 : Gl (cxOf CX0 P w K mg base nPg "_law_pages_right" (defScope sLPagesRight) f (.ref cc) A outer s H E).nox "_law_heard" := by rfl
  refine pe_lamcall (X := (cxOf CX0 P w K mg base nPg "_law_pages_right" (defScope sLPagesRight) f (.ref cc) A outer s H E).nox) (k := 9) (T := TL) (TT := THeard K B N O G T) (x := "_law_heard") (a := "_law_ask") (g := fh) (c := cc) (P := TT) (pg := defArgs sLHeard) (bg := defBody sLHeard) (sg := defScope sLHeard)
    (Ng := ["_law_ask", "_law_caught", "error", "_law_found"]) h4 HH.g kh lkh hcdh HH.b scHeard ?_ ?_ ?_ ?_ ?_ ?_ ?_ ?_ ?_ ?_ ?_ ?_ ?_ ?_ ?_
  · rfl
  · exact .inl rfl
  · exact heard_gives gd hr L HH.mr HH.mv HH.z
  · exact TB
  · rfl
  · exact hTL
  · exact hTL2
  · exact hr
  · exact LS
  · exact hdef
  · exact hbind
  · exact hbody
  · decide
  · decide
  · decide
theorem pg_heard {f R C B N O G T FE cc TT fh : Addr} {TL : List (Addr × Str)} {fdh : FuncData} {q : Str} {A : Around} {outer : List Env} {s : Shared} {H : Hp} {E : XK} (L : Blt mg) (TB : TabB base mg cc TT) (hTL : (TT, q) ∈ TL) (hTL2 : ∀ p ∈ TL, p.1 = TT → p.2 = q)
    (hq : q = (envOfC "_law_pages_right" (defScope sLPagesRight) 0 f (.ref cc)).qual ++ ("<lambda>" : Str)) (HH : HeardB P w K mg B N O G T FE fh fdh) (TR : RowC K R) (RO : RowO P w K mg base R C N)
    (hr : Room 11 (cxOf CX0 P w K mg base nPg "_law_pages_right" (defScope sLPagesRight) f (.ref cc) A outer s H E).nox.A) (gd : (cxOf CX0 P w K mg base nPg "_law_pages_right" (defScope sLPagesRight) f (.ref cc) A outer s H E).nox.A.guards = some []) :
    ∃ t : TS, PSs (cxOf CX0 P w K mg base nPg "_law_pages_right" (defScope sLPagesRight) f (.ref cc) A outer s H E).nox ((defBody sLPagesRight).drop 5) t ∧ ∀ (D : Ends) (Z : Hp) (p Lp y : Addr) (b : Int) (r : Fr) (m : Int) (xs : List Int) (v1 v2 v3 v5 v6 v7 : Option V) (od : V) (dd : PyData),
      RAt R C Z y r m xs → OddV 0 (xs.sum - 1) Z od dd → dd.hasDict = false → SeqAt.shaped dd = true → 0 ≤ xs.sum → xs.sum ≤ 10 ^ 30 → Pen Lp Z p b → Tabs TL Z →
      (∀ G', ExtP p Z G' → Pen Lp G' p b → Tabs TL G' → D.rt (.bl true) G') →
      t D [some (.ref p), v1, v2, v3, some (.ref y), v5, v6, v7, some (.int xs.sum), some od, none, none] Z := by
  obtain ⟨f1, fd1, M1, G1, b1⟩ := RO.pgx
  obtain ⟨f2, fd2, M2, G2, b2⟩ := RO.tkx
  obtain ⟨f3, fd3, M3, G3, b3⟩ := RO.ptx
  have mr := HH.mr
  have hu : (cxOf CX0 P w K mg base nPg "_law_pages_right" (defScope sLPagesRight) f (.ref cc) A outer s H E).nox.A.units + 64 < cLine := Room.units hr
  refine ⟨_, (pss_cons (ps_set (i := 10) scPg.nd rfl (.inl rfl) (pe_lst (pa_cons (pg_lam L TB hTL hTL2 hq HH hr gd (lamS_by (by decide +kernel)) rfl (fun _ _ _ _ _ => rfl) (fun _ _ _ _ E' _ _ hrL => pe_meth (E := E') (pv 4) TR.cl M1 G1 (hrL.mono (by decide)) b1 .nil (passes_call (takes_of rfl rfl rfl rfl) (fun _ _ _ _ h => h)) (pa_cons (pv 9) pa_nil))) pa_nil)))
    (pss_cons (ps_expr (pe_bm PySem.F.plainAttrs_list PySem.F.slot_list_append PySem.F.type_list_append mt_append (pv 10) (pa_cons (pg_lam L TB hTL hTL2 hq HH hr gd (lamS_by (by decide +kernel)) rfl (fun _ _ _ _ _ => rfl) (fun _ _ _ _ E' _ _ hrL => pe_meth (E := E') (pv 4) TR.cl M2 G2 (hrL.mono (by decide)) b2 .nil (passes_call (takes_of rfl rfl rfl rfl) (fun _ _ _ _ h => h)) (pa_cons (pv 9) pa_nil))) pa_nil)))
    (pss_cons (ps_expr (pe_bm PySem.F.plainAttrs_list PySem.F.slot_list_append PySem.F.type_list_append mt_append (pv 10) (pa_cons (pg_lam L TB hTL hTL2 hq HH hr gd (lamS_by (by decide +kernel)) rfl (fun _ _ _ _ _ => rfl) (fun _ _ _ _ E' _ _ hrL => pe_meth (E := E') (pv 4) TR.cl M3 G3 (hrL.mono (by decide)) b3 .nil (passes_call (takes_of rfl rfl rfl rfl) (fun _ _ _ _ h => h)) (pa_cons (pe_ifExp (pt_cmpR (r := rEqD K) (op_eqD (Room.units hrL)) (pv 9) (pv 8) (nomark _)) (pe_op op_add (pv 8) pe_int) (pv 9)) pa_nil))) pa_nil)))
    (pss_cons (ps_set (i := 11) scPg.nd rfl (.inl rfl) (pe_ifExp (pt_cmpR (op_eqD hu) (pv 9) (pv 8) (nomark _)) (pe_callB (call_reprV gd hu) (by rfl) mr (by decide +kernel) (pa_cons (pe_op op_add (pv 8) pe_int) pa_nil)) (pe_callB (call_reprV gd hu) (by rfl) mr (by decide +kernel) (pa_cons (pv 9) pa_nil))))
    (pss_one (ps_ret (pe_cmpR (op_eqD hu) (pv 10) (pe_op op_cat (pe_op op_rep (pe_lst (pa_cons (pe_tup (pa_cons pe_str (pa_cons (pe_callB (call_reprV gd hu) (by rfl) mr (by decide +kernel) (pa_cons (pv 9) pa_nil)) pa_nil))) pa_nil)) pe_int) (pe_lst (pa_cons (pe_tup (pa_cons pe_str (pa_cons (pv 11) pa_nil))) pa_nil))) (nomark _)))))))), ?_⟩
  intro D Z p Lp y b r m xs v1 v2 v3 v5 v6 v7 od dd ra hod hdd hsh s0 s1 pn hT fin
  have mth : ∀ {G' : Hp}, RAt R C G' y r m xs → ∃ dx fs, G' y = some (.ins R dx fs) ∧ fs.lookup ("page_of" : Str) = none ∧ fs.lookup ("take" : Str) = none ∧ fs.lookup ("put" : Str) = none := fun h => by
    obtain ⟨dx, x, l, h1, _, _⟩ := h
    exact ⟨dx, _, h1, row_no _ _ _ (by decide +kernel) (by decide +kernel) (by decide +kernel), row_no _ _ _ (by decide +kernel) (by decide +kernel) (by decide +kernel), row_no _ _ _ (by decide +kernel) (by decide +kernel) (by decide +kernel)⟩
  obtain ⟨v3', d3, e3, o3⟩ : ∃ (v : V) (d : PyData), (PyData.eqv dd (.int xs.sum) = true ∧ v = .int (xs.sum + 1) ∧ d = .int (xs.sum + 1) ∨ PyData.eqv dd (.int xs.sum) = false ∧ v = od ∧ d = dd) ∧ OddV 0 xs.sum Z v d := by
    cases z : PyData.eqv dd (.int xs.sum) with
    | true => exact ⟨_, _, .inl ⟨rfl, rfl, rfl⟩, oddInt (by omega) (by rw [show (10 : Int) ^ 30 = 1000000000000000000000000000000 by decide] at s1; show _ ≤ 10000000000000000000000000000000000000000; omega)⟩
    | false => exact ⟨_, _, .inr ⟨rfl, rfl, rfl⟩, hod.more z⟩
  refine lam_num hod hT (fun H1 E' Q' e1 hv1 told => ?_) fun r1 H1 Ga e1 T1 sa hr1 => ⟨(by show 1 ≤ sizeLine; decide), fun mm nm => ?_⟩
  · have ra1 := ra.ext e1
    obtain ⟨dx, fs, hy, n1, n2, n3⟩ := mth ra1
    exact ⟨_, rfl, y, dx, fs, rfl, hy, n1, _, rfl, y, r, m, xs, od, rfl, ra1, hv1.bad.1, hv1.bad.2, hv1.hold, told⟩
  have I1 := Iv.first (z := .str dd.shown) pn e1 T1 sa hr1 trivial nm
  generalize upd Ga mm (.lst [.ref r1]) = J1 at I1 ⊢
  clear e1 T1 sa hr1 nm
  refine app_step (z := .str dd.shown) I1 (by simp) rfl trivial (fun Q k => lam_num (hod.extP pn I1.x) I1.T (fun H1 E' Q' e1 hv1 told => ?_) k) fun r2 J2 I2 => ?_
  · have ra1 := (ra.extP pn I1.x).ext e1
    obtain ⟨dx, fs, hy, n1, n2, n3⟩ := mth ra1
    exact ⟨_, rfl, y, dx, fs, rfl, hy, n2, _, rfl, y, r, m, xs, od, rfl, ra1, hv1.bad.1, hv1.bad.2, hv1.hold, told⟩
  refine app_step (z := .str d3.shown) I2 (by simp) rfl trivial (fun Q k => lam_num (o3.extP pn I2.x) I2.T (fun H1 E' Q' e1 hv1 told => ?_) k) fun r3 J3 I3 => ?_
  · have xx := I2.x.trans (ExtN.p e1)
    have ra1 := ra.extP pn xx
    have ho1 := hod.extP pn xx
    obtain ⟨dx, fs, hy, n1, n2, n3⟩ := mth ra1
    refine ⟨_, rfl, y, dx, fs, rfl, hy, n3, _, rfl, _, rfl, dd, .int xs.sum, ho1.dp hdd, .int _, hsh, shaped_int _, _, rfl, ?_⟩
    rcases e3 with ⟨z, rfl, rfl⟩ | ⟨z, rfl, rfl⟩
    · rw [z]
      refine iteT ⟨_, rfl, _, _, rfl, rfl, y, r, m, xs, _, rfl, ra1, hv1.bad.1, (by rw [Int.sub_zero]; exact hv1.bad.2), hv1.hold, told⟩
    · rw [z]
      exact iteF ⟨_, rfl, y, r, m, xs, _, rfl, ra1, hv1.bad.1, (by rw [Int.sub_zero]; exact hv1.bad.2), hv1.hold, told⟩
  have hm := I3.hm
  have hlL := I3.hl
  have x3 := I3.x
  have pn3 := I3.pn
  have T3 := I3.T
  have w3 := hod.extP pn x3
  have w4 := o3.extP pn x3
  clear I1 I2 I3
  obtain ⟨u1, u2, u3, u4⟩ := w3.vd (K := K)
  obtain ⟨q1, q2, q3, q4⟩ := w4.vd (K := K)
  refine ⟨_, rfl, _, rfl, dd, .int xs.sum, w3.dp hdd, .int _, hsh, shaped_int _, _, rfl, ite2 (fun z => ?a) (fun z => ?b)⟩
  case' a =>
    obtain ⟨rfl, rfl⟩ : v3' = .int (xs.sum + 1) ∧ d3 = .int (xs.sum + 1) := by
      rcases e3 with ⟨_, h1, h2⟩ | ⟨h, _⟩
      · exact ⟨h1, h2⟩
      · rw [z] at h; cases h
    refine ⟨_, rfl, _, _, rfl, rfl, _, _, rfl, q1, q2, q3, q4, ?_⟩
  case' b =>
    obtain ⟨rfl, rfl⟩ : v3' = od ∧ d3 = dd := by
      rcases e3 with ⟨h, _⟩ | ⟨_, h1, h2⟩
      · exact absurd h z
      · exact ⟨h1, h2⟩
    refine ⟨_, rfl, _, _, rfl, q1, q2, q3, q4, ?_⟩
  case a =>
    refine ⟨_, rfl, _, rfl, od, _, rfl, u1, u2, u3, u4, (by show 2 ≤ sizeLine; decide), fun a1 n1 => ?_⟩
    try dsimp only
    have g1 : Same J3 (upd J3 a1 (.tup [.str "number", .str dd.shown])) := same_new n1
    have f1 : upd J3 a1 (.tup [.str "number", .str dd.shown]) a1 = some (.tup [.str "number", .str dd.shown]) := upd_same
    generalize upd J3 a1 (.tup [.str "number", .str dd.shown]) = K1 at f1 g1 ⊢
    refine ⟨(by show 1 ≤ sizeLine; decide), fun a2 n2 => ?_⟩
    try dsimp only
    have g2' : Same K1 (upd K1 a2 (.lst [.ref a1])) := same_new n2
    have f2 : upd K1 a2 (.lst [.ref a1]) a2 = some (.lst [.ref a1]) := upd_same
    generalize upd K1 a2 (.lst [.ref a1]) = K2 at f2 g2' ⊢
    refine ⟨a2, 2, _, rfl, rfl, f2, by decide, by decide, (by show 1 * 2 ≤ sizeLine; rw [sizeLine_eq]; decide), fun a3 n3 => ?_⟩
    rw [List.flatten_replicate_singleton]
    have g3 : Same K2 (upd K2 a3 (.lst (List.replicate (2 : Int).toNat (.ref a1)))) := same_new n3
    have f3 : upd K2 a3 (.lst (List.replicate (2 : Int).toNat (.ref a1))) a3 = some (.lst [.ref a1, .ref a1]) := upd_same
    generalize upd K2 a3 (.lst (List.replicate (2 : Int).toNat (.ref a1))) = K3 at f3 g3 ⊢
    refine ⟨_, rfl, (by show 2 ≤ sizeLine; decide), fun a4 n4 => ?_⟩
    try dsimp only
    have g4 : Same K3 (upd K3 a4 (.tup [.str "number", .str (PyData.int (xs.sum + 1)).shown])) := same_new n4
    have f4 : upd K3 a4 (.tup [.str "number", .str (PyData.int (xs.sum + 1)).shown]) a4 = some (.tup [.str "number", .str (PyData.int (xs.sum + 1)).shown]) := upd_same
    generalize upd K3 a4 (.tup [.str "number", .str (PyData.int (xs.sum + 1)).shown]) = K4 at f4 g4 ⊢
    refine ⟨(by show 1 ≤ sizeLine; decide), fun a5 n5 => ?_⟩
    try dsimp only
    have g5 : Same K4 (upd K4 a5 (.lst [.ref a4])) := same_new n5
    have f5 : upd K4 a5 (.lst [.ref a4]) a5 = some (.lst [.ref a4]) := upd_same
    generalize upd K4 a5 (.lst [.ref a4]) = K5 at f5 g5 ⊢
    refine ⟨a3, a5, _, _, rfl, rfl, (g4.trans g5) _ _ f3, f5, (by show 2 + 1 ≤ sizeLine; decide), fun a6 n6 => ?_⟩
    have g6 : Same K5 (upd K5 a6 (.lst ([.ref a1, .ref a1] ++ [.ref a4]))) := same_new n6
    have f6 : upd K5 a6 (.lst ([.ref a1, .ref a1] ++ [.ref a4])) a6 = some (.lst [.ref a1, .ref a1, .ref a4]) := upd_same
    generalize upd K5 a6 (.lst ([.ref a1, .ref a1] ++ [.ref a4])) = K6 at f6 g6 ⊢
    have g46 := g5.trans g6
    have g26 := g3.trans (g4.trans g46)
    have gA := g1.trans (g2'.trans g26)
    have hl3 : HdL K6 _ _ := hlL.to fun a ys e => gA _ _ e
    have hr3 : HdL K6 [.ref a1, .ref a1, .ref a4] [.tuple [.str "number", .str dd.shown], .tuple [.str "number", .str dd.shown], .tuple [.str "number", .str (PyData.int (xs.sum + 1)).shown]] :=
      ⟨⟨a1, "number", .str dd.shown, rfl, (g2'.trans g26) _ _ f1, trivial, rfl⟩, ⟨a1, "number", .str dd.shown, rfl, (g2'.trans g26) _ _ f1, trivial, rfl⟩, ⟨a4, "number", .str (PyData.int (xs.sum + 1)).shown, rfl, g46 _ _ f4, trivial, rfl⟩, trivial⟩
    refine ⟨triD dd.shown (PyData.int (xs.sum + 1)).shown, triD dd.shown (PyData.int (xs.sum + 1)).shown, .lst (SqL.of (gA _ _ hm)) hl3.dp, .lst (SqL.of f6) hr3.dp, tri_shaped w3.lay w4.lay, tri_shaped w3.lay w4.lay, ?_⟩
    rw [SeqAt.eqv_refl_plain _ (by rfl)]
    exact fin K6 (x3.trans (Ev.Same.p gA)) (pn3.keep gA) (T3.ext gA)
  case b =>
    refine ⟨_, rfl, _, rfl, _, _, rfl, u1, u2, u3, u4, (by show 2 ≤ sizeLine; decide), fun a1 n1 => ?_⟩
    try dsimp only
    have g1 : Same J3 (upd J3 a1 (.tup [.str "number", .str d3.shown])) := same_new n1
    have f1 : upd J3 a1 (.tup [.str "number", .str d3.shown]) a1 = some (.tup [.str "number", .str d3.shown]) := upd_same
    generalize upd J3 a1 (.tup [.str "number", .str d3.shown]) = K1 at f1 g1 ⊢
    refine ⟨(by show 1 ≤ sizeLine; decide), fun a2 n2 => ?_⟩
    try dsimp only
    have g2' : Same K1 (upd K1 a2 (.lst [.ref a1])) := same_new n2
    have f2 : upd K1 a2 (.lst [.ref a1]) a2 = some (.lst [.ref a1]) := upd_same
    generalize upd K1 a2 (.lst [.ref a1]) = K2 at f2 g2' ⊢
    refine ⟨a2, 2, _, rfl, rfl, f2, by decide, by decide, (by show 1 * 2 ≤ sizeLine; rw [sizeLine_eq]; decide), fun a3 n3 => ?_⟩
    rw [List.flatten_replicate_singleton]
    have g3 : Same K2 (upd K2 a3 (.lst (List.replicate (2 : Int).toNat (.ref a1)))) := same_new n3
    have f3 : upd K2 a3 (.lst (List.replicate (2 : Int).toNat (.ref a1))) a3 = some (.lst [.ref a1, .ref a1]) := upd_same
    generalize upd K2 a3 (.lst (List.replicate (2 : Int).toNat (.ref a1))) = K3 at f3 g3 ⊢
    refine ⟨_, rfl, (by show 2 ≤ sizeLine; decide), fun a4 n4 => ?_⟩
    try dsimp only
    have g4 : Same K3 (upd K3 a4 (.tup [.str "number", .str d3.shown])) := same_new n4
    have f4 : upd K3 a4 (.tup [.str "number", .str d3.shown]) a4 = some (.tup [.str "number", .str d3.shown]) := upd_same
    generalize upd K3 a4 (.tup [.str "number", .str d3.shown]) = K4 at f4 g4 ⊢
    refine ⟨(by show 1 ≤ sizeLine; decide), fun a5 n5 => ?_⟩
    try dsimp only
    have g5 : Same K4 (upd K4 a5 (.lst [.ref a4])) := same_new n5
    have f5 : upd K4 a5 (.lst [.ref a4]) a5 = some (.lst [.ref a4]) := upd_same
    generalize upd K4 a5 (.lst [.ref a4]) = K5 at f5 g5 ⊢
    refine ⟨a3, a5, _, _, rfl, rfl, (g4.trans g5) _ _ f3, f5, (by show 2 + 1 ≤ sizeLine; decide), fun a6 n6 => ?_⟩
    have g6 : Same K5 (upd K5 a6 (.lst ([.ref a1, .ref a1] ++ [.ref a4]))) := same_new n6
    have f6 : upd K5 a6 (.lst ([.ref a1, .ref a1] ++ [.ref a4])) a6 = some (.lst [.ref a1, .ref a1, .ref a4]) := upd_same
    generalize upd K5 a6 (.lst ([.ref a1, .ref a1] ++ [.ref a4])) = K6 at f6 g6 ⊢
    have g46 := g5.trans g6
    have g26 := g3.trans (g4.trans g46)
    have gA := g1.trans (g2'.trans g26)
    have hl3 : HdL K6 _ _ := hlL.to fun a ys e => gA _ _ e
    have hr3 : HdL K6 [.ref a1, .ref a1, .ref a4] [.tuple [.str "number", .str d3.shown], .tuple [.str "number", .str d3.shown], .tuple [.str "number", .str d3.shown]] :=
      ⟨⟨a1, "number", .str d3.shown, rfl, (g2'.trans g26) _ _ f1, trivial, rfl⟩, ⟨a1, "number", .str d3.shown, rfl, (g2'.trans g26) _ _ f1, trivial, rfl⟩, ⟨a4, "number", .str d3.shown, rfl, g46 _ _ f4, trivial, rfl⟩, trivial⟩
    refine ⟨triD d3.shown d3.shown, triD d3.shown d3.shown, .lst (SqL.of (gA _ _ hm)) hl3.dp, .lst (SqL.of f6) hr3.dp, tri_shaped w3.lay w4.lay, tri_shaped w3.lay w4.lay, ?_⟩
    rw [SeqAt.eqv_refl_plain _ (by rfl)]
    exact fin K6 (x3.trans (Ev.Same.p gA)) (pn3.keep gA) (T3.ext gA)
end
end Ev
namespace Ev
open PySem L2 PySem.Spec PyProof.Rows RZ LamX
def spPgs (TL : List (Addr × Str)) : Sp := fun vs H Q _ => ∃ (p Lp l : Addr) (b : Int) (r : Fr) (m : Int) (q : Addr) (xs : List Int), vs = [.ref p, .ref l, .int m, .ref q] ∧ b ≤ 800000 ∧ Pen Lp H p b ∧ Tabs TL H ∧ Wd H l r m q xs ∧ ∀ H', ExtP p H H' → Pen Lp H' p (b + 1) → Tabs TL H' → Q (.bl true) H'
/-- an index, and the page it is on -/
def EndV (xs : List Int) (G : Hp) (u : V) : Prop := ∃ (t : Addr) (a k : Int), u = .ref t ∧ G t = some (.tup [.int a, .int k]) ∧ 0 ≤ a ∧ a < xs.sum ∧ ((pageAt xs a : Nat) : Int) = k ∧ k ≤ 20
theorem EndV.keep {xs : List Int} {G G' : Hp} {u : V} (h : EndV xs G u) (k : Same G G') : EndV xs G' u := by
  obtain ⟨t, a, n, e, ht, h1, h2, h3, h4⟩ := h
  exact ⟨t, a, n, e, k _ _ ht, h1, h2, h3, h4⟩
theorem sum_take_lt {xs : List Int} {i : Nat} (hx : ∀ x ∈ xs, 1 ≤ x) (hi : i < xs.length) : 0 ≤ (xs.take i).sum ∧ (xs.take (i + 1)).sum = (xs.take i).sum + xs[i] ∧ (xs.take i).sum + xs[i] ≤ xs.sum ∧ 1 ≤ xs[i] := by
  have n1 : 0 ≤ (xs.take i).sum := sum_nn fun y hy => by have := hx y (List.mem_of_mem_take hy); omega
  have n2 : 0 ≤ (xs.drop (i + 1)).sum := sum_nn fun y hy => by have := hx y (List.mem_of_mem_drop hy); omega
  have e1 : (xs.take (i + 1)).sum = (xs.take i).sum + xs[i] := by rw [List.take_succ_eq_append_getElem hi, List.sum_append, List.sum_singleton]
  have e2 : xs.sum = (xs.take (i + 1)).sum + (xs.drop (i + 1)).sum := by rw [← List.sum_append, List.take_append_drop]
  exact ⟨n1, e1, by omega, hx _ (List.getElem_mem hi)⟩
theorem page_lo {xs : List Int} {i : Nat} (hx : ∀ x ∈ xs, 1 ≤ x) (hi : i < xs.length) : pageAt xs (xs.take i).sum = i := by
  have := pageAt_in xs i 0 hx hi (Int.le_refl 0) (by have := hx _ (List.getElem_mem hi); omega)
  rwa [Int.add_zero] at this
theorem page_hi {xs : List Int} {i : Nat} (hx : ∀ x ∈ xs, 1 ≤ x) (hi : i < xs.length) : pageAt xs ((xs.take (i + 1)).sum - 1) = i := by
  obtain ⟨_, e, _, p⟩ := sum_take_lt hx hi
  have := pageAt_in xs i (xs[i] - 1) hx hi (by omega) (by omega)
  rw [e, show (xs.take i).sum + xs[i] - 1 = (xs.take i).sum + (xs[i] - 1) by omega]
  exact this
section
variable {P : Program} {w : World} {K : PySem.W.Frag} {mg : Str → Option Value} {base : Heap}
theorem ok_lpages {f R C B N O G T FE cc TT fh : Addr} {TL : List (Addr × Str)} {fd fdh : FuncData} {q : Str} (F : Fun K "_law_pages_right" "_law_pages_right" sLPagesRight f fd) (L : Blt mg) (ms : mg "sum" = none) (hc : fd.code = .ref cc) (TB : TabB base mg cc TT) (hTL : (TT, q) ∈ TL) (hTL2 : ∀ p ∈ TL, p.1 = TT → p.2 = q)
    (hq : q = (envOfC "_law_pages_right" (defScope sLPagesRight) 0 f (.ref cc)).qual ++ ("<lambda>" : Str)) (HH : HeardB P w K mg B N O G T FE fh fdh) (TR : RowC K R) (RO : RowO P w K mg base R C N) (RM : RowM P w K mg base R C)
    (D1 : Df P w K mg base 2 "_law_pick" ["_law_pen_here", "_law_some"] spPick) (D2 : Df P w K mg base 7 "_law_rule" ["_law_told"] (spLRule C)) : FnG P w K mg base 12 f fd ["_law_pen_here", "_law_told", "_law_top", "_law_fills_so"] (spPgs TL) := by
  obtain ⟨f1, fd1, G1, g1, k1, b1⟩ := D1.ex
  obtain ⟨f2, fd2, G2, g2, k2, b2⟩ := D2.ex
  obtain ⟨fI, fdI, MI, GI, bI⟩ := RM.ex
  obtain ⟨fp, fdp, Mp, Gp, bp⟩ := id RO.pg
  refine fng_code F scPg (fun vs H Q E h => ?_) (fun cdv ecd A outer s H vs Q E hr gd h => ?_)
  · obtain ⟨p, Lp, l, b, r, m, q, xs, rfl, _⟩ := h
    rfl
  · obtain ⟨p, Lp, l, b, r, m, q', xs, rfl, hb, pn0, hT, W, kk⟩ := h
    obtain rfl : cdv = .ref cc := ecd.symm.trans hc
    obtain ⟨tE, hE, qE⟩ := pg_heard (outer := outer) (s := s) (H := H) (E := E) L TB hTL hTL2 hq HH TR RO hr gd
    have hr2 := hr.mono (show 2 ≤ 11 by decide)
    have hu : (cxOf CX0 P w K mg base nPg "_law_pages_right" (defScope sLPagesRight) f (.ref cc) A outer s H E).nox.A.units + 64 < cLine := Room.units hr
    have mr := HH.mr
    refine ⟨_, (pss_cons (ps_asg (pe_tup (pa_cons (pe_make (E := E0) MI GI (hr.mono (by decide)) (by rfl) RM.g bI .nil pass0 (pa_cons (pe_call G2 (hr.mono (by decide)) (by rfl) g2 k2 b2 .nil pass0 (pa_cons (pv 1) pa_nil)) (pa_cons (pv 2) (pa_cons (pv 3) pa_nil)))) (pa_cons (pe_lst pa_nil) pa_nil))) (pg_tup rfl (pgs_cons (pg_name (i := 4) scPg.nd rfl (by first | exact .inl rfl | exact .inr rfl)) (pgs_cons (pg_name (i := 5) scPg.nd rfl (.inl rfl)) pgs_nil))))
    (pss_cons (ps_for PassesOwn.never rfl (pi_range1 (by rfl) L.range (pa_cons (pe_callB call_len_seq (by rfl) L.len PySem.boot_len (pa_cons (pv 3) pa_nil)) pa_nil)) (pg_name (i := 6) scPg.nd rfl (.inl rfl))
      (pss_one (ps_set (i := 5) scPg.nd rfl (.inl rfl) (pe_op op_cat (pv 5) (pe_lst (pa_cons (pe_tup (pa_cons (pe_callB (cr_sum rfl) (by rfl) ms (by decide +kernel) (pa_cons (pe_slice sl_list (pv 3) po_none (po_some (pv 6))) pa_nil)) (pa_cons (pv 6) pa_nil))) (pa_cons (pe_tup (pa_cons (pe_op op_sub (pe_callB (cr_sum rfl) (by rfl) ms (by decide +kernel) (pa_cons (pe_slice sl_list (pv 3) po_none (po_some (pe_op op_add (pv 6) pe_int))) pa_nil)) pe_int) (pa_cons (pv 6) pa_nil))) pa_nil)))))))
    (pss_cons (ps_if (pt_cmpR (op_neD hu) (pe_lc (own := [("_law_pair", 7)]) (g := gName 7) (by rfl) scPg.nd (pi_list (pv 5)) (blkOk_by (own := [("_law_pair", 7)]) (N := nPg) (sc := defScope sLPagesRight) (by decide +kernel)) (fun _ _ _ _ _ => pg_name (i := 7) scPg.nd rfl (.inl rfl)) (fun _ _ _ _ _ => pts_one (pt_cmpR (r := rNe) op_ne (pe_callB (r := rReprV K) (call_reprV gd hu) (by rfl) mr (by decide +kernel) (pa_cons (pe_meth (E := E0) (pv 4) TR.cl Mp Gp (hr.mono (by decide)) bp .nil pass0 (pa_cons (pe_ix (r := rIxT K) ix_tup (pv 7) pe_int (fun _ _ => rfl)) pa_nil)) pa_nil)) (pe_callB (r := rReprV K) (call_reprV gd hu) (by rfl) mr (by decide +kernel) (pa_cons (pe_ix (r := rIxT K) ix_tup (pv 7) pe_int (fun _ _ => rfl)) pa_nil)) (nomark _))) (fun _ _ _ _ _ => (pv 7))) (pe_lst pa_nil) (nomark _))
      (pss_one (ps_ret pe_bl)) pss_nil)
    (pss_cons (ps_set (i := 8) scPg.nd rfl (by first | exact .inl rfl | exact .inr rfl) (pe_callB (cr_sum rfl) (by rfl) ms (by decide +kernel) (pa_cons (pv 3) pa_nil)))
    (pss_cons (ps_set (i := 9) scPg.nd rfl (by first | exact .inl rfl | exact .inr rfl) (pe_call G1 hr2 (by rfl) g1 k1 b1 .nil pass0 (pa_cons (pv 0) (pa_cons (pe_lst (pa_cons pe_non (pa_cons (pe_un un_neg pe_int) (pa_cons (pv 8) (pa_cons (pe_op op_add (pv 8) pe_int) (pa_cons pe_bl (pa_cons pe_str (pa_cons (pe_op op_pow pe_int pe_int) (pa_cons (pe_tup (pa_cons pe_int pa_nil)) pa_nil))))))))) pa_nil))))
    hE))))), ?_⟩
    have x1 : ∀ x ∈ xs, 1 ≤ x := fun x hx => (W.bd x hx).1
    have len := W.len
    obtain ⟨s0', s1'⟩ := sum_hi W.bd
    have s1 : xs.sum ≤ 10 ^ 16 := by
      have e16 : (10 : Int) ^ 16 = 10000000000000000 := by decide
      rw [e13] at s1'
      rw [e16]
      omega
    refine ⟨_, rfl, l, r, rfl, W.hl, W.o, fun x1' H1 sa fa => ⟨_, rfl, _, rfl, ?_⟩⟩
    have W1 := W.keep sa
    refine mk_row (R := R) fa W.o W.m1 W.m3 W.q1 W.q2 W1.hq W.okF fun y H2 sb ra2 => ⟨(by show 0 ≤ sizeLine; decide), fun e0 ne0 => ⟨(by show 2 ≤ sizeLine; decide), fun t0 nt0 => ⟨t0, _, rfl, SqT.of upd_same, rfl, _, _, rfl, _, _, rfl, rfl, ?_⟩⟩⟩
    have W2 := W1.keep sb
    have sc : Same H2 (upd H2 e0 (.lst [])) := same_new ne0
    have he0 : upd H2 e0 (.lst []) e0 = some (.lst []) := upd_same
    generalize upd H2 e0 (.lst []) = H3 at sc he0 nt0 ⊢
    have sd : Same H3 (upd H3 t0 (.tup [.ref y, .ref e0])) := same_new nt0
    have he1 := sd _ _ he0
    generalize upd H3 t0 (.tup [.ref y, .ref e0]) = H4 at sd he1 ⊢
    have W3 := (W2.keep sc).keep sd
    have ra3 := (ra2.keep sc).keep sd
    have s03 : Same H H4 := Same.trans sa (Same.trans sb (sc.trans sd))
    refine ⟨_, rfl, q', _, rfl, .inl (SqL.of W3.hq), xs.length, (by rw [List.length_map]), by omega, by omega, for_range (lo := 0) (n := xs.length) (fun i σ G => ∃ (e : Addr) (vs : List V) (v6 : Option V), σ = [some (.ref p), some (.ref l), some (.int m), some (.ref q'), some (.ref y), some (.ref e), v6, none, none, none, none, none] ∧ G e = some (.lst vs) ∧ vs.length = 2 * i ∧ (∀ u ∈ vs, EndV xs G u) ∧ Same H4 G) ⟨e0, [], _, rfl, he1, rfl, (fun u hu => by cases hu), Same.refl _⟩ (fun i σ G hi h => ?_) (fun σ G h => ?_)⟩
    · obtain ⟨e, vs, v6, rfl, he, hl, hv, sG⟩ := h
      have WG := W3.keep sG
      obtain ⟨n1, n2, n3, n4⟩ := sum_take_lt x1 hi
      refine ⟨_, rfl, _, rfl, _, rfl, _, rfl, q', _, rfl, SqL.of WG.hq, fun u nu => ?_⟩
      rw [cut_uptoI (by omega), show ((0 : Int) + (i : Int)).toNat = i by omega]
      have g1 : Same G (upd G u (.lst ((xs.take i).map V.int))) := same_new nu
      have h1 : upd G u (.lst ((xs.take i).map V.int)) u = some (.lst ((xs.take i).map V.int)) := upd_same
      generalize upd G u (.lst ((xs.take i).map V.int)) = J1 at g1 h1 ⊢
      refine ⟨u, xs.take i, rfl, SqL.of h1, _, rfl, (by show 2 ≤ sizeLine; decide), fun t1 nt1 => ?_⟩
      try dsimp only
      have g2' : Same J1 (upd J1 t1 (.tup [.int (xs.take i).sum, .int (0 + (i : Int))])) := same_new nt1
      have h2 : upd J1 t1 (.tup [.int (xs.take i).sum, .int (0 + (i : Int))]) t1 = some (.tup [.int (xs.take i).sum, .int (0 + (i : Int))]) := upd_same
      generalize upd J1 t1 (.tup [.int (xs.take i).sum, .int (0 + (i : Int))]) = J2 at g2' h2 ⊢
      have WJ := (WG.keep g1).keep g2'
      refine ⟨_, rfl, _, rfl, _, _, rfl, rfl, _, rfl, q', _, rfl, SqL.of WJ.hq, fun u3 nu3 => ?_⟩
      rw [cut_uptoI (by omega), show ((0 : Int) + (i : Int) + 1).toNat = i + 1 by omega]
      have g3 : Same J2 (upd J2 u3 (.lst ((xs.take (i + 1)).map V.int))) := same_new nu3
      have h3 : upd J2 u3 (.lst ((xs.take (i + 1)).map V.int)) u3 = some (.lst ((xs.take (i + 1)).map V.int)) := upd_same
      generalize upd J2 u3 (.lst ((xs.take (i + 1)).map V.int)) = J3 at g3 h3 ⊢
      refine ⟨u3, xs.take (i + 1), rfl, SqL.of h3, _, _, rfl, rfl, _, rfl, (by show 2 ≤ sizeLine; decide), fun t4 nt4 => ?_⟩
      try dsimp only
      have g4 : Same J3 (upd J3 t4 (.tup [.int ((xs.take (i + 1)).sum - 1), .int (0 + (i : Int))])) := same_new nt4
      have h4 : upd J3 t4 (.tup [.int ((xs.take (i + 1)).sum - 1), .int (0 + (i : Int))]) t4 = some (.tup [.int ((xs.take (i + 1)).sum - 1), .int (0 + (i : Int))]) := upd_same
      generalize upd J3 t4 (.tup [.int ((xs.take (i + 1)).sum - 1), .int (0 + (i : Int))]) = J4 at g4 h4 ⊢
      refine ⟨(by show 2 ≤ sizeLine; decide), fun l5 nl5 => ?_⟩
      try dsimp only
      have g5 : Same J4 (upd J4 l5 (.lst [.ref t1, .ref t4])) := same_new nl5
      have h5 : upd J4 l5 (.lst [.ref t1, .ref t4]) l5 = some (.lst [.ref t1, .ref t4]) := upd_same
      generalize upd J4 l5 (.lst [.ref t1, .ref t4]) = J5 at g5 h5 ⊢
      have g25 := g3.trans (g4.trans g5)
      have g05 := g1.trans (g2'.trans g25)
      refine ⟨e, l5, _, _, rfl, rfl, g05 _ _ he, h5, (by show vs.length + 2 ≤ sizeLine; exact Nat.le_trans (show _ ≤ 42 by omega) (by decide)), fun e6 ne6 => ?_⟩
      have g6 : Same J5 (upd J5 e6 (.lst (vs ++ [.ref t1, .ref t4]))) := same_new ne6
      have h6 : upd J5 e6 (.lst (vs ++ [.ref t1, .ref t4])) e6 = some (.lst (vs ++ [.ref t1, .ref t4])) := upd_same
      generalize upd J5 e6 (.lst (vs ++ [.ref t1, .ref t4])) = J6 at g6 h6 ⊢
      refine ⟨e6, _, _, rfl, h6, by rw [List.length_append, hl]; rfl, fun z hz => ?_, sG.trans (g05.trans g6)⟩
      rcases List.mem_append.mp hz with z1 | z1
      · exact (hv z z1).keep (g05.trans g6)
      · simp only [List.mem_cons, List.not_mem_nil, or_false] at z1
        rcases z1 with rfl | rfl
        · exact ⟨t1, _, _, rfl, (g25.trans g6) _ _ h2, n1, by omega, by rw [page_lo x1 hi]; omega, by omega⟩
        · exact ⟨t4, _, _, rfl, (g5.trans g6) _ _ h4, by omega, by omega, by rw [page_hi x1 hi]; omega, by omega⟩
    · obtain ⟨e, vs, v6, rfl, he, hl, hv, sG⟩ := h
      have WG := W3.keep sG
      have raG := ra3.keep sG
      refine ⟨_, rfl, e, rfl, ⟨_, SqL.of he⟩, fun D nD => lc_list (K := K) (a := e) (xs := vs) (fun i H' => H' D = some (.lst []) ∧ Same G H') ⟨upd_same, same_new nD⟩ (fun i H' _ h => SqL.of (h.2 _ _ he)) (fun i x H' hi h => ?_) (fun H' h => ?_)⟩
      · obtain ⟨hD, sD⟩ := h
        obtain ⟨t, a, k, rfl, ht, a0, a1, ak, k20⟩ := (hv x (List.mem_of_getElem? hi)).keep sD
        obtain ⟨dx, fx, lx, hy, _, _⟩ := id (raG.keep sD)
        obtain ⟨w1, w2, w3, w4⟩ := (oddInt (lo := 1) (hi := 0) (H := H') (i := k) (by omega) (by show _ ≤ 10000000000000000000000000000000000000000; omega)).vd (K := K)
        refine ⟨rfl, _, rfl, y, dx, _, rfl, hy, row_no _ _ _ (by decide +kernel) (by decide +kernel) (by decide +kernel), _, rfl, t, _, _, _, rfl, rfl, SqT.of ht, atI_nat (j := 0) rfl, y, r, m, a, xs, rfl, raG.keep sD, a0, a1, (fun z hz => by have := x1 z hz; omega), ?_⟩
        rw [ak]
        refine ⟨_, _, rfl, w1, w2, w3, w4, _, rfl, t, _, _, _, rfl, rfl, SqT.of ht, atI_nat (j := 1) rfl, _, _, rfl, w1, w2, w3, w4, rfl, _, rfl, ite2 (fun z => absurd z (by simp)) (fun _ => ⟨hD, sD⟩)⟩
      · obtain ⟨hD, sD⟩ := h
        refine ⟨(by show 0 ≤ sizeLine; decide), fun ee nee => ?_⟩
        have g4 : Same H' (upd H' ee (.lst [])) := same_new nee
        have h0 : upd H' ee (.lst []) ee = some (.lst []) := upd_same
        generalize upd H' ee (.lst []) = J at g4 h0 ⊢
        refine ⟨.list [], .list [], .lst (SqL.of (g4 _ _ hD)) .nil, .lst (SqL.of h0) .nil, sh_ints [], sh_ints [], _, rfl, ?_⟩
        rw [show PyData.eqv (.list []) (.list []) = true from eqv_nil []]
        have sJ := sD.trans g4
        have WJ := WG.keep sJ
        have raJ := raG.keep sJ
        have s0J : Same H J := s03.trans (sG.trans sJ)
        have pn := pn0.keep s0J
        have e30 : (10 : Int) ^ 30 = 1000000000000000000000000000000 := by decide
        have e16 : (10 : Int) ^ 16 = 10000000000000000 := by decide
        rw [e16] at s1
        refine iteF ⟨_, rfl, q', xs, rfl, SqL.of WJ.hq, ?_⟩
        refine ⟨_, rfl, _, rfl, _, rfl, _, rfl, _, _, rfl, rfl, _, _, rfl, rfl, ⟨by decide, by decide, by decide⟩, (by show 1 ≤ sizeLine; decide), fun u7 nu7 => ?_⟩
        try dsimp only
        have su7 : Same J (upd J u7 (.tup [.int 0])) := same_new nu7
        have hu7 : upd J u7 (.tup [.int 0]) u7 = some (.tup [.int 0]) := upd_same
        have qu7 : u7 ≠ p := pn.ne nu7
        generalize upd J u7 (.tup [.int 0]) = uG7 at su7 hu7 ⊢
        have tu7 : Same J uG7 := su7
        refine ⟨(by show 8 ≤ sizeLine; decide), fun uz nuz => ?_⟩
        try dsimp only
        have suz : Same uG7 (upd uG7 uz (.lst [.non, .int (-1), .int xs.sum, .int (xs.sum + 1), .bl true, .str "0", .int (10 ^ Int.toNat 40), .ref u7])) := same_new nuz
        have huz : upd uG7 uz (.lst [.non, .int (-1), .int xs.sum, .int (xs.sum + 1), .bl true, .str "0", .int (10 ^ Int.toNat 40), .ref u7]) uz = some (.lst [.non, .int (-1), .int xs.sum, .int (xs.sum + 1), .bl true, .str "0", .int (10 ^ Int.toNat 40), .ref u7]) := upd_same
        have quz : uz ≠ p := (pn.keep tu7).ne nuz
        generalize upd uG7 uz (.lst [.non, .int (-1), .int xs.sum, .int (xs.sum + 1), .bl true, .str "0", .int (10 ^ Int.toNat 40), .ref u7]) = uZ at suz huz ⊢
        have tuz : Same J uZ := tu7.trans suz
        have upz := pn.keep tuz
        obtain ⟨uy, ue⟩ := upz.some
        refine ⟨p, uz, Lp, _, b, rfl, huz, quz, (by show 1 ≤ 8; decide), (by show 8 ≤ 1000; decide), by omega, upz, fun ud uH uD ub upn => ?_⟩
        have hu7 : uH u7 = some (.tup [.int 0]) := ub _ _ qu7 (suz _ _ hu7)
        have ux : ExtP p J uH := (Ev.Same.p tuz).trans (But.p ub)
        have uB : But p J uH := (Ev.Same.but tuz).trans ub
        simp only [List.mem_cons, List.not_mem_nil, or_false] at uD
        obtain ⟨dd, hod, hdd, hsh⟩ : ∃ dd, OddV 0 (xs.sum - 1) uH ud dd ∧ dd.hasDict = false ∧ SeqAt.shaped dd = true := by
          rcases uD with rfl | rfl | rfl | rfl | rfl | rfl | rfl | rfl
          · exact ⟨_, .non, rfl, by decide +kernel⟩
          · exact ⟨_, oddInt (by omega) (by decide), rfl, shaped_int _⟩
          · exact ⟨_, oddInt (by omega) (by show _ ≤ 10000000000000000000000000000000000000000; omega), rfl, shaped_int _⟩
          · exact ⟨_, oddInt (by omega) (by show _ ≤ 10000000000000000000000000000000000000000; omega), rfl, shaped_int _⟩
          · exact ⟨_, .bl _, rfl, by decide +kernel⟩
          · exact ⟨_, .str _ (by decide +kernel) (by decide +kernel), rfl, by decide +kernel⟩
          · refine ⟨_, oddInt (fun z => ?_) (by decide), rfl, shaped_int _⟩
            have e40 : (10 : Int) ^ Int.toNat 40 = 10000000000000000000000000000000000000000 := by decide
            rw [e40] at z
            omega
          · exact ⟨_, .tup 0 (.inl rfl) hu7, rfl, by decide +kernel⟩
        obtain ⟨py, pe⟩ := id pn.some
        have raU := raJ.extP pn ux
        have TT' : Tabs TL uH := Ev.Tabs.but (hT.ext s0J) pe uB
        refine qE { nx := fun _ H' => Q .non H', rt := Q } uH p Lp y _ r m xs _ _ _ _ _ _ ud dd raU hod hdd hsh s0' (by rw [e30]; omega) upn TT' fun G' gx gp gt => ?_
        exact kk G' ((Ev.Same.p s0J).trans (ux.trans gx)) gp gt
end
end Ev
namespace Ev
open PySem L2 PySem.Spec PyProof.Rows RZ LamX
/-! A row made with no fills told: the empty tuple is the module's own. -/
def KTup0 (K : PySem.W.Frag) (l : Addr) : Prop := ∃ (o : Obj) (its : Array Value) (n : Nat), K.lookup l = some o ∧ o.cls = .type "tuple" ∧ o.data = .seq its n ∧ its.size ≤ sizeLine ∧ Vals ([] : List V) its.toList
theorem KTup0.sq {K : PySem.W.Frag} {l : Addr} {H : Hp} (h : KTup0 K l) : SqT K H l [] := .inr h
theorem KTup0.ty {K : PySem.W.Frag} {l : Addr} {H : Hp} (h : KTup0 K l) : TyX K H (.ref l) (.type "tuple") := by
  obtain ⟨o, its, n, e, c, _⟩ := h
  exact .kTuple e c
def RAt0 (K : PySem.W.Frag) (R C : Addr) (H : Hp) (y : Addr) (r : Fr) (m : Int) : Prop := ∃ dx x l, H y = some (.ins R dx (rowF x l m)) ∧ FAt C H x r ∧ KTup0 K l
theorem RAt0.keep {K : PySem.W.Frag} {R C y : Addr} {H H' : Hp} {r : Fr} {m : Int} (h : RAt0 K R C H y r m) (k : Same H H') : RAt0 K R C H' y r m := by
  obtain ⟨dx, x, l, h1, h2, h3⟩ := h
  exact ⟨dx, x, l, k _ _ h1, h2.keep k, h3⟩
def spRowI0 (K : PySem.W.Frag) (R C : Addr) : Sp := fun vs H Q _ => ∃ (y dx x l : Addr) (r : Fr) (m : Int), vs = [.ref y, .ref x, .int m, .ref l] ∧ H y = some (.ins R dx []) ∧ FAt C H x r ∧ r.ok ∧ 2 ≤ m ∧ m ≤ 10 ^ 12 ∧ 1 ≤ r.least m ∧ r.least m ≤ m ∧
  KTup0 K l ∧ ∀ H', But y H H' → RAt0 K R C H' y r m → Q .non H'
theorem mk_row0 {K : PySem.W.Frag} {R C : Addr} {x l : Addr} {r : Fr} {m : Int} {H : Hp} {Q : Addr → Hp → Prop} (fa : FAt C H x r) (o : r.ok) (m1 : 2 ≤ m) (m2 : m ≤ 10 ^ 12) (q1 : 1 ≤ r.least m) (q2 : r.least m ≤ m) (kt : KTup0 K l)
    (k : ∀ y H', Same H H' → RAt0 K R C H' y r m → Q y H') : ∀ y dx, H y = none → H dx = none → dx ≠ y → spRowI0 K R C (.ref y :: ([.ref x, .int m] ++ [.ref l])) (upd (upd H dx (.own y)) y (.ins R dx [])) (fun v H2 => v = .non ∧ Q y H2) E0 := by
  intro y dx ny ndx ne
  have keep : ∀ (o1 o2 : HO), Same H (upd (upd H dx o1) y o2) := fun o1 o2 b u e => by
    rw [upd_ne (ne_of_none e ny), upd_ne (ne_of_none e ndx)]; exact e
  refine ⟨y, dx, x, l, r, m, rfl, upd_same, fa.keep (keep _ _), o, m1, m2, q1, q2, kt, fun H' bt ra => ⟨rfl, k y H' (fun b u e => bt _ _ (ne_of_none e ny) (keep _ _ _ _ e)) ra⟩⟩
def spTotal0 (K : PySem.W.Frag) (R C : Addr) : Sp := fun vs H Q _ => ∃ (y : Addr) (r : Fr) (m : Int), vs = [.ref y] ∧ RAt0 K R C H y r m ∧ Q (.int 0) H
def spYoung0 (K : PySem.W.Frag) (R C : Addr) : Sp := fun vs H Q _ => ∃ (y : Addr) (r : Fr) (m : Int), vs = [.ref y] ∧ RAt0 K R C H y r m ∧ r.ok ∧ Q (.bl true) H
def spKeeps0 (K : PySem.W.Frag) (R C : Addr) : Sp := fun vs H Q _ => ∃ (y : Addr) (r : Fr) (m : Int), vs = [.ref y] ∧ RAt0 K R C H y r m ∧ r.ok ∧ Q (.bl true) H
def spIsKept0 (K : PySem.W.Frag) (C : Addr) : Sp := fun vs H Q _ => ∃ (x l : Addr) (r : Fr) (m : Int), vs = [.ref x, .int m, .ref l] ∧ FAt C H x r ∧ r.ok ∧ KTup0 K l ∧ Q (.bl true) H
def spRowE0 (K : PySem.W.Frag) (R C : Addr) : Sp := fun vs H Q _ => ∃ (x y : Addr) (r r' : Fr) (m m' : Int) (xs' : List Int), vs = [.ref x, .ref y] ∧ RAt0 K R C H x r m ∧ RAt R C H y r' m' xs' ∧ Q (.bl (sameR r r' m m' [] xs')) H
theorem wd_pos {r : Fr} (o : r.ok) : 0 ≤ r.wd := by
  have := o.c1; have := o.j1
  show 0 ≤ (if r.c > r.j then r.c else r.j)
  split <;> omega
section
variable {P : Program} {w : World} {K : PySem.W.Frag} {mg : Str → Option Value} {base : Heap}
theorem ok_rowI0 {f R C : Addr} {fd : FuncData} {dvs : List V} {kws : List (Str × V)} (F : FunD K "__init__" "Row.__init__" (defArgs sRow_init) (defBody sRow_init) (defScope sRow_init) dvs kws f fd) (T : Blt mg) (me : mg "enumerate" = none) (TR : RowC K R)
    (D1 : Df P w K mg base 1 "need_fill_rule" ["value"] (spNeedFO C)) (D2 : Df P w K mg base 4 "need_page_size" ["rule", "most"] (spNeedPO C)) (D3 : Df P w K mg base 2 "is_within" ["value", "least", "most"] spWithinA)
    {t1 t2 : Tok} (gP : mg "MOST_PAGES" = some (.int 2000 t1)) (gF : mg "MOST_FILL" = some (.int (10 ^ 15) t2)) : FnOk P w K mg base CX0 5 f fd ["self", "rule", "most", "fills"] (spRowI0 K R C) := by
  obtain ⟨f1, fd1, G1, g1, k1, b1⟩ := D1.ex
  obtain ⟨f2, fd2, G2, g2, k2, b2⟩ := D2.ex
  obtain ⟨f3, fd3, G3, g3, k3, b3⟩ := D3.ex
  refine fund_ok0 F scRowI (fun vs H Q E h => ?_) (fun cdv A outer s H vs Q E hr h => ?_)
  · obtain ⟨y, dx, x, l, r, m, rfl, _⟩ := h
    rfl
  · obtain ⟨y, dx, x, l, r, m, rfl, hy, fa, o, m1, m2, q1, q2, kt, kk⟩ := h
    refine ⟨_, (pss_cons (ps_expr (pe_call G1 (hr.mono (by decide)) (by rfl) g1 k1 b1 .nil pass0 (pa_cons (pv 1) pa_nil)))
    (pss_cons (ps_expr (pe_call G2 hr (by rfl) g2 k2 b2 .nil pass0 (pa_cons (pv 1) (pa_cons (pv 2) pa_nil))))
    (pss_cons (ps_if (pt_not (pt_val (pe_callB call_isiT (by rfl) T.isi (by decide +kernel) (pa_cons (pv 3) (pa_cons (pe_tup (pa_cons (pe_bltn (v := .ty "list") (by rfl) T.list (by decide +kernel) rfl) (pa_cons (pe_bltn (v := .ty "tuple") (by rfl) T.tuple (by decide +kernel) rfl) pa_nil))) pa_nil)))))
      (pss_one ps_never) pss_nil)
    (pss_cons (ps_if (pt_cmpR op_gt (pe_callB call_len_seq (by rfl) T.len PySem.boot_len (pa_cons (pv 3) pa_nil)) (pe_glob (v := .int 2000) rfl gP ⟨_, rfl⟩) (nomark _))
      (pss_one ps_never) pss_nil)
    (pss_cons (ps_for PassesOwn.never rfl (pi_enumT0 (by rfl) me (pa_cons (pv 3) pa_nil)) (pg_tup rfl (pgs_cons (pg_name (i := 4) scRowI.nd rfl (.inl rfl)) (pgs_cons (pg_name (i := 5) scRowI.nd rfl (.inl rfl)) pgs_nil)))
      (pss_one (ps_if (pt_not (pt_val (pe_call G3 (hr.mono (by decide)) (by rfl) g3 k3 b3 .nil pass0 (pa_cons (pv 5) (pa_cons pe_int (pa_cons (pe_glob (v := .int (10 ^ 15)) rfl gF ⟨_, rfl⟩) pa_nil))))))
        (pss_one ps_never) pss_nil)))
    (pss_cons (ps_fld (pv 0) (pv 1) rfl)
    (pss_cons (ps_fld (pv 0) (pv 2) rfl)
    (pss_one (ps_fld (pv 0) (pe_callTy call_tuple_of (by rfl) T.tuple (by decide +kernel) (pa_cons (pv 3) pa_nil)) rfl))))))))), ?_⟩
    refine ⟨_, rfl, x, r, rfl, fa, _, rfl, _, rfl, x, r, m, rfl, fa, o, m1, m2, q1, q2, ?_⟩
    refine ⟨_, rfl, (by show 2 ≤ sizeLine; decide), fun tp ntp => ⟨_, tp, _, _, _, true, rfl, upd_same, .cons (.ty _) (.cons (.ty _) .nil), kt.ty, kit_any2 (r1 := false) (r2 := true) (by decide +kernel) (by decide +kernel), _, rfl, iteF ?_⟩⟩
    have s1 : Same H (upd H tp (.tup [.ty "list", .ty "tuple"])) := same_new ntp
    generalize upd H tp (.tup [.ty "list", .ty "tuple"]) = H1 at s1 ⊢
    refine ⟨_, rfl, l, _, rfl, .inr kt.sq, _, _, rfl, rfl, _, rfl, ?_⟩
    rw [show decide ((([] : List V).length : Int) > 2000) = false from decide_eq_false (by simp)]
    refine iteF ⟨_, rfl, l, _, rfl, kt.sq, ?_⟩
    refine for_it (walk_enumT2 (K := K) (a := l) (xs := [])) (fun i σ G => Same H G ∧ ∃ v4 v5, σ = [some (.ref y), some (.ref x), some (.int m), some (.ref l), v4, v5]) ⟨s1, _, _, rfl⟩ (fun i σ G _ h => kt.sq) (fun i v σ G2 G3 hi h y' => absurd hi (by simp)) (fun σ G h => ?_)
    · obtain ⟨s2, v4, v5, rfl⟩ := h
      have fa2 := fa.keep s2
      refine ⟨_, rfl, _, rfl, y, R, dx, _, rfl, s2 _ _ hy, TR.cl, TR.n1, (by show 0 < 1000; decide), ?_⟩
      rw [rp1]
      have y1 : upd G y (.ins R dx [("fill_rule", .ref x)]) y = some (.ins R dx [("fill_rule", .ref x)]) := upd_same
      have t1 : But y H (upd G y (.ins R dx [("fill_rule", .ref x)])) := (Same.but s2).trans But.upd_at
      generalize upd G y (.ins R dx [("fill_rule", .ref x)]) = H2 at y1 t1 ⊢
      refine ⟨_, rfl, _, rfl, y, R, dx, _, rfl, y1, TR.cl, TR.n2, (by show 1 < 1000; decide), ?_⟩
      rw [rp2]
      have y2 : upd H2 y (.ins R dx [("fill_rule", .ref x), ("most", .int m)]) y = some (.ins R dx [("fill_rule", .ref x), ("most", .int m)]) := upd_same
      have t2 : But y H (upd H2 y (.ins R dx [("fill_rule", .ref x), ("most", .int m)])) := t1.trans But.upd_at
      generalize upd H2 y (.ins R dx [("fill_rule", .ref x), ("most", .int m)]) = H3 at y2 t2 ⊢
      refine ⟨_, rfl, l, _, rfl, .inr ⟨kt.sq, ?_⟩⟩
      refine ⟨_, rfl, y, R, dx, _, rfl, y2, TR.cl, TR.n3, (by show 2 < 1000; decide), ?_⟩
      rw [rp3]
      have bt : But y H (upd H3 y (.ins R dx [("fill_rule", .ref x), ("most", .int m), ("fills", .ref l)])) := t2.trans But.upd_at
      refine kk _ bt ⟨dx, x, l, upd_same, ?_, kt⟩
      obtain ⟨dx', a, h1, h2⟩ := fa
      exact ⟨dx', a, bt _ _ (fun z => by subst z; rw [hy] at h1; cases h1) h1, bt _ _ (ne_of h2 hy (by intro z; cases z)) h2⟩
theorem ok_rtotal0 {f R C : Addr} {fd : FuncData} (F : Fun K "total" "Row.total" sRow_total f fd) (ms : mg "sum" = none) (TR : RowC K R) : FnOk P w K mg base CX0 1 f fd ["self"] (spTotal0 K R C) := by
  refine F.ok scRTotal (fun vs H Q E h => ?_) (fun cdv A outer s H vs Q E hr h => ?_)
  · obtain ⟨y, r, m, rfl, _⟩ := h
    rfl
  · obtain ⟨y, r, m, rfl, ⟨dx, x, l, hy, fa, kt⟩, k⟩ := h
    refine ⟨_, (pss_one (ps_ret (pe_callB (cr_sumT rfl) (by rfl) ms (by decide +kernel) (pa_cons (pe_fld (pv 0) rfl) pa_nil)))), ?_⟩
    exact ⟨_, rfl, y, R, dx, _, _, rfl, hy, TR.cl, TR.n3, row_fills _ _ _, l, [], rfl, kt.sq, k⟩
theorem ok_ryoung0 {f R C : Addr} {fd : FuncData} (F : Fun K "is_young" "Row.is_young" sRow_is_young f fd) (T : Blt mg) (TR : RowC K R) (TC : FCls K C) : FnOk P w K mg base CX0 1 f fd ["self"] (spYoung0 K R C) := by
  refine F.ok scRYoung (fun vs H Q E h => ?_) (fun cdv A outer s H vs Q E hr h => ?_)
  · obtain ⟨y, r, m, rfl, _⟩ := h
    rfl
  · obtain ⟨y, r, m, rfl, ⟨dx, x, l, hy, ⟨dx2, a, hx, ha⟩, kt⟩, o, k⟩ := h
    refine ⟨_, (pss_one (ps_ret (pe_cmpR op_le (pe_callB call_len_seq (by rfl) T.len PySem.boot_len (pa_cons (pe_fld (pv 0) rfl) pa_nil)) (pe_fld (pe_fld (pv 0) rfl) rfl) (nomark _)))), ?_⟩
    refine ⟨_, rfl, y, R, dx, _, _, rfl, hy, TR.cl, TR.n3, row_fills _ _ _, l, _, rfl, .inr kt.sq, ?_⟩
    refine ⟨_, rfl, y, R, dx, _, _, rfl, hy, TR.cl, TR.n1, row_rule _ _ _, x, C, dx2, _, _, rfl, hx, TC.cl, TC.n5, fill_width _ _, _, _, rfl, rfl, ?_⟩
    dsimp only
    rw [show decide ((([] : List V).length : Int) ≤ r.wd) = true from decide_eq_true (wd_pos o)]
    exact k
theorem ok_isKept0 {f C : Addr} {fd : FuncData} (F : Fun K "is_kept" "is_kept" sIsKept f fd) (T : Blt mg) (TC : FCls K C) (D : Df P w K mg base 1 "least_of" ["rule", "most"] (spLeastOf C)) : FnOk P w K mg base CX0 2 f fd ["rule", "most", "fills"] (spIsKept0 K C) := by
  obtain ⟨f1, fd1, G1, g1, k1, b1⟩ := D.ex
  refine F.ok scIsKept (fun vs H Q E h => ?_) (fun cdv A outer s H vs Q E hr h => ?_)
  · obtain ⟨x, l, r, m, rfl, _⟩ := h
    rfl
  · obtain ⟨x, l, r, m, rfl, fa, o, kt, kk⟩ := h
    obtain ⟨tE, hE, qE⟩ : ∃ t : TS, PSs (cxOf CX0 P w K mg base nIk "is_kept" (defScope sIsKept) f cdv A outer s H E).nox ((defBody sIsKept).drop 2) t ∧
        ∀ n : Int, t { nx := fun _ H' => Q .non H', rt := Q } [some (.ref x), some (.int m), some (.ref l), some (.int n), none] H := by
      refine ⟨_, (pss_cons (ps_for PassesOwn.never rfl (pi_tup (pv 2)) (pg_name (i := 4) scIsKept.nd rfl (.inl rfl))
        (pss_one (ps_if (pt_not (pt_chain op_le op_le (pv 3) (pv 4) (pv 1)))
          (pss_one (ps_ret pe_bl)) pss_nil)))
        (pss_one (ps_ret pe_bl))), fun n => ?_⟩
      refine ⟨_, rfl, l, rfl, ⟨_, kt.sq⟩, ?_⟩
      refine for_it (walk_tup (K := K) (a := l) (xs := [])) (fun i σ G => G = H ∧ σ = [some (.ref x), some (.int m), some (.ref l), some (.int n), none]) ⟨rfl, rfl⟩ (fun i σ G _ h => kt.sq) (fun i v σ G2 G3 hi h y => absurd hi (by simp)) (fun σ G h => ?_)
      obtain ⟨rfl, rfl⟩ := h
      exact kk
    refine ⟨_, (pss_cons (ps_set (i := 3) scIsKept.nd rfl (.inl rfl) (pe_call G1 hr (by rfl) g1 k1 b1 .nil pass0 (pa_cons (pv 0) (pa_cons (pv 1) pa_nil))))
    (pss_cons (ps_if (pt_cmpR op_eq (pe_callB call_len_seq (by rfl) T.len PySem.boot_len (pa_cons (pv 2) pa_nil)) pe_int (nomark _))
      (pss_one (ps_set (i := 3) scIsKept.nd rfl (.inl rfl) pe_int)) (pss_one (ps_if (PW.pt (pw_and (pt_cmpR op_le (pe_callB call_len_seq (by rfl) T.len PySem.boot_len (pa_cons (pv 2) pa_nil)) (pe_fld (pv 0) rfl) (nomark _)) (pw_and1 (pt_cmpR op_gt (pv 3) (pe_op op_fdivN (pe_op op_add (pv 1) pe_int) pe_int) (nomark _)))))
        (pss_one (ps_set (i := 3) scIsKept.nd rfl (.inl rfl) (pe_op op_fdivN (pe_op op_add (pv 1) pe_int) pe_int))) pss_nil)))
    hE)), ?_⟩
    obtain ⟨dx, a, hx, ha⟩ := id fa
    refine ⟨_, rfl, _, rfl, x, r, m, rfl, fa, o, ?_⟩
    refine ⟨_, rfl, l, _, rfl, .inr kt.sq, rfl, _, rfl, ?_⟩
    refine iteF ⟨_, rfl, l, _, rfl, .inr kt.sq, _, rfl, x, C, dx, _, _, rfl, hx, TC.cl, TC.n5, fill_width _ _, _, _, rfl, rfl, _, rfl, ?_⟩
    rw [show decide ((([] : List V).length : Int) ≤ r.wd) = true from decide_eq_true (wd_pos o)]
    refine iteT ⟨_, rfl, _, rfl, _, _, rfl, rfl, _, _, rfl, rfl, ⟨by omega, by omega⟩, _, _, rfl, rfl, _, rfl, ?_⟩
    by_cases z2 : r.least m > (m + 1).fdiv 2
    · rw [decide_eq_true z2]
      exact iteT ⟨_, rfl, _, _, rfl, rfl, _, _, rfl, rfl, ⟨by omega, by omega⟩, qE _⟩
    · rw [decide_eq_false z2]
      exact iteF (qE _)
theorem ok_rkeeps0 {f R C : Addr} {fd : FuncData} (F : Fun K "keeps" "Row.keeps" sRow_keeps f fd) (TR : RowC K R) (D : Df P w K mg base 2 "is_kept" ["rule", "most", "fills"] (spIsKept0 K C)) : FnOk P w K mg base CX0 3 f fd ["self"] (spKeeps0 K R C) := by
  obtain ⟨f1, fd1, G1, g1, k1, b1⟩ := D.ex
  refine F.ok scRKeeps (fun vs H Q E h => ?_) (fun cdv A outer s H vs Q E hr h => ?_)
  · obtain ⟨y, r, m, rfl, _⟩ := h
    rfl
  · obtain ⟨y, r, m, rfl, ⟨dx, x, l, hy, fa, kt⟩, o, k⟩ := h
    refine ⟨_, (pss_one (ps_ret (pe_call G1 hr (by rfl) g1 k1 b1 .nil pass0 (pa_cons (pe_fld (pv 0) rfl) (pa_cons (pe_fld (pv 0) rfl) (pa_cons (pe_fld (pv 0) rfl) pa_nil)))))), ?_⟩
    exact ⟨_, rfl, y, R, dx, _, _, rfl, hy, TR.cl, TR.n1, row_rule _ _ _, _, rfl, y, R, dx, _, _, rfl, hy, TR.cl, TR.n2, row_most _ _ _, _, rfl, y, R, dx, _, _, rfl, hy, TR.cl, TR.n3, row_fills _ _ _, x, l, r, m, rfl, fa, o, kt, k⟩
theorem ok_rowE0 {f R C : Addr} {fd : FuncData} (F : Fun K "__eq__" "Row.__eq__" sRow_eq f fd) (T : Blt mg) (RT : RTwo K R) (gR : mg "Row" = some (.ref R)) (FQ : FEq P w K mg base C) : FnOk P w K mg base CX0 2 f fd ["self", "other"] (spRowE0 K R C) := by
  obtain ⟨g, he, hf, G⟩ := FQ.ex
  have TR := RT.cl
  refine F.ok scRowE (fun vs H Q E h => ?_) (fun cdv A outer s H vs Q E hr h => ?_)
  · obtain ⟨x, y, r, r', m, m', xs', rfl, _⟩ := h
    rfl
  · obtain ⟨x, y, r, r', m, m', xs', rfl, ⟨dx, fx, lx, hx, fa, hlx⟩, ⟨dy, fy, ly, hy, fb, hly⟩, k⟩ := h
    refine ⟨_, (pss_one (ps_ret (pe_and (pe_callB call_isi (by rfl) T.isi (by decide +kernel) (pa_cons (pv 1) (pa_cons (pe_glob (v := .ref R) rfl gR rfl) pa_nil))) (pe_and (pe_cmpR (op_eqO (E := E0) he hf G hr pass0) (pe_fld (pv 0) rfl) (pe_fld (pv 1) rfl) (nomark _)) (pe_and (pe_cmpR op_eq (pe_fld (pv 0) rfl) (pe_fld (pv 1) rfl) (nomark _)) (pe_one (pe_cmpR (op_eqD (Room.units hr)) (pe_fld (pv 0) rfl) (pe_fld (pv 1) rfl) (nomark _)))))))), ?_⟩
    obtain ⟨dfx, ax, hfx, _⟩ := id fa
    obtain ⟨dfy, ay, hfy, _⟩ := id fb
    refine ⟨_, rfl, _, _, _, _, true, rfl, .own R, tyR RT hy, kit_self, true, rfl, iteT ?_⟩
    refine ⟨_, rfl, x, R, dx, _, _, rfl, hx, TR.cl, TR.n1, row_rule _ _ _, _, rfl, y, R, dy, _, _, rfl, hy, TR.cl, TR.n1, row_rule _ _ _, fx, dfx, _, .ref C, rfl, hfx, tyF FQ.two hfy, nf_own, fx, .ref fy, r, rfl, fa, .inl ⟨fy, r', rfl, fb, _, rfl, _, rfl, ?_⟩⟩
    unfold sameR at k
    cases z : frB r r' with
    | false => rw [z] at k; exact iteF k
    | true =>
      rw [z, Bool.true_and] at k
      refine iteT ⟨_, rfl, x, R, dx, _, _, rfl, hx, TR.cl, TR.n2, row_most _ _ _, _, rfl, y, R, dy, _, _, rfl, hy, TR.cl, TR.n2, row_most _ _ _, rfl, _, rfl, ?_⟩
      by_cases z2 : m = m'
      · rw [decide_eq_true z2, Bool.true_and] at k
        rw [decide_eq_true (show V.int m = V.int m' by rw [z2])]
        refine iteT ⟨_, rfl, x, R, dx, _, _, rfl, hx, TR.cl, TR.n3, row_fills _ _ _, _, rfl, y, R, dy, _, _, rfl, hy, TR.cl, TR.n3, row_fills _ _ _, _, _, .tup hlx.sq .nil, .tup (SqT.of hly) (dpInts xs'), sh_intsT [], sh_intsT _, ?_⟩
        have e := eqv_tupI [] xs'
        rw [List.map_nil] at e
        rw [e]
        exact k
      · rw [decide_eq_false z2, Bool.false_and] at k
        rw [decide_eq_false (show ¬ V.int m = V.int m' from fun z => z2 (V.int.inj z))]
        exact iteF k
end
end Ev
namespace Ev
open PySem L2 PySem.Spec PyProof.Rows RZ LamX
abbrev nLaw : List Str := ["_law_script", "_law_pen_here", "_law_turn", "_law_told", "_law_top", "_law_fills_so", "_law_half", "_law_great", "_law_bare"]
def rH : Fr := ⟨1, 2, 0, 1, 2⟩
theorem rH_ok : rH.ok := ⟨by decide, by decide, by decide, by decide, by decide, by decide, by decide, by decide, by decide, by decide⟩
theorem sum_rep (n : Nat) (x : Int) : (List.replicate n x).sum = n * x := by
  induction n with
  | zero => simp
  | succ n ih => rw [List.replicate_succ, List.sum_cons, ih]; push_cast; rw [Int.add_mul]; omega
abbrev gM : Int := 10 ^ Int.toNat 12
abbrev gX : Int := 10 ^ Int.toNat 15
abbrev gS : List Int := List.replicate (2000 : Int).toNat gX
theorem gS_len : gS.length = 2000 := by rw [List.length_replicate]; rfl
theorem gS_sum : gS.sum = 2 * 10 ^ Int.toNat 18 := by rw [sum_rep]; decide
theorem gS_ok : okFills gS := ⟨by rw [gS_len]; decide, fun z hz => by rw [(List.mem_replicate.mp hz).2]; decide⟩
theorem gS_keep : rH.keepR gM gS = false := by
  show (List.replicate (2000 : Int).toNat gX).all (rH.inK gM gS) = false
  rw [List.all_eq_false]
  refine ⟨gX, List.mem_replicate.mpr ⟨by decide, rfl⟩, ?_⟩
  unfold Fr.inK
  rw [show decide (gX ≤ gM) = false by decide, Bool.and_false]
  decide
theorem gS_young : decide ((gS.length : Int) ≤ rH.wd) = false := by rw [gS_len]; decide
def fourD (a b : Int) (c d : Bool) : PyData := .list [.int a, .int b, .bool c, .bool d]
theorem four_shaped (a b : Int) (c d : Bool) : SeqAt.shaped (fourD a b c d) = true := by
  unfold SeqAt.shaped
  rw [Bool.and_eq_true]
  exact ⟨rfl, by simp [fourD, PyData.depth, PyData.depthAll]⟩
theorem four_dp {K : PySem.W.Frag} {G : Hp} {t : Addr} {a b : Int} {c d : Bool} (h : G t = some (.lst [.int a, .int b, .bl c, .bl d])) : Dp K G (.ref t) (fourD a b c d) := .lst (SqL.of h) (.cons (.int _) (.cons (.int _) (.cons (.bl _) (.cons (.bl _) .nil))))
def bareD : PyData := .list [.tuple [], .int 0, .bool true, .bool true]
/-- what the law makes beside -/
structure LawB (P : Program) (w : World) (K : PySem.W.Frag) (mg : Str → Option Value) (base : Heap) (R C : Addr) : Prop where
  gC : mg "FillRule" = some (.ref C)
  fm : ∃ (f : Addr) (fd : FuncData) (ds : List Value), Mk K C f ∧ FnOk P w K mg base CX0 5 f fd ["self", "times", "plus", "cut_of", "join_of"] (spFillOk C) ∧ Vals [.int 0, .int 1, .int 2] ds ∧ Binds K fd ["self", "times", "plus", "cut_of", "join_of"] ds
  rb : ∃ (f : Addr) (fd : FuncData) (ds : List Value) (l : Addr), Mk K R f ∧ FnOk P w K mg base CX0 5 f fd ["self", "rule", "most", "fills"] (spRowI0 K R C) ∧ KTup0 K l ∧ Vals [.ref l] ds ∧ Binds K fd ["self", "rule", "most", "fills"] ds
  tot : RowP P w K mg base R "total" 1 (spTotal0 K R C)
  yg : RowP P w K mg base R "is_young" 1 (spYoung0 K R C)
  kp : RowP P w K mg base R "keeps" 3 (spKeeps0 K R C)
  re : ∃ g : Addr, PySem.W.findIn K (.ref R) "__eq__" = some (some (.ref g)) ∧ PySem.W.isFn K (.ref g) = true ∧ FnR P w K mg base CX0 2 g (spRowE0 K R C)
section
variable {P : Program} {w : World} {K : PySem.W.Frag} {mg : Str → Option Value} {base : Heap}
theorem scLaw : FnScope nLaw ["_law_script"] (defScope sLaw) := ⟨rfl, rfl, rfl, by decide +kernel, rfl, by decide +kernel, by decide +kernel⟩
theorem lw_bare {f R C : Addr} {cdv : Value} {A : Around} {outer : List Env} {s : Shared} {H : Hp} {E : XK} (T : Blt mg) (RA : RowA P w K mg base R C) (LB : LawB P w K mg base R C)
    (hr : Room 12 (cxOf CX0 P w K mg base nLaw "law" (defScope sLaw) f cdv A outer s H E).nox.A) :
    ∃ tr : TS, PSs (cxOf CX0 P w K mg base nLaw "law" (defScope sLaw) f cdv A outer s H E).nox ((defBody sLaw).drop 5) tr ∧ ∀ (D : Ends) (G : Hp) (x : Addr) (v0 v1 v2 v3 v4 v5 v7 v8 : Option V), FAt C G x rH → (∀ G', D.rt (.bl true) G') →
      tr D [v0, v1, v2, v3, v4, v5, some (.ref x), v7, v8] G := by
  obtain ⟨fI, fdI, MI, GI, bI⟩ := RA.rm.ex
  obtain ⟨fb, fdb, dsb, l0, Mb, Gb, kt, rdb, bb⟩ := LB.rb
  obtain ⟨pt, gt, fdt, PT, GT, bT⟩ := id LB.tot
  obtain ⟨py, gy, fdy, PY, GY, bY⟩ := id LB.yg
  obtain ⟨pk, gk, fdk, PKp, GKp, bKp⟩ := id LB.kp
  obtain ⟨ge, he, hfe, Ge⟩ := id LB.re
  have TR := RA.rt.cl
  have hu : (cxOf CX0 P w K mg base nLaw "law" (defScope sLaw) f cdv A outer s H E).nox.A.units + 64 < cLine := Room.units hr
  have lq1 : 1 ≤ rH.least 2 := by decide
  have lq2 : rH.least 2 ≤ 2 := by decide
  refine ⟨_, (pss_cons (ps_set (i := 8) scLaw.nd rfl (.inl rfl) (pe_make (E := E0) Mb Gb (hr.mono (by decide)) (by rfl) RA.rm.g bb rdb pass0 (pa_cons (pv 6) (pa_cons pe_int pa_nil))))
    (pss_one (ps_ret (pe_and (pe_cmpR (op_eqD hu) (pe_lst (pa_cons (pe_fld (pv 8) rfl) (pa_cons (pe_prop (pv 8) TR.cl PT GT (hr.mono (by decide)) bT .nil pass0 rfl) (pa_cons (pe_prop (pv 8) TR.cl PY GY (hr.mono (by decide)) bY .nil pass0 rfl) (pa_cons (pe_prop (pv 8) TR.cl PKp GKp (hr.mono (by decide)) bKp .nil pass0 rfl) pa_nil))))) (pe_lst (pa_cons (pe_tup pa_nil) (pa_cons pe_int (pa_cons pe_bl (pa_cons pe_bl pa_nil))))) (nomark _))
      (pe_one (pe_cmpR (op_eqO (E := E0) he hfe Ge (hr.mono (by decide)) pass0) (pv 8) (pe_make (E := E0) MI GI (hr.mono (by decide)) (by rfl) RA.rm.g bI .nil pass0 (pa_cons (pv 6) (pa_cons pe_int (pa_cons (pe_lst pa_nil) pa_nil)))) (nomark _))))))), ?_⟩
  intro D G x v0 v1 v2 v3 v4 v5 v7 v8 fa fin
  refine ⟨_, rfl, mk_row0 (K := K) (R := R) fa rH_ok (by decide) (by decide) lq1 lq2 kt fun y H1 s1 ra => ?_⟩
  obtain ⟨dx, fx, lx, hy, fax, ktx⟩ := id ra
  refine ⟨_, rfl, y, R, dx, _, _, rfl, hy, TR.cl, TR.n3, row_fills _ _ _, _, rfl, y, dx, _, rfl, hy, y, rH, 2, rfl, ra, _, rfl, y, dx, _, rfl, hy, y, rH, 2, rfl, ra, rH_ok, _, rfl, y, dx, _, rfl, hy, y, rH, 2, rfl, ra, rH_ok, (by show 4 ≤ sizeLine; decide), fun a1 na1 => ?_⟩
  have g1 : Same H1 (upd H1 a1 (.lst [.ref lx, .int 0, .bl true, .bl true])) := same_new na1
  have h1 : upd H1 a1 (.lst [.ref lx, .int 0, .bl true, .bl true]) a1 = some (.lst [.ref lx, .int 0, .bl true, .bl true]) := upd_same
  generalize upd H1 a1 (.lst [.ref lx, .int 0, .bl true, .bl true]) = H2 at g1 h1 ⊢
  refine ⟨(by show 0 ≤ sizeLine; decide), fun t2 nt2 => ?_⟩
  have g2 : Same H2 (upd H2 t2 (.tup [])) := same_new nt2
  have h2 : upd H2 t2 (.tup []) t2 = some (.tup []) := upd_same
  generalize upd H2 t2 (.tup []) = H3 at g2 h2 ⊢
  refine ⟨(by show 4 ≤ sizeLine; decide), fun a3 na3 => ?_⟩
  try dsimp only
  have g3 : Same H3 (upd H3 a3 (.lst [.ref t2, .int 0, .bl true, .bl true])) := same_new na3
  have h3 : upd H3 a3 (.lst [.ref t2, .int 0, .bl true, .bl true]) a3 = some (.lst [.ref t2, .int 0, .bl true, .bl true]) := upd_same
  generalize upd H3 a3 (.lst [.ref t2, .int 0, .bl true, .bl true]) = H4 at g3 h3 ⊢
  have g13 := g1.trans (g2.trans g3)
  refine ⟨bareD, bareD, .lst (SqL.of ((g2.trans g3) _ _ h1)) (.cons (.tup ktx.sq .nil) (.cons (.int _) (.cons (.bl _) (.cons (.bl _) .nil)))), .lst (SqL.of h3) (.cons (.tup (SqT.of (g3 _ _ h2)) .nil) (.cons (.int _) (.cons (.bl _) (.cons (.bl _) .nil)))), by decide +kernel, by decide +kernel, _, rfl, ?_⟩
  rw [show PyData.eqv bareD bareD = true from SeqAt.eqv_refl_plain _ (by rfl)]
  have fa4 := (fa.keep s1).keep g13
  refine iteT ⟨_, rfl, _, rfl, (by show 0 ≤ sizeLine; decide), fun l5 nl5 => ?_⟩
  have g5 : Same H4 (upd H4 l5 (.lst [])) := same_new nl5
  have h5 : upd H4 l5 (.lst []) l5 = some (.lst (([] : List Int).map V.int)) := upd_same
  generalize upd H4 l5 (.lst []) = H5 at g5 h5 ⊢
  refine mk_row (R := R) (fa4.keep g5) rH_ok (by decide) (by decide) lq1 lq2 h5 ⟨by decide, fun z hz => by cases hz⟩ fun y6 H6 s6 ra6 => ?_
  have s16 := g13.trans (g5.trans s6)
  have ra0 := ra.keep s16
  obtain ⟨dx6, _, _, hy6, _, _⟩ := id ra0
  obtain ⟨dz, _, _, hz, _, _⟩ := id ra6
  refine ⟨y, dx6, _, .ref R, rfl, hy6, tyR RA.rt hz, nf_own, y, y6, rH, rH, 2, 2, [], rfl, ra0, ra6, _, rfl, ?_⟩
  rw [same_self]
  exact fin H6
theorem lw_great {f R C : Addr} {cdv : Value} {A : Around} {outer : List Env} {s : Shared} {H : Hp} {E : XK} (T : Blt mg) (RA : RowA P w K mg base R C) (LB : LawB P w K mg base R C)
    (hr : Room 12 (cxOf CX0 P w K mg base nLaw "law" (defScope sLaw) f cdv A outer s H E).nox.A) :
    ∃ tr : TS, PSs (cxOf CX0 P w K mg base nLaw "law" (defScope sLaw) f cdv A outer s H E).nox ((defBody sLaw).drop 2) tr ∧ ∀ (D : Ends) (G : Hp) (v0 v1 v2 v3 v4 v5 v6 v7 v8 : Option V), (∀ G', D.rt (.bl true) G') →
      tr D [v0, v1, v2, v3, v4, v5, v6, v7, v8] G := by
  obtain ⟨fm, fdm, dsm, MF, GF, rdF, bF⟩ := LB.fm
  obtain ⟨fI, fdI, MI, GI, bI⟩ := RA.rm.ex
  obtain ⟨pt, gt, fdt, PT, GT, bT⟩ := id RA.tot
  obtain ⟨py, gy, fdy, PY, GY, bY⟩ := id RA.yg
  obtain ⟨pk, gk, fdk, PKp, GKp, bKp⟩ := id RA.kp
  obtain ⟨fi, fl, RW, FI, FIS, FL⟩ := RA.ln
  have TR := RA.rt.cl
  have hu : (cxOf CX0 P w K mg base nLaw "law" (defScope sLaw) f cdv A outer s H E).nox.A.units + 64 < cLine := Room.units hr
  obtain ⟨tE, hE, qE⟩ := lw_bare (f := f) (cdv := cdv) (A := A) (outer := outer) (s := s) (H := H) (E := E) T RA LB hr
  have lq1 : 1 ≤ rH.least gM := by decide
  have lq2 : rH.least gM ≤ gM := by decide
  refine ⟨_, (pss_cons (ps_set (i := 6) scLaw.nd rfl (.inl rfl) (pe_make (E := E0) MF GF (hr.mono (by decide)) (by rfl) LB.gC bF rdF pass0 (pa_cons (pe_tup (pa_cons pe_int (pa_cons pe_int pa_nil))) pa_nil)))
    (pss_cons (ps_set (i := 7) scLaw.nd rfl (.inl rfl) (pe_make (E := E0) MI GI (hr.mono (by decide)) (by rfl) RA.rm.g bI .nil pass0 (pa_cons (pv 6) (pa_cons (pe_op op_pow pe_int pe_int) (pa_cons (pe_op op_rep (pe_lst (pa_cons (pe_op op_pow pe_int pe_int) pa_nil)) pe_int) pa_nil)))))
    (pss_cons (ps_if (pt_cmpR (op_neD hu) (pe_lst (pa_cons (pe_prop (pv 7) TR.cl PT GT (hr.mono (by decide)) bT .nil pass0 rfl) (pa_cons (pe_callB (call_lenO (E := E0) RW.ln RW.lnF FL (hr.mono (by decide)) pass0) (by rfl) T.len PySem.boot_len (pa_cons (pv 7) pa_nil)) (pa_cons (pe_prop (pv 7) TR.cl PY GY (hr.mono (by decide)) bY .nil pass0 rfl) (pa_cons (pe_prop (pv 7) TR.cl PKp GKp (hr.mono (by decide)) bKp .nil pass0 rfl) pa_nil))))) (pe_lst (pa_cons (pe_op op_mul pe_int (pe_op op_pow pe_int pe_int)) (pa_cons pe_int (pa_cons pe_bl (pa_cons pe_bl pa_nil))))) (nomark _))
      (pss_one (ps_ret pe_bl)) pss_nil)
    hE))), ?_⟩
  intro D G v0 v1 v2 v3 v4 v5 v6 v7 v8 fin
  refine ⟨(by show 2 ≤ sizeLine; decide), fun tq ntq => ?_⟩
  have htq : upd G tq (.tup [.int 1, .int 2]) tq = some (.tup [.int rH.p, .int rH.q]) := upd_same
  dsimp only
  generalize upd G tq (.tup [.int 1, .int 2]) = H1 at htq ⊢
  refine fun x1 d1 nx1 nd1 ne1 => mk_fill (r := rH) nx1 nd1 htq rH_ok fun H2 s2 fa => ⟨rfl, ?_⟩
  refine ⟨_, rfl, _, _, rfl, rfl, ⟨by decide, by decide, by decide⟩, _, _, rfl, rfl, ⟨by decide, by decide, by decide⟩, (by show 1 ≤ sizeLine; decide), fun u nu => ?_⟩
  try dsimp only
  have s3 : Same H2 (upd H2 u (.lst [.int gX])) := same_new nu
  have h3 : upd H2 u (.lst [.int gX]) u = some (.lst [.int gX]) := upd_same
  generalize upd H2 u (.lst [.int gX]) = H3 at s3 h3 ⊢
  refine ⟨u, 2000, _, rfl, rfl, h3, by decide, by decide, (by show 1 * 2000 ≤ sizeLine; rw [sizeLine_eq]; decide), fun u2 nu2 => ?_⟩
  rw [List.flatten_replicate_singleton]
  have s4 : Same H3 (upd H3 u2 (.lst (List.replicate (2000 : Int).toNat (.int gX)))) := same_new nu2
  have h4 : upd H3 u2 (.lst (List.replicate (2000 : Int).toNat (.int gX))) u2 = some (.lst (gS.map V.int)) := by rw [upd_same, List.map_replicate]
  generalize upd H3 u2 (.lst (List.replicate (2000 : Int).toNat (.int gX))) = H4 at s4 h4 ⊢
  have s34 := s3.trans s4
  refine mk_row (R := R) (m := gM) (xs := gS) (fa.keep s34) rH_ok (by decide) (by decide) lq1 lq2 h4 gS_ok fun y H5 s5 ra => ?_
  obtain ⟨dx, x, lx, hy, _, hlx⟩ := id ra
  have eS := gS_sum
  have eL := gS_len
  have eK := gS_keep
  have eY := gS_young
  generalize gS = xs at *
  refine ⟨_, rfl, y, dx, _, rfl, hy, y, rH, gM, xs, rfl, ra, _, rfl, y, dx, _, rfl, hy, y, dx, lx, _, _, rfl, hy, row_fills _ _ _, hlx, _, rfl, ⟨by omega, by rw [List.length_map]; omega⟩, _, rfl, y, dx, _, rfl, hy, y, rH, gM, xs, rfl, ra, _, rfl, y, dx, _, rfl, hy, y, rH, gM, xs, rfl, ra, rH_ok, (by show 4 ≤ sizeLine; decide), fun a1 na1 => ?_⟩
  rw [eY, eK, eS, List.length_map, eL]
  have g1 : Same H5 (upd H5 a1 (.lst [.int (2 * 10 ^ Int.toNat 18), .int ((2000 : Nat) : Int), .bl false, .bl false])) := same_new na1
  have h1 : upd H5 a1 (.lst [.int (2 * 10 ^ Int.toNat 18), .int ((2000 : Nat) : Int), .bl false, .bl false]) a1 = some (.lst [.int (2 * 10 ^ Int.toNat 18), .int ((2000 : Nat) : Int), .bl false, .bl false]) := upd_same
  generalize upd H5 a1 (.lst [.int (2 * 10 ^ Int.toNat 18), .int ((2000 : Nat) : Int), .bl false, .bl false]) = H6 at g1 h1 ⊢
  refine ⟨_, _, rfl, rfl, ⟨by decide, by decide, by decide⟩, _, _, rfl, rfl, .inl ⟨by decide, by decide⟩, (by show 4 ≤ sizeLine; decide), fun a2 na2 => ?_⟩
  try dsimp only
  have g2 : Same H6 (upd H6 a2 (.lst [.int (2 * 10 ^ Int.toNat 18), .int 2000, .bl false, .bl false])) := same_new na2
  have h2 : upd H6 a2 (.lst [.int (2 * 10 ^ Int.toNat 18), .int 2000, .bl false, .bl false]) a2 = some (.lst [.int (2 * 10 ^ Int.toNat 18), .int 2000, .bl false, .bl false]) := upd_same
  generalize upd H6 a2 (.lst [.int (2 * 10 ^ Int.toNat 18), .int 2000, .bl false, .bl false]) = H7 at g2 h2 ⊢
  refine ⟨_, _, four_dp (g2 _ _ h1), four_dp h2, four_shaped _ _ _ _, four_shaped _ _ _ _, _, rfl, ?_⟩
  rw [show ((2000 : Nat) : Int) = 2000 from rfl, SeqAt.eqv_refl_plain _ (by rfl)]
  exact iteF (qE D H7 _ _ _ _ _ _ _ _ _ (((fa.keep s34).keep s5).keep (g1.trans g2)) fin)
end
end Ev
namespace Ev
open PySem L2 PySem.Spec PyProof.Rows RZ LamX
abbrev lapBody : List Stmt := loopBody ((defBody sLaw).getD 1 (.Pass ⟨0, 0, 0, 0⟩))
def spLawT (K : PySem.W.Frag) (T1 T2 : Addr) : Sp := fun vs H Q _ => ∃ (a : Addr) (ns : List Int), vs = [.ref a] ∧ SqL K H a (ns.map V.int) ∧ ns.length ≤ 63 ∧ H T1 = some (.tbl #[]) ∧ H T2 = some (.tbl #[]) ∧ ∀ H', Q (.bl true) H'
section
variable {P : Program} {w : World} {K : PySem.W.Frag} {mg : Str → Option Value} {base : Heap}
theorem lap_all {f : Addr} {TL : List (Addr × Str)} {cdv : Value} {A : Around} {outer : List Env} {s : Shared} {H : Hp} {E : XK} (T : Blt mg)
    (DW : Df P w K mg base 3 "_law_world" ["_law_pen_here"] spWorld) (DF : Df P w K mg base 2 "_law_fills" ["_law_pen_here", "_law_told", "_law_top"] spLFills)
    {fT : Addr} {fdT : FuncData} (GT : FnG P w K mg base 8 fT fdT ["_law_pen_here", "_law_told", "_law_top", "_law_fills_so"] spTold) (gT : mg "_law_told_right" = some (.ref fT)) (kT : PySem.W.keepIn K (.ref fT) = true) (bT : Binds K fdT ["_law_pen_here", "_law_told", "_law_top", "_law_fills_so"] [])
    (DE : Df P w K mg base 8 "_law_equal_right" ["_law_pen_here", "_law_told", "_law_top", "_law_fills_so"] spEqr)
    {fR : Addr} {fdR : FuncData} (GR : FnG P w K mg base 12 fR fdR ["_law_pen_here", "_law_told", "_law_top"] (spRefu TL)) (gR : mg "_law_refused_right" = some (.ref fR)) (kR : PySem.W.keepIn K (.ref fR) = true) (bR : Binds K fdR ["_law_pen_here", "_law_told", "_law_top"] [])
    {fP : Addr} {fdP : FuncData} (GP : FnG P w K mg base 12 fP fdP ["_law_pen_here", "_law_told", "_law_top", "_law_fills_so"] (spPgs TL)) (gP : mg "_law_pages_right" = some (.ref fP)) (kP : PySem.W.keepIn K (.ref fP) = true) (bP : Binds K fdP ["_law_pen_here", "_law_told", "_law_top", "_law_fills_so"] [])
    (hr : Room 12 (cxOf CX0 P w K mg base nLaw "law" (defScope sLaw) f cdv A outer s H E).nox.A) (gd : (cxOf CX0 P w K mg base nLaw "law" (defScope sLaw) f cdv A outer s H E).nox.A.guards = some []) :
    ∃ t : TS, PSs (cxOf CX0 P w K mg base nLaw "law" (defScope sLaw) f cdv A outer s H E).nox lapBody t ∧ ∀ (D : Ends) (G : Hp) (p L : Addr) (b : Int) (v0 v2 v3 v4 v5 v6 v7 v8 : Option V), b ≤ 700000 → Pen L G p b → Tabs TL G →
      (∀ (G' : Hp) (u3 u4 u5 : Option V), Pen L G' p (b + 110) → Tabs TL G' → D.nx [v0, some (.ref p), v2, u3, u4, u5, v6, v7, v8] G') →
      t D [v0, some (.ref p), v2, v3, v4, v5, v6, v7, v8] G := by
  obtain ⟨fW, fdW, GW, gW, kW, bW⟩ := DW.ex
  obtain ⟨fF, fdF, GF, gF, kF, bF⟩ := DF.ex
  obtain ⟨fE, fdE, GE, gE, kE, bE⟩ := DE.ex
  refine ⟨_, (pss_cons (ps_asg (pe_call GW (hr.mono (by decide)) (by rfl) gW kW bW .nil pass0 (pa_cons (pv 1) pa_nil)) (pg_tup (by rfl) (pgs_cons (pg_name (i := 3) scLaw.nd rfl (.inl rfl)) (pgs_cons (pg_name (i := 4) scLaw.nd rfl (.inl rfl)) pgs_nil))))
      (pss_cons (ps_set (i := 5) scLaw.nd rfl (.inl rfl) (pe_call GF (hr.mono (by decide)) (by rfl) gF kF bF .nil pass0 (pa_cons (pv 1) (pa_cons (pv 3) (pa_cons (pv 4) pa_nil)))))
      (pss_cons (ps_if (PW.pt (pw_or (pt_not (pt_val (pe_callG (E := E0) GT (hr.mono (by decide)) gd (by rfl) gT kT bT (pa_cons (pv 1) (pa_cons (pv 3) (pa_cons (pv 4) (pa_cons (pv 5) pa_nil))))))) (pw_or1 (pt_not (pt_val (pe_callG (E := E0) GR hr gd (by rfl) gR kR bR (pa_cons (pv 1) (pa_cons (pv 3) (pa_cons (pv 4) pa_nil)))))))))
        (pss_one (ps_ret pe_bl)) pss_nil)
      (pss_one (ps_if (PW.pt (pw_or (pt_not (pt_val (pe_call GE (hr.mono (by decide)) (by rfl) gE kE bE .nil pass0 (pa_cons (pv 1) (pa_cons (pv 3) (pa_cons (pv 4) (pa_cons (pv 5) pa_nil))))))) (pw_or1 (pt_not (pt_val (pe_callG (E := E0) GP hr gd (by rfl) gP kP bP (pa_cons (pv 1) (pa_cons (pv 3) (pa_cons (pv 4) (pa_cons (pv 5) pa_nil))))))))))
        (pss_one (ps_ret pe_bl)) pss_nil))))), ?_⟩
  intro D G p L b v0 v2 v3 v4 v5 v6 v7 v8 hb pn hT fin
  obtain ⟨py0, pe0⟩ := id pn.some
  refine ⟨_, rfl, p, L, b, rfl, by omega, pn, fun a l r m H1 o m1 m2 q1 q2 hl ha bt1 pn1 => ⟨a, _, rfl, SqT.of ha, rfl, _, _, rfl, _, _, rfl, rfl, ?_⟩⟩
  have e9 : (10 : Int) ^ 9 = 1000000000 := by decide
  rw [e9] at m2
  have mm : m ≤ 10 ^ 12 := by rw [e12]; omega
  have T1 := Ev.Tabs.but hT pe0 bt1
  obtain ⟨py1, pe1⟩ := id pn1.some
  refine ⟨_, rfl, _, rfl, _, rfl, p, L, l, r, m, _, rfl, hl, o, m1, mm, q1, q2, by omega, pn1, fun q xs H2 hq qp len bd bt2 pn2 => ?_⟩
  have T2 := Ev.Tabs.but T1 pe1 bt2
  have W2 : Wd H2 l r m q xs := ⟨bt2 _ _ (ne_of hl pe1 (by intro z; cases z)) hl, o, m1, by rw [e10]; omega, q1, q2, hq, len, fun x hx => ⟨(bd x hx).1, by have := (bd x hx).2; rw [e13]; omega⟩⟩
  refine ⟨_, rfl, _, rfl, _, rfl, _, rfl, _, l, r, m, q, xs, rfl, W2, fun H3 s3 => ⟨_, rfl, iteF ⟨_, rfl, _, rfl, _, rfl, p, L, l, _, r, m, rfl, by omega, pn2.keep s3, T2.ext s3, (W2.keep s3).hl, o, m1, mm, q1, q2, fun H4 x4 pn4 T4 => ⟨_, rfl, iteF ?_⟩⟩⟩⟩
  have W3 := W2.keep s3
  have pn3 := pn2.keep s3
  have W4 : Wd H4 l r m q xs := ⟨tupP pn3 W3.hl x4, o, m1, W3.m2, q1, q2, lstP (L := L) (b := b) qp W3.hq x4, len, W3.bd⟩
  refine ⟨_, rfl, _, rfl, _, rfl, _, rfl, _, l, r, m, q, xs, rfl, W4, fun H5 s5 => ⟨_, rfl, iteF ⟨_, rfl, _, rfl, _, rfl, _, rfl, p, L, l, _, r, m, q, xs, rfl, by omega, pn4.keep s5, T4.ext s5, W4.keep s5, fun H6 x6 pn6 T6 => ⟨_, rfl, iteF ?_⟩⟩⟩⟩
  exact fin H6 _ _ _ (pn6.mono (by omega)) T6
theorem ok_law {f R C T1 T2 : Addr} {fd : FuncData} {q1 q2 : Str} (F : Fun K "law" "law" sLaw f fd) (T : Blt mg) (RA : RowA P w K mg base R C) (LB : LawB P w K mg base R C)
    (D : Df P w K mg base 1 "_law_pen" ["_law_script"] (spPen K)) (DW : Df P w K mg base 3 "_law_world" ["_law_pen_here"] spWorld) (DF : Df P w K mg base 2 "_law_fills" ["_law_pen_here", "_law_told", "_law_top"] spLFills)
    {fT : Addr} {fdT : FuncData} (GT : FnG P w K mg base 8 fT fdT ["_law_pen_here", "_law_told", "_law_top", "_law_fills_so"] spTold) (gT : mg "_law_told_right" = some (.ref fT)) (kT : PySem.W.keepIn K (.ref fT) = true) (bT : Binds K fdT ["_law_pen_here", "_law_told", "_law_top", "_law_fills_so"] [])
    (DE : Df P w K mg base 8 "_law_equal_right" ["_law_pen_here", "_law_told", "_law_top", "_law_fills_so"] spEqr)
    {fR : Addr} {fdR : FuncData} (GR : FnG P w K mg base 12 fR fdR ["_law_pen_here", "_law_told", "_law_top"] (spRefu [(T1, q1), (T2, q2)])) (gR : mg "_law_refused_right" = some (.ref fR)) (kR : PySem.W.keepIn K (.ref fR) = true) (bR : Binds K fdR ["_law_pen_here", "_law_told", "_law_top"] [])
    {fP : Addr} {fdP : FuncData} (GP : FnG P w K mg base 12 fP fdP ["_law_pen_here", "_law_told", "_law_top", "_law_fills_so"] (spPgs [(T1, q1), (T2, q2)])) (gP : mg "_law_pages_right" = some (.ref fP)) (kP : PySem.W.keepIn K (.ref fP) = true) (bP : Binds K fdP ["_law_pen_here", "_law_told", "_law_top", "_law_fills_so"] []) :
    FnG P w K mg base 13 f fd ["_law_script"] (spLawT K T1 T2) := by
  obtain ⟨fp, fdp, Gp, gp, kp, bp⟩ := D.ex
  refine fng_of F scLaw (fun vs H Q E h => ?_) (fun cdv A outer s H vs Q E hr gd h => ?_)
  · obtain ⟨a, ns, rfl, _⟩ := h
    rfl
  · obtain ⟨a, ns, rfl, hS, hlen, hT1, hT2, kk⟩ := h
    obtain ⟨tB, hB, qB⟩ := lap_all (f := f) (cdv := cdv) (outer := outer) (s := s) (H := H) (E := E) T DW DF GT gT kT bT DE GR gR kR bR GP gP kP bP hr gd
    obtain ⟨tE, hE, qE⟩ := lw_great (f := f) (cdv := cdv) (outer := outer) (s := s) (H := H) (E := E) T RA LB hr
    refine ⟨_, (pss_cons (ps_set (i := 1) scLaw.nd rfl (.inl rfl) (pe_call Gp (hr.mono (by decide)) (by rfl) gp kp bp .nil pass0 (pa_cons (pv 0) pa_nil)))
      (pss_cons (ps_for PassesOwn.never rfl (pi_range1 (by rfl) T.range (pa_cons pe_int pa_nil)) (pg_name (i := 2) scLaw.nd rfl (.inl rfl)) hB)
      hE)), ?_⟩
    refine ⟨_, rfl, a, ns, rfl, hS, hlen, fun p L H1 np s1 pn0 => ?_⟩
    have tb0 : Tabs [(T1, q1), (T2, q2)] H1 := fun z hz => by
      simp only [List.mem_cons, List.not_mem_nil, or_false] at hz
      rcases hz with rfl | rfl
      · exact TabS.nil (s1 _ _ hT1)
      · exact TabS.nil (s1 _ _ hT2)
    refine ⟨6, rfl, by decide, by decide, for_range (n := 6) (fun i σ H2 => (∃ v2 v3 v4 v5 : Option V, σ = [some (.ref a), some (.ref p), v2, v3, v4, v5, none, none, none]) ∧ Pen L H2 p (110 * (i : Int)) ∧ Tabs [(T1, q1), (T2, q2)] H2) ⟨⟨_, _, _, _, rfl⟩, pn0.mono (by decide), tb0⟩ (fun i σ H2 hi h => ?_) (fun σ H2 h => ?_)⟩
    · obtain ⟨⟨v2, v3, v4, v5, rfl⟩, pn, tb⟩ := h
      exact qB _ H2 p L _ _ _ _ _ _ _ _ _ (by omega) pn tb fun G' u3 u4 u5 p' T' => ⟨⟨_, _, _, _, rfl⟩, p'.mono (by omega), T'⟩
    · obtain ⟨⟨v2, v3, v4, v5, rfl⟩, pn, tb⟩ := h
      exact qE _ H2 _ _ _ _ _ _ _ _ _ fun G' => kk G'
end
end Ev
namespace Ev
open PySem L2 PySem.Spec PyProof.Rows LamX
/-- the table of a code object -/
def tabAt (K : PySem.W.Frag) (c : Addr) : Addr := match K.lookup c with
  | some ⟨_, _, .fields vs, _⟩ => (match (vs[11]? : Option Value) with | some (.ref T) => T | _ => 0)
  | _ => 0
/-! The law's own call, where two other defs make lambdas: the tables of both code objects are told of. -/
section
variable {P : Program} {w : World} {K : PySem.W.Frag} {mg mb : Str → Option Value}
theorem law_callT2 {k : Nat} {fa a c c2 T T2 : Addr} {fd : FuncData} {x : Str} {sp : Sp} {s : Shared} {vs : List Value} {ns : List Int}
    (inK : K.In s.heap) (ns1 : s.heap.Ns mainGlobals mg) (ns2 : s.heap.Ns builtinsNs mb) (blt : ∀ x : Str, x ≠ "__name__" → mb x = bootBuiltins x)
    (noLim : s.heap.NoLimit) (hg : s.gens = #[]) (hT : s.heap.get? T = some { cls := .none, data := .fields #[] }) (nT : K.lookup T = none) (hc : PySem.W.CodeHd s.heap c T)
    (hT2 : s.heap.get? T2 = some { cls := .none, data := .fields #[] }) (nT2 : K.lookup T2 = none) (hc2 : PySem.W.CodeHd s.heap c2 T2) (TT : T ≠ T2)
    (hbm : ∃ (bm : Addr) (ob : Obj), mg "__builtins__" = some (.ref bm) ∧ bm ≠ builtinsNs ∧ s.heap.get? bm = some ob ∧ ob.cls = .type "module" ∧ ob.dict = some builtinsNs ∧ ob.data = .plain)
    (ha : s.heap.get? a = some { cls := .type "list", data := .seq vs.toArray }) (hi : IntsAre vs ns) (hl : ns.length ≤ sizeLine) (hr : Room k callerA)
    (F : ∀ base : Heap, K.In base → base.Ns mainGlobals mg → TabB base mg c T → TabB base mg c2 T2 → FnG P w K mg base k fa fd [x] sp)
    (bt : ∀ (s : Shared) (u : Value), BindsTo s fd ⟨[u], []⟩ [(x, u)])
    (hsp : ∀ H : Hp, H T = some (.tbl #[]) → H T2 = some (.tbl #[]) → SqL K H a (ns.map V.int) → sp [.ref a] H (fun v _ => v = .bl true) fun _ _ _ => False) :
    codeAny (model P w) callerA (.call (.ref fa) ⟨[.ref a], []⟩)
      (fun r s' => r = .ok (.ret (.bool true)) ∧ OldK s.heap s'.heap ∧ s'.os = s.os ∧ AllBare s'.gens) s := by
  have rv := vals_ints hi
  have lv := hi.length
  have aT : a ≠ T := fun z => by
    rw [z, hT] at ha
    cases ha
  have aT2 : a ≠ T2 := fun z => by
    rw [z, hT2] at ha
    cases ha
  have key : ∀ H : Hp, H T = some (.tbl #[]) → H T2 = some (.tbl #[]) → (∀ b u, H b = some u → b ≠ T → b ≠ T2 → b = a ∧ K.lookup a = none ∧ u = .frz { cls := .type "list", data := .seq vs.toArray } (.lst (ns.map V.int))) →
      SqL K H a (ns.map V.int) → codeAny (model P w) callerA (.call (.ref fa) ⟨[.ref a], []⟩)
        (fun r s' => r = .ok (.ret (.bool true)) ∧ OldK s.heap s'.heap ∧ s'.os = s.os ∧ AllBare s'.gens) s := by
    intro H eT eT2 only sq
    have ok : HOk P w H s.heap := by
      intro b u e
      by_cases zb : b = T
      · subst zb
        rw [eT] at e
        cases e
        exact hT
      · by_cases zb2 : b = T2
        · subst zb2
          rw [eT2] at e
          cases e
          exact hT2
        · obtain ⟨rfl, _, rfl⟩ := only b u e zb zb2
          exact ⟨ha, by rw [List.length_map]; exact hl, vs, _, rv, ha⟩
    have plain : ∀ {b : Addr} {o : Obj}, s.heap.get? b = some o → (∀ vs n, o.data ≠ .seq vs n) → o.data ≠ .fields #[] → H b = none := by
      intro b o e d1 d2
      cases q : H b with
      | none => rfl
      | some u =>
        by_cases zb : b = T
        · subst zb
          rw [hT] at e
          cases e
          exact absurd rfl d2
        · by_cases zb2 : b = T2
          · subst zb2
            rw [hT2] at e
            cases e
            exact absurd rfl d2
          · obtain ⟨rfl, _, _⟩ := only b u q zb zb2
            rw [ha] at e
            cases e
            exact absurd rfl (d1 _ _)
    have names : ∀ {b : Addr} {m : Str → Option Value}, s.heap.Ns b m → (hidT s.heap H).Ns b m := by
      rintro b m ⟨o, es, n, e, d, r⟩
      exact ⟨o, es, n, hidT_get e (plain e (fun _ _ z => by rw [d] at z; cases z) fun z => by rw [d] at z; cases z), d, r⟩
    have inB : K.In (hidT s.heap H) := by
      intro b o e
      refine hidT_get (inK b o e) ?_
      cases q : H b with
      | none => rfl
      | some u =>
        by_cases zb : b = T
        · rw [zb, nT] at e
          cases e
        · by_cases zb2 : b = T2
          · rw [zb2, nT2] at e
            cases e
          · obtain ⟨rfl, n, _⟩ := only b u q zb zb2
            rw [n] at e
            cases e
    have tab : ∀ {c T : Addr}, PySem.W.CodeHd s.heap c T → s.heap.get? T = some { cls := .none, data := .fields #[] } → TabB (hidT s.heap H) mg c T := by
      intro c T hc hT
      obtain ⟨bm, ob, b1, b2, b3, b4, b5, b6⟩ := hbm
      refine ⟨?_, ⟨bm, ob, b1, b2, fun q => ?_, fun q => ?_, hidT_get b3 (plain b3 (fun _ _ z => by rw [b6] at z; cases z) fun z => by rw [b6] at z; cases z), b4, b5, b6⟩, fun z => ?_⟩
      · obtain ⟨o, us, file, tf, flags, tg, inF, text, tt, e1, r1, r2, r3, rest⟩ := hc
        refine ⟨o, us, file, tf, flags, tg, inF, text, tt, hidT_get e1 (plain e1 (fun _ _ z => by rw [r2] at z; cases z) fun z => ?_), r1, r2, r3, rest⟩
        rw [r2] at z
        cases z
        simp at r3
      · obtain ⟨o, es, n, e, d, _⟩ := ns1
        rw [q, e] at b3
        cases b3
        rw [d] at b6
        cases b6
      · rw [q, hT] at b3
        cases b3
        cases b6
      · obtain ⟨o, es, n, e, d, _⟩ := ns1
        rw [z, hT] at e
        cases e
        cases d
    obtain ⟨mc, l1, l2⟩ := noLim
    have md : Mod K mg (hidT s.heap H) := ⟨inB, names ns1, ⟨mb, names ns2, blt⟩, ⟨mc, names l1, l2⟩⟩
    have env : Env0 P w K mg (hidT s.heap H) callerA [] s H :=
      ⟨rfl, md, fun b o e => of_hidT e, Nat.le_of_eq (hidT_size _ _), trivial, (fun b hb => by cases hb), ok, .of_eq hg⟩
    have go := (F _ inB (names ns1) (tab hc hT) (tab hc2 hT2)).goes callerA [] s H ⟨[.ref a], []⟩ [.ref a] [.ref a] _ _ hr rfl env (bt s (.ref a)) (.cons rfl .nil) (hsp H eT eT2 sq)
    refine codeAny_mono go fun r s2 h2 => ?_
    cases r with
    | error e => exact False.elim h2
    | ok fl =>
      cases fl with
      | next => exact False.elim h2
      | brk => exact False.elim h2
      | cont => exact False.elim h2
      | ret u =>
        obtain ⟨v, H2, os, bare, un, ok2, rr, q⟩ := h2
        obtain rfl : v = V.bl true := q
        obtain rfl : u = Value.bool true := rr
        have others : ∀ b o, b ≠ T → b ≠ T2 → s.heap.get? b = some o → s2.heap.get? b = some o := by
          intro b o nb nb2 e
          cases q : H b with
          | none => exact un.keep b o e q (by intro z; cases z) (by simp)
          | some u =>
            obtain ⟨rfl, _, rfl⟩ := only b u q nb nb2
            obtain ⟨e1, _⟩ := ok b _ q
            obtain ⟨e2, _⟩ := ok2 b _ (un.frzs b _ _ q)
            rw [e] at e1
            cases e1
            exact e2
        obtain ⟨more, eM⟩ := un.tbls T #[] eT
        have grown : s2.heap.get? T = some { cls := .none, data := .fields (#[] ++ more) } := ok2 T _ eM
        obtain ⟨more2, eM2⟩ := un.tbls T2 #[] eT2
        have grown2 : s2.heap.get? T2 = some { cls := .none, data := .fields (#[] ++ more2) } := ok2 T2 _ eM2
        refine ⟨rfl, ⟨fun b o e => ?_, fun b o e => ?_⟩, os, bare⟩
        · by_cases nb : b = T
          · subst nb
            rw [hT] at e
            cases e
            exact .inr (.inl ⟨(hc.tab hT).isCodeTable, rfl, #[], more, rfl, grown⟩)
          · by_cases nb2 : b = T2
            · subst nb2
              rw [hT2] at e
              cases e
              exact .inr (.inl ⟨(hc2.tab hT2).isCodeTable, rfl, #[], more2, rfl, grown2⟩)
            · exact .inl (others b o nb nb2 e)
        · by_cases nb : b = T
          · subst nb
            exact ⟨_, grown⟩
          · by_cases nb2 : b = T2
            · subst nb2
              exact ⟨_, grown2⟩
            · exact ⟨o, others b o nb nb2 e⟩
  cases hk : K.lookup a with
  | none =>
    refine key (fun b => if b = T then some (.tbl #[]) else if b = T2 then some (.tbl #[]) else if b = a then some (.frz { cls := .type "list", data := .seq vs.toArray } (.lst (ns.map V.int))) else none) (if_pos rfl) ((if_neg TT.symm).trans (if_pos rfl)) (fun b u e nb nb2 => ?_)
      (.inl (.inr ⟨_, (if_neg aT).trans ((if_neg aT2).trans (if_pos rfl))⟩))
    rw [if_neg nb, if_neg nb2] at e
    by_cases z : b = a
    · rw [if_pos z] at e
      cases e
      exact ⟨z, hk, rfl⟩
    · rw [if_neg z] at e
      cases e
  | some o =>
    have e := inK a o hk
    rw [ha] at e
    cases e
    refine key (fun b => if b = T then some (.tbl #[]) else if b = T2 then some (.tbl #[]) else none) (if_pos rfl) ((if_neg TT.symm).trans (if_pos rfl)) (fun b u e nb nb2 => by rw [if_neg nb, if_neg nb2] at e; cases e) (.inr ⟨_, vs.toArray, _, hk, rfl, rfl, rfl, ?_, by simpa using rv⟩)
    rw [List.size_toArray, lv]
    exact hl
end
/-- the law's call, the tables of two other defs' code objects told -/
theorem walk_ofGT2 {l : PySem.W.OpenLaw} {n k : Nat} {q : Program} {loose : List Str} {XP : (Str → Option Value) → Heap → Prop} {YP : World → Heap → Prop}
    {d : DefRec} {x xr xs : Str} (hn : l.most = some n) (hn2 : n ≤ sizeLine) (hdf : d.params.defaults = []) (hr : Room k callerA) (hrec : ((recsOf q).any fun e => e.name == xr) = true) (hrec2 : ((recsOf q).any fun e => e.name == xs) = true)
    (F : ∀ (w : World) (mg : Str → Option Value) (fa : Addr) (h : Heap), YP w h → h.Ns mainGlobals mg → mg d.name = some (.ref fa) →
      ∃ (K : PySem.W.Frag) (fd fdr fds : FuncData) (sp : Sp) (fr c T fs c2 T2 : Addr) (o o2 : Obj), K.In h ∧ (∀ (s : Shared) (u : Value), BindsTo s fd ⟨[u], []⟩ [(x, u)]) ∧
        (mg xr = some (.ref fr) ∧ K.lookup fr = some o ∧ o.data = .func fdr ∧ fdr.code = .ref c ∧ PySem.W.codeHdIn K c T = true ∧ K.lookup T = none) ∧
        (mg xs = some (.ref fs) ∧ K.lookup fs = some o2 ∧ o2.data = .func fds ∧ fds.code = .ref c2 ∧ PySem.W.codeHdIn K c2 T2 = true ∧ K.lookup T2 = none) ∧ T ≠ T2 ∧
        (∀ (H : Hp) (a : Addr) (ns : List Int), ns.length ≤ n → H T = some (.tbl #[]) → H T2 = some (.tbl #[]) → SqL K H a (ns.map V.int) → sp [.ref a] H (fun v _ => v = .bl true) fun _ _ _ => False) ∧
        ∀ base : Heap, K.In base → base.Ns mainGlobals mg → TabB base mg c T → TabB base mg c2 T2 → FnG l.prog w K mg base k fa fd [x] sp) :
    PySem.W.WalkO q loose XP YP l.row.toRowW d [] (fun f vs => PySem.call f vs) := by
  refine Att.attach_callB hn hdf fun w s0 s1 mg mb fa o pm cd doc a vs ns G Y h1 h2 h3 h4 h5 h6 h7 hbits h8 => ?_
  obtain ⟨K, fd, fdr, fds, sp, fr, c, T, fs, c2, T2, o1, o2, inK, bt, ⟨k0, k1, k2, k3, kc, kT⟩, ⟨m0, m1, m2, m3, mc, mT⟩, TT, hsp, hF⟩ := F w mg fa _ Y G.T.g h4
  have get : ∀ {xr : Str} {fr c T : Addr} {o1 : Obj} {fdr : FuncData}, ((recsOf q).any fun e => e.name == xr) = true → mg xr = some (.ref fr) → K.lookup fr = some o1 → o1.data = .func fdr → fdr.code = .ref c → PySem.W.CodeHd s1.heap c T → s1.heap.get? T = some { cls := .none, data := .fields #[] } := by
    intro xr fr c T o1 fdr hrec k0 k1 k2 k3 hc
    obtain ⟨dL, hm, e1⟩ := List.any_eq_true.mp hrec
    obtain ⟨a2, o2, fd2, c2, P2, g1, g2, g3, g4, g5, g6⟩ := G.T.tab dL hm
    rw [beq_iff_eq.mp e1, k0] at g1
    cases g1
    rw [inK _ _ k1] at g2
    cases g2
    rw [k2] at g3
    cases g3
    rw [k3] at g4
    cases g4
    obtain ⟨⟨oc, vc, e1, _, e3, e4⟩, hP⟩ := g6
    obtain ⟨oc', vs', file, tf, flags, tg, inF, text, tt, f1, f2, f3, f4, _⟩ := id hc
    rw [f1] at e1
    cases e1
    rw [f3] at e3
    cases e3
    rw [f4] at e4
    cases e4
    exact hP
  have hc := PySem.W.codeHd_of_K inK kc
  have hc2 := PySem.W.codeHd_of_K inK mc
  exact law_callT2 inK G.T.g G.T.b G.T.builtins G.T.nolimit h8 (get hrec k0 k1 k2 k3 hc) kT hc (get hrec2 m0 m1 m2 m3 hc2) mT hc2 TT G.T.bmain h5 h6 (Nat.le_trans h7 hn2) hr hF bt (fun H eT eT2 sq => hsp H a ns h7 eT eT2 sq)
theorem kit_bty {K : PySem.W.Frag} {t : Value} (h : PySem.W.subIn K t (.type "ValueError") = some true) : PySem.W.kitOne K t (.type "ValueError") = some true := by
  unfold PySem.W.kitOne
  split
  · rfl
  · unfold PySem.W.kitCls
    simp only
    rw [if_pos (by decide +kernel)]
    exact h
theorem walk_ofGTK2 {l : PySem.W.OpenLaw} {n k : Nat} {q : Program} {loose : List Str} {XP : (Str → Option Value) → Heap → Prop} {YP : World → Heap → Prop}
    {d : DefRec} {K : Params → PySem.W.Frag} {x xr xs : Str} (hn : l.most = some n) (hn2 : n ≤ sizeLine) (hdf : d.params.defaults = []) (hr : Room k callerA) (hrec : ((recsOf q).any fun e => e.name == xr) = true) (hrec2 : ((recsOf q).any fun e => e.name == xs) = true)
    (hY : ∀ (w : World) (h : Heap), YP w h → (K w.params).In h)
    (F : ∀ (w : World) (mg : Str → Option Value) (fa : Addr) (h : Heap), (K w.params).In h → h.Ns mainGlobals mg → mg d.name = some (.ref fa) →
      ∃ (fd fdr fds : FuncData) (sp : Sp) (fr c T fs c2 T2 : Addr) (o o2 : Obj), (∀ (s : Shared) (u : Value), BindsTo s fd ⟨[u], []⟩ [(x, u)]) ∧
        (mg xr = some (.ref fr) ∧ (K w.params).lookup fr = some o ∧ o.data = .func fdr ∧ fdr.code = .ref c ∧ PySem.W.codeHdIn (K w.params) c T = true ∧ (K w.params).lookup T = none) ∧
        (mg xs = some (.ref fs) ∧ (K w.params).lookup fs = some o2 ∧ o2.data = .func fds ∧ fds.code = .ref c2 ∧ PySem.W.codeHdIn (K w.params) c2 T2 = true ∧ (K w.params).lookup T2 = none) ∧ T ≠ T2 ∧
        (∀ (H : Hp) (a : Addr) (ns : List Int), ns.length ≤ n → H T = some (.tbl #[]) → H T2 = some (.tbl #[]) → SqL (K w.params) H a (ns.map V.int) → sp [.ref a] H (fun v _ => v = .bl true) fun _ _ _ => False) ∧
        ∀ base : Heap, (K w.params).In base → base.Ns mainGlobals mg → TabB base mg c T → TabB base mg c2 T2 → FnG l.prog w (K w.params) mg base k fa fd [x] sp) :
    PySem.W.WalkO q loose XP YP l.row.toRowW d [] (fun f vs => PySem.call f vs) :=
  walk_ofGT2 hn hn2 hdf hr hrec hrec2 fun w mg fa h Y ns hm => by
    obtain ⟨fd, fdr, fds, sp, fr, c, T, fs, c2, T2, o, o2, r⟩ := F w mg fa h (hY w h Y) ns hm
    exact ⟨K w.params, fd, fdr, fds, sp, fr, c, T, fs, c2, T2, o, o2, hY w h Y, r⟩
theorem kit_clsB {K : PySem.W.Frag} {t : Value} {C : Addr} {b : Bool} (h1 : PySem.W.isClsIn K C = true) (h2 : PySem.W.typeIn K (.ref C) = some (.type "type")) (h3 : PySem.W.subIn K t (.ref C) = some b) : PySem.W.kitCls K t (.ref C) = some b := by
  have h1 : (PySem.W.clsIn K C).isSome = true := h1
  unfold PySem.W.kitCls
  simp only [h1, h2, h3]
  cases b <;> decide
theorem kit_own {K : PySem.W.Frag} {t : Value} {C : Addr} (h1 : PySem.W.isClsIn K C = true) (h2 : PySem.W.typeIn K (.ref C) = some (.type "type")) (h3 : PySem.W.subIn K t (.ref C) = some true) : PySem.W.kitOne K t (.ref C) = some true := by
  unfold PySem.W.kitOne
  split
  · rfl
  · exact kit_clsB h1 h2 h3
theorem kit_not {K : PySem.W.Frag} {D C : Addr} (h1 : PySem.W.isClsIn K C = true) (h2 : PySem.W.typeIn K (.ref C) = some (.type "type")) (h3 : PySem.W.subIn K (.ref D) (.ref C) = some false) (h4 : PySem.W.subIn K (.ref C) (.ref C) = some true) : PySem.W.kitOne K (.ref D) (.ref C) = some false := by
  unfold PySem.W.kitOne
  split
  · rename_i z
    by_cases e : D = C
    · rw [e, h4] at h3
      cases h3
    · have n : ((Value.ref D) == (Value.ref C)) = false := by simp [e]
      rw [n] at z
      cases z
  · exact kit_clsB h1 h2 h3
theorem exm_own {K : PySem.W.Frag} {t : Value} {C : Addr} (h1 : PySem.W.isClsIn K C = true) (h2 : PySem.W.typeIn K (.ref C) = some (.type "type")) (h3 : PySem.W.subIn K t (.ref C) = some true) (h4 : PySem.W.subIn K (.ref C) (.type "BaseException") = some true) : PySem.W.exmOne K t (.ref C) = some true := by
  unfold PySem.W.exmOne
  rw [h4, if_pos (by decide)]
  exact kit_clsB h1 h2 h3
theorem sqT_K {K : PySem.W.Frag} {H : Hp} {a : Addr} {od : Option Addr} {us : List Value} {n : Nat} {sl : Array (Option Value)} {xs : List V} (h : K.lookup a = some ⟨.type "tuple", od, .seq us.toArray n, sl⟩) (hl : xs.length ≤ 1000) (r : Vals xs us) : SqT K H a xs := by
  have hl2 : us.length ≤ 1000 := by rw [← r.length]; exact hl
  exact .inr ⟨_, us.toArray, n, h, rfl, rfl, by rw [List.size_toArray]; exact Nat.le_trans hl2 (by decide), by simpa using r⟩
theorem kit_refLT {K : PySem.W.Frag} {C : Addr} (h1 : PySem.W.subIn K (.ref C) (.type "list") = some false) (h2 : PySem.W.subIn K (.ref C) (.type "tuple") = some false) : PySem.W.kitAny K (.ref C) [.type "list", .type "tuple"] = some false := by
  have e1 : PySem.W.kitOne K (.ref C) (.type "list") = some false := by
    unfold PySem.W.kitOne
    split
    · rename_i z
      cases z
    · unfold PySem.W.kitCls
      simp only
      rw [if_pos (by decide +kernel)]
      exact h1
  have e2 : PySem.W.kitOne K (.ref C) (.type "tuple") = some false := by
    unfold PySem.W.kitOne
    split
    · rename_i z
      cases z
    · unfold PySem.W.kitCls
      simp only
      rw [if_pos (by decide +kernel)]
      exact h2
  exact kitAny_cons e1 (fun _ => kitAny_cons e2 (fun _ => kitAny_nil) (fun z => by cases z)) (fun z => by cases z)
theorem vals_rev : ∀ {vs : List V} {us : List Value}, Vals vs us → Vals vs.reverse us.reverse
  | _, _, .nil => .nil
  | _, _, .cons h t => by
    rw [List.reverse_cons, List.reverse_cons]
    exact (vals_rev t).append (.cons h .nil)
theorem fnr_of {P : Program} {w : World} {K : PySem.W.Frag} {mg : Str → Option Value} {base : Heap} {CX : CXT} {k : Nat} {f : Addr} {fd : FuncData} {ps : List Str} {sp : Sp} (F : FnOk P w K mg base CX k f fd ps sp) (b : Binds K fd ps []) : FnR P w K mg base CX k f sp := by
  intro A above s H us vs Q E room env rv hs
  have hl : us.length = ps.length := rv.length.symm.trans (F.len _ _ _ _ hs)
  have bt := b s us (env.mod.kin.keeps fun b o e => (env.bs b o e).1) (by rw [List.append_nil]; exact hl)
  rw [List.append_nil] at bt
  exact F.run A above s H ⟨us, []⟩ us vs Q E room env bt rv hs
set_option maxHeartbeats 4000000 in
theorem all_mk {l : PySem.W.OpenLaw} {w : World} {K : PySem.W.Frag} {h : Heap} {mg : Str → Option Value} {f0 f1 f2 f3 f4 f5 f6 f7 f8 f9 f10 f11 f12 f13 f14 f15 f16 f17 f18 f19 f20 f21 f22 f23 f24 f25 f26 f27 f28 f29 cR f30 cP C R f59 T50 KD50 f50 T51 f51 E51 f52 f53 f60 f54 f55 f49 p56 f56 p57 f57 p58 f58 BR f61 BN f62 BO f63 BP f64 TM f65 FE TP DB D1 D2 D3 fa : Addr} {od0 an0 od1 an1 od2 an2 od3 an3 od4 an4 od5 an5 od6 an6 od7 an7 od8 an8 od9 an9 od10 an10 od11 an11 od12 an12 od13 an13 od14 an14 od15 an15 od16 an16 od17 an17 od18 an18 od19 an19 od20 an20 od21 an21 od22 an22 od23 an23 od24 an24 od25 an25 od26 an26 od27 an27 od28 an28 od29 an29 od30 an30 od59 an59 td50 od50 an50 td51 od51 an51 odE51 od52 an52 od53 an53 od60 an60 od54 an54 od55 an55 od49 an49 od56 an56 od57 an57 od58 an58 od61 an61 od62 an62 od63 an63 od64 an64 od65 an65 odTP odD1 odD2 odD3 : Option Addr} {sl0 sl1 sl2 sl3 sl4 sl5 sl6 sl7 sl8 sl9 sl10 sl11 sl12 sl13 sl14 sl15 sl16 sl17 sl18 sl19 sl20 sl21 sl22 sl23 sl24 sl25 sl26 sl27 sl28 sl29 sl30 sl59 ts50 sl50 ts51 sl51 slE51 sl52 sl53 sl60 sl54 sl55 sl49 sl56 sl57 sl58 sl61 sl62 sl63 sl64 sl65 slTP slD1 slD2 slD3 : Array (Option Value)} {oc0 dc0 pm0 cd0 ct0 kV0 oc1 dc1 pm1 cd1 ct1 kV1 oc2 dc2 pm2 cd2 ct2 kV2 oc3 dc3 pm3 cd3 ct3 kV3 oc4 dc4 pm4 cd4 ct4 kV4 oc5 dc5 pm5 cd5 ct5 kV5 oc6 dc6 pm6 cd6 ct6 kV6 oc7 dc7 pm7 cd7 ct7 kV7 oc8 dc8 pm8 cd8 ct8 kV8 oc9 dc9 pm9 cd9 ct9 kV9 oc10 dc10 pm10 cd10 ct10 kV10 oc11 dc11 pm11 cd11 ct11 kV11 oc12 dc12 pm12 cd12 ct12 kV12 oc13 dc13 pm13 cd13 ct13 kV13 oc14 dc14 pm14 cd14 ct14 kV14 oc15 dc15 pm15 cd15 ct15 kV15 oc16 dc16 pm16 cd16 ct16 kV16 oc17 dc17 pm17 cd17 ct17 kV17 oc18 dc18 pm18 cd18 ct18 kV18 oc19 dc19 pm19 cd19 ct19 kV19 oc20 dc20 pm20 cd20 ct20 kV20 oc21 dc21 pm21 cd21 ct21 kV21 oc22 dc22 pm22 cd22 ct22 kV22 oc23 dc23 pm23 cd23 ct23 kV23 oc24 dc24 pm24 cd24 ct24 kV24 oc25 dc25 pm25 cd25 ct25 kV25 oc26 dc26 pm26 cd26 ct26 kV26 oc27 dc27 pm27 cd27 ct27 kV27 oc28 dc28 pm28 cd28 ct28 kV28 oc29 dc29 pm29 ct29 kV29 oc30 dc30 pm30 ct30 kV30 oc59 dc59 pm59 cd59 ct59 kV59 tc50 oc50 dc50 pm50 cd50 ct50 tc51 oc51 dc51 pm51 cd51 ct51 kV51 oc52 dc52 pm52 cd52 ct52 kV52 oc53 dc53 pm53 cd53 ct53 kV53 oc60 dc60 pm60 cd60 ct60 kV60 oc54 dc54 pm54 cd54 ct54 kV54 oc55 dc55 pm55 cd55 ct55 kV55 oc49 dc49 pm49 cd49 ct49 kV49 oc56 dc56 pm56 cd56 ct56 kV56 oc57 dc57 pm57 cd57 ct57 kV57 oc58 dc58 pm58 cd58 ct58 kV58 oc61 dc61 pm61 cd61 ct61 kV61 oc62 dc62 pm62 cd62 ct62 kV62 oc63 dc63 pm63 cd63 ct63 kV63 oc64 dc64 pm64 cd64 ct64 kV64 oc65 dc65 pm65 cd65 ct65 kV65 : Value} {tt500 tk500 tk501 tgT tgL tgM tgQ tgI uTP0 uTP1 uTP2 uTP3 tkDB0 tkDB1 tkDB2 uD10 uD11 uD20 uD21 uD30 uD31 : Tok} {tn50 tn51 nE51 nTP nDB nD1 nD2 nD3 : Nat} {hDB0 hDB1 hDB2 : Int} {nmBR qBR nsBR bsBR bmBR snBR subBR abBR colBR ddBR k0BR k1BR k2BR k3BR k5BR nmBN qBN nsBN bsBN bmBN snBN subBN abBN colBN ddBN k0BN k1BN k2BN k3BN k5BN nmBO qBO nsBO bsBO bmBO snBO subBO abBO colBO ddBO k0BO k1BO k2BO k3BO k5BO nmBP qBP nsBP bsBP bmBP snBP subBP abBP colBP ddBP k0BP k1BP k2BP k3BP k5BP nmTM qTM nsTM bsTM bmTM snTM subTM abTM colTM ddTM k0TM k1TM k2TM k3TM k5TM : _} {rs56 rs57 rs58 : List Value} (X : K.In h) (G : h.Ns mainGlobals mg) (hfa : mg "law" = some (.ref fa))
    (a0 : PySem.W.nsIn K mainGlobals "is_integer" = some (some (.ref f0)))
    (l0 : K.lookup f0 = some ⟨oc0, od0, .func (PySem.W.fnOf "is_integer" "is_integer" (defArgs sIsInt) (defBody sIsInt) (defScope sIsInt) .none kV0 dc0 pm0 an0 cd0 ct0), sl0⟩)
    (c0 : PySem.W.codeIn K cd0 "is_integer" = true)
    (k0 : PySem.W.keepIn K (.ref f0) = true)
    (a1 : PySem.W.nsIn K mainGlobals "is_within" = some (some (.ref f1)))
    (l1 : K.lookup f1 = some ⟨oc1, od1, .func (PySem.W.fnOf "is_within" "is_within" (defArgs sWithin) (defBody sWithin) (defScope sWithin) .none kV1 dc1 pm1 an1 cd1 ct1), sl1⟩)
    (c1 : PySem.W.codeIn K cd1 "is_within" = true)
    (k1 : PySem.W.keepIn K (.ref f1) = true)
    (a2 : PySem.W.nsIn K mainGlobals "is_pair" = some (some (.ref f2)))
    (l2 : K.lookup f2 = some ⟨oc2, od2, .func (PySem.W.fnOf "is_pair" "is_pair" (defArgs sPair) (defBody sPair) (defScope sPair) .none kV2 dc2 pm2 an2 cd2 ct2), sl2⟩)
    (c2 : PySem.W.codeIn K cd2 "is_pair" = true)
    (k2 : PySem.W.keepIn K (.ref f2) = true)
    (a3 : PySem.W.nsIn K mainGlobals "can_be" = some (some (.ref f3)))
    (l3 : K.lookup f3 = some ⟨oc3, od3, .func (PySem.W.fnOf "can_be" "can_be" (defArgs sCanBe) (defBody sCanBe) (defScope sCanBe) .none kV3 dc3 pm3 an3 cd3 ct3), sl3⟩)
    (c3 : PySem.W.codeIn K cd3 "can_be" = true)
    (k3 : PySem.W.keepIn K (.ref f3) = true)
    (a4 : PySem.W.nsIn K mainGlobals "least_of" = some (some (.ref f4)))
    (l4 : K.lookup f4 = some ⟨oc4, od4, .func (PySem.W.fnOf "least_of" "least_of" (defArgs sLeastOf) (defBody sLeastOf) (defScope sLeastOf) .none kV4 dc4 pm4 an4 cd4 ct4), sl4⟩)
    (c4 : PySem.W.codeIn K cd4 "least_of" = true)
    (k4 : PySem.W.keepIn K (.ref f4) = true)
    (a5 : PySem.W.nsIn K mainGlobals "is_kept" = some (some (.ref f5)))
    (l5 : K.lookup f5 = some ⟨oc5, od5, .func (PySem.W.fnOf "is_kept" "is_kept" (defArgs sIsKept) (defBody sIsKept) (defScope sIsKept) .none kV5 dc5 pm5 an5 cd5 ct5), sl5⟩)
    (c5 : PySem.W.codeIn K cd5 "is_kept" = true)
    (k5 : PySem.W.keepIn K (.ref f5) = true)
    (a6 : PySem.W.nsIn K mainGlobals "page_at" = some (some (.ref f6)))
    (l6 : K.lookup f6 = some ⟨oc6, od6, .func (PySem.W.fnOf "page_at" "page_at" (defArgs sPageAt) (defBody sPageAt) (defScope sPageAt) .none kV6 dc6 pm6 an6 cd6 ct6), sl6⟩)
    (c6 : PySem.W.codeIn K cd6 "page_at" = true)
    (k6 : PySem.W.keepIn K (.ref f6) = true)
    (a7 : PySem.W.nsIn K mainGlobals "need_fill_rule" = some (some (.ref f7)))
    (l7 : K.lookup f7 = some ⟨oc7, od7, .func (PySem.W.fnOf "need_fill_rule" "need_fill_rule" (defArgs sNeedFillRule) (defBody sNeedFillRule) (defScope sNeedFillRule) .none kV7 dc7 pm7 an7 cd7 ct7), sl7⟩)
    (c7 : PySem.W.codeIn K cd7 "need_fill_rule" = true)
    (k7 : PySem.W.keepIn K (.ref f7) = true)
    (a8 : PySem.W.nsIn K mainGlobals "need_size" = some (some (.ref f8)))
    (l8 : K.lookup f8 = some ⟨oc8, od8, .func (PySem.W.fnOf "need_size" "need_size" (defArgs sNeedSize) (defBody sNeedSize) (defScope sNeedSize) .none kV8 dc8 pm8 an8 cd8 ct8), sl8⟩)
    (c8 : PySem.W.codeIn K cd8 "need_size" = true)
    (k8 : PySem.W.keepIn K (.ref f8) = true)
    (a9 : PySem.W.nsIn K mainGlobals "need_page_size" = some (some (.ref f9)))
    (l9 : K.lookup f9 = some ⟨oc9, od9, .func (PySem.W.fnOf "need_page_size" "need_page_size" (defArgs sNeedPageSize) (defBody sNeedPageSize) (defScope sNeedPageSize) .none kV9 dc9 pm9 an9 cd9 ct9), sl9⟩)
    (c9 : PySem.W.codeIn K cd9 "need_page_size" = true)
    (k9 : PySem.W.keepIn K (.ref f9) = true)
    (a10 : PySem.W.nsIn K mainGlobals "need_up_to" = some (some (.ref f10)))
    (l10 : K.lookup f10 = some ⟨oc10, od10, .func (PySem.W.fnOf "need_up_to" "need_up_to" (defArgs sNeedUpTo) (defBody sNeedUpTo) (defScope sNeedUpTo) .none kV10 dc10 pm10 an10 cd10 ct10), sl10⟩)
    (c10 : PySem.W.codeIn K cd10 "need_up_to" = true)
    (k10 : PySem.W.keepIn K (.ref f10) = true)
    (a11 : PySem.W.nsIn K mainGlobals "kept" = some (some (.ref f11)))
    (l11 : K.lookup f11 = some ⟨oc11, od11, .func (PySem.W.fnOf "kept" "kept" (defArgs sKept) (defBody sKept) (defScope sKept) .none kV11 dc11 pm11 an11 cd11 ct11), sl11⟩)
    (c11 : PySem.W.codeIn K cd11 "kept" = true)
    (k11 : PySem.W.keepIn K (.ref f11) = true)
    (a12 : PySem.W.nsIn K mainGlobals "parts_of" = some (some (.ref f12)))
    (l12 : K.lookup f12 = some ⟨oc12, od12, .func (PySem.W.fnOf "parts_of" "parts_of" (defArgs sParts) (defBody sParts) (defScope sParts) .none kV12 dc12 pm12 an12 cd12 ct12), sl12⟩)
    (c12 : PySem.W.codeIn K cd12 "parts_of" = true)
    (k12 : PySem.W.keepIn K (.ref f12) = true)
    (a13 : PySem.W.nsIn K mainGlobals "is_flat" = some (some (.ref f13)))
    (l13 : K.lookup f13 = some ⟨oc13, od13, .func (PySem.W.fnOf "is_flat" "is_flat" (defArgs sFlat) (defBody sFlat) (defScope sFlat) .none kV13 dc13 pm13 an13 cd13 ct13), sl13⟩)
    (c13 : PySem.W.codeIn K cd13 "is_flat" = true)
    (k13 : PySem.W.keepIn K (.ref f13) = true)
    (a14 : PySem.W.nsIn K mainGlobals "copied_deep" = some (some (.ref f14)))
    (l14 : K.lookup f14 = some ⟨oc14, od14, .func (PySem.W.fnOf "copied_deep" "copied_deep" (defArgs sCopied) (defBody sCopied) (defScope sCopied) .none kV14 dc14 pm14 an14 cd14 ct14), sl14⟩)
    (c14 : PySem.W.codeIn K cd14 "copied_deep" = true)
    (k14 : PySem.W.keepIn K (.ref f14) = true)
    (a15 : PySem.W.nsIn K mainGlobals "rebuilt" = some (some (.ref f15)))
    (l15 : K.lookup f15 = some ⟨oc15, od15, .func (PySem.W.fnOf "rebuilt" "rebuilt" (defArgs sRebuilt) (defBody sRebuilt) (defScope sRebuilt) .none kV15 dc15 pm15 an15 cd15 ct15), sl15⟩)
    (c15 : PySem.W.codeIn K cd15 "rebuilt" = true)
    (k15 : PySem.W.keepIn K (.ref f15) = true)
    (a16 : PySem.W.nsIn K mainGlobals "_law_pen" = some (some (.ref f16)))
    (l16 : K.lookup f16 = some ⟨oc16, od16, .func (PySem.W.fnOf "_law_pen" "_law_pen" (defArgs sPen) (defBody sPen) (defScope sPen) .none kV16 dc16 pm16 an16 cd16 ct16), sl16⟩)
    (c16 : PySem.W.codeIn K cd16 "_law_pen" = true)
    (k16 : PySem.W.keepIn K (.ref f16) = true)
    (a17 : PySem.W.nsIn K mainGlobals "_law_draw" = some (some (.ref f17)))
    (l17 : K.lookup f17 = some ⟨oc17, od17, .func (PySem.W.fnOf "_law_draw" "_law_draw" (defArgs sDraw) (defBody sDraw) (defScope sDraw) .none kV17 dc17 pm17 an17 cd17 ct17), sl17⟩)
    (c17 : PySem.W.codeIn K cd17 "_law_draw" = true)
    (k17 : PySem.W.keepIn K (.ref f17) = true)
    (a18 : PySem.W.nsIn K mainGlobals "_law_pick" = some (some (.ref f18)))
    (l18 : K.lookup f18 = some ⟨oc18, od18, .func (PySem.W.fnOf "_law_pick" "_law_pick" (defArgs sPick) (defBody sPick) (defScope sPick) .none kV18 dc18 pm18 an18 cd18 ct18), sl18⟩)
    (c18 : PySem.W.codeIn K cd18 "_law_pick" = true)
    (k18 : PySem.W.keepIn K (.ref f18) = true)
    (a19 : PySem.W.nsIn K mainGlobals "_law_numbers" = some (some (.ref f19)))
    (l19 : K.lookup f19 = some ⟨oc19, od19, .func (PySem.W.fnOf "_law_numbers" "_law_numbers" (defArgs sLNumbers) (defBody sLNumbers) (defScope sLNumbers) .none kV19 dc19 pm19 an19 cd19 ct19), sl19⟩)
    (c19 : PySem.W.codeIn K cd19 "_law_numbers" = true)
    (k19 : PySem.W.keepIn K (.ref f19) = true)
    (a20 : PySem.W.nsIn K mainGlobals "_law_rule" = some (some (.ref f20)))
    (l20 : K.lookup f20 = some ⟨oc20, od20, .func (PySem.W.fnOf "_law_rule" "_law_rule" (defArgs sLRule) (defBody sLRule) (defScope sLRule) .none kV20 dc20 pm20 an20 cd20 ct20), sl20⟩)
    (c20 : PySem.W.codeIn K cd20 "_law_rule" = true)
    (k20 : PySem.W.keepIn K (.ref f20) = true)
    (a21 : PySem.W.nsIn K mainGlobals "_law_least" = some (some (.ref f21)))
    (l21 : K.lookup f21 = some ⟨oc21, od21, .func (PySem.W.fnOf "_law_least" "_law_least" (defArgs sLLeast) (defBody sLLeast) (defScope sLLeast) .none kV21 dc21 pm21 an21 cd21 ct21), sl21⟩)
    (c21 : PySem.W.codeIn K cd21 "_law_least" = true)
    (k21 : PySem.W.keepIn K (.ref f21) = true)
    (a22 : PySem.W.nsIn K mainGlobals "_law_world" = some (some (.ref f22)))
    (l22 : K.lookup f22 = some ⟨oc22, od22, .func (PySem.W.fnOf "_law_world" "_law_world" (defArgs sLWorld) (defBody sLWorld) (defScope sLWorld) .none kV22 dc22 pm22 an22 cd22 ct22), sl22⟩)
    (c22 : PySem.W.codeIn K cd22 "_law_world" = true)
    (k22 : PySem.W.keepIn K (.ref f22) = true)
    (a23 : PySem.W.nsIn K mainGlobals "_law_fills" = some (some (.ref f23)))
    (l23 : K.lookup f23 = some ⟨oc23, od23, .func (PySem.W.fnOf "_law_fills" "_law_fills" (defArgs sLFills) (defBody sLFills) (defScope sLFills) .none kV23 dc23 pm23 an23 cd23 ct23), sl23⟩)
    (c23 : PySem.W.codeIn K cd23 "_law_fills" = true)
    (k23 : PySem.W.keepIn K (.ref f23) = true)
    (a24 : PySem.W.nsIn K mainGlobals "_law_heard" = some (some (.ref f24)))
    (l24 : K.lookup f24 = some ⟨oc24, od24, .func (PySem.W.fnOf "_law_heard" "_law_heard" (defArgs sLHeard) (defBody sLHeard) (defScope sLHeard) .none kV24 dc24 pm24 an24 cd24 ct24), sl24⟩)
    (c24 : PySem.W.codeIn K cd24 "_law_heard" = true)
    (k24 : PySem.W.keepIn K (.ref f24) = true)
    (a25 : PySem.W.nsIn K mainGlobals "_law_keeps" = some (some (.ref f25)))
    (l25 : K.lookup f25 = some ⟨oc25, od25, .func (PySem.W.fnOf "_law_keeps" "_law_keeps" (defArgs sLKeeps) (defBody sLKeeps) (defScope sLKeeps) .none kV25 dc25 pm25 an25 cd25 ct25), sl25⟩)
    (c25 : PySem.W.codeIn K cd25 "_law_keeps" = true)
    (k25 : PySem.W.keepIn K (.ref f25) = true)
    (a26 : PySem.W.nsIn K mainGlobals "_law_told_right" = some (some (.ref f26)))
    (l26 : K.lookup f26 = some ⟨oc26, od26, .func (PySem.W.fnOf "_law_told_right" "_law_told_right" (defArgs sLToldRight) (defBody sLToldRight) (defScope sLToldRight) .none kV26 dc26 pm26 an26 cd26 ct26), sl26⟩)
    (c26 : PySem.W.codeIn K cd26 "_law_told_right" = true)
    (k26 : PySem.W.keepIn K (.ref f26) = true)
    (a27 : PySem.W.nsIn K mainGlobals "_law_equal_right" = some (some (.ref f27)))
    (l27 : K.lookup f27 = some ⟨oc27, od27, .func (PySem.W.fnOf "_law_equal_right" "_law_equal_right" (defArgs sLEqualRight) (defBody sLEqualRight) (defScope sLEqualRight) .none kV27 dc27 pm27 an27 cd27 ct27), sl27⟩)
    (c27 : PySem.W.codeIn K cd27 "_law_equal_right" = true)
    (k27 : PySem.W.keepIn K (.ref f27) = true)
    (a28 : PySem.W.nsIn K mainGlobals "law" = some (some (.ref f28)))
    (l28 : K.lookup f28 = some ⟨oc28, od28, .func (PySem.W.fnOf "law" "law" (defArgs sLaw) (defBody sLaw) (defScope sLaw) .none kV28 dc28 pm28 an28 cd28 ct28), sl28⟩)
    (c28 : PySem.W.codeIn K cd28 "law" = true)
    (k28 : PySem.W.keepIn K (.ref f28) = true)
    (a29 : PySem.W.nsIn K mainGlobals "_law_refused_right" = some (some (.ref f29)))
    (l29 : K.lookup f29 = some ⟨oc29, od29, .func (PySem.W.fnOf "_law_refused_right" "_law_refused_right" (defArgs sLRefusedRight) (defBody sLRefusedRight) (defScope sLRefusedRight) .none kV29 dc29 pm29 an29 (.ref cR) ct29), sl29⟩)
    (c29 : PySem.W.codeIn K (.ref cR) "_law_refused_right" = true)
    (k29 : PySem.W.keepIn K (.ref f29) = true)
    (a30 : PySem.W.nsIn K mainGlobals "_law_pages_right" = some (some (.ref f30)))
    (l30 : K.lookup f30 = some ⟨oc30, od30, .func (PySem.W.fnOf "_law_pages_right" "_law_pages_right" (defArgs sLPagesRight) (defBody sLPagesRight) (defScope sLPagesRight) .none kV30 dc30 pm30 an30 (.ref cP) ct30), sl30⟩)
    (c30 : PySem.W.codeIn K (.ref cP) "_law_pages_right" = true)
    (k30 : PySem.W.keepIn K (.ref f30) = true)
    (aC : PySem.W.nsIn K mainGlobals "FillRule" = some (some (.ref C)))
    (pgC : PySem.W.plainGet K C Str.empty = true)
    (hdC : PySem.W.hasDictIn K C = true)
    (poC : PySem.W.plainOver K C = true)
    (saC : PySem.W.findIn K (.ref C) "__setattr__" = some (some (.builtin "object.__setattr__")))
    (mkC : PySem.W.makesIn K C = true)
    (kcC : PySem.W.keepIn K (.ref C) = true)
    (n0C : PySem.W.findIn K (.ref C) "times" = some none)
    (n1C : PySem.W.findIn K (.ref C) "plus" = some none)
    (n2C : PySem.W.findIn K (.ref C) "cut_of" = some none)
    (n3C : PySem.W.findIn K (.ref C) "join_of" = some none)
    (n4C : PySem.W.findIn K (.ref C) "width" = some none)
    (aR : PySem.W.nsIn K mainGlobals "Row" = some (some (.ref R)))
    (pgR : PySem.W.plainGet K R Str.empty = true)
    (hdR : PySem.W.hasDictIn K R = true)
    (poR : PySem.W.plainOver K R = true)
    (saR : PySem.W.findIn K (.ref R) "__setattr__" = some (some (.builtin "object.__setattr__")))
    (mkR : PySem.W.makesIn K R = true)
    (kcR : PySem.W.keepIn K (.ref R) = true)
    (n0R : PySem.W.findIn K (.ref R) "fill_rule" = some none)
    (n1R : PySem.W.findIn K (.ref R) "most" = some none)
    (n2R : PySem.W.findIn K (.ref R) "fills" = some none)
    (hcC : PySem.W.findIn K (.ref C) "__class__" = some (some (.builtin "object.__class__")))
    (moC : PySem.W.mroIn K C (.type "object") = some true)
    (icC : PySem.W.isClsIn K C = true)
    (ttC : PySem.W.typeIn K (.ref C) = some (.type "type"))
    (hcR : PySem.W.findIn K (.ref R) "__class__" = some (some (.builtin "object.__class__")))
    (moR : PySem.W.mroIn K R (.type "object") = some true)
    (icR : PySem.W.isClsIn K R = true)
    (ttR : PySem.W.typeIn K (.ref R) = some (.type "type"))
    (ikn : PySem.W.specialIn K (.builtin "object.__class__") "__get__" = some (some (.builtin "getset_descriptor.__get__")))
    (ikt : PySem.W.takesIn K (.builtin "object.__class__") = some true)
    (neC : PySem.W.findIn K (.ref C) "__ne__" = some (some (.builtin "object.__ne__")))
    (neR : PySem.W.findIn K (.ref R) "__ne__" = some (some (.builtin "object.__ne__")))
    (noCL : PySem.W.subIn K (.ref C) (.type "list") = some false)
    (noCT : PySem.W.subIn K (.ref C) (.type "tuple") = some false)
    (m59 : PySem.W.findIn K (.ref C) "__eq__" = some (some (.ref f59)))
    (i59 : PySem.W.isFn K (.ref f59) = true)
    (l59 : K.lookup f59 = some ⟨oc59, od59, .func (PySem.W.fnOf "__eq__" "FillRule.__eq__" (defArgs sFillRule_eq) (defBody sFillRule_eq) (defScope sFillRule_eq) .none kV59 dc59 pm59 an59 cd59 ct59), sl59⟩)
    (c59 : PySem.W.codeIn K cd59 "FillRule.__eq__" = true)
    (k59 : PySem.W.keepIn K (.ref f59) = true)
    (m50 : PySem.W.findIn K (.ref C) "__init__" = some (some (.ref f50)))
    (i50 : PySem.W.isFn K (.ref f50) = true)
    (l50 : K.lookup f50 = some ⟨oc50, od50, .func (PySem.W.fnOf "__init__" "FillRule.__init__" (defArgs sFillRule_init) (defBody sFillRule_init) (defScope sFillRule_init) (.ref T50) (.ref KD50) dc50 pm50 an50 cd50 ct50), sl50⟩)
    (c50 : PySem.W.codeIn K cd50 "FillRule.__init__" = true)
    (k50 : PySem.W.keepIn K (.ref f50) = true)
    (t50 : K.lookup T50 = some ⟨tc50, td50, .seq #[Value.int 0 tt500] tn50, ts50⟩)
    (kd500 : PySem.W.nsIn K KD50 "cut_of" = some (some (.int 1 tk500)))
    (kd501 : PySem.W.nsIn K KD50 "join_of" = some (some (.int 2 tk501)))
    (m51 : PySem.W.findIn K (.ref R) "__init__" = some (some (.ref f51)))
    (i51 : PySem.W.isFn K (.ref f51) = true)
    (l51 : K.lookup f51 = some ⟨oc51, od51, .func (PySem.W.fnOf "__init__" "Row.__init__" (defArgs sRow_init) (defBody sRow_init) (defScope sRow_init) (.ref T51) kV51 dc51 pm51 an51 cd51 ct51), sl51⟩)
    (c51 : PySem.W.codeIn K cd51 "Row.__init__" = true)
    (k51 : PySem.W.keepIn K (.ref f51) = true)
    (t51 : K.lookup T51 = some ⟨tc51, td51, .seq #[.ref E51] tn51, ts51⟩)
    (lE51 : K.lookup E51 = some ⟨.type "tuple", odE51, .seq #[] nE51, slE51⟩)
    (m52 : PySem.W.findIn K (.ref R) "__len__" = some (some (.ref f52)))
    (i52 : PySem.W.isFn K (.ref f52) = true)
    (l52 : K.lookup f52 = some ⟨oc52, od52, .func (PySem.W.fnOf "__len__" "Row.__len__" (defArgs sRow_len) (defBody sRow_len) (defScope sRow_len) .none kV52 dc52 pm52 an52 cd52 ct52), sl52⟩)
    (c52 : PySem.W.codeIn K cd52 "Row.__len__" = true)
    (k52 : PySem.W.keepIn K (.ref f52) = true)
    (m53 : PySem.W.findIn K (.ref R) "__iter__" = some (some (.ref f53)))
    (i53 : PySem.W.isFn K (.ref f53) = true)
    (l53 : K.lookup f53 = some ⟨oc53, od53, .func (PySem.W.fnOf "__iter__" "Row.__iter__" (defArgs sRow_iter) (defBody sRow_iter) (defScope sRow_iter) .none kV53 dc53 pm53 an53 cd53 ct53), sl53⟩)
    (c53 : PySem.W.codeIn K cd53 "Row.__iter__" = true)
    (k53 : PySem.W.keepIn K (.ref f53) = true)
    (m60 : PySem.W.findIn K (.ref R) "__eq__" = some (some (.ref f60)))
    (i60 : PySem.W.isFn K (.ref f60) = true)
    (l60 : K.lookup f60 = some ⟨oc60, od60, .func (PySem.W.fnOf "__eq__" "Row.__eq__" (defArgs sRow_eq) (defBody sRow_eq) (defScope sRow_eq) .none kV60 dc60 pm60 an60 cd60 ct60), sl60⟩)
    (c60 : PySem.W.codeIn K cd60 "Row.__eq__" = true)
    (k60 : PySem.W.keepIn K (.ref f60) = true)
    (m54 : PySem.W.findIn K (.ref R) "put" = some (some (.ref f54)))
    (i54 : PySem.W.isFn K (.ref f54) = true)
    (l54 : K.lookup f54 = some ⟨oc54, od54, .func (PySem.W.fnOf "put" "Row.put" (defArgs sRow_put) (defBody sRow_put) (defScope sRow_put) .none kV54 dc54 pm54 an54 cd54 ct54), sl54⟩)
    (c54 : PySem.W.codeIn K cd54 "Row.put" = true)
    (k54 : PySem.W.keepIn K (.ref f54) = true)
    (m55 : PySem.W.findIn K (.ref R) "take" = some (some (.ref f55)))
    (i55 : PySem.W.isFn K (.ref f55) = true)
    (l55 : K.lookup f55 = some ⟨oc55, od55, .func (PySem.W.fnOf "take" "Row.take" (defArgs sRow_take) (defBody sRow_take) (defScope sRow_take) .none kV55 dc55 pm55 an55 cd55 ct55), sl55⟩)
    (c55 : PySem.W.codeIn K cd55 "Row.take" = true)
    (k55 : PySem.W.keepIn K (.ref f55) = true)
    (m49 : PySem.W.findIn K (.ref R) "page_of" = some (some (.ref f49)))
    (i49 : PySem.W.isFn K (.ref f49) = true)
    (l49 : K.lookup f49 = some ⟨oc49, od49, .func (PySem.W.fnOf "page_of" "Row.page_of" (defArgs sRow_page_of) (defBody sRow_page_of) (defScope sRow_page_of) .none kV49 dc49 pm49 an49 cd49 ct49), sl49⟩)
    (c49 : PySem.W.codeIn K cd49 "Row.page_of" = true)
    (k49 : PySem.W.keepIn K (.ref f49) = true)
    (pa56 : PySem.W.findIn K (.ref R) "total" = some (some (.ref p56)))
    (pb56 : PySem.W.specialIn K (.ref p56) "__get__" = some (some (.builtin "property.__get__")))
    (pc56 : PySem.W.takesIn K (.ref p56) = some true)
    (pd56 : PySem.W.recIn K p56 "property" = some (.ref f56 :: rs56))
    (l56 : K.lookup f56 = some ⟨oc56, od56, .func (PySem.W.fnOf "total" "Row.total" (defArgs sRow_total) (defBody sRow_total) (defScope sRow_total) .none kV56 dc56 pm56 an56 cd56 ct56), sl56⟩)
    (c56 : PySem.W.codeIn K cd56 "Row.total" = true)
    (k56 : PySem.W.keepIn K (.ref f56) = true)
    (pa57 : PySem.W.findIn K (.ref R) "is_young" = some (some (.ref p57)))
    (pb57 : PySem.W.specialIn K (.ref p57) "__get__" = some (some (.builtin "property.__get__")))
    (pc57 : PySem.W.takesIn K (.ref p57) = some true)
    (pd57 : PySem.W.recIn K p57 "property" = some (.ref f57 :: rs57))
    (l57 : K.lookup f57 = some ⟨oc57, od57, .func (PySem.W.fnOf "is_young" "Row.is_young" (defArgs sRow_is_young) (defBody sRow_is_young) (defScope sRow_is_young) .none kV57 dc57 pm57 an57 cd57 ct57), sl57⟩)
    (c57 : PySem.W.codeIn K cd57 "Row.is_young" = true)
    (k57 : PySem.W.keepIn K (.ref f57) = true)
    (pa58 : PySem.W.findIn K (.ref R) "keeps" = some (some (.ref p58)))
    (pb58 : PySem.W.specialIn K (.ref p58) "__get__" = some (some (.builtin "property.__get__")))
    (pc58 : PySem.W.takesIn K (.ref p58) = some true)
    (pd58 : PySem.W.recIn K p58 "property" = some (.ref f58 :: rs58))
    (l58 : K.lookup f58 = some ⟨oc58, od58, .func (PySem.W.fnOf "keeps" "Row.keeps" (defArgs sRow_keeps) (defBody sRow_keeps) (defScope sRow_keeps) .none kV58 dc58 pm58 an58 cd58 ct58), sl58⟩)
    (c58 : PySem.W.codeIn K cd58 "Row.keeps" = true)
    (k58 : PySem.W.keepIn K (.ref f58) = true)
    (aBR : PySem.W.nsIn K mainGlobals "BadRule" = some (some (.ref BR)))
    (icBR : PySem.W.isClsIn K BR = true)
    (ttBR : PySem.W.typeIn K (.ref BR) = some (.type "type"))
    (gaBR : PySem.W.findIn K (.ref BR) "__getattribute__" = some (some (.builtin "BaseException.__getattribute__")))
    (ggBR : PySem.W.findIn K (.ref BR) "__getattr__" = some none)
    (hdBR : PySem.W.hasDictIn K BR = true)
    (hcBR : PySem.W.findIn K (.ref BR) "__class__" = some (some (.builtin "object.__class__")))
    (moBR : PySem.W.mroIn K BR (.type "object") = some true)
    (saBR : PySem.W.findIn K (.ref BR) "__setattr__" = some (some (.builtin "object.__setattr__")))
    (exBR : PySem.W.subIn K (.ref BR) (.type "BaseException") = some true)
    (keBR : PySem.W.keepIn K (.ref BR) = true)
    (vEBR : PySem.W.subIn K (.ref BR) (.type "ValueError") = some true)
    (sSBR : PySem.W.subIn K (.ref BR) (.ref BR) = some true)
    (no0BR : PySem.W.findIn K (.ref BR) "part" = some none)
    (lxBR : K.lookup BR = some (excClassObj nmBR qBR BR nsBR bsBR bmBR true snBR subBR abBR colBR ddBR k0BR k1BR k2BR k3BR k5BR "ValueError.__new__"))
    (rxBR : PySem.HandSPX.refsVE bmBR = true)
    (m61 : PySem.W.findIn K (.ref BR) "__init__" = some (some (.ref f61)))
    (l61 : K.lookup f61 = some ⟨oc61, od61, .func (PySem.W.fnOf "__init__" "BadRule.__init__" (defArgs sBRInit) (defBody sBRInit) (defScope sBRInit) .none kV61 dc61 pm61 an61 cd61 ct61), sl61⟩)
    (c61 : PySem.W.codeIn K cd61 "BadRule.__init__" = true)
    (k61 : PySem.W.keepIn K (.ref f61) = true)
    (ty61 : PySem.W.typeIn K (.ref f61) = some (.type "function"))
    (aBN : PySem.W.nsIn K mainGlobals "BadNumber" = some (some (.ref BN)))
    (icBN : PySem.W.isClsIn K BN = true)
    (ttBN : PySem.W.typeIn K (.ref BN) = some (.type "type"))
    (gaBN : PySem.W.findIn K (.ref BN) "__getattribute__" = some (some (.builtin "BaseException.__getattribute__")))
    (ggBN : PySem.W.findIn K (.ref BN) "__getattr__" = some none)
    (hdBN : PySem.W.hasDictIn K BN = true)
    (hcBN : PySem.W.findIn K (.ref BN) "__class__" = some (some (.builtin "object.__class__")))
    (moBN : PySem.W.mroIn K BN (.type "object") = some true)
    (saBN : PySem.W.findIn K (.ref BN) "__setattr__" = some (some (.builtin "object.__setattr__")))
    (exBN : PySem.W.subIn K (.ref BN) (.type "BaseException") = some true)
    (keBN : PySem.W.keepIn K (.ref BN) = true)
    (vEBN : PySem.W.subIn K (.ref BN) (.type "ValueError") = some true)
    (sSBN : PySem.W.subIn K (.ref BN) (.ref BN) = some true)
    (no0BN : PySem.W.findIn K (.ref BN) "value" = some none)
    (lxBN : K.lookup BN = some (excClassObj nmBN qBN BN nsBN bsBN bmBN true snBN subBN abBN colBN ddBN k0BN k1BN k2BN k3BN k5BN "ValueError.__new__"))
    (rxBN : PySem.HandSPX.refsVE bmBN = true)
    (m62 : PySem.W.findIn K (.ref BN) "__init__" = some (some (.ref f62)))
    (l62 : K.lookup f62 = some ⟨oc62, od62, .func (PySem.W.fnOf "__init__" "BadNumber.__init__" (defArgs sBNInit) (defBody sBNInit) (defScope sBNInit) .none kV62 dc62 pm62 an62 cd62 ct62), sl62⟩)
    (c62 : PySem.W.codeIn K cd62 "BadNumber.__init__" = true)
    (k62 : PySem.W.keepIn K (.ref f62) = true)
    (ty62 : PySem.W.typeIn K (.ref f62) = some (.type "function"))
    (aBO : PySem.W.nsIn K mainGlobals "BadOther" = some (some (.ref BO)))
    (icBO : PySem.W.isClsIn K BO = true)
    (ttBO : PySem.W.typeIn K (.ref BO) = some (.type "type"))
    (gaBO : PySem.W.findIn K (.ref BO) "__getattribute__" = some (some (.builtin "BaseException.__getattribute__")))
    (ggBO : PySem.W.findIn K (.ref BO) "__getattr__" = some none)
    (hdBO : PySem.W.hasDictIn K BO = true)
    (hcBO : PySem.W.findIn K (.ref BO) "__class__" = some (some (.builtin "object.__class__")))
    (moBO : PySem.W.mroIn K BO (.type "object") = some true)
    (saBO : PySem.W.findIn K (.ref BO) "__setattr__" = some (some (.builtin "object.__setattr__")))
    (exBO : PySem.W.subIn K (.ref BO) (.type "BaseException") = some true)
    (keBO : PySem.W.keepIn K (.ref BO) = true)
    (vEBO : PySem.W.subIn K (.ref BO) (.type "ValueError") = some true)
    (sSBO : PySem.W.subIn K (.ref BO) (.ref BO) = some true)
    (no0BO : PySem.W.findIn K (.ref BO) "part" = some none)
    (lxBO : K.lookup BO = some (excClassObj nmBO qBO BO nsBO bsBO bmBO true snBO subBO abBO colBO ddBO k0BO k1BO k2BO k3BO k5BO "ValueError.__new__"))
    (rxBO : PySem.HandSPX.refsVE bmBO = true)
    (m63 : PySem.W.findIn K (.ref BO) "__init__" = some (some (.ref f63)))
    (l63 : K.lookup f63 = some ⟨oc63, od63, .func (PySem.W.fnOf "__init__" "BadOther.__init__" (defArgs sBadOther_init) (defBody sBadOther_init) (defScope sBadOther_init) .none kV63 dc63 pm63 an63 cd63 ct63), sl63⟩)
    (c63 : PySem.W.codeIn K cd63 "BadOther.__init__" = true)
    (k63 : PySem.W.keepIn K (.ref f63) = true)
    (ty63 : PySem.W.typeIn K (.ref f63) = some (.type "function"))
    (aBP : PySem.W.nsIn K mainGlobals "BadPages" = some (some (.ref BP)))
    (icBP : PySem.W.isClsIn K BP = true)
    (ttBP : PySem.W.typeIn K (.ref BP) = some (.type "type"))
    (gaBP : PySem.W.findIn K (.ref BP) "__getattribute__" = some (some (.builtin "BaseException.__getattribute__")))
    (ggBP : PySem.W.findIn K (.ref BP) "__getattr__" = some none)
    (hdBP : PySem.W.hasDictIn K BP = true)
    (hcBP : PySem.W.findIn K (.ref BP) "__class__" = some (some (.builtin "object.__class__")))
    (moBP : PySem.W.mroIn K BP (.type "object") = some true)
    (saBP : PySem.W.findIn K (.ref BP) "__setattr__" = some (some (.builtin "object.__setattr__")))
    (exBP : PySem.W.subIn K (.ref BP) (.type "BaseException") = some true)
    (keBP : PySem.W.keepIn K (.ref BP) = true)
    (vEBP : PySem.W.subIn K (.ref BP) (.type "ValueError") = some true)
    (sSBP : PySem.W.subIn K (.ref BP) (.ref BP) = some true)
    (no0BP : PySem.W.findIn K (.ref BP) "at" = some none)
    (lxBP : K.lookup BP = some (excClassObj nmBP qBP BP nsBP bsBP bmBP true snBP subBP abBP colBP ddBP k0BP k1BP k2BP k3BP k5BP "ValueError.__new__"))
    (rxBP : PySem.HandSPX.refsVE bmBP = true)
    (m64 : PySem.W.findIn K (.ref BP) "__init__" = some (some (.ref f64)))
    (l64 : K.lookup f64 = some ⟨oc64, od64, .func (PySem.W.fnOf "__init__" "BadPages.__init__" (defArgs sBadPages_init) (defBody sBadPages_init) (defScope sBadPages_init) .none kV64 dc64 pm64 an64 cd64 ct64), sl64⟩)
    (c64 : PySem.W.codeIn K cd64 "BadPages.__init__" = true)
    (k64 : PySem.W.keepIn K (.ref f64) = true)
    (ty64 : PySem.W.typeIn K (.ref f64) = some (.type "function"))
    (aTM : PySem.W.nsIn K mainGlobals "TooMany" = some (some (.ref TM)))
    (icTM : PySem.W.isClsIn K TM = true)
    (ttTM : PySem.W.typeIn K (.ref TM) = some (.type "type"))
    (gaTM : PySem.W.findIn K (.ref TM) "__getattribute__" = some (some (.builtin "BaseException.__getattribute__")))
    (ggTM : PySem.W.findIn K (.ref TM) "__getattr__" = some none)
    (hdTM : PySem.W.hasDictIn K TM = true)
    (hcTM : PySem.W.findIn K (.ref TM) "__class__" = some (some (.builtin "object.__class__")))
    (moTM : PySem.W.mroIn K TM (.type "object") = some true)
    (saTM : PySem.W.findIn K (.ref TM) "__setattr__" = some (some (.builtin "object.__setattr__")))
    (exTM : PySem.W.subIn K (.ref TM) (.type "BaseException") = some true)
    (keTM : PySem.W.keepIn K (.ref TM) = true)
    (vETM : PySem.W.subIn K (.ref TM) (.type "ValueError") = some true)
    (sSTM : PySem.W.subIn K (.ref TM) (.ref TM) = some true)
    (no0TM : PySem.W.findIn K (.ref TM) "what" = some none)
    (no1TM : PySem.W.findIn K (.ref TM) "most" = some none)
    (lxTM : K.lookup TM = some (excClassObj nmTM qTM TM nsTM bsTM bmTM true snTM subTM abTM colTM ddTM k0TM k1TM k2TM k3TM k5TM "ValueError.__new__"))
    (rxTM : PySem.HandSPX.refsVE bmTM = true)
    (m65 : PySem.W.findIn K (.ref TM) "__init__" = some (some (.ref f65)))
    (l65 : K.lookup f65 = some ⟨oc65, od65, .func (PySem.W.fnOf "__init__" "TooMany.__init__" (defArgs sTooMany_init) (defBody sTooMany_init) (defScope sTooMany_init) .none kV65 dc65 pm65 an65 cd65 ct65), sl65⟩)
    (c65 : PySem.W.codeIn K cd65 "TooMany.__init__" = true)
    (k65 : PySem.W.keepIn K (.ref f65) = true)
    (ty65 : PySem.W.typeIn K (.ref f65) = some (.type "function"))
    (aFE : PySem.W.nsIn K mainGlobals "FairError" = some (some (.ref FE)))
    (icFE : PySem.W.isClsIn K FE = true)
    (ttFE : PySem.W.typeIn K (.ref FE) = some (.type "type"))
    (suFX : PySem.W.subIn K (.ref FE) (.type "BaseException") = some true)
    (suBR : PySem.W.subIn K (.ref BR) (.ref FE) = some true)
    (nBRBN : PySem.W.subIn K (.ref BR) (.ref BN) = some false)
    (nBRBO : PySem.W.subIn K (.ref BR) (.ref BO) = some false)
    (nBRBP : PySem.W.subIn K (.ref BR) (.ref BP) = some false)
    (nBRTM : PySem.W.subIn K (.ref BR) (.ref TM) = some false)
    (suBN : PySem.W.subIn K (.ref BN) (.ref FE) = some true)
    (nBNBR : PySem.W.subIn K (.ref BN) (.ref BR) = some false)
    (nBNBO : PySem.W.subIn K (.ref BN) (.ref BO) = some false)
    (nBNBP : PySem.W.subIn K (.ref BN) (.ref BP) = some false)
    (nBNTM : PySem.W.subIn K (.ref BN) (.ref TM) = some false)
    (suBO : PySem.W.subIn K (.ref BO) (.ref FE) = some true)
    (nBOBR : PySem.W.subIn K (.ref BO) (.ref BR) = some false)
    (nBOBN : PySem.W.subIn K (.ref BO) (.ref BN) = some false)
    (nBOBP : PySem.W.subIn K (.ref BO) (.ref BP) = some false)
    (nBOTM : PySem.W.subIn K (.ref BO) (.ref TM) = some false)
    (suBP : PySem.W.subIn K (.ref BP) (.ref FE) = some true)
    (nBPBR : PySem.W.subIn K (.ref BP) (.ref BR) = some false)
    (nBPBN : PySem.W.subIn K (.ref BP) (.ref BN) = some false)
    (nBPBO : PySem.W.subIn K (.ref BP) (.ref BO) = some false)
    (nBPTM : PySem.W.subIn K (.ref BP) (.ref TM) = some false)
    (suTM : PySem.W.subIn K (.ref TM) (.ref FE) = some true)
    (nTMBR : PySem.W.subIn K (.ref TM) (.ref BR) = some false)
    (nTMBN : PySem.W.subIn K (.ref TM) (.ref BN) = some false)
    (nTMBO : PySem.W.subIn K (.ref TM) (.ref BO) = some false)
    (nTMBP : PySem.W.subIn K (.ref TM) (.ref BP) = some false)
    (hgT : PySem.W.nsIn K mainGlobals "MOST_TIMES" = some (some (.int 12 tgT)))
    (hgL : PySem.W.nsIn K mainGlobals "LEAST_SIZE" = some (some (.int 2 tgL)))
    (hgM : PySem.W.nsIn K mainGlobals "MOST_SIZE" = some (some (.int 1000000000000 tgM)))
    (hgQ : PySem.W.nsIn K mainGlobals "MOST_PAGES" = some (some (.int 2000 tgQ)))
    (hgI : PySem.W.nsIn K mainGlobals "MOST_FILL" = some (some (.int 1000000000000000 tgI)))
    (aTP : PySem.W.nsIn K mainGlobals "PARTS" = some (some (.ref TP)))
    (lTP : K.lookup TP = some ⟨.type "tuple", odTP, .seq #[.str "times" uTP0, .str "plus" uTP1, .str "cut_of" uTP2, .str "join_of" uTP3] nTP, slTP⟩)
    (aDB : PySem.W.nsIn K mainGlobals "BOUNDS" = some (some (.ref DB)))
    (lDB : K.lookup DB = some ⟨.type "dict", none, .dict #[⟨hDB0, .str "plus" tkDB0, .ref D1⟩, ⟨hDB1, .str "cut_of" tkDB1, .ref D2⟩, ⟨hDB2, .str "join_of" tkDB2, .ref D3⟩] nDB, #[]⟩)
    (hkDB0 : hDB0 = PyData.keyHash w.params "plus")
    (nsDB0 : PySem.W.nsIn K DB "plus" = some (some (.ref D1)))
    (hkDB1 : hDB1 = PyData.keyHash w.params "cut_of")
    (nsDB1 : PySem.W.nsIn K DB "cut_of" = some (some (.ref D2)))
    (hkDB2 : hDB2 = PyData.keyHash w.params "join_of")
    (nsDB2 : PySem.W.nsIn K DB "join_of" = some (some (.ref D3)))
    (lowDB : (DB == sysModules) = false)
    (lD1 : K.lookup D1 = some ⟨.type "tuple", odD1, .seq #[.int (-12) uD10, .int 12 uD11] nD1, slD1⟩)
    (lD2 : K.lookup D2 = some ⟨.type "tuple", odD2, .seq #[.int 1 uD20, .int 5 uD21] nD2, slD2⟩)
    (lD3 : K.lookup D3 = some ⟨.type "tuple", odD3, .seq #[.int 2 uD30, .int 6 uD31] nD3, slD3⟩)
    (hdcR : PySem.W.codeHdIn K cR (tabAt K cR) = true)
    (nocR : K.lookup (tabAt K cR) = none)
    (neqT : (tabAt K cR == tabAt K cP) = false)
    (hdcP : PySem.W.codeHdIn K cP (tabAt K cP) = true)
    (nocP : K.lookup (tabAt K cP) = none)
    (zint : PySem.W.nsIn K mainGlobals "int" = some none)
    (zlen : PySem.W.nsIn K mainGlobals "len" = some none)
    (zabs : PySem.W.nsIn K mainGlobals "abs" = some none)
    (zlist : PySem.W.nsIn K mainGlobals "list" = some none)
    (zmin : PySem.W.nsIn K mainGlobals "min" = some none)
    (zmax : PySem.W.nsIn K mainGlobals "max" = some none)
    (zisinstance : PySem.W.nsIn K mainGlobals "isinstance" = some none)
    (zbool : PySem.W.nsIn K mainGlobals "bool" = some none)
    (ztuple : PySem.W.nsIn K mainGlobals "tuple" = some none)
    (zall : PySem.W.nsIn K mainGlobals "all" = some none)
    (zrange : PySem.W.nsIn K mainGlobals "range" = some none)
    (zrepr : PySem.W.nsIn K mainGlobals "repr" = some none)
    (zany : PySem.W.nsIn K mainGlobals "any" = some none)
    (zdict : PySem.W.nsIn K mainGlobals "dict" = some none)
    (zzip : PySem.W.nsIn K mainGlobals "zip" = some none)
    (zsum : PySem.W.nsIn K mainGlobals "sum" = some none)
    (ziter : PySem.W.nsIn K mainGlobals "iter" = some none)
    (zenumerate : PySem.W.nsIn K mainGlobals "enumerate" = some none)
    (zValueError : PySem.W.nsIn K mainGlobals "ValueError" = some none) :
    ∃ (fd fdr fds : FuncData) (sp : Sp) (fr c T fs c2 T2 : Addr) (o o2 : Obj), (∀ (s : Shared) (u : Value), BindsTo s fd ⟨[u], []⟩ [("_law_script", u)]) ∧
      (mg "_law_refused_right" = some (.ref fr) ∧ K.lookup fr = some o ∧ o.data = .func fdr ∧ fdr.code = .ref c ∧ PySem.W.codeHdIn K c T = true ∧ K.lookup T = none) ∧
      (mg "_law_pages_right" = some (.ref fs) ∧ K.lookup fs = some o2 ∧ o2.data = .func fds ∧ fds.code = .ref c2 ∧ PySem.W.codeHdIn K c2 T2 = true ∧ K.lookup T2 = none) ∧ T ≠ T2 ∧
      (∀ (H : Hp) (a : Addr) (ns : List Int), ns.length ≤ 63 → H T = some (.tbl #[]) → H T2 = some (.tbl #[]) → SqL K H a (ns.map V.int) → sp [.ref a] H (fun v _ => v = .bl true) fun _ _ _ => False) ∧
      ∀ base : Heap, K.In base → base.Ns mainGlobals mg → TabB base mg c T → TabB base mg c2 T2 → FnG l.prog w K mg base 13 fa fd ["_law_script"] sp := by
  have e := hfa.symm.trans (PySem.W.mg_of X G a28)
  cases e
  have F0 := fun_mk (st := sIsInt) l0 c0 k0
  have b0 := F0.binds (ps := ["value"]) fun _ _ _ _ _ _ us hl => match us, hl with | [_], _ => rfl
  have F1 := fun_mk (st := sWithin) l1 c1 k1
  have b1 := F1.binds (ps := ["value", "least", "most"]) fun _ _ _ _ _ _ us hl => match us, hl with | [_, _, _], _ => rfl
  have F2 := fun_mk (st := sPair) l2 c2 k2
  have b2 := F2.binds (ps := ["value", "most"]) fun _ _ _ _ _ _ us hl => match us, hl with | [_, _], _ => rfl
  have F3 := fun_mk (st := sCanBe) l3 c3 k3
  have b3 := F3.binds (ps := ["part", "value"]) fun _ _ _ _ _ _ us hl => match us, hl with | [_, _], _ => rfl
  have F4 := fun_mk (st := sLeastOf) l4 c4 k4
  have b4 := F4.binds (ps := ["rule", "most"]) fun _ _ _ _ _ _ us hl => match us, hl with | [_, _], _ => rfl
  have F5 := fun_mk (st := sIsKept) l5 c5 k5
  have b5 := F5.binds (ps := ["rule", "most", "fills"]) fun _ _ _ _ _ _ us hl => match us, hl with | [_, _, _], _ => rfl
  have F6 := fun_mk (st := sPageAt) l6 c6 k6
  have b6 := F6.binds (ps := ["fills", "index"]) fun _ _ _ _ _ _ us hl => match us, hl with | [_, _], _ => rfl
  have F7 := fun_mk (st := sNeedFillRule) l7 c7 k7
  have b7 := F7.binds (ps := ["value"]) fun _ _ _ _ _ _ us hl => match us, hl with | [_], _ => rfl
  have F8 := fun_mk (st := sNeedSize) l8 c8 k8
  have b8 := F8.binds (ps := ["value"]) fun _ _ _ _ _ _ us hl => match us, hl with | [_], _ => rfl
  have F9 := fun_mk (st := sNeedPageSize) l9 c9 k9
  have b9 := F9.binds (ps := ["rule", "most"]) fun _ _ _ _ _ _ us hl => match us, hl with | [_, _], _ => rfl
  have F10 := fun_mk (st := sNeedUpTo) l10 c10 k10
  have b10 := F10.binds (ps := ["value", "most"]) fun _ _ _ _ _ _ us hl => match us, hl with | [_, _], _ => rfl
  have F11 := fun_mk (st := sKept) l11 c11 k11
  have b11 := F11.binds (ps := ["value"]) fun _ _ _ _ _ _ us hl => match us, hl with | [_], _ => rfl
  have F12 := fun_mk (st := sParts) l12 c12 k12
  have b12 := F12.binds (ps := ["value"]) fun _ _ _ _ _ _ us hl => match us, hl with | [_], _ => rfl
  have F13 := fun_mk (st := sFlat) l13 c13 k13
  have b13 := F13.binds (ps := ["value"]) fun _ _ _ _ _ _ us hl => match us, hl with | [_], _ => rfl
  have F14 := fun_mk (st := sCopied) l14 c14 k14
  have b14 := F14.binds (ps := ["value"]) fun _ _ _ _ _ _ us hl => match us, hl with | [_], _ => rfl
  have F15 := fun_mk (st := sRebuilt) l15 c15 k15
  have b15 := F15.binds (ps := ["value", "parts"]) fun _ _ _ _ _ _ us hl => match us, hl with | [_, _], _ => rfl
  have F16 := fun_mk (st := sPen) l16 c16 k16
  have b16 := F16.binds (ps := ["_law_script"]) fun _ _ _ _ _ _ us hl => match us, hl with | [_], _ => rfl
  have F17 := fun_mk (st := sDraw) l17 c17 k17
  have b17 := F17.binds (ps := ["_law_pen_here", "_law_many"]) fun _ _ _ _ _ _ us hl => match us, hl with | [_, _], _ => rfl
  have F18 := fun_mk (st := sPick) l18 c18 k18
  have b18 := F18.binds (ps := ["_law_pen_here", "_law_some"]) fun _ _ _ _ _ _ us hl => match us, hl with | [_, _], _ => rfl
  have F19 := fun_mk (st := sLNumbers) l19 c19 k19
  have b19 := F19.binds (ps := ["_law_pen_here"]) fun _ _ _ _ _ _ us hl => match us, hl with | [_], _ => rfl
  have F20 := fun_mk (st := sLRule) l20 c20 k20
  have b20 := F20.binds (ps := ["_law_told"]) fun _ _ _ _ _ _ us hl => match us, hl with | [_], _ => rfl
  have F21 := fun_mk (st := sLLeast) l21 c21 k21
  have b21 := F21.binds (ps := ["_law_told", "_law_top"]) fun _ _ _ _ _ _ us hl => match us, hl with | [_, _], _ => rfl
  have F22 := fun_mk (st := sLWorld) l22 c22 k22
  have b22 := F22.binds (ps := ["_law_pen_here"]) fun _ _ _ _ _ _ us hl => match us, hl with | [_], _ => rfl
  have F23 := fun_mk (st := sLFills) l23 c23 k23
  have b23 := F23.binds (ps := ["_law_pen_here", "_law_told", "_law_top"]) fun _ _ _ _ _ _ us hl => match us, hl with | [_, _, _], _ => rfl
  have F24 := fun_mk (st := sLHeard) l24 c24 k24
  have b24 := F24.binds (ps := ["_law_ask"]) fun _ _ _ _ _ _ us hl => match us, hl with | [_], _ => rfl
  have F25 := fun_mk (st := sLKeeps) l25 c25 k25
  have b25 := F25.binds (ps := ["_law_told", "_law_top", "_law_fills_so"]) fun _ _ _ _ _ _ us hl => match us, hl with | [_, _, _], _ => rfl
  have F26 := fun_mk (st := sLToldRight) l26 c26 k26
  have b26 := F26.binds (ps := ["_law_pen_here", "_law_told", "_law_top", "_law_fills_so"]) fun _ _ _ _ _ _ us hl => match us, hl with | [_, _, _, _], _ => rfl
  have F27 := fun_mk (st := sLEqualRight) l27 c27 k27
  have b27 := F27.binds (ps := ["_law_pen_here", "_law_told", "_law_top", "_law_fills_so"]) fun _ _ _ _ _ _ us hl => match us, hl with | [_, _, _, _], _ => rfl
  have F28 := fun_mk (st := sLaw) l28 c28 k28
  have b28 := F28.binds (ps := ["_law_script"]) fun _ _ _ _ _ _ us hl => match us, hl with | [_], _ => rfl
  have F29 := fun_mk (st := sLRefusedRight) l29 c29 k29
  have b29 := F29.binds (ps := ["_law_pen_here", "_law_told", "_law_top"]) fun _ _ _ _ _ _ us hl => match us, hl with | [_, _, _], _ => rfl
  have F30 := fun_mk (st := sLPagesRight) l30 c30 k30
  have b30 := F30.binds (ps := ["_law_pen_here", "_law_told", "_law_top", "_law_fills_so"]) fun _ _ _ _ _ _ us hl => match us, hl with | [_, _, _, _], _ => rfl
  have F59 := fun_mk (st := sFillRule_eq) l59 c59 k59
  have b59 := F59.binds (ps := ["self", "other"]) fun _ _ _ _ _ _ us hl => match us, hl with | [_, _], _ => rfl
  have F52 := fun_mk (st := sRow_len) l52 c52 k52
  have b52 := F52.binds (ps := ["self"]) fun _ _ _ _ _ _ us hl => match us, hl with | [_], _ => rfl
  have F53 := fun_mk (st := sRow_iter) l53 c53 k53
  have b53 := F53.binds (ps := ["self"]) fun _ _ _ _ _ _ us hl => match us, hl with | [_], _ => rfl
  have F60 := fun_mk (st := sRow_eq) l60 c60 k60
  have b60 := F60.binds (ps := ["self", "other"]) fun _ _ _ _ _ _ us hl => match us, hl with | [_, _], _ => rfl
  have F54 := fun_mk (st := sRow_put) l54 c54 k54
  have b54 := F54.binds (ps := ["self", "ahead"]) fun _ _ _ _ _ _ us hl => match us, hl with | [_, _], _ => rfl
  have F55 := fun_mk (st := sRow_take) l55 c55 k55
  have b55 := F55.binds (ps := ["self", "index"]) fun _ _ _ _ _ _ us hl => match us, hl with | [_, _], _ => rfl
  have F49 := fun_mk (st := sRow_page_of) l49 c49 k49
  have b49 := F49.binds (ps := ["self", "index"]) fun _ _ _ _ _ _ us hl => match us, hl with | [_, _], _ => rfl
  have F56 := fun_mk (st := sRow_total) l56 c56 k56
  have b56 := F56.binds (ps := ["self"]) fun _ _ _ _ _ _ us hl => match us, hl with | [_], _ => rfl
  have P56 : PropOf K R "total" p56 f56 := ⟨pa56, pb56, pc56, ⟨_, pd56⟩⟩
  have F57 := fun_mk (st := sRow_is_young) l57 c57 k57
  have b57 := F57.binds (ps := ["self"]) fun _ _ _ _ _ _ us hl => match us, hl with | [_], _ => rfl
  have P57 : PropOf K R "is_young" p57 f57 := ⟨pa57, pb57, pc57, ⟨_, pd57⟩⟩
  have F58 := fun_mk (st := sRow_keeps) l58 c58 k58
  have b58 := F58.binds (ps := ["self"]) fun _ _ _ _ _ _ us hl => match us, hl with | [_], _ => rfl
  have P58 : PropOf K R "keeps" p58 f58 := ⟨pa58, pb58, pc58, ⟨_, pd58⟩⟩
  have F61 := fun_mk (st := sBRInit) l61 c61 k61
  have b61 := F61.binds (ps := ["self", "part"]) fun _ _ _ _ _ _ us hl => match us, hl with | [_, _], _ => rfl
  have F62 := fun_mk (st := sBNInit) l62 c62 k62
  have b62 := F62.binds (ps := ["self", "value"]) fun _ _ _ _ _ _ us hl => match us, hl with | [_, _], _ => rfl
  have F63 := fun_mk (st := sBadOther_init) l63 c63 k63
  have b63 := F63.binds (ps := ["self", "part"]) fun _ _ _ _ _ _ us hl => match us, hl with | [_, _], _ => rfl
  have F64 := fun_mk (st := sBadPages_init) l64 c64 k64
  have b64 := F64.binds (ps := ["self", "at"]) fun _ _ _ _ _ _ us hl => match us, hl with | [_, _], _ => rfl
  have F65 := fun_mk (st := sTooMany_init) l65 c65 k65
  have b65 := F65.binds (ps := ["self", "what", "most"]) fun _ _ _ _ _ _ us hl => match us, hl with | [_, _, _], _ => rfl
  have T : Blt mg := ⟨PySem.W.mg_none_of X G zint, PySem.W.mg_none_of X G zlen, PySem.W.mg_none_of X G zabs, PySem.W.mg_none_of X G zlist, PySem.W.mg_none_of X G zmin, PySem.W.mg_none_of X G zmax, PySem.W.mg_none_of X G zisinstance, PySem.W.mg_none_of X G zbool, PySem.W.mg_none_of X G ztuple, PySem.W.mg_none_of X G zall, PySem.W.mg_none_of X G zrange, PySem.W.mg_none_of X G zrepr⟩
  have TTn : tabAt K cR ≠ tabAt K cP := fun e => by rw [e] at neqT; simp at neqT
  refine ⟨PySem.W.fnOf "law" "law" (defArgs sLaw) (defBody sLaw) (defScope sLaw) .none kV28 dc28 pm28 an28 cd28 ct28, PySem.W.fnOf "_law_refused_right" "_law_refused_right" (defArgs sLRefusedRight) (defBody sLRefusedRight) (defScope sLRefusedRight) .none kV29 dc29 pm29 an29 (.ref cR) ct29, PySem.W.fnOf "_law_pages_right" "_law_pages_right" (defArgs sLPagesRight) (defBody sLPagesRight) (defScope sLPagesRight) .none kV30 dc30 pm30 an30 (.ref cP) ct30, spLawT K (tabAt K cR) (tabAt K cP), f29, cR, tabAt K cR, f30, cP, tabAt K cP, _, _, fun s v => .of_eq rfl, ⟨PySem.W.mg_of X G a29, l29, rfl, rfl, hdcR, nocR⟩, ⟨PySem.W.mg_of X G a30, l30, rfl, rfl, hdcP, nocP⟩, TTn, fun H a ns hl hT hT2 hS => ⟨a, ns, rfl, hS, hl, hT, hT2, fun _ => rfl⟩, fun base _ _ TB TB2 => ?_⟩
  have FC : FCls K C := ⟨⟨pgC, hdC, poC, saC⟩, n0C, n1C, n2C, n3C, n4C⟩
  have IT : InsT K C := ⟨hcC, ikn, ikt, moC, icC, ttC⟩
  have R2 : FTwo K C := ⟨FC, IT⟩
  have TR : RowC K R := ⟨⟨pgR, hdR, poR, saR⟩, n0R, n1R, n2R⟩
  have RT2 : RTwo K R := ⟨TR, ⟨hcR, ikn, ikt, moR, icR, ttR⟩⟩
  have TBF : TabF K w mg TP DB D1 D2 D3 := ⟨PySem.W.mg_of X G aTP, fun _ => sqT_K lTP (by decide) (.cons ⟨_, rfl⟩ ( .cons ⟨_, rfl⟩ ( .cons ⟨_, rfl⟩ (.cons ⟨_, rfl⟩ .nil)))), PySem.W.mg_of X G aDB, ⟨_, _, ⟨lDB, ⟨⟨_, _, rfl, hkDB0⟩, ⟨_, _, rfl, hkDB1⟩, ⟨_, _, rfl, hkDB2⟩, trivial⟩, lowDB⟩⟩, nsDB0, nsDB1, nsDB2, fun _ => sqT_K lD1 (by decide) (.cons ⟨_, rfl⟩ (.cons ⟨_, rfl⟩ .nil)), fun _ => sqT_K lD2 (by decide) (.cons ⟨_, rfl⟩ (.cons ⟨_, rfl⟩ .nil)), fun _ => sqT_K lD3 (by decide) (.cons ⟨_, rfl⟩ (.cons ⟨_, rfl⟩ .nil))⟩
  have D50 : FunD K "__init__" "FillRule.__init__" (defArgs sFillRule_init) (defBody sFillRule_init) (defScope sFillRule_init) [.int 0] [("cut_of", .int 1), ("join_of", .int 2)] f50 _ := ⟨⟨_, _, _, _, _, _, _, _, _, _, rfl, l50, c50, .inr ⟨by simp, T50, _, [Value.int 0 tt500], tn50, rfl, t50, rfl, .cons ⟨_, rfl⟩ .nil⟩, .inr ⟨KD50, rfl, fun z hz => by
    rcases List.mem_cons.mp hz with rfl | hz
    · exact ⟨_, kd500, ⟨_, rfl⟩⟩
    · rw [List.mem_singleton.mp hz]; exact ⟨_, kd501, ⟨_, rfl⟩⟩⟩⟩, k50⟩
  obtain ⟨its50, b50⟩ := FunD.kbindsD (ps := ["self", "times", "plus", "cut_of", "join_of"]) D50 3 ["cut_of", "join_of"] (fun us _ ws => us ++ ws) (by simp) (fun r1 _ r2 => r1.append r2)
    (fun _ _ _ _ _ _ _ us its ws h1 h2 h3 => match us, its, ws, h1, h2, h3 with | [_, _, _], [_], [_, _], _, _, _ => ⟨_, rfl, rfl⟩)
  obtain ⟨ds50, rds50, b50d⟩ := FunD.binds (ps := ["self", "times", "plus", "cut_of", "join_of"]) D50 2 0 (by simp) rfl
    (fun _ _ _ _ _ _ _ us its ks h1 h2 h3 => match us, its, ks, h1, h2, h3 with | [_, _], [_], [_, _], _, _, _ => ⟨_, rfl, _, _, _, _, _, _, rfl, rfl, ⟨_, _, _, _, _, _, rfl, rfl, rfl⟩⟩) (by simp)
  have D51 : FunD K "__init__" "Row.__init__" (defArgs sRow_init) (defBody sRow_init) (defScope sRow_init) [.ref E51] [] f51 _ := ⟨⟨_, _, _, _, _, _, _, _, _, _, rfl, l51, c51, .inr ⟨by simp, T51, _, [Value.ref E51], tn51, rfl, t51, rfl, .cons rfl .nil⟩, .inl rfl⟩, k51⟩
  obtain ⟨ds51b, rds51b, b51b⟩ := FunD.binds1 (ps := ["self", "rule", "most", "fills"]) D51 3 0 (by simp) rfl
    (fun _ _ _ _ _ _ _ us its h1 h2 => match us, its, h1, h2 with | [_, _, _], [_], _, _ => ⟨_, rfl, rfl⟩)
  obtain ⟨its51, b51k⟩ := FunD.kbindsD (ps := ["self", "rule", "most", "fills"]) D51 1 ["fills", "most", "rule"] (fun us _ ws => us ++ ws.reverse) (by simp) (fun r1 _ r2 => r1.append (vals_rev r2))
    (fun _ _ _ _ _ _ _ us its ws h1 h2 h3 => match us, its, ws, h1, h2, h3 with | [_], [_], [_, _, _], _, _, _ => ⟨_, rfl, rfl⟩)
  obtain ⟨ds51, rds51, b51⟩ := FunD.binds1 (ps := ["self", "rule", "most", "fills"]) D51 4 1 (by simp) rfl
    (fun _ _ _ _ _ _ _ us its h1 h2 => match us, its, h1, h2 with | [_, _, _, _], [_], _, _ => ⟨_, rfl, rfl⟩)
  cases rds51
  have d0 : Df l.prog w K mg base 1 "is_integer" ["value"] _ := ⟨f0, _, ok_isInt F0 T, PySem.W.mg_of X G a0, F0.kp, b0⟩
  have d1 : Df l.prog w K mg base 2 "is_within" ["value", "least", "most"] _ := ⟨f1, _, ok_within F1 d0, PySem.W.mg_of X G a1, F1.kp, b1⟩
  have d2 : Df l.prog w K mg base 3 "is_pair" ["value", "most"] _ := ⟨f2, _, ok_pair F2 T d1, PySem.W.mg_of X G a2, F2.kp, b2⟩
  have d3 : Df l.prog w K mg base 4 "can_be" ["part", "value"] _ := ⟨f3, _, ok_canBe F3 TBF (PySem.W.mg_of X G hgT) d2 d1, PySem.W.mg_of X G a3, F3.kp, b3⟩
  have d12 : Df l.prog w K mg base 1 "parts_of" ["value"] _ := ⟨f12, _, ok_parts F12 T (PySem.W.mg_none_of X G zdict), PySem.W.mg_of X G a12, F12.kp, b12⟩
  have d11 : Df l.prog w K mg base 2 "kept" ["value"] _ := ⟨f11, _, ok_kept F11 T (PySem.W.mg_none_of X G zdict) (PySem.W.mg_none_of X G zany) d12, PySem.W.mg_of X G a11, F11.kp, b11⟩
  have dPV : Df l.prog w K mg base 1 "parts_of" ["value"] _ := ⟨f12, _, ok_partsV F12 T (PySem.W.mg_none_of X G zdict), PySem.W.mg_of X G a12, F12.kp, b12⟩
  have d15 : Df l.prog w K mg base 1 "rebuilt" ["value", "parts"] _ := ⟨f15, _, ok_rebuilt F15 T (PySem.W.mg_none_of X G zdict) (PySem.W.mg_none_of X G zzip), PySem.W.mg_of X G a15, F15.kp, b15⟩
  have d13 : Df l.prog w K mg base 2 "is_flat" ["value"] _ := ⟨f13, _, ok_flat F13 T (PySem.W.mg_none_of X G zdict), PySem.W.mg_of X G a13, F13.kp, b13⟩
  have d14 : Df l.prog w K mg base 2 "copied_deep" ["value"] _ := ⟨f14, _, ok_copied F14 T (PySem.W.mg_none_of X G zdict) (PySem.W.mg_none_of X G zany) dPV d15, PySem.W.mg_of X G a14, F14.kp, b14⟩
  have dKV : Df l.prog w K mg base 3 "kept" ["value"] _ := ⟨f11, _, ok_keptV F11 T (PySem.W.mg_none_of X G zdict) d13 d14, PySem.W.mg_of X G a11, F11.kp, b11⟩
  have d4 : Df l.prog w K mg base 1 "least_of" ["rule", "most"] _ := ⟨f4, _, ok_leastOf F4 FC, PySem.W.mg_of X G a4, F4.kp, b4⟩
  have d6 : Df l.prog w K mg base 1 "page_at" ["fills", "index"] _ := ⟨f6, _, ok_pageAt F6, PySem.W.mg_of X G a6, F6.kp, b6⟩
  have d5 : Df l.prog w K mg base 2 "is_kept" ["rule", "most", "fills"] _ := ⟨f5, _, ok_isKept F5 T FC d4, PySem.W.mg_of X G a5, F5.kp, b5⟩
  have dK0 : Df l.prog w K mg base 2 "is_kept" ["rule", "most", "fills"] _ := ⟨f5, _, ok_isKept0 F5 T FC d4, PySem.W.mg_of X G a5, F5.kp, b5⟩
  have d7 : Df l.prog w K mg base 1 "need_fill_rule" ["value"] _ := ⟨f7, _, ok_needFO F7 T R2 (PySem.W.mg_of X G aC), PySem.W.mg_of X G a7, F7.kp, b7⟩
  have d8 : Df l.prog w K mg base 3 "need_size" ["value"] _ := ⟨f8, _, ok_needSO F8 d1 (PySem.W.mg_of X G hgL) (PySem.W.mg_of X G hgM), PySem.W.mg_of X G a8, F8.kp, b8⟩
  have d9 : Df l.prog w K mg base 4 "need_page_size" ["rule", "most"] _ := ⟨f9, _, ok_needPO F9 d8 d4, PySem.W.mg_of X G a9, F9.kp, b9⟩
  have d10 : Df l.prog w K mg base 3 "need_up_to" ["value", "most"] _ := ⟨f10, _, ok_needU F10 d1, PySem.W.mg_of X G a10, F10.kp, b10⟩
  have oR : OexC K BR := ⟨⟨_, _, _, _, _, _, _, _, _, _, _, _, _, _, _, lxBR, rxBR⟩, saBR, exBR, ttBR, keBR⟩
  have oN : OexC K BN := ⟨⟨_, _, _, _, _, _, _, _, _, _, _, _, _, _, _, lxBN, rxBN⟩, saBN, exBN, ttBN, keBN⟩
  have oO : OexC K BO := ⟨⟨_, _, _, _, _, _, _, _, _, _, _, _, _, _, _, lxBO, rxBO⟩, saBO, exBO, ttBO, keBO⟩
  have oP : OexC K BP := ⟨⟨_, _, _, _, _, _, _, _, _, _, _, _, _, _, _, lxBP, rxBP⟩, saBP, exBP, ttBP, keBP⟩
  have oT : OexC K TM := ⟨⟨_, _, _, _, _, _, _, _, _, _, _, _, _, _, _, lxTM, rxTM⟩, saTM, exTM, ttTM, keTM⟩
  have G61 := ok_br (P := l.prog) (w := w) (mg := mg) (base := base) F61 oR no0BR d11
  have G62 := ok_bn (P := l.prog) (w := w) (mg := mg) (base := base) F62 oN no0BN dKV
  have G63 := ok_bo (P := l.prog) (w := w) (mg := mg) (base := base) F63 oO no0BO d11
  have G64 := ok_bp (P := l.prog) (w := w) (mg := mg) (base := base) F64 oP no0BP d11
  have G65 := ok_tm (P := l.prog) (w := w) (mg := mg) (base := base) F65 oT no0TM no1TM d11
  have EB : ErrC l.prog w K mg base "BadRule" "part" BR := ⟨oR, (PySem.W.mg_of X G aBR), _, _, m61, ty61, G61, b61⟩
  have EV : ErrV l.prog w K mg base "BadNumber" "value" BN := ⟨oN, (PySem.W.mg_of X G aBN), _, _, m62, ty62, G62, b62⟩
  have EO : ErrC l.prog w K mg base "BadOther" "part" BO := ⟨oO, (PySem.W.mg_of X G aBO), _, _, m63, ty63, G63, b63⟩
  have EP : ErrC l.prog w K mg base "BadPages" "at" BP := ⟨oP, (PySem.W.mg_of X G aBP), _, _, m64, ty64, G64, b64⟩
  have ET : ErrT l.prog w K mg base TM := ⟨oT, (PySem.W.mg_of X G aTM), _, _, m65, ty65, G65, b65⟩
  have eSize : DfX l.prog w K mg base 6 "need_size" ["value"] _ := ⟨f8, _, ok_needSize F8 d1 (PySem.W.mg_of X G hgL) (PySem.W.mg_of X G hgM) EV, PySem.W.mg_of X G a8, F8.kp, b8⟩
  have eRule : DfX l.prog w K mg base 5 "need_fill_rule" ["value"] _ := ⟨f7, _, ok_needF (N := BN) F7 T R2 (PySem.W.mg_of X G aC) EB, PySem.W.mg_of X G a7, F7.kp, b7⟩
  have ePS : DfX l.prog w K mg base 7 "need_page_size" ["rule", "most"] _ := ⟨f9, _, ok_needP F9 eSize d4 EV, PySem.W.mg_of X G a9, F9.kp, b9⟩
  have eUp : DfX l.prog w K mg base 6 "need_up_to" ["value", "most"] _ := ⟨f10, _, ok_needUX F10 d1 EV, PySem.W.mg_of X G a10, F10.kp, b10⟩
  have GF := ok_fillInit (P := l.prog) (w := w) (mg := mg) (base := base) (N := BN) D50 FC (PySem.W.mg_none_of X G zzip) TBF d3 EB
  have GO : FnOk l.prog w K mg base CX0 5 f50 _ ["self", "times", "plus", "cut_of", "join_of"] (spFillOk C) := FnOk.calm GF fun vs H Q E h => fill_ok h
  have MK : Mk K C f50 := ⟨mkC, m50, i50, kcC⟩
  have MR : Mk K R f51 := ⟨mkR, m51, i51, kcR⟩
  have G51 := ok_rowI (P := l.prog) (w := w) (mg := mg) (base := base) D51 T (PySem.W.mg_none_of X G zenumerate) TR d7 d9 d1 (PySem.W.mg_of X G hgQ) (PySem.W.mg_of X G hgI)
  have RM : RowM l.prog w K mg base R C := ⟨(PySem.W.mg_of X G aR), ⟨f51, _, MR, G51, b51⟩⟩
  have PT : RowP l.prog w K mg base R "total" 1 (spTotal R C) := ⟨_, _, _, P56, ok_rtotal F56 (PySem.W.mg_none_of X G zsum) TR, b56⟩
  have PY : RowP l.prog w K mg base R "is_young" 1 (spYoung R C) := ⟨_, _, _, P57, ok_ryoung F57 T TR FC, b57⟩
  have PK : RowP l.prog w K mg base R "keeps" 3 (spKeepsP R C) := ⟨_, _, _, P58, ok_rkeeps F58 TR d5, b58⟩
  have G52 := ok_rlen (P := l.prog) (w := w) (mg := mg) (base := base) F52 T TR
  have G53 := ok_riter (P := l.prog) (w := w) (mg := mg) (base := base) F53 (PySem.W.mg_none_of X G ziter) TR
  have G59 := ok_fillEq (P := l.prog) (w := w) (mg := mg) (base := base) F59 T FC IT (PySem.W.mg_of X G aC)
  have FQ : FEq l.prog w K mg base C := ⟨R2, neC, ⟨f59, m59, i59, fnr_of G59 b59⟩⟩
  have G60 := ok_rowE (P := l.prog) (w := w) (mg := mg) (base := base) F60 T RT2 (PySem.W.mg_of X G aR) FQ
  have RE : REq l.prog w K mg base R C := ⟨RT2, neR, ⟨f60, m60, i60, fnr_of G60 b60⟩⟩
  have RA : RowA l.prog w K mg base R C := ⟨RT2, RM, PT, PY, PK, FQ, RE, ⟨f53, f52, ⟨m53, i53, m52, i52⟩, fnr_of G53 b53, ok_riterN F53 (PySem.W.mg_none_of X G ziter) TR b53, fnr_of G52 b52⟩⟩
  have RW : RowT l.prog w K mg base R C := ⟨f51, _, MR, ok_rowIT D51 T (PySem.W.mg_none_of X G zenumerate) TR d7 d9 d1 (PySem.W.mg_of X G hgQ) (PySem.W.mg_of X G hgI), b51⟩
  have RR : RowR l.prog w K mg base R C BR BN BO BP TM := ⟨(PySem.W.mg_of X G aR), R2, kit_refLT noCL noCT, ⟨f51, _, MR, ok_rowX D51 T EO ET eRule ePS (PySem.W.mg_of X G hgQ), b51⟩, ⟨f51, _, _, MR, ok_rowP D51 T (PySem.W.mg_none_of X G zenumerate) EP d7 d9 d1 (PySem.W.mg_of X G hgQ) (PySem.W.mg_of X G hgI), b51k⟩⟩
  have RO : RowO l.prog w K mg base R C BN := ⟨⟨f49, _, ⟨m49, i49, k49⟩, ok_rpage F49 TR PT d10 d6, b49⟩, ⟨f49, _, ⟨m49, i49, k49⟩, ok_rpageX F49 TR PT eUp, b49⟩, ⟨f55, _, ⟨m55, i55, k55⟩, ok_rtakeX F55 TR PT eUp, b55⟩, ⟨f54, _, ⟨m54, i54, k54⟩, ok_rputX F54 TR PT eUp, b54⟩⟩
  have LB : LawB l.prog w K mg base R C := ⟨(PySem.W.mg_of X G aC), ⟨f50, _, ds50, MK, GO, rds50, b50d⟩, ⟨f51, _, ds51b, E51, MR, ok_rowI0 D51 T (PySem.W.mg_none_of X G zenumerate) TR d7 d9 d1 (PySem.W.mg_of X G hgQ) (PySem.W.mg_of X G hgI), ⟨_, #[], _, lE51, rfl, rfl, by decide, .nil⟩, rds51b, b51b⟩, ⟨_, _, _, P56, ok_rtotal0 F56 (PySem.W.mg_none_of X G zsum) TR, b56⟩, ⟨_, _, _, P57, ok_ryoung0 F57 T TR FC, b57⟩, ⟨_, _, _, P58, ok_rkeeps0 F58 TR dK0, b58⟩, ⟨f60, m60, i60, fnr_of (ok_rowE0 F60 T RT2 (PySem.W.mg_of X G aR) FQ) b60⟩⟩
  have d16 : Df l.prog w K mg base 1 "_law_pen" ["_law_script"] _ := ⟨f16, _, ok_pen F16 T, PySem.W.mg_of X G a16, F16.kp, b16⟩
  have d17 : Df l.prog w K mg base 1 "_law_draw" ["_law_pen_here", "_law_many"] _ := ⟨f17, _, ok_draw F17 T, PySem.W.mg_of X G a17, F17.kp, b17⟩
  have d18 : Df l.prog w K mg base 2 "_law_pick" ["_law_pen_here", "_law_some"] _ := ⟨f18, _, ok_pick F18 T d17, PySem.W.mg_of X G a18, F18.kp, b18⟩
  have d19 : Df l.prog w K mg base 2 "_law_numbers" ["_law_pen_here"] _ := ⟨f19, _, ok_lnums F19 T d17, PySem.W.mg_of X G a19, F19.kp, b19⟩
  have d20 : Df l.prog w K mg base 7 "_law_rule" ["_law_told"] _ := ⟨f20, _, ok_lrule F20 (PySem.W.mg_of X G aC) MK GO b50, PySem.W.mg_of X G a20, F20.kp, b20⟩
  have d21 : Df l.prog w K mg base 1 "_law_least" ["_law_told", "_law_top"] _ := ⟨f21, _, ok_lleast F21, PySem.W.mg_of X G a21, F21.kp, b21⟩
  have d22 : Df l.prog w K mg base 3 "_law_world" ["_law_pen_here"] _ := ⟨f22, _, ok_lworld F22 d17 d21 d19, PySem.W.mg_of X G a22, F22.kp, b22⟩
  have d23 : Df l.prog w K mg base 2 "_law_fills" ["_law_pen_here", "_law_told", "_law_top"] _ := ⟨f23, _, ok_lfills F23 T d17 d21, PySem.W.mg_of X G a23, F23.kp, b23⟩
  have d25 : Df l.prog w K mg base 2 "_law_keeps" ["_law_told", "_law_top", "_law_fills_so"] _ := ⟨f25, _, ok_lkeeps F25 T d21, PySem.W.mg_of X G a25, F25.kp, b25⟩
  have d27 : Df l.prog w K mg base 8 "_law_equal_right" ["_law_pen_here", "_law_told", "_law_top", "_law_fills_so"] _ := ⟨f27, _, ok_lequal F27 T RA RW d20 d21, PySem.W.mg_of X G a27, F27.kp, b27⟩
  have GTo := ok_ltold (P := l.prog) (w := w) (mg := mg) (base := base) F26 T (PySem.W.mg_none_of X G zsum) RA d20 d25
  have FV : Five K mg BR BN BO BP TM FE := ⟨(PySem.W.mg_of X G aFE), (PySem.W.mg_of X G aBR), (PySem.W.mg_of X G aBN), (PySem.W.mg_of X G aBO), (PySem.W.mg_of X G aBP), (PySem.W.mg_of X G aTM), ⟨icBR, gaBR, ggBR, exBR, hdBR, hcBR, ikn, ikt, moBR⟩, ⟨icBN, gaBN, ggBN, exBN, hdBN, hcBN, ikn, ikt, moBN⟩, ⟨icBO, gaBO, ggBO, exBO, hdBO, hcBO, ikn, ikt, moBO⟩, ⟨icBP, gaBP, ggBP, exBP, hdBP, hcBP, ikn, ikt, moBP⟩, ⟨icTM, gaTM, ggTM, exTM, hdTM, hcTM, ikn, ikt, moTM⟩, no0BR, no0BN, no0BO, no0BP, no0TM, no1TM, fun c h => by
      rcases h with rfl | rfl | rfl | rfl | rfl
      · exact exm_own icFE ttFE suBR suFX
      · exact exm_own icFE ttFE suBN suFX
      · exact exm_own icFE ttFE suBO suFX
      · exact exm_own icFE ttFE suBP suFX
      · exact exm_own icFE ttFE suTM suFX
     , fun c h => by
      rcases h with rfl | rfl | rfl | rfl | rfl
      · exact kit_bty vEBR
      · exact kit_bty vEBN
      · exact kit_bty vEBO
      · exact kit_bty vEBP
      · exact kit_bty vETM
     , kit_not icBN ttBN nBRBN sSBN, kit_not icBO ttBO nBRBO sSBO, kit_not icBP ttBP nBRBP sSBP, kit_not icTM ttTM nBRTM sSTM, kit_not icBR ttBR nBNBR sSBR, kit_not icBO ttBO nBNBO sSBO, kit_not icBP ttBP nBNBP sSBP, kit_not icTM ttTM nBNTM sSTM, kit_not icBR ttBR nBOBR sSBR, kit_not icBN ttBN nBOBN sSBN, kit_not icBP ttBP nBOBP sSBP, kit_not icTM ttTM nBOTM sSTM, kit_not icBR ttBR nBPBR sSBR, kit_not icBN ttBN nBPBN sSBN, kit_not icBO ttBO nBPBO sSBO, kit_not icTM ttTM nBPTM sSTM, kit_not icBR ttBR nTMBR sSBR, kit_not icBN ttBN nTMBN sSBN, kit_not icBO ttBO nTMBO sSBO, kit_not icBP ttBP nTMBP sSBP⟩
  have HH : HeardB l.prog w K mg BR BN BO BP TM FE f24 _ := ⟨F24, PySem.W.mg_of X G a24, b24, PySem.W.mg_none_of X G zrepr, PySem.W.mg_none_of X G zValueError, FV⟩
  have GRf := ok_lrefused (P := l.prog) (w := w) (mg := mg) (base := base) (TT := tabAt K cR) (TL := [(tabAt K cR, (envOfC "_law_refused_right" (defScope sLRefusedRight) 0 f29 (.ref cR)).qual ++ ("<lambda>" : Str)), (tabAt K cP, (envOfC "_law_pages_right" (defScope sLPagesRight) 0 f30 (.ref cP)).qual ++ ("<lambda>" : Str))]) F29 T rfl TB (List.mem_cons_self ..)
    (fun p hp e => by
      rcases List.mem_cons.mp hp with rfl | hp
      · rfl
      · rw [List.mem_singleton.mp hp] at e
        exact absurd e.symm TTn) rfl HH RR d17 d18 d20
  have GPg := ok_lpages (P := l.prog) (w := w) (mg := mg) (base := base) (TT := tabAt K cP) (TL := [(tabAt K cR, (envOfC "_law_refused_right" (defScope sLRefusedRight) 0 f29 (.ref cR)).qual ++ ("<lambda>" : Str)), (tabAt K cP, (envOfC "_law_pages_right" (defScope sLPagesRight) 0 f30 (.ref cP)).qual ++ ("<lambda>" : Str))]) F30 T (PySem.W.mg_none_of X G zsum) rfl TB2 (List.mem_cons_of_mem _ (List.mem_cons_self ..))
    (fun p hp e => by
      rcases List.mem_cons.mp hp with rfl | hp
      · exact absurd e TTn
      · rw [List.mem_singleton.mp hp]) rfl HH TR RO RM d18 d20
  exact ok_law F28 T RA LB d16 d22 d23 GTo (PySem.W.mg_of X G a26) F26.kp b26 d27 GRf (PySem.W.mg_of X G a29) F29.kp b29 GPg (PySem.W.mg_of X G a30) F30.kp b30
end Ev
open PySem PySem.W PyProof.Rows
set_option maxRecDepth 100000 in
set_option maxHeartbeats 0 in
theorem PySem.Challenge.cw_evenrules_k77_rows_made_and_refused_holds : PySem.Challenge.rw_evenrules_k77_rows_made_and_refused.Holds := by
  exact hd (by
    k_fill
    refine Ev.walk_ofGTK2 (l := PySem.Challenge.rw_evenrules_k77_rows_made_and_refused) (n := 63) (k := 13) (x := "_law_script") (xr := "_law_refused_right") (xs := "_law_pages_right") rfl (by decide) rfl ⟨rfl, by decide, by decide⟩ (by kernel_rfl) (by kernel_rfl) (fun w h Y => PySem.W.km_in_of Y) ?F
    case F =>
      intro w mg fa h KX G hmg
      refine' Ev.all_mk KX G hmg ?a0 ?l0 ?c0 ?k0 ?a1 ?l1 ?c1 ?k1 ?a2 ?l2 ?c2 ?k2 ?a3 ?l3 ?c3 ?k3 ?a4 ?l4 ?c4 ?k4 ?a5 ?l5 ?c5 ?k5 ?a6 ?l6 ?c6 ?k6 ?a7 ?l7 ?c7 ?k7 ?a8 ?l8 ?c8 ?k8 ?a9 ?l9 ?c9 ?k9 ?a10 ?l10 ?c10 ?k10 ?a11 ?l11 ?c11 ?k11 ?a12 ?l12 ?c12 ?k12 ?a13 ?l13 ?c13 ?k13 ?a14 ?l14 ?c14 ?k14 ?a15 ?l15 ?c15 ?k15 ?a16 ?l16 ?c16 ?k16 ?a17 ?l17 ?c17 ?k17 ?a18 ?l18 ?c18 ?k18 ?a19 ?l19 ?c19 ?k19 ?a20 ?l20 ?c20 ?k20 ?a21 ?l21 ?c21 ?k21 ?a22 ?l22 ?c22 ?k22 ?a23 ?l23 ?c23 ?k23 ?a24 ?l24 ?c24 ?k24 ?a25 ?l25 ?c25 ?k25 ?a26 ?l26 ?c26 ?k26 ?a27 ?l27 ?c27 ?k27 ?a28 ?l28 ?c28 ?k28 ?a29 ?l29 ?c29 ?k29 ?a30 ?l30 ?c30 ?k30 ?aC ?pgC ?hdC ?poC ?saC ?mkC ?kcC ?n0C ?n1C ?n2C ?n3C ?n4C ?aR ?pgR ?hdR ?poR ?saR ?mkR ?kcR ?n0R ?n1R ?n2R ?hcC ?moC ?icC ?ttC ?hcR ?moR ?icR ?ttR ?ikn ?ikt ?neC ?neR ?noCL ?noCT ?m59 ?i59 ?l59 ?c59 ?k59 ?m50 ?i50 ?l50 ?c50 ?k50 ?t50 ?kd500 ?kd501 ?m51 ?i51 ?l51 ?c51 ?k51 ?t51 ?lE51 ?m52 ?i52 ?l52 ?c52 ?k52 ?m53 ?i53 ?l53 ?c53 ?k53 ?m60 ?i60 ?l60 ?c60 ?k60 ?m54 ?i54 ?l54 ?c54 ?k54 ?m55 ?i55 ?l55 ?c55 ?k55 ?m49 ?i49 ?l49 ?c49 ?k49 ?pa56 ?pb56 ?pc56 ?pd56 ?l56 ?c56 ?k56 ?pa57 ?pb57 ?pc57 ?pd57 ?l57 ?c57 ?k57 ?pa58 ?pb58 ?pc58 ?pd58 ?l58 ?c58 ?k58 ?aBR ?icBR ?ttBR ?gaBR ?ggBR ?hdBR ?hcBR ?moBR ?saBR ?exBR ?keBR ?vEBR ?sSBR ?no0BR ?lxBR ?rxBR ?m61 ?l61 ?c61 ?k61 ?ty61 ?aBN ?icBN ?ttBN ?gaBN ?ggBN ?hdBN ?hcBN ?moBN ?saBN ?exBN ?keBN ?vEBN ?sSBN ?no0BN ?lxBN ?rxBN ?m62 ?l62 ?c62 ?k62 ?ty62 ?aBO ?icBO ?ttBO ?gaBO ?ggBO ?hdBO ?hcBO ?moBO ?saBO ?exBO ?keBO ?vEBO ?sSBO ?no0BO ?lxBO ?rxBO ?m63 ?l63 ?c63 ?k63 ?ty63 ?aBP ?icBP ?ttBP ?gaBP ?ggBP ?hdBP ?hcBP ?moBP ?saBP ?exBP ?keBP ?vEBP ?sSBP ?no0BP ?lxBP ?rxBP ?m64 ?l64 ?c64 ?k64 ?ty64 ?aTM ?icTM ?ttTM ?gaTM ?ggTM ?hdTM ?hcTM ?moTM ?saTM ?exTM ?keTM ?vETM ?sSTM ?no0TM ?no1TM ?lxTM ?rxTM ?m65 ?l65 ?c65 ?k65 ?ty65 ?aFE ?icFE ?ttFE ?suFX ?suBR ?nBRBN ?nBRBO ?nBRBP ?nBRTM ?suBN ?nBNBR ?nBNBO ?nBNBP ?nBNTM ?suBO ?nBOBR ?nBOBN ?nBOBP ?nBOTM ?suBP ?nBPBR ?nBPBN ?nBPBO ?nBPTM ?suTM ?nTMBR ?nTMBN ?nTMBO ?nTMBP ?hgT ?hgL ?hgM ?hgQ ?hgI ?aTP ?lTP ?aDB ?lDB ?hkDB0 ?nsDB0 ?hkDB1 ?nsDB1 ?hkDB2 ?nsDB2 ?lowDB ?lD1 ?lD2 ?lD3 ?hdcR ?nocR ?neqT ?hdcP ?nocP ?zint ?zlen ?zabs ?zlist ?zmin ?zmax ?zisinstance ?zbool ?ztuple ?zall ?zrange ?zrepr ?zany ?zdict ?zzip ?zsum ?ziter ?zenumerate ?zValueError
      (case a0 => k_is)
      (case l0 => k_is)
      (case c0 => k_is)
      (case k0 => k_is)
      (case a1 => k_is)
      (case l1 => k_is)
      (case c1 => k_is)
      (case k1 => k_is)
      (case a2 => k_is)
      (case l2 => k_is)
      (case c2 => k_is)
      (case k2 => k_is)
      (case a3 => k_is)
      (case l3 => k_is)
      (case c3 => k_is)
      (case k3 => k_is)
      (case a4 => k_is)
      (case l4 => k_is)
      (case c4 => k_is)
      (case k4 => k_is)
      (case a5 => k_is)
      (case l5 => k_is)
      (case c5 => k_is)
      (case k5 => k_is)
      (case a6 => k_is)
      (case l6 => k_is)
      (case c6 => k_is)
      (case k6 => k_is)
      (case a7 => k_is)
      (case l7 => k_is)
      (case c7 => k_is)
      (case k7 => k_is)
      (case a8 => k_is)
      (case l8 => k_is)
      (case c8 => k_is)
      (case k8 => k_is)
      (case a9 => k_is)
      (case l9 => k_is)
      (case c9 => k_is)
      (case k9 => k_is)
      (case a10 => k_is)
      (case l10 => k_is)
      (case c10 => k_is)
      (case k10 => k_is)
      (case a11 => k_is)
      (case l11 => k_is)
      (case c11 => k_is)
      (case k11 => k_is)
      (case a12 => k_is)
      (case l12 => k_is)
      (case c12 => k_is)
      (case k12 => k_is)
      (case a13 => k_is)
      (case l13 => k_is)
      (case c13 => k_is)
      (case k13 => k_is)
      (case a14 => k_is)
      (case l14 => k_is)
      (case c14 => k_is)
      (case k14 => k_is)
      (case a15 => k_is)
      (case l15 => k_is)
      (case c15 => k_is)
      (case k15 => k_is)
      (case a16 => k_is)
      (case l16 => k_is)
      (case c16 => k_is)
      (case k16 => k_is)
      (case a17 => k_is)
      (case l17 => k_is)
      (case c17 => k_is)
      (case k17 => k_is)
      (case a18 => k_is)
      (case l18 => k_is)
      (case c18 => k_is)
      (case k18 => k_is)
      (case a19 => k_is)
      (case l19 => k_is)
      (case c19 => k_is)
      (case k19 => k_is)
      (case a20 => k_is)
      (case l20 => k_is)
      (case c20 => k_is)
      (case k20 => k_is)
      (case a21 => k_is)
      (case l21 => k_is)
      (case c21 => k_is)
      (case k21 => k_is)
      (case a22 => k_is)
      (case l22 => k_is)
      (case c22 => k_is)
      (case k22 => k_is)
      (case a23 => k_is)
      (case l23 => k_is)
      (case c23 => k_is)
      (case k23 => k_is)
      (case a24 => k_is)
      (case l24 => k_is)
      (case c24 => k_is)
      (case k24 => k_is)
      (case a25 => k_is)
      (case l25 => k_is)
      (case c25 => k_is)
      (case k25 => k_is)
      (case a26 => k_is)
      (case l26 => k_is)
      (case c26 => k_is)
      (case k26 => k_is)
      (case a27 => k_is)
      (case l27 => k_is)
      (case c27 => k_is)
      (case k27 => k_is)
      (case a28 => k_is)
      (case l28 => k_is)
      (case c28 => k_is)
      (case k28 => k_is)
      (case a29 => k_is)
      (case l29 => k_is)
      (case c29 => k_is)
      (case k29 => k_is)
      (case a30 => k_is)
      (case l30 => k_is)
      (case c30 => k_is)
      (case k30 => k_is)
      (case aC => k_is)
      (case pgC => k_is)
      (case hdC => k_is)
      (case poC => k_is)
      (case saC => k_is)
      (case mkC => k_is)
      (case kcC => k_is)
      (case n0C => k_is)
      (case n1C => k_is)
      (case n2C => k_is)
      (case n3C => k_is)
      (case n4C => k_is)
      (case aR => k_is)
      (case pgR => k_is)
      (case hdR => k_is)
      (case poR => k_is)
      (case saR => k_is)
      (case mkR => k_is)
      (case kcR => k_is)
      (case n0R => k_is)
      (case n1R => k_is)
      (case n2R => k_is)
      (case hcC => k_is)
      (case moC => k_is)
      (case icC => k_is)
      (case ttC => k_is)
      (case hcR => k_is)
      (case moR => k_is)
      (case icR => k_is)
      (case ttR => k_is)
      (case ikn => k_is)
      (case ikt => k_is)
      (case neC => k_is)
      (case neR => k_is)
      (case noCL => k_is)
      (case noCT => k_is)
      (case m59 => k_is)
      (case i59 => k_is)
      (case l59 => k_is)
      (case c59 => k_is)
      (case k59 => k_is)
      (case m50 => k_is)
      (case i50 => k_is)
      (case l50 => k_is)
      (case c50 => k_is)
      (case k50 => k_is)
      (case t50 => k_is)
      (case kd500 => k_is)
      (case kd501 => k_is)
      (case m51 => k_is)
      (case i51 => k_is)
      (case l51 => k_is)
      (case c51 => k_is)
      (case k51 => k_is)
      (case t51 => k_is)
      (case lE51 => k_is)
      (case m52 => k_is)
      (case i52 => k_is)
      (case l52 => k_is)
      (case c52 => k_is)
      (case k52 => k_is)
      (case m53 => k_is)
      (case i53 => k_is)
      (case l53 => k_is)
      (case c53 => k_is)
      (case k53 => k_is)
      (case m60 => k_is)
      (case i60 => k_is)
      (case l60 => k_is)
      (case c60 => k_is)
      (case k60 => k_is)
      (case m54 => k_is)
      (case i54 => k_is)
      (case l54 => k_is)
      (case c54 => k_is)
      (case k54 => k_is)
      (case m55 => k_is)
      (case i55 => k_is)
      (case l55 => k_is)
      (case c55 => k_is)
      (case k55 => k_is)
      (case m49 => k_is)
      (case i49 => k_is)
      (case l49 => k_is)
      (case c49 => k_is)
      (case k49 => k_is)
      (case pa56 => k_is)
      (case pb56 => k_is)
      (case pc56 => k_is)
      (case pd56 => k_is)
      (case l56 => k_is)
      (case c56 => k_is)
      (case k56 => k_is)
      (case pa57 => k_is)
      (case pb57 => k_is)
      (case pc57 => k_is)
      (case pd57 => k_is)
      (case l57 => k_is)
      (case c57 => k_is)
      (case k57 => k_is)
      (case pa58 => k_is)
      (case pb58 => k_is)
      (case pc58 => k_is)
      (case pd58 => k_is)
      (case l58 => k_is)
      (case c58 => k_is)
      (case k58 => k_is)
      (case aBR => k_is)
      (case icBR => k_is)
      (case ttBR => k_is)
      (case gaBR => k_is)
      (case ggBR => k_is)
      (case hdBR => k_is)
      (case hcBR => k_is)
      (case moBR => k_is)
      (case saBR => k_is)
      (case exBR => k_is)
      (case keBR => k_is)
      (case vEBR => k_is)
      (case sSBR => k_is)
      (case no0BR => k_is)
      (case lxBR => k_is)
      (case rxBR => decide +kernel)
      (case m61 => k_is)
      (case l61 => k_is)
      (case c61 => k_is)
      (case k61 => k_is)
      (case ty61 => k_is)
      (case aBN => k_is)
      (case icBN => k_is)
      (case ttBN => k_is)
      (case gaBN => k_is)
      (case ggBN => k_is)
      (case hdBN => k_is)
      (case hcBN => k_is)
      (case moBN => k_is)
      (case saBN => k_is)
      (case exBN => k_is)
      (case keBN => k_is)
      (case vEBN => k_is)
      (case sSBN => k_is)
      (case no0BN => k_is)
      (case lxBN => k_is)
      (case rxBN => decide +kernel)
      (case m62 => k_is)
      (case l62 => k_is)
      (case c62 => k_is)
      (case k62 => k_is)
      (case ty62 => k_is)
      (case aBO => k_is)
      (case icBO => k_is)
      (case ttBO => k_is)
      (case gaBO => k_is)
      (case ggBO => k_is)
      (case hdBO => k_is)
      (case hcBO => k_is)
      (case moBO => k_is)
      (case saBO => k_is)
      (case exBO => k_is)
      (case keBO => k_is)
      (case vEBO => k_is)
      (case sSBO => k_is)
      (case no0BO => k_is)
      (case lxBO => k_is)
      (case rxBO => decide +kernel)
      (case m63 => k_is)
      (case l63 => k_is)
      (case c63 => k_is)
      (case k63 => k_is)
      (case ty63 => k_is)
      (case aBP => k_is)
      (case icBP => k_is)
      (case ttBP => k_is)
      (case gaBP => k_is)
      (case ggBP => k_is)
      (case hdBP => k_is)
      (case hcBP => k_is)
      (case moBP => k_is)
      (case saBP => k_is)
      (case exBP => k_is)
      (case keBP => k_is)
      (case vEBP => k_is)
      (case sSBP => k_is)
      (case no0BP => k_is)
      (case lxBP => k_is)
      (case rxBP => decide +kernel)
      (case m64 => k_is)
      (case l64 => k_is)
      (case c64 => k_is)
      (case k64 => k_is)
      (case ty64 => k_is)
      (case aTM => k_is)
      (case icTM => k_is)
      (case ttTM => k_is)
      (case gaTM => k_is)
      (case ggTM => k_is)
      (case hdTM => k_is)
      (case hcTM => k_is)
      (case moTM => k_is)
      (case saTM => k_is)
      (case exTM => k_is)
      (case keTM => k_is)
      (case vETM => k_is)
      (case sSTM => k_is)
      (case no0TM => k_is)
      (case no1TM => k_is)
      (case lxTM => k_is)
      (case rxTM => decide +kernel)
      (case m65 => k_is)
      (case l65 => k_is)
      (case c65 => k_is)
      (case k65 => k_is)
      (case ty65 => k_is)
      (case aFE => k_is)
      (case icFE => k_is)
      (case ttFE => k_is)
      (case suFX => k_is)
      (case suBR => k_is)
      (case nBRBN => k_is)
      (case nBRBO => k_is)
      (case nBRBP => k_is)
      (case nBRTM => k_is)
      (case suBN => k_is)
      (case nBNBR => k_is)
      (case nBNBO => k_is)
      (case nBNBP => k_is)
      (case nBNTM => k_is)
      (case suBO => k_is)
      (case nBOBR => k_is)
      (case nBOBN => k_is)
      (case nBOBP => k_is)
      (case nBOTM => k_is)
      (case suBP => k_is)
      (case nBPBR => k_is)
      (case nBPBN => k_is)
      (case nBPBO => k_is)
      (case nBPTM => k_is)
      (case suTM => k_is)
      (case nTMBR => k_is)
      (case nTMBN => k_is)
      (case nTMBO => k_is)
      (case nTMBP => k_is)
      (case hgT => k_is)
      (case hgL => k_is)
      (case hgM => k_is)
      (case hgQ => k_is)
      (case hgI => k_is)
      (case aTP => k_is)
      (case lTP => k_is)
      (case aDB => k_is)
      (case lDB => k_is)
      (case hkDB0 => rfl)
      (case nsDB0 => first | k_is | kernel_rfl)
      (case hkDB1 => rfl)
      (case nsDB1 => first | k_is | kernel_rfl)
      (case hkDB2 => rfl)
      (case nsDB2 => first | k_is | kernel_rfl)
      (case lowDB => kernel_rfl)
      (case lD1 => k_is)
      (case lD2 => k_is)
      (case lD3 => k_is)
      (case hdcR => kernel_rfl)
      (case nocR => kernel_rfl)
      (case neqT => kernel_rfl)
      (case hdcP => kernel_rfl)
      (case nocP => kernel_rfl)
      (case zint => k_is)
      (case zlen => k_is)
      (case zabs => k_is)
      (case zlist => k_is)
      (case zmin => k_is)
      (case zmax => k_is)
      (case zisinstance => k_is)
      (case zbool => k_is)
      (case ztuple => k_is)
      (case zall => k_is)
      (case zrange => k_is)
      (case zrepr => k_is)
      (case zany => k_is)
      (case zdict => k_is)
      (case zzip => k_is)
      (case zsum => k_is)
      (case ziter => k_is)
      (case zenumerate => k_is)
      (case zValueError => k_is))
