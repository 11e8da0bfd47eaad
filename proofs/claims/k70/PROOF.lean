import PyProof.Rows.All
import Wide.All
import OpenK.AllK
import Wide.FinOn
import HandS.ForMost
import HandS.Wide
import HandS.Codes
import HandS.IsInst
import HandS.Defaults
import HandS.MakeKw
import HandS.MakeKwOnly
import HandS.ClsMeth
import HandS.TupAny
import HandS.Style
import HandS.Zip
import HandS.Conv
import HandS.Walk
import HandS.Lambda
import HandS.Iter
import HandS.ExcInit
import KE.KExcIs
import HandS.ForExc
import HandS.EndTab
import HandS.More
import HandS.SlotsOwn
import PyProof.InstNe
import HandS.Text
import HandS.StrMore
import PyProof.Rows.StrAscii
import KE.KCallOwn
import HandS.FStr
import KE.GoesEnum
import KE.GoesEnumKw
import KE.GoesMore
import PyProof.Rows.CallKw2
import HandS.NoneIn
import KE.DataEq
import HandS.DeepEq
import HandS.RaiseMore
import HandS.Dict
import PySem.Challenge.RW_evenrules_k70_fill_rules_written_and_rea
open PySem PySem.W PyProof.Rows
set_option Elab.async false
set_option linter.all false
set_option maxRecDepth 100000 in
set_option maxHeartbeats 0 in
open_top hd for PySem.Challenge.rw_evenrules_k70_fill_rules_written_and_rea
set_option maxRecDepth 100000
set_option maxHeartbeats 4000000
namespace Ev
open PySem L2
def top (i : Nat) : Stmt := PySem.Challenge.pw_evenrules_k70_fill_rules_written_and_rea.main.body.getD i (.Pass ⟨0, 0, 0, 0⟩)
abbrev sWall : Stmt := top 0
abbrev sKept : Stmt := top 2
abbrev sIsFlat : Stmt := top 3
abbrev sCopiedDeep : Stmt := top 4
abbrev sPartsOf : Stmt := top 5
abbrev sRebuilt : Stmt := top 6
abbrev sBadRule_init : Stmt := inClass (top 9) 0
abbrev sBadText_init : Stmt := inClass (top 10) 0
abbrev sIsInt : Stmt := top 12
abbrev sWithin : Stmt := top 13
abbrev sNumberWord : Stmt := top 17
abbrev sPairWord : Stmt := top 18
abbrev sReadNumber : Stmt := top 19
abbrev sReadPair : Stmt := top 20
abbrev sPair : Stmt := top 23
abbrev sWordValue : Stmt := top 24
abbrev sFillRule_init : Stmt := inClass (top 29) 0
abbrev sFillRule_least_fill : Stmt := inClass (top 29) 1
abbrev sFillRule_fits : Stmt := inClass (top 29) 2
abbrev sFillRule_eq : Stmt := inClass (top 29) 3
abbrev sFillRule_str : Stmt := inClass (top 29) 4
abbrev sFillRule_read : Stmt := inClass (top 29) 5
abbrev sCanBe : Stmt := top 30
abbrev sWrongFillWord : Stmt := top 31
abbrev sPen : Stmt := top 33
abbrev sDraw : Stmt := top 34
abbrev sPick : Stmt := top 35
abbrev sLNumbers : Stmt := top 36
abbrev sLRule : Stmt := top 37
abbrev sLHeard : Stmt := top 38
abbrev sLText : Stmt := top 39
abbrev sLNumber : Stmt := top 40
abbrev sLFirstWrong : Stmt := top 41
abbrev sLBent : Stmt := top 42
abbrev sLReadRight : Stmt := top 43
abbrev sLaw : Stmt := top 44
end Ev
namespace Ev
open PySem L2
/-- all that was tracked is as it was, but at p -/
def But (p : Addr) (H H' : Hp) : Prop := ∀ b o, b ≠ p → H b = some o → H' b = some o
theorem But.refl (p : Addr) (H : Hp) : But p H H := fun _ _ _ e => e
theorem But.trans {p : Addr} {H H1 H2 : Hp} (a : But p H H1) (b : But p H1 H2) : But p H H2 := fun c o n e => b c o n (a c o n e)
theorem Same.but {p : Addr} {H H' : Hp} (a : Same H H') : But p H H' := fun c o _ e => a c o e
theorem But.upd_new {p q : Addr} {H : Hp} {o : HO} (h : H q = none) : But p H (upd H q o) := fun b u _ e => by
  rw [upd_ne (ne_of_none e h)]; exact e
theorem But.upd_at {p : Addr} {H : Hp} {o : HO} : But p H (upd H p o) := fun b u n e => by
  rw [upd_ne n]; exact e
/-- the pen: a list of a list of ints, how often it was asked, and a rest -/
def Pen (L : Addr) (H : Hp) (p : Addr) (B : Int) : Prop := ∃ (ns : List Int) (turn carry : Int),
  H p = some (.lst [.ref L, .int turn, .int carry]) ∧ H L = some (.lst (ns.map V.int)) ∧ L ≠ p ∧ ns.length ≤ 63 ∧ 0 ≤ turn ∧ turn ≤ B ∧ 0 ≤ carry
theorem Pen.keep {L : Addr} {H H' : Hp} {p : Addr} {B : Int} (h : Pen L H p B) (k : Same H H') : Pen L H' p B := by
  obtain ⟨ns, t, c, h1, h2, h3, h4, h5, h6, h7⟩ := h
  exact ⟨ns, t, c, k _ _ h1, k _ _ h2, h3, h4, h5, h6, h7⟩
theorem Pen.mono {L : Addr} {H : Hp} {p : Addr} {B B' : Int} (h : Pen L H p B) (k : B ≤ B') : Pen L H p B' := by
  obtain ⟨ns, t, c, h1, h2, h3, h4, h5, h6, h7⟩ := h
  exact ⟨ns, t, c, h1, h2, h3, h4, h5, by omega, h7⟩
def spDraw : Sp := fun vs H Q _ => ∃ (p L : Addr) (m B : Int), vs = [.ref p, .int m] ∧ 1 ≤ m ∧ m ≤ 100000000000000000000000000000 ∧ B ≤ 1000000 ∧ Pen L H p B ∧
  ∀ (d : Int) (H' : Hp), But p H H' → Pen L H' p (B + 1) → 0 ≤ d → d < m → Q (.int d) H'
theorem dpInts {K : PySem.W.Frag} {H : Hp} : ∀ ns : List Int, DpAll K H (ns.map V.int) (ns.map PyData.int)
  | [] => .nil
  | n :: r => .cons (.int n) (dpInts r)
theorem sh_ints (ns : List Int) : SeqAt.shaped (.list (ns.map PyData.int)) = true := by
  have h1 : ∀ ns : List Int, PyData.canLayAll0 (ns.map PyData.int) = true := by
    intro ns
    induction ns with
    | nil => rfl
    | cons n r ih => simp [PyData.canLayAll0, PyData.canLay0, ih]
  have h2 : ∀ ns : List Int, PyData.depthAll (ns.map PyData.int) ≤ 1 := by
    intro ns
    induction ns with
    | nil => simp [PyData.depthAll]
    | cons n r ih => simp [PyData.depthAll, PyData.depth]; omega
  unfold SeqAt.shaped
  rw [Bool.and_eq_true]
  refine ⟨by simp [PyData.canLay0, h1], decide_eq_true ?_⟩
  have := h2 ns
  simp [PyData.depth]; omega
theorem eqv_nil (ns : List Int) : PyData.eqv (.list (ns.map PyData.int)) (.list []) = ns.isEmpty := by
  cases ns <;> simp [PyData.eqv, PyData.eqvAll]
section
variable {P : Program} {w : World} {K : PySem.W.Frag} {mg : Str → Option Value} {base : Heap}
/-- built-ins that the program does not cover -/
structure Blt (mg : Str → Option Value) : Prop where
  int : mg "int" = none
  len : mg "len" = none
  abs : mg "abs" = none
  list : mg "list" = none
  min : mg "min" = none
  max : mg "max" = none
  isi : mg "isinstance" = none
  bool : mg "bool" = none
  tuple : mg "tuple" = none
  all : mg "all" = none
  range : mg "range" = none
  repr : mg "repr" = none
theorem scD : FnScope ["_law_pen_here", "_law_many", "_law_digit", "_law_spot", "_law_cell", "_law_great", "_law_mixed"] ["_law_pen_here", "_law_many"] (defScope sDraw) := ⟨rfl, rfl, rfl, by decide +kernel, rfl, by decide +kernel, by decide +kernel⟩
theorem fmod_lo (a : Int) {m : Int} (h : 1 ≤ m) : 0 ≤ a.fmod m := by rw [Int.fmod_eq_emod_of_nonneg a (by omega)]; exact Int.emod_nonneg a (by omega)
theorem fmod_hi (a : Int) {m : Int} (h : 1 ≤ m) : a.fmod m < m := by rw [Int.fmod_eq_emod_of_nonneg a (by omega)]; exact Int.emod_lt_of_pos a (by omega)
theorem fdiv_lo {a m : Int} (h : 1 ≤ m) (h0 : 0 ≤ a) : 0 ≤ a.fdiv m := by rw [Int.fdiv_eq_ediv_of_nonneg a (by omega)]; exact Int.ediv_nonneg h0 (by omega)
theorem cell_at {ns : List Int} (h : ns ≠ []) (t : Int) : ∃ c : Int, atI (ns.map V.int) (t.fmod (((ns.map V.int).length : Nat) : Int)) = some (V.int c) := by
  rw [List.length_map]
  have l : 0 < ns.length := List.length_pos_iff.mpr h
  have h1 : 0 ≤ t.fmod (ns.length : Int) := fmod_lo t (by omega)
  have h2 : t.fmod (ns.length : Int) < ns.length := fmod_hi t (by omega)
  generalize t.fmod (ns.length : Int) = i at h1 h2
  obtain ⟨j, rfl⟩ := Int.eq_ofNat_of_zero_le h1
  have hj : j < ns.length := by omega
  exact ⟨ns[j], atI_nat (by rw [List.getElem?_map, List.getElem?_eq_getElem hj]; rfl)⟩
theorem mul_le_of {a b A B : Int} (a0 : 0 ≤ a) (b0 : 0 ≤ b) (ha : a ≤ A) (hb : b ≤ B) : 0 ≤ a * b ∧ a * b ≤ A * B :=
  ⟨Int.mul_nonneg a0 b0, Int.mul_le_mul ha hb b0 (by omega)⟩
theorem bound1 (c : Int) {M C D t : Int} (hM : 1 ≤ M) (hM2 : M ≤ 4294967296) (hC : 0 ≤ C ∧ C ≤ 1000000) (hD : 0 ≤ D ∧ D ≤ 1000000) (h0 : 0 ≤ t) (h1 : t ≤ 1000000) : (c.fmod M + C * t + D).natAbs < 2 ^ 64 := by
  have a1 := fmod_lo c hM
  have a2 := fmod_hi c hM
  have ⟨a3, a4⟩ := mul_le_of hC.1 h0 hC.2 h1
  omega
theorem bound2 {x C5 C6 C7 t : Int} (hx : 0 ≤ x ∧ x < 4294967296) (h5 : 0 ≤ C5 ∧ C5 ≤ 1000000) (h6 : 0 ≤ C6 ∧ C6 ≤ 1000000) (h7 : 0 ≤ C7 ∧ C7 ≤ 1000000) (h0 : 0 ≤ t) (h1 : t ≤ 1000000) :
    (x * (2 * t + C5) + C6 * t * t + C7).natAbs < 2 ^ 64 := by
  have ⟨a1, a2⟩ := mul_le_of (b := 2 * t + C5) (A := 4294967296) (B := 3000000) hx.1 (by omega) (by omega) (by omega)
  have ⟨a3, a4⟩ := mul_le_of h6.1 h0 h6.2 h1
  have ⟨a5, a6⟩ := mul_le_of a3 h0 a4 h1
  omega
theorem great_nn {c e : Int} (h : e ≤ (if c < 0 then -c else c)) (b : Bool) : 0 ≤ 2 * ((if c < 0 then -c else c) - e) + (if b = true then 1 else 0) := by
  cases b
  · rw [if_neg Bool.false_ne_true]; omega
  · rw [if_pos rfl]; omega
theorem lt64 {x : Int} (h : 0 ≤ x ∧ x < 4294967296) : -(2 ^ 64) < x ∧ x < 2 ^ 64 := ⟨by omega, by omega⟩
theorem nz {M : Int} (h : 0 < M) : M ≠ 0 := by omega
theorem divW {i m : Int} (h : 1 ≤ m) (h2 : m ≤ 100000000000000000000000000000) : CDivW i m := wide_div (b := 97) (by omega) (by omega) (by decide) (by decide)
theorem ediv_lo {a m : Int} (h : 1 ≤ m) (h0 : 0 ≤ a) : 0 ≤ a / m := Int.ediv_nonneg h0 (by omega)
theorem ok_draw {f : Addr} {fd : FuncData} (F : Fun K "_law_draw" "_law_draw" sDraw f fd) (T : Blt mg) : FnOk P w K mg base CX0 1 f fd ["_law_pen_here", "_law_many"] spDraw := by
  refine F.ok scD (fun vs H Q E h => ?_) (fun cdv A outer s H vs Q E hr h => ?_)
  · obtain ⟨p, L, m, B, rfl, _⟩ := h
    rfl
  · obtain ⟨p, L, m, B, rfl, hm, hm2, hB, ⟨ns, tn, ca, hp, hL, Lp, hlen, t0, tB, c0⟩, k⟩ := h
    have hu := hu_of hr
    refine ⟨_, pss_cons (ps_if (pt_cmpR op_gt (pe_ix ix_list (pv 0) pe_int (fun _ _ => rfl)) pe_int (nomark _))
        (pss_cons (ps_set (i := 2) scD.nd rfl (.inl rfl) (pe_op op_modN (pe_callTy call_int1 (by rfl) T.int (by decide +kernel) (pa_cons (pe_ix ix_list (pv 0) pe_int (fun _ _ => rfl)) pa_nil)) (pv 1)))
        (pss_cons (ps_asg (pe_op op_fdivW (pe_callTy call_int1 (by rfl) T.int (by decide +kernel) (pa_cons (pe_ix ix_list (pv 0) pe_int (fun _ _ => rfl)) pa_nil)) (pv 1)) (pg_sub (pv 0) pe_int set_list))
        (pss_one (ps_ret (pv 2))))) pss_nil)
      (pss_cons (ps_set (i := 3) scD.nd rfl (.inl rfl) (pe_ix ix_list (pv 0) pe_int (fun _ _ => rfl)))
      (pss_cons (ps_asg (pe_op op_add (pv 3) pe_int) (pg_sub (pv 0) pe_int set_list))
      (pss_cons (ps_set (i := 4) scD.nd rfl (.inl rfl) (pe_op op_add (pe_op op_mul pe_int (pv 3)) pe_int))
      (pss_cons (ps_if (pt_cmpR (op_neD hr.units) (pe_ix ix_list (pv 0) pe_int (fun _ _ => rfl)) (pe_lst pa_nil) (nomark _))
        (pss_one (ps_set (i := 4) scD.nd rfl (.inl rfl) (pe_ix ix_list (pe_ix ix_list (pv 0) pe_int (fun _ _ => rfl))
          (pe_op op_modN (pe_callTy call_int1 (by rfl) T.int (by decide +kernel) (pa_cons (pv 3) pa_nil)) (pe_callB call_len_seq (by rfl) T.len PySem.boot_len (pa_cons (pe_ix ix_list (pv 0) pe_int (fun _ _ => rfl)) pa_nil))) (fun _ _ => rfl)))) pss_nil)
      (pss_cons (ps_if (PW.pt (pw_and (pt_cmpR op_lt (pv 3) (pe_callB call_len_seq (by rfl) T.len PySem.boot_len (pa_cons (pe_ix ix_list (pv 0) pe_int (fun _ _ => rfl)) pa_nil)) (nomark _))
          (pw_and1 (pt_cmpR op_ge (pe_callB call_abs (by rfl) T.abs (by decide +kernel) (pa_cons (pv 4) pa_nil)) (pe_op op_pow pe_int pe_int) (nomark _)))))
        (pss_cons (ps_set (i := 5) scD.nd rfl (.inl rfl) (pe_op op_add (pe_op op_mul pe_int (pe_op op_sub (pe_callB call_abs (by rfl) T.abs (by decide +kernel) (pa_cons (pv 4) pa_nil)) (pe_op op_pow pe_int pe_int)))
            (pe_callTy call_int1 (by rfl) T.int (by decide +kernel) (pa_cons (pe_cmpR op_lt (pv 4) pe_int (nomark _)) pa_nil))))
        (pss_cons (ps_asg (pe_op op_fdivW (pe_callTy call_int1 (by rfl) T.int (by decide +kernel) (pa_cons (pv 5) pa_nil)) (pv 1)) (pg_sub (pv 0) pe_int set_list))
        (pss_one (ps_ret (pe_op op_modN (pe_callTy call_int1 (by rfl) T.int (by decide +kernel) (pa_cons (pv 5) pa_nil)) (pv 1)))))) pss_nil)
      (pss_cons (ps_set (i := 6) scD.nd rfl (.inl rfl) (pe_op op_modN (pe_callTy call_int1 (by rfl) T.int (by decide +kernel) (pa_cons (pe_op op_pow (pe_op op_add (pe_op op_add
          (pe_op op_modN (pe_callTy call_int1 (by rfl) T.int (by decide +kernel) (pa_cons (pv 4) pa_nil)) pe_int) (pe_op op_mul pe_int (pv 3))) pe_int) pe_int) pa_nil)) pe_int))
      (pss_cons (ps_set (i := 6) scD.nd rfl (.inl rfl) (pe_op op_modN (pe_callTy call_int1 (by rfl) T.int (by decide +kernel) (pa_cons (pe_op op_pow (pe_op op_add (pe_op op_add
          (pe_op op_mul (pv 6) (pe_op op_add (pe_op op_mul pe_int (pv 3)) pe_int)) (pe_op op_mul (pe_op op_mul pe_int (pv 3)) (pv 3))) pe_int) pe_int) pa_nil)) pe_int))
      (pss_one (ps_ret (pe_op op_modN (pe_callTy call_int1 (by rfl) T.int (by decide +kernel) (pa_cons (pe_op op_fdivN (pv 6) pe_int) pa_nil)) (pv 1))))))))))), ?_⟩
    have i2 : ∀ {a b c : V}, atI [a, b, c] 2 = some c := fun {a b c} => atI_nat (j := 2) rfl
    have i1 : ∀ {a b c : V}, atI [a, b, c] 1 = some b := fun {a b c} => atI_nat (j := 1) rfl
    have i0 : ∀ {a b c : V}, atI [a, b, c] 0 = some a := fun {a b c} => atI_nat (j := 0) rfl
    -- if pen[2] > 0
    refine ⟨_, rfl, p, _, 2, _, rfl, rfl, SqL.of hp, i2, _, _, rfl, rfl, _, rfl, ite2 (fun e => ?_) (fun e => ?_)⟩
    · -- digit
      refine ⟨_, rfl, p, _, 2, _, rfl, rfl, SqL.of hp, i2, .inl ⟨_, rfl, _, rfl, _, _, rfl, rfl, (by omega), ?_⟩⟩
      refine ⟨_, rfl, p, _, 2, _, rfl, rfl, SqL.of hp, i2, .inl ⟨_, rfl, _, rfl, _, _, rfl, rfl, divW hm hm2, _, rfl, p, _, _, 2, rfl, rfl, hp, rfl, ?_⟩⟩
      refine ⟨_, rfl, ?_⟩
      exact k _ _ But.upd_at ⟨ns, tn, _, upd_same, by rw [upd_ne Lp]; exact hL, Lp, hlen, t0, by omega, ediv_lo hm c0⟩ (fmod_lo _ hm) (fmod_hi _ hm)
    · -- turn
      refine ⟨_, rfl, p, _, 1, _, rfl, rfl, SqL.of hp, i1, ?_⟩
      refine ⟨_, rfl, _, _, rfl, rfl, _, rfl, p, _, _, 1, rfl, rfl, hp, rfl, ?_⟩
      have hp1 : upd H p (.lst ([V.ref L, V.int tn, V.int ca].set 1 (V.int (tn + 1)))) p = some (.lst [.ref L, .int (tn + 1), .int ca]) := upd_same
      have hL1 : upd H p (.lst ([V.ref L, V.int tn, V.int ca].set 1 (V.int (tn + 1)))) L = some (.lst (ns.map V.int)) := by rw [upd_ne Lp]; exact hL
      have b1 : But p H (upd H p (.lst ([V.ref L, V.int tn, V.int ca].set 1 (V.int (tn + 1))))) := But.upd_at
      generalize upd H p (.lst ([V.ref L, V.int tn, V.int ca].set 1 (V.int (tn + 1)))) = H1 at hp1 hL1 b1 ⊢
      -- cell = c * turn + c'
      refine ⟨_, rfl, _, _, rfl, rfl, .inl ⟨by decide, by decide⟩, _, _, rfl, rfl, ?_⟩
      -- if pen[0] != []
      refine ⟨_, rfl, p, _, 0, _, rfl, rfl, SqL.of hp1, i0, by decide, fun l hl => ?_⟩
      have n1 : p ≠ l := ne_of_none hp1 hl
      have n2 : L ≠ l := ne_of_none hL1 hl
      have hp2 : upd H1 l (.lst []) p = some (.lst [.ref L, .int (tn + 1), .int ca]) := by rw [upd_ne n1]; exact hp1
      have hL2 : upd H1 l (.lst []) L = some (.lst (ns.map V.int)) := by rw [upd_ne n2]; exact hL1
      have hl2 : upd H1 l (.lst []) l = some (.lst []) := upd_same
      have b2 : But p H (upd H1 l (.lst [])) := b1.trans (But.upd_new hl)
      clear b1 hp1 hL1
      generalize upd H1 l (.lst []) = H2 at hp2 hL2 hl2 b2
      refine ⟨_, _, .lst (SqL.of hL2) (dpInts ns), .lst (SqL.of hl2) .nil, sh_ints ns, sh_ints [], _, rfl, ?_⟩
      rw [eqv_nil]
      -- the rest, for any cell
      have hcell : ∀ c : Int, ∃ j : Int, (if c < 0 then -c else c) = j ∧ 0 ≤ j := fun c => by
        by_cases z : c < 0
        · exact ⟨_, rfl, by rw [if_pos z]; omega⟩
        · exact ⟨_, rfl, by rw [if_neg z]; omega⟩
      have fin : ∀ H' : Hp, H' p = some (.lst [.ref L, .int (tn + 1), .int ca]) → H' L = some (.lst (ns.map V.int)) → But p H H' → Pen L H' p (B + 1) := fun H' e1 e2 _ =>
        ⟨ns, tn + 1, ca, e1, e2, Lp, hlen, by omega, by omega, c0⟩
      have ht : tn ≤ 1000000 := by omega
      have hm6 : 0 ≤ 66905 * tn ∧ 66905 * tn ≤ 66905 * 1000000 := mul_le_of (by decide) t0 (Int.le_refl _) ht
      have hq : ∀ {x m : Int}, 1 ≤ m → m ≤ 4294967296 → 0 ≤ x.fmod m ∧ x.fmod m < 4294967296 := fun {x m} h1 h2 => ⟨fmod_lo x h1, by have := fmod_hi x h1; omega⟩
      cases hn : ns with
      | nil =>
        refine iteF ?_
        refine ⟨_, rfl, _, rfl, p, _, 0, _, rfl, rfl, SqL.of hp2, i0, L, _, rfl, .inl (SqL.of hL2), _, _, rfl, rfl, _, rfl, ite2 (fun e1 => ?_) (fun e1 => ?_)⟩
        · refine ⟨_, rfl, _, rfl, _, _, rfl, rfl, ⟨by decide, by decide, by decide⟩, _, _, rfl, rfl, _, rfl, ite2 (fun e2 => ?_) (fun e2 => ?_)⟩
          · refine ⟨_, rfl, _, rfl, _, _, rfl, rfl, ⟨by decide, by decide, by decide⟩, _, _, rfl, rfl, _, _, rfl, rfl, .inl ⟨by decide, by decide⟩, _, rfl, _, _, rfl, rfl, .inr ⟨_, rfl, _, _, rfl, rfl, ?_⟩⟩
            refine ⟨_, rfl, .inl ⟨_, rfl, _, rfl, _, _, rfl, rfl, divW hm hm2, _, rfl, p, _, _, 2, rfl, rfl, hp2, rfl, ?_⟩⟩
            refine ⟨_, rfl, .inl ⟨_, rfl, _, rfl, _, _, rfl, rfl, (by omega), ?_⟩⟩
            refine k _ _ (b2.trans But.upd_at) ⟨_, tn + 1, _, upd_same, by rw [upd_ne Lp]; exact hL2, Lp, hlen, by omega, by omega, ediv_lo hm ?_⟩ (fmod_lo _ hm) (fmod_hi _ hm)
            have e3 := of_decide_eq_true e2
            exact great_nn e3 _
          · skip
            refine ⟨_, rfl, .inl ⟨_, rfl, _, _, rfl, rfl, nz (by decide), _, rfl, _, _, rfl, rfl, .inl ⟨by decide, by decide⟩, _, _, rfl, rfl, _, _, rfl, rfl, _, _, rfl, rfl, ⟨by decide, by decide, bound1 _ (by decide) (by decide) (by decide) (by decide) t0 ht⟩, .inl ⟨_, rfl, _, _, rfl, rfl, nz (by decide), ?_⟩⟩⟩
            refine ⟨_, rfl, _, rfl, _, _, rfl, rfl, .inl ⟨by decide, by decide⟩, _, _, rfl, rfl, _, _, rfl, rfl, .inl ?_, _, rfl, _, _, rfl, rfl, .inl ⟨by decide, by decide⟩, _, rfl, _, _, rfl, rfl, .inl ?_, _, _, rfl, rfl, _, _, rfl, rfl, _, _, rfl, rfl, ⟨by decide, by decide, ?_⟩, .inl ⟨_, rfl, _, _, rfl, rfl, nz (by decide), ?_⟩⟩
            · exact lt64 (hq (by decide) (by decide))
            · exact ⟨by omega, by omega⟩
            · exact bound2 (hq (by decide) (by decide)) (by decide) (by decide) (by decide) t0 ht
            · refine ⟨_, rfl, _, _, rfl, rfl, ⟨by decide, by decide⟩, .inl ⟨_, rfl, _, rfl, _, _, rfl, rfl, (by omega), ?_⟩⟩
              exact k _ _ b2 (fin _ hp2 hL2 b2) (fmod_lo _ hm) (fmod_hi _ hm)
        · skip
          refine ⟨_, rfl, .inl ⟨_, rfl, _, _, rfl, rfl, nz (by decide), _, rfl, _, _, rfl, rfl, .inl ⟨by decide, by decide⟩, _, _, rfl, rfl, _, _, rfl, rfl, _, _, rfl, rfl, ⟨by decide, by decide, bound1 _ (by decide) (by decide) (by decide) (by decide) t0 ht⟩, .inl ⟨_, rfl, _, _, rfl, rfl, nz (by decide), ?_⟩⟩⟩
          refine ⟨_, rfl, _, rfl, _, _, rfl, rfl, .inl ⟨by decide, by decide⟩, _, _, rfl, rfl, _, _, rfl, rfl, .inl ?_, _, rfl, _, _, rfl, rfl, .inl ⟨by decide, by decide⟩, _, rfl, _, _, rfl, rfl, .inl ?_, _, _, rfl, rfl, _, _, rfl, rfl, _, _, rfl, rfl, ⟨by decide, by decide, ?_⟩, .inl ⟨_, rfl, _, _, rfl, rfl, nz (by decide), ?_⟩⟩
          · exact lt64 (hq (by decide) (by decide))
          · exact ⟨by omega, by omega⟩
          · exact bound2 (hq (by decide) (by decide)) (by decide) (by decide) (by decide) t0 ht
          · refine ⟨_, rfl, _, _, rfl, rfl, ⟨by decide, by decide⟩, .inl ⟨_, rfl, _, rfl, _, _, rfl, rfl, (by omega), ?_⟩⟩
            exact k _ _ b2 (fin _ hp2 hL2 b2) (fmod_lo _ hm) (fmod_hi _ hm)
      | cons n0 nr =>
        refine iteT ?_
        obtain ⟨c, hc⟩ := cell_at (ns := ns) (by rw [hn]; exact List.cons_ne_nil _ _) tn
        refine ⟨_, rfl, p, _, 0, _, rfl, rfl, SqL.of hp2, i0, _, rfl, .inl ⟨_, rfl, _, rfl, p, _, 0, _, rfl, rfl, SqL.of hp2, i0, L, _, rfl, .inl (SqL.of hL2), _, _, rfl, rfl, (by rw [List.length_map, hn, List.length_cons]; omega), L, _, _, _, rfl, rfl, SqL.of hL2, hc, ?_⟩⟩
        refine ⟨_, rfl, _, rfl, p, _, 0, _, rfl, rfl, SqL.of hp2, i0, L, _, rfl, .inl (SqL.of hL2), _, _, rfl, rfl, _, rfl, ite2 (fun e1 => ?_) (fun e1 => ?_)⟩
        · refine ⟨_, rfl, _, rfl, _, _, rfl, rfl, ⟨by decide, by decide, by decide⟩, _, _, rfl, rfl, _, rfl, ite2 (fun e2 => ?_) (fun e2 => ?_)⟩
          · refine ⟨_, rfl, _, rfl, _, _, rfl, rfl, ⟨by decide, by decide, by decide⟩, _, _, rfl, rfl, _, _, rfl, rfl, .inl ⟨by decide, by decide⟩, _, rfl, _, _, rfl, rfl, .inr ⟨_, rfl, _, _, rfl, rfl, ?_⟩⟩
            refine ⟨_, rfl, .inl ⟨_, rfl, _, rfl, _, _, rfl, rfl, divW hm hm2, _, rfl, p, _, _, 2, rfl, rfl, hp2, rfl, ?_⟩⟩
            refine ⟨_, rfl, .inl ⟨_, rfl, _, rfl, _, _, rfl, rfl, (by omega), ?_⟩⟩
            refine k _ _ (b2.trans But.upd_at) ⟨_, tn + 1, _, upd_same, by rw [upd_ne Lp]; exact hL2, Lp, hlen, by omega, by omega, ediv_lo hm ?_⟩ (fmod_lo _ hm) (fmod_hi _ hm)
            have e3 := of_decide_eq_true e2
            exact great_nn e3 _
          · skip
            refine ⟨_, rfl, .inl ⟨_, rfl, _, _, rfl, rfl, nz (by decide), _, rfl, _, _, rfl, rfl, .inl ⟨by decide, by decide⟩, _, _, rfl, rfl, _, _, rfl, rfl, _, _, rfl, rfl, ⟨by decide, by decide, bound1 _ (by decide) (by decide) (by decide) (by decide) t0 ht⟩, .inl ⟨_, rfl, _, _, rfl, rfl, nz (by decide), ?_⟩⟩⟩
            refine ⟨_, rfl, _, rfl, _, _, rfl, rfl, .inl ⟨by decide, by decide⟩, _, _, rfl, rfl, _, _, rfl, rfl, .inl ?_, _, rfl, _, _, rfl, rfl, .inl ⟨by decide, by decide⟩, _, rfl, _, _, rfl, rfl, .inl ?_, _, _, rfl, rfl, _, _, rfl, rfl, _, _, rfl, rfl, ⟨by decide, by decide, ?_⟩, .inl ⟨_, rfl, _, _, rfl, rfl, nz (by decide), ?_⟩⟩
            · exact lt64 (hq (by decide) (by decide))
            · exact ⟨by omega, by omega⟩
            · exact bound2 (hq (by decide) (by decide)) (by decide) (by decide) (by decide) t0 ht
            · refine ⟨_, rfl, _, _, rfl, rfl, ⟨by decide, by decide⟩, .inl ⟨_, rfl, _, rfl, _, _, rfl, rfl, (by omega), ?_⟩⟩
              exact k _ _ b2 (fin _ hp2 hL2 b2) (fmod_lo _ hm) (fmod_hi _ hm)
        · skip
          refine ⟨_, rfl, .inl ⟨_, rfl, _, _, rfl, rfl, nz (by decide), _, rfl, _, _, rfl, rfl, .inl ⟨by decide, by decide⟩, _, _, rfl, rfl, _, _, rfl, rfl, _, _, rfl, rfl, ⟨by decide, by decide, bound1 _ (by decide) (by decide) (by decide) (by decide) t0 ht⟩, .inl ⟨_, rfl, _, _, rfl, rfl, nz (by decide), ?_⟩⟩⟩
          refine ⟨_, rfl, _, rfl, _, _, rfl, rfl, .inl ⟨by decide, by decide⟩, _, _, rfl, rfl, _, _, rfl, rfl, .inl ?_, _, rfl, _, _, rfl, rfl, .inl ⟨by decide, by decide⟩, _, rfl, _, _, rfl, rfl, .inl ?_, _, _, rfl, rfl, _, _, rfl, rfl, _, _, rfl, rfl, ⟨by decide, by decide, ?_⟩, .inl ⟨_, rfl, _, _, rfl, rfl, nz (by decide), ?_⟩⟩
          · exact lt64 (hq (by decide) (by decide))
          · exact ⟨by omega, by omega⟩
          · exact bound2 (hq (by decide) (by decide)) (by decide) (by decide) (by decide) t0 ht
          · refine ⟨_, rfl, _, _, rfl, rfl, ⟨by decide, by decide⟩, .inl ⟨_, rfl, _, rfl, _, _, rfl, rfl, (by omega), ?_⟩⟩
            exact k _ _ b2 (fin _ hp2 hL2 b2) (fmod_lo _ hm) (fmod_hi _ hm)
end
end Ev
namespace Ev
open PySem L2 PySem.Spec PyProof.Rows
abbrev sParts : Stmt := sPartsOf
abbrev sBRInit : Stmt := sBadRule_init
abbrev sHeard : Stmt := sLHeard
abbrev sNums : Stmt := sLNumbers
abbrev sRule : Stmt := sLRule
theorem same_new {H : Hp} {q : Addr} {o : HO} (n : H q = none) : Same H (upd H q o) := fun b u e => by rw [upd_ne (ne_of_none e n)]; exact e
theorem Same.gone {H H' : Hp} {p : Addr} (k : Same H H') (n : H' p = none) : H p = none := by
  cases z : H p with
  | none => rfl
  | some o => rw [k _ _ z] at n; cases n
/-- a def that stands under its name -/
structure Df (P : Program) (w : World) (K : PySem.W.Frag) (mg : Str → Option Value) (base : Heap) (k : Nat) (x : Str) (ps : List Str) (sp : Sp) : Prop where
  ex : ∃ (f : Addr) (fd : FuncData), FnOk P w K mg base CX0 k f fd ps sp ∧ mg x = some (.ref f) ∧ PySem.W.keepIn K (.ref f) = true ∧ Binds K fd ps []
theorem extN_refl (H : Hp) : LamX.ExtN H H := fun _ _ e _ => e
theorem sx {H H1 H2 : Hp} (k : Same H H1) (q : LamX.ExtN H1 H2) : LamX.ExtN H H2 := fun b o e t => q b o (k b o e) t
theorem xx {H H1 H2 : Hp} (k : LamX.ExtN H H1) (q : LamX.ExtN H1 H2) : LamX.ExtN H H2 := fun b o e t => q b o (k b o e t) t
/-- no integer -/
def NoInt (H : Hp) (v : V) : Prop := (∀ i, v ≠ .int i) ∧ ∃ (T : String) (b c : Bool), (∀ (K : PySem.W.Frag) (H' : Hp), LamX.ExtN H H' → TyX K H' v (.type T)) ∧ kitB T "int" = some b ∧ kitB T "bool" = some c ∧ (b = true → c = true)
theorem NoInt.keep {H H' : Hp} {v : V} (h : NoInt H v) (k : Same H H') : NoInt H' v := by
  obtain ⟨n, T, b, c, ty, r⟩ := h
  exact ⟨n, T, b, c, fun K G q => ty K G (sx k q), r⟩
theorem NoInt.ext {H H' : Hp} {v : V} (h : NoInt H v) (k : LamX.ExtN H H') : NoInt H' v := by
  obtain ⟨n, T, b, c, ty, r⟩ := h
  exact ⟨n, T, b, c, fun K G q => ty K G (xx k q), r⟩
/-- an integer or none -/
def IntQ (H : Hp) (v : V) : Prop := (∃ i, v = .int i) ∨ NoInt H v
theorem IntQ.keep {H H' : Hp} {v : V} (h : IntQ H v) (k : Same H H') : IntQ H' v := h.imp id fun n => n.keep k
theorem IntQ.ext {H H' : Hp} {v : V} (h : IntQ H v) (k : LamX.ExtN H H') : IntQ H' v := h.imp id fun n => n.ext k
def isI : V → Bool
  | .int _ => true
  | _ => false
def inB (l m : Int) : V → Bool
  | .int i => decide (l ≤ i) && decide (i ≤ m)
  | _ => false
theorem isI_no {H : Hp} {v : V} (h : NoInt H v) : isI v = false := by
  cases v <;> first | rfl | exact absurd rfl (h.1 _)
theorem inB_no {H : Hp} {v : V} (h : NoInt H v) (l m : Int) : inB l m v = false := by
  cases v <;> first | rfl | exact absurd rfl (h.1 _)
/-- what stands in such a tuple -/
def Scal (v : V) : Prop := (∃ i, v = .int i) ∨ (∃ b, v = .bl b) ∨ v = .str "2"
theorem noInt_bl (H : Hp) (b : Bool) : NoInt H (.bl b) := ⟨fun i z => (by cases z), "bool", true, true, fun _ _ _ => .base (.bl b), by decide +kernel, by decide +kernel, fun _ => rfl⟩
theorem noInt_str (H : Hp) (x : Str) : NoInt H (.str x) := ⟨fun i z => (by cases z), "str", false, false, fun _ _ _ => .base (.str x), by decide +kernel, by decide +kernel, fun z => z⟩
theorem Scal.q {H : Hp} {v : V} (h : Scal v) : IntQ H v := by
  rcases h with ⟨i, rfl⟩ | ⟨b, rfl⟩ | rfl
  · exact .inl ⟨i, rfl⟩
  · exact .inr (noInt_bl H b)
  · exact .inr (noInt_str H _)
/-- no tuple -/
def NoTup (H : Hp) (v : V) : Prop := ∃ T : String, (∀ (K : PySem.W.Frag) (H' : Hp), LamX.ExtN H H' → TyX K H' v (.type T)) ∧ kitB T "tuple" = some false
theorem NoTup.keep {H H' : Hp} {v : V} (h : NoTup H v) (k : Same H H') : NoTup H' v := by
  obtain ⟨T, ty, r⟩ := h
  exact ⟨T, fun K G q => ty K G (sx k q), r⟩
theorem NoTup.ext {H H' : Hp} {v : V} (h : NoTup H v) (k : LamX.ExtN H H') : NoTup H' v := by
  obtain ⟨T, ty, r⟩ := h
  exact ⟨T, fun K G q => ty K G (xx k q), r⟩
/-- a tuple of such values, or no tuple: xs tells which -/
def PairQ (H : Hp) (v : V) : Option (List V) → Prop
  | some xs => ∃ a, v = .ref a ∧ H a = some (.tup xs) ∧ xs.length ≤ 1000 ∧ ∀ x ∈ xs, Scal x
  | none => NoTup H v
theorem PairQ.keep {H H' : Hp} {v : V} {o : Option (List V)} (h : PairQ H v o) (k : Same H H') : PairQ H' v o := by
  cases o with
  | none => exact NoTup.keep h k
  | some xs =>
    obtain ⟨a, e, h1, h2, h3⟩ := h
    exact ⟨a, e, k _ _ h1, h2, h3⟩
theorem PairQ.ext {H H' : Hp} {v : V} {o : Option (List V)} (h : PairQ H v o) (k : LamX.ExtN H H') : PairQ H' v o := by
  cases o with
  | none => exact NoTup.ext h k
  | some xs =>
    obtain ⟨a, e, h1, h2, h3⟩ := h
    exact ⟨a, e, k _ _ h1 (fun _ z => by cases z), h2, h3⟩
def pairB (m : Int) : Option (List V) → Bool
  | some [x, y] => inB 1 m x && inB 1 m y
  | _ => false
def leV : V → V → Bool
  | .int i, .int j => decide (j ≤ i)
  | _, _ => false
def timesB : Option (List V) → Bool
  | some [x, y] => (inB 1 6 x && inB 1 6 y) && leV x y
  | _ => false
def spIsIntA : Sp := fun vs H Q _ => ∃ v : V, vs = [v] ∧ IntQ H v ∧ Q (.bl (isI v)) H
def spWithinA : Sp := fun vs H Q _ => ∃ (v : V) (l m : Int), vs = [v, .int l, .int m] ∧ IntQ H v ∧ Q (.bl (inB l m v)) H
def spPairA : Sp := fun vs H Q _ => ∃ (v : V) (o : Option (List V)) (m : Int), vs = [v, .int m] ∧ PairQ H v o ∧ ∀ H', Same H H' → Q (.bl (pairB m o)) H'
def spTimesA : Sp := fun vs H Q _ => ∃ (v : V) (o : Option (List V)), vs = [v] ∧ PairQ H v o ∧ ∀ H', Same H H' → Q (.bl (timesB o)) H'
def spPlusA : Sp := fun vs H Q _ => ∃ v : V, vs = [v] ∧ IntQ H v ∧ Q (.bl (inB (-6) 6 v)) H
def spTurnA : Sp := fun vs H Q _ => ∃ (v : V) (o : Option (List V)), vs = [v] ∧ PairQ H v o ∧ ∀ H', Same H H' → Q (.bl (pairB 8 o)) H'
theorem lc_pureV {J : It} {n : Nat} {G : Hp → Prop} {Y : Nat → Hp → V → Hp → Prop} (W : Walk J n G Y) {g : TG} {tt : TT} {te : TE} {vs : List Nat} {σ : L2.St} {H1 : Hp} {D : Addr} {Qd : Hp → Prop} (rs : List V) (hn : rs.length = n) (hb : n ≤ 4000)
    (hG : ∀ H, But D H1 H → G H)
    (step : ∀ (i : Nat) (x : V) (H H' : Hp) (r : V), i < n → rs[i]? = some r → But D H1 H → (∃ acc, H D = some (.lst acc)) → Y i H x H' → ∀ (R : VK) (Wk : Hp → Prop), (∀ H4, Same H H4 → R r H4) →
      g x (wipe σ vs) H' fun σ2 H2 => wipe σ2 vs = wipe σ vs ∧ tt σ2 H2 fun b H3 => if b = true then te σ2 H3 R else Wk H3)
    (fin : ∀ H, But D H1 H → H D = some (.lst rs) → Qd H) :
    ∃ W : Nat → Nat → Hp → Prop, (∃ m, W 0 m (upd H1 D (HO.lst []))) ∧ ∀ (i m : Nat) (H : Hp), W i m H → J.stop i H ∧ Qd H ∨ J.go i H ∧ ∃ Nx : Hp → Prop, (∀ (H' : Hp), Nx H' → ∃ m', m' < m ∧ W (i + 1) m' H') ∧
      ∀ (x : V) (H' : Hp), J.yld i H x H' → g x (wipe σ vs) H' fun σ2 H2 => wipe σ2 vs = wipe σ vs ∧ tt σ2 H2 fun b H3 =>
        if b = true then te σ2 H3 fun y H4 => ∃ acc, H4 D = some (HO.lst acc) ∧ acc.length < sizeLine ∧ Nx (upd H4 D (HO.lst (acc ++ [y]))) else Nx H3 := by
  refine lc_it W (fun i H => H D = some (.lst (rs.take i)) ∧ But D H1 H) ⟨upd_same, But.upd_at⟩ (fun i H _ h => hG H h.2) (fun i x H H' hi h y => ?_) (fun H h => ?_)
  · obtain ⟨e1, e2⟩ := h
    have hr : rs[i]? = some rs[i] := List.getElem?_eq_getElem (by omega)
    refine step i x H H' rs[i] hi hr e2 ⟨_, e1⟩ y _ _ fun H4 s4 => ⟨_, s4 _ _ e1, ?_, ?_, ?_⟩
    · rw [List.length_take]
      exact Nat.lt_of_le_of_lt (Nat.min_le_left _ _) (Nat.lt_of_lt_of_le (show i < 4000 by omega) (by decide))
    · rw [List.take_add_one, hr]
      exact upd_same
    · exact fun c o nc ec => by rw [upd_ne nc]; exact s4 _ _ (e2 c o nc ec)
  · obtain ⟨e1, e2⟩ := h
    rw [← hn, List.take_length] at e1
    exact fin H e2 e1
section
variable {P : Program} {w : World} {K : PySem.W.Frag} {mg : Str → Option Value} {base : Heap}
theorem tup1 {a b : V} : atI [a, b] 1 = some b := atI_nat (j := 1) rfl
theorem tup0 {a b : V} : atI [a, b] 0 = some a := atI_nat (j := 0) rfl
theorem scIsInt : FnScope ["value"] ["value"] (defScope sIsInt) := ⟨rfl, rfl, rfl, by decide +kernel, rfl, by decide +kernel, by decide +kernel⟩
theorem ok_isInt {f : Addr} {fd : FuncData} (F : Fun K "is_integer" "is_integer" sIsInt f fd) (T : Blt mg) : FnOk P w K mg base CX0 1 f fd ["value"] spIsIntA := by
  refine F.ok scIsInt (fun vs H Q E h => ?_) (fun cdv A outer s H vs Q E hr h => ?_)
  · obtain ⟨v, rfl, _⟩ := h
    rfl
  · obtain ⟨v, rfl, h, k⟩ := h
    refine ⟨_, pss_one (ps_ret (pe_and (pe_callB call_isi (by rfl) T.isi (by decide +kernel) (pa_cons (pv 0) (pa_cons (pe_bltn (v := .ty "int") (by rfl) T.int (by decide +kernel) rfl) pa_nil)))
      (pe_one (pe_not (pe_callB call_isi (by rfl) T.isi (by decide +kernel) (pa_cons (pv 0) (pa_cons (pe_bltn (v := .ty "bool") (by rfl) T.bool (by decide +kernel) rfl) pa_nil))))))), ?_⟩
    rcases h with ⟨i, rfl⟩ | no
    · exact ⟨_, rfl, _, _, _, _, true, rfl, .ty _, .base (.int i), kit_ty (by decide +kernel), true, rfl, iteT ⟨_, rfl, _, _, _, _, false, rfl, .ty _, .base (.int i), kit_ty (by decide +kernel), _, rfl, k⟩⟩
    · rw [isI_no no] at k
      obtain ⟨_, TT, b, c, ty, e1, e2, e3⟩ := no
      refine ⟨_, rfl, _, _, _, _, b, rfl, .ty _, ty _ _ (extN_refl H), kit_ty e1, b, rfl, ?_⟩
      cases b with
      | false => exact iteF k
      | true => exact iteT ⟨_, rfl, _, _, _, _, true, rfl, .ty _, ty _ _ (extN_refl H), kit_ty (by rw [e2, e3 rfl]), _, rfl, k⟩
theorem scWithin : FnScope ["value", "least", "most"] ["value", "least", "most"] (defScope sWithin) := ⟨rfl, rfl, rfl, by decide +kernel, rfl, by decide +kernel, by decide +kernel⟩
theorem ok_within {f : Addr} {fd : FuncData} (F : Fun K "is_within" "is_within" sWithin f fd) (D : Df P w K mg base 1 "is_integer" ["value"] spIsIntA) : FnOk P w K mg base CX0 2 f fd ["value", "least", "most"] spWithinA := by
  obtain ⟨fI, fdI, GI, gI, kI, bI⟩ := D.ex
  refine F.ok scWithin (fun vs H Q E h => ?_) (fun cdv A outer s H vs Q E hr h => ?_)
  · obtain ⟨v, l, m, rfl, _⟩ := h
    rfl
  · obtain ⟨v, l, m, rfl, h, k⟩ := h
    refine ⟨_, pss_one (ps_ret (pe_and (pe_call GI hr (by rfl) gI kI bI .nil pass0 (pa_cons (pv 0) pa_nil)) (pe_one (pe_chain op_le op_le (pv 1) (pv 0) (pv 2))))), ?_⟩
    refine ⟨_, rfl, _, rfl, h, ?_⟩
    rcases h with ⟨i, rfl⟩ | no
    · refine ⟨true, rfl, iteT ⟨_, rfl, _, rfl, _, _, rfl, rfl, _, rfl, ?_⟩⟩
      have k : Q (.bl (decide (l ≤ i) && decide (i ≤ m))) H := k
      by_cases z : l ≤ i
      · rw [decide_eq_true z] at k ⊢
        refine iteT ⟨_, rfl, _, _, rfl, rfl, ?_⟩
        exact k
      · rw [decide_eq_false z] at k ⊢
        exact iteF k
    · rw [inB_no no] at k
      rw [isI_no no]
      exact ⟨false, rfl, iteF k⟩
theorem scPair : FnScope ["value", "most", "item"] ["value", "most"] (defScope sPair) := ⟨rfl, rfl, rfl, by decide +kernel, rfl, by decide +kernel, by decide +kernel⟩
theorem pairB_len {m : Int} {xs : List V} (h : xs.length ≠ 2) : pairB m (some xs) = false := by
  match xs, h with
  | [], _ => rfl
  | [_], _ => rfl
  | [_, _], h => exact absurd rfl h
  | _ :: _ :: _ :: _, _ => rfl
theorem ok_pair {f : Addr} {fd : FuncData} (F : Fun K "is_pair" "is_pair" sPair f fd) (T : Blt mg) (D : Df P w K mg base 2 "is_within" ["value", "least", "most"] spWithinA) : FnOk P w K mg base CX0 3 f fd ["value", "most"] spPairA := by
  obtain ⟨fW, fdW, GW, gW, kW, bW⟩ := D.ex
  refine F.ok scPair (fun vs H Q E h => ?_) (fun cdv A outer s H vs Q E hr h => ?_)
  · obtain ⟨v, o, m, rfl, _⟩ := h
    rfl
  · obtain ⟨v, o, m, rfl, hv, k⟩ := h
    refine ⟨_, pss_one (ps_ret (pe_and (pe_callB call_isi (by rfl) T.isi (by decide +kernel) (pa_cons (pv 0) (pa_cons (pe_bltn (v := .ty "tuple") (by rfl) T.tuple (by decide +kernel) rfl) pa_nil)))
      (pe_and (pe_cmpR op_eq (pe_callB call_len_seq (by rfl) T.len PySem.boot_len (pa_cons (pv 0) pa_nil)) pe_int (nomark _))
      (pe_one (pe_callB (cr_all rfl) (by rfl) T.all (by decide +kernel) (pa_cons (pe_lc (own := [("item", 2)]) (g := gName 2) (tt := tYes) (te := tCall spWithinA [] E0 (tCons (tVar 2) (tCons (tC (.int 1)) (tCons (tVar 1) tNil)))) (by rfl) scPair.nd (pi_tup (pv 0)) (blkOk_by (own := [("item", 2)]) (N := ["value", "most", "item"]) (sc := defScope sPair) (by decide +kernel))
          (fun _ _ _ _ _ => pg_name (i := 2) scPair.nd rfl (.inl rfl)) (fun _ _ _ _ _ => pts_nil) (fun _ _ _ _ _ => pe_call GW hr (by rfl) gW kW bW .nil pass0 (pa_cons (pv 2) (pa_cons pe_int (pa_cons (pv 1) pa_nil))))) pa_nil)))))), ?_⟩
    cases o with
    | none =>
      obtain ⟨TT, ty, e⟩ := hv
      exact ⟨_, rfl, _, _, _, _, false, rfl, .ty _, ty _ _ (extN_refl H), kit_ty e, false, rfl, iteF (k H (Same.refl H))⟩
    | some xs =>
      obtain ⟨a, rfl, ha, hl, hq⟩ := hv
      refine ⟨_, rfl, _, _, _, _, true, rfl, .ty _, .base (.tup ha), kit_ty (by decide +kernel), true, rfl, iteT ⟨_, rfl, a, _, rfl, .inr (SqT.of ha), rfl, _, rfl, ite2 (fun e => ?_) (fun e => ?_)⟩⟩
      · have e : xs.length = 2 := by
          have e' : (xs.length : Int) = 2 := by simpa using e
          omega
        refine ⟨_, rfl, a, rfl, ⟨_, SqT.of ha⟩, fun D nD => ?_⟩
        have aD := ne_of_none ha nD
        refine lc_pureV (n := xs.length) (walk_tup (xs := xs)) (xs.map fun x => V.bl (inB 1 m x)) (List.length_map _) (by omega) (fun H' h => SqT.of (h _ _ aD ha)) (fun i v H2 H' r hi hr bt _ y R Wk kk => ?_) (fun H' bt hD => ?_)
        · obtain ⟨rfl, hv⟩ := y
          have er : r = V.bl (inB 1 m v) := by
            rw [List.getElem?_map, hv] at hr
            exact (Option.some.inj hr).symm
          subst er
          have sq : IntQ H' v := (hq v (List.mem_of_getElem? hv)).q
          exact ⟨rfl, _, rfl, _, rfl, v, 1, m, rfl, sq, kk _ (Same.refl _)⟩
        · have s1 : Same H H' := fun c o e => bt c o (ne_of_none e nD) e
          have eq : (xs.map fun x => V.bl (inB 1 m x)) = (xs.map fun x => inB 1 m x).map V.bl := by rw [List.map_map]; rfl
          rw [eq] at hD
          refine ⟨D, _, rfl, SqL.of hD, ?_⟩
          match xs, e with
          | [x, y], _ =>
            have := k H' s1
            simpa [pairB] using this
      · have e : xs.length ≠ 2 := by
          have e' : ¬ (xs.length : Int) = 2 := by simpa using e
          omega
        have := k H (Same.refl H)
        rw [pairB_len e] at this
        simpa using this
theorem inB_int {l m : Int} {v : V} (h : inB l m v = true) : ∃ i, v = .int i ∧ l ≤ i ∧ i ≤ m := by
  cases v <;> first | cases h | skip
  rename_i i
  have h : (decide (l ≤ i) && decide (i ≤ m)) = true := h
  rw [Bool.and_eq_true, decide_eq_true_eq, decide_eq_true_eq] at h
  exact ⟨i, rfl, h.1, h.2⟩
theorem pair_cases (m : Int) (o : Option (List V)) : (∃ i j, o = some [.int i, .int j] ∧ (1 ≤ i ∧ i ≤ m) ∧ (1 ≤ j ∧ j ≤ m) ∧ pairB m o = true) ∨ pairB m o = false := by
  cases z : pairB m o with
  | false => exact .inr rfl
  | true =>
    refine .inl ?_
    match o, z with
    | some [x, y], z =>
      have z : (inB 1 m x && inB 1 m y) = true := z
      rw [Bool.and_eq_true] at z
      obtain ⟨i, rfl, h1, h2⟩ := inB_int z.1
      obtain ⟨j, rfl, h3, h4⟩ := inB_int z.2
      exact ⟨i, j, rfl, ⟨h1, h2⟩, ⟨h3, h4⟩, rfl⟩
end
end Ev
namespace Ev
open PySem L2 PySem.Spec PyProof.Rows
section
variable {X : Cx}
theorem pe_never {e : Expr} : PE X e (fun _ _ _ => False) := ⟨fun _ _ _ _ _ _ h => h.elim⟩
end
/-- v is a value of the built-in type T, one that holds nothing -/
structure Flat (v : V) (T : String) : Prop where
  ty : ∀ (K : PySem.W.Frag) (H : Hp), TyX K H v (.type T)
  l : kitB T "list" = some false
  t : kitB T "tuple" = some false
  d : kitB T "dict" = some false
theorem flat_int (i : Int) : Flat (.int i) "int" := ⟨fun _ _ => .base (.int i), by decide +kernel, by decide +kernel, by decide +kernel⟩
theorem flat_str (x : Str) : Flat (.str x) "str" := ⟨fun _ _ => .base (.str x), by decide +kernel, by decide +kernel, by decide +kernel⟩
theorem kit2 {K : PySem.W.Frag} {T a b : String} (h1 : kitB T a = some false) (h2 : kitB T b = some false) : PySem.W.kitAny K (.type T) [.type a, .type b] = some false :=
  kitAny_cons (kit_ty h1) (fun _ => kitAny_cons (kit_ty h2) (fun _ => kitAny_nil) (fun z => by cases z)) (fun z => by cases z)
def spParts : Sp := fun vs H Q _ => ∃ (v : V) (T : String), vs = [v] ∧ Flat v T ∧ ∀ (p : Addr) (H' : Hp), H p = none → Same H H' → H' p = some (.lst []) → Q (.ref p) H'
def spKept : Sp := fun vs H Q _ => ∃ (v : V) (T : String), vs = [v] ∧ Flat v T ∧ ∀ (H' : Hp), Same H H' → Q v H'
section
variable {P : Program} {w : World} {K : PySem.W.Frag} {mg : Str → Option Value} {base : Heap}
theorem scParts : FnScope ["value"] ["value"] (defScope sParts) := ⟨rfl, rfl, rfl, by decide +kernel, rfl, by decide +kernel, by decide +kernel⟩
theorem ok_parts {f : Addr} {fd : FuncData} (F : Fun K "parts_of" "parts_of" sParts f fd) (T : Blt mg) (md : mg "dict" = none) : FnOk P w K mg base CX0 1 f fd ["value"] spParts := by
  refine F.ok scParts (fun vs H Q E h => ?_) (fun cdv A outer s H vs Q E hr h => ?_)
  · obtain ⟨v, TT, rfl, _⟩ := h
    rfl
  · obtain ⟨v, TT, rfl, fl, kk⟩ := h
    refine ⟨_, pss_cons (ps_if (pt_val (pe_callB call_isiT (by rfl) T.isi (by decide +kernel) (pa_cons (pv 0) (pa_cons (pe_tup (pa_cons (pe_bltn (v := .ty "list") (by rfl) T.list (by decide +kernel) rfl) (pa_cons (pe_bltn (v := .ty "tuple") (by rfl) T.tuple (by decide +kernel) rfl) pa_nil))) pa_nil)))) (pss_one ps_never) pss_nil)
      (pss_one (ps_ret (pe_ifExp (pt_val (pe_callB call_isi (by rfl) T.isi (by decide +kernel) (pa_cons (pv 0) (pa_cons (pe_bltn (v := .ty "dict") (by rfl) md (by decide +kernel) rfl) pa_nil)))) pe_never (pe_lst pa_nil)))), ?_⟩
    refine ⟨_, rfl, (by show 2 ≤ sizeLine; decide), fun tp ntp => ⟨v, tp, _, _, _, false, rfl, upd_same, .cons (.ty _) (.cons (.ty _) .nil), fl.ty _ _, kit2 fl.l fl.t, _, rfl, iteF ?_⟩⟩
    refine ⟨_, rfl, v, _, _, _, false, rfl, .ty _, fl.ty _ _, kit_ty fl.d, _, rfl, iteF ⟨(by show 0 ≤ sizeLine; decide), fun p np => ?_⟩⟩
    refine kk p _ ?_ (fun b o e => ?_) upd_same
    · cases e : H p with
      | none => rfl
      | some o => rw [upd_ne (ne_of_none e ntp), e] at np; cases np
    · have e1 : upd H tp (.tup [.ty "list", .ty "tuple"]) b = some o := by rw [upd_ne (ne_of_none e ntp)]; exact e
      rw [upd_ne (ne_of_none e1 np)]; exact e1
theorem kit3 {K : PySem.W.Frag} {T a b c : String} (h1 : kitB T a = some false) (h2 : kitB T b = some false) (h3 : kitB T c = some false) : PySem.W.kitAny K (.type T) [.type a, .type b, .type c] = some false :=
  kitAny_cons (kit_ty h1) (fun _ => kitAny_cons (kit_ty h2) (fun _ => kitAny_cons (kit_ty h3) (fun _ => kitAny_nil) (fun z => by cases z)) (fun z => by cases z)) (fun z => by cases z)
theorem scKept : FnScope ["value"] ["value"] (defScope sKept) := ⟨rfl, rfl, rfl, by decide +kernel, rfl, by decide +kernel, by decide +kernel⟩
theorem ok_kept {f : Addr} {fd : FuncData} (F : Fun K "kept" "kept" sKept f fd) (T : Blt mg) (md : mg "dict" = none) (ma : mg "any" = none) (D : Df P w K mg base 1 "parts_of" ["value"] spParts) : FnOk P w K mg base CX0 2 f fd ["value"] spKept := by
  refine F.ok scKept (fun vs H Q E h => ?_) (fun cdv A outer s H vs Q E hr h => ?_)
  · obtain ⟨v, TT, rfl, _⟩ := h
    rfl
  · obtain ⟨v, TT, rfl, fl, kk⟩ := h
    refine ⟨_, pss_cons (ps_if (pt_not (pt_val (pe_callB call_isiT (by rfl) T.isi (by decide +kernel) (pa_cons (pv 0) (pa_cons (pe_tup (pa_cons (pe_bltn (v := .ty "list") (by rfl) T.list (by decide +kernel) rfl) (pa_cons (pe_bltn (v := .ty "tuple") (by rfl) T.tuple (by decide +kernel) rfl) (pa_cons (pe_bltn (v := .ty "dict") (by rfl) md (by decide +kernel) rfl) pa_nil)))) pa_nil))))) (pss_one (ps_ret (pv 0))) pss_nil)
      (pss_cons ps_never (pss_one ps_never)), ?_⟩
    refine ⟨_, rfl, (by show 3 ≤ sizeLine; decide), fun tp ntp => ⟨v, tp, _, _, _, false, rfl, upd_same, .cons (.ty _) (.cons (.ty _) (.cons (.ty _) .nil)), fl.ty _ _, kit3 fl.l fl.t fl.d, _, rfl, iteT ⟨_, rfl, ?_⟩⟩⟩
    exact kk _ (fun b u e => by rw [upd_ne (ne_of_none e ntp)]; exact e)
end
end Ev
namespace Ev
open PySem L2 PySem.Spec PyProof.Rows
/-! Promises of defs that are called while no repr is under way (so what they make can be shown). -/
structure FnG (P : Program) (w : World) (K : PySem.W.Frag) (mg : Str → Option Value) (base : Heap) (k : Nat) (f : Addr)
    (fd : FuncData) (ps : List Str) (sp : Sp) : Prop where
  many : ∀ vs H Q E, sp vs H Q E → vs.length = ps.length
  goes : ∀ (A : Around) (above : List Env) (s : Shared) (H : Hp) (args : Args) (us : List Value) (vs : List V) (Q : VK)
    (E : XK), Room k A → A.guards = some [] → Env0 P w K mg base A above s H → BindsTo s fd args (ps.zip us) → Vals vs us →
    sp vs H Q E → codeAny (model P w) A (.call (.ref f) args) (CR CX0 above P w H s Q E) s
theorem FnG.of {P : Program} {w : World} {K : PySem.W.Frag} {mg : Str → Option Value} {base : Heap} {k : Nat} {f : Addr}
    {fd : FuncData} {ps : List Str} {sp : Sp} (F : FnOk P w K mg base CX0 k f fd ps sp) : FnG P w K mg base k f fd ps sp :=
  ⟨F.len, fun A above s H args us vs Q E hr _ => F.run A above s H args us vs Q E hr⟩
section
variable {P : Program} {w : World} {K : PySem.W.Frag} {mg : Str → Option Value} {base : Heap}
/-- a def by its body, where no repr is under way -/
theorem fng_code {x qual : Str} {st : Stmt} {f : Addr} {fd : FuncData} {N ps : List Str} {k : Nat} {sp : Sp} (F : Fun K x qual st f fd)
    (S : FnScope N ps (defScope st)) (many : ∀ vs H Q E, sp vs H Q E → vs.length = ps.length)
    (body : ∀ (cdv : Value), fd.code = cdv → ∀ (A : Around) (above : List Env) (s : Shared) (H : Hp) (vs : List V) (Q : VK) (E : XK),
      Room k (A.deeper (envOfC qual (defScope st) s.heap.objs.size f cdv)) → A.guards = some [] → sp vs H Q E →
      ∃ t, PSs (cxOf CX0 P w K mg base N qual (defScope st) f cdv A above s H E).nox (defBody st) t ∧
        t { nx := fun _ H' => Q .non H', rt := Q } (start N vs) H) : FnG P w K mg base (k + 1) f fd ps sp := by
  obtain ⟨oc, od, kV, doc, pm, an, cdv, ct, osl, rfl, lk, hcd⟩ := F.ex
  constructor
  · exact many
  · intro A above s H args us vs Q E room gd env bt rv hs
    have inK : K.In s.heap := env.mod.kin.keeps fun b o e => (env.bs b o e).1
    have noLim : s.heap.NoLimit := env.mod.nolimit.keeps fun b o e => (env.bs b o e).1
    have kinds : ∀ y ∈ ps.zip us, (defScope st).names.lookup y.1 = some .local ∨
        ((defScope st).names.lookup y.1 = some .cell ∧ ((cellsFrom (s.heap.objs.size + 1) (defScope st).names []).lookup y.1).isSome = true) := by
      rintro ⟨n, v⟩ hy
      cases S.par n (List.of_mem_zip hy).1 with
      | inl q => exact .inl q
      | inr q => exact .inr ⟨q, PySem.W.cellsFrom_some _ _ _ (.inl q)⟩
    refine codeAny_call_function room.depth (inK _ _ lk) rfl S.co S.gen rfl (PySem.W.codeRec_of inK hcd) (bt _ _ _ _ ?_)
    refine wpAny_newFunctionEnv_cells S.kind kinds fun e2 he s2 x => ?_
    subst he
    refine ⟨noLim.keeps x.toInCall.keep, codeAny_func ?_⟩
    obtain ⟨t, ht, hq⟩ := body cdv rfl A above s H vs Q E (room.deeper _) gd hs
    have inv := inv_start (CX := CX0) (E := E) S room.hd env (many _ _ _ _ hs) rv x
    refine wpAny_mono (ht.nox.run [] s2 (start N vs) H _ inv hq) (fun fl s3 h3 => ?_) fun e s3 h3 => h3
    cases fl with
    | ret u =>
      obtain ⟨v, σ3, H3, J, rr, q⟩ := h3
      exact ⟨v, H3, J.os, J.bare, J.base, J.hok, rr, q⟩
    | next =>
      obtain ⟨σ3, H3, J, q⟩ := h3
      exact ⟨.non, H3, J.os, J.bare, J.base, J.hok, rfl, q⟩
    | brk =>
      obtain ⟨_, _, _, z⟩ := h3
      exact False.elim z
    | cont =>
      obtain ⟨_, _, _, z⟩ := h3
      exact False.elim z
theorem fng_of {x qual : Str} {st : Stmt} {f : Addr} {fd : FuncData} {N ps : List Str} {k : Nat} {sp : Sp} (F : Fun K x qual st f fd)
    (S : FnScope N ps (defScope st)) (many : ∀ vs H Q E, sp vs H Q E → vs.length = ps.length)
    (body : ∀ (cdv : Value) (A : Around) (above : List Env) (s : Shared) (H : Hp) (vs : List V) (Q : VK) (E : XK),
      Room k (A.deeper (envOfC qual (defScope st) s.heap.objs.size f cdv)) → A.guards = some [] → sp vs H Q E →
      ∃ t, PSs (cxOf CX0 P w K mg base N qual (defScope st) f cdv A above s H E).nox (defBody st) t ∧
        t { nx := fun _ H' => Q .non H', rt := Q } (start N vs) H) : FnG P w K mg base (k + 1) f fd ps sp :=
  fng_code F S many fun cdv _ => body cdv
end
section
variable {X : Cx}
/-- f(e, ..) of such a def -/
theorem pe_callG {k : Nat} {f : Addr} {fd : FuncData} {ps : List Str} {sp : Sp} {E : XK} {x : Str} {p pos : Pos} {e : Expr} {es : List Expr} {t : TA}
    (F : FnG X.prog X.w X.K X.mg X.base k f fd ps sp) (room : Room k X.A) (gd : X.A.guards = some []) (hg : Gl X x)
    (hm : X.mg x = some (.ref f)) (kp : PySem.W.keepIn X.K (.ref f) = true) (hb : Binds X.K fd ps []) (ha : PA X (e :: es) t)
    (hdb : (x == ("__debug__" : Str)) = false := by decide)
    (he : starEach (e :: es) X.env = (false, eval e X.env) :: starEach es X.env := by rfl)
    (hpl : (backTo pos (starEach es X.env)).any (·.1) = false := by rfl) :
    PE X (.Call (.Name x p) (e :: es) [] pos) (tCall sp [] E t) := by
  constructor
  intro pins s σ H Q I h
  refine wpAny_Call_Name_kw (ld_glob I hg hm ?_ hdb)
  refine PySem.W.callWith_K (h₀ := X.base) I.ok.mod.kin kp (thn (ha.run pos pins s σ H _ I h) fun us s1 d => ?_) he hpl
  obtain ⟨vs, H1, I1, rv, q⟩ := d
  refine ⟨I1.kIn, ?_⟩
  have q : sp vs H1 Q E := by
    have q' : sp (vs ++ []) H1 Q E := q
    rw [List.append_nil] at q'
    exact q'
  have hl : us.length = ps.length := rv.length.symm.trans (F.many _ _ _ _ q)
  have bt := hb s1 us I1.kIn (by rw [List.append_nil]; exact hl)
  rw [List.append_nil] at bt
  refine wpAny_call (codeAny_mono (F.goes X.A X.stack s1 H1 ⟨us, []⟩ us vs Q E room gd I1.env0 bt rv q) fun r s2 h2 => ?_)
  cases r with
  | error e => exact False.elim h2
  | ok fl =>
    cases fl with
    | ret u => exact I1.after h2
    | next => exact False.elim h2
    | brk => exact False.elim h2
    | cont => exact False.elim h2
/-- repr of data, where none is under way -/
def rRepr (K : PySem.W.Frag) : List V → Hp → VK → Prop := fun xs H Q => ∃ (a : Addr) (d : PyData), xs = [.ref a] ∧ Dp K H (.ref a) d ∧
  d.showable = true ∧ d.hasDict = false ∧ d.depth ≤ 32 ∧ d.shown.length ≤ sizeLine ∧ Q (.str d.shown) H
theorem call_repr (gd : X.A.guards = some []) (hu : X.A.units + 64 < cLine) : CallR X (.builtin "repr") (rRepr X.K) := by
  intro pins s σ H xs us Q I r h
  obtain ⟨a, d, rfl, hd, h1, h2, h3, h4, q⟩ := h
  cases r with
  | cons r1 r2 =>
    cases r2
    cases r1
    obtain ⟨as, rd⟩ := Dp.reads I d (.ref a) (.ref a) hd rfl
    exact repr_of_reads' rd h1 (fun z => by rw [h2] at z; cases z) gd (by omega) (fun _ _ e => e)
      (fun h' u tk hk => ⟨.str d.shown, H, I.kept hk, ⟨u, rfl⟩, q⟩) h4
end
/-! ### the law's own call -/
section
variable {P : Program} {w : World} {K : PySem.W.Frag} {mg mb : Str → Option Value}
theorem law_callG {k : Nat} {fa a : Addr} {fd : FuncData} {x : Str} {sp : Sp} {s : Shared} {vs : List Value} {ns : List Int}
    (inK : K.In s.heap) (ns1 : s.heap.Ns mainGlobals mg) (ns2 : s.heap.Ns builtinsNs mb) (blt : ∀ x : Str, x ≠ "__name__" → mb x = bootBuiltins x)
    (noLim : s.heap.NoLimit) (hg : s.gens = #[]) (ha : s.heap.get? a = some { cls := .type "list", data := .seq vs.toArray })
    (hi : IntsAre vs ns) (hl : ns.length ≤ sizeLine) (hr : Room k callerA)
    (F : ∀ base : Heap, K.In base → base.Ns mainGlobals mg → FnG P w K mg base k fa fd [x] sp)
    (bt : ∀ (s : Shared) (u : Value), BindsTo s fd ⟨[u], []⟩ [(x, u)])
    (hsp : ∀ H : Hp, SqL K H a (ns.map V.int) → sp [.ref a] H (fun v _ => v = .bl true) fun _ _ _ => False) :
    codeAny (model P w) callerA (.call (.ref fa) ⟨[.ref a], []⟩)
      (fun r s' => r = .ok (.ret (.bool true)) ∧ OldK s.heap s'.heap ∧ s'.os = s.os ∧ AllBare s'.gens) s := by
  have rv := vals_ints hi
  have lv := hi.length
  have key : ∀ H : Hp, (∀ b u, H b = some u → b = a ∧ K.lookup a = none ∧ u = .frz { cls := .type "list", data := .seq vs.toArray } (.lst (ns.map V.int))) →
      SqL K H a (ns.map V.int) → codeAny (model P w) callerA (.call (.ref fa) ⟨[.ref a], []⟩)
        (fun r s' => r = .ok (.ret (.bool true)) ∧ OldK s.heap s'.heap ∧ s'.os = s.os ∧ AllBare s'.gens) s := by
    intro H only sq
    have ok : HOk P w H s.heap := by
      intro b u e
      obtain ⟨rfl, _, rfl⟩ := only b u e
      exact ⟨ha, by rw [List.length_map]; exact hl, vs, _, rv, ha⟩
    have plain : ∀ {b : Addr} {o : Obj} {es : Array DictEntry} {n : Nat}, s.heap.get? b = some o → o.data = .dict es n → H b = none := by
      intro b o es n e d
      cases q : H b with
      | none => rfl
      | some u =>
        obtain ⟨rfl, _, _⟩ := only b u q
        rw [ha] at e
        cases e
        exact nomatch d
    have names : ∀ {b : Addr} {m : Str → Option Value}, s.heap.Ns b m → (hidT s.heap H).Ns b m := by
      rintro b m ⟨o, es, n, e, d, r⟩
      exact ⟨o, es, n, hidT_get e (plain e d), d, r⟩
    have inB : K.In (hidT s.heap H) := by
      intro b o e
      refine hidT_get (inK b o e) ?_
      cases q : H b with
      | none => rfl
      | some u =>
        obtain ⟨rfl, n, _⟩ := only b u q
        rw [n] at e
        cases e
    obtain ⟨mc, l1, l2⟩ := noLim
    have md : Mod K mg (hidT s.heap H) := ⟨inB, names ns1, ⟨mb, names ns2, blt⟩, ⟨mc, names l1, l2⟩⟩
    have env : Env0 P w K mg (hidT s.heap H) callerA [] s H :=
      ⟨rfl, md, fun b o e => of_hidT e, Nat.le_of_eq (hidT_size _ _), trivial, (fun b hb => by cases hb), ok, .of_eq hg⟩
    have go := (F _ inB (names ns1)).goes callerA [] s H ⟨[.ref a], []⟩ [.ref a] [.ref a] _ _ hr rfl env (bt s (.ref a)) (.cons rfl .nil) (hsp H sq)
    refine codeAny_mono go fun r s2 h2 => ?_
    cases r with
    | error e => exact False.elim h2
    | ok fl =>
      cases fl with
      | next => exact False.elim h2
      | brk => exact False.elim h2
      | cont => exact False.elim h2
      | ret u =>
        obtain ⟨v, H2, os, bare, un, ok2, rr, q⟩ := h2
        obtain rfl : v = V.bl true := q
        obtain rfl : u = Value.bool true := rr
        refine ⟨rfl, OldK.of_keep fun b o e => ?_, os, bare⟩
        cases q : H b with
        | none => exact un.keep b o e q (by intro z; cases z) (by simp)
        | some u =>
          obtain ⟨rfl, _, rfl⟩ := only b u q
          obtain ⟨e1, _⟩ := ok b _ q
          obtain ⟨e2, _⟩ := ok2 b _ (un.frzs b _ _ q)
          rw [e] at e1
          cases e1
          exact e2
  cases hk : K.lookup a with
  | none =>
    refine key (fun b => if b = a then some (.frz { cls := .type "list", data := .seq vs.toArray } (.lst (ns.map V.int))) else none) (fun b u e => ?_) (.inl (.inr ⟨_, if_pos rfl⟩))
    by_cases z : b = a
    · rw [if_pos z] at e
      cases e
      exact ⟨z, hk, rfl⟩
    · rw [if_neg z] at e
      cases e
  | some o =>
    have e := inK a o hk
    rw [ha] at e
    cases e
    refine key (fun _ => none) (fun b u e => by cases e) (.inr ⟨_, vs.toArray, _, hk, rfl, rfl, rfl, ?_, by simpa using rv⟩)
    rw [List.size_toArray, lv]
    exact hl
end
theorem walk_ofG {l : PySem.W.OpenLaw} {n k : Nat} {q : Program} {loose : List Str} {XP : (Str → Option Value) → Heap → Prop} {YP : World → Heap → Prop}
    {d : DefRec} {K : Params → PySem.W.Frag} {sp : World → Sp} {x : Str} (hn : l.most = some n) (hn2 : n ≤ sizeLine) (hdf : d.params.defaults = [])
    (hr : Room k callerA) (hY : ∀ (w : World) (h : Heap), YP w h → (K w.params).In h)
    (F : ∀ (w : World) (mg : Str → Option Value) (fa : Addr) (h : Heap), (K w.params).In h → h.Ns mainGlobals mg → mg d.name = some (.ref fa) →
      ∃ fd : FuncData, (∀ (s : Shared) (u : Value), BindsTo s fd ⟨[u], []⟩ [(x, u)]) ∧
        ∀ base : Heap, (K w.params).In base → base.Ns mainGlobals mg → FnG l.prog w (K w.params) mg base k fa fd [x] (sp w))
    (hsp : ∀ (w : World) (H : Hp) (a : Addr) (ns : List Int), ns.length ≤ n → SqL (K w.params) H a (ns.map V.int) → sp w [.ref a] H (fun v _ => v = .bl true) fun _ _ _ => False) :
    PySem.W.WalkO q loose XP YP l.row.toRowW d [] (fun f vs => PySem.call f vs) := by
  refine Att.attach_call hn hdf fun w s0 s1 mg mb fa o pm cd doc a vs ns G Y h1 h2 h3 h4 h5 h6 h7 h8 => ?_
  obtain ⟨fd, bt, hF⟩ := F w mg fa _ (hY w _ Y) G.T.g h4
  exact law_callG (hY w _ Y) G.T.g G.T.b G.T.builtins G.T.nolimit h8 h5 h6 (Nat.le_trans h7 hn2) hr hF bt (fun H sq => hsp w H a ns h7 sq)
end Ev
namespace Ev
open PySem L2 PySem.Spec PyProof.Rows
theorem walk_ofGE {l : PySem.W.OpenLaw} {n k : Nat} {q : Program} {loose : List Str} {XP : (Str → Option Value) → Heap → Prop} {YP : World → Heap → Prop}
    {d : DefRec} {x : Str} (hn : l.most = some n) (hn2 : n ≤ sizeLine) (hdf : d.params.defaults = []) (hr : Room k callerA)
    (F : ∀ (w : World) (mg : Str → Option Value) (fa : Addr) (h : Heap), YP w h → h.Ns mainGlobals mg → mg d.name = some (.ref fa) →
      ∃ (K : PySem.W.Frag) (fd : FuncData) (sp : Sp), K.In h ∧ (∀ (s : Shared) (u : Value), BindsTo s fd ⟨[u], []⟩ [(x, u)]) ∧
        (∀ (H : Hp) (a : Addr) (ns : List Int), ns.length ≤ n → SqL K H a (ns.map V.int) → sp [.ref a] H (fun v _ => v = .bl true) fun _ _ _ => False) ∧
        ∀ base : Heap, K.In base → base.Ns mainGlobals mg → FnG l.prog w K mg base k fa fd [x] sp) :
    PySem.W.WalkO q loose XP YP l.row.toRowW d [] (fun f vs => PySem.call f vs) := by
  refine Att.attach_call hn hdf fun w s0 s1 mg mb fa o pm cd doc a vs ns G Y h1 h2 h3 h4 h5 h6 h7 h8 => ?_
  obtain ⟨K, fd, sp, inK, bt, hsp, hF⟩ := F w mg fa _ Y G.T.g h4
  exact law_callG inK G.T.g G.T.b G.T.builtins G.T.nolimit h8 h5 h6 (Nat.le_trans h7 hn2) hr hF bt (fun H sq => hsp H a ns h7 sq)
end Ev
namespace Ev
open PySem L2 PySem.Spec PyProof.Rows
/-! ### repr of a value that holds nothing but scalars -/
def sclr : V → PyData → Bool
  | .non, .none => true
  | .bl a, .bool b => a == b
  | .int a, .int b => decide (a = b)
  | .str a, .str b => a == b
  | _, _ => false
def keyD : Key → PyData
  | .inl i => .int i
  | .inr x => .str x
inductive Vd (K : PySem.W.Frag) (H : Hp) : V → PyData → Prop
  | plain {v : V} {d : PyData} : Dp K H v d → d.hasDict = false → Vd K H v d
  | dct {a : Addr} {kvs : List (Key × V)} {ds : List (PyData × PyData)} : H a = some (.dK kvs) → ds.map (·.1) = kvs.map (fun p => keyD p.1) → Paired (fun v d => sclr v d = true) (kvs.map (·.2)) (ds.map (·.2)) → Vd K H (.ref a) (.dict ds)
theorem reads_sc {h : Heap} {v : V} {d : PyData} {u : Value} (e : sclr v d = true) (r : RelV v u) : Reads h u d [] := by
  cases v <;> cases d <;> first | cases e | skip
  · cases (show u = Value.none from r); exact .none
  · obtain rfl := beq_iff_eq.mp e
    cases (show u = Value.bool _ from r); exact .bool _
  · obtain rfl := of_decide_eq_true e
    obtain ⟨t, q⟩ := (show ∃ t, u = Value.int _ t from r); cases q; exact .int _ _
  · obtain rfl := beq_iff_eq.mp e
    obtain ⟨t, q⟩ := (show ∃ t, u = Value.str _ t from r); cases q; exact .str _ _
theorem reads_scs {h : Heap} : ∀ {vs : List V} {ds : List PyData} {us : List Value}, Paired (fun v d => sclr v d = true) vs ds → Vals vs us → ReadsAll h us ds []
  | _, _, _, .nil, .nil => .nil
  | _, _, _, .cons e t, .cons r q => .cons (as := []) (bs := []) (reads_sc e r) (reads_scs t q)
theorem pair_vals {P : Program} {w : World} : ∀ {es : List DictEntry} {vs : List (Key × Value)}, Pairs (mixKind P w) es vs → es.map (·.val) = vs.map (·.2)
  | _, _, .nil => rfl
  | _, _, .cons h1 h2 t => by
    rw [List.map_cons, List.map_cons, h2, pair_vals t]
theorem reads_keys {P : Program} {w : World} {h : Heap} : ∀ {es : List DictEntry} {kvs : List (Key × V)} {vs : List (Key × Value)}, Pairs (mixKind P w) es vs → KV kvs vs → ReadsAll h (es.map (·.key)) (kvs.map fun p => keyD p.1) []
  | _, _, _, .nil, .nil => .nil
  | _, _, _, .cons h1 h2 t, .cons r q => by
    refine .cons (as := []) (bs := []) ?_ (reads_keys t q)
    dsimp only
    rw [r.1]
    rcases keyIs_shape (show keyIs _ _ = true from h1) with ⟨i, tk, e1, e2⟩ | ⟨x, tk, e1, e2⟩
    · rw [e1, e2]; exact .int _ _
    · rw [e1, e2]; exact .str _ _
theorem vals_snd : ∀ {kvs : List (Key × V)} {vs : List (Key × Value)}, KV kvs vs → Vals (kvs.map (·.2)) (vs.map (·.2))
  | _, _, .nil => .nil
  | _, _, .cons h t => .cons h.2 (vals_snd t)
section
variable {X : Cx}
/-- repr of such a value, where none is under way -/
def rReprV (K : PySem.W.Frag) : List V → Hp → VK → Prop := fun xs H Q => ∃ (v : V) (d : PyData), xs = [v] ∧ Vd K H v d ∧
  d.showable = true ∧ d.depth ≤ 32 ∧ d.shown.length ≤ sizeLine ∧ Q (.str d.shown) H
theorem call_reprV (gd : X.A.guards = some []) (hu : X.A.units + 64 < cLine) : CallR X (.builtin "repr") (rReprV X.K) := by
  intro pins s σ H xs us Q I r h
  obtain ⟨v, d, rfl, hd, h1, h3, h4, q⟩ := h
  obtain ⟨u, rfl, ru⟩ := vals1 r
  have fin : ∀ (h' : Heap) (t : Tok) (tk : Nat), (∀ b o, s.heap.get? b = some o → h'.get? b = some o) → EP X pins σ Q (.str d.shown t) { s with heap := h', toks := tk } := fun h' t tk hk => ⟨.str d.shown, H, I.kept hk, ⟨t, rfl⟩, q⟩
  have byRef : ∀ (a : Addr) (as : List Addr), u = .ref a → Reads s.heap (.ref a) d as → (d.hasDict = true → sysModules ∉ as) → wpAny (model X.prog X.w) X.A (call (.builtin "repr") [u]) (EP X pins σ Q) X.xe s := by
    intro a as eu rd hm
    subst eu
    exact repr_of_reads' rd h1 hm gd (by omega) (fun _ _ e => e) (fun h' t tk hk => fin h' t tk hk) h4
  cases hd with
  | plain dp nd =>
    cases dp with
    | non => cases ru; exact PySem.P.repr_of_none (fin s.heap _ _ fun _ _ e => e)
    | bl b => cases ru; exact PySem.P.repr_of_bool (fin s.heap _ _ fun _ _ e => e)
    | int i => obtain ⟨t, rfl⟩ := ru; exact PySem.P.repr_of_int (of_decide_eq_true h1) (fin s.heap _ _ fun _ _ e => e)
    | str x => obtain ⟨t, rfl⟩ := ru; exact PySem.P.repr_of_str (fin s.heap _ _ fun _ _ e => e) h4
    | lst sq al =>
      cases ru
      obtain ⟨as, rd⟩ := Dp.reads I _ _ _ (.lst sq al) rfl
      exact byRef _ as rfl rd fun z => by rw [nd] at z; cases z
    | tup sq al =>
      cases ru
      obtain ⟨as, rd⟩ := Dp.reads I _ _ _ (.tup sq al) rfl
      exact byRef _ as rfl rd fun z => by rw [nd] at z; cases z
  | @dct a kvs ds e ek ev =>
    cases ru
    obtain ⟨hz, hs0, vs, kv, hdo⟩ := (show ObjOk X.prog X.w H s.heap a (.dK kvs) from I.hok a _ e)
    obtain ⟨ep, ob, es, ho, ex, hdat, hko, hpr, hnd⟩ := hdo.dictAt
    have e1 : ReadsAll s.heap (es.toList.map (·.key)) (ds.map (·.1)) [] := by
      rw [ek]; exact reads_keys hpr kv
    have e2 : ReadsAll s.heap (es.toList.map (·.val)) (ds.map (·.2)) [] := by
      refine reads_scs ev ?_
      have e3 : es.toList.map (·.val) = vs.map (·.2) := pair_vals hpr
      rw [e3]; exact vals_snd kv
    refine byRef a (a :: [] ++ []) rfl (.dict ho ex.1 hdat e1 e2) fun _ z => ?_
    simp at z
    rw [← z] at hs0
    simp at hs0
end
end Ev
namespace Ev
open PySem L2 PySem.Spec PyProof.Rows
/-! An error that was caught stays in a local behind its suite: its object is told of from then on. -/
def Held (cls : Value) (d : Option Addr) (a : Addr) : HO := .ext fun h => ∃ oe : Obj, h.get? a = some oe ∧ Zc cls d oe ∧ ∃ vs : Array Value, oe.data = .fields vs
theorem held_ok {P : Program} {w : World} {H : Hp} {h : Heap} {a : Addr} {cls : Value} {d : Option Addr} {oe : Obj}
    (e : h.get? a = some oe) (z : Zc cls d oe) (f : ∃ vs : Array Value, oe.data = .fields vs) : ObjOk P w H h a (Held cls d a) :=
  ⟨⟨oe, e, z, f⟩, ⟨oe, e⟩, fun _ _ t k => by obtain ⟨o, q, r⟩ := t; exact ⟨o, k _ q, r⟩⟩
section
variable {X : Cx} {pins : List (Addr × Obj)} {σ : L2.St} {H : Hp} {s : Shared} {a : Addr} {cls : Value} {d : Option Addr} {oe : Obj}
theorem inv_hold (I : Inv X pins σ H s) (e : s.heap.get? a = some oe) (z : Zc cls d oe) (f : ∃ vs : Array Value, oe.data = .fields vs) (n : H a = none)
    (n0 : X.s_0.heap.get? a = none) (nL : a ≠ X.env.locals) (np : ∀ p ∈ X.pn ++ pins, p.1 ≠ a) : Inv X pins σ (upd H a (Held cls d a)) s := by
  have other : ∀ {b : Addr} {o : HO}, H b = some o → upd H a (Held cls d a) b = some o := fun {b o} q => by rw [upd_ne (ne_of_none q n)]; exact q
  constructor
  · exact I.ok
  · exact I.os
  · exact I.bare
  · constructor
    · exact I.base.keep
    · exact I.base.slot
    · intro b o q1 q2 q3
      have nb : b ≠ a := fun t => by rw [t, n0] at q1; cases q1
      rw [upd_ne nb]; exact I.base.free b o q1 q2 q3
    · exact I.base.there
    · exact fun b xs q => other (I.base.tups b xs q)
    · exact fun b o u q => other (I.base.frzs b o u q)
    · intro b ps q
      obtain ⟨more, t⟩ := I.base.tbls b ps q
      exact ⟨more, other t⟩
  · exact I.loc
  · exact I.cell
  · rw [upd_ne nL.symm]; exact I.free
  · intro x c q
    have nb : c ≠ a := fun t => by
      obtain ⟨v, o, q1, q2⟩ := I.cell x c q
      obtain ⟨vs, q3⟩ := f
      rw [t, e] at q1; cases q1
      rw [q3] at q2; cases q2
    rw [upd_ne nb]; exact I.freeC x c q
  · intro p hp
    obtain ⟨q1, q2, q3⟩ := I.pin p hp
    exact ⟨q1, by rw [upd_ne (np p hp)]; exact q2, q3⟩
  · intro b o q
    by_cases nb : b = a
    · subst nb
      rw [upd_same] at q
      cases q
      exact held_ok e z f
    · rw [upd_ne nb] at q
      exact (I.hok b o q).stay (fun _ _ _ t => t) (fun _ t => other t) (fun _ _ t => other t)
  · exact I.len
end
/-- what the clause wishes: the suite reads the error in slot i; behind it the error is told of, slot i is empty -/
def wHeld (K : PySem.W.Frag) (c : Value) (i : Nat) (ts : Addr → Value → Option Addr → TS) (Wout : WX) (n : Nat) (D : Ends) : WX := fun cls d σ H => σ.length = n →
  ∃ b, PySem.W.exmOne K cls c = some b ∧ (b = false → Wout cls d σ H) ∧ (b = true → ∀ a, H a = none →
    ts a cls d { nx := fun τ G => G a = none → D.nx (τ.set i none) (upd G a (Held cls d a)), rt := fun v G => D.rt v G, bk := fun τ G => D.bk (τ.set i none) G, ct := fun τ G => D.ct (τ.set i none) G } (σ.set i (some (.ref a))) H)
section
variable {X : Cx} {x n : Str} {c : Value} {i : Nat} {body suite : List Stmt} {b₀ : Stmt} {np pos pos' : Pos} {tb : WX → TS} {ts : Addr → Value → Option Addr → TS} {Wout : WX}
theorem ps_try_held (hs : X.stack = X.env :: X.outer) (hf : X.env.frame = some X.env.locals) (hex : X.ex = []) (hN : X.N.Nodup) (hi : X.N[i]? = some n) (hln : X.env.kindOf n = some .local) (hc : Names X x c) (tk : Takes X Wout)
    (hb : ∀ (W : WX) (pn : List (Addr × Obj)) (xe : Value → Shared → Prop), Takes (X.tr pn xe) W → PSs (X.tr pn xe) body (tb W))
    (hsu : ∀ (a : Addr) (oe : Obj) (cls : Value) (d : Option Addr) (pn : List (Addr × Obj)), Zc cls d oe → (∃ vs, oe.data = .fields vs) → PSs (X.suite a ((a, oe) :: pn)) (b₀ :: suite) (ts a cls d)) :
    PS X (.Try body [.ExceptHandler (some (.Name x np)) (some n) (b₀ :: suite) pos'] [] [] pos) (fun D σ H => tb (wHeld X.K c i ts Wout X.N.length D) D σ H) := by
  constructor
  intro pins s σ H D I h
  have ok := I.ok
  have frames : X.A.frames = some (X.env :: X.outer) := by rw [ok.frames, hs]
  have isLoc : Loc X.env.scope n := .inl hln
  let hands : List ExceptHandler := [.ExceptHandler (some (.Name x np)) (some n) (b₀ :: suite) pos']
  let land : Value → Shared → Prop := fun e s1 => wpAny (model X.prog X.w) X.A (noteFrame e X.env) (fun _ s2 => wpAny (model X.prog X.w) X.A (setFlight e none)
    (fun _ s3 => wpAny (model X.prog X.w) X.A (handleBy e X.env hands) (SP X pins D) X.xe s3) X.xe s2) X.xe s1
  have caught : Takes (X.tr (X.pn ++ pins) land) (wHeld X.K c i ts Wout X.N.length D) := by
    rintro u s' ⟨a, B, sI, pins', σ', H', cls, d, rfl, J', nb, up, sky, na, os, ag, wish⟩
    obtain ⟨b, hb1, hno, hyes⟩ := wish J'.len
    have J : Inv X pins σ' H' sI := J'.ofTry ok
    have sky2 : Sky B (X.env :: X.outer) a (Zc cls d) X.env.locals s'.heap := by rw [← hs]; exact sky
    refine Sky.land Zc.steady frames hf sky2 fun h3 fl3 up3 => ?_
    have J3 : Inv X pins σ' H' { s' with heap := h3 } := J.landed nb fl3.1 (up.trans up3) os ag
    obtain ⟨oe3, vs3, he3, hz3, hd3⟩ := fl3.there
    have nfr : a ∉ frs (X.env :: X.outer) := by
      intro hm
      obtain ⟨_, o2, e2, nf⟩ := fl3.2.2.1.mem hm
      rw [he3] at e2; cases e2
      exact nf _ hd3
    have nfr2 : a ∉ frs X.stack := by rw [hs]; exact nfr
    have nL : a ≠ X.env.locals := fun z => nfr (List.mem_filterMap.mpr ⟨_, List.mem_cons_self, by rw [hf, z]⟩)
    have nF : a ∉ X.fs := by
      intro hm
      obtain ⟨e, he, q⟩ := List.mem_filterMap.mp hm
      exact nfr (List.mem_filterMap.mpr ⟨e, List.mem_cons_of_mem _ he, q⟩)
    have nI : sI.heap.get? a = none := by
      cases q : sI.heap.get? a with
      | none => rfl
      | some o =>
        have z := nb a o q nfr2
        rw [fl3.2.1] at z; cases z
    have n0 : X.s_0.heap.get? a = none := by
      cases q : X.s_0.heap.get? a with
      | none => rfl
      | some o =>
        obtain ⟨o2, z⟩ := J.base.there a o q (by rw [hex]; simp)
        rw [nI] at z; cases z
    have npin : ∀ p ∈ X.pn ++ pins, p.1 ≠ a := fun p hp z => by
      have q := (J.pin p hp).1
      rw [z, nI] at q; cases q
    have S3 := J3.suite he3 hd3 na nL nF
    refine wpAny_handleBy_cons (codeAny_handlers_test ?_) (fun q => nomatch q)
    have LT : PySem.W.Looks (model X.prog X.w) h3 (typeOf (.ref a)) cls := by
      intro A Q E s k q
      exact wpAny_typeOf_ref (k _ _ he3) (by rw [hz3.1]; exact q)
    have LM := PySem.W.exm_one (M := model X.prog X.w) J3.kIn LT hb1
    have named : ∀ {Q E : Value → Shared → Prop}, Q c { s' with heap := h3 } → wpAny (model X.prog X.w) (X.A.mark (some (.ref a))) (eval (.Name x np) X.env) Q E { s' with heap := h3 } := by
      intro Q E q
      obtain ⟨g1, g2, g3⟩ := hc
      rcases g3 with m | ⟨m, v, nn⟩
      · exact ld_glob (X := X.suite a ((a, oe3) :: (X.pn ++ pins))) S3 g1 m q g2
      · exact ld_blt (X := X.suite a ((a, oe3) :: (X.pn ++ pins))) S3 g1 m v q nn g2
    refine named (LM.here ?_)
    cases b with
    | false =>
      refine wpAny_handleBy_nil (e := .ref a) (env := X.env) ?_
      obtain ⟨k1, k2, k3, oe, vs, T, oT, ts', he, hz, hd, h1, hr⟩ := id fl3
      unfold PySem.passOn
      refine wpAny_bind (wpAny_field he hd h1 ?_)
      rw [if_neg (by simp : ¬ ((Value.ref T == Value.none) = true))]
      have on : wpAny (model X.prog X.w) X.A (setFlight (.ref a) X.env.frame) (fun _ s4 => wpAny (model X.prog X.w) X.A (throw (.ref a) : Sem Flow) (SP X pins D) X.xe s4) X.xe { s' with heap := h3 } := by
        rw [hf]
        refine HandSPX.setFlight_upZ fl3 fun h4 hh4 up4 => ?_
        refine wpAny_throw (tk _ _ ⟨a, B, sI, pins, σ', H', cls, d, rfl, J, nb, (up.trans up3).trans up4, ?_, na, os, ag, hno rfl⟩)
        rw [hs]; exact .inr (.inr hh4)
      first
        | exact wpAny_bind (wpAny_pure (wpAny_bind on))
        | exact wpAny_bind on
    | true =>
      refine codeAny_handlers_suite_as (HandSPX.lands_againZ fl3 fun h4 fl4 up4 => ?_)
      have J4 : Inv X pins σ' H' { s' with heap := h4 } := J.landed nb fl4.1 ((up.trans up3).trans up4) os ag
      obtain ⟨oe4, vs4, he4, hz4, hd4⟩ := fl4.there
      refine store_ok (X := X.suite a ((a, oe4) :: (X.pn ++ pins))) (v := .ref a) (J4.suite he4 hd4 na nL nF) hN hi isLoc rfl (fun s5 S5 => ?_) (.inr hln)
      have suite := (hsu a oe4 cls d (X.pn ++ pins) hz4 ⟨_, hd4⟩).run [] s5 _ H' _ S5 (hyes rfl a na)
      refine wpAny_mono suite (fun f s6 hsp => ?_) (fun _ _ z => False.elim z)
      have gone : ∀ {τ : L2.St} {G : Hp} {Q : Shared → Prop}, Inv X pins τ G s6 → (∀ s7, Inv X pins (τ.set i none) G s7 → Q s7) →
          wpAny (model X.prog X.w) X.A (do bindName X.env n .none; unbindBehindTheSuite X.env n pos') (fun _ s7 => Q s7) X.xe s6 := by
        intro τ G Q S6 hq
        exact gone_ok S6 hN hi hln hq
      cases f with
      | next =>
        obtain ⟨τ, G, S6, q6⟩ := hsp
        obtain ⟨p1, p2, _⟩ := S6.pin (a, oe4) (List.mem_append_left _ List.mem_cons_self)
        exact gone (inv_hold (S6.unsuite ok) p1 hz4 ⟨_, hd4⟩ p2 n0 nL npin) fun s7 J7 => ⟨_, _, J7, q6 p2⟩
      | brk =>
        obtain ⟨τ, G, S6, q6⟩ := hsp
        exact gone (S6.unsuite ok) fun s7 J7 => ⟨_, _, J7, q6⟩
      | cont =>
        obtain ⟨τ, G, S6, q6⟩ := hsp
        exact gone (S6.unsuite ok) fun s7 J7 => ⟨_, _, J7, q6⟩
      | ret u =>
        obtain ⟨v, τ, G, S6, r6, q6⟩ := hsp
        exact gone (S6.unsuite ok) fun s7 J7 => ⟨_, _, _, J7, r6, q6⟩
  refine wpAny_Try_except (wpAny_mono ((hb _ (X.pn ++ pins) land caught).run [] s σ H D (I.toTry _) h) (fun f s1 hsp => ?_) (fun e s1 he => he))
  cases f with
  | next =>
    obtain ⟨τ, G, J, q⟩ := hsp
    exact wpAny_execs_nil ⟨τ, G, J.ofTry ok, q⟩
  | brk =>
    obtain ⟨τ, G, J, q⟩ := hsp
    exact ⟨τ, G, J.ofTry ok, q⟩
  | cont =>
    obtain ⟨τ, G, J, q⟩ := hsp
    exact ⟨τ, G, J.ofTry ok, q⟩
  | ret u =>
    obtain ⟨v, τ, G, J, r, q⟩ := hsp
    exact ⟨v, τ, G, J.ofTry ok, r, q⟩
end
/-- what the class of such an error says -/
structure HeldC (K : PySem.W.Frag) (C : Addr) : Prop where
  cl : (PySem.W.clsIn K C).isSome = true
  ga : PySem.W.findIn K (.ref C) "__getattribute__" = some (some (.builtin "BaseException.__getattribute__"))
  gg : PySem.W.findIn K (.ref C) "__getattr__" = some none
  ex : PySem.W.subIn K (.ref C) (.type "BaseException") = some true
  hd : PySem.W.hasDictIn K C = true
  ca : PySem.W.findIn K (.ref C) "__class__" = some (some (.builtin "object.__class__"))
  sp : PySem.W.specialIn K (.builtin "object.__class__") "__get__" = some (some (.builtin "getset_descriptor.__get__"))
  tk : PySem.W.takesIn K (.builtin "object.__class__") = some true
  mo : PySem.W.mroIn K C (.type "object") = some true
section
variable {X : Cx}
theorem held_at {pins : List (Addr × Obj)} {σ : L2.St} {H : Hp} {s : Shared} {a : Addr} {cls : Value} {d : Option Addr} (I : Inv X pins σ H s) (e : H a = some (Held cls d a)) :
    ∃ oe : Obj, s.heap.get? a = some oe ∧ Zc cls d oe ∧ ∃ vs : Array Value, oe.data = .fields vs := by
  have x : ObjOk X.prog X.w H s.heap a (.ext fun h => ∃ oe : Obj, h.get? a = some oe ∧ Zc cls d oe ∧ ∃ vs : Array Value, oe.data = .fields vs) := I.hok a _ e
  exact x.1
theorem held_inst {pins : List (Addr × Obj)} {σ : L2.St} {H : Hp} {s : Shared} {a C dd : Addr} {fs : List (Str × V)} (I : Inv X pins σ H s) (e : H a = some (Held (.ref C) (some dd) a)) (ed : H dd = some (.xd fs)) :
    ∃ (oe od : Obj) (mA : Str → Option Value), PySem.W.InstAt s.heap a oe C (some od) ∧ (∀ f, RelO (fs.lookup f) (mA f)) ∧ ∀ n, PySem.W.lookIn n od = some (mA n) := by
  obtain ⟨oe, he, hz, vs, hd⟩ := held_at I e
  obtain ⟨mA, hns, hr⟩ := (show ObjOk X.prog X.w H s.heap dd (.xd fs) from I.hok dd _ ed)
  obtain ⟨od, ho, hl⟩ := lookIn_ns hns
  exact ⟨oe, od, mA, ⟨he, hz.1, by unfold PySem.W.notCls; rw [hd] <;> rfl, by rw [hz.2]; exact ho⟩, hr, hl⟩
/-- isinstance(e, c), e such an error -/
def rIsHeld (K : PySem.W.Frag) : List V → Hp → VK → Prop := fun xs H Q => ∃ (a C dd : Addr) (fs : List (Str × V)) (c : V) (u : Value) (b : Bool),
  xs = [.ref a, c] ∧ H a = some (Held (.ref C) (some dd) a) ∧ H dd = some (.xd fs) ∧ HeldC K C ∧ ClsV c u ∧ PySem.W.kitOne K (.ref C) u = some b ∧ Q (.bl b) H
theorem call_isHeld : CallR X (.builtin "isinstance") (rIsHeld X.K) := by
  intro pins s σ H xs us Q I r h
  obtain ⟨a, C, dd, fs, c, u, b, rfl, ea, ed, T, k, e, q⟩ := h
  obtain ⟨u1, u2, rfl, r1, r2⟩ := vals2 r
  have e2 := k.eq r2
  subst e2
  cases r1
  obtain ⟨oe, od, mA, J, _, _⟩ := held_inst I ea ed
  exact PySem.W.kia_one (PySem.W.kitx_exc T.cl T.ga T.gg T.ex T.ca T.sp T.tk T.mo) I.kIn J e (fun z => nomatch z) fun tk => ⟨.bl b, H, I.tok tk, rfl, q⟩
/-- e.n, e such an error -/
def tHeldFld (K : PySem.W.Frag) (n : Str) (te : TE) : TE := fun σ H Q => te σ H fun x H1 => ∃ (a C dd : Addr) (fs : List (Str × V)) (v : V),
  x = .ref a ∧ H1 a = some (Held (.ref C) (some dd) a) ∧ H1 dd = some (.xd fs) ∧ HeldC K C ∧ PySem.W.findIn K (.ref C) n = some none ∧ fs.lookup n = some v ∧ Q v H1
theorem pe_heldFld {e : Expr} {te : TE} {pos : Pos} {n : Str} (he : PE X e te) (hb : attributeBase e n X.env (eval e X.env) = eval e X.env := by rfl) : PE X (.Attribute e n pos) (tHeldFld X.K n te) := by
  constructor
  intro pins s σ H Q I h
  refine attr_of hb (thn (he.run pins s σ H _ I h) fun u s1 hh => ?_)
  obtain ⟨x, H1, I1, rx, a, C, dd, fs, v, rfl, ea, ed, T, hno, l, q⟩ := hh
  obtain rfl : u = Value.ref a := rx
  obtain ⟨oe, od, mA, J, hr, hl⟩ := held_inst I1 ea ed
  obtain ⟨u, hu, ru⟩ := RelO.some_of (v := v) (o := mA n) (by rw [← l]; exact hr n)
  exact HandSPX.exc_get I1.kIn J T.ga T.gg T.ex (PySem.W.findObj_own T.hd hno rfl (by rw [hl, hu])) (handed_of ru) ⟨v, H1, I1.tok _, ru, q⟩
end
end Ev
namespace Ev
open PySem L2 PySem.Spec PyProof.Rows LamX
/-! The law's own call, where the law makes lambdas: the table of its code object is told of. -/
section
variable {P : Program} {w : World} {K : PySem.W.Frag} {mg mb : Str → Option Value}
theorem law_callT {k : Nat} {fa a c T : Addr} {fd : FuncData} {x : Str} {sp : Sp} {s : Shared} {vs : List Value} {ns : List Int}
    (inK : K.In s.heap) (ns1 : s.heap.Ns mainGlobals mg) (ns2 : s.heap.Ns builtinsNs mb) (blt : ∀ x : Str, x ≠ "__name__" → mb x = bootBuiltins x)
    (noLim : s.heap.NoLimit) (hg : s.gens = #[]) (hT : s.heap.get? T = some { cls := .none, data := .fields #[] }) (nT : K.lookup T = none) (hc : PySem.W.CodeHd s.heap c T)
    (hbm : ∃ (bm : Addr) (ob : Obj), mg "__builtins__" = some (.ref bm) ∧ bm ≠ builtinsNs ∧ s.heap.get? bm = some ob ∧ ob.cls = .type "module" ∧ ob.dict = some builtinsNs ∧ ob.data = .plain)
    (ha : s.heap.get? a = some { cls := .type "list", data := .seq vs.toArray }) (hi : IntsAre vs ns) (hl : ns.length ≤ sizeLine) (hr : Room k callerA)
    (F : ∀ base : Heap, K.In base → base.Ns mainGlobals mg → TabB base mg c T → FnG P w K mg base k fa fd [x] sp)
    (bt : ∀ (s : Shared) (u : Value), BindsTo s fd ⟨[u], []⟩ [(x, u)])
    (hsp : ∀ H : Hp, H T = some (.tbl #[]) → SqL K H a (ns.map V.int) → sp [.ref a] H (fun v _ => v = .bl true) fun _ _ _ => False) :
    codeAny (model P w) callerA (.call (.ref fa) ⟨[.ref a], []⟩)
      (fun r s' => r = .ok (.ret (.bool true)) ∧ OldK s.heap s'.heap ∧ s'.os = s.os ∧ AllBare s'.gens) s := by
  have rv := vals_ints hi
  have lv := hi.length
  have aT : a ≠ T := fun z => by
    rw [z, hT] at ha
    cases ha
  have key : ∀ H : Hp, H T = some (.tbl #[]) → (∀ b u, H b = some u → b ≠ T → b = a ∧ K.lookup a = none ∧ u = .frz { cls := .type "list", data := .seq vs.toArray } (.lst (ns.map V.int))) →
      SqL K H a (ns.map V.int) → codeAny (model P w) callerA (.call (.ref fa) ⟨[.ref a], []⟩)
        (fun r s' => r = .ok (.ret (.bool true)) ∧ OldK s.heap s'.heap ∧ s'.os = s.os ∧ AllBare s'.gens) s := by
    intro H eT only sq
    have ok : HOk P w H s.heap := by
      intro b u e
      by_cases zb : b = T
      · subst zb
        rw [eT] at e
        cases e
        exact hT
      · obtain ⟨rfl, _, rfl⟩ := only b u e zb
        exact ⟨ha, by rw [List.length_map]; exact hl, vs, _, rv, ha⟩
    have plain : ∀ {b : Addr} {o : Obj}, s.heap.get? b = some o → (∀ vs n, o.data ≠ .seq vs n) → o.data ≠ .fields #[] → H b = none := by
      intro b o e d1 d2
      cases q : H b with
      | none => rfl
      | some u =>
        by_cases zb : b = T
        · subst zb
          rw [hT] at e
          cases e
          exact absurd rfl d2
        · obtain ⟨rfl, _, _⟩ := only b u q zb
          rw [ha] at e
          cases e
          exact absurd rfl (d1 _ _)
    have names : ∀ {b : Addr} {m : Str → Option Value}, s.heap.Ns b m → (hidT s.heap H).Ns b m := by
      rintro b m ⟨o, es, n, e, d, r⟩
      exact ⟨o, es, n, hidT_get e (plain e (fun _ _ z => by rw [d] at z; cases z) fun z => by rw [d] at z; cases z), d, r⟩
    have inB : K.In (hidT s.heap H) := by
      intro b o e
      refine hidT_get (inK b o e) ?_
      cases q : H b with
      | none => rfl
      | some u =>
        by_cases zb : b = T
        · rw [zb, nT] at e
          cases e
        · obtain ⟨rfl, n, _⟩ := only b u q zb
          rw [n] at e
          cases e
    have tb : TabB (hidT s.heap H) mg c T := by
      obtain ⟨bm, ob, b1, b2, b3, b4, b5, b6⟩ := hbm
      refine ⟨?_, ⟨bm, ob, b1, b2, fun q => ?_, fun q => ?_, hidT_get b3 (plain b3 (fun _ _ z => by rw [b6] at z; cases z) fun z => by rw [b6] at z; cases z), b4, b5, b6⟩, fun z => ?_⟩
      · obtain ⟨o, us, file, tf, flags, tg, inF, text, tt, e1, r1, r2, r3, rest⟩ := hc
        refine ⟨o, us, file, tf, flags, tg, inF, text, tt, hidT_get e1 (plain e1 (fun _ _ z => by rw [r2] at z; cases z) fun z => ?_), r1, r2, r3, rest⟩
        rw [r2] at z
        cases z
        simp at r3
      · obtain ⟨o, es, n, e, d, _⟩ := ns1
        rw [q, e] at b3
        cases b3
        rw [d] at b6
        cases b6
      · rw [q, hT] at b3
        cases b3
        cases b6
      · obtain ⟨o, es, n, e, d, _⟩ := ns1
        rw [z, hT] at e
        cases e
        cases d
    obtain ⟨mc, l1, l2⟩ := noLim
    have md : Mod K mg (hidT s.heap H) := ⟨inB, names ns1, ⟨mb, names ns2, blt⟩, ⟨mc, names l1, l2⟩⟩
    have env : Env0 P w K mg (hidT s.heap H) callerA [] s H :=
      ⟨rfl, md, fun b o e => of_hidT e, Nat.le_of_eq (hidT_size _ _), trivial, (fun b hb => by cases hb), ok, .of_eq hg⟩
    have go := (F _ inB (names ns1) tb).goes callerA [] s H ⟨[.ref a], []⟩ [.ref a] [.ref a] _ _ hr rfl env (bt s (.ref a)) (.cons rfl .nil) (hsp H eT sq)
    refine codeAny_mono go fun r s2 h2 => ?_
    cases r with
    | error e => exact False.elim h2
    | ok fl =>
      cases fl with
      | next => exact False.elim h2
      | brk => exact False.elim h2
      | cont => exact False.elim h2
      | ret u =>
        obtain ⟨v, H2, os, bare, un, ok2, rr, q⟩ := h2
        obtain rfl : v = V.bl true := q
        obtain rfl : u = Value.bool true := rr
        have others : ∀ b o, b ≠ T → s.heap.get? b = some o → s2.heap.get? b = some o := by
          intro b o nb e
          cases q : H b with
          | none => exact un.keep b o e q (by intro z; cases z) (by simp)
          | some u =>
            obtain ⟨rfl, _, rfl⟩ := only b u q nb
            obtain ⟨e1, _⟩ := ok b _ q
            obtain ⟨e2, _⟩ := ok2 b _ (un.frzs b _ _ q)
            rw [e] at e1
            cases e1
            exact e2
        obtain ⟨more, eM⟩ := un.tbls T #[] eT
        have grown : s2.heap.get? T = some { cls := .none, data := .fields (#[] ++ more) } := ok2 T _ eM
        refine ⟨rfl, ⟨fun b o e => ?_, fun b o e => ?_⟩, os, bare⟩
        · by_cases nb : b = T
          · subst nb
            rw [hT] at e
            cases e
            exact .inr (.inl ⟨(hc.tab hT).isCodeTable, rfl, #[], more, rfl, grown⟩)
          · exact .inl (others b o nb e)
        · by_cases nb : b = T
          · subst nb
            exact ⟨_, grown⟩
          · exact ⟨o, others b o nb e⟩
  cases hk : K.lookup a with
  | none =>
    refine key (fun b => if b = T then some (.tbl #[]) else if b = a then some (.frz { cls := .type "list", data := .seq vs.toArray } (.lst (ns.map V.int))) else none) (if_pos rfl) (fun b u e nb => ?_)
      (.inl (.inr ⟨_, (if_neg aT).trans (if_pos rfl)⟩))
    rw [if_neg nb] at e
    by_cases z : b = a
    · rw [if_pos z] at e
      cases e
      exact ⟨z, hk, rfl⟩
    · rw [if_neg z] at e
      cases e
  | some o =>
    have e := inK a o hk
    rw [ha] at e
    cases e
    refine key (fun b => if b = T then some (.tbl #[]) else none) (if_pos rfl) (fun b u e nb => by rw [if_neg nb] at e; cases e) (.inr ⟨_, vs.toArray, _, hk, rfl, rfl, rfl, ?_, by simpa using rv⟩)
    rw [List.size_toArray, lv]
    exact hl
end
/-- the law's call, the table of another def's code object told -/
theorem walk_ofGT {l : PySem.W.OpenLaw} {n k : Nat} {q : Program} {loose : List Str} {XP : (Str → Option Value) → Heap → Prop} {YP : World → Heap → Prop}
    {d : DefRec} {x xr : Str} (hn : l.most = some n) (hn2 : n ≤ sizeLine) (hdf : d.params.defaults = []) (hr : Room k callerA) (hrec : ((recsOf q).any fun e => e.name == xr) = true)
    (F : ∀ (w : World) (mg : Str → Option Value) (fa : Addr) (h : Heap), YP w h → h.Ns mainGlobals mg → mg d.name = some (.ref fa) →
      ∃ (K : PySem.W.Frag) (fd fdr : FuncData) (sp : Sp) (fr c T : Addr) (o : Obj), K.In h ∧ (∀ (s : Shared) (u : Value), BindsTo s fd ⟨[u], []⟩ [(x, u)]) ∧
        mg xr = some (.ref fr) ∧ K.lookup fr = some o ∧ o.data = .func fdr ∧ fdr.code = .ref c ∧ PySem.W.codeHdIn K c T = true ∧ K.lookup T = none ∧
        (∀ (H : Hp) (a : Addr) (ns : List Int), ns.length ≤ n → H T = some (.tbl #[]) → SqL K H a (ns.map V.int) → sp [.ref a] H (fun v _ => v = .bl true) fun _ _ _ => False) ∧
        ∀ base : Heap, K.In base → base.Ns mainGlobals mg → TabB base mg c T → FnG l.prog w K mg base k fa fd [x] sp) :
    PySem.W.WalkO q loose XP YP l.row.toRowW d [] (fun f vs => PySem.call f vs) := by
  refine Att.attach_callB hn hdf fun w s0 s1 mg mb fa o pm cd doc a vs ns G Y h1 h2 h3 h4 h5 h6 h7 hbits h8 => ?_
  obtain ⟨K, fd, fdr, sp, fr, c, T, o1, inK, bt, k0, k1, k2, k3, kc, kT, hsp, hF⟩ := F w mg fa _ Y G.T.g h4
  have hc := PySem.W.codeHd_of_K inK kc
  have hT : s1.heap.get? T = some { cls := .none, data := .fields #[] } := by
    obtain ⟨dL, hm, e1⟩ := List.any_eq_true.mp hrec
    obtain ⟨a2, o2, fd2, c2, P2, g1, g2, g3, g4, g5, g6⟩ := G.T.tab dL hm
    rw [beq_iff_eq.mp e1, k0] at g1
    cases g1
    rw [inK _ _ k1] at g2
    cases g2
    rw [k2] at g3
    cases g3
    rw [k3] at g4
    cases g4
    obtain ⟨⟨oc, vc, e1, _, e3, e4⟩, hP⟩ := g6
    obtain ⟨oc', vs', file, tf, flags, tg, inF, text, tt, f1, f2, f3, f4, _⟩ := id hc
    rw [f1] at e1
    cases e1
    rw [f3] at e3
    cases e3
    rw [f4] at e4
    cases e4
    exact hP
  exact law_callT inK G.T.g G.T.b G.T.builtins G.T.nolimit h8 hT kT hc G.T.bmain h5 h6 (Nat.le_trans h7 hn2) hr hF bt (fun H eT sq => hsp H a ns h7 eT sq)
end Ev
namespace Ev
open PySem L2 PySem.Spec PyProof.Rows
/-! == and != by an own __eq__, both answers, beside values of other types. -/
section
variable {prog : Program} {w : World} {A : Around} {E : Value → Shared → Prop} {s : Shared} {K : PySem.W.Frag} {x C f : Addr} {ox : Obj} {od : Option Obj} {y : Value}
theorem neEntry {Q : Fin → Shared → Prop} (room : A.units < cLine) (X : K.In s.heap) (I : PySem.W.InstAt s.heap x ox C od) (he : PySem.W.findIn K (.ref C) "__eq__" = some (some (.ref f))) (hf : PySem.W.isFn K (.ref f) = true)
    (h : wpAny (model prog w) A (call (.ref f) [.ref x, y]) (fun v s' => ∃ b, v = .bool b ∧ Q (.done (.ret (.bool (!b)))) s') E s) : wpAny (model prog w) A (Builtin.«object.__ne__» ⟨[.ref x, y], []⟩) Q E s := by
  have asked : wpAny (model prog w) A (callSpecialIfBound? (.ref x) (Str.ofString "__eq__") [y]) (fun r s' => ∃ b, r = some (.bool b) ∧ Q (.done (.ret (.bool (!b)))) s') E s := by
    refine PySem.W.ifBound_K X I he hf (wpAny_mono h (fun v s' hv => ?_) fun _ _ z => z)
    obtain ⟨b, rfl, q⟩ := hv
    exact ⟨b, rfl, q⟩
  unfold Builtin.«object.__ne__»
  repeat (first
    | (with_reducible refine wpAny_cRoomFor room ?_)
    | (refine wpAny_bind (m := callSpecialIfBound? (.ref x) (Str.ofString "__eq__") [y]) (wpAny_mono asked (fun r s' hr => ?_) fun _ _ z => z)
       obtain ⟨b, rfl, q⟩ := hr)
    | exact q
    | (exact wpAny_truthy_bool q)
    | wp_step)
theorem neCall {Q : Value → Shared → Prop} (room : A.in1.units < cLine) (X : K.In s.heap) (I : PySem.W.InstAt s.heap x ox C od) (hm : PySem.W.mroIn K C (.type "object") = some true) (he : PySem.W.findIn K (.ref C) "__eq__" = some (some (.ref f))) (hf : PySem.W.isFn K (.ref f) = true)
    (h : wpAny (model prog w) A.in1 (call (.ref f) [.ref x, y]) (fun v s' => ∃ b, v = .bool b ∧ Q (.bool (!b)) s') E s) : wpAny (model prog w) A (call (.builtin "object.__ne__") [.ref x, y]) Q E s :=
  wpAny_call (codeAny_call_builtin F.cmp_object.ne.plain F.cmpEntry_ne (PySem.W.check_slot F.cmpKind_ne F.cmpSplit_ne (I.type.andThen (PySem.W.looks_mroIn X hm)) (F.cmpArgs_ne _ _)
    (neEntry room X I he hf h)))
theorem neBound {Q : Option Value → Shared → Prop} {M : Model} (X : K.In s.heap) (I : PySem.W.InstAt s.heap x ox C od) (hn : PySem.W.findIn K (.ref C) "__ne__" = some (some (.builtin "object.__ne__")))
    (h : wpAny M A (call (.builtin "object.__ne__") [.ref x, y]) (fun v => Q (some v)) E s) : wpAny M A (callSpecialIfBound? (.ref x) "__ne__" [y]) Q E s := by
  have last : wpAny M A (call (.builtin "object.__ne__") ([.ref x] ++ [y]) >>= fun v => pure (some v)) Q E s := by
    refine wpAny_bind (wpAny_mono h (fun v s' z => ?_) fun _ _ z => z)
    exact wpAny_pure z
  simp only [callSpecialIfBound?, bindSpecialIfBound?]
  refine wpAny_holding (wpAny_bind (wpAny_bind (wpAny_bind (I.type.here ?_))))
  refine (PySem.W.looks_findIn X hn).here (wpAny_bind (wpAny_askSetting (wpAny_ite ?_)))
  have bd := F.cmp_object.ne.bind (.ref x)
  split
  · refine wpAny_bind (wpAny_of_eq bd ?_)
    exact wpAny_pure (by exact last)
  · refine wpAny_tryCatch (wpAny_bind (wpAny_of_eq bd ?_))
    exact wpAny_pure (by exact last)
theorem neRich {Q : Value → Shared → Prop} {tb : Value} (room : A.units + 1 < cLine) (X : K.In s.heap) (I : PySem.W.InstAt s.heap x ox C od) (hb : PySem.W.Looks (model prog w) s.heap (typeOf y) tb) (nf : PySem.W.notFirst K C tb = true)
    (hm : PySem.W.mroIn K C (.type "object") = some true) (hn : PySem.W.findIn K (.ref C) "__ne__" = some (some (.builtin "object.__ne__"))) (he : PySem.W.findIn K (.ref C) "__eq__" = some (some (.ref f))) (hf : PySem.W.isFn K (.ref f) = true)
    (h : wpAny (model prog w) A.in1 (call (.ref f) [.ref x, y]) (fun v s' => ∃ b, v = .bool b ∧ Q (.bool (!b)) s') E s) : wpAny (model prog w) A (richCompare .NotEq (.ref x) y) Q E s := by
  have one : wpAny (model prog w) A (tryCompare (.ref x) "__ne__" y) (fun r s' => ∃ b, r = some (.bool b) ∧ Q (.bool b) s') E s := by
    unfold tryCompare
    refine wpAny_bind (neBound X I hn (neCall (show A.in1.units < cLine from room) X I hm he hf (wpAny_mono h (fun v s' z => ?_) fun _ _ z => z)))
    obtain ⟨b, rfl, q⟩ := z
    exact ⟨b, rfl, wpAny_pure ⟨_, rfl, q⟩⟩
  unfold richCompare
  simp only [oneThing_ref]
  rw [cmpInfo_NotEq]
  refine wpAny_holding (wpAny_bind (wpAny_cRoomFor (Nat.lt_of_succ_lt room) ?_))
  refine wpAny_bind (I.type.here ?_)
  refine wpAny_bind (hb.here ?_)
  split
  · rename_i q
    have sub : PySem.W.subIn K tb (.ref C) = some false := by
      rcases Bool.or_eq_true_iff.mp nf with z | z
      · rw [beq_iff_eq.mp z] at q
        simp at q
      · exact beq_iff_eq.mp z
    refine wpAny_bind ((PySem.W.looks_subIn X sub).here ?_)
    simp only [Bool.false_eq_true, if_false]
    refine wpAny_bind (wpAny_mono one (fun r s' z => ?_) fun _ _ z => z)
    obtain ⟨b, rfl, q2⟩ := z
    exact wpAny_pure q2
  · refine wpAny_bind (wpAny_pure ?_)
    simp only [Bool.false_eq_true, if_false]
    refine wpAny_bind (wpAny_mono one (fun r s' z => ?_) fun _ _ z => z)
    obtain ⟨b, rfl, q2⟩ := z
    exact wpAny_pure q2
end
/-- which types come behind an own class -/
theorem nf_own {K : PySem.W.Frag} {C : Addr} : PySem.W.notFirst K C (.ref C) = true := by
  unfold PySem.W.notFirst
  simp
theorem nf_sub {K : PySem.W.Frag} {C : Addr} {t : Value} (h : PySem.W.subIn K t (.ref C) = some false) : PySem.W.notFirst K C t = true := by
  unfold PySem.W.notFirst
  rw [h]
  simp
theorem nf_ty {K : PySem.W.Frag} {C : Addr} {T : String} {l : List String} (h : fastBuiltinMro T = some (l.map Value.type)) : PySem.W.notFirst K C (.type T) = true := by
  refine nf_sub ?_
  show (fastBuiltinMro T).map (·.contains (.ref C)) = some false
  rw [h]
  have z : (l.map Value.type).contains (.ref C) = false := by
    rw [Bool.eq_false_iff]
    intro z
    have m := List.contains_iff_mem.mp z
    simp at m
  exact congrArg some z
section
variable {X : Cx} {CX : CXT} {C g : Addr} {n : Nat} {sp : Sp} {E : XK}
/-- what an own == promises for such values: a truth -/
def rOwnB (K : PySem.W.Frag) (C : Addr) (sp : Sp) (E : XK) (neg : Bool) : R2 := fun x y H Q => ∃ (a dx : Addr) (fs : List (Str × V)) (t : Value), x = .ref a ∧ H a = some (.ins C dx fs) ∧ TyX K H y t ∧ PySem.W.notFirst K C t = true ∧ sp [x, y] H (fun z H' => ∃ b, z = .bl b ∧ Q (.bl (neg ^^ b)) H') E
theorem op_eqO (he : PySem.W.findIn X.K (.ref C) "__eq__" = some (some (.ref g))) (hf : PySem.W.isFn X.K (.ref g) = true) (F : FnR X.prog X.w X.K X.mg X.base CX n g sp) (hr : Room n X.A) (hx : Passes CX X E) : OpR X (compareOp .Eq) (rOwnB X.K C sp E false) := by
  intro pins s σ H x y v u Q I rx ry h
  obtain ⟨a, dx, fs, t, rfl, ha, ty, nf, q⟩ := h
  cases (show v = Value.ref a from rx)
  obtain ⟨mA, J, _⟩ := ins_get I.hok ha
  obtain ⟨od, J, _⟩ := J.look
  obtain ⟨m, hF⟩ := I.fr
  obtain ⟨P, Z, hP, _⟩ := kit_of I ry ty
  show wpAny _ _ (richCompare .Eq (.ref a) u) _ _ s
  refine PySem.W.cmp_K (op := .Eq) hr.units0 hF I.ok.mod.kin J (Z.ty _ _ I.kIn hP) nf he hf ?_
  refine wpAny_mono (wpAny_call (SlX.run_at (us := [.ref a, u]) (ws := [.ref a, y]) F hr I.env0 hx I (.cons rfl (.cons ry .nil)) q)) (fun w' s' z => ?_) fun _ _ z => z
  obtain ⟨z', H', I', rz, b, rfl, q'⟩ := z
  cases (show w' = Value.bool b from rz)
  have q' : Q (.bl b) H' := by simpa using q'
  exact ⟨.bl b, H', I', rfl, q'⟩
theorem op_neO (he : PySem.W.findIn X.K (.ref C) "__eq__" = some (some (.ref g))) (hn : PySem.W.findIn X.K (.ref C) "__ne__" = some (some (.builtin "object.__ne__"))) (hm : PySem.W.mroIn X.K C (.type "object") = some true) (hf : PySem.W.isFn X.K (.ref g) = true)
    (F : FnR X.prog X.w X.K X.mg X.base CX n g sp) (hr : Room (n + 1) X.A) (hx : Passes CX X E) : OpR X (compareOp .NotEq) (rOwnB X.K C sp E true) := by
  intro pins s σ H x y v u Q I rx ry h
  obtain ⟨a, dx, fs, t, rfl, ha, ty, nf, q⟩ := h
  cases (show v = Value.ref a from rx)
  obtain ⟨mA, J, _⟩ := ins_get I.hok ha
  obtain ⟨od, J, _⟩ := J.look
  obtain ⟨P, Z, hP, _⟩ := kit_of I ry ty
  have hr1 : Room n X.A.in1 := hr.in1
  show wpAny _ _ (richCompare .NotEq (.ref a) u) _ _ s
  refine neRich (by have := hr1.units0; exact this) I.kIn J (Z.ty _ _ I.kIn hP) nf hm hn he hf ?_
  refine wpAny_mono (wpAny_call (SlX.run_at (us := [.ref a, u]) (ws := [.ref a, y]) F hr1 I.env0.in1 hx I (.cons rfl (.cons ry .nil)) q)) (fun w' s' z => ?_) fun _ _ z => z
  obtain ⟨z', H', I', rz, b, rfl, q'⟩ := z
  cases (show w' = Value.bool b from rz)
  have q' : Q (.bl (!b)) H' := by simpa using q'
  exact ⟨b, rfl, .bl (!b), H', I', rfl, q'⟩
end
end Ev
namespace Ev
open PySem L2 PySem.Spec PyProof.Rows
/-! Words that write integers: texts by their codes. -/
abbrev Sx (l : List Nat) : Str := SX.S l
def tx (i : Int) : Str := Str.ofString (toString i)
/-- a digit -/
def dig (c : Nat) : Bool := decide (48 ≤ c) && decide (c ≤ 57)
/-- the codes behind a sign -/
def dg (l : List Nat) : List Nat := if l.head? = some 45 then l.tail else l
def allD (l : List Nat) : Bool := !l.isEmpty && l.all dig
/-- the words that str writes of an integer -/
def can (l : List Nat) : Bool := allD (dg l) && !(decide ((dg l).head? = some 48) && decide (l ≠ [48]))
def val (l : List Nat) : Int := if l.head? = some 45 then -((NumText.digitsVal (dg l) : Nat) : Int) else ((NumText.digitsVal (dg l) : Nat) : Int)
theorem allD_iff {l : List Nat} : allD l = true ↔ l ≠ [] ∧ NumText.AllDigits l := by
  unfold allD NumText.AllDigits dig
  cases l with
  | nil => simp
  | cons a r => simp
theorem ascii_S (l : List Nat) : Txt.isascii (Sx l) = l.all (fun c => decide (c < 128)) := by
  unfold Txt.isascii
  simp [Sx, SX.S]
theorem isdigit_S (l : List Nat) : Txt.isdigit (Sx l) = (!l.isEmpty && l.all Unicode.isDigit) := by
  unfold Txt.isdigit
  cases l with
  | nil => simp [Sx, SX.S, Str.length]
  | cons a r => simp [Sx, SX.S, Str.length]
theorem uni_dig {c : Nat} (h : c < 128) : Unicode.isDigit c = dig c := by
  have : ∀ c : Fin 128, Unicode.isDigit c = dig c := by decide +kernel
  exact this ⟨c, h⟩
theorem dig_lt {c : Nat} (h : dig c = true) : c < 128 := by
  unfold dig at h
  simp at h
  omega
theorem digits_S (l : List Nat) : (Txt.isascii (Sx l) && Txt.isdigit (Sx l)) = allD l := by
  rw [ascii_S, isdigit_S]
  unfold allD
  cases h : l.all dig with
  | true =>
    have h' := List.all_eq_true.mp h
    have a : l.all (fun c => decide (c < 128)) = true := List.all_eq_true.mpr fun c hc => decide_eq_true (dig_lt (h' c hc))
    have b : l.all Unicode.isDigit = true := List.all_eq_true.mpr fun c hc => by rw [uni_dig (dig_lt (h' c hc))]; exact h' c hc
    rw [a, b]
    simp
  | false =>
    cases a : l.all (fun c => decide (c < 128)) with
    | false => simp
    | true =>
      have a' := List.all_eq_true.mp a
      have b : l.all Unicode.isDigit = false := by
        cases z : l.all Unicode.isDigit with
        | false => rfl
        | true =>
          have z' := List.all_eq_true.mp z
          rw [List.all_eq_true.mpr fun c hc => by rw [← uni_dig (of_decide_eq_true (a' c hc))]; exact z' c hc] at h
          cases h
      rw [b]
      simp
theorem starts_S (l : List Nat) (c : Nat) : Txt.startswith (Sx l) (Sx [c]) = decide (l.head? = some c) := by
  unfold Txt.startswith
  rw [StrLaws.subAt_eq]
  cases l with
  | nil => simp [Sx, SX.S, Str.length]
  | cons a r =>
    by_cases h : a = c
    · simp [Sx, SX.S, Str.length, h]
    · simp [Sx, SX.S, Str.length, h]
theorem rev_ind {P : List Nat → Prop} (h0 : P []) (h1 : ∀ d c, P d → P (d ++ [c])) (d : List Nat) : P d := by
  have key : ∀ l : List Nat, P l.reverse := by
    intro l
    induction l with
    | nil => exact h0
    | cons a r ih => rw [List.reverse_cons]; exact h1 _ _ ih
  have := key d.reverse
  rwa [List.reverse_reverse] at this
theorem numL_head : ∀ n : Nat, (TL.numL n).head? = some 48 → n = 0 := by
  intro n
  induction n using Nat.strongRecOn with
  | _ n ih =>
    intro h
    by_cases z : n < 10
    · rw [TL.numL_lt z] at h
      have : 48 + n = 48 := Option.some.inj h
      omega
    · rw [TL.numL_step (by omega)] at h
      have ne := TL.numL_ne (n / 10)
      have h2 : (TL.numL (n / 10)).head? = some 48 := by
        cases e : TL.numL (n / 10) with
        | nil => exact absurd e ne
        | cons a r => rw [e] at h; exact h
      have := ih (n / 10) (by omega) h2
      omega
/-- a row of digits without a nought ahead is what str writes -/
theorem val_snoc (d : List Nat) (c : Nat) : NumText.digitsVal (d ++ [c]) = NumText.digitsVal d * 10 + (c - 48) := by
  unfold NumText.digitsVal
  rw [List.foldl_append]
  rfl
theorem val_pos : ∀ d : List Nat, NumText.AllDigits d → d ≠ [] → d.head? ≠ some 48 → 1 ≤ NumText.digitsVal d := by
  intro d
  refine rev_ind (P := fun d => NumText.AllDigits d → d ≠ [] → d.head? ≠ some 48 → 1 ≤ NumText.digitsVal d) (fun _ h => absurd rfl h) (fun d c ih => ?_) d
  · intro ha _ hh
    rw [val_snoc]
    by_cases e : d = []
    · subst e
      have := ha c (by simp)
      have h2 : c ≠ 48 := fun z => hh (by rw [z]; rfl)
      simp [NumText.digitsVal]
      omega
    · have := ih (fun x hx => ha x (by simp [hx])) e (fun z => hh (by
        cases d with
        | nil => exact absurd rfl e
        | cons a r => exact z))
      omega
theorem numL_back : ∀ d : List Nat, NumText.AllDigits d → d ≠ [] → d.head? ≠ some 48 → TL.numL (NumText.digitsVal d) = d := by
  intro d
  refine rev_ind (P := fun d => NumText.AllDigits d → d ≠ [] → d.head? ≠ some 48 → TL.numL (NumText.digitsVal d) = d) (fun _ h => absurd rfl h) (fun d c ih => ?_) d
  · intro ha _ hh
    have hc := ha c (by simp)
    by_cases e : d = []
    · subst e
      rw [val_snoc]
      have : NumText.digitsVal [] * 10 + (c - 48) < 10 := by simp [NumText.digitsVal]; omega
      rw [TL.numL_lt this]
      simp [NumText.digitsVal]
      omega
    · have hd : d.head? ≠ some 48 := fun z => hh (by
        cases d with
        | nil => exact absurd rfl e
        | cons a r => exact z)
      have had : NumText.AllDigits d := fun x hx => ha x (by simp [hx])
      have p := val_pos d had e hd
      rw [val_snoc, TL.numL_step (by omega)]
      have e1 : (NumText.digitsVal d * 10 + (c - 48)) / 10 = NumText.digitsVal d := by omega
      have e2 : 48 + (NumText.digitsVal d * 10 + (c - 48)) % 10 = c := by omega
      rw [e1, e2, ih had e hd]
theorem ofS_cat (a b : String) : Str.ofString (a ++ b) = Str.ofString a ++ Str.ofString b := by
  rw [Str.ofString_eq_toList, Str.ofString_eq_toList, Str.ofString_eq_toList, String.toList_append, List.map_append]
  exact (SX.S_cat _ _).symm
/-- the codes of the text of an integer -/
def txc (i : Int) : List Nat := if i < 0 then 45 :: TL.numL i.natAbs else TL.numL i.natAbs
theorem numL_no45 (n : Nat) : (TL.numL n).head? ≠ some 45 := fun h => by
  have : 45 ∈ TL.numL n := List.mem_of_head? h
  have := TL.numL_digits n 45 this
  omega
theorem dg_nat (n : Nat) : dg (TL.numL n) = TL.numL n := by
  unfold dg
  rw [if_neg (numL_no45 n)]
theorem val_txc (i : Int) : val (txc i) = i := by
  unfold txc
  by_cases h : i < 0
  · rw [if_pos h]
    unfold val dg
    simp only [List.head?_cons, if_true, List.tail_cons]
    rw [TL.numL_val]
    omega
  · rw [if_neg h]
    unfold val
    rw [if_neg (numL_no45 _), dg_nat, TL.numL_val]
    omega
theorem allD_num (n : Nat) : allD (TL.numL n) = true := allD_iff.mpr ⟨TL.numL_ne n, TL.numL_digits n⟩
theorem can_txc (i : Int) : can (txc i) = true := by
  unfold txc
  by_cases h : i < 0
  · rw [if_pos h]
    unfold can
    have e : dg (45 :: TL.numL i.natAbs) = TL.numL i.natAbs := by unfold dg; simp
    rw [e, allD_num]
    have hh : (TL.numL i.natAbs).head? ≠ some 48 := fun z => by
      have := numL_head _ z
      omega
    simp [hh]
  · rw [if_neg h]
    unfold can
    rw [dg_nat, allD_num]
    by_cases hh : (TL.numL i.natAbs).head? = some 48
    · have := numL_head _ hh
      rw [this, TL.numL_lt (by decide)]
      simp
    · simp [hh]
theorem txc_val {l : List Nat} (h : can l = true) : txc (val l) = l := by
  unfold can at h
  rw [Bool.and_eq_true] at h
  obtain ⟨h1, h2⟩ := h
  obtain ⟨ne, ad⟩ := allD_iff.mp h1
  have h2 : ¬ ((dg l).head? = some 48 ∧ l ≠ [48]) := by
    intro z
    rw [decide_eq_true z.1, decide_eq_true z.2] at h2
    cases h2
  by_cases s : l.head? = some 45
  · have e : l = 45 :: dg l := by
      cases l with
      | nil => cases s
      | cons a r =>
        have : a = 45 := Option.some.inj s
        subst this
        unfold dg
        simp
    have hh : (dg l).head? ≠ some 48 := fun z => h2 ⟨z, fun q => by rw [q] at s; cases s⟩
    have p := val_pos _ ad ne hh
    have b := numL_back _ ad ne hh
    unfold val
    rw [if_pos s]
    unfold txc
    rw [if_pos (by omega), Int.natAbs_neg, Int.natAbs_natCast, b]
    exact e.symm
  · have e : dg l = l := by unfold dg; rw [if_neg s]
    unfold val
    rw [if_neg s]
    unfold txc
    rw [if_neg (by omega), Int.natAbs_natCast]
    rw [e] at ad ne h2 ⊢
    by_cases z : l = [48]
    · rw [z]; decide +kernel
    · exact numL_back _ ad ne fun q => h2 ⟨q, z⟩
/-- the law's own look: str of what int reads is the word -/
theorem can_iff {l : List Nat} (h : allD (dg l) = true) : (txc (val l) = l) ↔ can l = true :=
  ⟨fun e => by rw [← e]; exact can_txc _, txc_val⟩
theorem tx_S (i : Int) : tx i = Sx (txc i) := by
  unfold tx txc
  cases i with
  | ofNat n => 
    rw [if_neg (by show ¬ ((n : Int) < 0); omega)]
    exact SX.num_S n
  | negSucc m =>
    rw [if_pos (by omega)]
    have e : toString (Int.negSucc m) = "-" ++ toString ((m + 1 : Nat) : Int) := rfl
    rw [e]
    have e2 : Str.ofString ("-" ++ toString ((m + 1 : Nat) : Int)) = Str.ofString "-" ++ Str.ofString (toString ((m + 1 : Nat) : Int)) := by
      exact ofS_cat _ _
    rw [e2, SX.num_S]
    show SX.S [45] ++ SX.S _ = _
    rw [SX.S_cat]
    rfl
end Ev
namespace Ev
open PySem L2 PySem.Spec PyProof.Rows
abbrev sReadN : Stmt := top 19
def spReadN : Sp := fun vs H Q _ => ∃ l : List Nat, vs = [.str (Sx l)] ∧ l.length ≤ 3300 ∧ Q (if can l = true then .int (val l) else .non) H
theorem intText_S {d : List Nat} (h : allD d = true) (hl : d.length ≤ 600) : PySem.intText? (Sx d) = some ((NumText.digitsVal d : Nat) : Int) := by
  obtain ⟨ne, ad⟩ := allD_iff.mp h
  exact PySem.intText_digits (x := Sx d) ad ne (by show d.toArray.size ≤ 4300; simp; omega)
theorem dg_len (l : List Nat) : (dg l).length ≤ l.length := by
  unfold dg
  by_cases h : l.head? = some 45
  · rw [if_pos h, List.length_tail]; omega
  · rw [if_neg h]; exact Nat.le_refl _
theorem dig_slice (l : List Nat) (h : l.head? = some 45) : Txt.slice (Sx l) (some 1) none = Sx (dg l) := by
  have e := SX.slice_from (a := l) (i := 1) (by decide)
  have e2 : l.drop (Int.toNat 1) = dg l := by
    unfold dg
    rw [if_pos h]
    cases l <;> rfl
  rw [e2] at e
  exact e
theorem S_inj {a b : List Nat} (h : Sx a = Sx b) : a = b := by
  have := congrArg (fun z : Str => z.cps.toList) h
  simpa [Sx, SX.S] using this
theorem slice_mid {a : List Nat} {i j : Nat} (h : i ≤ j) (h2 : j ≤ a.length) : Txt.slice (Sx a) (some (i : Int)) (some (j : Int)) = Sx ((a.drop i).take (j - i)) := by
  have e := beq_iff_eq.mp (PyProof.Rows.slice_closesL (x := Sx a) (i := (i : Int)) (j := (j : Int)) (by omega) (by omega) (by rw [SX.S_len]; omega))
  refine e.trans (TL.ext_tl ?_)
  show (a.drop (i : Int).toNat).take ((j : Int) - (i : Int)).toNat = _
  rw [Int.toNat_natCast, show ((j : Int) - (i : Int)).toNat = j - i by omega]
theorem val_cat (a b : List Nat) : NumText.digitsVal (a ++ b) = NumText.digitsVal a * 10 ^ b.length + NumText.digitsVal b := by
  induction b using rev_ind with
  | h0 => simp [NumText.digitsVal]
  | h1 d c ih =>
    rw [← List.append_assoc, val_snoc, ih, val_snoc, List.length_append, List.length_singleton, Nat.pow_succ, Nat.add_mul, Nat.mul_assoc]
    omega
theorem val_lt (a : List Nat) (h : NumText.AllDigits a) : NumText.digitsVal a < 10 ^ a.length := by
  induction a using rev_ind with
  | h0 => simp [NumText.digitsVal]
  | h1 d c ih =>
    have hd : NumText.AllDigits d := fun x hx => h x (List.mem_append_left _ hx)
    have hc := h c (List.mem_append_right _ (List.mem_singleton.mpr rfl))
    have := ih hd
    rw [val_snoc, List.length_append, List.length_singleton, Nat.pow_succ]
    have h9 : c - 48 ≤ 9 := by omega
    omega
theorem rgF : ∀ (k : Fin 64) (b : Fin 53), Builtin.Range.small (k.val : Int) ((k.val + 64 * b.val : Nat) : Int) 64 = true := by decide +kernel
theorem rg64 {a b : Nat} (ha : a < 64) (hb : a + 64 * b ≤ 3300) : RgC (a : Int) ((a + 64 * b : Nat) : Int) 64 b := by
  refine ⟨by decide, by decide, rgF ⟨a, ha⟩ ⟨b, by omega⟩, ?_⟩
  unfold Builtin.Range.rangeSize
  rw [if_pos (by decide)]
  split <;> omega
theorem pow_small {n : Nat} (h : n ≤ 3300) : 10 ^ n < 2 ^ 20000 := by
  refine Nat.lt_of_le_of_lt (Nat.pow_le_pow_right (by decide) h) ?_
  decide +kernel
section
variable {P : Program} {w : World} {K : PySem.W.Frag} {mg : Str → Option Value} {base : Heap}
theorem scReadN : FnScope ["word", "digits", "first", "number", "start"] ["word"] (defScope sReadN) := ⟨rfl, rfl, rfl, by decide +kernel, rfl, by decide +kernel, by decide +kernel⟩
theorem ok_readN {f : Addr} {fd : FuncData} (F : Fun K "read_number" "read_number" sReadN f fd) (T : Blt mg) {t1 t2 : Tok} (gL : mg "PIECE_LENGTH" = some (.int 64 t1)) (gP : mg "PIECE" = some (.int (10 ^ 64) t2)) : FnOk P w K mg base CX0 1 f fd ["word"] spReadN := by
  refine F.ok scReadN (fun vs H Q E h => ?_) (fun cdv A outer s H vs Q E hr h => ?_)
  · obtain ⟨l, rfl, _⟩ := h
    rfl
  · obtain ⟨l, rfl, hl, k⟩ := h
    have st : ∀ (m : List Nat) (c : Nat), Txt.startswith (Sx m) (Sx [c]) = decide (m.head? = some c) := starts_S
    have sz : ∀ m : List Nat, m.length ≤ 3300 → (Sx m).length ≤ sizeLine := fun m hm => by
      show m.toArray.size ≤ _
      rw [sizeLine_eq]; simp; omega
    have dl := dg_len l
    have ln : ∀ m : List Nat, (Sx m).length = m.length := fun m => by show m.toArray.size = _; simp
    have dgA : allD (dg l) = true → NumText.AllDigits (dg l) := fun hd => (allD_iff.mp hd).2
    obtain ⟨tF, hF, qF⟩ : ∃ t : TS, PSs (cxOf CX0 P w K mg base ["word", "digits", "first", "number", "start"] "read_number" (defScope sReadN) f cdv A outer s H E).nox ((defBody sReadN).drop 5) t ∧ ∀ (D : Ends) (G : Hp) (a b : Nat), a < 64 → allD (dg l) = true → (dg l).length = a + 64 * b → D.rt (.int (val l)) G →
        t D [some (.str (Sx l)), some (.str (Sx (dg l))), some (.int (a : Int)), some (.int ((NumText.digitsVal ((dg l).take a) : Nat) : Int)), none] G := by
      refine ⟨_, (pss_cons (ps_for PassesOwn.never rfl (pi_range3 rfl T.range (pa_cons (pv 2) (pa_cons (pe_callB call_len_str (by rfl) T.len PySem.boot_len (pa_cons (pv 1) pa_nil)) (pa_cons (C8.pe_gc (v := .int 64) (by rfl) ⟨_, gL, ⟨_, rfl⟩⟩) pa_nil)))) (pg_name (i := 4) scReadN.nd rfl (.inl rfl))
          (pss_one (ps_set (i := 3) scReadN.nd rfl (.inl rfl) (pe_op op_add (pe_op op_mulW (pv 3) (C8.pe_gc (v := .int (10 ^ 64)) (by rfl) ⟨_, gP, ⟨_, rfl⟩⟩)) (pe_callTy call_int_str (by rfl) T.int (by decide +kernel) (pa_cons (pe_slice C8.sl_txt (pv 1) (po_some (pv 4)) (po_some (pe_op op_add (pv 4) (C8.pe_gc (v := .int 64) (by rfl) ⟨_, gL, ⟨_, rfl⟩⟩)))) pa_nil))))))
        (pss_one (ps_ret (pe_ifExp (pt_val (pe_m1 PySem.F.slot_str_startswith PySem.F.type_str_startswith mt_startswith (pv 0) pe_str)) (pe_un un_neg (pv 3)) (pv 3))))), ?_⟩
      intro D G a b ea hd hn q
      have ad := dgA hd
      unfold val at q
      generalize hm : dg l = m at dl ad hd hn q ⊢
      have d63 : m.length ≤ 3300 := by omega
      have dgt : ∀ {i j : Nat}, NumText.AllDigits ((m.drop i).take j) := fun {i j} x hx => ad x (List.mem_of_mem_drop (List.mem_of_mem_take hx))
      have dgk : ∀ {j : Nat}, NumText.AllDigits (m.take j) := fun {j} x hx => ad x (List.mem_of_mem_take hx)
      refine ⟨_, rfl, _, rfl, _, rfl, sz _ d63, ?_⟩
      rw [ln]
      refine ⟨_, _, _, b, rfl, by rw [hn]; exact rg64 ea (by omega), ?_⟩
      refine for_rangeC (lo := (a : Int)) (c := 64) (n := b) (fun i σ H5 => (∃ x4 : Option V, σ = [some (.str (Sx l)), some (.str (Sx m)), some (.int (a : Int)), some (.int ((NumText.digitsVal (m.take (a + 64 * i)) : Nat) : Int)), x4]) ∧ H5 = G) ⟨⟨_, rfl⟩, rfl⟩ (fun i σ H5 hi h => ?_) (fun σ H5 h => ?_)
      · obtain ⟨⟨x4, rfl⟩, rfl⟩ := h
        have hlt : a + 64 * i + 64 ≤ m.length := by omega
        have e0 : (a : Int) + (i : Int) * 64 = ((a + 64 * i : Nat) : Int) := by omega
        rw [e0]
        have e1 : m.take (a + 64 * (i + 1)) = m.take (a + 64 * i) ++ (m.drop (a + 64 * i)).take 64 := by
          rw [show a + 64 * (i + 1) = (a + 64 * i) + 64 by omega, List.take_add]
        have e2 : ((m.drop (a + 64 * i)).take 64).length = 64 := by rw [List.length_take, List.length_drop]; omega
        have e3 : ((NumText.digitsVal (m.take (a + 64 * (i + 1))) : Nat) : Int) = ((NumText.digitsVal (m.take (a + 64 * i)) : Nat) : Int) * 10 ^ 64 + ((NumText.digitsVal ((m.drop (a + 64 * i)).take 64) : Nat) : Int) := by
          rw [e1, val_cat, e2, Int.natCast_add, Int.natCast_mul]
          rfl
        have big : CMulW ((NumText.digitsVal (m.take (a + 64 * i)) : Nat) : Int) (10 ^ 64) := by
          have h1 := val_lt _ (dgk (j := a + 64 * i))
          have h2 : (m.take (a + 64 * i)).length ≤ 3300 := by rw [List.length_take]; omega
          exact wide_mul (a := 20000) (b := 300) (by rw [Int.natAbs_natCast]; exact Nat.lt_trans h1 (pow_small h2)) (by decide +kernel) (by decide) (by decide) (by decide)
        have hne : (m.drop (a + 64 * i)).take 64 ≠ [] := fun z => by rw [z] at e2; cases e2
        refine ⟨_, rfl, _, _, rfl, rfl, big, ?_⟩
        refine ⟨_, rfl, _, rfl, _, rfl, _, rfl, _, _, rfl, rfl, _, rfl, _, rfl, sz _ d63, ?_⟩
        rw [show (((a + 64 * i : Nat) : Int) + 64) = ((a + 64 * i + 64 : Nat) : Int) by omega, slice_mid (by omega) hlt, show a + 64 * i + 64 - (a + 64 * i) = 64 by omega]
        refine ⟨_, _, rfl, intText_S (allD_iff.mpr ⟨hne, dgt⟩) (by omega), by rw [ln]; omega, ?_⟩
        refine ⟨_, _, rfl, rfl, ⟨some (.int ((a + 64 * i : Nat) : Int)), ?_⟩, rfl⟩
        rw [e3]
        rfl
      · obtain ⟨⟨x4, rfl⟩, rfl⟩ := h
        rw [← hn, List.take_length]
        refine ⟨_, rfl, ⟨_, rfl⟩, _, _, rfl, rfl, _, rfl, ?_⟩
        rw [show Txt.startswith (Sx l) (Str.ofString "-") = decide (l.head? = some 45) from st l 45]
        by_cases h : l.head? = some 45
        · rw [if_pos h] at q
          rw [decide_eq_true h]
          exact iteT ⟨_, rfl, _, rfl, q⟩
        · rw [if_neg h] at q
          rw [decide_eq_false h]
          exact iteF ⟨_, rfl, q⟩
    obtain ⟨tT, hT, qT⟩ : ∃ t : TS, PSs (cxOf CX0 P w K mg base ["word", "digits", "first", "number", "start"] "read_number" (defScope sReadN) f cdv A outer s H E).nox ((defBody sReadN).drop 3) t ∧ ∀ (D : Ends) (G : Hp), allD (dg l) = true → D.rt (.int (val l)) G → t D [some (.str (Sx l)), some (.str (Sx (dg l))), none, none, none] G := by
      refine ⟨_, pss_cons (ps_set (i := 2) scReadN.nd rfl (.inl rfl) (pe_op op_mod (pe_callB call_len_str (by rfl) T.len PySem.boot_len (pa_cons (pv 1) pa_nil)) (C8.pe_gc (v := .int 64) (by rfl) ⟨_, gL, ⟨_, rfl⟩⟩)))
        (pss_cons (ps_set (i := 3) scReadN.nd rfl (.inl rfl) (pe_ifExp (pt_cmpR op_gt (pv 2) pe_int (nomark _)) (pe_callTy call_int_str (by rfl) T.int (by decide +kernel) (pa_cons (pe_slice C8.sl_txt (pv 1) po_none (po_some (pv 2))) pa_nil)) pe_int)) hF), ?_⟩
      intro D G hd q
      have ad := dgA hd
      have d63 : (dg l).length ≤ 3300 := by omega
      obtain ⟨a, b, ea, hn⟩ : ∃ a b : Nat, a < 64 ∧ (dg l).length = a + 64 * b := ⟨(dg l).length % 64, (dg l).length / 64, Nat.mod_lt _ (by decide), by omega⟩
      have em : (((Sx (dg l)).length : Nat) : Int) % 64 = (a : Int) := by rw [ln]; omega
      refine ⟨_, rfl, _, rfl, sz _ d63, _, _, rfl, rfl, (by omega : (0 : Int) < 64), ?_⟩
      show gName 2 (.int ((((Sx (dg l)).length : Nat) : Int) % 64)) _ G _
      rw [em]
      refine ⟨_, rfl, _, _, rfl, rfl, _, rfl, ?_⟩
      have fin := qF D G a b ea hd hn q
      by_cases z : a = 0
      · subst z
        rw [show decide ((0 : Int) < ((0 : Nat) : Int)) = false from rfl]
        exact iteF fin
      · rw [decide_eq_true (by omega : (0 : Int) < (a : Int))]
        have hl2 : ((dg l).take a).length = a := by rw [List.length_take]; omega
        have hne : (dg l).take a ≠ [] := fun y => by rw [y] at hl2; exact z hl2.symm
        refine iteT ⟨_, rfl, _, rfl, _, rfl, _, rfl, sz _ d63, ?_⟩
        rw [show Txt.slice (Sx (dg l)) none (some (a : Int)) = Sx ((dg l).take a) by have e := SX.slice_to (a := dg l) (i := (a : Int)) (by omega); rw [Int.toNat_natCast] at e; exact e]
        refine ⟨_, _, rfl, intText_S (allD_iff.mpr ⟨hne, fun x hx => ad x (List.mem_of_mem_take hx)⟩) (by omega), by rw [ln]; omega, ?_⟩
        exact fin
    obtain ⟨tR, hR, qR⟩ : ∃ t : TS, PSs (cxOf CX0 P w K mg base ["word", "digits", "first", "number", "start"] "read_number" (defScope sReadN) f cdv A outer s H E).nox ((defBody sReadN).drop 1) t ∧ ∀ (D : Ends) (G : Hp) (m : List Nat), m = dg l → D.rt (if can l = true then .int (val l) else .non) G → t D [some (.str (Sx l)), some (.str (Sx m)), none, none, none] G := by
      refine ⟨_, (pss_cons (ps_if (PW.pt (pw_or (pt_not (pt_val (pe_m0 PySem.F.slot_str_isascii PySem.F.type_str_isascii mt_isascii (pv 1)))) (pw_or1 (pt_not (pt_val (pe_m0 PySem.F.slot_str_isdigit PySem.F.type_str_isdigit mt_isdigit (pv 1))))))) (pss_one (ps_ret pe_non)) pss_nil)
      (pss_cons (ps_if (PW.pt (pw_and (pt_val (pe_m1 PySem.F.slot_str_startswith PySem.F.type_str_startswith mt_startswith (pv 1) pe_str)) (pw_and1 (pt_cmpR op_ne (pv 0) pe_str (nomark _))))) (pss_one (ps_ret pe_non)) pss_nil)
      hT)), ?_⟩
      rintro D G m rfl q
      have ds := digits_S (dg l)
      refine ⟨_, rfl, ⟨_, rfl⟩, _, rfl, rfl, trivial, _, rfl, ?_⟩
      cases ha : Txt.isascii (Sx (dg l)) with
      | false =>
        rw [ha, Bool.false_and] at ds
        have c0 : can l = false := by unfold can; rw [← ds]; rfl
        rw [c0] at q
        exact iteT q
      | true =>
        rw [ha, Bool.true_and] at ds
        refine iteF ⟨_, rfl, ⟨_, rfl⟩, _, rfl, rfl, trivial, _, rfl, ?_⟩
        rw [ds]
        cases hd : allD (dg l) with
        | false =>
          have c0 : can l = false := by unfold can; rw [hd]; rfl
          rw [c0] at q
          exact iteT q
        | true =>
          obtain ⟨ne, ad⟩ := allD_iff.mp hd
          refine iteF ⟨_, rfl, ⟨_, rfl⟩, _, _, rfl, rfl, _, rfl, ?_⟩
          rw [show Txt.startswith (Sx (dg l)) (Str.ofString "0") = decide ((dg l).head? = some 48) from st (dg l) 48]
          have go : can l = true → (tL : TS) → True := fun _ _ => trivial
          clear go
          by_cases h0 : (dg l).head? = some 48
          · rw [decide_eq_true h0]
            refine iteT ⟨_, rfl, rfl, ?_⟩
            by_cases h1 : l = [48]
            · have hc : can l = true := by rw [h1]; decide +kernel
              rw [hc] at q
              have e : V.str (Sx l) = V.str (Str.ofString "0") := by rw [h1]; rfl
              refine ⟨_, rfl, ?_⟩
              rw [decide_eq_true e]
              exact iteF (qT _ G hd q)
            · have hc : can l = false := by unfold can; rw [hd, decide_eq_true h0, decide_eq_true h1]; rfl
              rw [hc] at q
              have e : ¬ V.str (Sx l) = V.str (Str.ofString "0") := fun z => h1 (S_inj (V.str.inj z))
              refine ⟨_, rfl, ?_⟩
              rw [decide_eq_false e]
              exact iteT q
          · rw [decide_eq_false h0]
            refine iteF ?_
            have hc : can l = true := by unfold can; rw [hd, decide_eq_false h0]; rfl
            rw [hc] at q
            exact qT _ G hd q
    refine ⟨_, pss_cons (ps_set (i := 1) scReadN.nd rfl (.inl rfl) (pe_ifExp (pt_val (pe_m1 PySem.F.slot_str_startswith PySem.F.type_str_startswith mt_startswith (pv 0) pe_str)) (pe_slice C8.sl_txt (pv 0) (po_some pe_int) po_none) (pv 0))) hR, ?_⟩
    refine ⟨_, rfl, ⟨_, rfl⟩, _, _, rfl, rfl, _, rfl, ?_⟩
    rw [show Txt.startswith (Sx l) (Str.ofString "-") = decide (l.head? = some 45) from st l 45]
    by_cases h : l.head? = some 45
    · rw [decide_eq_true h]
      refine iteT ⟨_, rfl, _, rfl, _, rfl, sz l hl, ?_⟩
      rw [dig_slice l h]
      exact qR _ H _ rfl k
    · rw [decide_eq_false h]
      refine iteF ⟨_, rfl, ?_⟩
      have e : dg l = l := by unfold dg; rw [if_neg h]
      exact qR _ H _ e.symm k
end
end Ev
namespace Ev
open PySem L2 PySem.Spec PyProof.Rows
/-! The pieces of a text between the signs s. -/
def pcz (s : Nat) (L : List Nat) : List (List Nat) := TL.spl [s] 0 [] L
theorem preS (s c : Nat) (r : List Nat) : TL.pre [s] (c :: r) = decide (c = s) := by
  unfold TL.pre
  by_cases h : c = s
  · subst h; simp
  · simp [h]
theorem spl_sepS (s : Nat) : ∀ (a acc r : List Nat), TL.spl [s] 0 acc (a ++ s :: r) = TL.spl [s] 0 acc a ++ TL.spl [s] 0 [] r := by
  intro a
  induction a with
  | nil =>
    intro acc r
    rw [List.nil_append, TL.spl_hit (by rw [preS]; simp), TL.spl_nil]
    rfl
  | cons c a ih =>
    intro acc r
    by_cases h : c = s
    · rw [List.cons_append, TL.spl_hit (by rw [preS, h]; simp), TL.spl_hit (by rw [preS, h]; simp)]
      show acc :: TL.spl [s] 0 [] (a ++ s :: r) = _
      rw [ih]
      rfl
    · rw [List.cons_append, TL.spl_miss (by rw [preS]; simp [h]), TL.spl_miss (by rw [preS]; simp [h]), ih]
theorem spl_boundS (s : Nat) : ∀ (a acc : List Nat), (∀ p ∈ TL.spl [s] 0 acc a, p.length ≤ acc.length + a.length ∧ ∀ c ∈ p, c ∈ acc ∨ c ∈ a) ∧ (TL.spl [s] 0 acc a).length ≤ a.length + 1 := by
  intro a
  induction a with
  | nil =>
    intro acc
    rw [TL.spl_nil]
    simp
  | cons c a ih =>
    intro acc
    by_cases h : c = s
    · rw [TL.spl_hit (by rw [preS, h]; simp)]
      show (∀ p ∈ acc :: TL.spl [s] 0 [] a, _) ∧ (acc :: TL.spl [s] 0 [] a).length ≤ _
      obtain ⟨h1, h2⟩ := ih []
      refine ⟨fun p hp => ?_, by simp; omega⟩
      rcases List.mem_cons.mp hp with rfl | hp
      · exact ⟨by simp, fun x hx => .inl hx⟩
      · obtain ⟨z1, z2⟩ := h1 p hp
        refine ⟨by simp at z1 ⊢; omega, fun x hx => .inr ?_⟩
        rcases z2 x hx with z | z
        · cases z
        · exact List.mem_cons_of_mem _ z
    · rw [TL.spl_miss (by rw [preS]; simp [h])]
      obtain ⟨h1, h2⟩ := ih (acc ++ [c])
      refine ⟨fun p hp => ?_, by simp; omega⟩
      obtain ⟨z1, z2⟩ := h1 p hp
      refine ⟨by simp at z1 ⊢; omega, fun x hx => ?_⟩
      rcases z2 x hx with z | z
      · rcases List.mem_append.mp z with z | z
        · exact .inl z
        · have : x = c := by simpa using z
          exact .inr (by rw [this]; exact List.mem_cons_self)
      · exact .inr (List.mem_cons_of_mem _ z)
theorem pcz_bound (s : Nat) (l : List Nat) : (∀ p ∈ pcz s l, p.length ≤ l.length ∧ ∀ c ∈ p, c ∈ l) ∧ (pcz s l).length ≤ l.length + 1 := by
  obtain ⟨h1, h2⟩ := spl_boundS s l []
  refine ⟨fun p hp => ?_, h2⟩
  obtain ⟨z1, z2⟩ := h1 p hp
  exact ⟨by simpa using z1, fun c hc => (z2 c hc).elim (fun z => by cases z) id⟩
/-- a text with the sign s between a and r -/
theorem pcz_sep (s : Nat) (a r : List Nat) : pcz s (a ++ s :: r) = pcz s a ++ pcz s r := spl_sepS s a [] r
theorem pcz_none {s : Nat} {l : List Nat} (h : s ∉ l) : pcz s l = [l] := by
  have e := TL.spl_last1 (s := s) (S := []) (p := l) (acc := []) h
  exact e
theorem split_pcz {s : Nat} (hs : s < 256) (L : List Nat) : (Txt.split (Sx L) (Sx [s])).map V.str = (pcz s L).map (fun l => V.str (Sx l)) := by
  have e := SX.split_S (a := L) (b := [s]) (by simp) (by simp [hs])
  show (Txt.split (SX.S L) (SX.S [s])).map V.str = _
  rw [e, List.map_map]
  rfl
end Ev
namespace Ev
open PySem L2 PySem.Spec PyProof.Rows
abbrev sReadP : Stmt := top 20
/-- what read_number gives -/
def rdV (l : List Nat) : V := if can l = true then .int (val l) else .non
/-- the pair that a word writes -/
def pairW (l : List Nat) : Option (Int × Int) := match pcz 47 l with
  | [a, b] => if can a = true ∧ can b = true then some (val a, val b) else none
  | _ => none
def OutPr (H : Hp) (Q : VK) : Option (Int × Int) → Prop
  | none => ∀ H', Same H H' → Q .non H'
  | some (p, q) => ∀ (r : Addr) (H' : Hp), Same H H' → H' r = some (.tup [.int p, .int q]) → Q (.ref r) H'
def spReadP : Sp := fun vs H Q _ => ∃ l : List Nat, vs = [.str (Sx l)] ∧ l.length ≤ 3300 ∧ OutPr H Q (pairW l)
section
variable {P : Program} {w : World} {K : PySem.W.Frag} {mg : Str → Option Value} {base : Heap}
theorem scReadP : FnScope ["word", "numbers", "half"] ["word"] (defScope sReadP) := ⟨rfl, rfl, rfl, by decide +kernel, rfl, by decide +kernel, by decide +kernel⟩
theorem ok_readP {f : Addr} {fd : FuncData} (F : Fun K "read_pair" "read_pair" sReadP f fd) (T : Blt mg) (D1 : Df P w K mg base 1 "read_number" ["word"] spReadN) : FnOk P w K mg base CX0 2 f fd ["word"] spReadP := by
  obtain ⟨f1, fd1, G1, g1, k1, b1⟩ := D1.ex
  refine F.ok scReadP (fun vs H Q E h => ?_) (fun cdv A outer s H vs Q E hr h => ?_)
  · obtain ⟨l, rfl, _⟩ := h
    rfl
  · obtain ⟨l, rfl, hl, kk⟩ := h
    refine ⟨_, pss_cons (ps_setLc (i := 1) (te := tCall spReadN [] E0 (tCons (tVar 2) tNil)) (own := [("half", 2)]) (g := gName 2) (tt := tYes) (by rfl) scReadP.nd rfl rfl (sw_true rfl rfl rfl (by decide +kernel)) (pi_list (pe_split (pv 0) pe_str)) (blkOk_by (own := [("half", 2)]) (N := ["word", "numbers", "half"]) (sc := defScope sReadP) (by decide +kernel))
        (fun _ _ _ _ _ => pg_name (i := 2) scReadP.nd rfl (.inl rfl)) (fun _ _ _ _ _ => pts_nil) (fun _ _ _ _ _ => pe_call G1 hr (by rfl) g1 k1 b1 .nil pass0 (pa_cons (pv 2) pa_nil)))
      (pss_cons (ps_if (PW.pt (pw_or (pt_cmpR op_ne (pe_callB call_len_seq (by rfl) T.len PySem.boot_len (pa_cons (pv 1) pa_nil)) pe_int (nomark _)) (pw_or1 (pt_cmpR op_in_seq pe_non (pv 1) (by rfl))))) (pss_one (ps_ret pe_non)) pss_nil)
      (pss_one (ps_ret (pe_callTy call_tuple_of (by rfl) T.tuple (by decide +kernel) (pa_cons (pv 1) pa_nil))))), ?_⟩
    have sz : (Sx l).length + 2 ≤ sizeLine := by rw [SX.S_len, sizeLine_eq]; omega
    refine ⟨_, rfl, ⟨_, rfl⟩, _, _, rfl, rfl, by decide +kernel, sz, fun W nW => ?_⟩
    have eS : (Txt.split (Sx l) (Str.ofString "/")).map V.str = (pcz 47 l).map (fun l => V.str (Sx l)) := split_pcz (by decide) l
    rw [eS]
    have hb := (pcz_bound 47 l).1
    have hlen := (pcz_bound 47 l).2
    have hW : upd H W (.lst ((pcz 47 l).map (fun l => V.str (Sx l)))) W = some (.lst ((pcz 47 l).map (fun l => V.str (Sx l)))) := upd_same
    have sW : Same H (upd H W (.lst ((pcz 47 l).map (fun l => V.str (Sx l))))) := same_new nW
    generalize upd H W (.lst ((pcz 47 l).map (fun l => V.str (Sx l)))) = H1 at hW sW ⊢
    unfold pairW at kk
    generalize pcz 47 l = hs at hb hlen hW kk
    refine ⟨W, rfl, ⟨_, SqL.of hW⟩, fun D nD => ?_⟩
    have WD := ne_of_none hW nD
    have wk : Walk (Itl K W) hs.length (fun H => SqL K H W (hs.map (fun l => V.str (Sx l)))) (YAt (hs.map (fun l => V.str (Sx l)))) := by
      have w := walk_list (K := K) (a := W) (xs := hs.map (fun l => V.str (Sx l)))
      rw [List.length_map] at w
      exact w
    refine lc_pureV (n := hs.length) wk (hs.map rdV) (by simp) (by omega) (fun H' h => SqL.of (h _ _ WD hW)) (fun i v H2 H' r hi hr' bt _ y R Wk k => ?_) (fun H' bt hD => ?_)
    · obtain ⟨rfl, hv⟩ := y
      rw [List.getElem?_map] at hv hr'
      obtain ⟨x, hx, rfl⟩ := Option.map_eq_some_iff.mp hv
      rw [hx] at hr'
      have er : rdV x = r := Option.some.inj hr'
      subst er
      refine ⟨rfl, _, rfl, x, rfl, by have := (hb x (List.mem_of_getElem? hx)).1; omega, ?_⟩
      exact k _ (Same.refl _)
    · have s1 : Same H H' := sW.trans fun c o e => bt c o (ne_of_none e nD) e
      refine ⟨_, rfl, D, _, rfl, .inl (SqL.of hD), rfl, _, rfl, ?_⟩
      rw [List.length_map]
      by_cases e : hs.length = 2
      · match hs, e, hD, kk with
        | [a, b], _, hD, kk =>
          have kk : OutPr H Q (if can a = true ∧ can b = true then some (val a, val b) else none) := kk
          have fl : ∀ x, flatV (rdV x) = true := fun x => by unfold rdV; cases can x <;> rfl
          have iv : inV .non ([a, b].map rdV) = !(can a && can b) := by
            simp only [inV, rdV, List.map_cons, List.map_nil, List.any_cons, List.any_nil]
            cases can a <;> cases can b <;> simp [eqV]
          refine iteF ⟨_, rfl, D, _, rfl, .inl (SqL.of hD), rfl, by simp [fl], _, rfl, ?_⟩
          rw [if_neg (by decide), iv]
          cases ha : can a with
          | false =>
            rw [if_neg (by rw [ha]; simp)] at kk
            exact iteT (kk _ s1)
          | true =>
            cases hb' : can b with
            | false =>
              rw [if_neg (by rw [hb']; simp)] at kk
              exact iteT (kk _ s1)
            | true =>
              rw [if_pos ⟨ha, hb'⟩] at kk
              have er : [a, b].map rdV = [V.int (val a), V.int (val b)] := by unfold rdV; simp [ha, hb']
              refine iteF ⟨_, rfl, D, _, rfl, .inl ⟨SqL.of hD, fun r nr => ?_⟩⟩
              exact kk r _ (s1.trans (same_new nr)) (by rw [upd_same, er])
      · have e2 : decide (V.int (hs.length : Int) = V.int 2) = false := decide_eq_false fun z => by injection z with z; omega
        rw [e2]
        have kn : OutPr H Q none := by
          match hs, e, kk with
          | [], _, kk => exact kk
          | [_], _, kk => exact kk
          | _ :: _ :: _ :: _, _, kk => exact kk
        exact iteT (iteT (kn _ s1))
end
end Ev
namespace Ev
open PySem L2 PySem.Spec PyProof.Rows
/-! enumerate of a tuple, the start given by its name. -/
section
variable {M : Model} {A : Around} {E : Value → Shared → Prop} {s : Shared} {env : Env}
theorem callWith_typeKw {pos : Pos} {T : String} {first : List Value} {args : List (Bool × Sem Value)} {kw : List (Option Str × Sem Value)} {Q : Value → Shared → Prop} (hplain : args.any (·.1) = false) (hkw : kw.any (·.1.isNone) = false)
    (h : wpAny M A (evalArgs (.type T) true args kw) (fun a s₁ => wpAny M A (call (.type T) (first ++ a.pos) a.kw) Q E s₁) E s) :
    wpAny M A (callWith pos (.type T) first args kw) Q E s := by
  unfold callWith
  refine wpAny_bind (wpAny_holding (wpAny_mono h (fun a s₁ h₁ => wpAny_bind (wpAny_standAt ?_)) fun _ _ x => x))
  simp only [hplain, hkw, Bool.or_false]
  refine wpAny_bind (wpAny_pure ?_)
  exact wpAny_bind (wpAny_mono h₁ (fun r s₂ hr => wpAny_bind (wpAny_holding (wpAny_point (wpAny_pure hr)))) fun _ _ x => x)
end
def IteT (K : PySem.W.Frag) (a : Addr) (k0 : Int) : It where
  go i H := ∃ us : List V, SqT K H a us ∧ i < us.length
  yld i H v H' := ∃ T x, v = .ref T ∧ H T = none ∧ H' = upd H T (.tup [.int (k0 + (i : Int)), x]) ∧ ∀ us, SqT K H a us → us[i]? = some x
  stop i H := ∃ us : List V, SqT K H a us ∧ i = us.length
theorem turn_enumT {P : Program} {w : World} {K : PySem.W.Frag} {elts : List Expr} {kk : Nat} {tpos : Pos} {a e it : Addr} {k0 : Int} (ae : a ≠ e) (ai : a ≠ it) :
    Turn P w K (.Tuple elts kk tpos) (IteT K a k0) [e, it] e (fun i h => (∃ old, IsEnum h e it (k0 + (i : Int)) old) ∧ h.IsTupleIter it a i ∧ e ≠ it) where
  mem := by simp
  obj := fun i h st b hb => by
    obtain ⟨⟨old, he⟩, ⟨o, ho, hc, hd⟩, _⟩ := st
    have e' : b = e ∨ b = it := by simpa using hb
    rcases e' with z | z
    · rw [z]; exact ⟨_, he, fun v q => nomatch q⟩
    · rw [z]; exact ⟨o, ho, fun v q => by rw [hd] at q; cases q⟩
  keep := fun i h h' st k => let ⟨⟨old, he⟩, hi, hne⟩ := st; ⟨⟨old, k e (by simp) _ he⟩, hi.at fun o q => k it (by simp) o q, hne⟩
  item := by
    intro X hP hw hK hc i pins s σ H E J hf st hg
    subst hP hw hK
    obtain ⟨⟨old, he⟩, hit, hne⟩ := st
    obtain ⟨us, hq, hx⟩ := hg
    obtain ⟨its, rv, p, hz⟩ := J.tuple hq
    obtain ⟨u, hu, ru⟩ := rv.get (List.getElem?_eq_getElem hx)
    have l1 := rv.length
    have hd : X.A.in1.handled = none := J.ok.hd hc
    have hel : e < s.heap.objs.size := Heap.lt_size he
    have hil : it < s.heap.objs.size := by obtain ⟨_, q, _⟩ := hit; exact Heap.lt_size q
    refine wpAny_pyNext_enum_itemC (Draws.tuple hd it a ai its.toArray) he ⟨hit, p⟩ (by simp; omega) hne (by simp; exact ⟨hne, fun z => ae z.symm⟩) fun x h' tk hP ho hs' hT hsz hk => ?_
    obtain rfl : u = x := by
      have e : its[i]? = some x := by simpa using hP
      rw [hu] at e
      exact Option.some.inj e
    refine ⟨_, rfl, wpAny_letOwnedTupleGo_enum (s := { s with heap := h', toks := tk + 1 }) ho fun h'' he' sb => ?_⟩
    have hT2 : h''.get? s.heap.objs.size = some { cls := .type "tuple", data := .seq #[.int (k0 + (i : Int)) tk, u] } := (sb.2 _ (Nat.ne_of_gt hel)).trans hT
    have new : ObjOk X.prog X.w (upd H s.heap.objs.size (.tup [.int (k0 + (i : Int)), us[i]])) h'' s.heap.objs.size (.tup [.int (k0 + (i : Int)), us[i]]) :=
      ⟨by show 2 ≤ sizeLine; decide, [.int (k0 + (i : Int)) tk, u], .cons ⟨_, rfl⟩ (.cons ru .nil), ⟨_, hT2, rfl, _, rfl⟩⟩
    have I1 : Inv X pins σ (upd H s.heap.objs.size (.tup [.int (k0 + (i : Int)), us[i]])) { s with heap := h'', toks := tk + 1 } :=
      J.turnedNew (ch := [e, it]) (fun b ob hb q => (sb.2 b (fun z => hb (by simp [z]))).trans (hk b ob (fun z => hb (by simp [z])) (fun z => hb (by simp [z])) q)) hf (Nat.le_refl _) new
    refine ⟨.ref s.heap.objs.size, _, I1, rfl, ⟨_, us[i], rfl, J.hok.fresh (Nat.le_refl _), rfl, fun ys hy => by rw [J.tuple_inj hy hq]; exact List.getElem?_eq_getElem hx⟩, ⟨⟨u, ?_⟩, hs'.1.at fun o q => (sb.2 it (Ne.symm hne)).trans q, hne⟩, fun b hb => ?_⟩
    · have e1 : k0 + ((i + 1 : Nat) : Int) = k0 + (i : Int) + 1 := by omega
      rw [e1]; exact he'
    · have hb' : b < s.heap.objs.size := by
        have e' : b = e ∨ b = it := by simpa using hb
        rcases e' with z | z
        · rw [z]; exact hel
        · rw [z]; exact hil
      rw [upd_ne (Nat.ne_of_lt hb')]
      exact (hf b hb).1
  done := by
    intro X hP hw hK hc i pins s σ H E J hf st hg
    subst hP hw hK
    obtain ⟨⟨old, he⟩, hit, hne⟩ := st
    obtain ⟨us, hq, rfl⟩ := hg
    obtain ⟨its, rv, p, hz⟩ := J.tuple hq
    have l1 := rv.length
    have hd : X.A.in1.handled = none := J.ok.hd hc
    have ez : us.length = its.toArray.size := by simp; omega
    rw [ez] at hit
    refine wpAny_pyNext_enum_endD (Draws.tuple hd it a ai its.toArray) he ⟨hit, p⟩ fun h' hx => ⟨rfl, ?_⟩
    exact J.turnedL (t' := s.toks) (ch := [e, it]) (fun c o n q => hx c o (fun z => n (by simp [z])) q) hf
  self := fun A i s Q E st h => let ⟨⟨_, he⟩, _⟩ := st; wpAny_pyIter_enum he h
def iEnumT (K : PySem.W.Frag) (ta tk : TA) : TI := fun σ H R => ta σ H fun vs H1 => tk σ H1 fun ks H2 => ∃ a us k0, vs = [.ref a] ∧ ks = [.int k0] ∧ SqT K H2 a us ∧ 0 ≤ k0 ∧ k0 < 1000 ∧ R (IteT K a k0) H2
theorem pi_enumT {X : Cx} {e : Expr} {ta tk : TA} {kws : List Keyword} {p pos tpos : Pos} {elts : List Expr} {kk : Nat} (hg : Gl X "enumerate") (hm : X.mg "enumerate" = none) (ha : PA X [e] ta) (hkw : PK X kws tk)
    (hall : (backToKw pos (keywordEach kws X.env)).all (·.1.isSome) = true := by rfl) (hks : (backToKw pos (keywordEach kws X.env)).filterMap (·.1) = [Str.ofString "start"] := by rfl)
    (hs : starEach [e] X.env = [(false, eval e X.env)] := by rfl) (hpl : (backTo pos (starEach [e] X.env)).any (·.1) = false := by rfl) (hnn : (backToKw pos (keywordEach kws X.env)).any (·.1.isNone) = false := by rfl) :
    PI X (.Tuple elts kk tpos) (.Call (.Name "enumerate" p) [e] kws pos) (iEnumT X.K ta tk) := by
  refine ⟨fun pins s σ H R I h => ?_⟩
  refine wpAny_Call_Name_kw (ld_blt I hg hm boot_enumerate (callWith_typeKw hpl hnn (PyProof.Rows.evalArgs_kw2 hall (thn (ha.run pos pins s σ H _ I h) fun us s1 ⟨vs, H1, I1, r1, q1⟩ => thn (hkw.run pos pins s1 σ H1 _ I1 q1) fun ks s2 ⟨zs, H2, I2, r2, q2⟩ => ?_) hs)))
  obtain ⟨a, xs, k0, rfl, rfl, hq, k1, k2, q⟩ := q2
  rw [hks]
  cases r1 with
  | cons r rr =>
    cases rr
    cases r
    cases r2 with
    | cons r' rr' =>
      cases rr'
      obtain ⟨tk, rfl⟩ := r'
      obtain ⟨its, rv, p', hz⟩ := I2.tuple hq
      have la : a < s2.heap.objs.size := by obtain ⟨_, z, _⟩ := id p'; exact Heap.lt_size z
      refine enum_begins_start (begins_tuple a its.toArray) p' (by omega) (by omega) fun h' he hit hsz hk => wpAny_pyIter_enum he ?_
      have I3 : Inv X pins σ H2 { s2 with heap := h' } := I2.kept (t' := s2.toks) hk
      refine ⟨s2.heap.objs.size + 1, [s2.heap.objs.size + 1, s2.heap.objs.size], _, _, H2, rfl, I3, turn_enumT (k0 := k0) (e := s2.heap.objs.size + 1) (it := s2.heap.objs.size) (Nat.ne_of_lt (Nat.lt_succ_of_lt la)) (Nat.ne_of_lt la), ⟨⟨.none, by simpa using he⟩, ⟨_, hit, rfl, rfl⟩, Nat.succ_ne_self _⟩, fun b hb => ?_, q⟩
      have e' : b = s2.heap.objs.size + 1 ∨ b = s2.heap.objs.size := by simpa using hb
      have hle : s2.heap.objs.size ≤ b := by
        rcases e' with z | z
        · rw [z]; exact Nat.le_add_right _ _
        · rw [z]; exact Nat.le_refl _
      exact I2.fpOk hle (I2.hok.fresh hle)
end Ev
namespace ClX
open PySem PySem.Spec PyProof.Rows L2
/-- C.m is a staticmethod: its record at p, its def at g -/
structure SMet (K : PySem.W.Frag) (C : Addr) (mc : Value) (m : Str) (p g : Addr) : Prop where
  at_ : PySem.W.findCls K (.ref C) mc m = some (.get (.builtin "staticmethod.__get__") (.ref p) .none (.ref C))
  rc : ∃ rest, PySem.W.recIn K p "staticmethod" = some (.ref g :: rest)
  kp : PySem.W.keepIn K (.ref g) = true
section
variable {X : Cx} {pins : List (Addr × Obj)} {σ : L2.St} {H : Hp} {s : Shared} {C p g : Addr} {mc : Value} {m : Str} {A : Around} {E : Value → Shared → Prop}
theorem getmethsm_ok {pl : Sem Bool} {Q : Value × List Value → Shared → Prop} (I : Inv X pins σ H s) (r : CRead X.K C mc) (k : SMet X.K C mc m p g)
    (h : ∀ s', Inv X pins σ H s' → Q (.ref g, []) s') : wpAny (model X.prog X.w) A (getMethod (.ref C) m pl) Q E s := by
  obtain ⟨rest, hp⟩ := k.rc
  refine PySem.W.method_cls I.kIn r.ga (PySem.W.cls_bind I.kIn r.rd k.at_ ?_)
  refine wpAny_call (PySem.W.sm_get (s := { s with toks := s.toks + 1 }) I.kIn hp (PySem.W.handed_on rfl ?_))
  exact h _ (I.tok _)
end
section
variable {X : Cx} {CX : CXT} {k : Nat} {C p g : Addr} {mc : Value} {sp : Sp} {E : XK} {o e : Expr} {es : List Expr} {m : Str} {pos apos : Pos} {ta : TE} {t tk : TA} {pl : Sem Bool}
/-- C.m(..), m a staticmethod -/
def tSMeth (C : Addr) (sp : Sp) (E : XK) (ta : TE) (t : TA) : TE := fun σ H Q => ta σ H fun x H1 => x = .ref C ∧ t σ H1 fun vs H2 => sp vs H2 Q E
theorem pe_smeth (he : PE X o ta) (r : CRead X.K C mc) (c : SMet X.K C mc m p g) (F : FnR X.prog X.w X.K X.mg X.base CX k g sp) (hr : Room k X.A) (hx : Passes CX X E) (ha : PA X (e :: es) t)
    (hst : starEach (e :: es) X.env = (false, eval e X.env) :: starEach es X.env := by rfl) (hpl : (backTo pos (starEach es X.env)).any (·.1) = false := by rfl)
    (ht : eval (.Call (.Attribute o m apos) (e :: es) [] pos) X.env = (do
      let ov ← eval o X.env
      standAt apos.atName
      let (f, first) ← holding [ov] (getMethod ov m pl)
      callWith pos f first (backTo pos (starEach (e :: es) X.env)) (backToKw pos (keywordEach [] X.env))) := by rfl) :
    PE X (.Call (.Attribute o m apos) (e :: es) [] pos) (tSMeth C sp E ta t) := by
  refine ⟨fun pins s σ H Q I h => ?_⟩
  refine PySem.W.methodCall_KW (pl := pl) (thn (he.run pins s σ H _ I h) fun u s1 ⟨x, H1, I1, rx, ex, q⟩ => ?_) ht
  subst ex
  obtain rfl : u = Value.ref C := rx
  refine getmethsm_ok I1 r c fun s2 I2 => ?_
  refine PySem.W.callWith_K (h₀ := X.base) I2.ok.mod.kin c.kp (thn (ha.run pos pins s2 σ H1 _ I2 q) fun us s3 ⟨vs, H2, I3, rv, q2⟩ => ⟨I3.kIn, ?_⟩) hst hpl
  exact wpAny_call (run_fnR F hr hx I3 rv q2)
variable {kws : List Keyword} {ps ks : List Str} {fd : FuncData} {gg : List Value → List Value → List Value} {gV : List V → List V → List V}
/-- C.m(k = v, ..), m a staticmethod: keywords alone -/
def tSMethK (C : Addr) (sp : Sp) (gV : List V → List V → List V) (E : XK) (ta : TE) (tk : TA) : TE := fun σ H Q => ta σ H fun x H1 => x = .ref C ∧ tk σ H1 fun zs H2 => sp (gV [] zs) H2 Q E
theorem pe_smethK0 (he : PE X o ta) (r : CRead X.K C mc) (c : SMet X.K C mc m p g) (F : FnOk X.prog X.w X.K X.mg X.base CX k g fd ps sp) (hr : Room k X.A) (hb : KBinds X.K fd ps ks gg gV) (hx : Passes CX X E) (hkw : PK X kws tk)
    (hall : (backToKw pos (keywordEach kws X.env)).all (·.1.isSome) = true := by rfl) (hks : (backToKw pos (keywordEach kws X.env)).filterMap (·.1) = ks := by rfl)
    (hpl : ((backTo pos (starEach [] X.env)).any (·.1) || (backToKw pos (keywordEach kws X.env)).any (·.1.isNone)) = false := by rfl)
    (ht : eval (.Call (.Attribute o m apos) [] kws pos) X.env = (do
      let ov ← eval o X.env
      standAt apos.atName
      let (f, first) ← holding [ov] (getMethod ov m pl)
      callWith pos f first (backTo pos (starEach [] X.env)) (backToKw pos (keywordEach kws X.env))) := by rfl) :
    PE X (.Call (.Attribute o m apos) [] kws pos) (tSMethK C sp gV E ta tk) := by
  refine ⟨fun pins s σ H Q I h => ?_⟩
  refine PySem.W.methodCall_KW (pl := pl) (thn (he.run pins s σ H _ I h) fun u s1 ⟨x, H1, I1, rx, ex, q⟩ => ?_) ht
  subst ex
  obtain rfl : u = Value.ref C := rx
  refine getmethsm_ok I1 r c fun s2 I2 => ?_
  refine PySem.W.callWith_KW0 (h₀ := X.base) I2.ok.mod.kin c.kp hall (thn (hkw.run pos pins s2 σ H1 _ I2 q) fun ws s3 ⟨zs, H2, I3, rz, q2⟩ => ⟨I3.kIn, ?_⟩) hpl
  rw [hks]
  have r2 := hb.rel (vs := []) (us := []) .nil rz
  have hl : (gg [] ws).length = ps.length := by rw [← r2.length]; exact F.len _ _ _ _ q2
  refine wpAny_call (codeAny_mono (F.run X.A X.stack s3 H2 ⟨[], ks.zip ws⟩ (gg [] ws) (gV [] zs) Q E hr I3.env0 (hb.to s3 [] ws I3.kIn hl) r2 q2) fun r s' hq => ?_)
  cases r with
  | error e => exact hx _ σ H2 s3 e s' I3 hq
  | ok fl =>
    cases fl with
    | ret u => exact I3.after hq
    | next => exact False.elim hq
    | brk => exact False.elim hq
    | cont => exact False.elim hq
end
end ClX
namespace Ev
open PySem L2 PySem.Spec PyProof.Rows
abbrev sBText : Stmt := inClass (top 10) 0
def btF (i j : Int) : List (Str × V) := [("word", .int j), ("line", .int i)]
/-- BadText of line and word is told -/
def TellB (C : Addr) (i j : Int) (H : Hp) (E : XK) : Prop := ∀ (d : Addr) (H' : Hp), Same H H' → H d = none → H' d = some (.xd (btF i j)) → E (.ref C) (some d) H'
theorem TellB.on {C : Addr} {i j : Int} {H H1 : Hp} {E : XK} (h : TellB C i j H E) (s : Same H H1) : TellB C i j H1 E := fun d H' s1 n e => h d H' (s.trans s1) (Same.gone s n) e
def spBText (C : Addr) : Sp := fun vs H Q _ => ∃ (a : Addr) (i j : Int), vs = [.ref a, .int i, .int j] ∧ H a = some (exo a C none) ∧
  ∀ (d : Addr) (H' : Hp), H d = none → H' a = some (exo a C (some d)) → H' d = some (exd d (btF i j)) → (∀ b o, b ≠ a → H b = some o → H' b = some o) → Q .non H'
structure BTx (P : Program) (w : World) (K : PySem.W.Frag) (mg : Str → Option Value) (base : Heap) (C : Addr) : Prop where
  cl : OexC K C
  g : mg "BadText" = some (.ref C)
  ex : ∃ (f : Addr) (fd : FuncData), PySem.W.findIn K (.ref C) "__init__" = some (some (.ref f)) ∧ PySem.W.typeIn K (.ref f) = some (.type "function") ∧ FnOk P w K mg base CX0 3 f fd ["self", "line", "word"] (spBText C) ∧ Binds K fd ["self", "line", "word"] []
theorem raised2 {C : Addr} {H : Hp} {i j : Int} {E : XK} (k : TellB C i j H E) (a' : Addr) (na : H a' = none) :
    spBText C [.ref a', .int i, .int j] (upd H a' (exo a' C none)) (fun v' H2 => v' = .non ∧ ∃ (d : Addr) (fs : List (Str × V)), H2 a' = some (exo a' C (some d)) ∧ H2 d = some (exd d fs) ∧ H d = none ∧ E (.ref C) (some d) (upd (del H2 a') d (.xd fs))) (fun _ _ _ => False) := by
  refine ⟨a', i, j, rfl, upd_same, fun d H' nd ha' hd bt => ⟨rfl, d, _, ha', hd, ?_, ?_⟩⟩
  · have dne : d ≠ a' := fun z => by rw [z, upd_same] at nd; cases nd
    rw [upd_ne dne] at nd
    exact nd
  · have dne : d ≠ a' := fun z => by rw [z, upd_same] at nd; cases nd
    rw [upd_ne dne] at nd
    refine k d _ (fun b o e => ?_) nd upd_same
    rw [upd_ne (ne_of_none e nd), del_ne (ne_of_none e na)]
    exact bt b o (ne_of_none e na) (by rw [upd_ne (ne_of_none e na)]; exact e)
section
variable {P : Program} {w : World} {K : PySem.W.Frag} {mg : Str → Option Value} {base : Heap}
theorem scBText : FnScope ["self", "line", "word"] ["self", "line", "word"] (defScope sBText) := ⟨rfl, rfl, rfl, by decide +kernel, rfl, by decide +kernel, by decide +kernel⟩
theorem ok_bText {f C : Addr} {fd : FuncData} (F : Fun K "__init__" "BadText.__init__" sBText f fd) (T : OexC K C) (no : PySem.W.findIn K (.ref C) "line" = some none) (no2 : PySem.W.findIn K (.ref C) "word" = some none) (D : Df P w K mg base 2 "kept" ["value"] spKept) : FnOk P w K mg base CX0 3 f fd ["self", "line", "word"] (spBText C) := by
  obtain ⟨f1, fd1, G1, g1, k1, b1⟩ := D.ex
  refine F.ok scBText (fun vs H Q E h => ?_) (fun cdv A outer s H vs Q E hr h => ?_)
  · obtain ⟨a, i, j, rfl, _⟩ := h
    rfl
  · obtain ⟨a, i, j, rfl, ha, kk⟩ := h
    refine ⟨_, pss_cons (ps_ost (pv 0) (pe_call G1 hr (by rfl) g1 k1 b1 .nil pass0 (pa_cons (pv 1) pa_nil))) (pss_one (ps_ost (pv 0) (pe_call G1 hr (by rfl) g1 k1 b1 .nil pass0 (pa_cons (pv 2) pa_nil)))), ?_⟩
    refine ⟨_, rfl, .int i, "int", rfl, flat_int i, fun H1 s1 => ⟨_, rfl, a, C, rfl, T, no, .inl ⟨s1 _ _ ha, fun dx nx ne => ?_⟩⟩⟩
    have z1 : ∀ b o, b ≠ a → H1 b = some o → upd (upd H1 dx (exd dx [("line", .int i)])) a (exo a C (some dx)) b = some o := fun b o nb e => by rw [upd_ne nb, upd_ne (ne_of_none e nx)]; exact e
    have z2 : upd (upd H1 dx (exd dx [("line", .int i)])) a (exo a C (some dx)) a = some (exo a C (some dx)) := upd_same
    have z4 : upd (upd H1 dx (exd dx [("line", .int i)])) a (exo a C (some dx)) dx = some (exd dx [("line", .int i)]) := by rw [upd_ne ne]; exact upd_same
    generalize upd (upd H1 dx (exd dx [("line", .int i)])) a (exo a C (some dx)) = H2 at z1 z2 z4 ⊢
    refine ⟨_, rfl, .int j, "int", rfl, flat_int j, fun H3 s3 => ⟨_, rfl, a, C, rfl, T, no2, .inr ⟨dx, _, s3 _ _ z2, s3 _ _ z4, (by show 1 ≤ 900; decide), ?_⟩⟩⟩
    have y2 := s3 _ _ z2
    refine kk dx _ (Same.gone s1 nx) (by rw [upd_ne ne.symm]; exact y2) upd_same fun b o nb q => ?_
    rw [upd_ne (ne_of_none (s1 _ _ q) nx)]
    exact s3 _ _ (z1 _ _ nb (s1 _ _ q))
end
/-! ### a class in a local, called -/
section
variable {X : Cx} {CX : CXT} {k i : Nat} {f C : Addr} {fd : FuncData} {ps : List Str} {sp : Sp} {dvs : List V} {ds : List Value} {E : XK} {x : Str} {p pos : Pos} {e : Expr} {es : List Expr} {t : TA}
def tMakeL (i : Nat) (C : Addr) (sp : Sp) (dvs : List V) (E : XK) (t : TA) : TE := fun σ H Q => σ[i]? = some (some (.ref C)) ∧ tMake C sp dvs E t σ H Q
theorem pe_makeL (M : Mk X.K C f) (F : FnOk X.prog X.w X.K X.mg X.base CX k f fd ps sp) (hr : Room (k + 1) X.A) (hN : X.N[i]? = some x) (hv : Vis X.env.scope x) (hb : Binds X.K fd ps ds) (hd : Vals dvs ds) (hx : Passes CX X E)
    (ha : PA X (e :: es) t) (hdb : (x == ("__debug__" : Str)) = false := by decide) (hcd : (x == ("__classdict__" : Str)) = false := by decide) (he : starEach (e :: es) X.env = (false, eval e X.env) :: starEach es X.env := by rfl) (hpl : (backTo pos (starEach es X.env)).any (·.1) = false := by rfl) :
    PE X (.Call (.Name x p) (e :: es) [] pos) (tMakeL i C sp dvs E t) := by
  refine ⟨fun pins s σ H Q I h => ?_⟩
  obtain ⟨hs, ht⟩ := h
  refine wpAny_Call_Name_kw (thn ((pe_var (pos := p) hN hv hdb hcd).run pins s σ H (fun v H1 => v = .ref C ∧ H1 = H) I ⟨.ref C, hs, rfl, rfl⟩) fun u s1 ⟨v, H1, I1, r1, q1⟩ => ?_)
  obtain ⟨rfl, rfl⟩ := q1
  cases r1
  refine PySem.W.callWith_K (h₀ := X.base) I.ok.mod.kin M.kp (thn (ha.run pos pins s1 σ _ _ I1 ht) fun us s2 ⟨vs, H2, I2, r, q⟩ => ⟨I2.kIn, ?_⟩) he hpl
  exact run_make M F hr hb hd hx I2 r q
end
end Ev
namespace Ev
open PySem L2 PySem.Spec PyProof.Rows RZ
structure Fr where
  p : Int
  q : Int
  k : Int
  c : Int
  j : Int
structure Fr.ok (r : Fr) : Prop where
  p1 : 1 ≤ r.p
  p2 : r.p ≤ 12
  q1 : 1 ≤ r.q
  q2 : r.q ≤ 12
  k1 : -12 ≤ r.k
  k2 : r.k ≤ 12
  c1 : 1 ≤ r.c
  c2 : r.c ≤ 5
  j1 : 2 ≤ r.j
  j2 : r.j ≤ 6
def Fr.wd (r : Fr) : Int := if r.c > r.j then r.c else r.j
theorem lk_hit {k : Str} {v : V} {l : List (Str × V)} : List.lookup k ((k, v) :: l) = some v := by simp [List.lookup]
theorem lk_miss {k k' : Str} {v : V} {l : List (Str × V)} (h : ¬ k = k') : List.lookup k ((k', v) :: l) = List.lookup k l := by
  have : (k == k') = false := by simpa using h
  simp [List.lookup, this]
def fillF (a : Addr) (r : Fr) : List (Str × V) := [("times", .ref a), ("plus", .int r.k), ("cut_of", .int r.c), ("join_of", .int r.j), ("width", .int r.wd)]
def FAt (C : Addr) (H : Hp) (x : Addr) (r : Fr) : Prop := ∃ dx a, H x = some (.ins C dx (fillF a r)) ∧ H a = some (.tup [.int r.p, .int r.q])
theorem FAt.keep {C x : Addr} {H H' : Hp} {r : Fr} (h : FAt C H x r) (k : Same H H') : FAt C H' x r := by
  obtain ⟨dx, a, h1, h2⟩ := h
  exact ⟨dx, a, k _ _ h1, k _ _ h2⟩
theorem FAt.but {C x p : Addr} {H H' : Hp} {r : Fr} {xs : List V} (h : FAt C H x r) (hp : H p = some (.lst xs)) (k : But p H H') : FAt C H' x r := by
  obtain ⟨dx, a, h1, h2⟩ := h
  exact ⟨dx, a, k _ _ (ne_of h1 hp (by intro z; cases z)) h1, k _ _ (ne_of h2 hp (by intro z; cases z)) h2⟩
theorem fill_times (a : Addr) (r : Fr) : (fillF a r).lookup ("times" : Str) = some (.ref a) := lk_hit
theorem fill_plus (a : Addr) (r : Fr) : (fillF a r).lookup ("plus" : Str) = some (.int r.k) := (lk_miss (by decide +kernel)).trans lk_hit
theorem fill_cut (a : Addr) (r : Fr) : (fillF a r).lookup ("cut_of" : Str) = some (.int r.c) := (lk_miss (by decide +kernel)).trans ((lk_miss (by decide +kernel)).trans lk_hit)
theorem fill_join (a : Addr) (r : Fr) : (fillF a r).lookup ("join_of" : Str) = some (.int r.j) := (lk_miss (by decide +kernel)).trans ((lk_miss (by decide +kernel)).trans ((lk_miss (by decide +kernel)).trans lk_hit))
theorem fill_width (a : Addr) (r : Fr) : (fillF a r).lookup ("width" : Str) = some (.int r.wd) := (lk_miss (by decide +kernel)).trans ((lk_miss (by decide +kernel)).trans ((lk_miss (by decide +kernel)).trans ((lk_miss (by decide +kernel)).trans lk_hit)))
theorem fill_no (a : Addr) (r : Fr) {m : Str} (h1 : ¬ m = "times") (h2 : ¬ m = "plus") (h3 : ¬ m = "cut_of") (h4 : ¬ m = "join_of") (h5 : ¬ m = "width") : (fillF a r).lookup m = none := (lk_miss h1).trans ((lk_miss h2).trans ((lk_miss h3).trans ((lk_miss h4).trans ((lk_miss h5).trans rfl))))
theorem put_new {k : Str} {v : V} : ∀ {l : List (Str × V)}, (∀ e ∈ l, ¬ e.1 = k) → putF k v l = l ++ [(k, v)]
  | [], _ => rfl
  | (k', v') :: l, h => by
    show (if k' = k then _ else _) = _
    rw [if_neg (h _ List.mem_cons_self)]
    show (k', v') :: putF k v l = _
    rw [put_new (fun e he => h e (List.mem_cons_of_mem _ he))]
    rfl
theorem pf1 {a : V} : putF "times" a [] = ([("times", a)] : List (Str × V)) := rfl
theorem pf2 {a b : V} : putF "plus" b ([("times", a)] : List (Str × V)) = ([("times", a), ("plus", b)] : List (Str × V)) := put_new (by intro e0 he; simp only [List.mem_cons, List.not_mem_nil, or_false] at he; subst he; dsimp only; decide +kernel)
theorem pf3 {a b c : V} : putF "cut_of" c ([("times", a), ("plus", b)] : List (Str × V)) = ([("times", a), ("plus", b), ("cut_of", c)] : List (Str × V)) := put_new (by intro e0 he; simp only [List.mem_cons, List.not_mem_nil, or_false] at he; rcases he with rfl | rfl <;> (dsimp only; decide +kernel))
theorem pf4 {a b c d : V} : putF "join_of" d ([("times", a), ("plus", b), ("cut_of", c)] : List (Str × V)) = ([("times", a), ("plus", b), ("cut_of", c), ("join_of", d)] : List (Str × V)) := put_new (by intro e0 he; simp only [List.mem_cons, List.not_mem_nil, or_false] at he; rcases he with rfl | rfl | rfl <;> (dsimp only; decide +kernel))
theorem pf5 {a b c d e : V} : putF "width" e ([("times", a), ("plus", b), ("cut_of", c), ("join_of", d)] : List (Str × V)) = ([("times", a), ("plus", b), ("cut_of", c), ("join_of", d), ("width", e)] : List (Str × V)) := put_new (by intro e0 he; simp only [List.mem_cons, List.not_mem_nil, or_false] at he; rcases he with rfl | rfl | rfl | rfl <;> (dsimp only; decide +kernel))
/-- the class of fill rules -/
structure FCls (K : PySem.W.Frag) (C : Addr) : Prop where
  cl : Cls K C
  n1 : NoAttr K C "times"
  n2 : NoAttr K C "plus"
  n3 : NoAttr K C "cut_of"
  n4 : NoAttr K C "join_of"
  n5 : NoAttr K C "width"
def parts4 : List V := [.str "times", .str "plus", .str "cut_of", .str "join_of"]
/-- the tables PARTS and BOUNDS -/
structure TabF (K : PySem.W.Frag) (w : World) (mg : Str → Option Value) (TP D D1 D2 D3 : Addr) : Prop where
  gP : mg "PARTS" = some (.ref TP)
  tP : ∀ H : Hp, SqT K H TP parts4
  gB : mg "BOUNDS" = some (.ref D)
  kd : ∃ es n, KDict K w D es n
  l1 : PySem.W.nsIn K D "plus" = some (some (.ref D1))
  l2 : PySem.W.nsIn K D "cut_of" = some (some (.ref D2))
  l3 : PySem.W.nsIn K D "join_of" = some (some (.ref D3))
  t1 : ∀ H : Hp, SqT K H D1 [.int (-12), .int 12]
  t2 : ∀ H : Hp, SqT K H D2 [.int 1, .int 5]
  t3 : ∀ H : Hp, SqT K H D3 [.int 2, .int 6]
/-- what a word's value is -/
inductive Wv
  | no
  | nu (i : Int)
  | pr (p q : Int)
def wvO (l : List Nat) : Wv := if 47 ∈ l then (match pairW l with | some (p, q) => .pr p q | none => .no) else if can l = true then .nu (val l) else .no
def WvAt (H : Hp) (v : V) : Wv → Prop
  | .no => v = .non
  | .nu i => v = .int i
  | .pr p q => ∃ r : Addr, v = .ref r ∧ H r = some (.tup [.int p, .int q])
theorem WvAt.keep {H H' : Hp} {v : V} {o : Wv} (h : WvAt H v o) (k : Same H H') : WvAt H' v o := by
  cases o with
  | no => exact h
  | nu i => exact h
  | pr p q =>
    obtain ⟨r, e, h⟩ := h
    exact ⟨r, e, k _ _ h⟩
def partS (j : Nat) : Str := if j = 1 then "times" else if j = 2 then "plus" else if j = 3 then "cut_of" else "join_of"
def stB (j : Nat) : Wv → Bool
  | .no => false
  | .nu i => if j = 1 then false else if j = 2 then inB (-12) 12 (.int i) else if j = 3 then inB 1 5 (.int i) else inB 2 6 (.int i)
  | .pr p q => if j = 1 then pairB 12 (some [.int p, .int q]) else false
abbrev sWordV : Stmt := sWordValue
def spWordV : Sp := fun vs H Q _ => ∃ l : List Nat, vs = [.str (Sx l)] ∧ l.length ≤ 3300 ∧ ∀ v H', Same H H' → WvAt H' v (wvO l) → Q v H'
def spCan : Sp := fun vs H Q _ => ∃ (j : Nat) (v : V) (o : Wv), vs = [.str (partS j), v] ∧ 1 ≤ j ∧ j ≤ 4 ∧ WvAt H v o ∧ ∀ H', Same H H' → Q (.bl (stB j o)) H'
theorem pairQ_int {H : Hp} {a : Addr} {i j : Int} (h : H a = some (.tup [.int i, .int j])) : PairQ H (.ref a) (some [.int i, .int j]) := ⟨a, rfl, h, (by show 2 ≤ 1000; decide), fun x m => by
  simp only [List.mem_cons, List.not_mem_nil, or_false] at m
  rcases m with rfl | rfl <;> exact .inl ⟨_, rfl⟩⟩
theorem wv_pair {H : Hp} {v : V} {o : Wv} (h : WvAt H v o) : PairQ H v (match o with | .pr p q => some [.int p, .int q] | _ => none) := by
  cases o with
  | no =>
    obtain rfl : v = .non := h
    exact ⟨"NoneType", fun _ _ _ => .base .non, by decide +kernel⟩
  | nu i =>
    obtain rfl : v = .int i := h
    exact ⟨"int", fun _ _ _ => .base (.int i), by decide +kernel⟩
  | pr p q =>
    obtain ⟨r, rfl, h⟩ := h
    exact pairQ_int h
theorem wv_int {H : Hp} {v : V} {o : Wv} (h : WvAt H v o) : IntQ H v := by
  cases o with
  | no =>
    obtain rfl : v = .non := h
    exact .inr ⟨fun i z => (by cases z), "NoneType", false, false, fun _ _ _ => .base .non, by decide +kernel, by decide +kernel, fun z => z⟩
  | nu i =>
    obtain rfl : v = .int i := h
    exact .inl ⟨i, rfl⟩
  | pr p q =>
    obtain ⟨r, rfl, h⟩ := h
    exact .inr ⟨fun i z => (by cases z), "tuple", false, false, fun _ H' k => .base (.tup (k _ _ h fun _ z => by cases z)), by decide +kernel, by decide +kernel, fun z => z⟩
theorem wv_inB {H : Hp} {v : V} {o : Wv} (h : WvAt H v o) {j : Nat} (hj : ¬ j = 1) : (if j = 2 then inB (-12) 12 v else if j = 3 then inB 1 5 v else inB 2 6 v) = stB j o := by
  unfold stB
  cases o with
  | no =>
    obtain rfl : v = .non := h
    by_cases z : j = 2
    · rw [if_pos z]; rfl
    · by_cases z3 : j = 3
      · rw [if_neg z, if_pos z3]; rfl
      · rw [if_neg z, if_neg z3]; rfl
  | nu i =>
    obtain rfl : v = .int i := h
    simp only [if_neg hj]
  | pr p q =>
    obtain ⟨r, rfl, h⟩ := h
    simp only [if_neg hj]
    by_cases z : j = 2
    · rw [if_pos z]; rfl
    · by_cases z3 : j = 3
      · rw [if_neg z, if_pos z3]; rfl
      · rw [if_neg z, if_neg z3]; rfl
section
variable {P : Program} {w : World} {K : PySem.W.Frag} {mg : Str → Option Value} {base : Heap}
theorem scWordV : FnScope ["word"] ["word"] (defScope sWordV) := ⟨rfl, rfl, rfl, by decide +kernel, rfl, by decide +kernel, by decide +kernel⟩
theorem ok_wordV {f : Addr} {fd : FuncData} (F : Fun K "word_value" "word_value" sWordV f fd) (D1 : Df P w K mg base 1 "read_number" ["word"] spReadN) (D2 : Df P w K mg base 2 "read_pair" ["word"] spReadP) : FnOk P w K mg base CX0 3 f fd ["word"] spWordV := by
  obtain ⟨f1, fd1, G1, g1, k1, b1⟩ := D1.ex
  obtain ⟨f2, fd2, G2, g2, k2, b2⟩ := D2.ex
  refine F.ok scWordV (fun vs H Q E h => ?_) (fun cdv A outer s H vs Q E hr h => ?_)
  · obtain ⟨l, rfl, _⟩ := h
    rfl
  · obtain ⟨l, rfl, hl, kk⟩ := h
    refine ⟨_, pss_one (ps_ret (pe_ifExp (pt_cmpR op_in_sign pe_str (pv 0) rfl) (pe_call G2 hr (by rfl) g2 k2 b2 .nil pass0 (pa_cons (pv 0) pa_nil)) (pe_call G1 (hr.mono (by decide)) (by rfl) g1 k1 b1 .nil pass0 (pa_cons (pv 0) pa_nil)))), ?_⟩
    refine ⟨_, rfl, 47, Sx l, rfl, rfl, _, rfl, ?_⟩
    have e : (Sx l).cps.toList = l := by simp [Sx, SX.S]
    rw [e]
    by_cases hs : 47 ∈ l
    · rw [decide_eq_true hs]
      refine iteT ⟨_, rfl, l, rfl, hl, ?_⟩
      have wo : wvO l = (match pairW l with | some (p, q) => .pr p q | none => .no) := by unfold wvO; rw [if_pos hs]
      rw [wo] at kk
      cases e : pairW l with
      | none =>
        rw [e] at kk
        exact fun H' s1 => kk _ _ s1 rfl
      | some pq =>
        obtain ⟨p, q⟩ := pq
        rw [e] at kk
        exact fun r H' s1 hr => kk _ _ s1 ⟨r, rfl, hr⟩
    · rw [decide_eq_false hs]
      refine iteF ⟨_, rfl, l, rfl, hl, ?_⟩
      have wo : wvO l = if can l = true then .nu (val l) else .no := by unfold wvO; rw [if_neg hs]
      rw [wo] at kk
      cases e : can l with
      | true =>
        rw [e] at kk
        exact kk _ _ (Same.refl H) rfl
      | false =>
        rw [e] at kk
        exact kk _ _ (Same.refl H) rfl
theorem scCanBe : FnScope ["part", "value", "low", "high"] ["part", "value"] (defScope sCanBe) := ⟨rfl, rfl, rfl, by decide +kernel, rfl, by decide +kernel, by decide +kernel⟩
theorem ok_canBe {f TP D Da Db Dc : Addr} {fd : FuncData} (F : Fun K "can_be" "can_be" sCanBe f fd) (B : TabF K w mg TP D Da Db Dc) {t : Tok} (gM : mg "MOST_TIMES" = some (.int 12 t)) (D1 : Df P w K mg base 3 "is_pair" ["value", "most"] spPairA) (D2 : Df P w K mg base 2 "is_within" ["value", "least", "most"] spWithinA) : FnOk P w K mg base CX0 4 f fd ["part", "value"] spCan := by
  obtain ⟨f1, fd1, G1, g1, k1, b1⟩ := D1.ex
  obtain ⟨f2, fd2, G2, g2, k2, b2⟩ := D2.ex
  obtain ⟨es, n, kd⟩ := B.kd
  refine F.ok scCanBe (fun vs H Q E h => ?_) (fun cdv A outer s H vs Q E hr h => ?_)
  · obtain ⟨part, v, o, rfl, _⟩ := h
    rfl
  · obtain ⟨j, v, o, rfl, j1, j4, hv, kk⟩ := h
    refine ⟨_, (pss_cons (ps_if (pt_cmpR op_eq (pv 0) pe_str (nomark _))
        (pss_one (ps_ret (pe_call G1 hr (by rfl) g1 k1 b1 .nil pass0 (pa_cons (pv 1) (pa_cons (pe_glob (v := .int 12) rfl gM ⟨_, rfl⟩) pa_nil))))) pss_nil)
      (pss_cons (ps_asg (pe_ix ix_kdict (pe_glob (v := .ref D) (by rfl) B.gB rfl) (pv 0) (fun _ _ => rfl)) (pg_tup (by rfl) (pgs_cons (pg_name (i := 2) scCanBe.nd rfl (.inl rfl)) (pgs_cons (pg_name (i := 3) scCanBe.nd rfl (.inl rfl)) pgs_nil))))
      (pss_one (ps_ret (pe_call G2 (hr.mono (by decide)) (by rfl) g2 k2 b2 .nil pass0 (pa_cons (pv 1) (pa_cons (pv 2) (pa_cons (pv 3) pa_nil)))))))), ?_⟩
    refine ⟨_, rfl, rfl, _, rfl, ?_⟩
    rcases (show j = 1 ∨ j = 2 ∨ j = 3 ∨ j = 4 by omega) with rfl | rfl | rfl | rfl
    · rw [show decide (V.str (partS 1) = V.str "times") = true from decide_eq_true rfl]
      refine iteT ⟨_, rfl, v, _, _, rfl, wv_pair hv, fun H' s1 => ?_⟩
      have := kk H' s1
      unfold stB at this
      cases o with
      | no => exact this
      | nu i => exact this
      | pr p q => exact this
    · rw [show decide (V.str (partS 2) = V.str "times") = false from decide_eq_false fun z => absurd (V.str.inj z) (by decide +kernel)]
      refine iteF ⟨_, rfl, D, "plus", .ref Da, rfl, rfl, ⟨es, n, .ref Da, kd.at_, kd.lit, B.l1, rfl⟩, Da, _, rfl, B.t1 _, rfl, _, _, rfl, _, _, rfl, rfl, ?_⟩
      refine ⟨_, rfl, _, rfl, _, rfl, v, _, _, rfl, wv_int hv, ?_⟩
      have := wv_inB hv (j := 2) (by decide)
      rw [show inB (-12) 12 v = stB 2 o from this]
      exact kk _ (Same.refl _)
    · rw [show decide (V.str (partS 3) = V.str "times") = false from decide_eq_false fun z => absurd (V.str.inj z) (by decide +kernel)]
      refine iteF ⟨_, rfl, D, "cut_of", .ref Db, rfl, rfl, ⟨es, n, .ref Db, kd.at_, kd.lit, B.l2, rfl⟩, Db, _, rfl, B.t2 _, rfl, _, _, rfl, _, _, rfl, rfl, ?_⟩
      refine ⟨_, rfl, _, rfl, _, rfl, v, _, _, rfl, wv_int hv, ?_⟩
      have := wv_inB hv (j := 3) (by decide)
      rw [show inB 1 5 v = stB 3 o from this]
      exact kk _ (Same.refl _)
    · rw [show decide (V.str (partS 4) = V.str "times") = false from decide_eq_false fun z => absurd (V.str.inj z) (by decide +kernel)]
      refine iteF ⟨_, rfl, D, "join_of", .ref Dc, rfl, rfl, ⟨es, n, .ref Dc, kd.at_, kd.lit, B.l3, rfl⟩, Dc, _, rfl, B.t3 _, rfl, _, _, rfl, _, _, rfl, rfl, ?_⟩
      refine ⟨_, rfl, _, rfl, _, rfl, v, _, _, rfl, wv_int hv, ?_⟩
      have := wv_inB hv (j := 4) (by decide)
      rw [show inB 2 6 v = stB 4 o from this]
      exact kk _ (Same.refl _)
def spFillInit (C : Addr) : Sp := fun vs H Q _ => ∃ (x dx a : Addr) (r : Fr), vs = [.ref x, .ref a, .int r.k, .int r.c, .int r.j] ∧ H x = some (.ins C dx []) ∧ H a = some (.tup [.int r.p, .int r.q]) ∧ r.ok ∧
  ∀ H', But x H H' → H' x = some (.ins C dx (fillF a r)) → Q .non H'
theorem inB_of {l m i : Int} (h1 : l ≤ i) (h2 : i ≤ m) : inB l m (.int i) = true := by
  show (decide (l ≤ i) && decide (i ≤ m)) = true
  rw [decide_eq_true h1, decide_eq_true h2]; rfl
theorem scFillRule_init : FnScope ["self", "times", "plus", "cut_of", "join_of", "part", "value"] ["self", "times", "plus", "cut_of", "join_of"] (defScope sFillRule_init) := ⟨rfl, rfl, rfl, by decide +kernel, rfl, by decide +kernel, by decide +kernel⟩
theorem ok_fillInit {f C TP D Da Db Dc : Addr} {fd : FuncData} {dvs : List V} {kws : List (Str × V)} (F : FunD K "__init__" "FillRule.__init__" (defArgs sFillRule_init) (defBody sFillRule_init) (defScope sFillRule_init) dvs kws f fd) (T : FCls K C) (mz : mg "zip" = none) (B : TabF K w mg TP D Da Db Dc) (D1 : Df P w K mg base 4 "can_be" ["part", "value"] spCan) : FnOk P w K mg base CX0 5 f fd ["self", "times", "plus", "cut_of", "join_of"] (spFillInit C) := by
  obtain ⟨f1, fd1, G1, g1, k1, b1⟩ := D1.ex
  refine F.ok scFillRule_init (fun vs H Q E h => ?_) (fun cdv A outer s H vs Q E hr h => ?_)
  · obtain ⟨x, dx, a, r, rfl, _⟩ := h
    rfl
  · obtain ⟨x, dx, a, r, rfl, hx, ha, o, kk⟩ := h
    refine ⟨_, PSs.nox (pss_cons (ps_for PassesOwn.never rfl (pi_zipA (by rfl) mz (pa_cons (pe_glob (v := .ref TP) rfl B.gP rfl) (pa_cons (pe_tup (pa_cons (pv 1) (pa_cons (pv 2) (pa_cons (pv 3) (pa_cons (pv 4) pa_nil))))) pa_nil))) (pg_tup (by rfl) (pgs_cons (pg_name (i := 5) scFillRule_init.nd rfl (.inl rfl)) (pgs_cons (pg_name (i := 6) scFillRule_init.nd rfl (.inl rfl)) pgs_nil)))
        (pss_one (ps_if (pt_not (pt_val (pe_call G1 hr (by rfl) g1 k1 b1 .nil pass0 (pa_cons (pv 5) (pa_cons (pv 6) pa_nil)))))
          (pss_one ps_never) pss_nil)))
      (pss_cons (ps_fld (pv 0) (pv 1) rfl)
      (pss_cons (ps_fld (pv 0) (pv 2) rfl)
      (pss_cons (ps_fld (pv 0) (pv 3) rfl)
      (pss_cons (ps_fld (pv 0) (pv 4) rfl)
      (pss_one (ps_fld (pv 0) (pe_ifExp (pt_cmpR op_gt (pv 3) (pv 4) (nomark _)) (pv 3) (pv 4)) rfl))))))), ?_⟩
    refine ⟨_, rfl, _, rfl, _, rfl, _, rfl, (by show 4 ≤ sizeLine; decide), fun t nt => ⟨TP, t, parts4, [.ref a, .int r.k, .int r.c, .int r.j], rfl, .inr ⟨B.tP _, SqT.of upd_same, ?_⟩⟩⟩
    have s1 : Same H (upd H t (.tup [.ref a, .int r.k, .int r.c, .int r.j])) := same_new nt
    have ht : upd H t (.tup [.ref a, .int r.k, .int r.c, .int r.j]) t = some (.tup [.ref a, .int r.k, .int r.c, .int r.j]) := upd_same
    generalize upd H t (.tup [.ref a, .int r.k, .int r.c, .int r.j]) = H1 at s1 ht ⊢
    refine for_zipT (xs := parts4) (ys := [.ref a, .int r.k, .int r.c, .int r.j]) rfl (fun _ σ H' => (∃ v5 v6 : Option V, σ = [some (.ref x), some (.ref a), some (.int r.k), some (.int r.c), some (.int r.j), v5, v6]) ∧ Same H1 H') ⟨⟨_, _, rfl⟩, Same.refl _⟩ (fun i σ H' h => ⟨B.tP _, SqT.of (h.2 _ _ ht)⟩) (fun i xv yv Tp σ H' ex ey h nT => ?_) (fun σ H' h => ?_)
    · obtain ⟨⟨v5, v6, rfl⟩, s2⟩ := h
      have s3 : Same H1 (upd H' Tp (.tup [xv, yv])) := s2.trans (same_new nT)
      have hT : upd H' Tp (.tup [xv, yv]) Tp = some (.tup [xv, yv]) := upd_same
      generalize upd H' Tp (.tup [xv, yv]) = H2 at s3 hT ⊢
      have hil : i < 4 := (List.getElem?_eq_some_iff.mp ex).1
      have hc : ∃ j o, xv = .str (partS j) ∧ 1 ≤ j ∧ j ≤ 4 ∧ WvAt H2 yv o ∧ stB j o = true := by
        rcases (show i = 0 ∨ i = 1 ∨ i = 2 ∨ i = 3 by omega) with rfl | rfl | rfl | rfl
        · obtain rfl := Option.some.inj ex; obtain rfl := Option.some.inj ey
          refine ⟨1, .pr r.p r.q, rfl, by decide, by decide, ⟨a, rfl, s3 _ _ (s1 _ _ ha)⟩, ?_⟩
          show (inB 1 12 (.int r.p) && inB 1 12 (.int r.q)) = true
          rw [inB_of o.p1 o.p2, inB_of o.q1 o.q2]; rfl
        · obtain rfl := Option.some.inj ex; obtain rfl := Option.some.inj ey
          exact ⟨2, .nu r.k, rfl, by decide, by decide, rfl, inB_of o.k1 o.k2⟩
        · obtain rfl := Option.some.inj ex; obtain rfl := Option.some.inj ey
          exact ⟨3, .nu r.c, rfl, by decide, by decide, rfl, inB_of o.c1 o.c2⟩
        · obtain rfl := Option.some.inj ex; obtain rfl := Option.some.inj ey
          exact ⟨4, .nu r.j, rfl, by decide, by decide, rfl, inB_of o.j1 o.j2⟩
      obtain ⟨j, o', rfl, j1, j4, hc, hst⟩ := hc
      refine ⟨Tp, _, rfl, SqT.of hT, rfl, _, _, rfl, _, _, rfl, rfl, ?_⟩
      refine ⟨_, rfl, _, rfl, j, yv, o', rfl, j1, j4, hc, fun H3 s4 => ⟨_, rfl, ?_⟩⟩
      rw [hst]
      exact iteF ⟨⟨_, _, rfl⟩, s3.trans s4⟩
    · obtain ⟨⟨v5, v6, rfl⟩, s2⟩ := h
      have s3 := s1.trans s2
      refine ⟨_, rfl, _, rfl, x, C, dx, _, rfl, s3 _ _ hx, T.cl, T.n1, (by show 0 < 1000; decide), ?_⟩
      refine ⟨_, rfl, _, rfl, x, C, dx, _, rfl, upd_same, T.cl, T.n2, (by rw [pf1]; show 1 < 1000; decide), ?_⟩
      refine ⟨_, rfl, _, rfl, x, C, dx, _, rfl, upd_same, T.cl, T.n3, (by rw [pf1, pf2]; show 2 < 1000; decide), ?_⟩
      refine ⟨_, rfl, _, rfl, x, C, dx, _, rfl, upd_same, T.cl, T.n4, (by rw [pf1, pf2, pf3]; show 3 < 1000; decide), ?_⟩
      rw [pf1, pf2, pf3, pf4]
      have t4 : ∀ o1 o2 o3 o4 : HO, But x H (upd (upd (upd (upd H' x o1) x o2) x o3) x o4) := fun o1 o2 o3 o4 => (Same.but s3).trans (But.upd_at.trans (But.upd_at.trans (But.upd_at.trans But.upd_at)))
      refine ⟨_, rfl, _, rfl, _, _, rfl, rfl, _, rfl, ite2 (fun e => ?_) (fun e => ?_)⟩
      · have e := of_decide_eq_true e
        refine ⟨_, rfl, _, rfl, x, C, dx, _, rfl, upd_same, T.cl, T.n5, (by show 4 < 1000; decide), kk _ ((t4 _ _ _ _).trans But.upd_at) ?_⟩
        rw [upd_same, pf5]
        unfold fillF Fr.wd
        rw [if_pos e]
      · have e : ¬ (r.c > r.j) := fun z => e (decide_eq_true z)
        refine ⟨_, rfl, _, rfl, x, C, dx, _, rfl, upd_same, T.cl, T.n5, (by show 4 < 1000; decide), kk _ ((t4 _ _ _ _).trans But.upd_at) ?_⟩
        rw [upd_same, pf5]
        unfold fillF Fr.wd
        rw [if_neg e]
end
end Ev
namespace Ev
open PySem L2 PySem.Spec PyProof.Rows
def nW (lo hi : Int) (l : List Nat) : Option Int := if can l = true ∧ lo ≤ val l ∧ val l ≤ hi then some (val l) else none
def pW (m : Int) (l : List Nat) : Option (Int × Int) := match pcz 47 l with
  | [a, b] => match nW 1 m a, nW 1 m b with
    | some x, some y => some (x, y)
    | _, _ => none
  | _ => none
theorem nW_some {lo hi : Int} {l : List Nat} {x : Int} (h : nW lo hi l = some x) : can l = true ∧ x = val l ∧ lo ≤ x ∧ x ≤ hi := by
  unfold nW at h
  split at h
  · rename_i z
    cases h
    exact ⟨z.1, rfl, z.2.1, z.2.2⟩
  · cases h
theorem pW_some {m : Int} {l : List Nat} {x y : Int} (h : pW m l = some (x, y)) : ∃ a b, pcz 47 l = [a, b] ∧ nW 1 m a = some x ∧ nW 1 m b = some y := by
  unfold pW at h
  split at h
  · rename_i a b e
    split at h
    · rename_i x' y' e1 e2
      cases h
      exact ⟨a, b, e, e1, e2⟩
    · cases h
  · cases h
theorem pW_bnd {m : Int} {l : List Nat} {x y : Int} (h : pW m l = some (x, y)) : (1 ≤ x ∧ x ≤ m) ∧ 1 ≤ y ∧ y ≤ m := by
  obtain ⟨a, b, _, h1, h2⟩ := pW_some h
  exact ⟨(nW_some h1).2.2, (nW_some h2).2.2⟩
def prW (p q : Int) : List Nat := txc p ++ 47 :: txc q
def jz (s : Nat) (ws : List (List Nat)) : List Nat := TL.joinL [s] ws
theorem jz_cons (s : Nat) (a b : List Nat) (r : List (List Nat)) : jz s (a :: b :: r) = a ++ s :: jz s (b :: r) := rfl
theorem jz_spl (s : Nat) : ∀ (a acc : List Nat), jz s (TL.spl [s] 0 acc a) = acc ++ a := by
  intro a
  induction a with
  | nil =>
    intro acc
    rw [TL.spl_nil]
    simp [jz, TL.joinL]
  | cons c a ih =>
    intro acc
    by_cases h : c = s
    · rw [TL.spl_hit (by rw [preS, h]; simp)]
      have e := ih []
      have ne : TL.spl [s] 0 [] a ≠ [] := by
        intro z
        have := ih []
        cases a with
        | nil => rw [TL.spl_nil] at z; cases z
        | cons d t =>
          rw [z] at this
          cases this
      show jz s (acc :: TL.spl [s] 0 [] a) = _
      cases e2 : TL.spl [s] 0 [] a with
      | nil => exact absurd e2 ne
      | cons x y =>
        rw [jz_cons, ← e2, e, h]
        rfl
    · rw [TL.spl_miss (by rw [preS]; simp [h]), ih]
      simp
theorem jz_pcz (s : Nat) (L : List Nat) : jz s (pcz s L) = L := jz_spl s L []
theorem pcz_jz {s : Nat} : ∀ ws : List (List Nat), ws ≠ [] → (∀ l ∈ ws, s ∉ l) → pcz s (jz s ws) = ws := by
  intro ws
  induction ws with
  | nil => intro h _; exact absurd rfl h
  | cons a r ih =>
    intro _ h
    cases r with
    | nil => exact pcz_none (h a List.mem_cons_self)
    | cons c t =>
      rw [jz_cons, pcz_sep, ih (by simp) fun l hl => h l (List.mem_cons_of_mem _ hl), pcz_none (h a List.mem_cons_self)]
      rfl
theorem txc_sign {i : Int} {c : Nat} (h : c ∈ txc i) : c = 45 ∨ (48 ≤ c ∧ c ≤ 57) := by
  unfold txc at h
  split at h
  · rcases List.mem_cons.mp h with z | z
    · exact .inl z
    · exact .inr (TL.numL_digits _ c z)
  · exact .inr (TL.numL_digits _ c h)
theorem can_sign {l : List Nat} (h : can l = true) {c : Nat} (hc : c ∈ l) : c = 45 ∨ (48 ≤ c ∧ c ≤ 57) := by
  rw [← txc_val h] at hc
  exact txc_sign hc
theorem nW_back {lo hi : Int} {l : List Nat} {x : Int} (h : nW lo hi l = some x) : l = txc x := by
  obtain ⟨h1, rfl, _⟩ := nW_some h
  exact (txc_val h1).symm
theorem nW_txc {lo hi x : Int} (h1 : lo ≤ x) (h2 : x ≤ hi) : nW lo hi (txc x) = some x := by
  unfold nW
  rw [val_txc, if_pos ⟨can_txc x, h1, h2⟩]
theorem pW_back {m : Int} {l : List Nat} {x y : Int} (h : pW m l = some (x, y)) : l = prW x y := by
  obtain ⟨a, b, e, h1, h2⟩ := pW_some h
  have j := jz_pcz 47 l
  rw [e, jz_cons] at j
  rw [← j, nW_back h1, nW_back h2]
  rfl
theorem pcz_prW (x y : Int) : pcz 47 (prW x y) = [txc x, txc y] := by
  have no : ∀ i : Int, 47 ∉ txc i := fun i h => by
    have := txc_sign h
    omega
  have e : prW x y = jz 47 [txc x, txc y] := rfl
  rw [e]
  exact pcz_jz _ (by simp) fun l hl => by
    simp only [List.mem_cons, List.not_mem_nil, or_false] at hl
    rcases hl with rfl | rfl <;> exact no _
theorem pW_prW {m x y : Int} (h1 : 1 ≤ x) (h2 : x ≤ m) (h3 : 1 ≤ y) (h4 : y ≤ m) : pW m (prW x y) = some (x, y) := by
  unfold pW
  rw [pcz_prW]
  show (match nW 1 m (txc x), nW 1 m (txc y) with
    | some x, some y => some (x, y)
    | _, _ => none) = _
  rw [nW_txc h1 h2, nW_txc h3 h4]
def wz (l : List Nat) : V := .str (Sx l)
def optV : Option Nat → V
  | none => .non
  | some n => .int (n : Int)
theorem walk_enumT {K : PySem.W.Frag} {a : Addr} {us : List V} {k0 : Int} (h : ∀ H, SqT K H a us) : Walk (IteT K a k0) us.length (fun _ => True) (YPair (fun i => some (.int (k0 + (i : Int)))) (fun i => us[i]?)) := by
  refine ⟨fun i H hi _ => ⟨us, h H, hi⟩, fun H _ => ⟨us, h H, rfl⟩, fun i H v H' _ _ y => ?_⟩
  obtain ⟨T, x, h1, h2, h3, h4⟩ := y
  exact ⟨T, .int (k0 + (i : Int)), x, h1, h2, h3, rfl, h4 us (h H)⟩
theorem pcz_ne (s : Nat) (L : List Nat) : pcz s L ≠ [] := by
  have : ∀ (a acc : List Nat), TL.spl [s] 0 acc a ≠ [] := by
    intro a
    induction a with
    | nil => intro acc; rw [TL.spl_nil]; simp
    | cons c a ih =>
      intro acc
      by_cases h : c = s
      · rw [TL.spl_hit (by rw [preS, h]; simp)]
        exact List.cons_ne_nil _ _
      · rw [TL.spl_miss (by rw [preS]; simp [h])]
        exact ih _
  exact this L []
def wFill : List Nat := [102, 105, 108, 108]
def stW (j : Nat) (l : List Nat) : Bool := stB j (wvO l)
def stS (ws : List (List Nat)) (j : Nat) : Bool := match ws[j]? with
  | some l => stW j l
  | none => false
/-- the first word that cannot stand, or lacks, or is too much -/
def wrF (ws : List (List Nat)) : Option Nat :=
  if ws[0]? ≠ some wFill then some 0 else if stS ws 1 = false then some 1 else if stS ws 2 = false then some 2 else if stS ws 3 = false then some 3 else if stS ws 4 = false then some 4 else if 5 < ws.length then some 5 else none
theorem wr_head {ws : List (List Nat)} (h : ws[0]? ≠ some wFill) : wrF ws = some 0 := by unfold wrF; rw [if_pos h]
theorem wr_at {ws : List (List Nat)} {j : Nat} (h : ws[0]? = some wFill) (ok : ∀ i, 1 ≤ i → i < j → stS ws i = true) (h1 : 1 ≤ j) (h4 : j ≤ 4) (n : stS ws j = false) : wrF ws = some j := by
  unfold wrF
  rw [if_neg (by simp [h])]
  rcases (show j = 1 ∨ j = 2 ∨ j = 3 ∨ j = 4 by omega) with rfl | rfl | rfl | rfl
  · rw [if_pos n]
  · rw [if_neg (by rw [ok 1 (by decide) (by decide)]; decide), if_pos n]
  · rw [if_neg (by rw [ok 1 (by decide) (by decide)]; decide), if_neg (by rw [ok 2 (by decide) (by decide)]; decide), if_pos n]
  · rw [if_neg (by rw [ok 1 (by decide) (by decide)]; decide), if_neg (by rw [ok 2 (by decide) (by decide)]; decide), if_neg (by rw [ok 3 (by decide) (by decide)]; decide), if_pos n]
theorem wr_end {ws : List (List Nat)} (h : ws[0]? = some wFill) (ok : ∀ i, 1 ≤ i → i < 5 → stS ws i = true) : wrF ws = if 5 < ws.length then some 5 else none := by
  unfold wrF
  rw [if_neg (by simp [h]), if_neg (by rw [ok 1 (by decide) (by decide)]; decide), if_neg (by rw [ok 2 (by decide) (by decide)]; decide), if_neg (by rw [ok 3 (by decide) (by decide)]; decide), if_neg (by rw [ok 4 (by decide) (by decide)]; decide)]
theorem can_47 {l : List Nat} (hs : 47 ∈ l) : can l = false := by
  cases e : can l with
  | false => rfl
  | true =>
    have := can_sign e hs
    omega
theorem st_pW (l : List Nat) : stW 1 l = (pW 12 l).isSome := by
  unfold stW wvO
  by_cases hs : 47 ∈ l
  · rw [if_pos hs]
    unfold pW pairW
    generalize pcz 47 l = X
    match X with
    | [] => rfl
    | [_] => rfl
    | _ :: _ :: _ :: _ => rfl
    | [a, b] =>
      show stB 1 (match (if can a = true ∧ can b = true then some (val a, val b) else none : Option (Int × Int)) with | some (p, q) => Wv.pr p q | none => Wv.no) = (match nW 1 12 a, nW 1 12 b with | some x, some y => some (x, y) | _, _ => none).isSome
      unfold nW
      by_cases ha : can a = true
      · by_cases hb : can b = true
        · rw [if_pos ⟨ha, hb⟩]
          show ((decide (1 ≤ val a) && decide (val a ≤ 12)) && (decide (1 ≤ val b) && decide (val b ≤ 12))) = _
          by_cases z1 : 1 ≤ val a ∧ val a ≤ 12
          · by_cases z2 : 1 ≤ val b ∧ val b ≤ 12
            · simp [ha, hb, z1, z2]
            · rw [if_pos ⟨ha, z1⟩, if_neg (fun z => z2 z.2)]
              rw [show (decide (1 ≤ val b) && decide (val b ≤ 12)) = false by rw [← Bool.decide_and]; exact decide_eq_false z2]
              simp
          · rw [if_neg (show ¬ (can a = true ∧ 1 ≤ val a ∧ val a ≤ 12) from fun z => z1 z.2)]
            rw [show (decide (1 ≤ val a) && decide (val a ≤ 12)) = false by rw [← Bool.decide_and]; exact decide_eq_false z1]
            simp
        · rw [if_neg (fun z => hb z.2), if_neg (show ¬ (can b = true ∧ 1 ≤ val b ∧ val b ≤ 12) from fun z => hb z.1)]
          show false = _
          split <;> simp_all
      · rw [if_neg (fun z => ha z.1), if_neg (show ¬ (can a = true ∧ 1 ≤ val a ∧ val a ≤ 12) from fun z => ha z.1)]
        rfl
  · rw [if_neg hs]
    unfold pW
    rw [pcz_none hs]
    by_cases z : can l = true
    · rw [if_pos z]; rfl
    · rw [if_neg z]; rfl
theorem st_num {j : Nat} {lo hi : Int} (hj : ¬ j = 1) (hb : ∀ i : Int, stB j (.nu i) = (decide (lo ≤ i) && decide (i ≤ hi))) (l : List Nat) : stW j l = (nW lo hi l).isSome := by
  unfold stW wvO nW
  by_cases hs : 47 ∈ l
  · rw [if_pos hs, if_neg (by rw [can_47 hs]; simp)]
    cases pairW l with
    | none => rfl
    | some pq => obtain ⟨p, q⟩ := pq; show (if j = 1 then _ else false) = _; rw [if_neg hj]; rfl
  · rw [if_neg hs]
    by_cases z : can l = true
    · rw [if_pos z, hb]
      by_cases y : lo ≤ val l ∧ val l ≤ hi
      · rw [if_pos ⟨z, y⟩, decide_eq_true y.1, decide_eq_true y.2]; rfl
      · rw [if_neg (fun q => y q.2), ← Bool.decide_and, decide_eq_false y]; rfl
    · rw [if_neg z, if_neg (fun q => z q.1)]; rfl
theorem st_2 (l : List Nat) : stW 2 l = (nW (-12) 12 l).isSome := st_num (by decide) (fun _ => rfl) l
theorem st_3 (l : List Nat) : stW 3 l = (nW 1 5 l).isSome := st_num (by decide) (fun _ => rfl) l
theorem st_4 (l : List Nat) : stW 4 l = (nW 2 6 l).isSome := st_num (by decide) (fun _ => rfl) l
/-- the words of a rule's text -/
def Fr.ws (r : Fr) : List (List Nat) := [wFill, prW r.p r.q, txc r.k, txc r.c, txc r.j]
def Fr.tx (r : Fr) : List Nat := jz 32 r.ws
theorem no32 (i : Int) : 32 ∉ txc i := fun h => by
  have := txc_sign h
  omega
theorem fr_pcz (r : Fr) : pcz 32 r.tx = r.ws := by
  refine pcz_jz _ (by simp [Fr.ws]) fun l hl => ?_
  simp only [Fr.ws, List.mem_cons, List.not_mem_nil, or_false] at hl
  rcases hl with rfl | rfl | rfl | rfl | rfl
  · decide
  · intro h
    rcases List.mem_append.mp h with h | h
    · exact no32 _ h
    · rcases List.mem_cons.mp h with h | h
      · exact absurd h (by decide)
      · exact no32 _ h
  · exact no32 _
  · exact no32 _
  · exact no32 _
theorem fr_words {r : Fr} (o : r.ok) : wrF r.ws = none := by
  rw [wr_end (ws := r.ws) rfl (fun i h1 h2 => ?_)]
  · rfl
  · rcases (show i = 1 ∨ i = 2 ∨ i = 3 ∨ i = 4 by omega) with rfl | rfl | rfl | rfl
    · show stW 1 (prW r.p r.q) = true
      rw [st_pW, pW_prW o.p1 o.p2 o.q1 o.q2]; rfl
    · show stW 2 (txc r.k) = true
      rw [st_2, nW_txc o.k1 o.k2]; rfl
    · show stW 3 (txc r.c) = true
      rw [st_3, nW_txc o.c1 o.c2]; rfl
    · show stW 4 (txc r.j) = true
      rw [st_4, nW_txc o.j1 o.j2]; rfl
theorem wr_none {ws : List (List Nat)} (h : wrF ws = none) : ∃ r : Fr, r.ok ∧ ws = r.ws := by
  unfold wrF at h
  split at h
  · cases h
  split at h
  · cases h
  split at h
  · cases h
  split at h
  · cases h
  split at h
  · cases h
  split at h
  · cases h
  rename_i h0 h1 h2 h3 h4 h5
  have g : ∀ {j : Nat}, ¬ stS ws j = false → ∃ l, ws[j]? = some l ∧ stW j l = true := fun {j} hj => by
    unfold stS at hj
    split at hj
    · rename_i l e
      exact ⟨l, e, by simpa using hj⟩
    · simp at hj
  obtain ⟨l1, e1, s1⟩ := g h1
  obtain ⟨l2, e2, s2⟩ := g h2
  obtain ⟨l3, e3, s3⟩ := g h3
  obtain ⟨l4, e4, s4⟩ := g h4
  rw [st_pW] at s1
  rw [st_2] at s2
  rw [st_3] at s3
  rw [st_4] at s4
  obtain ⟨⟨p, q⟩, p1⟩ := Option.isSome_iff_exists.mp s1
  obtain ⟨k, p2⟩ := Option.isSome_iff_exists.mp s2
  obtain ⟨c, p3⟩ := Option.isSome_iff_exists.mp s3
  obtain ⟨j, p4⟩ := Option.isSome_iff_exists.mp s4
  have b1 := pW_bnd p1
  have b2 := (nW_some p2).2.2
  have b3 := (nW_some p3).2.2
  have b4 := (nW_some p4).2.2
  have h0 : ws[0]? = some wFill := by simpa using h0
  refine ⟨⟨p, q, k, c, j⟩, ⟨b1.1.1, b1.1.2, b1.2.1, b1.2.2, b2.1, b2.2, b3.1, b3.2, b4.1, b4.2⟩, ?_⟩
  have hl : ws.length = 5 := by
    have : 4 < ws.length := (List.getElem?_eq_some_iff.mp e4).1
    omega
  match ws, hl, h0, e1, e2, e3, e4 with
  | [x0, x1, x2, x3, x4], _, h0, e1, e2, e3, e4 =>
    obtain rfl : x0 = wFill := Option.some.inj h0
    obtain rfl : x1 = l1 := Option.some.inj e1
    obtain rfl : x2 = l2 := Option.some.inj e2
    obtain rfl : x3 = l3 := Option.some.inj e3
    obtain rfl : x4 = l4 := Option.some.inj e4
    rw [pW_back p1, nW_back p2, nW_back p3, nW_back p4]
    rfl
/-- codes that a text may have -/
def Asc (l : List Nat) : Prop := ∀ c ∈ l, c < 1114112
theorem strOk_S {l : List Nat} (h : Asc l) : PyData.strOk (Sx l) = true := by
  show (Sx l).cps.all (fun c => decide (c < 0x110000)) = true
  rw [Array.all_eq_true']
  intro c hc
  exact decide_eq_true (h c (by simpa [Sx, SX.S] using hc))
theorem shaped_str {l : List Nat} (h : Asc l) : SeqAt.shaped (.list [.str (Sx l)]) = true := by
  have := strOk_S h
  simp [SeqAt.shaped, PyData.canLay0, PyData.canLayAll0, PyData.depth, PyData.depthAll, this]
def spWrong : Sp := fun vs H Q _ => ∃ (a : Addr) (ws : List (List Nat)), vs = [.ref a] ∧ H a = some (.lst (ws.map wz)) ∧ ws ≠ [] ∧ (∀ l ∈ ws, l.length ≤ 3300) ∧ (∀ l ∈ ws, Asc l) ∧ ∀ H', Same H H' → Q (optV (wrF ws)) H'
section
variable {P : Program} {w : World} {K : PySem.W.Frag} {mg : Str → Option Value} {base : Heap}
theorem scWrong : FnScope ["words", "at", "part"] ["words"] (defScope sWrongFillWord) := ⟨rfl, rfl, rfl, by decide +kernel, rfl, by decide +kernel, by decide +kernel⟩
theorem ok_wrong {f TP D Da Db Dc : Addr} {fd : FuncData} (F : Fun K "wrong_fill_word" "wrong_fill_word" sWrongFillWord f fd) (T : Blt mg) (me : mg "enumerate" = none) (B : TabF K w mg TP D Da Db Dc) (D1 : Df P w K mg base 3 "word_value" ["word"] spWordV) (D2 : Df P w K mg base 4 "can_be" ["part", "value"] spCan) : FnOk P w K mg base CX0 5 f fd ["words"] spWrong := by
  obtain ⟨f1, fd1, G1, g1, k1, b1⟩ := D1.ex
  obtain ⟨f2, fd2, G2, g2, k2, b2⟩ := D2.ex
  refine F.ok scWrong (fun vs H Q E h => ?_) (fun cdv A outer s H vs Q E hr h => ?_)
  · obtain ⟨a, ws, rfl, _⟩ := h
    rfl
  · obtain ⟨a, ws, rfl, ha, ne, h63, hAs, kk⟩ := h
    obtain ⟨tR, hR, qR⟩ : ∃ t : TS, PSs (cxOf CX0 P w K mg base ["words", "at", "part"] "wrong_fill_word" (defScope sWrongFillWord) f cdv A outer s H E).nox ((defBody sWrongFillWord).drop 1) t ∧ ∀ (G : Hp), ws[0]? = some wFill → Same H G →
        t { nx := fun _ H' => Q .non H', rt := Q } [some (.ref a), none, none] G := by
      refine ⟨_, (pss_cons (ps_for PassesOwn.never rfl (pi_enumT (by rfl) me (pa_cons (pe_glob (v := .ref TP) (by rfl) B.gP rfl) pa_nil) (pk_cons pe_int pk_nil)) (pg_tup rfl (pgs_cons (pg_name (i := 1) scWrong.nd rfl (.inl rfl)) (pgs_cons (pg_name (i := 2) scWrong.nd rfl (.inl rfl)) pgs_nil)))
          (pss_one (ps_if (PW.pt (pw_or (pt_cmpR op_eq (pv 1) (pe_callB call_len_seq (by rfl) T.len PySem.boot_len (pa_cons (pv 0) pa_nil)) (nomark _)) (pw_or1 (pt_not (pt_val (pe_call G2 hr (by rfl) g2 k2 b2 .nil pass0 (pa_cons (pv 2) (pa_cons (pe_call G1 (hr.mono (by decide)) (by rfl) g1 k1 b1 .nil pass0 (pa_cons (pe_ix ix_list (pv 0) (pv 1) (fun _ _ => rfl)) pa_nil)) pa_nil))))))))
            (pss_one (ps_ret (pv 1))) pss_nil)))
        (pss_one (ps_ret (pe_ifExp (pt_cmpR op_gt (pe_callB call_len_seq (by rfl) T.len PySem.boot_len (pa_cons (pv 0) pa_nil)) (pe_op op_add (pe_callB call_len_seq (by rfl) T.len PySem.boot_len (pa_cons (pe_glob (v := .ref TP) (by rfl) B.gP rfl) pa_nil)) pe_int) (nomark _))
          (pe_op op_add (pe_callB call_len_seq (by rfl) T.len PySem.boot_len (pa_cons (pe_glob (v := .ref TP) (by rfl) B.gP rfl) pa_nil)) pe_int) pe_non)))), ?_⟩
      intro G h0 sG
      refine ⟨TP, parts4, 1, rfl, rfl, B.tP _, by decide, by decide, ?_⟩
      refine for_it (walk_enumT B.tP) (fun i σ G => (∀ j, 1 ≤ j → j < i + 1 → stS ws j = true) ∧ Same H G ∧ ∃ x2 x3, σ = [some (.ref a), x2, x3]) ⟨fun j h1 h2 => by omega, sG, none, none, rfl⟩ (fun _ _ _ _ _ => trivial) (fun i v σ G2 G3 hi h y => ?_) (fun σ G2 h => ?_)
      · obtain ⟨hok, s2, x2, x3, rfl⟩ := h
        obtain ⟨Tp, x, y, rfl, nT, rfl, ex, ey⟩ := y
        obtain rfl : V.int (1 + (i : Int)) = x := Option.some.inj ex
        have hi4 : i < 4 := hi
        obtain rfl : y = .str (partS (i + 1)) := by
          rcases (show i = 0 ∨ i = 1 ∨ i = 2 ∨ i = 3 by omega) with rfl | rfl | rfl | rfl <;> exact (Option.some.inj ey).symm
        have s3 : Same H (upd G2 Tp (.tup [.int (1 + (i : Int)), .str (partS (i + 1))])) := s2.trans (same_new nT)
        have hT3 : upd G2 Tp (.tup [.int (1 + (i : Int)), .str (partS (i + 1))]) Tp = some (.tup [.int (1 + (i : Int)), .str (partS (i + 1))]) := upd_same
        generalize upd G2 Tp (.tup [.int (1 + (i : Int)), .str (partS (i + 1))]) = G3 at s3 hT3 ⊢
        have ha3 := s3 _ _ ha
        refine ⟨Tp, _, rfl, SqT.of hT3, rfl, _, _, rfl, _, _, rfl, rfl, ?_⟩
        refine ⟨_, rfl, _, rfl, a, _, rfl, .inl (SqL.of ha3), rfl, _, rfl, ?_⟩
        rw [List.length_map]
        have ec : (1 : Int) + (i : Int) = ((i + 1 : Nat) : Int) := by omega
        rw [ec]
        by_cases z : i + 1 = ws.length
        · rw [show decide (V.int ((i + 1 : Nat) : Int) = V.int (ws.length : Int)) = true from decide_eq_true (by rw [z])]
          have e : stS ws (i + 1) = false := by
            unfold stS
            rw [List.getElem?_eq_none (by omega)]
          have := kk _ s3
          rw [wr_at h0 hok (by omega) (by omega) e] at this
          exact iteT (iteT ⟨_, rfl, this⟩)
        · rw [show decide (V.int ((i + 1 : Nat) : Int) = V.int (ws.length : Int)) = false from decide_eq_false fun q => by injection q with q; omega]
          by_cases z2 : i + 1 < ws.length
          · have e1 : ws[i + 1]? = some ws[i + 1] := List.getElem?_eq_getElem z2
            refine iteF ⟨_, rfl, _, rfl, _, rfl, a, _, _, _, rfl, rfl, SqL.of ha3, atI_nat (j := i + 1) (by rw [List.getElem?_map, e1]; rfl), ws[i + 1], rfl, h63 _ (List.getElem_mem z2), fun v H4 s4 hv => ?_⟩
            refine ⟨i + 1, v, _, rfl, by omega, by omega, hv, fun H5 s5 => ⟨_, rfl, ?_⟩⟩
            have es : stB (i + 1) (wvO ws[i + 1]) = stS ws (i + 1) := by
              unfold stS
              rw [e1]
              rfl
            rw [es]
            cases eo : stS ws (i + 1) with
            | false =>
              have := kk _ (s3.trans (s4.trans s5))
              rw [wr_at h0 hok (by omega) (by omega) eo] at this
              exact iteT ⟨_, rfl, this⟩
            | true =>
              refine iteF ⟨fun j h1 h2 => ?_, s3.trans (s4.trans s5), _, _, rfl⟩
              by_cases q : j = i + 1
              · rw [q]; exact eo
              · exact hok j h1 (by omega)
          · exfalso
            by_cases z3 : i = 0
            · subst z3
              cases ws with
              | nil => exact ne rfl
              | cons x r => have e : (x :: r).length = r.length + 1 := rfl; rw [e] at z z2; omega
            · have := hok i (by omega) (by omega)
              unfold stS at this
              rw [List.getElem?_eq_none (by omega)] at this
              cases this
      · obtain ⟨hok, s2, x2, x3, rfl⟩ := h
        have ha2 := s2 _ _ ha
        have kf := kk _ s2
        rw [wr_end h0 hok] at kf
        refine ⟨_, rfl, a, _, rfl, .inl (SqL.of ha2), TP, _, rfl, .inr (B.tP _), _, _, rfl, rfl, _, _, rfl, rfl, _, rfl, ?_⟩
        rw [List.length_map]
        by_cases z : 5 < ws.length
        · rw [if_pos z] at kf
          rw [show decide ((ws.length : Int) > ((parts4.length : Nat) : Int) + 1) = true from decide_eq_true (by show (ws.length : Int) > 5; omega)]
          exact iteT ⟨TP, _, rfl, .inr (B.tP _), _, _, rfl, rfl, kf⟩
        · rw [if_neg z] at kf
          rw [show decide ((ws.length : Int) > ((parts4.length : Nat) : Int) + 1) = false from decide_eq_false (by show ¬ (ws.length : Int) > 5; omega)]
          exact iteF kf
    have un : (cxOf CX0 P w K mg base ["words", "at", "part"] "wrong_fill_word" (defScope sWrongFillWord) f cdv A outer s H E).nox.A.units + 64 < cLine := Room.units hr
    refine ⟨_, pss_cons (ps_if (pt_cmpR (op_neD un) (pe_slice sl_list (pv 0) po_none (po_some pe_int)) (pe_lst (pa_cons pe_str pa_nil)) (nomark _)) (pss_one (ps_ret pe_int)) pss_nil) hR, ?_⟩
    obtain ⟨w0, wr, rfl⟩ : ∃ w0 wr, ws = w0 :: wr := by
      cases ws with
      | nil => exact absurd rfl ne
      | cons x r => exact ⟨x, r, rfl⟩
    refine ⟨_, rfl, _, rfl, a, _, rfl, SqL.of ha, fun p np => ?_⟩
    rw [show cutV ((w0 :: wr).map wz) none (some 1) = [wz w0] by
      unfold cutV
      have h1 := HT.sIx_nat ((w0 :: wr).map wz).length ((w0 :: wr).map wz).length 1
      rw [show ((1 : Nat) : Int) = 1 from rfl] at h1
      rw [HT.sIx_none, h1, List.length_map, List.length_cons, Nat.min_eq_left (by omega)]
      rfl]
    refine ⟨(by show 1 ≤ sizeLine; decide), fun q nq => ?_⟩
    have hp := same_new (o := .lst [V.str (Str.ofString "fill")]) nq _ _ (upd_same (H := H) (a := p) (o := .lst [wz w0]))
    have hq : upd (upd H p (.lst [wz w0])) q (.lst [V.str (Str.ofString "fill")]) q = some (.lst [V.str (Str.ofString "fill")]) := upd_same
    have s1 : Same H (upd (upd H p (.lst [wz w0])) q (.lst [V.str (Str.ofString "fill")])) := (same_new np).trans (same_new nq)
    generalize upd (upd H p (.lst [wz w0])) q (.lst [V.str (Str.ofString "fill")]) = H1 at hp hq s1 ⊢
    refine ⟨.list [.str (Sx w0)], .list [.str (Str.ofString "fill")], .lst (SqL.of hp) (.cons (.str _) .nil), .lst (SqL.of hq) (.cons (.str _) .nil), shaped_str (hAs w0 List.mem_cons_self), shaped_str (l := wFill) (by unfold wFill Asc; decide), _, rfl, ?_⟩
    have ee : PyData.eqv (.list [.str (Sx w0)]) (.list [.str (Str.ofString "fill")]) = decide (w0 = wFill) := by
      have : (Sx w0 = Str.ofString "fill") ↔ w0 = wFill := ⟨fun z => S_inj (b := wFill) z, fun z => by rw [z]; rfl⟩
      by_cases z : w0 = wFill
      · rw [decide_eq_true z, this.mpr z]; rfl
      · rw [decide_eq_false z]
        have n := fun y => z (this.mp y)
        simp only [PyData.eqv, PyData.eqvAll, Bool.and_true]
        exact beq_eq_false_iff_ne.mpr n
    rw [ee]
    by_cases z : w0 = wFill
    · rw [decide_eq_true z]
      exact iteF (qR H1 (by rw [z]; rfl) s1)
    · rw [decide_eq_false z]
      have := kk _ s1
      rw [wr_head (fun y => z (Option.some.inj y))] at this
      exact iteT this
end
end Ev
namespace Ev
open PySem L2 PySem.Spec PyProof.Rows
theorem wv_prW (p q : Int) : wvO (prW p q) = .pr p q := by
  unfold wvO
  rw [if_pos (by unfold prW; simp)]
  unfold pairW
  rw [pcz_prW]
  show (match (if can (txc p) = true ∧ can (txc q) = true then some (val (txc p), val (txc q)) else none) with | some (p, q) => Wv.pr p q | none => .no) = _
  rw [if_pos ⟨can_txc p, can_txc q⟩, val_txc, val_txc]
theorem wv_txc (k : Int) : wvO (txc k) = .nu k := by
  unfold wvO
  rw [if_neg (fun h => by have := txc_sign h; omega), if_pos (can_txc k), val_txc]
theorem WvAt.upd {H : Hp} {v : V} {o : Wv} {D : Addr} {xs ys : List V} (h : WvAt H v o) (hD : H D = some (.lst xs)) : WvAt (L2.upd H D (.lst ys)) v o := by
  cases o with
  | no => exact h
  | nu i => exact h
  | pr p q =>
    obtain ⟨r, e, h⟩ := h
    exact ⟨r, e, by rw [upd_ne (ne_of h hD (by intro z; cases z))]; exact h⟩
def NotStr (K : PySem.W.Frag) (H : Hp) (v : V) : Prop := ∃ u : Value, (∀ H', LamX.ExtN H H' → TyX K H' v u) ∧ PySem.W.kitOne K u (.type "str") = some false
theorem pcz_asc {s : Nat} {L : List Nat} (h : Asc L) : ∀ l ∈ pcz s L, Asc l := fun l hl c hc => h c (((pcz_bound s L).1 l hl).2 c hc)
def spRead (K : PySem.W.Frag) (C BT : Addr) : Sp := fun vs H Q E => ∃ v : V, vs = [v] ∧ ((NotStr K H v ∧ TellB BT 0 0 H E) ∨
  ∃ L : List Nat, v = .str (Sx L) ∧ L.length ≤ 3300 ∧ Asc L ∧ (∀ n : Nat, wrF (pcz 32 L) = some n → TellB BT 0 (n : Int) H E) ∧ (∀ r : Fr, r.ok → L = r.tx → ∀ (z : Addr) (H' : Hp), Same H H' → FAt C H' z r → Q (.ref z) H'))
section
variable {P : Program} {w : World} {K : PySem.W.Frag} {mg : Str → Option Value} {base : Heap}
abbrev nRead : List Str := ["text", "words", "wrong", "times", "plus", "cut_of", "join_of", "word"]
theorem scRead : FnScope nRead ["text"] (defScope sFillRule_read) := ⟨rfl, rfl, rfl, by decide +kernel, rfl, by decide +kernel, by decide +kernel⟩
theorem ok_read {f C BT fI : Addr} {fd fdI : FuncData} {g : List Value → List Value → List Value} (F : Fun K "read" "FillRule.read" sFillRule_read f fd) (T : Blt mg) (ms : mg "str" = none) (gC' : mg "FillRule" = some (.ref C)) (M : Mk K C fI)
    (GM : FnOk P w K mg base CX0 5 fI fdI ["self", "times", "plus", "cut_of", "join_of"] (spFillInit C)) (bM : KBn K fdI ["self", "times", "plus", "cut_of", "join_of"] 3 ["cut_of", "join_of"] g (fun vs zs => vs ++ zs))
    (D1 : Df P w K mg base 5 "wrong_fill_word" ["words"] spWrong) (D2 : Df P w K mg base 3 "word_value" ["word"] spWordV) (EB : BTx P w K mg base BT) :
    FnOk P w K mg base (L2.CX P w) 8 f fd ["text"] (spRead K C BT) := by
  obtain ⟨f1, fd1, G1, g1, k1, b1⟩ := D1.ex
  obtain ⟨f2, fd2, G2, g2, k2, b2⟩ := D2.ex
  obtain ⟨TC, gC, fi, fdi, iC, tI, GI, bI⟩ := id EB
  refine F.okX scRead (fun vs H Q E h => ?_) (fun cdv A outer s H vs Q E hr h => ?_)
  · obtain ⟨v, rfl, _⟩ := h
    rfl
  · obtain ⟨v, rfl, h⟩ := h
    obtain ⟨tR, hR, qR⟩ : ∃ t : TS, PSs (cxOf (L2.CX P w) P w K mg base nRead "FillRule.read" (defScope sFillRule_read) f cdv A outer s H E) ((defBody sFillRule_read).drop 5) t ∧ ∀ (G : Hp) (tv wv xw ww : Option V) (a : Addr) (r : Fr), Same H G → r.ok → G a = some (.tup [.int r.p, .int r.q]) →
        (∀ (z : Addr) (H' : Hp), Same H H' → FAt C H' z r → Q (.ref z) H') → t { nx := fun _ H' => Q .non H', rt := Q } [tv, wv, xw, some (.ref a), some (.int r.k), some (.int r.c), some (.int r.j), ww] G := by
      refine ⟨_, (pss_one (ps_ret (pe_makeN (n := 2) M GM (hr.mono (by decide)) (by rfl) gC' bM pass0 (pa_cons (pv 3) (pa_cons (pv 4) pa_nil)) (pk_cons (pv 5) (pk_cons (pv 6) pk_nil))))), ?_⟩
      intro G tv wv xw ww a r sG o ha kk
      refine ⟨_, rfl, _, rfl, _, rfl, _, rfl, rfl, rfl, fun x dx nx ndx nex => ?_⟩
      have keep : ∀ (o1 o2 : HO) (b : Addr) (u : HO), G b = some u → upd (upd G dx o1) x o2 b = some u := fun o1 o2 b u e => by
        rw [upd_ne (ne_of_none e nx), upd_ne (ne_of_none e ndx)]; exact e
      refine ⟨x, dx, a, r, rfl, upd_same, keep _ _ _ _ ha, o, fun H3 t3 hx3 => ⟨rfl, ?_⟩⟩
      have s3 : ∀ b u, G b = some u → H3 b = some u := fun b u e => t3 _ _ (ne_of_none e nx) (keep _ _ _ _ e)
      exact kk x H3 (fun b u e => s3 _ _ (sG _ _ e)) ⟨dx, a, hx3, s3 _ _ ha⟩
    refine ⟨_, pss_cons (ps_if (pt_not (pt_val (pe_callB call_isi (by rfl) T.isi (by decide +kernel) (pa_cons (pv 0) (pa_cons (pe_bltn (v := .ty "str") (by rfl) ms (by decide +kernel) rfl) pa_nil)))))
        (pss_one (ps_raise rfl (takes_of rfl rfl rfl rfl) (pmk_oex TC iC tI GI (hr.mono (by decide)) bI .nil pass0 (by rfl) gC (pa_cons pe_int (pa_cons pe_int pa_nil))))) pss_nil)
      (pss_cons (ps_set (i := 1) scRead.nd rfl (.inl rfl) (pe_split (pv 0) pe_str))
      (pss_cons (ps_set (i := 2) scRead.nd rfl (.inl rfl) (pe_call G1 (hr.mono (by decide)) (by rfl) g1 k1 b1 .nil pass0 (pa_cons (pv 1) pa_nil)))
      (pss_cons (ps_if (pt_cmpR op_notN (pv 2) pe_non (nomark _)) (pss_one (ps_raise rfl (takes_of rfl rfl rfl rfl) (pmk_oex TC iC tI GI (hr.mono (by decide)) bI .nil pass0 (by rfl) gC (pa_cons pe_int (pa_cons (pv 2) pa_nil))))) pss_nil)
      (pss_cons (ps_asg (pe_lc (te := tCall spWordV [] E0 (tCons (tVar 7) tNil)) (own := [("word", 7)]) (g := gName 7) (tt := tYes) (by rfl) scRead.nd (pi_list (pe_slice sl_list (pv 1) (po_some pe_int) po_none)) (blkOk_by (own := [("word", 7)]) (N := nRead) (sc := defScope sFillRule_read) (by decide +kernel))
        (fun _ _ _ _ _ => pg_name (i := 7) scRead.nd rfl (.inl rfl)) (fun _ _ _ _ _ => pts_nil) (fun _ _ _ _ _ => pe_call G2 (hr.mono (by decide)) (by rfl) g2 k2 b2 .nil pass0 (pa_cons (pv 7) pa_nil)))
        (pg_unl (by rfl) (pgs_cons (pg_name (i := 3) scRead.nd rfl (.inl rfl)) (pgs_cons (pg_name (i := 4) scRead.nd rfl (.inl rfl)) (pgs_cons (pg_name (i := 5) scRead.nd rfl (.inl rfl)) (pgs_cons (pg_name (i := 6) scRead.nd rfl (.inl rfl)) pgs_nil))))))
      hR)))), ?_⟩
    rcases h with ⟨⟨u, ty, ki⟩, tb⟩ | ⟨L, rfl, lL, hAs, kb, kr⟩
    · exact ⟨_, rfl, v, _, _, _, false, rfl, .ty _, ty _ (extN_refl H), ki, _, rfl, iteT ⟨by decide, fun a' na => raised2 tb a' na⟩⟩
    · refine ⟨_, rfl, _, _, _, _, true, rfl, .ty _, .base (.str _), kit_ty (by decide +kernel), _, rfl, iteF ?_⟩
      refine ⟨_, rfl, ⟨_, rfl⟩, _, _, rfl, rfl, by decide +kernel, ?_, fun W nW => ?_⟩
      · rw [SX.S_len, sizeLine_eq]
        omega
      rw [show (Txt.split (Sx L) (Str.ofString " ")).map V.str = (pcz 32 L).map wz from split_pcz (by decide) L]
      have hW : upd H W (.lst ((pcz 32 L).map wz)) W = some (.lst ((pcz 32 L).map wz)) := upd_same
      have sW : Same H (upd H W (.lst ((pcz 32 L).map wz))) := same_new nW
      generalize upd H W (.lst ((pcz 32 L).map wz)) = H1 at hW sW ⊢
      have l63 : ∀ l ∈ pcz 32 L, l.length ≤ 3300 := fun l hl => by have := ((pcz_bound 32 L).1 l hl).1; omega
      have ne : pcz 32 L ≠ [] := pcz_ne 32 L
      refine ⟨_, rfl, W, _, rfl, hW, ne, l63, pcz_asc hAs, fun H2 s2 => ?_⟩
      have sH2 : Same H H2 := sW.trans s2
      cases eo : wrF (pcz 32 L) with
      | some n => exact ⟨_, rfl, rfl, _, rfl, iteT ⟨_, rfl, (by show 2 ≤ 1000; decide), fun a' na => raised2 (TellB.on (kb n eo) sH2) a' na⟩⟩
      | none =>
        obtain ⟨r, ro, eW⟩ := wr_none eo
        have eL : L = r.tx := by
          have := jz_pcz 32 L
          rw [eW] at this
          exact this.symm
        have hW2 := s2 _ _ hW
        rw [eW] at hW2 l63
        refine ⟨_, rfl, rfl, _, rfl, iteF ?_⟩
        refine ⟨_, rfl, _, rfl, W, _, rfl, SqL.of hW2, fun S nS => ?_⟩
        rw [show cutV (r.ws.map wz) (some 1) none = r.ws.tail.map wz from rfl]
        have hS : upd H2 S (.lst (r.ws.tail.map wz)) S = some (.lst (r.ws.tail.map wz)) := upd_same
        have sS : Same H2 (upd H2 S (.lst (r.ws.tail.map wz))) := same_new nS
        generalize upd H2 S (.lst (r.ws.tail.map wz)) = H3 at hS sS ⊢
        refine ⟨S, rfl, ⟨_, SqL.of hS⟩, fun D nD => ?_⟩
        have SD := ne_of_none hS nD
        have wk : Walk (Itl K S) r.ws.tail.length (fun H => SqL K H S (r.ws.tail.map wz)) (YAt (r.ws.tail.map wz)) := by
          have w := walk_list (K := K) (a := S) (xs := r.ws.tail.map wz)
          rw [List.length_map] at w
          exact w
        refine lc_it (n := r.ws.tail.length) wk (fun i H' => (∃ xs, H' D = some (.lst xs) ∧ xs.length = i ∧ ∀ j v, xs[j]? = some v → ∃ l, r.ws.tail[j]? = some l ∧ WvAt H' v (wvO l)) ∧ But D H3 H') ⟨⟨[], upd_same, rfl, fun j v h => by rw [List.getElem?_nil] at h; cases h⟩, But.upd_at⟩ (fun i H' _ h => SqL.of (h.2 _ _ SD hS)) (fun i v H4 H5 hi h y => ?_) (fun H4 h => ?_)
        · obtain ⟨rfl, hv⟩ := y
          obtain ⟨⟨xs, hD, hlen, hxs⟩, bt⟩ := h
          rw [List.getElem?_map] at hv
          obtain ⟨x, hx, rfl⟩ := Option.map_eq_some_iff.mp hv
          refine ⟨rfl, _, rfl, x, rfl, l63 _ (List.mem_of_mem_tail (List.mem_of_getElem? hx)), fun u H6 s6 hu => ⟨xs, s6 _ _ hD, ?_, ⟨xs ++ [u], upd_same, by simp [hlen], fun j v hj => ?_⟩, fun c o nc ec => by rw [upd_ne nc]; exact s6 _ _ (bt c o nc ec)⟩⟩
          · rw [hlen]
            have : r.ws.tail.length = 4 := rfl
            exact Nat.lt_of_lt_of_le (show i < 1000 by omega) (by decide)
          · by_cases z : j < xs.length
            · rw [List.getElem?_append_left z] at hj
              obtain ⟨l, e1, e2⟩ := hxs j v hj
              exact ⟨l, e1, (e2.keep s6).upd (s6 _ _ hD)⟩
            · have ej : j = i := by
                have := (List.getElem?_eq_some_iff.mp hj).1
                simp at this
                omega
              subst ej
              rw [← hlen, List.getElem?_append_right (Nat.le_refl _)] at hj
              simp at hj
              subst hj
              exact ⟨x, hx, hu.upd (s6 _ _ hD)⟩
        · obtain ⟨⟨xs, hD, hlen, hxs⟩, bt⟩ := h
          have s4 : Same H H4 := fun c o e => by
            have e3 := sS _ _ (sH2 _ _ e)
            exact bt c o (ne_of_none e3 nD) e3
          have hlen : xs.length = 4 := hlen
          match xs, hlen, hD, hxs with
          | [x0, x1, x2, x3], _, hD, hxs =>
            obtain ⟨l0, e0, w0⟩ := hxs 0 x0 rfl
            obtain ⟨l1, e1, w1⟩ := hxs 1 x1 rfl
            obtain ⟨l2, e2, w2⟩ := hxs 2 x2 rfl
            obtain ⟨l3, e3, w3⟩ := hxs 3 x3 rfl
            obtain rfl : prW r.p r.q = l0 := Option.some.inj e0
            obtain rfl : txc r.k = l1 := Option.some.inj e1
            obtain rfl : txc r.c = l2 := Option.some.inj e2
            obtain rfl : txc r.j = l3 := Option.some.inj e3
            rw [wv_prW] at w0
            rw [wv_txc] at w1 w2 w3
            obtain ⟨a0, rfl, h0⟩ := w0
            obtain rfl : x1 = .int r.k := w1
            obtain rfl : x2 = .int r.c := w2
            obtain rfl : x3 = .int r.j := w3
            refine ⟨D, _, rfl, SqL.of hD, rfl, _, _, rfl, _, _, rfl, _, _, rfl, _, _, rfl, rfl, ?_⟩
            exact qR H4 _ _ _ _ a0 r s4 ro h0 (kr r ro eL)
end
end Ev
namespace Ev
open PySem L2 PySem.Spec PyProof.Rows
abbrev sNumW : Stmt := sNumberWord
abbrev sPairW : Stmt := sPairWord
section
variable {X : Cx} {CX : CXT} {C g : Addr} {n : Nat} {sp : Sp} {E : XK}
/-- str of an instance with its own __str__ -/
def rStrO (C : Addr) (sp : Sp) (E : XK) : List V → Hp → VK → Prop := fun xs H Q => ∃ (a dx : Addr) (fs : List (Str × V)), xs = [.ref a] ∧ H a = some (.ins C dx fs) ∧ sp [.ref a] H (fun z H' => (∃ y : Str, z = .str y) ∧ Q z H') E
theorem call_strO (hf : PySem.W.findIn X.K (.ref C) "__str__" = some (some (.ref g))) (hk : PySem.W.isFn X.K (.ref g) = true) (F : FnR X.prog X.w X.K X.mg X.base CX n g sp) (hr : Room (n + 2) X.A) (hx : Passes CX X E) : CallR X (.type "str") (rStrO C sp E) := by
  intro pins s σ H xs us Q I r h
  obtain ⟨a, dx, fs, rfl, ha, q⟩ := h
  obtain ⟨u, rfl, rx⟩ : ∃ u, us = [u] ∧ u = Value.ref a := by
    cases r with
    | cons r1 r2 => cases r2; exact ⟨_, rfl, r1⟩
  subst rx
  obtain ⟨mA, J, _⟩ := ins_get I.hok ha
  obtain ⟨od, J, _⟩ := J.look
  have hr1 : Room (n + 1) X.A.in1 := hr.in1
  have hr2 : Room n X.A.in1.in1 := hr1.in1
  refine PySem.W.kso_call hr2.units0 I.kIn J hf hk ?_
  refine wpAny_mono (wpAny_call (SlX.run_at (us := [.ref a]) (ws := [.ref a]) F hr2 I.env0.in1.in1 hx I (.cons rfl .nil) q)) (fun w' s' z => ?_) fun _ _ z => z
  obtain ⟨z', H', I', rz, ⟨y, rfl⟩, q'⟩ := z
  obtain ⟨tk, rfl⟩ : ∃ tk, w' = Value.str y tk := rz
  exact ⟨.str y, H', I', ⟨tk, rfl⟩, q'⟩
end
theorem tiny_log {n : Int} (h : n.natAbs ≤ 99) : n.natAbs.log2 < 1920 := by
  by_cases z : n.natAbs = 0
  · rw [z]; decide
  · exact (Nat.log2_lt z).mpr (Nat.lt_of_le_of_lt h (by decide +kernel))
theorem txc_len {i : Int} (h : i.natAbs ≤ 99) : (txc i).length ≤ 3 := by
  have k : ∀ n : Fin 100, (TL.numL n.val).length ≤ 2 := by decide +kernel
  have := k ⟨i.natAbs, by omega⟩
  unfold txc
  split
  · simp; exact this
  · exact Nat.le_trans this (by decide)
theorem S_fit (l : List Nat) (h : l.length ≤ 1000) : (Sx l).length ≤ sizeLine := by
  rw [SX.S_len, sizeLine_eq]
  omega
def spNumW : Sp := fun vs H Q _ => ∃ i : Int, vs = [.int i] ∧ i.natAbs ≤ 99 ∧ Q (.str (Sx (txc i))) H
def spPairW : Sp := fun vs H Q _ => ∃ (t : Addr) (p q : Int), vs = [.ref t] ∧ H t = some (.tup [.int p, .int q]) ∧ p.natAbs ≤ 99 ∧ q.natAbs ≤ 99 ∧ Q (.str (Sx (prW p q))) H
theorem prW_len {p q : Int} (h : p.natAbs ≤ 99) (h2 : q.natAbs ≤ 99) : (prW p q).length ≤ 7 := by
  unfold prW
  have a := txc_len h
  have b := txc_len h2
  simp
  omega
theorem sh_intsT (ns : List Int) : SeqAt.shaped (.tuple (ns.map PyData.int)) = true := by
  have h := sh_ints ns
  unfold SeqAt.shaped at h ⊢
  simpa [PyData.canLay0, PyData.depth] using h
theorem eqv_tupI (ps qs : List Int) : PyData.eqv (.tuple (ps.map PyData.int)) (.tuple (qs.map PyData.int)) = decide (ps = qs) := by
  have h : ∀ ps qs : List Int, PyData.eqvAll (ps.map PyData.int) (qs.map PyData.int) = decide (ps = qs) := by
    intro ps
    induction ps with
    | nil => intro qs; cases qs <;> simp [PyData.eqvAll]
    | cons a r ih =>
      intro qs
      cases qs with
      | nil => simp [PyData.eqvAll]
      | cons c t =>
        simp only [List.map_cons, PyData.eqvAll, ih t, PyData.eqv]
        by_cases e1 : a = c <;> by_cases e2 : r = t <;> simp [e1, e2]
  simp only [PyData.eqv, h]
/-- an instance's kind -/
structure InsT (K : PySem.W.Frag) (C : Addr) : Prop where
  ha : PySem.W.findIn K (.ref C) "__class__" = some (some (.builtin "object.__class__"))
  hn : PySem.W.specialIn K (.builtin "object.__class__") "__get__" = some (some (.builtin "getset_descriptor.__get__"))
  htk : PySem.W.takesIn K (.builtin "object.__class__") = some true
  hm : PySem.W.mroIn K C (.type "object") = some true
  ic : PySem.W.isClsIn K C = true
  tt : PySem.W.typeIn K (.ref C) = some (.type "type")
theorem sub_no {K : PySem.W.Frag} {C : Addr} {T : String} {l : List String} (h : fastBuiltinMro T = some (l.map Value.type)) : PySem.W.subIn K (.type T) (.ref C) = some false := by
  show (fastBuiltinMro T).map (·.contains (.ref C)) = some false
  rw [h]
  have z : (l.map Value.type).contains (.ref C) = false := by
    rw [Bool.eq_false_iff]
    intro z
    have m := List.contains_iff_mem.mp z
    simp at m
  exact congrArg some z
theorem kit_self {K : PySem.W.Frag} {C : Addr} : PySem.W.kitOne K (.ref C) (.ref C) = some true := by
  unfold PySem.W.kitOne
  rw [if_pos (by simp)]
/-- the class of fill rules, its instances told by their kind -/
structure FTwo (K : PySem.W.Frag) (C : Addr) : Prop where
  cl : FCls K C
  it : InsT K C
theorem tyF {K : PySem.W.Frag} {C : Addr} {H : Hp} {x dx : Addr} {fs : List (Str × V)} (R : FTwo K C) (h : H x = some (.ins C dx fs)) : TyX K H (.ref x) (.ref C) := .base (.ins h R.cl.cl R.it.ha R.it.hn R.it.htk R.it.hm)
def spEqF (C : Addr) : Sp := fun vs H Q _ => ∃ (x y : Addr) (r : Fr), vs = [.ref x, .ref y] ∧ FAt C H x r ∧ FAt C H y r ∧ Q (.bl true) H
def spStrF (C : Addr) : Sp := fun vs H Q _ => ∃ (x : Addr) (r : Fr), vs = [.ref x] ∧ FAt C H x r ∧ r.ok ∧ Q (.str (Sx r.tx)) H
section
variable {P : Program} {w : World} {K : PySem.W.Frag} {mg : Str → Option Value} {base : Heap}
theorem scNumW : FnScope ["number", "rest", "pieces", "low", "digits"] ["number"] (defScope sNumW) := ⟨rfl, rfl, rfl, by decide +kernel, rfl, by decide +kernel, by decide +kernel⟩
theorem pss_nev {X : Cx} {ss : List Stmt} : PSs X ss (fun _ _ _ => False) := ⟨fun _ _ _ _ _ _ h => h.elim⟩
theorem ok_numW {f : Addr} {fd : FuncData} (F : Fun K "number_word" "number_word" sNumW f fd) (mstr : mg "str" = none) {t : Tok} (gP : mg "PIECE" = some (.int (10 ^ 64) t)) : FnOk P w K mg base CX0 1 f fd ["number"] spNumW := by
  refine F.ok scNumW (fun vs H Q E h => ?_) (fun cdv A outer s H vs Q E hr h => ?_)
  · obtain ⟨i, rfl, _⟩ := h
    rfl
  · obtain ⟨i, rfl, hi, kk⟩ := h
    refine ⟨_, pss_cons (ps_if (pt_chain op_lt op_lt (pe_un un_neg (pe_glob (v := .int (10 ^ 64)) rfl gP ⟨_, rfl⟩)) (pv 0) (pe_glob (v := .int (10 ^ 64)) rfl gP ⟨_, rfl⟩)) (pss_one (ps_ret (pe_callTy call_str_int (by rfl) mstr (by decide +kernel) (pa_cons (pv 0) pa_nil)))) pss_nil) pss_nev, ?_⟩
    have e64 : (10 : Int) ^ 64 = 10000000000000000000000000000000000000000000000000000000000000000 := by decide
    have q1 : decide (-(10 : Int) ^ 64 < i) = true := decide_eq_true (by rw [e64]; omega)
    have q2 : decide (i < (10 : Int) ^ 64) = true := decide_eq_true (by rw [e64]; omega)
    refine ⟨_, rfl, _, rfl, _, _, rfl, rfl, _, rfl, ?_⟩
    rw [q1]
    refine iteT ⟨_, _, rfl, rfl, _, rfl, ?_⟩
    rw [q2]
    rw [← tx_S] at kk
    exact iteT ⟨_, rfl, i, rfl, tiny_log hi, kk⟩
theorem scPairW : FnScope ["pair"] ["pair"] (defScope sPairW) := ⟨rfl, rfl, rfl, by decide +kernel, rfl, by decide +kernel, by decide +kernel⟩
theorem ok_pairW {f : Addr} {fd : FuncData} (F : Fun K "pair_word" "pair_word" sPairW f fd) (D1 : Df P w K mg base 1 "number_word" ["number"] spNumW) : FnOk P w K mg base CX0 2 f fd ["pair"] spPairW := by
  obtain ⟨f1, fd1, G1, g1, k1, b1⟩ := D1.ex
  refine F.ok scPairW (fun vs H Q E h => ?_) (fun cdv A outer s H vs Q E hr h => ?_)
  · obtain ⟨t, p, q, rfl, _⟩ := h
    rfl
  · obtain ⟨t, p, q, rfl, ht, hp, hq, kk⟩ := h
    refine ⟨_, pss_one (ps_ret (pe_joined (PJ.cons (pe_fmt (pe_call G1 hr (by rfl) g1 k1 b1 .nil pass0 (pa_cons (pe_ix ix_tup (pv 0) pe_int (fun _ _ => rfl)) pa_nil))) (PJ.cons pe_str (PJ.cons (pe_fmt (pe_call G1 hr (by rfl) g1 k1 b1 .nil pass0 (pa_cons (pe_ix ix_tup (pv 0) pe_int (fun _ _ => rfl)) pa_nil))) PJ.nil))))), ?_⟩
    have lp := txc_len hp
    have lq := txc_len hq
    have e1 : Str.empty ++ Sx (txc p) = Sx (txc p) := SX.S_cat [] _
    have e2 : Sx (txc p) ++ Str.ofString "/" = Sx (txc p ++ [47]) := SX.S_cat _ _
    have e3 : Sx (txc p ++ [47]) ++ Sx (txc q) = Sx (prW p q) := by
      rw [SX.S_cat, List.append_assoc]
      rfl
    refine ⟨_, rfl, t, _, _, _, rfl, rfl, SqT.of ht, atI_nat (j := 0) rfl, p, rfl, hp, .inl ⟨_, rfl, S_fit _ (by omega), _, rfl, ?_, ?_⟩⟩
    · rw [e1]
      exact S_fit _ (by omega)
    rw [e1]
    refine ⟨_, rfl, ?_, _, rfl, t, _, _, _, rfl, rfl, SqT.of ht, atI_nat (j := 1) rfl, q, rfl, hq, .inl ⟨_, rfl, S_fit _ (by omega), _, rfl, ?_, ?_⟩⟩
    · rw [e2]
      exact S_fit _ (by simp; omega)
    · rw [e2, e3]
      exact S_fit _ (Nat.le_trans (prW_len hp hq) (by decide))
    · rw [e2, e3]
      exact kk
theorem scFEq : FnScope ["self", "other"] ["self", "other"] (defScope sFillRule_eq) := ⟨rfl, rfl, rfl, by decide +kernel, rfl, by decide +kernel, by decide +kernel⟩
theorem ok_fillEq {f C : Addr} {fd : FuncData} (F : Fun K "__eq__" "FillRule.__eq__" sFillRule_eq f fd) (T : Blt mg) (R : FTwo K C) (gC : mg "FillRule" = some (.ref C)) : FnOk P w K mg base CX0 1 f fd ["self", "other"] (spEqF C) := by
  refine F.ok scFEq (fun vs H Q E h => ?_) (fun cdv A outer s H vs Q E hr h => ?_)
  · obtain ⟨x, y, r, rfl, _⟩ := h
    rfl
  · obtain ⟨x, y, r, rfl, ⟨dx, a, hx, ha⟩, ⟨dy, a', hy, ha'⟩, k⟩ := h
    refine ⟨_, pss_one (ps_ret (pe_and (pe_callB call_isi (by rfl) T.isi (by decide +kernel) (pa_cons (pv 1) (pa_cons (pe_glob (v := .ref C) rfl gC rfl) pa_nil)))
      (pe_and (pe_cmpR (op_eqD (Room.units hr)) (pe_fld (pv 0) rfl) (pe_fld (pv 1) rfl) (nomark _)) (pe_and (pe_cmpR op_eq (pe_fld (pv 0) rfl) (pe_fld (pv 1) rfl) (nomark _))
      (pe_and (pe_cmpR op_eq (pe_fld (pv 0) rfl) (pe_fld (pv 1) rfl) (nomark _)) (pe_one (pe_cmpR op_eq (pe_fld (pv 0) rfl) (pe_fld (pv 1) rfl) (nomark _)))))))), ?_⟩
    refine ⟨_, rfl, _, _, _, _, true, rfl, .own C, tyF R hy, kit_self, true, rfl, iteT ?_⟩
    refine ⟨_, rfl, x, C, dx, _, _, rfl, hx, R.cl.cl, R.cl.n1, fill_times _ _, _, rfl, y, C, dy, _, _, rfl, hy, R.cl.cl, R.cl.n1, fill_times _ _, _, _, .tup (SqT.of ha) (dpInts [r.p, r.q]), .tup (SqT.of ha') (dpInts [r.p, r.q]), sh_intsT _, sh_intsT _, _, rfl, ?_⟩
    rw [eqv_tupI, decide_eq_true rfl]
    refine iteT ⟨_, rfl, x, C, dx, _, _, rfl, hx, R.cl.cl, R.cl.n2, fill_plus _ _, _, rfl, y, C, dy, _, _, rfl, hy, R.cl.cl, R.cl.n2, fill_plus _ _, rfl, _, rfl, ?_⟩
    rw [decide_eq_true rfl]
    refine iteT ⟨_, rfl, x, C, dx, _, _, rfl, hx, R.cl.cl, R.cl.n3, fill_cut _ _, _, rfl, y, C, dy, _, _, rfl, hy, R.cl.cl, R.cl.n3, fill_cut _ _, rfl, _, rfl, ?_⟩
    rw [decide_eq_true rfl]
    refine iteT ⟨_, rfl, x, C, dx, _, _, rfl, hx, R.cl.cl, R.cl.n4, fill_join _ _, _, rfl, y, C, dy, _, _, rfl, hy, R.cl.cl, R.cl.n4, fill_join _ _, rfl, ?_⟩
    rw [decide_eq_true rfl]
    exact k
theorem scFStr : FnScope ["self"] ["self"] (defScope sFillRule_str) := ⟨rfl, rfl, rfl, by decide +kernel, rfl, by decide +kernel, by decide +kernel⟩
theorem ok_fillStr {f C : Addr} {fd : FuncData} (F : Fun K "__str__" "FillRule.__str__" sFillRule_str f fd) (R : FTwo K C) (D1 : Df P w K mg base 2 "pair_word" ["pair"] spPairW) : FnOk P w K mg base CX0 3 f fd ["self"] (spStrF C) := by
  obtain ⟨f1, fd1, G1, g1, k1, b1⟩ := D1.ex
  refine F.ok scFStr (fun vs H Q E h => ?_) (fun cdv A outer s H vs Q E hr h => ?_)
  · obtain ⟨x, r, rfl, _⟩ := h
    rfl
  · obtain ⟨x, r, rfl, ⟨dx, a, hx, ha⟩, o, kk⟩ := h
    have hp : r.p.natAbs ≤ 99 := by have := o.p1; have := o.p2; omega
    have hq : r.q.natAbs ≤ 99 := by have := o.q1; have := o.q2; omega
    have hk : r.k.natAbs ≤ 99 := by have := o.k1; have := o.k2; omega
    have hc : r.c.natAbs ≤ 99 := by have := o.c1; have := o.c2; omega
    have hj : r.j.natAbs ≤ 99 := by have := o.j1; have := o.j2; omega
    have lp : (prW r.p r.q).length ≤ 7 := prW_len hp hq
    have lk := txc_len hk
    have lc := txc_len hc
    have lj := txc_len hj
    refine ⟨_, pss_one (ps_ret (pe_joined (PJ.cons pe_str (PJ.cons (pe_fmt (pe_call G1 hr (by rfl) g1 k1 b1 .nil pass0 (pa_cons (pe_fld (pv 0) rfl) pa_nil))) (PJ.cons pe_str (PJ.cons (pe_fmt (pe_fld (pv 0) rfl)) (PJ.cons pe_str
        (PJ.cons (pe_fmt (pe_fld (pv 0) rfl)) (PJ.cons pe_str (PJ.cons (pe_fmt (pe_fld (pv 0) rfl)) PJ.nil)))))))))), ?_⟩
    generalize eP : prW r.p r.q = P0 at lp
    generalize eK : txc r.k = K0 at lk
    generalize eC : txc r.c = C0 at lc
    generalize eJ : txc r.j = J0 at lj
    have e0 : Str.empty ++ Str.ofString "fill " = Sx (wFill ++ [32]) := SX.S_cat [] _
    have e1 : Sx (wFill ++ [32]) ++ Sx P0 = Sx (wFill ++ [32] ++ P0) := SX.S_cat _ _
    have e2 : Sx (wFill ++ [32] ++ P0) ++ Str.ofString " " = Sx (wFill ++ [32] ++ P0 ++ [32]) := SX.S_cat _ _
    have e3 : Sx (wFill ++ [32] ++ P0 ++ [32]) ++ Sx K0 = Sx (wFill ++ [32] ++ P0 ++ [32] ++ K0) := SX.S_cat _ _
    have e4 : Sx (wFill ++ [32] ++ P0 ++ [32] ++ K0) ++ Str.ofString " " = Sx (wFill ++ [32] ++ P0 ++ [32] ++ K0 ++ [32]) := SX.S_cat _ _
    have e5 : Sx (wFill ++ [32] ++ P0 ++ [32] ++ K0 ++ [32]) ++ Sx C0 = Sx (wFill ++ [32] ++ P0 ++ [32] ++ K0 ++ [32] ++ C0) := SX.S_cat _ _
    have e6 : Sx (wFill ++ [32] ++ P0 ++ [32] ++ K0 ++ [32] ++ C0) ++ Str.ofString " " = Sx (wFill ++ [32] ++ P0 ++ [32] ++ K0 ++ [32] ++ C0 ++ [32]) := SX.S_cat _ _
    have e7 : Sx (wFill ++ [32] ++ P0 ++ [32] ++ K0 ++ [32] ++ C0 ++ [32]) ++ Sx J0 = Sx r.tx := by
      rw [SX.S_cat]
      congr 1
      rw [← eP, ← eK, ← eC, ← eJ]
      simp [Fr.tx, Fr.ws, jz, TL.joinL]
    have w4 : wFill.length = 4 := rfl
    have et : ∀ i : Int, (Str.ofString (toString i)) = Sx (txc i) := tx_S
    refine ⟨_, rfl, ?_, ?_⟩
    · rw [e0]
      exact S_fit _ (by decide)
    rw [e0]
    refine ⟨_, rfl, x, C, dx, _, _, rfl, hx, R.cl.cl, R.cl.n1, fill_times _ _, a, r.p, r.q, rfl, ha, hp, hq, .inl ⟨_, rfl, by rw [eP]; exact S_fit _ (by omega), _, rfl, ?_, ?_⟩⟩
    · rw [eP, e1]
      exact S_fit _ (by simp only [List.length_append, List.length_cons, List.length_nil]; omega)
    rw [eP, e1]
    refine ⟨_, rfl, ?_, ?_⟩
    · rw [e2]
      exact S_fit _ (by simp only [List.length_append, List.length_cons, List.length_nil]; omega)
    rw [e2]
    refine ⟨_, rfl, x, C, dx, _, _, rfl, hx, R.cl.cl, R.cl.n2, fill_plus _ _, .inr ⟨r.k, rfl, tiny_log hk, _, rfl, ?_⟩⟩
    show (Sx (wFill ++ [32] ++ P0 ++ [32]) ++ Str.ofString (toString r.k)).length ≤ _ ∧ tJs _ (Sx (wFill ++ [32] ++ P0 ++ [32]) ++ Str.ofString (toString r.k)) _ _ _
    rw [et, eK, e3]
    refine ⟨S_fit _ (by simp only [List.length_append, List.length_cons, List.length_nil]; omega), _, rfl, ?_, ?_⟩
    · rw [e4]
      exact S_fit _ (by simp only [List.length_append, List.length_cons, List.length_nil]; omega)
    rw [e4]
    refine ⟨_, rfl, x, C, dx, _, _, rfl, hx, R.cl.cl, R.cl.n3, fill_cut _ _, .inr ⟨r.c, rfl, tiny_log hc, _, rfl, ?_⟩⟩
    show (Sx (wFill ++ [32] ++ P0 ++ [32] ++ K0 ++ [32]) ++ Str.ofString (toString r.c)).length ≤ _ ∧ tJs _ (Sx (wFill ++ [32] ++ P0 ++ [32] ++ K0 ++ [32]) ++ Str.ofString (toString r.c)) _ _ _
    rw [et, eC, e5]
    refine ⟨S_fit _ (by simp only [List.length_append, List.length_cons, List.length_nil]; omega), _, rfl, ?_, ?_⟩
    · rw [e6]
      exact S_fit _ (by simp only [List.length_append, List.length_cons, List.length_nil]; omega)
    rw [e6]
    refine ⟨_, rfl, x, C, dx, _, _, rfl, hx, R.cl.cl, R.cl.n4, fill_join _ _, .inr ⟨r.j, rfl, tiny_log hj, _, rfl, ?_⟩⟩
    show (Sx (wFill ++ [32] ++ P0 ++ [32] ++ K0 ++ [32] ++ C0 ++ [32]) ++ Str.ofString (toString r.j)).length ≤ _ ∧ Q (.str (Sx (wFill ++ [32] ++ P0 ++ [32] ++ K0 ++ [32] ++ C0 ++ [32]) ++ Str.ofString (toString r.j))) H
    rw [et, eJ]
    refine ⟨?_, by rw [e7]; exact kk⟩
    rw [SX.S_cat]
    exact S_fit _ (by simp only [List.length_append, List.length_cons, List.length_nil]; omega)
end
end Ev
namespace Ev
open PySem L2 PySem.Spec PyProof.Rows
theorem Pen.new {L : Addr} {H : Hp} {p q : Addr} {B : Int} {o : HO} (h : Pen L H p B) (n : H q = none) : Pen L (upd H q o) p B := h.keep (fun b u e => by rw [upd_ne (ne_of_none e n)]; exact e)
theorem Pen.some {L : Addr} {H : Hp} {p : Addr} {B : Int} (h : Pen L H p B) : ∃ xs, H p = some (.lst xs) := by
  obtain ⟨ns, t, c, h1, _⟩ := h
  exact ⟨_, h1⟩
theorem Pen.ne {L : Addr} {H : Hp} {p q : Addr} {B : Int} (h : Pen L H p B) (n : H q = none) : q ≠ p := by
  obtain ⟨xs, e⟩ := h.some
  exact (ne_of_none e n).symm
theorem But.free {L p a : Addr} {H H' : Hp} {B : Int} (t : But p H H') (h : Pen L H' p B) (n : H' a = none) : H a = none := by
  cases e : H a with
  | none => rfl
  | some o =>
    have := t a o (h.ne n) e
    rw [n] at this
    cases this
def spPick : Sp := fun vs H Q _ => ∃ (p l L : Addr) (xs : List V) (B : Int), vs = [.ref p, .ref l] ∧ H l = some (.lst xs) ∧ l ≠ p ∧ 1 ≤ xs.length ∧ xs.length ≤ 1000 ∧ B ≤ 1000000 ∧ Pen L H p B ∧
  ∀ (d : V) (H' : Hp), d ∈ xs → But p H H' → Pen L H' p (B + 1) → Q d H'
def spPen (K : PySem.W.Frag) : Sp := fun vs H Q _ => ∃ (a : Addr) (ns : List Int), vs = [.ref a] ∧ SqL K H a (ns.map V.int) ∧ ns.length ≤ 63 ∧
  ∀ (p L : Addr) (H' : Hp), H p = none → Same H H' → Pen L H' p 0 → Q (.ref p) H'
theorem But.tup {L p a : Addr} {H H' : Hp} {B : Int} {xs : List V} (h : H a = some (.tup xs)) (pn : Pen L H p B) (t : But p H H') : H' a = some (.tup xs) := by
  obtain ⟨ys, e⟩ := pn.some
  exact t _ _ (ne_of h e (by intro z; cases z)) h
theorem Pen.put {L p D : Addr} {H : Hp} {B : Int} {o : HO} (h : Pen L H p B) (d1 : D ≠ p) (d2 : D ≠ L) : Pen L (upd H D o) p B := by
  obtain ⟨ns, t, c, h1, h2, h3⟩ := h
  exact ⟨ns, t, c, by rw [upd_ne d1.symm]; exact h1, by rw [upd_ne d2.symm]; exact h2, h3⟩
theorem Pen.neL {L p D : Addr} {H : Hp} {B : Int} (h : Pen L H p B) (n : H D = none) : D ≠ L := by
  obtain ⟨ns, t, c, h1, h2, h3⟩ := h
  exact (ne_of_none h2 n).symm
theorem cut_ints (ns : List Int) (h : Int) : ∃ ms : List Int, cutV (ns.map V.int) none (some h) = ms.map V.int ∧ ms.length ≤ ns.length := by
  unfold cutV
  generalize HT.sIx (ns.map V.int).length 0 none = x
  generalize HT.sIx (ns.map V.int).length (ns.map V.int).length (some h) - x = y
  refine ⟨(ns.drop x).take y, ?_, ?_⟩
  · rw [List.map_take, List.map_drop]
  · rw [List.length_take, List.length_drop]; omega
theorem int_at {ns : List Int} {i : Nat} {x : V} (h : (ns.map V.int)[i]? = some x) : ∃ n, ns[i]? = some n ∧ x = .int n := by
  rw [List.getElem?_map] at h
  cases z : ns[i]? with
  | none => rw [z] at h; cases h
  | some n => rw [z] at h; exact ⟨n, rfl, (Option.some.inj h).symm⟩
theorem m64 {q : Int} (h1 : 1 ≤ q) (h2 : q ≤ 8) : -(2 ^ 64) < q ∧ q < 2 ^ 64 := ⟨by omega, by omega⟩
theorem mw {q b : Int} (h1 : -b ≤ q) (h2 : q ≤ b) (hb : b ≤ 10 ^ 19) : -(2 ^ 64) < q ∧ q < 2 ^ 64 := ⟨by omega, by omega⟩
section
variable {P : Program} {w : World} {K : PySem.W.Frag} {mg : Str → Option Value} {base : Heap}
theorem scPick : FnScope ["_law_pen_here", "_law_some"] ["_law_pen_here", "_law_some"] (defScope sPick) := ⟨rfl, rfl, rfl, by decide +kernel, rfl, by decide +kernel, by decide +kernel⟩
theorem ok_pick {f : Addr} {fd : FuncData} (F : Fun K "_law_pick" "_law_pick" sPick f fd) (T : Blt mg) (D : Df P w K mg base 1 "_law_draw" ["_law_pen_here", "_law_many"] spDraw) : FnOk P w K mg base CX0 2 f fd ["_law_pen_here", "_law_some"] spPick := by
  obtain ⟨f1, fd1, G1, g1, k1, b1⟩ := D.ex
  refine F.ok scPick (fun vs H Q E h => ?_) (fun cdv A outer s H vs Q E hr h => ?_)
  · obtain ⟨p, l, L, xs, B, rfl, _⟩ := h
    rfl
  · obtain ⟨p, l, L, xs, B, rfl, hl, hne, x1, x2, hB, hp, kk⟩ := h
    refine ⟨_, pss_one (ps_ret (pe_ix ix_list (pv 1) (pe_call G1 hr (by rfl) g1 k1 b1 .nil pass0 (pa_cons (pv 0) (pa_cons (pe_callB call_len_seq (by rfl) T.len PySem.boot_len (pa_cons (pv 1) pa_nil)) pa_nil))) (fun _ _ => rfl))), ?_⟩
    refine ⟨_, rfl, _, rfl, _, rfl, l, _, rfl, .inl (SqL.of hl), p, L, _, B, rfl, by omega, by omega, hB, hp, fun d H1 bt pn d0 d1 => ?_⟩
    obtain ⟨j, rfl⟩ := Int.eq_ofNat_of_zero_le d0
    have hj : j < xs.length := by omega
    refine ⟨l, xs, _, xs[j], rfl, rfl, SqL.of (bt _ _ hne hl), atI_nat (List.getElem?_eq_getElem hj), ?_⟩
    exact kk _ _ (List.getElem_mem hj) bt pn
theorem scPen : FnScope ["_law_script"] ["_law_script"] (defScope sPen) := ⟨rfl, rfl, rfl, by decide +kernel, rfl, by decide +kernel, by decide +kernel⟩
theorem ok_pen {f : Addr} {fd : FuncData} (F : Fun K "_law_pen" "_law_pen" sPen f fd) (T : Blt mg) : FnOk P w K mg base CX0 1 f fd ["_law_script"] (spPen K) := by
  refine F.ok scPen (fun vs H Q E h => ?_) (fun cdv A outer s H vs Q E hr h => ?_)
  · obtain ⟨a, ns, rfl, _⟩ := h
    rfl
  · obtain ⟨a, ns, rfl, hS, hlen, kk⟩ := h
    refine ⟨_, pss_one (ps_ret (pe_lst (pa_cons (pe_callTy call_list_of (by rfl) T.list (by decide +kernel) (pa_cons (pe_slice sl_list (pv 0) po_none (po_some pe_int)) pa_nil)) (pa_cons pe_int (pa_cons pe_int pa_nil))))), ?_⟩
    refine ⟨_, rfl, _, rfl, a, _, rfl, hS, fun l1 nl1 => ⟨l1, _, rfl, .inl (SqL.of upd_same), fun l2 nl2 => ⟨(by show 3 ≤ sizeLine; decide), fun p np => ?_⟩⟩⟩
    obtain ⟨ms, e1, e2⟩ := cut_ints ns 63
    rw [e1] at nl2 np ⊢
    have s1 : Same H (upd (upd H l1 (.lst (ms.map V.int))) l2 (.lst (ms.map V.int))) := (same_new nl1).trans (same_new nl2)
    have s2 := s1.trans (same_new (o := .lst [.ref l2, .int 0, .int 0]) np)
    refine kk p l2 _ ?_ s2 ⟨ms, 0, 0, upd_same, by rw [upd_ne (ne_of_none upd_same np)]; exact upd_same, ne_of_none upd_same np, by omega, by decide, by decide, by decide⟩
    cases z : H p with
    | none => rfl
    | some o => rw [s1 _ _ z] at np; cases np
end
def tupR (r : Fr) : List V := [.int r.p, .int r.q, .int r.k, .int r.c, .int r.j]
def spLNums : Sp := fun vs H Q _ => ∃ (p L : Addr) (B : Int), vs = [.ref p] ∧ B ≤ 900000 ∧ Pen L H p B ∧
  ∀ (a : Addr) (r : Fr) (H' : Hp), r.ok → H a = none → H' a = some (.tup (tupR r)) → But p H H' → Pen L H' p (B + 10) → Q (.ref a) H'
def spLRule (C : Addr) : Sp := fun vs H Q _ => ∃ (a : Addr) (r : Fr), vs = [.ref a] ∧ H a = some (.tup (tupR r)) ∧ r.ok ∧ ∀ x H', Same H H' → FAt C H' x r → Q (.ref x) H'
theorem i5_0 {a b c d e : V} : atI [a, b, c, d, e] 0 = some a := atI_nat (j := 0) rfl
theorem i5_1 {a b c d e : V} : atI [a, b, c, d, e] 1 = some b := atI_nat (j := 1) rfl
theorem i5_2 {a b c d e : V} : atI [a, b, c, d, e] 2 = some c := atI_nat (j := 2) rfl
theorem i5_3 {a b c d e : V} : atI [a, b, c, d, e] 3 = some d := atI_nat (j := 3) rfl
theorem i5_4 {a b c d e : V} : atI [a, b, c, d, e] 4 = some e := atI_nat (j := 4) rfl
section
variable {P : Program} {w : World} {K : PySem.W.Frag} {mg : Str → Option Value} {base : Heap}
theorem scLNumbers : FnScope ["_law_pen_here", "_law_kind", "_law_pair", "_law_extra"] ["_law_pen_here"] (defScope sLNumbers) := ⟨rfl, rfl, rfl, by decide +kernel, rfl, by decide +kernel, by decide +kernel⟩
theorem ok_lnums {f : Addr} {fd : FuncData} (F : Fun K "_law_numbers" "_law_numbers" sLNumbers f fd) (T : Blt mg) (D1 : Df P w K mg base 1 "_law_draw" ["_law_pen_here", "_law_many"] spDraw) : FnOk P w K mg base CX0 2 f fd ["_law_pen_here"] spLNums := by
  obtain ⟨f1, fd1, G1, g1, k1, b1⟩ := D1.ex
  refine F.ok scLNumbers (fun vs H Q E h => ?_) (fun cdv A outer s H vs Q E hr h => ?_)
  · obtain ⟨p, L, B, rfl, _⟩ := h
    rfl
  · obtain ⟨p, L, B, rfl, hB, pn, kk⟩ := h
    -- from the pair on
    obtain ⟨tR, hR, qR⟩ : ∃ t : TS, PSs (cxOf CX0 P w K mg base ["_law_pen_here", "_law_kind", "_law_pair", "_law_extra"] "_law_numbers" (defScope sLNumbers) f cdv A outer s H E).nox ((defBody sLNumbers).drop 3) t ∧ ∀ (G : Hp) (a : Addr) (u v kd : Int), G a = some (.tup [.int u, .int v]) → 1 ≤ u ∧ u ≤ 12 → 1 ≤ v ∧ v ≤ 12 → But p H G → Pen L G p (B + 4) →
        t { nx := fun _ H' => Q .non H', rt := Q } [some (.ref p), some (.int kd), some (.ref a), none] G := by
      refine ⟨_, (pss_cons (ps_set (i := 3) scLNumbers.nd rfl (.inl rfl) (pe_ifExp (pt_cmpR op_eq (pe_call G1 hr (by rfl) g1 k1 b1 .nil pass0 (pa_cons (pv 0) (pa_cons pe_int pa_nil))) pe_int (nomark _)) (pe_op op_sub (pe_call G1 hr (by rfl) g1 k1 b1 .nil pass0 (pa_cons (pv 0) (pa_cons pe_int pa_nil))) pe_int) pe_int))
        (pss_one (ps_ret (pe_tup (pa_cons (pe_ix ix_tup (pv 2) pe_int (fun _ _ => rfl)) (pa_cons (pe_ix ix_tup (pv 2) pe_int (fun _ _ => rfl)) (pa_cons (pv 3) (pa_cons (pe_op op_add pe_int (pe_call G1 hr (by rfl) g1 k1 b1 .nil pass0 (pa_cons (pv 0) (pa_cons pe_int pa_nil)))) (pa_cons (pe_op op_add pe_int (pe_call G1 hr (by rfl) g1 k1 b1 .nil pass0 (pa_cons (pv 0) (pa_cons pe_int pa_nil)))) pa_nil))))))))), ?_⟩
      intro G a u v kd ha hu hv bt pn
      have fin : ∀ (G2 : Hp) (e : Int), -12 ≤ e → e ≤ 12 → But p H G2 → G2 a = some (.tup [.int u, .int v]) → Pen L G2 p (B + 6) → ∀ (d1 d2 : Int) (G3 G4 : Hp), 0 ≤ d1 → d1 < 5 → 0 ≤ d2 → d2 < 5 → But p G2 G3 → But p G3 G4 → Pen L G4 p (B + 8) → ∀ t, G4 t = none → Q (.ref t) (upd G4 t (.tup [.int u, .int v, .int e, .int (1 + d1), .int (2 + d2)])) := by
        intro G2 e e1 e2 bt2 ha2 pn2 d1 d2 G3 G4 h1 h2 h3 h4 bt3 bt4 pn4 t nt
        have b4 : But p H G4 := bt2.trans (bt3.trans bt4)
        exact kk t ⟨u, v, e, 1 + d1, 2 + d2⟩ _ ⟨hu.1, hu.2, hv.1, hv.2, e1, e2, by show 1 ≤ 1 + d1; omega, by show 1 + d1 ≤ 5; omega, by show 2 ≤ 2 + d2; omega, by show 2 + d2 ≤ 6; omega⟩ (b4.free pn4 nt) upd_same (b4.trans (But.upd_new nt)) ((pn4.new nt).mono (by omega))
      refine ⟨_, rfl, p, L, _, _, rfl, by decide, by decide, by omega, pn, fun d G1 t1 p1 a1 c1 => ⟨rfl, _, rfl, ite2 (fun e => ?_) (fun e => ?_)⟩⟩
      · refine ⟨_, rfl, p, L, _, _, rfl, by decide, by decide, by omega, p1, fun d2 G2 t2 p2 a2 c2 => ⟨_, _, rfl, rfl, ?_⟩⟩
        have bt2 := bt.trans (t1.trans t2)
        have ha2 : G2 a = some (.tup [.int u, .int v]) := But.tup ha pn (t1.trans t2)
        refine ⟨_, rfl, a, _, _, _, rfl, rfl, SqT.of ha2, tup0, _, rfl, a, _, _, _, rfl, rfl, SqT.of ha2, tup1, _, rfl, _, rfl, p, L, _, _, rfl, by decide, by decide, by omega, p2, fun d3 G3 t3 p3 a3 c3 => ⟨_, _, rfl, rfl, ?_⟩⟩
        refine ⟨_, rfl, p, L, _, _, rfl, by decide, by decide, by omega, p3, fun d4 G4 t4 p4 a4 c4 => ⟨_, _, rfl, rfl, (by show 5 ≤ sizeLine; decide), fun t nt => ?_⟩⟩
        exact fin G2 (d2 - 12) (by omega) (by omega) bt2 ha2 (p2.mono (by omega)) d3 d4 G3 G4 a3 c3 a4 c4 t3 t4 (p4.mono (by omega)) t nt
      · have bt2 := bt.trans t1
        have ha2 : G1 a = some (.tup [.int u, .int v]) := But.tup ha pn t1
        refine ⟨_, rfl, a, _, _, _, rfl, rfl, SqT.of ha2, tup0, _, rfl, a, _, _, _, rfl, rfl, SqT.of ha2, tup1, _, rfl, _, rfl, p, L, _, _, rfl, by decide, by decide, by omega, p1, fun d3 G3 t3 p3 a3 c3 => ⟨_, _, rfl, rfl, ?_⟩⟩
        refine ⟨_, rfl, p, L, _, _, rfl, by decide, by decide, by omega, p3, fun d4 G4 t4 p4 a4 c4 => ⟨_, _, rfl, rfl, (by show 5 ≤ sizeLine; decide), fun t nt => ?_⟩⟩
        exact fin G1 0 (by omega) (by omega) bt2 ha2 (p1.mono (by omega)) d3 d4 G3 G4 a3 c3 a4 c4 t3 t4 (p4.mono (by omega)) t nt
    refine ⟨_, (pss_cons (ps_set (i := 1) scLNumbers.nd rfl (.inl rfl) (pe_call G1 hr (by rfl) g1 k1 b1 .nil pass0 (pa_cons (pv 0) (pa_cons pe_int pa_nil))))
      (pss_cons (ps_set (i := 2) scLNumbers.nd rfl (.inl rfl) (pe_ix ix_list (pe_lst (pa_cons (pe_tup (pa_cons pe_int (pa_cons pe_int pa_nil))) (pa_cons (pe_tup (pa_cons pe_int (pa_cons pe_int pa_nil))) (pa_cons (pe_tup (pa_cons pe_int (pa_cons pe_int pa_nil))) (pa_cons (pe_tup (pa_cons pe_int (pa_cons pe_int pa_nil))) (pa_cons (pe_tup (pa_cons pe_int (pa_cons pe_int pa_nil))) pa_nil)))))) (pv 1) (fun _ _ => rfl)))
      (pss_cons (ps_if (pt_cmpR op_gt (pv 1) pe_int (nomark _))
        (pss_one (ps_set (i := 2) scLNumbers.nd rfl (.inl rfl) (pe_tup (pa_cons (pe_op op_add pe_int (pe_call G1 hr (by rfl) g1 k1 b1 .nil pass0 (pa_cons (pv 0) (pa_cons pe_int pa_nil)))) (pa_cons (pe_op op_add pe_int (pe_call G1 hr (by rfl) g1 k1 b1 .nil pass0 (pa_cons (pv 0) (pa_cons pe_int pa_nil)))) pa_nil))))) pss_nil)
      hR))), ?_⟩
    refine ⟨_, rfl, p, L, _, _, rfl, by decide, by decide, by omega, pn, fun d H1 t1 p1 a1 c1 => ?_⟩
    refine ⟨(by show 2 ≤ sizeLine; decide), fun x1 n1 => ⟨(by show 2 ≤ sizeLine; decide), fun x2 n2 => ⟨(by show 2 ≤ sizeLine; decide), fun x3 n3 => ⟨(by show 2 ≤ sizeLine; decide), fun x4 n4 => ⟨(by show 2 ≤ sizeLine; decide), fun x5 n5 => ⟨(by show 5 ≤ sizeLine; decide), fun l nl => ?_⟩⟩⟩⟩⟩⟩
    -- five pairs
    have e1 : upd H1 x1 (.tup [.int 1, .int 2]) x1 = some (.tup [.int 1, .int 2]) := upd_same
    have s1 : Same H1 (upd H1 x1 (.tup [.int 1, .int 2])) := same_new n1
    generalize upd H1 x1 (.tup [.int 1, .int 2]) = G1 at e1 s1 n2 n3 n4 n5 nl ⊢
    have e2 : upd G1 x2 (.tup [.int 2, .int 3]) x2 = some (.tup [.int 2, .int 3]) := upd_same
    have s2 : Same G1 (upd G1 x2 (.tup [.int 2, .int 3])) := same_new n2
    generalize upd G1 x2 (.tup [.int 2, .int 3]) = G2 at e2 s2 n3 n4 n5 nl ⊢
    have e3 : upd G2 x3 (.tup [.int 3, .int 4]) x3 = some (.tup [.int 3, .int 4]) := upd_same
    have s3 : Same G2 (upd G2 x3 (.tup [.int 3, .int 4])) := same_new n3
    generalize upd G2 x3 (.tup [.int 3, .int 4]) = G3 at e3 s3 n4 n5 nl ⊢
    have e4 : upd G3 x4 (.tup [.int 1, .int 1]) x4 = some (.tup [.int 1, .int 1]) := upd_same
    have s4 : Same G3 (upd G3 x4 (.tup [.int 1, .int 1])) := same_new n4
    generalize upd G3 x4 (.tup [.int 1, .int 1]) = G4 at e4 s4 n5 nl ⊢
    have e5 : upd G4 x5 (.tup [.int 1, .int 1]) x5 = some (.tup [.int 1, .int 1]) := upd_same
    have s5 : Same G4 (upd G4 x5 (.tup [.int 1, .int 1])) := same_new n5
    generalize upd G4 x5 (.tup [.int 1, .int 1]) = G5 at e5 s5 nl ⊢
    have s6 : Same G5 (upd G5 l (.lst [.ref x1, .ref x2, .ref x3, .ref x4, .ref x5])) := same_new nl
    have hl : upd G5 l (.lst [.ref x1, .ref x2, .ref x3, .ref x4, .ref x5]) l = some (.lst [.ref x1, .ref x2, .ref x3, .ref x4, .ref x5]) := upd_same
    generalize upd G5 l (.lst [.ref x1, .ref x2, .ref x3, .ref x4, .ref x5]) = G6 at s6 hl ⊢
    have sa : Same H1 G6 := s1.trans (s2.trans (s3.trans (s4.trans (s5.trans s6))))
    obtain ⟨xa, u, v, hx, ha, hu, hv⟩ : ∃ (xa : Addr) (u v : Int), atI [V.ref x1, .ref x2, .ref x3, .ref x4, .ref x5] d = some (.ref xa) ∧ G6 xa = some (.tup [.int u, .int v]) ∧ (1 ≤ u ∧ u ≤ 12) ∧ (1 ≤ v ∧ v ≤ 12) := by
      rcases (show d = 0 ∨ d = 1 ∨ d = 2 ∨ d = 3 ∨ d = 4 by omega) with rfl | rfl | rfl | rfl | rfl
      · exact ⟨x1, 1, 2, i5_0, (s2.trans (s3.trans (s4.trans (s5.trans s6)))) _ _ e1, by decide, by decide⟩
      · exact ⟨x2, 2, 3, i5_1, (s3.trans (s4.trans (s5.trans s6))) _ _ e2, by decide, by decide⟩
      · exact ⟨x3, 3, 4, i5_2, (s4.trans (s5.trans s6)) _ _ e3, by decide, by decide⟩
      · exact ⟨x4, 1, 1, i5_3, (s5.trans s6) _ _ e4, by decide, by decide⟩
      · exact ⟨x5, 1, 1, i5_4, s6 _ _ e5, by decide, by decide⟩
    have p6 := p1.keep sa
    have b6 := t1.trans (Same.but sa)
    refine ⟨_, rfl, l, _, _, _, rfl, rfl, SqL.of hl, hx, ?_⟩
    refine ⟨_, rfl, _, _, rfl, rfl, _, rfl, ite2 (fun e => ?_) (fun e => ?_)⟩
    · refine ⟨_, rfl, p, L, _, _, rfl, by decide, by decide, by omega, p6, fun d3 G7 t3 p3 a3 c3 => ⟨_, _, rfl, rfl, ?_⟩⟩
      refine ⟨_, rfl, p, L, _, _, rfl, by decide, by decide, by omega, p3, fun d4 G8 t4 p4 a4 c4 => ⟨_, _, rfl, rfl, (by show 2 ≤ sizeLine; decide), fun t nt => ?_⟩⟩
      exact qR _ t (1 + d3) (1 + d4) d upd_same ⟨by omega, by omega⟩ ⟨by omega, by omega⟩ (b6.trans (t3.trans (t4.trans (But.upd_new nt)))) ((p4.new nt).mono (by omega))
    · exact qR G6 xa u v d ha hu hv b6 (p6.mono (by omega))
theorem scLRule : FnScope ["_law_told"] ["_law_told"] (defScope sLRule) := ⟨rfl, rfl, rfl, by decide +kernel, rfl, by decide +kernel, by decide +kernel⟩
theorem ok_lrule {f C fI : Addr} {fd fdI : FuncData} {g : List Value → List Value → List Value} (F : Fun K "_law_rule" "_law_rule" sLRule f fd) (gC : mg "FillRule" = some (.ref C)) (M : Mk K C fI)
    (GI : FnOk P w K mg base CX0 5 fI fdI ["self", "times", "plus", "cut_of", "join_of"] (spFillInit C)) (bI : KBn K fdI ["self", "times", "plus", "cut_of", "join_of"] 3 ["cut_of", "join_of"] g (fun vs zs => vs ++ zs)) :
    FnOk P w K mg base CX0 7 f fd ["_law_told"] (spLRule C) := by
  refine F.ok scLRule (fun vs H Q E h => ?_) (fun cdv A outer s H vs Q E hr h => ?_)
  · obtain ⟨a, r, rfl, _⟩ := h
    rfl
  · obtain ⟨a, r, rfl, ha, o, kk⟩ := h
    refine ⟨_, (pss_one (ps_ret (pe_makeN (n := 2) M GI hr (by rfl) gC bI pass0 (pa_cons (pe_tup (pa_cons (pe_ix ix_tup (pv 0) pe_int (fun _ _ => rfl)) (pa_cons (pe_ix ix_tup (pv 0) pe_int (fun _ _ => rfl)) pa_nil))) (pa_cons (pe_ix ix_tup (pv 0) pe_int (fun _ _ => rfl)) pa_nil)) (pk_cons (pe_ix ix_tup (pv 0) pe_int (fun _ _ => rfl)) (pk_cons (pe_ix ix_tup (pv 0) pe_int (fun _ _ => rfl)) pk_nil))))), ?_⟩
    refine ⟨_, rfl, a, _, _, _, rfl, rfl, SqT.of ha, i5_0, _, rfl, a, _, _, _, rfl, rfl, SqT.of ha, i5_1, (by show 2 ≤ sizeLine; decide), fun t nt => ?_⟩
    have s1 : Same H (upd H t (.tup [.int r.p, .int r.q])) := same_new nt
    have ht : upd H t (.tup [.int r.p, .int r.q]) t = some (.tup [.int r.p, .int r.q]) := upd_same
    generalize upd H t (.tup [.int r.p, .int r.q]) = H1 at s1 ht ⊢
    have ha1 := s1 _ _ ha
    refine ⟨_, rfl, a, _, _, _, rfl, rfl, SqT.of ha1, i5_2, _, rfl, a, _, _, _, rfl, rfl, SqT.of ha1, i5_3, _, rfl, a, _, _, _, rfl, rfl, SqT.of ha1, i5_4, rfl, rfl, fun x dx nx ndx nex => ?_⟩
    have keep : ∀ (o1 o2 : HO) (b : Addr) (u : HO), H1 b = some u → upd (upd H1 dx o1) x o2 b = some u := fun o1 o2 b u e => by
      rw [upd_ne (ne_of_none e nx), upd_ne (ne_of_none e ndx)]; exact e
    refine ⟨x, dx, t, r, rfl, upd_same, keep _ _ _ _ ht, o, fun H3 t3 hx3 => ⟨rfl, ?_⟩⟩
    have s3 : ∀ b u, H1 b = some u → H3 b = some u := fun b u e => t3 _ _ (ne_of_none e nx) (keep _ _ _ _ e)
    exact kk x H3 (fun b u e => s3 _ _ (s1 _ _ e)) ⟨dx, t, hx3, s3 _ _ ht⟩
end
end Ev
namespace Ev
open PySem L2 PySem.Spec PyProof.Rows LamX
/-- what is heard of an error -/
def tupT (j : Nat) : HO := .tup [.str "text", .int 0, .int (j : Int)]
def EHeard (BT : Addr) (QQ : Addr → Hp → Prop) : XK := fun cls d H' => ∃ (dd : Addr) (j : Nat), cls = .ref BT ∧ d = some dd ∧ H' dd = some (.xd (btF 0 (j : Int))) ∧
  ∀ (r : Addr) (G : Hp), Same H' G → H' r = none → G r = some (tupT j) → QQ r G
def THeard (BT : Addr) : (XK → Hp → VK → Prop) → Hp → VK → Prop := fun tl H Q =>
  tl (EHeard BT fun r G => Q (.ref r) G) H fun v H' => [v].length ≤ sizeLine ∧ ∀ r, H' r = none → Q (.ref r) (upd H' r (.lst [v]))
theorem three {σ : L2.St} (h : σ.length = 3) : ∃ x0 x1 x2, σ = [x0, x1, x2] := by
  match σ, h with
  | [x0, x1, x2], _ => exact ⟨x0, x1, x2, rfl⟩
theorem scHeard : FnScope ["_law_ask", "_law_caught", "error"] ["_law_ask"] (defScope sHeard) := ⟨rfl, rfl, rfl, by decide +kernel, rfl, by decide +kernel, by decide +kernel⟩
section
variable {X : Cx}
theorem heard_gives {BT FE : Addr} {q : Str} {g : Addr} {cdg : Value} (gd : X.A.guards = some []) {k : Nat} (hr : Room (k + 1) X.A) (T : Blt X.mg) (gF : X.mg "FairError" = some (.ref FE)) (gB : X.mg "BadText" = some (.ref BT)) (HB' : HeldC X.K BT)
    (nl : PySem.W.findIn X.K (.ref BT) "line" = some none) (nw : PySem.W.findIn X.K (.ref BT) "word" = some none) (teB : PySem.W.exmOne X.K (.ref BT) (.ref FE) = some true)
    (iBB : PySem.W.kitOne X.K (.ref BT) (.ref BT) = some true) :
    GivesTo X ["_law_ask", "_law_caught", "error"] "_law_heard" (defScope sHeard) g cdg (defBody sHeard) "_law_ask" q (THeard BT) := by
  intro f c' s H Q tl act hc h
  refine ⟨_, pss_cons (ps_set (i := 1) scHeard.nd rfl (.inl rfl) pe_non)
    (pss_cons (ps_try_held (X := (cxOf C8.CX0 X.prog X.w X.K X.mg X.base ["_law_ask", "_law_caught", "error"] "_law_heard" (defScope sHeard) g cdg X.A X.stack s H C8.E0).nox) (c := .ref FE) (i := 2) (Wout := fun _ _ _ _ => False)
      (tb := fun W D σ H => ∃ Ech : XK, (∀ cls d σ' H', Ech cls d H' → W cls d σ' H') ∧ σ[0]? = some (some (.ref f)) ∧ H c' = some (CodeO c' q) ∧ tl Ech H fun v H' => [v].length ≤ sizeLine ∧ ∀ r, H' r = none → D.rt (.ref r) (upd H' r (.lst [v])))
      (ts := fun a cls d => tAsg (tVar 2) (gName 1)) rfl rfl rfl scHeard.nd rfl rfl ⟨rfl, by decide, .inl gF⟩ L2.takes0 (fun W pn xe tk => ?_) (fun a oe cls d pn _ _ => pss_one (ps_set (i := 1) scHeard.nd rfl (.inl rfl) (pv 2))))
    (pss_one (ps_ret (pe_ifExp (pt_val (pe_callB call_isHeld (by rfl) T.isi (by decide +kernel) (pa_cons (pv 1) (pa_cons (pe_glob (v := .ref BT) rfl gB rfl) pa_nil))))
      (pe_tup (pa_cons pe_str (pa_cons (pe_heldFld (pv 1)) (pa_cons (pe_heldFld (pv 1)) pa_nil)))) pe_never)))), ?_⟩
  · refine ⟨fun pins s' σ H' D I h' => ?_⟩
    obtain ⟨Ech, hW, h1, h2, h3⟩ := h'
    exact (pss_one (ps_ret (pe_lst (pa_cons (act W pn xe Ech _ _ tk hW) pa_nil)))).run pins s' σ H' D I ⟨h1, h2, h3⟩
  · refine ⟨_, fun cls d σ' H' z hlen => ?_, rfl, hc, h⟩
    obtain ⟨dd, j, rfl, rfl, ed, fin⟩ := z
    obtain ⟨x0, x1, x2, rfl⟩ := three hlen
    refine ⟨true, teB, (fun z => by cases z), fun _ a na => ⟨_, rfl, fun _ => ?_⟩⟩
    have sA : Same H' (upd H' a (Held (.ref BT) (some dd) a)) := same_new na
    have hA : upd H' a (Held (.ref BT) (some dd) a) a = some (Held (.ref BT) (some dd) a) := upd_same
    have hD := sA _ _ ed
    generalize upd H' a (Held (.ref BT) (some dd) a) = HA at sA hA hD
    refine ⟨_, rfl, a, BT, dd, _, _, _, true, rfl, hA, hD, HB', .own BT, iBB, _, rfl, iteT ?_⟩
    refine ⟨_, rfl, a, BT, dd, _, .int 0, rfl, hA, hD, HB', nl, rfl, _, rfl, a, BT, dd, _, .int (j : Int), rfl, hA, hD, HB', nw, rfl, (by show 3 ≤ sizeLine; decide), fun tq ntq => ?_⟩
    exact fin tq _ (sA.trans (same_new ntq)) (Same.gone sA ntq) upd_same
end
end Ev
namespace Ev
open PySem L2 PySem.Spec PyProof.Rows
def sumL (ws : List (List Nat)) : Nat := (ws.map List.length).sum
theorem sumL_app (a b : List (List Nat)) : sumL (a ++ b) = sumL a + sumL b := by unfold sumL; rw [List.map_append, List.sum_append]
theorem sumL_cut (ws : List (List Nat)) (j : Nat) : sumL (ws.take j) + sumL (ws.drop j) = sumL ws := by rw [← sumL_app, List.take_append_drop]
theorem sumL_rev (ws : List (List Nat)) : sumL ws.reverse = sumL ws := by unfold sumL; rw [List.map_reverse, List.sum_reverse]
theorem sumL_one (x : List Nat) : sumL [x] = x.length := by simp [sumL]
theorem jz_len (s : Nat) : ∀ ws : List (List Nat), ws ≠ [] → (jz s ws).length + 1 = sumL ws + ws.length := by
  intro ws
  induction ws with
  | nil => intro h; exact absurd rfl h
  | cons a r ih =>
    intro _
    cases r with
    | nil => simp [jz, TL.joinL, sumL]
    | cons b t =>
      have := ih (by simp)
      rw [jz_cons, List.length_append, List.length_cons]
      simp only [sumL, List.map_cons, List.sum_cons, List.length_cons] at this ⊢
      omega
theorem jz_le (s : Nat) (ws : List (List Nat)) : (jz s ws).length ≤ sumL ws + ws.length - 1 := by
  cases ws with
  | nil => simp [jz, TL.joinL]
  | cons a r => have := jz_len s (a :: r) (by simp); omega
theorem pcz_sum (s : Nat) (L : List Nat) : sumL (pcz s L) + (pcz s L).length = L.length + 1 := by
  have := jz_len s (pcz s L) (pcz_ne s L)
  rw [jz_pcz] at this
  exact this.symm
theorem cut_wto (ws : List (List Nat)) (j : Nat) : cutV (ws.map wz) none (some (j : Int)) = (ws.take j).map wz := by
  unfold cutV
  rw [HT.sIx_none, HT.sIx_nat, List.map_take]
  simp only [List.drop_zero, Nat.sub_zero]
  by_cases h : j ≤ (ws.map wz).length
  · rw [Nat.min_eq_left h]
  · rw [Nat.min_eq_right (by omega), List.take_of_length_le (Nat.le_refl _), List.take_of_length_le (by omega)]
theorem cut_wfrom (ws : List (List Nat)) (j : Nat) : cutV (ws.map wz) (some (j : Int)) none = (ws.drop j).map wz := by
  unfold cutV
  rw [HT.sIx_none, HT.sIx_nat, List.map_drop]
  by_cases h : j ≤ (ws.map wz).length
  · rw [Nat.min_eq_left h, ← List.length_drop, List.take_length]
  · rw [Nat.min_eq_right (by omega), List.drop_of_length_le (Nat.le_refl _), List.drop_of_length_le (by omega)]
    simp
theorem cut_wfrom1 (ws : List (List Nat)) (j : Nat) : cutV (ws.map wz) (some ((j : Int) + 1)) none = (ws.drop (j + 1)).map wz := cut_wfrom ws (j + 1)
theorem cut_wfrom2 (ws : List (List Nat)) (j : Nat) : cutV (ws.map wz) (some ((j : Int) + 2)) none = (ws.drop (j + 2)).map wz := cut_wfrom ws (j + 2)
theorem cut_wmid2 (ws : List (List Nat)) (j : Nat) : cutV (ws.map wz) (some (j : Int)) (some ((j : Int) + 2)) = ((ws.drop j).take 2).map wz := by
  have e : ((j : Int) + 2) = ((j + 2 : Nat) : Int) := rfl
  unfold cutV
  rw [e, HT.sIx_nat, HT.sIx_nat, List.map_take, List.map_drop]
  by_cases h : j + 2 ≤ (ws.map wz).length
  · rw [Nat.min_eq_left h, Nat.min_eq_left (by omega), show j + 2 - j = 2 by omega]
  · rw [Nat.min_eq_right (by omega)]
    by_cases h2 : j ≤ (ws.map wz).length
    · rw [Nat.min_eq_left h2, List.take_of_length_le (by rw [List.length_drop]; omega), List.take_of_length_le (by rw [List.length_drop]; omega)]
    · rw [Nat.min_eq_right (by omega), List.drop_of_length_le (Nat.le_refl _), List.drop_of_length_le (by omega)]
      simp
/-- a new list that a slice gives -/
theorem slH {K : PySem.W.Frag} {a : Addr} {ws us : List (List Nat)} {lo hi : Option Int} {H : Hp} {Q : VK} (h : H a = some (.lst (ws.map wz))) (e : cutV (ws.map wz) lo hi = us.map wz)
    (k : ∀ (S : Addr) (H' : Hp), H S = none → Same H H' → H' S = some (.lst (us.map wz)) → Q (.ref S) H') : rSlL K (.ref a) lo hi H Q :=
  ⟨a, _, rfl, SqL.of h, fun S nS => k S _ nS (same_new nS) (by rw [e]; exact upd_same)⟩
theorem catH {a b : Addr} {xs ys : List (List Nat)} {H : Hp} {Q : VK} (h1 : H a = some (.lst (xs.map wz))) (h2 : H b = some (.lst (ys.map wz))) (hl : xs.length + ys.length ≤ 1000)
    (k : ∀ (S : Addr) (H' : Hp), H S = none → Same H H' → H' S = some (.lst ((xs ++ ys).map wz)) → Q (.ref S) H') : rCat (.ref a) (.ref b) H Q := by
  refine ⟨a, b, _, _, rfl, rfl, h1, h2, ?_, fun S nS => k S _ nS (same_new nS) (by rw [List.map_append]; exact upd_same)⟩
  rw [List.length_map, List.length_map]
  exact Nat.le_trans hl (by decide)
theorem joinH {us : List (List Nat)} {H : Hp} {Q : VK} {K : PySem.W.Frag} {R : Addr} (hR : H R = some (.lst (us.map wz))) (hl : sumL us + us.length ≤ 6000) (k : Q (.str (Sx (jz 32 us))) H) :
    ∃ a p, ∃ ys : List Str, V.str (Str.ofString " ") = .str a ∧ [V.ref R] = [.ref p] ∧ (SqL K H p (ys.map V.str) ∨ SqT K H p (ys.map V.str)) ∧ (ys.map (·.length)).sum + ys.length * a.length ≤ 16777216 ∧ Q (.str (Txt.join a ys)) H := by
  refine ⟨_, R, us.map SX.S, rfl, rfl, .inl (SqL.of (by rw [hR, List.map_map]; rfl)), ?_, ?_⟩
  · rw [SX.lens, List.length_map]
    have e1 : (Str.ofString " ").length = 1 := by decide +kernel
    rw [e1]
    unfold sumL at hl
    show (us.map List.length).sum + _ ≤ _
    omega
  · have e : Txt.join (Str.ofString " ") (us.map SX.S) = Sx (jz 32 us) := SX.join_S [32] us
    rw [e]
    exact k
def optI : Option Int → V
  | none => .non
  | some i => .int i
def spLText : Sp := fun vs H Q _ => ∃ (l : Addr) (r : Fr), vs = [.ref l] ∧ H l = some (.tup (tupR r)) ∧ r.ok ∧ ∀ H', Same H H' → Q (.str (Sx r.tx)) H'
def spLNum : Sp := fun vs H Q _ => ∃ (l : List Nat) (lo hi : Int), vs = [.str (Sx l), .int lo, .int hi] ∧ l.length ≤ 3300 ∧ -12 ≤ lo ∧ lo ≤ hi ∧ hi ≤ 12 ∧ ∀ H', Same H H' → Q (optI (nW lo hi l)) H'
def oneL (lo : Int) (i : Nat) : Option Int → List Int
  | some v => if v < lo + (i : Int) then [v] else []
  | none => []
theorem oneL_some {lo v : Int} {i : Nat} : oneL lo i (some v) = if v < lo + (i : Int) then [v] else [] := rfl
section
variable {P : Program} {w : World} {K : PySem.W.Frag} {mg : Str → Option Value} {base : Heap}
theorem scLText : FnScope ["_law_told", "_law_one"] ["_law_told"] (defScope sLText) := ⟨rfl, rfl, rfl, by decide +kernel, rfl, by decide +kernel, by decide +kernel⟩
theorem ok_ltext {f : Addr} {fd : FuncData} (F : Fun K "_law_text" "_law_text" sLText f fd) (T : Blt mg) (ms : mg "str" = none) : FnOk P w K mg base CX0 1 f fd ["_law_told"] spLText := by
  refine F.ok scLText (fun vs H Q E h => ?_) (fun cdv A outer s H vs Q E hr h => ?_)
  · obtain ⟨l, r, rfl, _⟩ := h
    rfl
  · obtain ⟨l, r, rfl, hl, o, kk⟩ := h
    have hp : r.p.natAbs ≤ 99 := by have := o.p1; have := o.p2; omega
    have hq : r.q.natAbs ≤ 99 := by have := o.q1; have := o.q2; omega
    have hk : r.k.natAbs ≤ 99 := by have := o.k1; have := o.k2; omega
    have hc : r.c.natAbs ≤ 99 := by have := o.c1; have := o.c2; omega
    have hj : r.j.natAbs ≤ 99 := by have := o.j1; have := o.j2; omega
    have lp := txc_len hp
    have lq := txc_len hq
    have lk := txc_len hk
    have lc := txc_len hc
    have lj := txc_len hj
    refine ⟨_, pss_one (ps_ret (pe_op op_add_str (pe_op op_add_str (pe_op op_add_str (pe_op op_add_str (pe_op op_add_str pe_str (pe_callTy call_str_int (by rfl) ms (by decide +kernel) (pa_cons (pe_ix ix_tup (pv 0) pe_int (fun _ _ => rfl)) pa_nil))) pe_str) (pe_callTy call_str_int (by rfl) ms (by decide +kernel) (pa_cons (pe_ix ix_tup (pv 0) pe_int (fun _ _ => rfl)) pa_nil))) pe_str)
      (pe_join pe_str (pe_lc (own := [("_law_one", 1)]) (g := gName 1) (tt := tYes) (by rfl) scLText.nd (pi_tup (pe_slice sl_tupA (pv 0) (po_some pe_int) po_none)) (blkOk_by (own := [("_law_one", 1)]) (N := ["_law_told", "_law_one"]) (sc := defScope sLText) (by decide +kernel))
        (fun _ _ _ _ _ => pg_name (i := 1) scLText.nd rfl (.inl rfl)) (fun _ _ _ _ _ => pts_nil) (fun _ _ _ _ _ => pe_callTy call_str_int (by rfl) ms (by decide +kernel) (pa_cons (pv 1) pa_nil)))))), ?_⟩
    have cT : ∀ (a : List Nat) (i : Int), Sx a ++ tx i = Sx (a ++ txc i) := fun a i => by rw [tx_S, SX.S_cat]
    have cS : ∀ (a b : List Nat), Sx a ++ Sx b = Sx (a ++ b) := fun a b => SX.S_cat a b
    have zT : ∀ (a : List Nat) (i : Int), a.length + (txc i).length ≤ 1000 → (Sx a).length + (tx i).length ≤ sizeLine := fun a i h => by rw [tx_S, SX.S_len, SX.S_len, sizeLine_eq]; omega
    have zS : ∀ (a b : List Nat), a.length + b.length ≤ 1000 → (Sx a).length + (Sx b).length ≤ sizeLine := fun a b h => by rw [SX.S_len, SX.S_len, sizeLine_eq]; omega
    have w4 : wFill.length = 4 := rfl
    refine ⟨_, rfl, l, _, _, _, rfl, rfl, SqT.of hl, i5_0, r.p, rfl, tiny_log hp, Sx (wFill ++ [32]), tx r.p, rfl, rfl, zT _ _ (by simp; omega), ?_⟩
    rw [cT]
    refine ⟨_, Sx [47], rfl, rfl, zS _ _ (by simp; omega), ?_⟩
    rw [cS]
    refine ⟨_, rfl, l, _, _, _, rfl, rfl, SqT.of hl, i5_1, r.q, rfl, tiny_log hq, _, tx r.q, rfl, rfl, zT _ _ (by simp; omega), ?_⟩
    rw [cT]
    refine ⟨_, Sx [32], rfl, rfl, zS _ _ (by simp; omega), ?_⟩
    rw [cS]
    refine ⟨⟨_, rfl⟩, _, rfl, _, rfl, l, _, rfl, SqT.of hl, (fun z => absurd z.1 (show ¬ HT.sIx 5 0 (some 2) = 0 by decide)), fun _ S nS => ?_⟩
    rw [show cutV (tupR r) (some 2) none = [.int r.k, .int r.c, .int r.j] from rfl]
    have hS : upd H S (.tup [.int r.k, .int r.c, .int r.j]) S = some (.tup [.int r.k, .int r.c, .int r.j]) := upd_same
    have sS : Same H (upd H S (.tup [.int r.k, .int r.c, .int r.j])) := same_new nS
    generalize upd H S (.tup [.int r.k, .int r.c, .int r.j]) = H1 at hS sS ⊢
    refine ⟨S, rfl, ⟨_, SqT.of hS⟩, fun D nD => ?_⟩
    have SD := ne_of_none hS nD
    refine lc_pureV (n := 3) (walk_tup (K := K) (a := S) (xs := [.int r.k, .int r.c, .int r.j])) ([txc r.k, txc r.c, txc r.j].map wz) (by simp) (by decide) (fun H' h => SqT.of (h _ _ SD hS)) (fun i v H2 H' x hi2 hr bt _ y R Wk k => ?_) (fun H' bt hD => ?_)
    · obtain ⟨rfl, hv⟩ := y
      obtain ⟨z, rfl, rfl, hz⟩ : ∃ z : Int, v = .int z ∧ x = wz (txc z) ∧ z.natAbs ≤ 99 := by
        rcases (show i = 0 ∨ i = 1 ∨ i = 2 by omega) with rfl | rfl | rfl
        · exact ⟨r.k, (Option.some.inj hv).symm, (Option.some.inj hr).symm, hk⟩
        · exact ⟨r.c, (Option.some.inj hv).symm, (Option.some.inj hr).symm, hc⟩
        · exact ⟨r.j, (Option.some.inj hv).symm, (Option.some.inj hr).symm, hj⟩
      refine ⟨rfl, _, rfl, z, rfl, tiny_log hz, ?_⟩
      have e : V.str (Str.ofString (toString z)) = wz (txc z) := by show _ = V.str (Sx (txc z)); rw [← tx_S]; rfl
      rw [e]
      exact k _ (Same.refl _)
    · have s1 : Same H H' := sS.trans fun c o e => bt c o (ne_of_none e nD) e
      refine joinH (K := K) (Q := fun y H2 => ∃ i j, V.str (Sx (wFill ++ [32] ++ txc r.p ++ [47] ++ txc r.q ++ [32])) = V.str i ∧ y = V.str j ∧ i.length + j.length ≤ sizeLine ∧ Q (V.str (i ++ j)) H2) hD (by simp [sumL]; omega) ?_
      have hJ : (jz 32 [txc r.k, txc r.c, txc r.j]).length ≤ 20 := by
        have := jz_le 32 [txc r.k, txc r.c, txc r.j]
        simp [sumL] at this
        omega
      refine ⟨_, Sx (jz 32 [txc r.k, txc r.c, txc r.j]), rfl, rfl, zS _ _ (by simp only [List.length_append, List.length_cons, List.length_nil]; omega), ?_⟩
      rw [cS]
      have e : wFill ++ [32] ++ txc r.p ++ [47] ++ txc r.q ++ [32] ++ jz 32 [txc r.k, txc r.c, txc r.j] = r.tx := by
        simp [Fr.tx, Fr.ws, jz, TL.joinL, prW]
      rw [e]
      exact kk _ s1
theorem scLNum : FnScope ["_law_word", "_law_low", "_law_top", "_law_found", "_law_one"] ["_law_word", "_law_low", "_law_top"] (defScope sLNumber) := ⟨rfl, rfl, rfl, by decide +kernel, rfl, by decide +kernel, by decide +kernel⟩
theorem ok_lnum {f : Addr} {fd : FuncData} (F : Fun K "_law_number" "_law_number" sLNumber f fd) (T : Blt mg) (ms : mg "str" = none) : FnOk P w K mg base CX0 1 f fd ["_law_word", "_law_low", "_law_top"] spLNum := by
  refine F.ok scLNum (fun vs H Q E h => ?_) (fun cdv A outer s H vs Q E hr h => ?_)
  · obtain ⟨l, lo, hi, rfl, _⟩ := h
    rfl
  · obtain ⟨l, lo, hi, rfl, hl, h1, h2, h3, kk⟩ := h
    have un : (cxOf CX0 P w K mg base ["_law_word", "_law_low", "_law_top", "_law_found", "_law_one"] "_law_number" (defScope sLNumber) f cdv A outer s H E).nox.A.units + 64 < cLine := Room.units hr
    refine ⟨_, pss_cons (ps_setLc (i := 3) (te := tVar 4) (own := [("_law_one", 4)]) (g := gName 4) (by rfl) scLNum.nd rfl rfl (sw_true rfl rfl rfl (by decide +kernel)) (pi_range2 rfl T.range (pa_cons (pv 1) (pa_cons (pe_op op_add (pv 2) pe_int) pa_nil))) (blkOk_by (own := [("_law_one", 4)]) (N := ["_law_word", "_law_low", "_law_top", "_law_found", "_law_one"]) (sc := defScope sLNumber) (by decide +kernel))
        (fun _ _ _ _ _ => pg_name (i := 4) scLNum.nd rfl (.inl rfl)) (fun _ _ _ _ _ => pts_one (pt_cmpR op_eq (pe_callTy call_str_int (by rfl) ms (by decide +kernel) (pa_cons (pv 4) pa_nil)) (pv 0) (nomark _))) (fun _ _ _ _ _ => pv 4))
      (pss_one (ps_ret (pe_ifExp (pt_cmpR (op_eqD un) (pv 3) (pe_lst pa_nil) (nomark _)) pe_non (pe_ix ix_list (pv 3) pe_int (fun _ _ => rfl))))), ?_⟩
    obtain ⟨n, en⟩ : ∃ n : Nat, hi + 1 - lo = (n : Int) := ⟨(hi + 1 - lo).toNat, by omega⟩
    refine ⟨_, rfl, _, rfl, _, _, rfl, rfl, lo, hi + 1, rfl, ⟨by omega, by omega, by omega, by omega⟩, fun D nD => ?_⟩
    rw [show (hi + 1 - lo).toNat = n by omega]
    refine lc_it (n := n) (walk_range (lo := lo) (n := n)) (fun i H' => H' D = some (.lst ((oneL lo i (nW lo hi l)).map V.int)) ∧ But D H H') ⟨?_, But.upd_at⟩ (fun _ _ _ _ => trivial) (fun i v H2 H' hi2 h y => ?_) (fun H' h => ?_)
    · rw [upd_same]
      cases e : nW lo hi l with
      | none => rfl
      | some z =>
        have := (nW_some e).2.2
        show _ = some (HO.lst ((if z < lo + ((0 : Nat) : Int) then [z] else []).map V.int))
        rw [if_neg (by omega)]
        rfl
    · obtain ⟨hD, bt⟩ := h
      obtain ⟨rfl, rfl⟩ := y
      have hb : (lo + (i : Int)).natAbs ≤ 99 := by omega
      refine ⟨rfl, _, rfl, lo + (i : Int), rfl, tiny_log hb, _, rfl, rfl, ?_⟩
      have e : V.str (Str.ofString (toString (lo + (i : Int)))) = V.str (Sx (txc (lo + (i : Int)))) := by rw [← tx_S]; rfl
      rw [e]
      by_cases z : txc (lo + (i : Int)) = l
      · have en2 : nW lo hi l = some (lo + (i : Int)) := by rw [← z]; exact nW_txc (by omega) (by omega)
        rw [en2] at hD ⊢
        have e0 : oneL lo i (some (lo + (i : Int))) = [] := by rw [oneL_some, if_neg (by omega)]
        have e1 : oneL lo (i + 1) (some (lo + (i : Int))) = [lo + (i : Int)] := by rw [oneL_some, if_pos (by omega)]
        rw [e0] at hD
        rw [e1, show decide (V.str (Sx (txc (lo + (i : Int)))) = V.str (Sx l)) = true from decide_eq_true (by rw [z])]
        exact ⟨_, rfl, iteT ⟨_, rfl, _, hD, (by show 0 < sizeLine; decide), upd_same, bt.trans But.upd_at⟩⟩
      · rw [show decide (V.str (Sx (txc (lo + (i : Int)))) = V.str (Sx l)) = false from decide_eq_false fun q => z (S_inj (V.str.inj q))]
        have e1 : oneL lo (i + 1) (nW lo hi l) = oneL lo i (nW lo hi l) := by
          cases en2 : nW lo hi l with
          | none => rfl
          | some x =>
            have := nW_back en2
            rw [oneL_some, oneL_some]
            by_cases q : x < lo + (i : Int)
            · rw [if_pos q, if_pos (by omega)]
            · have : x ≠ lo + (i : Int) := fun y => z (by rw [← y]; exact this.symm)
              rw [if_neg q, if_neg (by omega)]
        rw [e1]
        exact ⟨_, rfl, iteF ⟨hD, bt⟩⟩
    · obtain ⟨hD, bt⟩ := h
      have s1 : Same H H' := fun c o e => bt c o (ne_of_none e nD) e
      cases en2 : nW lo hi l with
      | none =>
        rw [en2] at hD kk
        have hD : H' D = some (.lst []) := hD
        refine ⟨_, rfl, (by show 0 ≤ sizeLine; decide), fun q nq => ⟨.list [], .list [], .lst (SqL.of (same_new nq _ _ hD)) .nil, .lst (SqL.of upd_same) .nil, rfl, rfl, _, rfl, iteT ?_⟩⟩
        exact kk _ (s1.trans (same_new nq))
      | some z =>
        have hz := (nW_some en2).2.2
        rw [en2] at hD kk
        have e1 : oneL lo n (some z) = [z] := by rw [oneL_some, if_pos (by omega)]
        rw [e1] at hD
        have hD : H' D = some (.lst [.int z]) := hD
        refine ⟨_, rfl, (by show 0 ≤ sizeLine; decide), fun q nq => ⟨.list [.int z], .list [], .lst (SqL.of (same_new nq _ _ hD)) (.cons (.int _) .nil), .lst (SqL.of upd_same) .nil, sh_ints [z], rfl, _, rfl, iteF ?_⟩⟩
        exact ⟨_, rfl, D, _, _, _, rfl, rfl, SqL.of (same_new nq _ _ hD), atI_nat (j := 0) rfl, kk _ (s1.trans (same_new nq))⟩
end
end Ev
namespace Ev
open PySem L2 PySem.Spec PyProof.Rows
def spFirst : Sp := fun vs H Q _ => ∃ L : List Nat, vs = [.str (Sx L)] ∧ L.length ≤ 3300 ∧ ∀ H', Same H H' → Q (optV (wrF (pcz 32 L))) H'
abbrev nFirst : List Str := ["_law_line", "_law_words", "_law_bounds", "_law_at", "_law_parts", "_law_part"]
def loB : Nat → Int | 1 => -12 | 2 => 1 | _ => 2
def hiB : Nat → Int | 1 => 12 | 2 => 5 | _ => 6
theorem st_B {i : Nat} (h1 : 1 ≤ i) (h3 : i ≤ 3) (l : List Nat) : stW (i + 1) l = (nW (loB i) (hiB i) l).isSome := by
  rcases (show i = 1 ∨ i = 2 ∨ i = 3 by omega) with rfl | rfl | rfl
  · exact st_2 l
  · exact st_3 l
  · exact st_4 l
section
variable {P : Program} {w : World} {K : PySem.W.Frag} {mg : Str → Option Value} {base : Heap}
theorem scFirst : FnScope nFirst ["_law_line"] (defScope sLFirstWrong) := ⟨rfl, rfl, rfl, by decide +kernel, rfl, by decide +kernel, by decide +kernel⟩
theorem ok_lfirst {f : Addr} {fd : FuncData} (F : Fun K "_law_first_wrong" "_law_first_wrong" sLFirstWrong f fd) (T : Blt mg) (D1 : Df P w K mg base 1 "_law_number" ["_law_word", "_law_low", "_law_top"] spLNum) : FnOk P w K mg base CX0 2 f fd ["_law_line"] spFirst := by
  obtain ⟨f1, fd1, G1, g1, k1, b1⟩ := D1.ex
  refine F.ok scFirst (fun vs H Q E h => ?_) (fun cdv A outer s H vs Q E hr h => ?_)
  · obtain ⟨L, rfl, _⟩ := h
    rfl
  · obtain ⟨L, rfl, lL, kk⟩ := h
    refine ⟨_, (pss_cons (ps_par (i := 1) (j := 2) (by rfl) scFirst.nd rfl rfl (by decide) rfl rfl (pa_cons (pe_split (pv 0) pe_str) (pa_cons (pe_lst (pa_cons (pe_tup (pa_cons (pe_un un_neg pe_int) (pa_cons pe_int pa_nil))) (pa_cons (pe_tup (pa_cons pe_int (pa_cons pe_int pa_nil))) (pa_cons (pe_tup (pa_cons pe_int (pa_cons pe_int pa_nil))) pa_nil)))) pa_nil)) (by rfl))
      (pss_cons (ps_if (pt_cmpR op_ne (pe_ix ix_list (pv 1) pe_int (fun _ _ => rfl)) pe_str (nomark _)) (pss_one (ps_ret pe_int)) pss_nil)
      (pss_cons (ps_for PassesOwn.never rfl (pi_range2 (by rfl) T.range (pa_cons pe_int (pa_cons pe_int pa_nil))) (pg_name (i := 3) scFirst.nd rfl (.inl rfl))
        (pss_cons (ps_if (pt_cmpR op_ge (pv 3) (pe_callB call_len_seq (by rfl) T.len PySem.boot_len (pa_cons (pv 1) pa_nil)) (nomark _)) (pss_one (ps_ret (pv 3))) pss_nil)
        (pss_one (ps_if (pt_cmpR op_eq (pv 3) pe_int (nomark _))
          (pss_cons (ps_set (i := 4) scFirst.nd rfl (.inl rfl) (pe_split (pe_ix ix_list (pv 1) pe_int (fun _ _ => rfl)) pe_str))
          (pss_one (ps_if (PW.pt (pw_or (pt_cmpR op_ne (pe_callB call_len_seq (by rfl) T.len PySem.boot_len (pa_cons (pv 4) pa_nil)) pe_int (nomark _)) (pw_or1 (pt_cmpR op_in_seq pe_non
              (pe_lc (own := [("_law_part", 5)]) (g := gName 5) (tt := tYes) (by rfl) scFirst.nd (pi_list (pv 4)) (blkOk_by (own := [("_law_part", 5)]) (N := nFirst) (sc := defScope sLFirstWrong) (by decide +kernel)) (fun _ _ _ _ _ => pg_name (i := 5) scFirst.nd rfl (.inl rfl)) (fun _ _ _ _ _ => pts_nil) (fun _ _ _ _ _ => pe_call G1 hr (by rfl) g1 k1 b1 .nil pass0 (pa_cons (pv 5) (pa_cons pe_int (pa_cons pe_int pa_nil))))) (by rfl))))) (pss_one (ps_ret pe_int)) pss_nil)))
          (pss_one (ps_if (pt_cmpR op_isN (pe_call G1 hr (by rfl) g1 k1 b1 .nil pass0 (pa_cons (pe_ix ix_list (pv 1) (pv 3) (fun _ _ => rfl)) (pa_cons (pe_ix ix_tup (pe_ix ix_list (pv 2) (pe_op op_sub (pv 3) pe_int) (fun _ _ => rfl)) pe_int (fun _ _ => rfl)) (pa_cons (pe_ix ix_tup (pe_ix ix_list (pv 2) (pe_op op_sub (pv 3) pe_int) (fun _ _ => rfl)) pe_int (fun _ _ => rfl)) pa_nil)))) pe_non (nomark _)) (pss_one (ps_ret (pv 3))) pss_nil))))))
      (pss_one (ps_ret (pe_ifExp (pt_cmpR op_eq (pe_callB call_len_seq (by rfl) T.len PySem.boot_len (pa_cons (pv 1) pa_nil)) pe_int (nomark _)) pe_non pe_int)))))), ?_⟩
    refine ⟨_, rfl, ⟨_, rfl⟩, _, _, rfl, rfl, by decide +kernel, by rw [SX.S_len, sizeLine_eq]; omega, fun W nWx => ?_⟩
    rw [show (Txt.split (Sx L) (Str.ofString " ")).map V.str = (pcz 32 L).map wz from split_pcz (by decide) L]
    have hW0 : upd H W (.lst ((pcz 32 L).map wz)) W = some (.lst ((pcz 32 L).map wz)) := upd_same
    have sW0 : Same H (upd H W (.lst ((pcz 32 L).map wz))) := same_new nWx
    generalize upd H W (.lst ((pcz 32 L).map wz)) = H0 at hW0 sW0 ⊢
    have l63 : ∀ l ∈ pcz 32 L, l.length ≤ 3300 := fun l hl => by have := ((pcz_bound 32 L).1 l hl).1; omega
    have ne : pcz 32 L ≠ [] := pcz_ne 32 L
    generalize pcz 32 L = ws at hW0 l63 ne kk ⊢
    refine ⟨_, rfl, (by show 2 ≤ sizeLine; decide), fun t1 n1 => ⟨(by show 2 ≤ sizeLine; decide), fun t2 n2 => ⟨(by show 2 ≤ sizeLine; decide), fun t3 n3 => ⟨(by show 3 ≤ sizeLine; decide), fun B nB => ?_⟩⟩⟩⟩
    have e1 : upd H0 t1 (.tup [.int (-12), .int 12]) t1 = some (.tup [.int (-12), .int 12]) := upd_same
    have s1 : Same H0 (upd H0 t1 (.tup [.int (-12), .int 12])) := same_new n1
    generalize upd H0 t1 (.tup [.int (-12), .int 12]) = H1 at e1 s1 n2 n3 nB ⊢
    have e2 : upd H1 t2 (.tup [.int 1, .int 5]) t2 = some (.tup [.int 1, .int 5]) := upd_same
    have s2 : Same H1 (upd H1 t2 (.tup [.int 1, .int 5])) := same_new n2
    generalize upd H1 t2 (.tup [.int 1, .int 5]) = H2 at e2 s2 n3 nB ⊢
    have e3 : upd H2 t3 (.tup [.int 2, .int 6]) t3 = some (.tup [.int 2, .int 6]) := upd_same
    have s3 : Same H2 (upd H2 t3 (.tup [.int 2, .int 6])) := same_new n3
    generalize upd H2 t3 (.tup [.int 2, .int 6]) = H3 at e3 s3 nB ⊢
    have hB : upd H3 B (.lst [.ref t1, .ref t2, .ref t3]) B = some (.lst [.ref t1, .ref t2, .ref t3]) := upd_same
    have s4 : Same H3 (upd H3 B (.lst [.ref t1, .ref t2, .ref t3])) := same_new nB
    generalize upd H3 B (.lst [.ref t1, .ref t2, .ref t3]) = H4 at hB s4 ⊢
    have sH : Same H H4 := sW0.trans (s1.trans (s2.trans (s3.trans s4)))
    have hW := (s1.trans (s2.trans (s3.trans s4))) _ _ hW0
    have f1' := (s2.trans (s3.trans s4)) _ _ e1
    have f2' := (s3.trans s4) _ _ e2
    have f3' := s4 _ _ e3
    clear e1 e2 e3 s1 s2 s3 s4 hW0 sW0
    refine ⟨_, _, rfl, ?_⟩
    obtain ⟨w0, wr, rfl⟩ : ∃ w0 wr, ws = w0 :: wr := by
      cases ws with
      | nil => exact absurd rfl ne
      | cons x r => exact ⟨x, r, rfl⟩
    refine ⟨_, rfl, W, _, _, _, rfl, rfl, SqL.of hW, atI_nat (j := 0) rfl, rfl, _, rfl, ?_⟩
    by_cases z0 : w0 = wFill
    rotate_left
    · rw [show decide (wz w0 = V.str (Str.ofString "fill")) = false from decide_eq_false fun q => z0 (S_inj (b := wFill) (V.str.inj q))]
      have := kk _ sH
      rw [wr_head (fun y => z0 (Option.some.inj y))] at this
      exact iteT this
    rw [show decide (wz w0 = V.str (Str.ofString "fill")) = true from decide_eq_true (by rw [z0]; rfl)]
    refine iteF ?_
    have h0 : (w0 :: wr)[0]? = some wFill := by rw [z0]; rfl
    generalize w0 :: wr = ws at hW l63 ne kk h0 ⊢
    refine ⟨1, 5, rfl, ⟨by decide, by decide, by decide, by decide⟩, ?_⟩
    refine for_it (walk_range (lo := 1) (n := 4)) (fun i σ G => (∀ j, 1 ≤ j → j < i + 1 → stS ws j = true) ∧ Same H4 G ∧ ∃ x3 x4 x5, σ = [some (.str (Sx L)), some (.ref W), some (.ref B), x3, x4, x5]) ⟨fun j h1 h2 => by omega, Same.refl _, none, none, none, rfl⟩ (fun _ _ _ _ _ => trivial) (fun i v σ G2 G3 hi h y => ?_) (fun σ G2 h => ?_)
    · obtain ⟨hok, sg, x3, x4, x5, rfl⟩ := h
      obtain ⟨rfl, rfl⟩ := y
      have hWg := sg _ _ hW
      have ec : (1 : Int) + (i : Int) = ((i + 1 : Nat) : Int) := by omega
      refine ⟨_, rfl, _, rfl, W, _, rfl, .inl (SqL.of hWg), _, _, rfl, rfl, _, rfl, ?_⟩
      rw [List.length_map]
      by_cases z : ws.length ≤ i + 1
      · rw [show decide ((1 : Int) + (i : Int) ≥ (ws.length : Int)) = true from decide_eq_true (by omega)]
        have e : stS ws (i + 1) = false := by
          unfold stS
          rw [List.getElem?_eq_none z]
        have := kk _ (sH.trans sg)
        rw [wr_at h0 hok (by omega) (by omega) e] at this
        refine iteT ⟨_, rfl, ?_⟩
        show Q (.int (1 + (i : Int))) _
        rw [ec]
        exact this
      · rw [show decide ((1 : Int) + (i : Int) ≥ (ws.length : Int)) = false from decide_eq_false (by omega)]
        have el : ws[i + 1]? = some (ws[i + 1]'(by omega)) := List.getElem?_eq_getElem (by omega)
        have hl := l63 _ (List.getElem_mem (show i + 1 < ws.length by omega))
        generalize ws[i + 1]'(by omega) = l at el hl
        have es : stS ws (i + 1) = stW (i + 1) l := by unfold stS; rw [el]
        have bad : stW (i + 1) l = false → ∀ G, Same G3 G → Q (.int (1 + (i : Int))) G := fun e G s => by
          have := kk _ (sH.trans (sg.trans s))
          rw [wr_at h0 hok (by omega) (by omega) (es.trans e)] at this
          rw [ec]
          exact this
        have good : stW (i + 1) l = true → ∀ j, 1 ≤ j → j < i + 1 + 1 → stS ws j = true := fun e j h1 h2 => by
          by_cases q : j = i + 1
          · rw [q, es]; exact e
          · exact hok j h1 (by omega)
        refine iteF ⟨_, rfl, rfl, _, rfl, ?_⟩
        by_cases i0 : i = 0
        · subst i0
          rw [show decide (V.int (1 + ((0 : Nat) : Int)) = V.int 1) = true from rfl]
          refine iteT ⟨_, rfl, W, _, _, _, rfl, rfl, SqL.of hWg, atI_nat (j := 1) (by rw [List.getElem?_map, el]; rfl), ⟨_, rfl⟩, _, _, rfl, rfl, by decide +kernel, by rw [SX.S_len, sizeLine_eq]; omega, fun V1 nV => ?_⟩
          rw [show (Txt.split (Sx l) (Str.ofString "/")).map V.str = (pcz 47 l).map wz from split_pcz (by decide) l]
          have hV : upd G3 V1 (.lst ((pcz 47 l).map wz)) V1 = some (.lst ((pcz 47 l).map wz)) := upd_same
          have sV : Same G3 (upd G3 V1 (.lst ((pcz 47 l).map wz))) := same_new nV
          generalize upd G3 V1 (.lst ((pcz 47 l).map wz)) = G4 at hV sV ⊢
          have ep : stW 1 l = (pW 12 l).isSome := st_pW l
          have hb := (pcz_bound 47 l).1
          unfold pW at ep
          refine ⟨_, rfl, V1, _, rfl, .inl (SqL.of hV), rfl, _, rfl, ?_⟩
          rw [List.length_map]
          generalize pcz 47 l = hs at hV hb ep ⊢
          by_cases e : hs.length = 2
          · match hs, e, hV, hb, ep with
            | [a, b], _, hV, hb, ep =>
              refine iteF ⟨_, rfl, V1, rfl, ⟨_, SqL.of hV⟩, fun D nD => ?_⟩
              have VD := ne_of_none hV nD
              refine lc_pureV (n := 2) (walk_list (K := K) (a := V1) (xs := [a, b].map wz)) ([a, b].map fun x => optI (nW 1 12 x)) (by simp) (by decide) (fun H' h => SqL.of (h _ _ VD hV)) (fun i v H2 H' r hi hr' bt _ y R Wk k => ?_) (fun H' bt hD => ?_)
              · obtain ⟨rfl, hv⟩ := y
                rw [List.getElem?_map] at hv hr'
                obtain ⟨x, hx, rfl⟩ := Option.map_eq_some_iff.mp hv
                rw [hx] at hr'
                obtain rfl : optI (nW 1 12 x) = r := Option.some.inj hr'
                refine ⟨rfl, _, rfl, x, 1, 12, rfl, by have := (hb x (List.mem_of_getElem? hx)).1; omega, by decide, by decide, by decide, fun H'' s'' => ?_⟩
                exact k _ s''
              · have sF : Same G3 H' := sV.trans fun c o e => bt c o (ne_of_none e nD) e
                have fl : ∀ x, flatV (optI x) = true := fun x => by cases x <;> rfl
                have iv : inV .non ([a, b].map fun x => optI (nW 1 12 x)) = !((nW 1 12 a).isSome && (nW 1 12 b).isSome) := by
                  simp only [inV, List.map_cons, List.map_nil, List.any_cons, List.any_nil]
                  cases nW 1 12 a <;> cases nW 1 12 b <;> simp [eqV, optI]
                refine ⟨D, _, rfl, .inl (SqL.of hD), rfl, by simp [fl], _, rfl, ?_⟩
                rw [if_neg (by decide), iv]
                have ep2 : stW 1 l = ((nW 1 12 a).isSome && (nW 1 12 b).isSome) := by
                  rw [ep]
                  show (match nW 1 12 a, nW 1 12 b with | some x, some y => some (x, y) | _, _ => none).isSome = _
                  cases nW 1 12 a <;> cases nW 1 12 b <;> rfl
                rw [← ep2]
                cases e1 : stW 1 l with
                | false => exact iteT (bad e1 _ sF)
                | true => exact iteF ⟨good e1, sg.trans sF, _, _, _, rfl⟩
          · have e2 : decide (V.int (hs.length : Int) = V.int 2) = false := decide_eq_false fun z => by injection z with z; omega
            rw [e2]
            have e1 : stW 1 l = false := by
              rw [ep]
              match hs, e with
              | [], _ => rfl
              | [_], _ => rfl
              | _ :: _ :: _ :: _, _ => rfl
            exact iteT (iteT (bad e1 _ sV))
        · rw [show decide (V.int (1 + (i : Int)) = V.int 1) = false from decide_eq_false fun q => by injection q with q; omega]
          obtain ⟨tt, hat, ht, hlo, hhi, hlh⟩ : ∃ tt : Addr, atI [V.ref t1, .ref t2, .ref t3] (1 + (i : Int) - 2) = some (.ref tt) ∧ G3 tt = some (.tup [.int (loB i), .int (hiB i)]) ∧ -12 ≤ loB i ∧ hiB i ≤ 12 ∧ loB i ≤ hiB i := by
            rcases (show i = 1 ∨ i = 2 ∨ i = 3 by omega) with rfl | rfl | rfl
            · exact ⟨t1, rfl, sg _ _ f1', by decide, by decide, by decide⟩
            · exact ⟨t2, rfl, sg _ _ f2', by decide, by decide, by decide⟩
            · exact ⟨t3, rfl, sg _ _ f3', by decide, by decide, by decide⟩
          have hBg := sg _ _ hB
          have hatW : atI (ws.map wz) (1 + (i : Int)) = some (wz l) := by rw [ec]; exact atI_nat (by rw [List.getElem?_map, el]; rfl)
          refine iteF ⟨_, rfl, _, rfl, W, _, _, _, rfl, rfl, SqL.of hWg, hatW, ?_⟩
          refine ⟨_, rfl, _, rfl, _, _, rfl, rfl, B, _, _, _, rfl, rfl, SqL.of hBg, hat, tt, _, _, _, rfl, rfl, SqT.of ht, tup0, ?_⟩
          refine ⟨_, rfl, _, rfl, _, _, rfl, rfl, B, _, _, _, rfl, rfl, SqL.of hBg, hat, tt, _, _, _, rfl, rfl, SqT.of ht, tup1, ?_⟩
          refine ⟨l, _, _, rfl, hl, hlo, hlh, hhi, fun G5 s5 => ?_⟩
          have sb := st_B (by omega) (by omega) l (i := i)
          cases en : nW (loB i) (hiB i) l with
          | none =>
            rw [en] at sb
            exact ⟨rfl, _, rfl, iteT ⟨_, rfl, bad sb _ s5⟩⟩
          | some x =>
            rw [en] at sb
            exact ⟨rfl, _, rfl, iteF ⟨good sb, sg.trans s5, _, _, _, rfl⟩⟩
    · obtain ⟨hok, sg, x3, x4, x5, rfl⟩ := h
      have hWg := sg _ _ hW
      have kf := kk _ (sH.trans sg)
      rw [wr_end h0 hok] at kf
      have h5 : 4 < ws.length := by
        refine Nat.lt_of_not_le fun z => ?_
        have := hok 4 (by decide) (by decide)
        unfold stS at this
        rw [List.getElem?_eq_none z] at this
        cases this
      refine ⟨_, rfl, W, _, rfl, .inl (SqL.of hWg), rfl, _, rfl, ?_⟩
      rw [List.length_map]
      by_cases z : ws.length = 5
      · rw [if_neg (by omega)] at kf
        rw [show decide (V.int (ws.length : Int) = V.int 5) = true from decide_eq_true (by rw [z]; rfl)]
        exact iteT kf
      · rw [if_pos (by omega)] at kf
        rw [show decide (V.int (ws.length : Int) = V.int 5) = false from decide_eq_false fun q => by injection q with q; omega]
        exact iteF kf
end
end Ev
namespace Ev
open PySem L2 PySem.Spec PyProof.Rows
def nines : Str := ⟨(List.replicate 400 ("9" : Str).cps).foldl (· ++ ·) #[]⟩
theorem nines_S : nines = Sx (List.replicate 400 57) := by decide +kernel
theorem nines_len : nines.length ≤ 640 := by decide +kernel
section
variable {X : Cx}
theorem op_nines : OpR X (binaryOp .Mult) (fun x y H Q => x = .str "9" ∧ y = .int 400 ∧ Q (.str nines) H) := by
  intro pins s σ H x y v u Q I rx ry h
  obtain ⟨rfl, rfl, q⟩ := h
  obtain ⟨t, rfl⟩ := rx
  obtain ⟨t', rfl⟩ := ry
  refine PySem.P.mul_str ?_ (fun h1 _ => ?_) (fun h1 _ => ?_) ?_
  · rw [decide_eq_false (by omega), decide_eq_false (by omega)]; rfl
  · have : (1 : Int) ≤ (2 ^ 63 - 1) / 400 := by decide
    show ¬ ((1 : Nat) : Int) > (2 ^ 63 - 1) / 400
    omega
  · show _root_.PySem.Builtin.Str.tooLong (1 * 400) = false
    decide +kernel
  · rw [if_neg (by omega), if_neg (by decide)]
    exact ⟨Nat.le_trans nines_len (by decide), .str nines, H, I.tok _, ⟨_, rfl⟩, q⟩
end
def oddA : List (List Nat) := [[], [110, 111, 110, 101], [48], [49], [50], [53], [54], [55], [49, 50], [49, 51], [45, 49], [45, 49, 50], [45, 49, 51], [43, 49], [48, 49], [45, 48], [49, 47, 50], [50, 47, 49], [49, 50, 47, 49, 50]]
def oddB : List (List Nat) := [[49, 51, 47, 49], [49, 47, 48], [49, 47, 50, 47, 51], [47], [49, 47], [47, 50], [49, 47, 45, 50], [48, 49, 47, 50], [102, 105, 108, 108], [70, 105, 108, 108], [116, 117, 114, 110], [97], [49, 10], List.replicate 400 57]
def signW : List (List Nat) := [[32], [48], [47], [120]]
def OkW (M : Nat) (ws : List (List Nat)) : Prop := ∀ l ∈ ws, l.length ≤ M ∧ Asc l
theorem OkW.app {M : Nat} {a b : List (List Nat)} (h : OkW M a) (k : OkW M b) : OkW M (a ++ b) := fun l hl => (List.mem_append.mp hl).elim (h l) (k l)
theorem OkW.take {M : Nat} {a : List (List Nat)} (h : OkW M a) (j : Nat) : OkW (M + 1) (a.take j) := fun l hl => by have := h l (List.mem_of_mem_take hl); exact ⟨by omega, this.2⟩
theorem OkW.drop {M : Nat} {a : List (List Nat)} (h : OkW M a) (j : Nat) : OkW (M + 1) (a.drop j) := fun l hl => by have := h l (List.mem_of_mem_drop hl); exact ⟨by omega, this.2⟩
theorem OkW.one {M : Nat} {x : List Nat} (h : x.length ≤ M) (k : Asc x) : OkW M [x] := fun l hl => by rw [List.mem_singleton.mp hl]; exact ⟨h, k⟩
theorem odd_ok : ∀ l ∈ oddA ++ oddB, l.length ≤ 400 ∧ ∀ c ∈ l, c < 1114112 := by decide +kernel
theorem sign_ok : ∀ l ∈ signW, l.length ≤ 1 ∧ ∀ c ∈ l, c < 1114112 := by decide +kernel
theorem Pen.neW {L a p : Addr} {H : Hp} {B : Int} {ws : List (List Nat)} (h : Pen L H p B) (e : H a = Option.some (HO.lst (ws.map wz))) : a ≠ p := by
  obtain ⟨ns, t, c, h1, _⟩ := h
  intro z
  rw [z, h1] at e
  have e := Option.some.inj e
  injection e with e
  cases ws with
  | nil => cases e
  | cons x r => injection e with e _; cases e
def spBent : Sp := fun vs H Q _ => ∃ (p a L0 : Addr) (ws : List (List Nat)) (M : Nat) (b : Int), vs = [.ref p, .ref a] ∧ H a = some (.lst (ws.map wz)) ∧ ws.length ≤ 30 ∧ OkW M ws ∧ 400 ≤ M ∧ M ≤ 2000 ∧ b ≤ 900000 ∧ Pen L0 H p b ∧
  ∀ (R : Addr) (us : List (List Nat)) (H' : Hp), us.length ≤ ws.length + 1 → OkW (M + 1) us → H' R = some (.lst (us.map wz)) → But p H H' → Pen L0 H' p (b + 5) → Q (.ref R) H'
abbrev nBent : List Str := ["_law_pen_here", "_law_words", "_law_kind", "_law_at", "_law_odd", "_law_word"]
section
variable {P : Program} {w : World} {K : PySem.W.Frag} {mg : Str → Option Value} {base : Heap}
theorem scBent : FnScope nBent ["_law_pen_here", "_law_words"] (defScope sLBent) := ⟨rfl, rfl, rfl, by decide +kernel, rfl, by decide +kernel, by decide +kernel⟩
theorem ok_bent {f : Addr} {fd : FuncData} (F : Fun K "_law_bent" "_law_bent" sLBent f fd) (T : Blt mg) (D1 : Df P w K mg base 1 "_law_draw" ["_law_pen_here", "_law_many"] spDraw) (D2 : Df P w K mg base 2 "_law_pick" ["_law_pen_here", "_law_some"] spPick) : FnOk P w K mg base CX0 3 f fd ["_law_pen_here", "_law_words"] spBent := by
  obtain ⟨f1, fd1, G1, g1, k1, b1⟩ := D1.ex
  obtain ⟨f2, fd2, G2, g2, k2, b2⟩ := D2.ex
  refine F.ok scBent (fun vs H Q E h => ?_) (fun cdv A outer s H vs Q E hr h => ?_)
  · obtain ⟨p, a, L0, ws, M, b, rfl, _⟩ := h
    rfl
  · obtain ⟨p, W, L0, ws, M, b, rfl, hW, hn, hok, hM1, hM2, hb, hp, kk⟩ := h
    have hr1 : Room 1 _ := hr.mono (by decide)
    refine ⟨_, pss_cons (ps_par (i := 2) (j := 3) (by rfl) scBent.nd rfl rfl (by decide) rfl rfl (pa_cons (pe_call G1 hr1 (by rfl) g1 k1 b1 .nil pass0 (pa_cons (pv 0) (pa_cons pe_int pa_nil))) (pa_cons (pe_call G1 hr1 (by rfl) g1 k1 b1 .nil pass0 (pa_cons (pv 0) (pa_cons (pe_op op_add (pe_callB call_len_seq (by rfl) T.len PySem.boot_len (pa_cons (pv 1) pa_nil)) pe_int) pa_nil))) pa_nil)) (by rfl))
      (pss_cons (ps_set (i := 4) scBent.nd rfl (.inl rfl) (pe_lst (pa_cons pe_str (pa_cons pe_str (pa_cons pe_str (pa_cons pe_str (pa_cons pe_str (pa_cons pe_str (pa_cons pe_str (pa_cons pe_str (pa_cons pe_str (pa_cons pe_str (pa_cons pe_str (pa_cons pe_str (pa_cons pe_str (pa_cons pe_str (pa_cons pe_str (pa_cons pe_str (pa_cons pe_str (pa_cons pe_str (pa_cons pe_str pa_nil)))))))))))))))))))))
      (pss_cons (ps_set (i := 4) scBent.nd rfl (.inl rfl) (pe_op op_cat (pv 4) (pe_lst (pa_cons pe_str (pa_cons pe_str (pa_cons pe_str (pa_cons pe_str (pa_cons pe_str (pa_cons pe_str (pa_cons pe_str (pa_cons pe_str (pa_cons pe_str (pa_cons pe_str (pa_cons pe_str (pa_cons pe_str (pa_cons pe_str (pa_cons (pe_op op_nines pe_str pe_int) pa_nil)))))))))))))))))
      (pss_cons (ps_set (i := 5) scBent.nd rfl (.inl rfl) (pe_call G2 hr (by rfl) g2 k2 b2 .nil pass0 (pa_cons (pv 0) (pa_cons (pv 4) pa_nil))))
      (pss_cons (ps_if (pt_cmpR op_eq (pv 2) pe_int (nomark _)) (pss_one (ps_ret (pe_op op_cat (pe_op op_cat (pe_slice sl_list (pv 1) po_none (po_some (pv 3))) (pe_lst (pa_cons (pv 5) pa_nil))) (pe_slice sl_list (pv 1) (po_some (pv 3)) po_none)))) pss_nil)
      (pss_cons (ps_if (pt_cmpR op_eq (pv 2) pe_int (nomark _)) (pss_one (ps_ret (pe_op op_cat (pe_slice sl_list (pv 1) po_none (po_some (pv 3))) (pe_slice sl_list (pv 1) (po_some (pe_op op_add (pv 3) pe_int)) po_none)))) pss_nil)
      (pss_cons (ps_if (PW.pt (pw_or (pt_cmpR op_eq (pv 2) pe_int (nomark _)) (pw_or1 (pt_cmpR op_eq (pv 3) (pe_callB call_len_seq (by rfl) T.len PySem.boot_len (pa_cons (pv 1) pa_nil)) (nomark _))))) (pss_one (ps_ret (pe_op op_cat (pe_op op_cat (pe_slice sl_list (pv 1) po_none (po_some (pv 3))) (pe_lst (pa_cons (pv 5) pa_nil))) (pe_slice sl_list (pv 1) (po_some (pe_op op_add (pv 3) pe_int)) po_none)))) pss_nil)
      (pss_cons (ps_if (PW.pt (pw_and (pt_cmpR op_eq (pv 2) pe_int (nomark _)) (pw_and1 (pt_cmpR op_lt (pe_op op_add (pv 3) pe_int) (pe_callB call_len_seq (by rfl) T.len PySem.boot_len (pa_cons (pv 1) pa_nil)) (nomark _))))) (pss_one (ps_ret (pe_op op_cat (pe_op op_cat (pe_slice sl_list (pv 1) po_none (po_some (pv 3))) (pe_lst (pa_cons (pe_ix ix_list (pv 1) (pe_op op_add (pv 3) pe_int) (fun _ _ => rfl)) (pa_cons (pe_ix ix_list (pv 1) (pv 3) (fun _ _ => rfl)) pa_nil)))) (pe_slice sl_list (pv 1) (po_some (pe_op op_add (pv 3) pe_int)) po_none)))) pss_nil)
      (pss_one (ps_ret (pe_op op_cat (pe_op op_cat (pe_slice sl_list (pv 1) po_none (po_some (pv 3))) (pe_lst (pa_cons (pe_op op_add_str (pe_ix ix_list (pv 1) (pv 3) (fun _ _ => rfl)) (pe_call G2 hr (by rfl) g2 k2 b2 .nil pass0 (pa_cons (pv 0) (pa_cons (pe_lst (pa_cons pe_str (pa_cons pe_str (pa_cons pe_str (pa_cons pe_str pa_nil))))) pa_nil)))) pa_nil))) (pe_slice sl_list (pv 1) (po_some (pe_op op_add (pv 3) pe_int)) po_none))))))))))), ?_⟩
    have hWp : W ≠ p := hp.neW hW
    refine ⟨_, rfl, p, L0, _, b, rfl, by decide, by decide, by omega, hp, fun d1 H1 t1 p1 c0 c1 => ?_⟩
    have hW1 := t1 _ _ hWp hW
    refine ⟨_, rfl, _, rfl, W, _, rfl, .inl (SqL.of hW1), _, _, rfl, rfl, p, L0, _, _, rfl, by rw [List.length_map]; omega, by rw [List.length_map]; omega, by omega, p1, fun d2 H2 t2 p2 e0 e1 => ⟨_, _, rfl, ?_⟩⟩
    rw [List.length_map] at e1
    obtain ⟨j, rfl⟩ := Int.eq_ofNat_of_zero_le e0
    have hW3 := t2 _ _ hWp hW1
    have bt3 : But p H H2 := t1.trans t2
    refine ⟨(by show 19 ≤ sizeLine; decide), fun l nl => ?_⟩
    rw [show [V.str (Str.ofString ""), V.str (Str.ofString "none"), V.str (Str.ofString "0"), V.str (Str.ofString "1"), V.str (Str.ofString "2"), V.str (Str.ofString "5"), V.str (Str.ofString "6"), V.str (Str.ofString "7"), V.str (Str.ofString "12"), V.str (Str.ofString "13"), V.str (Str.ofString "-1"), V.str (Str.ofString "-12"), V.str (Str.ofString "-13"), V.str (Str.ofString "+1"), V.str (Str.ofString "01"), V.str (Str.ofString "-0"), V.str (Str.ofString "1/2"), V.str (Str.ofString "2/1"), V.str (Str.ofString "12/12")] = oddA.map wz from rfl]
    have hl : upd H2 l (.lst (oddA.map wz)) l = some (.lst (oddA.map wz)) := upd_same
    have s4 : Same H2 (upd H2 l (.lst (oddA.map wz))) := same_new nl
    generalize upd H2 l (.lst (oddA.map wz)) = H4 at hl s4 ⊢
    refine ⟨_, rfl, rfl, rfl, (by show 14 ≤ sizeLine; decide), fun l2 nl2 => ?_⟩
    rw [show [V.str (Str.ofString "13/1"), V.str (Str.ofString "1/0"), V.str (Str.ofString "1/2/3"), V.str (Str.ofString "/"), V.str (Str.ofString "1/"), V.str (Str.ofString "/2"), V.str (Str.ofString "1/-2"), V.str (Str.ofString "01/2"), V.str (Str.ofString "fill"), V.str (Str.ofString "Fill"), V.str (Str.ofString "turn"), V.str (Str.ofString "a"), V.str (Str.ofString "1\n"), V.str nines] = oddB.map wz by rw [nines_S]; rfl]
    have hl2 : upd H4 l2 (.lst (oddB.map wz)) l2 = some (.lst (oddB.map wz)) := upd_same
    have s5 : Same H4 (upd H4 l2 (.lst (oddB.map wz))) := same_new nl2
    generalize upd H4 l2 (.lst (oddB.map wz)) = H5 at hl2 s5 ⊢
    refine catH (s5 _ _ hl) hl2 (by decide) fun l3 H6 nl3 s6 hl3 => ?_
    have s36 := s4.trans (s5.trans s6)
    have p6 := p2.keep s36
    refine ⟨_, rfl, _, rfl, p, l3, L0, _, _, rfl, hl3, p6.neW hl3, by rw [List.length_map]; decide, by rw [List.length_map]; decide, by omega, p6, fun dv H7 mem t7 p7 => ?_⟩
    obtain ⟨x, hx, rfl⟩ := List.mem_map.mp mem
    have hx5 := odd_ok x hx
    have hW7 := t7 _ _ hWp (s36 _ _ hW3)
    have bt7 : But p H H7 := bt3.trans ((Same.but s36).trans t7)
    have p7 : Pen L0 H7 p (b + 3) := p7.mono (by omega)
    clear mem hx hl hl2 hl3 s4 s5 s6 s36 p6
    have oX : OkW (M + 1) [x] := OkW.one (by omega) hx5.2
    have fin : ∀ (us : List (List Nat)) (G : Hp) (R : Addr), Same H7 G → G R = some (.lst (us.map wz)) → us.length ≤ ws.length + 1 → OkW (M + 1) us → Q (.ref R) G := by
      intro us G R sG hR hl ho
      exact kk R us G hl ho hR (bt7.trans (Same.but sG)) ((p7.keep sG).mono (by omega))
    refine ⟨_, rfl, rfl, _, rfl, ite2 (fun _ => ?_) (fun _ => ?_)⟩
    · -- a word more
      refine ⟨_, rfl, _, rfl, _, rfl, slH hW7 (cut_wto ws j) fun S G1 nS sS hS => ?_⟩
      refine ⟨_, rfl, (by show 1 ≤ sizeLine; decide), fun Y nY => ?_⟩
      have hY : upd G1 Y (.lst [wz x]) Y = some (.lst ([x].map wz)) := upd_same
      have sY : Same G1 (upd G1 Y (.lst [wz x])) := same_new nY
      generalize upd G1 Y (.lst [wz x]) = G2 at hY sY ⊢
      refine catH (sY _ _ hS) hY (by simp only [List.length_cons, List.length_nil, List.length_take]; omega) fun R1 G3 nR1 sR1 hR1 => ?_
      refine ⟨_, rfl, _, rfl, _, rfl, W, _, rfl, SqL.of (sR1 _ _ (sY _ _ (sS _ _ hW7))), fun U nU => ?_⟩
      rw [cut_wfrom]
      have hU : upd G3 U (.lst ((ws.drop j).map wz)) U = some (.lst ((ws.drop j).map wz)) := upd_same
      have sU : Same G3 (upd G3 U (.lst ((ws.drop j).map wz))) := same_new nU
      generalize upd G3 U (.lst ((ws.drop j).map wz)) = G4 at hU sU ⊢
      refine catH (sU _ _ hR1) hU (by simp only [List.length_append, List.length_cons, List.length_nil, List.length_drop, List.length_take]; omega) fun R G5 nR sR hR => ?_
      exact fin _ G5 R (sS.trans (sY.trans (sR1.trans (sU.trans sR)))) hR (by simp only [List.length_append, List.length_cons, List.length_nil, List.length_drop, List.length_take]; omega) (((hok.take j).app oX).app (hok.drop j))
    refine ⟨_, rfl, rfl, _, rfl, ite2 (fun _ => ?_) (fun _ => ?_)⟩
    · -- a word less
      refine ⟨_, rfl, _, rfl, _, rfl, slH hW7 (cut_wto ws j) fun S G1 nS sS hS => ?_⟩
      refine ⟨_, rfl, _, rfl, _, _, rfl, rfl, _, rfl, W, _, rfl, SqL.of (sS _ _ hW7), fun U nU => ?_⟩
      rw [cut_wfrom1]
      have hU : upd G1 U (.lst ((ws.drop (j + 1)).map wz)) U = some (.lst ((ws.drop (j + 1)).map wz)) := upd_same
      have sU : Same G1 (upd G1 U (.lst ((ws.drop (j + 1)).map wz))) := same_new nU
      generalize upd G1 U (.lst ((ws.drop (j + 1)).map wz)) = G4 at hU sU ⊢
      refine catH (sU _ _ hS) hU (by simp only [List.length_drop, List.length_take]; omega) fun R G5 nR sR hR => ?_
      exact fin _ G5 R (sS.trans (sU.trans sR)) hR (by simp only [List.length_append, List.length_drop, List.length_take]; omega) ((hok.take j).app (hok.drop (j + 1)))
    have other : tRet (tOp rCat (tOp rCat (tSl (rSlL K) (tVar 1) tNoPart (tPart (tVar 3))) (tLst (tCons (tVar 5) tNil))) (tSl (rSlL K) (tVar 1) (tPart (tOp (rI0 fun i j => V.int (i + j)) (tVar 3) (tC (.int 1)))) tNoPart)) { nx := fun _ H' => Q .non H', rt := Q } [some (.ref p), some (.ref W), some (.int d1), some (.int (j : Int)), some (.ref l3), some (wz x)] H7 := by
      refine ⟨_, rfl, _, rfl, _, rfl, slH hW7 (cut_wto ws j) fun S G1 nS sS hS => ?_⟩
      refine ⟨_, rfl, (by show 1 ≤ sizeLine; decide), fun Y nY => ?_⟩
      have hY : upd G1 Y (.lst [wz x]) Y = some (.lst ([x].map wz)) := upd_same
      have sY : Same G1 (upd G1 Y (.lst [wz x])) := same_new nY
      generalize upd G1 Y (.lst [wz x]) = G2 at hY sY ⊢
      refine catH (sY _ _ hS) hY (by simp only [List.length_cons, List.length_nil, List.length_take]; omega) fun R1 G3 nR1 sR1 hR1 => ?_
      refine ⟨_, rfl, _, rfl, _, _, rfl, rfl, _, rfl, W, _, rfl, SqL.of (sR1 _ _ (sY _ _ (sS _ _ hW7))), fun U nU => ?_⟩
      rw [cut_wfrom1]
      have hU : upd G3 U (.lst ((ws.drop (j + 1)).map wz)) U = some (.lst ((ws.drop (j + 1)).map wz)) := upd_same
      have sU : Same G3 (upd G3 U (.lst ((ws.drop (j + 1)).map wz))) := same_new nU
      generalize upd G3 U (.lst ((ws.drop (j + 1)).map wz)) = G4 at hU sU ⊢
      refine catH (sU _ _ hR1) hU (by simp only [List.length_append, List.length_cons, List.length_nil, List.length_drop, List.length_take]; omega) fun R G5 nR sR hR => ?_
      exact fin _ G5 R (sS.trans (sY.trans (sR1.trans (sU.trans sR)))) hR (by simp only [List.length_append, List.length_cons, List.length_nil, List.length_drop, List.length_take]; omega) (((hok.take j).app oX).app (hok.drop (j + 1)))
    refine ⟨_, rfl, rfl, _, rfl, ?_⟩
    by_cases z2 : V.int d1 = V.int 2
    · rw [decide_eq_true z2]
      exact iteT (iteT other)
    rw [decide_eq_false z2]
    refine iteF ⟨_, rfl, _, rfl, W, _, rfl, .inl (SqL.of hW7), rfl, _, rfl, ?_⟩
    rw [List.length_map]
    by_cases zj : j = ws.length
    · rw [show decide (V.int (j : Int) = V.int (ws.length : Int)) = true from decide_eq_true (by rw [zj])]
      exact iteT other
    rw [show decide (V.int (j : Int) = V.int (ws.length : Int)) = false from decide_eq_false fun q => by injection q with q; omega]
    have hj : j < ws.length := by omega
    have ej : ws[j]? = some ws[j] := List.getElem?_eq_getElem hj
    have oj := hok _ (List.getElem_mem hj)
    have atj : atI (ws.map wz) (j : Int) = some (wz ws[j]) := atI_nat (by rw [List.getElem?_map, ej]; rfl)
    clear other
    have last : tRet (tOp rCat (tOp rCat (tSl (rSlL K) (tVar 1) tNoPart (tPart (tVar 3))) (tLst (tCons (tOp (fun x y H Q => ∃ i j, x = V.str i ∧ y = V.str j ∧ i.length + j.length ≤ sizeLine ∧ Q (V.str (i ++ j)) H) (tOp (rIxL K) (tVar 1) (tVar 3)) (tCall spPick [] E0 (tCons (tVar 0) (tCons (tLst (tCons (tC (.str " ")) (tCons (tC (.str "0")) (tCons (tC (.str "/")) (tCons (tC (.str "x")) tNil))))) tNil)))) tNil))) (tSl (rSlL K) (tVar 1) (tPart (tOp (rI0 fun i j => V.int (i + j)) (tVar 3) (tC (.int 1)))) tNoPart)) { nx := fun _ H' => Q .non H', rt := Q } [some (.ref p), some (.ref W), some (.int d1), some (.int (j : Int)), some (.ref l3), some (wz x)] H7 := by
      refine ⟨_, rfl, _, rfl, _, rfl, slH hW7 (cut_wto ws j) fun S G1 nS sS hS => ?_⟩
      refine ⟨_, rfl, _, rfl, W, _, _, _, rfl, rfl, SqL.of (sS _ _ hW7), atj, _, rfl, (by show 4 ≤ sizeLine; decide), fun l4 nl4 => ?_⟩
      have hl4 : upd G1 l4 (.lst (signW.map wz)) l4 = some (.lst (signW.map wz)) := upd_same
      have s8 : Same G1 (upd G1 l4 (.lst (signW.map wz))) := same_new nl4
      have p8 := (p7.keep sS).keep s8
      refine ⟨p, l4, L0, signW.map wz, _, rfl, hl4, p8.neW hl4, by rw [List.length_map]; decide, by rw [List.length_map]; decide, by omega, p8, fun dv H9 mem t9 p9 => ?_⟩
      obtain ⟨y, hy, rfl⟩ := List.mem_map.mp mem
      have hy5 := sign_ok y hy
      refine ⟨_, _, rfl, rfl, ?_, ?_⟩
      · rw [SX.S_len, SX.S_len, sizeLine_eq]
        omega
      rw [SX.S_cat]
      refine ⟨(by show 1 ≤ sizeLine; decide), fun Y nY => ?_⟩
      have Sp : S ≠ p := (p7.keep sS).neW hS
      have hS9 := t9 _ _ Sp (s8 _ _ hS)
      have hW9 := t9 _ _ hWp (s8 _ _ (sS _ _ hW7))
      have hY : upd H9 Y (.lst [V.str (SX.S (ws[j] ++ y))]) Y = some (.lst ([ws[j] ++ y].map wz)) := upd_same
      have sY : Same H9 (upd H9 Y (.lst [V.str (SX.S (ws[j] ++ y))])) := same_new nY
      have oY : OkW (M + 1) [ws[j] ++ y] := OkW.one (by rw [List.length_append]; omega) (fun c hc => (List.mem_append.mp hc).elim (oj.2 c) (hy5.2 c))
      generalize upd H9 Y (.lst [V.str (SX.S (ws[j] ++ y))]) = G2 at hY sY ⊢
      refine catH (sY _ _ hS9) hY (by simp only [List.length_cons, List.length_nil, List.length_take]; omega) fun R1 G3 nR1 sR1 hR1 => ?_
      refine ⟨_, rfl, _, rfl, _, _, rfl, rfl, _, rfl, W, _, rfl, SqL.of (sR1 _ _ (sY _ _ hW9)), fun U nU => ?_⟩
      rw [cut_wfrom1]
      have hU : upd G3 U (.lst ((ws.drop (j + 1)).map wz)) U = some (.lst ((ws.drop (j + 1)).map wz)) := upd_same
      have sU : Same G3 (upd G3 U (.lst ((ws.drop (j + 1)).map wz))) := same_new nU
      generalize upd G3 U (.lst ((ws.drop (j + 1)).map wz)) = G4 at hU sU ⊢
      refine catH (sU _ _ hR1) hU (by simp only [List.length_append, List.length_cons, List.length_nil, List.length_drop, List.length_take]; omega) fun R G5 nR sR hR => ?_
      have sE := sY.trans (sR1.trans (sU.trans sR))
      exact kk R _ G5 (by simp only [List.length_append, List.length_cons, List.length_nil, List.length_drop, List.length_take]; omega) (((hok.take j).app oY).app (hok.drop (j + 1))) hR (bt7.trans ((Same.but sS).trans ((Same.but s8).trans (t9.trans (Same.but sE))))) ((p9.keep sE).mono (by omega))
    refine iteF ⟨_, rfl, rfl, _, rfl, ?_⟩
    by_cases z3 : V.int d1 = V.int 3
    rotate_left
    · rw [decide_eq_false z3]
      exact iteF (iteF last)
    rw [decide_eq_true z3]
    refine iteT ⟨_, rfl, _, _, rfl, rfl, _, rfl, W, _, rfl, .inl (SqL.of hW7), _, _, rfl, rfl, _, rfl, ?_⟩
    rw [List.length_map]
    by_cases z4 : j + 1 < ws.length
    rotate_left
    · rw [show decide (((j : Nat) : Int) + 1 < (ws.length : Int)) = false from decide_eq_false (by omega)]
      exact iteF last
    rw [show decide (((j : Nat) : Int) + 1 < (ws.length : Int)) = true from decide_eq_true (by omega)]
    have ej1 : ws[j + 1]? = some ws[j + 1] := List.getElem?_eq_getElem z4
    have oj1 := hok _ (List.getElem_mem z4)
    have atj1 : atI (ws.map wz) ((j : Int) + 1) = some (wz ws[j + 1]) := atI_nat (j := j + 1) (by rw [List.getElem?_map, ej1]; rfl)
    refine iteT ?_
    refine ⟨_, rfl, _, rfl, _, rfl, slH hW7 (cut_wto ws j) fun S G1 nS sS hS => ?_⟩
    have hWS := sS _ _ hW7
    refine ⟨_, rfl, _, rfl, _, _, rfl, rfl, W, _, _, _, rfl, rfl, SqL.of hWS, atj1, _, rfl, _, rfl, W, _, _, _, rfl, rfl, SqL.of hWS, atj, (by show 2 ≤ sizeLine; decide), fun Y nY => ?_⟩
    have hY : upd G1 Y (.lst [wz ws[j + 1], wz ws[j]]) Y = some (.lst ([ws[j + 1], ws[j]].map wz)) := upd_same
    have sY : Same G1 (upd G1 Y (.lst [wz ws[j + 1], wz ws[j]])) := same_new nY
    have oY : OkW (M + 1) [ws[j + 1], ws[j]] := fun l hl => by
      simp only [List.mem_cons, List.not_mem_nil, or_false] at hl
      rcases hl with rfl | rfl
      · exact ⟨by omega, oj1.2⟩
      · exact ⟨by omega, oj.2⟩
    generalize upd G1 Y (.lst [wz ws[j + 1], wz ws[j]]) = G2 at hY sY ⊢
    refine catH (sY _ _ hS) hY (by simp only [List.length_cons, List.length_nil, List.length_take]; omega) fun R1 G3 nR1 sR1 hR1 => ?_
    refine ⟨_, rfl, _, rfl, _, _, rfl, rfl, _, rfl, W, _, rfl, SqL.of (sR1 _ _ (sY _ _ hWS)), fun U nU => ?_⟩
    rw [cut_wfrom2]
    have hU : upd G3 U (.lst ((ws.drop (j + 2)).map wz)) U = some (.lst ((ws.drop (j + 2)).map wz)) := upd_same
    have sU : Same G3 (upd G3 U (.lst ((ws.drop (j + 2)).map wz))) := same_new nU
    generalize upd G3 U (.lst ((ws.drop (j + 2)).map wz)) = G4 at hU sU ⊢
    refine catH (sU _ _ hR1) hU (by simp only [List.length_append, List.length_cons, List.length_nil, List.length_drop, List.length_take]; omega) fun R G5 nR sR hR => ?_
    exact fin _ G5 R (sS.trans (sY.trans (sR1.trans (sU.trans sR)))) hR (by simp only [List.length_append, List.length_cons, List.length_nil, List.length_drop, List.length_take]; omega) (((hok.take j).app oY).app (hok.drop (j + 2)))
end
end Ev
namespace Ev
open PySem L2 PySem.Spec PyProof.Rows LamX
theorem passX0 {P : Program} {w : World} {X : Cx} : Passes (L2.CX P w) X E0 := fun _ _ _ _ _ _ _ h => by
  obtain ⟨a, B, H', cls, d, _, _, _, _, _, _, _, z⟩ := h
  exact z.elim
/-- all is kept but the list at p and tables -/
def ExtP (p : Addr) (H H' : Hp) : Prop := ∀ b o, b ≠ p → H b = some o → (∀ ps : Array Value, o ≠ HO.tbl ps) → H' b = some o
theorem ExtP.refl (p : Addr) (H : Hp) : ExtP p H H := fun _ _ _ e _ => e
theorem ExtP.trans {p : Addr} {H H1 H2 : Hp} (a : ExtP p H H1) (b : ExtP p H1 H2) : ExtP p H H2 := fun c o n e t => b c o n (a c o n e t) t
theorem ExtN.p {p : Addr} {H H' : Hp} (h : ExtN H H') : ExtP p H H' := fun b o _ e t => h b o e t
theorem But.p {p : Addr} {H H' : Hp} (h : But p H H') : ExtP p H H' := fun b o n e _ => h b o n e
theorem Same.p {p : Addr} {H H' : Hp} (h : Same H H') : ExtP p H H' := fun b o _ e _ => h b o e
theorem Same.extN {H H' : Hp} (k : Same H H') : ExtN H H' := fun b o e _ => k b o e
theorem Tabs.but {T : List (Addr × Str)} {p : Addr} {H H' : Hp} {xs : List V} (t : Tabs T H) (hp : H p = some (.lst xs)) (k : But p H H') : Tabs T H' := by
  intro q hq
  obtain ⟨ps, h1, h2, h3⟩ := t q hq
  refine ⟨ps, k _ _ (fun z => by rw [z, hp] at h1; cases h1) h1, h2, fun pos cv hc => ?_⟩
  obtain ⟨c, e1, e2⟩ := h3 pos cv hc
  refine ⟨c, e1, k _ _ (fun z => ?_) e2⟩
  rw [z, hp] at e2
  have e3 : HO.lst xs = HO.ext _ := Option.some.inj e2
  cases e3
theorem Pen.ext {L : Addr} {H H' : Hp} {p : Addr} {B : Int} (h : Pen L H p B) (k : ExtN H H') : Pen L H' p B := by
  obtain ⟨ns, t, c, h1, h2, r⟩ := h
  exact ⟨ns, t, c, k _ _ h1 (fun _ z => by cases z), k _ _ h2 (fun _ z => by cases z), r⟩
theorem FAt.ext {C : Addr} {H H' : Hp} {x : Addr} {r : Fr} (h : FAt C H x r) (k : ExtN H H') : FAt C H' x r := by
  obtain ⟨dx, a, h1, h2⟩ := h
  exact ⟨dx, a, k _ _ h1 (fun _ z => by cases z), k _ _ h2 (fun _ z => by cases z)⟩
/-- == , != and str of fill rules -/
def rF (C : Addr) (neg : Bool) : R2 := fun x y H Q => ∃ (a b : Addr) (r : Fr), x = .ref a ∧ y = .ref b ∧ FAt C H a r ∧ FAt C H b r ∧ Q (.bl (neg ^^ true)) H
structure RF (P : Program) (w : World) (K : PySem.W.Frag) (mg : Str → Option Value) (base : Heap) (C : Addr) : Prop where
  two : FTwo K C
  e : ∃ f, FnR P w K mg base CX0 1 f (spEqF C) ∧ PySem.W.findIn K (.ref C) "__eq__" = some (some (.ref f)) ∧ PySem.W.isFn K (.ref f) = true
  ne : PySem.W.findIn K (.ref C) "__ne__" = some (some (.builtin "object.__ne__"))
  s : ∃ f, FnR P w K mg base CX0 3 f (spStrF C) ∧ PySem.W.findIn K (.ref C) "__str__" = some (some (.ref f)) ∧ PySem.W.isFn K (.ref f) = true
def rStrF (C : Addr) : List V → Hp → VK → Prop := fun xs H Q => ∃ (a : Addr) (r : Fr), xs = [.ref a] ∧ FAt C H a r ∧ r.ok ∧ Q (.str (Sx r.tx)) H
section
variable {X : Cx} {C : Addr}
theorem op_neF (R : RF X.prog X.w X.K X.mg X.base C) (hr : Room 2 X.A) : OpR X (compareOp .NotEq) (rF C true) := by
  intro pins s σ H x y v u Q I rx ry h
  obtain ⟨a, b, r, rfl, rfl, h1, h2, q⟩ := h
  obtain ⟨f, Ft, ht, hft⟩ := R.e
  obtain ⟨dx, t, hx, _⟩ := id h1
  obtain ⟨dy, t', hy, _⟩ := id h2
  exact op_neO (E := E0) ht R.ne R.two.it.hm hft Ft hr pass0 pins s σ H _ _ v u Q I rx ry ⟨a, dx, _, _, rfl, hx, tyF R.two hy, nf_own, a, b, r, rfl, h1, h2, _, rfl, q⟩
theorem op_eqF (R : RF X.prog X.w X.K X.mg X.base C) (hr : Room 2 X.A) : OpR X (compareOp .Eq) (rF C false) := by
  intro pins s σ H x y v u Q I rx ry h
  obtain ⟨a, b, r, rfl, rfl, h1, h2, q⟩ := h
  obtain ⟨f, Ft, ht, hft⟩ := R.e
  obtain ⟨dx, t, hx, _⟩ := id h1
  obtain ⟨dy, t', hy, _⟩ := id h2
  exact op_eqO (E := E0) ht hft Ft (hr.mono (by decide)) pass0 pins s σ H _ _ v u Q I rx ry ⟨a, dx, _, _, rfl, hx, tyF R.two hy, nf_own, a, b, r, rfl, h1, h2, _, rfl, q⟩
theorem call_strF (R : RF X.prog X.w X.K X.mg X.base C) (hr : Room 5 X.A) : CallR X (.type "str") (rStrF C) := by
  intro pins s σ H xs us Q I rr h
  obtain ⟨a, r, rfl, ob, hf, q⟩ := h
  obtain ⟨f, Ft, ht, hft⟩ := R.s
  obtain ⟨dx, t, h1, _⟩ := id ob
  exact call_strO (E := E0) ht hft Ft hr pass0 pins s σ H _ us Q I rr ⟨a, dx, _, rfl, h1, a, r, rfl, ob, hf, ⟨_, rfl⟩, q⟩
end
def tupD (n : Nat) : PyData := .tuple [.str "text", .int 0, .int (n : Int)]
theorem tup_sh : ∀ n : Nat, n ≤ 5 → SeqAt.shaped (tupD n) = true ∧ PyData.eqv (tupD n) (tupD n) = true := by
  intro n hn
  have k : ∀ n : Fin 6, SeqAt.shaped (tupD n.val) = true ∧ PyData.eqv (tupD n.val) (tupD n.val) = true := by decide +kernel
  exact k ⟨n, by omega⟩
theorem tup_dp {K : PySem.W.Frag} {H : Hp} {t : Addr} {n : Nat} (h : H t = some (tupT n)) : Dp K H (.ref t) (tupD n) := .tup (SqT.of h) (.cons (.str _) (.cons (.int _) (.cons (.int _) .nil)))
theorem wr_le {ws : List (List Nat)} {n : Nat} (h : wrF ws = some n) : n ≤ 5 := by
  unfold wrF at h
  repeat (split at h; · cases h; decide)
  cases h
theorem int_txc {i : Int} (h1 : -12 ≤ i) (h2 : i ≤ 12) : PySem.intText? (Sx (txc i)) = some i ∧ (Sx (txc i)).length ≤ 640 := by
  have k : ∀ n : Fin 25, PySem.intText? (Sx (txc ((n.val : Int) - 12))) = some ((n.val : Int) - 12) ∧ (Sx (txc ((n.val : Int) - 12))).length ≤ 640 := by decide +kernel
  have := k ⟨(i + 12).toNat, by omega⟩
  rw [show (((⟨(i + 12).toNat, by omega⟩ : Fin 25).val : Nat) : Int) - 12 = i by show (((i + 12).toNat : Nat) : Int) - 12 = i; omega] at this
  exact this
def twoD (p q v : Int) : PyData := .list [.tuple [.int p, .int q], .int v]
theorem two_show {p q v : Int} (h1 : 1 ≤ p) (h2 : p ≤ 12) (h3 : 1 ≤ q) (h4 : q ≤ 12) (h5 : 1 ≤ v) (h6 : v ≤ 6) : (twoD p q v).showable = true ∧ (twoD p q v).depth ≤ 32 ∧ (twoD p q v).shown.length ≤ sizeLine := by
  have k : ∀ (p q : Fin 13) (v : Fin 7), (twoD (p.val : Int) (q.val : Int) (v.val : Int)).showable = true ∧ (twoD (p.val : Int) (q.val : Int) (v.val : Int)).depth ≤ 32 ∧ (twoD (p.val : Int) (q.val : Int) (v.val : Int)).shown.length ≤ 100 := by decide +kernel
  have := k ⟨p.toNat, by omega⟩ ⟨q.toNat, by omega⟩ ⟨v.toNat, by omega⟩
  rw [show (((⟨p.toNat, by omega⟩ : Fin 13).val : Nat) : Int) = p by show ((p.toNat : Nat) : Int) = p; omega, show (((⟨q.toNat, by omega⟩ : Fin 13).val : Nat) : Int) = q by show ((q.toNat : Nat) : Int) = q; omega, show (((⟨v.toNat, by omega⟩ : Fin 7).val : Nat) : Int) = v by show ((v.toNat : Nat) : Int) = v; omega] at this
  exact ⟨this.1, this.2.1, Nat.le_trans this.2.2 (by decide)⟩
theorem fr_wd {r : Fr} (o : r.ok) : 1 ≤ r.wd ∧ r.wd ≤ 6 := by
  have := o.c1; have := o.c2; have := o.j1; have := o.j2
  unfold Fr.wd
  split <;> omega
theorem fnr_of {P : Program} {w : World} {K : PySem.W.Frag} {mg : Str → Option Value} {base : Heap} {CX : CXT} {k : Nat} {f : Addr} {fd : FuncData} {ps : List Str} {sp : Sp} (F : FnOk P w K mg base CX k f fd ps sp) (b : Binds K fd ps []) : FnR P w K mg base CX k f sp := by
  intro A above s H us vs Q E room env rv hs
  have hl : us.length = ps.length := rv.length.symm.trans (F.len _ _ _ _ hs)
  have bt := b s us (env.mod.kin.keeps fun b o e => (env.bs b o e).1) (by rw [List.append_nil]; exact hl)
  rw [List.append_nil] at bt
  exact F.run A above s H ⟨us, []⟩ us vs Q E room env bt rv hs
/-- nothing by place -/
def g0 {α : Type} : List α → List α → List α
  | [], ws => ws
  | _, _ => []
/-- how the law hears -/
structure HeardB (P : Program) (w : World) (K : PySem.W.Frag) (mg : Str → Option Value) (BT FE fh : Addr) (fdh : FuncData) : Prop where
  FH : Fun K "_law_heard" "_law_heard" sHeard fh fdh
  g : mg "_law_heard" = some (.ref fh)
  b : Binds K fdh ["_law_ask"] []
  gF : mg "FairError" = some (.ref FE)
  gB : mg "BadText" = some (.ref BT)
  hb : HeldC K BT
  nl : PySem.W.findIn K (.ref BT) "line" = some none
  nw : PySem.W.findIn K (.ref BT) "word" = some none
  te : PySem.W.exmOne K (.ref BT) (.ref FE) = some true
/-- how the program reads -/
structure RdB (P : Program) (w : World) (K : PySem.W.Frag) (mg : Str → Option Value) (base : Heap) (C BT : Addr) : Prop where
  gC : mg "FillRule" = some (.ref C)
  ex : ∃ (mc : Value) (p f : Addr) (fd : FuncData) (g : List Value → List Value → List Value), ClX.CRead K C mc ∧ ClX.SMet K C mc "read" p f ∧ FnOk P w K mg base (L2.CX P w) 8 f fd ["text"] (spRead K C BT) ∧ Binds K fd ["text"] [] ∧ KBinds K fd ["text"] ["text"] g g0
def spRight (TL : List (Addr × Str)) : Sp := fun vs H Q _ => ∃ L : List Nat, vs = [.str (Sx L)] ∧ L.length ≤ 3300 ∧ Asc L ∧ Tabs TL H ∧ ∀ H', ExtN H H' → Tabs TL H' → Q (.bl true) H'
abbrev sRight : Stmt := sLReadRight
abbrev nRight : List Str := ["_law_line", "_law_at", "_law_heard_here", "_law_words", "_law_pair", "_law_part", "_law_due"]
theorem scRight : FnScope nRight ["_law_line"] (defScope sRight) := ⟨rfl, rfl, rfl, by decide +kernel, rfl, by decide +kernel, by decide +kernel⟩
section
variable {P : Program} {w : World} {K : PySem.W.Frag} {mg : Str → Option Value} {base : Heap}
theorem ok_right {f C BT FE cc TT fh fI : Addr} {TL : List (Addr × Str)} {fd fdh fdI : FuncData} {q : Str} {g : List Value → List Value → List Value} (F : Fun K "_law_read_right" "_law_read_right" sRight f fd) (T : Blt mg) (ms : mg "str" = none) (mr : mg "repr" = none) (hc : fd.code = .ref cc) (TB : TabB base mg cc TT) (hTL : (TT, q) ∈ TL) (hTL2 : ∀ p ∈ TL, p.1 = TT → p.2 = q)
    (hq : q = (envOfC "_law_read_right" (defScope sRight) 0 f (.ref cc)).qual ++ ("<lambda>" : Str)) (HH : HeardB P w K mg BT FE fh fdh) (RB : RdB P w K mg base C BT) (RE : RF P w K mg base C) (M : Mk K C fI)
    (GM : FnOk P w K mg base CX0 5 fI fdI ["self", "times", "plus", "cut_of", "join_of"] (spFillInit C)) (bM : KBn K fdI ["self", "times", "plus", "cut_of", "join_of"] 3 ["cut_of", "join_of"] g (fun vs zs => vs ++ zs))
    (D1 : Df P w K mg base 2 "_law_first_wrong" ["_law_line"] spFirst) :
    FnG P w K mg base 11 f fd ["_law_line"] (spRight TL) := by
  obtain ⟨f1, fd1, G1, g1, k1, b1⟩ := D1.ex
  obtain ⟨FH, gh, bh, gF, gB, HB, nl, nw, te⟩ := id HH
  obtain ⟨gC, mc, pR, fR, fdR, gR, cr, cm, GR, bR, _⟩ := id RB
  have kh := FH.kp
  obtain ⟨och, odh, kVh, doch, pmh, anh, cdvh, cth, oslh, rfl, lkh, hcdh⟩ := FH.ex
  refine fng_code F scRight (fun vs H Q E h => ?_) (fun cdv ecd A outer s H vs Q E hr gd h => ?_)
  · obtain ⟨L, rfl, _⟩ := h
    rfl
  · obtain ⟨L, rfl, lL, hAs, hT, kk⟩ := h
    obtain rfl : cdv = .ref cc := ecd.symm.trans hc
    have hq' : q = (cxOf CX0 P w K mg base nRight "_law_read_right" (defScope sRight) f (.ref cc) A outer s H E).nox.env.qual ++ ("<lambda>" : Str) := hq
    have lam : ∀ {params : Arguments} {body : Expr} {scope : Scope} {lpos pos p : Pos} {t : XK → TE}, LamS (defScope sRight) scope → defaultsOf params (cxOf CX0 P w K mg base nRight "_law_read_right" (defScope sRight) f (.ref cc) A outer s H E).env = ([], []) →
        (∀ (q : Str) (cl : List (Str × Addr)) (pm cv ctv : Value), bindArgs (PySem.W.kla_fn "<lambda>" q params body scope cl pm cv ctv) ⟨[], []⟩ = pure []) →
        (∀ (A' : Around) (outer' : List Env) (s' : Shared) (H' : Hp) (E' : XK) (f' c' : Addr), Room 8 (A'.deeper (lamEnv (cxOf CX0 P w K mg base nRight "_law_read_right" (defScope sRight) f (.ref cc) A outer s H E).nox scope s'.heap.objs.size f' c')) →
          PE (lamCx (cxOf CX0 P w K mg base nRight "_law_read_right" (defScope sRight) f (.ref cc) A outer s H E).nox A' outer' s' H' E' scope f' c') body (t E')) →
        PE (cxOf CX0 P w K mg base nRight "_law_read_right" (defScope sRight) f (.ref cc) A outer s H E).nox (.Call (.Name "_law_heard" p) [.Lambda params body scope lpos] [] pos) (tLam TL (THeard BT) t) := by
      intro params body scope lpos pos p t LS hdef hbind hbody
      subst hq'
      have h4 : Gl (cxOf CX0 P w K mg base nRight "_law_read_right" (defScope sRight) f (.ref cc) A outer s H E).nox "_law_heard" := by rfl
      refine pe_lamcall (X := (cxOf CX0 P w K mg base nRight "_law_read_right" (defScope sRight) f (.ref cc) A outer s H E).nox) (k := 8) (T := TL) (TT := THeard BT) (x := "_law_heard") (a := "_law_ask") (g := fh) (c := cc) (P := TT) (pg := defArgs sHeard) (bg := defBody sHeard) (sg := defScope sHeard)
        (Ng := ["_law_ask", "_law_caught", "error"]) h4 gh kh lkh hcdh bh scHeard ?_ ?_ ?_ ?_ ?_ ?_ ?_ ?_ ?_ ?_ ?_ ?_ ?_ ?_ ?_
      · rfl
      · exact .inl rfl
      · exact heard_gives gd hr T gF gB HB nl nw te kit_self
      · exact TB
      · rfl
      · exact hTL
      · exact hTL2
      · exact hr
      · exact LS
      · exact hdef
      · exact hbind
      · exact hbody
      · decide
      · decide
      · decide
    have hu : (cxOf CX0 P w K mg base nRight "_law_read_right" (defScope sRight) f (.ref cc) A outer s H E).nox.A.units + 64 < cLine := Room.units hr
    obtain ⟨tR, hR, qR⟩ : ∃ t : TS, PSs (cxOf CX0 P w K mg base nRight "_law_read_right" (defScope sRight) f (.ref cc) A outer s H E).nox ((defBody sRight).drop 3) t ∧ ∀ (G : Hp) (l x : Addr) (r : Fr), ExtN H G → Tabs TL G → r.ok → L = r.tx → G l = some (.lst [.ref x]) → FAt C G x r →
        t { nx := fun _ H' => Q .non H', rt := Q } [some (.str (Sx L)), some .non, some (.ref l), none, none, none, none] G := by
      refine ⟨_, (pss_cons (ps_set (i := 3) scRight.nd rfl (.inl rfl) (pe_split (pv 0) pe_str))
        (pss_cons (ps_set (i := 4) scRight.nd rfl (.inl rfl) (pe_callTy call_tuple_of (by rfl) T.tuple (by decide +kernel) (pa_cons (pe_lc (own := [("_law_part", 5)]) (g := gName 5) (tt := tYes) (by rfl) scRight.nd (pi_list (pe_split (pe_ix ix_list (pv 3) pe_int (fun _ _ => rfl)) pe_str)) (blkOk_by (own := [("_law_part", 5)]) (N := nRight) (sc := defScope sRight) (by decide +kernel))
            (fun _ _ _ _ _ => pg_name (i := 5) scRight.nd rfl (.inl rfl)) (fun _ _ _ _ _ => pts_nil) (fun _ _ _ _ _ => pe_callTy call_int_str (by rfl) T.int (by decide +kernel) (pa_cons (pv 5) pa_nil))) pa_nil)))
        (pss_cons (ps_set (i := 6) scRight.nd rfl (.inl rfl) (pe_makeN (n := 2) M GM (hr.mono (by decide)) (by rfl) gC bM pass0 (pa_cons (pv 4) (pa_cons (pe_callTy call_int_str (by rfl) T.int (by decide +kernel) (pa_cons (pe_ix ix_list (pv 3) pe_int (fun _ _ => rfl)) pa_nil)) pa_nil)) (pk_cons (pe_callTy call_int_str (by rfl) T.int (by decide +kernel) (pa_cons (pe_ix ix_list (pv 3) pe_int (fun _ _ => rfl)) pa_nil)) (pk_cons (pe_callTy call_int_str (by rfl) T.int (by decide +kernel) (pa_cons (pe_ix ix_list (pv 3) pe_int (fun _ _ => rfl)) pa_nil)) pk_nil))))
        (pss_one (ps_ret (pe_and (pe_cmpR (op_eqF RE (hr.mono (by decide))) (pe_ix ix_list (pv 2) pe_int (fun _ _ => rfl)) (pv 6) (nomark _))
          (pe_one (pe_cmpR op_eq (pe_callB (call_repr gd hu) (by rfl) mr (by decide +kernel) (pa_cons (pe_lst (pa_cons (pe_fld (pe_ix ix_list (pv 2) pe_int (fun _ _ => rfl)) rfl) (pa_cons (pe_fld (pe_ix ix_list (pv 2) pe_int (fun _ _ => rfl)) rfl) pa_nil))) pa_nil))
            (pe_callB (call_repr gd hu) (by rfl) mr (by decide +kernel) (pa_cons (pe_lst (pa_cons (pv 4) (pa_cons (pe_fld (pv 6) rfl) pa_nil))) pa_nil)) (nomark _))))))))), ?_⟩
      intro G l x r eG TG o eL hl ob
      refine ⟨_, rfl, ⟨_, rfl⟩, _, _, rfl, rfl, by decide +kernel, by rw [SX.S_len, sizeLine_eq]; omega, fun W nWx => ?_⟩
      rw [show (Txt.split (Sx L) (Str.ofString " ")).map V.str = r.ws.map wz by rw [← fr_pcz r, ← eL]; exact split_pcz (by decide) L]
      have hW : upd G W (.lst (r.ws.map wz)) W = some (.lst (r.ws.map wz)) := upd_same
      have sW : Same G (upd G W (.lst (r.ws.map wz))) := same_new nWx
      generalize upd G W (.lst (r.ws.map wz)) = H1 at hW sW ⊢
      have lp : (prW r.p r.q).length ≤ 7 := prW_len (by have := o.p1; have := o.p2; omega) (by have := o.q1; have := o.q2; omega)
      refine ⟨_, rfl, W, _, _, _, rfl, rfl, SqL.of hW, atI_nat (j := 1) rfl, ⟨_, rfl⟩, _, _, rfl, rfl, by decide +kernel, by rw [SX.S_len, sizeLine_eq]; omega, fun V1 nV => ?_⟩
      rw [show (Txt.split (Sx (prW r.p r.q)) (Str.ofString "/")).map V.str = [txc r.p, txc r.q].map wz by rw [← pcz_prW]; exact split_pcz (by decide) _]
      have hV : upd H1 V1 (.lst ([txc r.p, txc r.q].map wz)) V1 = some (.lst ([txc r.p, txc r.q].map wz)) := upd_same
      have sV : Same H1 (upd H1 V1 (.lst ([txc r.p, txc r.q].map wz))) := same_new nV
      generalize upd H1 V1 (.lst ([txc r.p, txc r.q].map wz)) = H2 at hV sV ⊢
      refine ⟨V1, rfl, ⟨_, SqL.of hV⟩, fun D nD => ?_⟩
      have VD := ne_of_none hV nD
      refine lc_pureV (n := 2) (walk_list (K := K) (a := V1) (xs := [txc r.p, txc r.q].map wz)) [.int r.p, .int r.q] rfl (by decide) (fun H' h => SqL.of (h _ _ VD hV)) (fun i v H2 H' z hi hr' bt _ y R Wk k => ?_) (fun H3 bt hD => ?_)
      · obtain ⟨rfl, hv⟩ := y
        obtain ⟨y0, rfl, rfl, h1, h2⟩ : ∃ y0 : Int, v = wz (txc y0) ∧ z = .int y0 ∧ -12 ≤ y0 ∧ y0 ≤ 12 := by
          rcases (show i = 0 ∨ i = 1 by omega) with rfl | rfl
          · exact ⟨r.p, (Option.some.inj hv).symm, (Option.some.inj hr').symm, by have := o.p1; omega, o.p2⟩
          · exact ⟨r.q, (Option.some.inj hv).symm, (Option.some.inj hr').symm, by have := o.q1; omega, o.q2⟩
        exact ⟨rfl, _, rfl, _, _, rfl, (int_txc h1 h2).1, (int_txc h1 h2).2, k _ (Same.refl _)⟩
      · have sD : Same H2 H3 := fun c o e => bt c o (ne_of_none e nD) e
        refine ⟨D, _, rfl, .inl ⟨SqL.of hD, fun t nt => ?_⟩⟩
        have ht : upd H3 t (.tup [.int r.p, .int r.q]) t = some (.tup [.int r.p, .int r.q]) := upd_same
        have sT : Same H3 (upd H3 t (.tup [.int r.p, .int r.q])) := same_new nt
        generalize upd H3 t (.tup [.int r.p, .int r.q]) = H4 at ht sT ⊢
        have hW4 := sT _ _ (sD _ _ (sV _ _ hW))
        have s4 : Same G H4 := sW.trans (sV.trans (sD.trans sT))
        have ik := int_txc o.k1 o.k2
        have ic := int_txc (i := r.c) (by have := o.c1; omega) (by have := o.c2; omega)
        have ij := int_txc (i := r.j) (by have := o.j1; omega) (by have := o.j2; omega)
        refine ⟨_, rfl, _, rfl, W, _, _, _, rfl, rfl, SqL.of hW4, atI_nat (j := 2) rfl, _, _, rfl, ik.1, ik.2, _, rfl, W, _, _, _, rfl, rfl, SqL.of hW4, atI_nat (j := 3) rfl, _, _, rfl, ic.1, ic.2, _, rfl, W, _, _, _, rfl, rfl, SqL.of hW4, atI_nat (j := 4) rfl, _, _, rfl, ij.1, ij.2, rfl, rfl, fun y dy ny ndy ney => ?_⟩
        have keep : ∀ (o1 o2 : HO) (b : Addr) (u : HO), H4 b = some u → upd (upd H4 dy o1) y o2 b = some u := fun o1 o2 b u e => by
          rw [upd_ne (ne_of_none e ny), upd_ne (ne_of_none e ndy)]; exact e
        refine ⟨y, dy, t, r, rfl, upd_same, keep _ _ _ _ ht, o, fun H5 t5 hy5 => ⟨rfl, ?_⟩⟩
        have s5 : Same H4 H5 := fun b u e => t5 _ _ (ne_of_none e ny) (keep _ _ _ _ e)
        have hl5 := s5 _ _ (s4 _ _ hl)
        have ob5 := (ob.keep s4).keep s5
        have ht5 := s5 _ _ ht
        have oy : FAt C H5 y r := ⟨dy, t, hy5, ht5⟩
        refine ⟨_, rfl, l, _, _, _, rfl, rfl, SqL.of hl5, atI_nat (j := 0) rfl, _, rfl, x, y, r, rfl, rfl, ob5, oy, true, rfl, iteT ?_⟩
        obtain ⟨dx, a, hx, ha⟩ := id ob5
        obtain ⟨v1, v2, v3⟩ := two_show o.p1 o.p2 o.q1 o.q2 (fr_wd o).1 (fr_wd o).2
        refine ⟨_, rfl, l, _, _, _, rfl, rfl, SqL.of hl5, atI_nat (j := 0) rfl, x, C, dx, _, _, rfl, hx, RE.two.cl.cl, RE.two.cl.n1, fill_times _ _, _, rfl, l, _, _, _, rfl, rfl, SqL.of hl5, atI_nat (j := 0) rfl, x, C, dx, _, _, rfl, hx, RE.two.cl.cl, RE.two.cl.n5, fill_width _ _, (by show 2 ≤ sizeLine; decide), fun A1 nA1 => ?_⟩
        have s6 : Same H5 (upd H5 A1 (.lst [.ref a, .int r.wd])) := same_new nA1
        refine ⟨A1, twoD r.p r.q r.wd, rfl, .lst (SqL.of upd_same) (.cons (.tup (SqT.of (s6 _ _ ha)) (.cons (.int _) (.cons (.int _) .nil))) (.cons (.int _) .nil)), v1, rfl, v2, v3, ?_⟩
        have hy6 := s6 _ _ hy5
        have ht6 := s6 _ _ ht5
        generalize upd H5 A1 (.lst [.ref a, .int r.wd]) = H6 at s6 hy6 ht6 ⊢
        refine ⟨_, rfl, _, rfl, y, C, dy, _, _, rfl, hy6, RE.two.cl.cl, RE.two.cl.n5, fill_width _ _, (by show 2 ≤ sizeLine; decide), fun A2 nA2 => ?_⟩
        have s7 : Same H6 (upd H6 A2 (.lst [.ref t, .int r.wd])) := same_new nA2
        refine ⟨A2, twoD r.p r.q r.wd, rfl, .lst (SqL.of upd_same) (.cons (.tup (SqT.of (s7 _ _ ht6)) (.cons (.int _) (.cons (.int _) .nil))) (.cons (.int _) .nil)), v1, rfl, v2, v3, rfl, ?_⟩
        rw [decide_eq_true rfl]
        have sE : Same G (upd H6 A2 (.lst [.ref t, .int r.wd])) := s4.trans (s5.trans (s6.trans s7))
        exact kk _ (eG.trans (Same.extN sE)) (TG.ext sE)
    refine ⟨_, pss_cons (ps_par (i := 1) (j := 2) (by rfl) scRight.nd rfl rfl (by decide) rfl rfl (pa_cons (pe_call G1 (hr.mono (by decide)) (by rfl) g1 k1 b1 .nil pass0 (pa_cons (pv 0) pa_nil)) (pa_cons (lam (t := fun E' => ClX.tSMeth C (spRead K C BT) E' (tC (.ref C)) (tCons (tVar 0) tNil)) (lamS_by (by decide +kernel)) rfl (fun _ _ _ _ _ => rfl)
          (fun _ _ _ _ E' _ _ hrL => ClX.pe_smeth (E := E') (pe_glob (v := .ref C) (by rfl) gC rfl) cr cm (fnr_of GR bR) hrL (passes_call (takes_of rfl rfl rfl rfl) (fun _ _ _ _ h => h)) (pa_cons (pv 0) pa_nil))) pa_nil)) (by rfl))
      (pss_cons (ps_if (pt_cmpR op_notN (pv 1) pe_non (nomark _)) (pss_one (ps_ret (pe_cmpR (op_eqD hu) (pv 2) (pe_tup (pa_cons pe_str (pa_cons pe_int (pa_cons (pv 1) pa_nil)))) (nomark _)))) pss_nil)
      (pss_cons (ps_if (PW.pt (pw_or (pt_not (pt_val (pe_callB call_isi (by rfl) T.isi (by decide +kernel) (pa_cons (pv 2) (pa_cons (pe_bltn (v := .ty "list") (by rfl) T.list (by decide +kernel) rfl) pa_nil))))) (pw_or (pt_not (pt_val (pe_callB call_isi (by rfl) T.isi (by decide +kernel) (pa_cons (pe_ix ix_list (pv 2) pe_int (fun _ _ => rfl)) (pa_cons (pe_glob (v := .ref C) rfl gC rfl) pa_nil))))) (pw_or1 (pt_cmpR op_ne (pe_callTy (call_strF RE (hr.mono (by decide))) (by rfl) ms (by decide +kernel) (pa_cons (pe_ix ix_list (pv 2) pe_int (fun _ _ => rfl)) pa_nil)) (pv 0) (nomark _)))))) (pss_one ps_never) pss_nil)
      hR)), ?_⟩
    refine ⟨_, rfl, L, rfl, lL, fun G1 s1 => ?_⟩
    refine ⟨hT.ext s1, fun H1 e1 T1 => ?_⟩
    cases eo : wrF (pcz 32 L) with
    | some n =>
      have hn := wr_le eo
      refine ⟨rfl, _, rfl, _, rfl, .inr ⟨L, rfl, lL, hAs, fun n' hn' => ?_, fun r ro eL => ?_⟩⟩
      · obtain rfl : n = n' := Option.some.inj (eo.symm.trans hn')
        refine fun dd H' sH nd hdd => ⟨dd, n, rfl, rfl, hdd, fun r G sG nr hr => ⟨_, _, rfl, ?_⟩⟩
        have sG1 : Same H1 G := sH.trans sG
        refine ⟨_, rfl, rfl, _, rfl, iteT ⟨_, rfl, _, rfl, (by show 3 ≤ sizeLine; decide), fun t nt => ?_⟩⟩
        have sT : Same G (upd G t (tupT n)) := same_new nt
        refine ⟨tupD n, tupD n, tup_dp (sT _ _ hr), tup_dp upd_same, (tup_sh n hn).1, (tup_sh n hn).1, ?_⟩
        rw [(tup_sh n hn).2]
        exact kk _ ((Same.extN s1).trans (e1.trans (Same.extN (sG1.trans sT)))) (T1.ext (sG1.trans sT))
      · rw [eL, fr_pcz, fr_words ro] at eo
        cases eo
    | none =>
      refine ⟨rfl, _, rfl, _, rfl, .inr ⟨L, rfl, lL, hAs, fun n' hn' => (by rw [eo] at hn'; cases hn'), fun r ro eL x H' sH ob => ⟨(by show 1 ≤ sizeLine; decide), fun l nl => ⟨_, _, rfl, ?_⟩⟩⟩⟩
      have sl : Same H' (upd H' l (.lst [.ref x])) := same_new nl
      have hl : upd H' l (.lst [.ref x]) l = some (.lst [.ref x]) := upd_same
      have ob2 := ob.keep sl
      have eG : ExtN H (upd H' l (.lst [.ref x])) := (Same.extN s1).trans (e1.trans (Same.extN (sH.trans sl)))
      have TG := T1.ext (sH.trans sl)
      generalize upd H' l (.lst [.ref x]) = G at hl ob2 eG TG ⊢
      obtain ⟨dx, a, hx, ha⟩ := id ob2
      refine ⟨_, rfl, rfl, _, rfl, iteF ?_⟩
      refine ⟨_, rfl, _, _, _, _, true, rfl, .ty _, .base (.lst hl), kit_ty (by decide +kernel), _, rfl, iteF ?_⟩
      refine ⟨_, rfl, l, _, _, _, rfl, rfl, SqL.of hl, atI_nat (j := 0) rfl, _, _, _, _, true, rfl, .own C, tyF RE.two hx, kit_self, _, rfl, iteF ?_⟩
      refine ⟨_, rfl, l, _, _, _, rfl, rfl, SqL.of hl, atI_nat (j := 0) rfl, x, r, rfl, ob2, ro, _, rfl, rfl, _, rfl, ?_⟩
      rw [show decide (V.str (Sx r.tx) = V.str (Sx L)) = true from decide_eq_true (by rw [eL])]
      exact iteF (qR G l x r eG TG ro eL hl ob2)
end
end Ev
namespace Ev
open PySem L2 PySem.Spec PyProof.Rows LamX
theorem Tabs.but' {T : List (Addr × Str)} {p L : Addr} {H H' : Hp} {b : Int} (t : Tabs T H) (pn : Pen L H p b) (k : But p H H') : Tabs T H' := by
  obtain ⟨ys, hy⟩ := pn.some
  exact Tabs.but t hy k
theorem ExtP.tup {p t : Addr} {H H' : Hp} {xs : List V} {L : Addr} {b : Int} (x : ExtP p H H') (h : H t = some (.tup xs)) (pn : Pen L H p b) : H' t = some (.tup xs) := by
  obtain ⟨ys, hy⟩ := pn.some
  exact x _ _ (ne_of h hy (by intro z; cases z)) h (fun _ z => by cases z)
abbrev sLaw70 : Stmt := sLaw
abbrev nLaw : List Str := ["_law_script", "_law_pen_here", "_law_turn", "_law_told", "_law_line", "_law_words", "_law_lap", "_law_odd"]
theorem scLaw : FnScope nLaw ["_law_script"] (defScope sLaw70) := ⟨rfl, rfl, rfl, by decide +kernel, rfl, by decide +kernel, by decide +kernel⟩
def loopBody : Stmt → List Stmt
  | .For _ _ b _ _ => b
  | _ => []
abbrev lapBody : List Stmt := loopBody ((defBody sLaw70).getD 1 (.Pass ⟨0, 0, 0, 0⟩))
section
variable {P : Program} {w : World} {K : PySem.W.Frag} {mg : Str → Option Value} {base : Heap}
/-- values that are no texts are heard -/
theorem law_odd {A : Around} {outer : List Env} {s : Shared} {H : Hp} {E : XK} {f C BT FE cc TT fh : Addr} {fdh : FuncData} {TL : List (Addr × Str)} {q : Str} (hr : Room 11 (A.deeper (envOfC "law" (defScope sLaw70) s.heap.objs.size f (.ref cc)))) (gd : A.guards = some []) (T : Blt mg)
    (TB : TabB base mg cc TT) (hTL : (TT, q) ∈ TL) (hTL2 : ∀ p ∈ TL, p.1 = TT → p.2 = q) (hq : q = (envOfC "law" (defScope sLaw70) 0 f (.ref cc)).qual ++ ("<lambda>" : Str))
    (HH : HeardB P w K mg BT FE fh fdh) (RB : RdB P w K mg base C BT) (RE : RF P w K mg base C) (nsC : PySem.W.kitOne K (.ref C) (.type "str") = some false) (D2 : Df P w K mg base 2 "_law_pick" ["_law_pen_here", "_law_some"] spPick) (D5 : Df P w K mg base 7 "_law_rule" ["_law_told"] (spLRule C)) :
    ∃ t : TS, PSs (cxOf CX0 P w K mg base nLaw "law" (defScope sLaw70) f (.ref cc) A outer s H E).nox (lapBody.drop 5) t ∧ ∀ (D : Ends) (G : Hp) (p L l : Addr) (r : Fr) (x4 : Str) (b : Int) (v0 v2 v5 v6 v7 : Option V), Pen L G p b → b ≤ 900000 → Tabs TL G → G l = some (.tup (tupR r)) → r.ok →
      (∀ (G' : Hp) (u : Option V), Pen L G' p (b + 1) → Tabs TL G' → D.nx [v0, some (.ref p), v2, some (.ref l), some (.str x4), v5, v6, u] G') → t D [v0, some (.ref p), v2, some (.ref l), some (.str x4), v5, v6, v7] G := by
  obtain ⟨f2, fd2, G2, g2, k2, b2⟩ := D2.ex
  obtain ⟨f5, fd5, G5, g5, k5, b5⟩ := D5.ex
  obtain ⟨FH, gh, bh, gF, gB, HB, nl, nw, te⟩ := id HH
  obtain ⟨gC, mc, pR, fR, fdR, gR, cr, cm, GR, bR, _⟩ := id RB
  have kh := FH.kp
  obtain ⟨och, odh, kVh, doch, pmh, anh, cdvh, cth, oslh, rfl, lkh, hcdh⟩ := FH.ex
  have hu : (cxOf CX0 P w K mg base nLaw "law" (defScope sLaw70) f (.ref cc) A outer s H E).nox.A.units + 64 < cLine := Room.units hr
  have hq' : q = (cxOf CX0 P w K mg base nLaw "law" (defScope sLaw70) f (.ref cc) A outer s H E).nox.env.qual ++ ("<lambda>" : Str) := hq
  have lam : ∀ {params : Arguments} {body : Expr} {scope : Scope} {lpos pos p : Pos} {t : XK → TE}, LamS (defScope sLaw70) scope → defaultsOf params (cxOf CX0 P w K mg base nLaw "law" (defScope sLaw70) f (.ref cc) A outer s H E).env = ([], []) →
      (∀ (q : Str) (cl : List (Str × Addr)) (pm cv ctv : Value), bindArgs (PySem.W.kla_fn "<lambda>" q params body scope cl pm cv ctv) ⟨[], []⟩ = pure []) →
      (∀ (A' : Around) (outer' : List Env) (s' : Shared) (H' : Hp) (E' : XK) (f' c' : Addr), Room 8 (A'.deeper (lamEnv (cxOf CX0 P w K mg base nLaw "law" (defScope sLaw70) f (.ref cc) A outer s H E).nox scope s'.heap.objs.size f' c')) →
        PE (lamCx (cxOf CX0 P w K mg base nLaw "law" (defScope sLaw70) f (.ref cc) A outer s H E).nox A' outer' s' H' E' scope f' c') body (t E')) →
      PE (cxOf CX0 P w K mg base nLaw "law" (defScope sLaw70) f (.ref cc) A outer s H E).nox (.Call (.Name "_law_heard" p) [.Lambda params body scope lpos] [] pos) (tLam TL (THeard BT) t) := by
    intro params body scope lpos pos p t LS hdef hbind hbody
    subst hq'
    have h4 : Gl (cxOf CX0 P w K mg base nLaw "law" (defScope sLaw70) f (.ref cc) A outer s H E).nox "_law_heard" := by rfl
    refine pe_lamcall (X := (cxOf CX0 P w K mg base nLaw "law" (defScope sLaw70) f (.ref cc) A outer s H E).nox) (k := 8) (T := TL) (TT := THeard BT) (x := "_law_heard") (a := "_law_ask") (g := fh) (c := cc) (P := TT) (pg := defArgs sHeard) (bg := defBody sHeard) (sg := defScope sHeard)
      (Ng := ["_law_ask", "_law_caught", "error"]) h4 gh kh lkh hcdh bh scHeard ?_ ?_ ?_ ?_ ?_ ?_ ?_ ?_ ?_ ?_ ?_ ?_ ?_ ?_ ?_
    · rfl
    · exact .inl rfl
    · exact heard_gives (k := 9) gd (hr.mono (by decide)) T gF gB HB nl nw te kit_self
    · exact TB
    · rfl
    · exact hTL
    · exact hTL2
    · exact hr.mono (by decide)
    · exact LS
    · exact hdef
    · exact hbind
    · exact hbody
    · decide
    · decide
    · decide
  refine ⟨_, pss_cons (ps_set (i := 7) scLaw.nd rfl (.inr rfl) (pe_call G2 (hr.mono (by decide)) (by rfl) g2 k2 b2 .nil pass0 (pa_cons (pv 1) (pa_cons (pe_lst (pa_cons pe_non (pa_cons pe_int (pa_cons pe_bl (pa_cons (pe_tup (pa_cons (pv 4) pa_nil)) (pa_cons (pe_lst (pa_cons (pv 4) pa_nil)) (pa_cons pe_dnewK (pa_cons (pe_call G5 (hr.mono (by decide)) (by rfl) g5 k5 b5 .nil pass0 (pa_cons (pv 3) pa_nil)) (pa_cons (pe_disp (pps_cons (pv 4) pe_int pps_nil) rfl rfl (by simp) (by decide)) pa_nil))))))))) pa_nil))))
    (pss_one (ps_if (pt_cmpR (op_neD hu) (lam (t := fun E' => ClX.tSMeth C (spRead K C BT) E' (tC (.ref C)) (tCons (tVar 7) tNil)) (lamS_by (by decide +kernel)) rfl (fun _ _ _ _ _ => rfl)
          (fun _ _ _ _ E' _ _ hrL => ClX.pe_smeth (E := E') (pe_glob (v := .ref C) (by rfl) gC rfl) cr cm (fnr_of GR bR) hrL (passes_call (takes_of rfl rfl rfl rfl) (fun _ _ _ _ h => h)) (pa_cons (pv 7) pa_nil))) (pe_tup (pa_cons pe_str (pa_cons pe_int (pa_cons pe_int pa_nil)))) (nomark _)) (pss_one (ps_ret pe_bl)) pss_nil)), ?_⟩
  intro D G p L l r x4 b v0 v2 v5 v6 v7 pn hb hT hl ro fin
  refine ⟨_, rfl, _, rfl, (by show 1 ≤ sizeLine; decide), fun t1 n1 => ⟨_, rfl, (by show 1 ≤ sizeLine; decide), fun l1 m1 => fun d1 o1 => ?_⟩⟩
  have e1 : upd G t1 (.tup [.str x4]) t1 = some (.tup [.str x4]) := upd_same
  have s1 : Same G (upd G t1 (.tup [.str x4])) := same_new n1
  generalize upd G t1 (.tup [.str x4]) = G1 at e1 s1 m1 o1 ⊢
  have e2 : upd G1 l1 (.lst [.str x4]) l1 = some (.lst [.str x4]) := upd_same
  have s2 : Same G1 (upd G1 l1 (.lst [.str x4])) := same_new m1
  have l1p : l1 ≠ p := (pn.keep s1).ne m1
  generalize upd G1 l1 (.lst [.str x4]) = G3 at e2 s2 o1 ⊢
  have e3 : upd G3 d1 (.dK []) d1 = some (.dK []) := upd_same
  have s3 : Same G3 (upd G3 d1 (.dK [])) := same_new o1
  generalize upd G3 d1 (.dK []) = G4 at e3 s3 ⊢
  refine ⟨_, rfl, l, r, rfl, (s1.trans (s2.trans s3)) _ _ hl, ro, fun x G5 s5 ob => ?_⟩
  refine fun d2 o2 => ⟨_, rfl, upd_same, [(.inr x4, .int 1)], rfl, (by show 1 ≤ 15; decide), ?_⟩
  rw [show mergeK [] [((.inr x4 : Key), V.int 1)] = [((.inr x4 : Key), V.int 1)] from rfl]
  have e6 : upd (upd G5 d2 (.dK [])) d2 (.dK [((.inr x4 : Key), V.int 1)]) d2 = some (.dK [((.inr x4 : Key), V.int 1)]) := upd_same
  have s6 : Same G5 (upd (upd G5 d2 (.dK [])) d2 (.dK [((.inr x4 : Key), V.int 1)])) := fun c o e => by rw [upd_ne (ne_of_none e o2), upd_ne (ne_of_none e o2)]; exact e
  generalize upd (upd G5 d2 (.dK [])) d2 (.dK [((.inr x4 : Key), V.int 1)]) = G6 at e6 s6 ⊢
  refine ⟨(by show 8 ≤ sizeLine; decide), fun l2 n2 => ?_⟩
  have s16 : Same G G6 := s1.trans (s2.trans (s3.trans (s5.trans s6)))
  have l2p : l2 ≠ p := (pn.keep s16).ne n2
  generalize exs : ([.non, .int 3, .bl true, .ref t1, .ref l1, .ref d1, .ref x, .ref d2] : List V) = xs
  have hxs : ∀ d ∈ xs, ∀ G' : Hp, But p G6 G' → NotStr K G' d := by
    intro d hd G' bt
    obtain ⟨ys, hy⟩ := (pn.keep s16).some
    rw [← exs] at hd
    simp only [List.mem_cons, List.not_mem_nil, or_false] at hd
    have ht : G' t1 = some (.tup [.str x4]) := But.tup ((s2.trans (s3.trans (s5.trans s6))) _ _ e1) (pn.keep s16) bt
    have hl : G' l1 = some (.lst [.str x4]) := bt _ _ l1p ((s3.trans (s5.trans s6)) _ _ e2)
    have hd1 : G' d1 = some (.dK []) := by
      have e := (s5.trans s6) _ _ e3
      exact bt _ _ (ne_of e hy (by intro z; cases z)) e
    have hd2 : G' d2 = some (.dK [((.inr x4 : Key), V.int 1)]) := bt _ _ (ne_of e6 hy (by intro z; cases z)) e6
    obtain ⟨dx, a, hx, ha⟩ := ob.keep s6
    have hx' : G' x = some (.ins C dx (fillF a r)) := bt _ _ (ne_of hx hy (by intro z; cases z)) hx
    rcases hd with rfl | rfl | rfl | rfl | rfl | rfl | rfl | rfl
    · exact ⟨_, fun _ _ => .base .non, kit_ty (by decide +kernel)⟩
    · exact ⟨_, fun _ _ => .base (.int _), kit_ty (by decide +kernel)⟩
    · exact ⟨_, fun _ _ => .base (.bl _), kit_ty (by decide +kernel)⟩
    · exact ⟨_, fun _ k => .base (.tup (k _ _ ht fun _ z => by cases z)), kit_ty (by decide +kernel)⟩
    · exact ⟨_, fun _ k => .base (.lst (k _ _ hl fun _ z => by cases z)), kit_ty (by decide +kernel)⟩
    · exact ⟨_, fun _ k => .base (.dK (k _ _ hd1 fun _ z => by cases z)), kit_ty (by decide +kernel)⟩
    · exact ⟨_, fun _ k => tyF RE.two (k _ _ hx' fun _ z => by cases z), nsC⟩
    · exact ⟨_, fun _ k => .base (.dK (k _ _ hd2 fun _ z => by cases z)), kit_ty (by decide +kernel)⟩
  have hx1 : 1 ≤ xs.length ∧ xs.length ≤ 1000 := by rw [← exs]; exact ⟨by simp, by simp⟩
  clear exs e1 e2 e3 e6
  have e5 : upd G6 l2 (.lst xs) l2 = some (.lst xs) := upd_same
  have s5' : Same G6 (upd G6 l2 (.lst xs)) := same_new n2
  refine ⟨p, l2, L, xs, b, rfl, e5, l2p, hx1.1, hx1.2, by omega, (pn.keep s16).keep s5', fun d H6 mem t6 p6 => ?_⟩
  have nd := hxs d mem H6 ((Same.but s5').trans t6)
  have b6 : But p G H6 := (Same.but s16).trans ((Same.but s5').trans t6)
  have T6 : Tabs TL H6 := Tabs.but' hT pn b6
  clear hxs e5 s5' t6 s16 s1 s2 s3 s5 s6
  refine ⟨T6, fun H7 e7 T7 => ⟨rfl, _, rfl, _, rfl, .inl ⟨?_, ?_⟩⟩⟩
  · obtain ⟨u, ty, ki⟩ := nd
    exact ⟨u, fun H' k => ty H' (e7.trans k), ki⟩
  · intro dd H8 s8 ndd hdd
    refine ⟨dd, 0, rfl, rfl, hdd, fun r' G9 s9 nr hr2 => ?_⟩
    have s79 : Same H7 G9 := s8.trans s9
    refine ⟨(by show 3 ≤ sizeLine; decide), fun tq ntq => ?_⟩
    have sq : Same G9 (upd G9 tq (tupT 0)) := same_new ntq
    refine ⟨tupD 0, tupD 0, tup_dp (sq _ _ hr2), tup_dp upd_same, (tup_sh 0 (by decide)).1, (tup_sh 0 (by decide)).1, ?_⟩
    rw [(tup_sh 0 (by decide)).2]
    refine ⟨_, rfl, iteF ?_⟩
    have e610 : ExtN H6 (upd G9 tq (tupT 0)) := e7.trans (Same.extN (s79.trans sq))
    exact fin _ _ (p6.ext e610) (T7.ext (s79.trans sq))
end
end Ev
namespace Ev
open PySem L2 PySem.Spec PyProof.Rows LamX
theorem jz_mem {s c : Nat} : ∀ {ws : List (List Nat)}, c ∈ jz s ws → c = s ∨ ∃ l ∈ ws, c ∈ l
  | [], h => by simp [jz, TL.joinL] at h
  | [a], h => .inr ⟨a, List.mem_singleton.mpr rfl, by simpa [jz, TL.joinL] using h⟩
  | a :: b :: t, h => by
    rw [jz_cons] at h
    rcases List.mem_append.mp h with h | h
    · exact .inr ⟨a, List.mem_cons_self, h⟩
    · rcases List.mem_cons.mp h with h | h
      · exact .inl h
      · rcases jz_mem h with h | ⟨l, hl, hc⟩
        · exact .inl h
        · exact .inr ⟨l, List.mem_cons_of_mem _ hl, hc⟩
theorem jz_asc {ws : List (List Nat)} (h : ∀ l ∈ ws, Asc l) : Asc (jz 32 ws) := fun c hc => by
  rcases jz_mem hc with rfl | ⟨l, hl, hc⟩
  · decide
  · exact h l hl c hc
theorem txc_asc (i : Int) : Asc (txc i) := fun c hc => by have := txc_sign hc; omega
theorem prW_asc (p q : Int) : Asc (prW p q) := fun c hc => by
  rcases List.mem_append.mp hc with h | h
  · exact txc_asc _ c h
  · rcases List.mem_cons.mp h with rfl | h
    · decide
    · exact txc_asc _ c h
theorem fr_ok {r : Fr} (o : r.ok) : OkW 400 r.ws := fun l hl => by
  have a1 := prW_len (p := r.p) (q := r.q) (by have := o.p1; have := o.p2; omega) (by have := o.q1; have := o.q2; omega)
  have a2 := txc_len (i := r.k) (by have := o.k1; have := o.k2; omega)
  have a3 := txc_len (i := r.c) (by have := o.c1; have := o.c2; omega)
  have a4 := txc_len (i := r.j) (by have := o.j1; have := o.j2; omega)
  simp only [Fr.ws, List.mem_cons, List.not_mem_nil, or_false] at hl
  rcases hl with rfl | rfl | rfl | rfl | rfl
  · exact ⟨by decide, by unfold wFill Asc; decide⟩
  · exact ⟨by omega, prW_asc _ _⟩
  · exact ⟨by omega, txc_asc _⟩
  · exact ⟨by omega, txc_asc _⟩
  · exact ⟨by omega, txc_asc _⟩
theorem sumL_le {M : Nat} : ∀ {ws : List (List Nat)}, OkW M ws → sumL ws ≤ M * ws.length
  | [], _ => by simp [sumL]
  | a :: t, h => by
    have h1 := (h a List.mem_cons_self).1
    have h2 := sumL_le (ws := t) (fun l hl => h l (List.mem_cons_of_mem _ hl))
    simp only [sumL, List.map_cons, List.sum_cons, List.length_cons] at h2 ⊢
    rw [Nat.mul_add]
    omega
theorem fr_len {r : Fr} (o : r.ok) : r.tx.length ≤ 3300 := by
  have := jz_le 32 r.ws
  have := sumL_le (fr_ok o)
  have e : r.ws.length = 5 := rfl
  unfold Fr.tx
  omega
theorem fr_asc {r : Fr} (o : r.ok) : Asc r.tx := jz_asc fun l hl => (fr_ok o l hl).2
theorem fr_inj {r r' : Fr} (h : r.tx = r'.tx) : r = r' := by
  have h1 : r.ws = r'.ws := by rw [← fr_pcz r, ← fr_pcz r', h]
  unfold Fr.ws at h1
  simp only [List.cons.injEq, and_true, true_and] at h1
  obtain ⟨e1, e2, e3, e4⟩ := h1
  have e5 : [txc r.p, txc r.q] = [txc r'.p, txc r'.q] := by rw [← pcz_prW, ← pcz_prW, e1]
  simp only [List.cons.injEq, and_true] at e5
  have g : ∀ {a b : Int}, txc a = txc b → a = b := fun {a b} h => by rw [← val_txc a, ← val_txc b, h]
  obtain ⟨p, q, k, c, j⟩ := r
  obtain ⟨p', q', k', c', j'⟩ := r'
  have := g e5.1; have := g e5.2; have := g e2; have := g e3; have := g e4
  simp_all
theorem dpW {K : PySem.W.Frag} {H : Hp} : ∀ ws : List (List Nat), DpAll K H (ws.map wz) (ws.map fun l => PyData.str (Sx l))
  | [] => .nil
  | l :: t => .cons (.str _) (dpW t)
theorem shW {ws : List (List Nat)} (h : ∀ l ∈ ws, Asc l) : SeqAt.shaped (.list (ws.map fun l => PyData.str (Sx l))) = true := by
  have a : PyData.canLayAll0 (ws.map fun l => PyData.str (Sx l)) = true := by
    induction ws with
    | nil => rfl
    | cons l t ih =>
      have := strOk_S (h l List.mem_cons_self)
      have i := ih (fun l hl => h l (List.mem_cons_of_mem _ hl))
      simp [PyData.canLayAll0, PyData.canLay0, this, i]
  have b : PyData.depthAll (ws.map fun l => PyData.str (Sx l)) ≤ 1 := by
    clear a h
    induction ws with
    | nil => simp [PyData.depthAll]
    | cons l t ih => simp [PyData.depthAll, PyData.depth]; omega
  unfold SeqAt.shaped
  rw [Bool.and_eq_true]
  refine ⟨by simp [PyData.canLay0, a], decide_eq_true ?_⟩
  simp [PyData.depth]
  omega
theorem eqvW (ws : List (List Nat)) : PyData.eqv (.list (ws.map fun l => PyData.str (Sx l))) (.list []) = ws.isEmpty := by
  cases ws with
  | nil => rfl
  | cons l t => simp [PyData.eqv, PyData.eqvAll]
def r23 : Fr := ⟨2, 3, 0, 1, 3⟩
theorem r23_ok : r23.ok := ⟨by decide, by decide, by decide, by decide, by decide, by decide, by decide, by decide, by decide, by decide⟩
theorem r23_tx : Sx r23.tx = Str.ofString "fill 2/3 0 1 3" := by decide +kernel
def spLaw (K : PySem.W.Frag) (T1 T2 : Addr) : Sp := fun vs H Q _ => ∃ (a : Addr) (ns : List Int), vs = [.ref a] ∧ SqL K H a (ns.map V.int) ∧ ns.length ≤ 63 ∧ H T1 = some (.tbl #[]) ∧ H T2 = some (.tbl #[]) ∧ ∀ H', Q (.bl true) H'
section
variable {P : Program} {w : World} {K : PySem.W.Frag} {mg : Str → Option Value} {base : Heap}
theorem ok_law {f C BT FE fh T1 T2 cc fI : Addr} {fd fdh fdI : FuncData} {q1 q2 : Str} {g : List Value → List Value → List Value} (F : Fun K "law" "law" sLaw70 f fd) (T : Blt mg) (ms : mg "str" = none) (hc : fd.code = .ref cc) (TB : TabB base mg cc T2) (TT : T1 ≠ T2)
    (hq : q2 = (envOfC "law" (defScope sLaw70) 0 f (.ref cc)).qual ++ ("<lambda>" : Str)) (HH : HeardB P w K mg BT FE fh fdh) (RB : RdB P w K mg base C BT) (RE : RF P w K mg base C) (nsC : PySem.W.kitOne K (.ref C) (.type "str") = some false) (M : Mk K C fI)
    (GI : FnOk P w K mg base CX0 5 fI fdI ["self", "times", "plus", "cut_of", "join_of"] (spFillInit C)) (bI : KBn K fdI ["self", "times", "plus", "cut_of", "join_of"] 2 ["join_of"] g (fun vs zs => vs ++ ([.int 0] ++ ([.int 1] ++ zs))))
    (D1 : Df P w K mg base 1 "_law_pen" ["_law_script"] (spPen K)) (D3 : Df P w K mg base 2 "_law_pick" ["_law_pen_here", "_law_some"] spPick) (D4 : Df P w K mg base 2 "_law_numbers" ["_law_pen_here"] spLNums)
    (D5 : Df P w K mg base 7 "_law_rule" ["_law_told"] (spLRule C)) (D6 : Df P w K mg base 1 "_law_text" ["_law_told"] spLText) (D7 : Df P w K mg base 3 "_law_bent" ["_law_pen_here", "_law_words"] spBent)
    {f9 : Addr} {fd9 : FuncData} (G9 : FnG P w K mg base 11 f9 fd9 ["_law_line"] (spRight [(T1, q1), (T2, q2)])) (g9 : mg "_law_read_right" = some (.ref f9)) (k9 : PySem.W.keepIn K (.ref f9) = true) (b9 : Binds K fd9 ["_law_line"] []) :
    FnG P w K mg base 12 f fd ["_law_script"] (spLaw K T1 T2) := by
  obtain ⟨f1, fd1, G1, g1, k1, b1⟩ := D1.ex
  obtain ⟨f4, fd4, G4, g4, k4, b4⟩ := D4.ex
  obtain ⟨f5, fd5, G5, g5, k5, b5⟩ := D5.ex
  obtain ⟨f6, fd6, G6, g6, k6, b6⟩ := D6.ex
  obtain ⟨f7, fd7, G7, g7, k7, b7⟩ := D7.ex
  obtain ⟨gC, mc, pR, fR, fdR, gR, cr, cm, GR, bR, kR⟩ := id RB
  refine fng_code F scLaw (fun vs H Q E h => ?_) (fun cdv ecd A outer s H vs Q E hr gd h => ?_)
  · obtain ⟨a, ns, rfl, _⟩ := h
    rfl
  · obtain ⟨a, ns, rfl, hS, hlen, hT1, hT2, kk⟩ := h
    obtain rfl : cdv = .ref cc := ecd.symm.trans hc
    have hr1 : Room 1 _ := hr.mono (by decide)
    have hr2 : Room 2 _ := hr.mono (by decide)
    have hr3 : Room 3 _ := hr.mono (by decide)
    have hr7 : Room 7 _ := hr.mono (by decide)
    have hu : (cxOf CX0 P w K mg base nLaw "law" (defScope sLaw70) f (.ref cc) A outer s H E).nox.A.units + 64 < cLine := Room.units hr
    obtain ⟨tO, hO, qO⟩ := law_odd (TL := [(T1, q1), (T2, q2)]) (H := H) (E := E) (s := s) (outer := outer) hr gd T TB (by simp) (fun z hz e => by
      simp only [List.mem_cons, List.not_mem_nil, or_false] at hz
      rcases hz with rfl | rfl
      · exact absurd e TT
      · rfl) hq HH RB RE nsC D3 D5
    obtain ⟨tL, hL, qL⟩ : ∃ t : TS, PSs (cxOf CX0 P w K mg base nLaw "law" (defScope sLaw70) f (.ref cc) A outer s H E).nox (lapBody.drop 1) t ∧ ∀ (D : Ends) (G : Hp) (p L l : Addr) (b : Int) (r : Fr) (v0 v2 v4 v5 v6 v7 : Option V), r.ok → G l = some (.tup (tupR r)) → Pen L G p b → b ≤ 800000 → Tabs [(T1, q1), (T2, q2)] G →
        (∀ (G' : Hp) (u4 u5 u6 u7 : Option V), Pen L G' p (b + 50) → Tabs [(T1, q1), (T2, q2)] G' → D.nx [v0, some (.ref p), v2, some (.ref l), u4, u5, u6, u7] G') → t D [v0, some (.ref p), v2, some (.ref l), v4, v5, v6, v7] G := by
      refine ⟨_, (pss_cons (ps_set (i := 4) scLaw.nd rfl (.inl rfl) (pe_call G6 hr1 (by rfl) g6 k6 b6 .nil pass0 (pa_cons (pv 3) pa_nil)))
        (pss_cons (ps_if (PW.pt (pw_or (pt_cmpR op_ne (pe_callTy (call_strF RE (hr.mono (by decide))) (by rfl) ms (by decide +kernel) (pa_cons (pe_call G5 hr7 (by rfl) g5 k5 b5 .nil pass0 (pa_cons (pv 3) pa_nil)) pa_nil)) (pv 4) (nomark _))
          (pw_or (pt_not (pt_val (pe_callG (E := E0) G9 hr gd (by rfl) g9 k9 b9 (pa_cons (pv 4) pa_nil))))
          (pw_or1 (pt_cmpR (op_neF RE (hr.mono (by decide))) (ClX.pe_smethK0 (E := E0) (ps := ["text"]) (ks := ["text"]) (pe_glob (v := .ref C) (by rfl) gC rfl) cr cm GR (hr.mono (by decide)) kR passX0 (pk_cons (pv 4) pk_nil)) (pe_call G5 hr7 (by rfl) g5 k5 b5 .nil pass0 (pa_cons (pv 3) pa_nil)) (nomark _)))))) (pss_one (ps_ret pe_bl)) pss_nil)
        (pss_cons (ps_set (i := 5) scLaw.nd rfl (.inl rfl) (pe_split (pv 4) pe_str))
        (pss_cons (ps_for PassesOwn.never rfl (pi_range1 rfl T.range (pa_cons pe_int pa_nil)) (pg_name (i := 6) scLaw.nd rfl (.inl rfl))
          (pss_cons (ps_set (i := 5) scLaw.nd rfl (.inl rfl) (pe_ifExp (pt_cmpR (op_neD hu) (pv 5) (pe_lst pa_nil) (nomark _)) (pe_call G7 hr3 (by rfl) g7 k7 b7 .nil pass0 (pa_cons (pv 1) (pa_cons (pv 5) pa_nil))) (pe_lst (pa_cons pe_str pa_nil))))
          (pss_one (ps_if (pt_not (pt_val (pe_callG (E := E0) G9 hr gd (by rfl) g9 k9 b9 (pa_cons (pe_join pe_str (pv 5)) pa_nil)))) (pss_one (ps_ret pe_bl)) pss_nil))))
        hO)))), ?_⟩
      intro D G p L l b r v0 v2 v4 v5 v6 v7 o hl pn hb hT fin
      refine ⟨_, rfl, l, r, rfl, hl, o, fun G1 s1 => ?_⟩
      refine ⟨_, rfl, l, r, rfl, s1 _ _ hl, o, fun x G2 s2 ob => ?_⟩
      have s12 := s1.trans s2
      refine ⟨x, r, rfl, ob, o, _, rfl, rfl, _, rfl, ?_⟩
      rw [show decide (V.str (Sx r.tx) = V.str (Sx r.tx)) = true from decide_eq_true rfl]
      refine iteF ⟨_, rfl, r.tx, rfl, fr_len o, fr_asc o, hT.ext s12, fun G5 e5 T5 => ⟨_, rfl, iteF ?_⟩⟩
      have p5 := (pn.keep s12).ext e5
      have hl5 := e5 _ _ (s12 _ _ hl) (fun _ z => by cases z)
      refine ⟨rfl, _, rfl, _, rfl, .inr ⟨r.tx, rfl, fr_len o, fr_asc o, fun n hn => ?_, fun r' ro' eT z G6 s6 oz => ?_⟩⟩
      · rw [fr_pcz, fr_words o] at hn
        cases hn
      obtain rfl := fr_inj eT
      refine ⟨_, rfl, l, r, rfl, s6 _ _ hl5, o, fun y G7 s7 oy => ⟨z, y, r, rfl, rfl, oz.keep s7, oy, _, rfl, iteF ?_⟩⟩
      have s67 := s6.trans s7
      have p7 := p5.keep s67
      have T7 := T5.ext s67
      have hl7 := s67 _ _ hl5
      refine ⟨_, rfl, ⟨_, rfl⟩, _, _, rfl, rfl, by decide +kernel, by rw [SX.S_len, sizeLine_eq]; have := fr_len o; omega, fun W nW' => ?_⟩
      rw [show (Txt.split (Sx r.tx) (Str.ofString " ")).map V.str = r.ws.map wz by rw [← fr_pcz r]; exact split_pcz (by decide) _]
      have hW : upd G7 W (.lst (r.ws.map wz)) W = some (.lst (r.ws.map wz)) := upd_same
      have sW : Same G7 (upd G7 W (.lst (r.ws.map wz))) := same_new nW'
      generalize upd G7 W (.lst (r.ws.map wz)) = G8 at hW sW ⊢
      refine ⟨3, rfl, by decide, by decide, for_range (n := 3) (fun i σ G' => (∃ (W : Addr) (ws : List (List Nat)) (u6 : Option V), σ = [v0, some (.ref p), v2, some (.ref l), some (.str (Sx r.tx)), some (.ref W), u6, v7] ∧ G' W = some (.lst (ws.map wz)) ∧ ws.length ≤ 5 + i ∧ OkW (400 + i) ws) ∧ Pen L G' p (b + 10 * (i : Int)) ∧ Tabs [(T1, q1), (T2, q2)] G' ∧ G' l = some (.tup (tupR r))) ⟨⟨W, r.ws, v6, rfl, hW, (by show 5 ≤ 5 + 0; decide), fr_ok o⟩, (p7.keep sW).mono (by omega), T7.ext sW, sW _ _ hl7⟩ ?_ ?_⟩
      · rintro i σ G9' hi ⟨⟨W, ws, u6, rfl, hWs, hn, hok⟩, pi, Ti, hli⟩
        have next : ∀ (R : Addr) (us : List (List Nat)) (H' : Hp), us.length ≤ 5 + (i + 1) → OkW (400 + (i + 1)) us → H' R = some (.lst (us.map wz)) → Pen L H' p (b + 10 * (i : Int) + 5) → Tabs [(T1, q1), (T2, q2)] H' → H' l = some (.tup (tupR r)) →
            tIfS (tNot (tB (tCall (spRight [(T1, q1), (T2, q2)]) [] E0 (tCons (tM1 (fun x xs H Q => ∃ a p, ∃ ys : List Str, x = .str a ∧ xs = [.ref p] ∧ (SqL K H p (ys.map V.str) ∨ SqT K H p (ys.map V.str)) ∧ (ys.map (·.length)).sum + ys.length * a.length ≤ 16777216 ∧ Q (.str (Txt.join a ys)) H) (tC (.str (Str.ofString " "))) (tVar 5)) tNil)))) (tRet (tC (.bl false))) tNext
              { D with nx := fun σ G' => (∃ (W : Addr) (ws : List (List Nat)) (u6 : Option V), σ = [v0, some (.ref p), v2, some (.ref l), some (.str (Sx r.tx)), some (.ref W), u6, v7] ∧ G' W = some (.lst (ws.map wz)) ∧ ws.length ≤ 5 + (i + 1) ∧ OkW (400 + (i + 1)) ws) ∧ Pen L G' p (b + 10 * ((i + 1 : Nat) : Int)) ∧ Tabs [(T1, q1), (T2, q2)] G' ∧ G' l = some (.tup (tupR r)), ct := fun σ G' => (∃ (W : Addr) (ws : List (List Nat)) (u6 : Option V), σ = [v0, some (.ref p), v2, some (.ref l), some (.str (Sx r.tx)), some (.ref W), u6, v7] ∧ G' W = some (.lst (ws.map wz)) ∧ ws.length ≤ 5 + (i + 1) ∧ OkW (400 + (i + 1)) ws) ∧ Pen L G' p (b + 10 * ((i + 1 : Nat) : Int)) ∧ Tabs [(T1, q1), (T2, q2)] G' ∧ G' l = some (.tup (tupR r)), bk := fun σ G' => tO D σ G' } [v0, some (.ref p), v2, some (.ref l), some (.str (Sx r.tx)), some (.ref R), some (.int (0 + (i : Int))), v7] H' := by
          intro R us H' hn' ok' hR pR' TR hlR
          have h3 : sumL us + us.length ≤ 3300 := by
            have := sumL_le ok'
            have : (400 + (i + 1)) * us.length ≤ 403 * 8 := Nat.mul_le_mul (by omega) (by omega)
            omega
          refine ⟨⟨_, rfl⟩, _, rfl, _, R, us.map SX.S, rfl, rfl, .inl (SqL.of (by rw [hR, List.map_map]; rfl)), ?_, ?_⟩
          · rw [SX.lens, List.length_map]
            have e1 : (Str.ofString " ").length = 1 := by decide +kernel
            rw [e1]
            unfold sumL at h3
            show (us.map List.length).sum + _ ≤ _
            omega
          rw [show Txt.join (Str.ofString " ") (us.map SX.S) = Sx (jz 32 us) from SX.join_S [32] us]
          refine ⟨jz 32 us, rfl, by have := jz_le 32 us; omega, jz_asc fun l hl => (ok' l hl).2, TR, fun G' e' T' => ⟨_, rfl, iteF ?_⟩⟩
          exact ⟨⟨R, us, _, rfl, e' _ _ hR (fun _ z => by cases z), hn', ok'⟩, (pR'.ext e').mono (by omega), T', e' _ _ hlR (fun _ z => by cases z)⟩
        refine ⟨_, rfl, (by show 0 ≤ sizeLine; decide), fun q nq => ?_⟩
        have sq : Same G9' (upd G9' q (.lst [])) := same_new nq
        refine ⟨.list (ws.map fun l => PyData.str (Sx l)), .list [], .lst (SqL.of (sq _ _ hWs)) (dpW ws), .lst (SqL.of upd_same) .nil, shW fun l hl => (hok l hl).2, sh_ints [], _, rfl, ?_⟩
        rw [eqvW]
        have hWq := sq _ _ hWs
        have piq := pi.keep sq
        have Tiq := Ti.ext sq
        have hliq := sq _ _ hli
        generalize upd G9' q (.lst []) = Gq at hWq piq Tiq hliq ⊢
        by_cases z : ws = []
        · subst z
          refine iteF ⟨(by show 1 ≤ sizeLine; decide), fun R nR => ?_⟩
          have sR : Same Gq (upd Gq R (.lst [V.str (Str.ofString "")])) := same_new nR
          exact next R [[]] _ (by show 1 ≤ 5 + (i + 1); omega) (OkW.one (by simp) (fun c hc => by cases hc)) upd_same ((piq.keep sR).mono (by omega)) (Tiq.ext sR) (sR _ _ hliq)
        · rw [show ws.isEmpty = false by cases ws with | nil => exact absurd rfl z | cons _ _ => rfl]
          refine iteT ⟨_, rfl, _, rfl, p, W, L, ws, 400 + i, _, rfl, hWq, by omega, hok, by omega, by omega, by omega, piq, fun R us H' hlen' ho hR bt p' => ?_⟩
          have hl' : H' l = some (.tup (tupR r)) := But.tup hliq piq bt
          exact next R us H' (by omega) (by rw [show 400 + (i + 1) = 400 + i + 1 by omega]; exact ho) hR p' (Tabs.but' Tiq piq bt) hl'
      · rintro σ G9' ⟨⟨W, ws, u6, rfl, hWs, hn, hok⟩, pi, Ti, hli⟩
        exact qO D G9' p L l r _ _ _ _ _ _ _ pi (by omega) Ti hli o fun G' u p8 T8 => fin G' _ _ _ _ (p8.mono (by omega)) T8
    refine ⟨_, pss_cons (ps_set (i := 1) scLaw.nd rfl (.inl rfl) (pe_call G1 hr1 (by rfl) g1 k1 b1 .nil pass0 (pa_cons (pv 0) pa_nil)))
      (pss_cons (ps_for PassesOwn.never rfl (pi_range1 rfl T.range (pa_cons pe_int pa_nil)) (pg_name (i := 2) scLaw.nd rfl (.inl rfl))
        (pss_cons (ps_set (i := 3) scLaw.nd rfl (.inl rfl) (pe_call G4 hr2 (by rfl) g4 k4 b4 .nil pass0 (pa_cons (pv 1) pa_nil)))
        hL))
      (pss_one (ps_ret (pe_cmpR op_eq (pe_callTy (call_strF RE (hr.mono (by decide))) (by rfl) ms (by decide +kernel) (pa_cons (pe_makeK (n := 1) M GI (hr.mono (by decide)) (by rfl) gC bI pass0 (pa_cons (pe_tup (pa_cons pe_int (pa_cons pe_int pa_nil))) pa_nil) (pk_cons pe_int pk_nil)) pa_nil)) pe_str (nomark _))))), ?_⟩
    refine ⟨_, rfl, a, ns, rfl, hS, hlen, fun p L H1 np s1 pn0 => ?_⟩
    have tb0 : Tabs [(T1, q1), (T2, q2)] H1 := fun z hz => by
      simp only [List.mem_cons, List.not_mem_nil, or_false] at hz
      rcases hz with rfl | rfl
      · exact TabS.nil (s1 _ _ hT1)
      · exact TabS.nil (s1 _ _ hT2)
    refine ⟨8, rfl, by decide, by decide, for_range (n := 8) (fun i σ H2 => (∃ v2 v3 v4 v5 v6 v7 : Option V, σ = [some (.ref a), some (.ref p), v2, v3, v4, v5, v6, v7]) ∧ Pen L H2 p (70 * (i : Int)) ∧ Tabs [(T1, q1), (T2, q2)] H2) ⟨⟨none, none, none, none, none, none, rfl⟩, pn0.mono (by decide), tb0⟩ ?_ ?_⟩
    · rintro i σ H2 hi ⟨⟨v2, v3, v4, v5, v6, v7, rfl⟩, pn, tb⟩
      refine ⟨_, rfl, p, L, _, rfl, by omega, pn, fun l r H5 o nl hl t5 p5 => ?_⟩
      exact qL _ H5 p L l _ r _ _ _ _ _ _ o hl p5 (by omega) (Tabs.but' tb pn t5) fun G' u4 u5 u6 u7 p7 T7 => ⟨⟨_, _, _, _, _, _, rfl⟩, p7.mono (by omega), T7⟩
    · rintro σ H2 ⟨⟨v2, v3, v4, v5, v6, v7, rfl⟩, pn, tb⟩
      refine ⟨(by show 2 ≤ sizeLine; decide), fun t nt => ⟨rfl, rfl, fun x dx nx ndx nex => ?_⟩⟩
      have ht : upd H2 t (.tup [.int 2, .int 3]) t = some (.tup [.int 2, .int 3]) := upd_same
      generalize upd H2 t (.tup [.int 2, .int 3]) = H3 at ht nx ndx ⊢
      have keep : ∀ (o1 o2 : HO) (b : Addr) (u : HO), H3 b = some u → upd (upd H3 dx o1) x o2 b = some u := fun o1 o2 b u e => by
        rw [upd_ne (ne_of_none e nx), upd_ne (ne_of_none e ndx)]; exact e
      refine ⟨x, dx, t, r23, rfl, upd_same, keep _ _ _ _ ht, r23_ok, fun H4 t4 hx4 => ⟨rfl, ?_⟩⟩
      have fa : FAt C H4 x r23 := ⟨dx, t, hx4, t4 _ _ (ne_of_none ht nx) (keep _ _ _ _ ht)⟩
      refine ⟨x, r23, rfl, fa, r23_ok, rfl, ?_⟩
      rw [show decide (V.str (Sx r23.tx) = V.str (Str.ofString "fill 2/3 0 1 3")) = true from decide_eq_true (by rw [r23_tx])]
      exact kk _
end
end Ev
namespace Ev
open PySem L2 PySem.Spec PyProof.Rows LamX
/-- the table of a code object -/
def tabAt (K : PySem.W.Frag) (c : Addr) : Addr := match K.lookup c with
  | some ⟨_, _, .fields vs, _⟩ => (match (vs[11]? : Option Value) with | some (.ref T) => T | _ => 0)
  | _ => 0
/-! The law's own call, where two other defs make lambdas: the tables of both code objects are told of. -/
section
variable {P : Program} {w : World} {K : PySem.W.Frag} {mg mb : Str → Option Value}
theorem law_callT2 {k : Nat} {fa a c c2 T T2 : Addr} {fd : FuncData} {x : Str} {sp : Sp} {s : Shared} {vs : List Value} {ns : List Int}
    (inK : K.In s.heap) (ns1 : s.heap.Ns mainGlobals mg) (ns2 : s.heap.Ns builtinsNs mb) (blt : ∀ x : Str, x ≠ "__name__" → mb x = bootBuiltins x)
    (noLim : s.heap.NoLimit) (hg : s.gens = #[]) (hT : s.heap.get? T = some { cls := .none, data := .fields #[] }) (nT : K.lookup T = none) (hc : PySem.W.CodeHd s.heap c T)
    (hT2 : s.heap.get? T2 = some { cls := .none, data := .fields #[] }) (nT2 : K.lookup T2 = none) (hc2 : PySem.W.CodeHd s.heap c2 T2) (TT : T ≠ T2)
    (hbm : ∃ (bm : Addr) (ob : Obj), mg "__builtins__" = some (.ref bm) ∧ bm ≠ builtinsNs ∧ s.heap.get? bm = some ob ∧ ob.cls = .type "module" ∧ ob.dict = some builtinsNs ∧ ob.data = .plain)
    (ha : s.heap.get? a = some { cls := .type "list", data := .seq vs.toArray }) (hi : IntsAre vs ns) (hl : ns.length ≤ sizeLine) (hr : Room k callerA)
    (F : ∀ base : Heap, K.In base → base.Ns mainGlobals mg → TabB base mg c T → TabB base mg c2 T2 → FnG P w K mg base k fa fd [x] sp)
    (bt : ∀ (s : Shared) (u : Value), BindsTo s fd ⟨[u], []⟩ [(x, u)])
    (hsp : ∀ H : Hp, H T = some (.tbl #[]) → H T2 = some (.tbl #[]) → SqL K H a (ns.map V.int) → sp [.ref a] H (fun v _ => v = .bl true) fun _ _ _ => False) :
    codeAny (model P w) callerA (.call (.ref fa) ⟨[.ref a], []⟩)
      (fun r s' => r = .ok (.ret (.bool true)) ∧ OldK s.heap s'.heap ∧ s'.os = s.os ∧ AllBare s'.gens) s := by
  have rv := vals_ints hi
  have lv := hi.length
  have aT : a ≠ T := fun z => by
    rw [z, hT] at ha
    cases ha
  have aT2 : a ≠ T2 := fun z => by
    rw [z, hT2] at ha
    cases ha
  have key : ∀ H : Hp, H T = some (.tbl #[]) → H T2 = some (.tbl #[]) → (∀ b u, H b = some u → b ≠ T → b ≠ T2 → b = a ∧ K.lookup a = none ∧ u = .frz { cls := .type "list", data := .seq vs.toArray } (.lst (ns.map V.int))) →
      SqL K H a (ns.map V.int) → codeAny (model P w) callerA (.call (.ref fa) ⟨[.ref a], []⟩)
        (fun r s' => r = .ok (.ret (.bool true)) ∧ OldK s.heap s'.heap ∧ s'.os = s.os ∧ AllBare s'.gens) s := by
    intro H eT eT2 only sq
    have ok : HOk P w H s.heap := by
      intro b u e
      by_cases zb : b = T
      · subst zb
        rw [eT] at e
        cases e
        exact hT
      · by_cases zb2 : b = T2
        · subst zb2
          rw [eT2] at e
          cases e
          exact hT2
        · obtain ⟨rfl, _, rfl⟩ := only b u e zb zb2
          exact ⟨ha, by rw [List.length_map]; exact hl, vs, _, rv, ha⟩
    have plain : ∀ {b : Addr} {o : Obj}, s.heap.get? b = some o → (∀ vs n, o.data ≠ .seq vs n) → o.data ≠ .fields #[] → H b = none := by
      intro b o e d1 d2
      cases q : H b with
      | none => rfl
      | some u =>
        by_cases zb : b = T
        · subst zb
          rw [hT] at e
          cases e
          exact absurd rfl d2
        · by_cases zb2 : b = T2
          · subst zb2
            rw [hT2] at e
            cases e
            exact absurd rfl d2
          · obtain ⟨rfl, _, _⟩ := only b u q zb zb2
            rw [ha] at e
            cases e
            exact absurd rfl (d1 _ _)
    have names : ∀ {b : Addr} {m : Str → Option Value}, s.heap.Ns b m → (hidT s.heap H).Ns b m := by
      rintro b m ⟨o, es, n, e, d, r⟩
      exact ⟨o, es, n, hidT_get e (plain e (fun _ _ z => by rw [d] at z; cases z) fun z => by rw [d] at z; cases z), d, r⟩
    have inB : K.In (hidT s.heap H) := by
      intro b o e
      refine hidT_get (inK b o e) ?_
      cases q : H b with
      | none => rfl
      | some u =>
        by_cases zb : b = T
        · rw [zb, nT] at e
          cases e
        · by_cases zb2 : b = T2
          · rw [zb2, nT2] at e
            cases e
          · obtain ⟨rfl, n, _⟩ := only b u q zb zb2
            rw [n] at e
            cases e
    have tab : ∀ {c T : Addr}, PySem.W.CodeHd s.heap c T → s.heap.get? T = some { cls := .none, data := .fields #[] } → TabB (hidT s.heap H) mg c T := by
      intro c T hc hT
      obtain ⟨bm, ob, b1, b2, b3, b4, b5, b6⟩ := hbm
      refine ⟨?_, ⟨bm, ob, b1, b2, fun q => ?_, fun q => ?_, hidT_get b3 (plain b3 (fun _ _ z => by rw [b6] at z; cases z) fun z => by rw [b6] at z; cases z), b4, b5, b6⟩, fun z => ?_⟩
      · obtain ⟨o, us, file, tf, flags, tg, inF, text, tt, e1, r1, r2, r3, rest⟩ := hc
        refine ⟨o, us, file, tf, flags, tg, inF, text, tt, hidT_get e1 (plain e1 (fun _ _ z => by rw [r2] at z; cases z) fun z => ?_), r1, r2, r3, rest⟩
        rw [r2] at z
        cases z
        simp at r3
      · obtain ⟨o, es, n, e, d, _⟩ := ns1
        rw [q, e] at b3
        cases b3
        rw [d] at b6
        cases b6
      · rw [q, hT] at b3
        cases b3
        cases b6
      · obtain ⟨o, es, n, e, d, _⟩ := ns1
        rw [z, hT] at e
        cases e
        cases d
    obtain ⟨mc, l1, l2⟩ := noLim
    have md : Mod K mg (hidT s.heap H) := ⟨inB, names ns1, ⟨mb, names ns2, blt⟩, ⟨mc, names l1, l2⟩⟩
    have env : Env0 P w K mg (hidT s.heap H) callerA [] s H :=
      ⟨rfl, md, fun b o e => of_hidT e, Nat.le_of_eq (hidT_size _ _), trivial, (fun b hb => by cases hb), ok, .of_eq hg⟩
    have go := (F _ inB (names ns1) (tab hc hT) (tab hc2 hT2)).goes callerA [] s H ⟨[.ref a], []⟩ [.ref a] [.ref a] _ _ hr rfl env (bt s (.ref a)) (.cons rfl .nil) (hsp H eT eT2 sq)
    refine codeAny_mono go fun r s2 h2 => ?_
    cases r with
    | error e => exact False.elim h2
    | ok fl =>
      cases fl with
      | next => exact False.elim h2
      | brk => exact False.elim h2
      | cont => exact False.elim h2
      | ret u =>
        obtain ⟨v, H2, os, bare, un, ok2, rr, q⟩ := h2
        obtain rfl : v = V.bl true := q
        obtain rfl : u = Value.bool true := rr
        have others : ∀ b o, b ≠ T → b ≠ T2 → s.heap.get? b = some o → s2.heap.get? b = some o := by
          intro b o nb nb2 e
          cases q : H b with
          | none => exact un.keep b o e q (by intro z; cases z) (by simp)
          | some u =>
            obtain ⟨rfl, _, rfl⟩ := only b u q nb nb2
            obtain ⟨e1, _⟩ := ok b _ q
            obtain ⟨e2, _⟩ := ok2 b _ (un.frzs b _ _ q)
            rw [e] at e1
            cases e1
            exact e2
        obtain ⟨more, eM⟩ := un.tbls T #[] eT
        have grown : s2.heap.get? T = some { cls := .none, data := .fields (#[] ++ more) } := ok2 T _ eM
        obtain ⟨more2, eM2⟩ := un.tbls T2 #[] eT2
        have grown2 : s2.heap.get? T2 = some { cls := .none, data := .fields (#[] ++ more2) } := ok2 T2 _ eM2
        refine ⟨rfl, ⟨fun b o e => ?_, fun b o e => ?_⟩, os, bare⟩
        · by_cases nb : b = T
          · subst nb
            rw [hT] at e
            cases e
            exact .inr (.inl ⟨(hc.tab hT).isCodeTable, rfl, #[], more, rfl, grown⟩)
          · by_cases nb2 : b = T2
            · subst nb2
              rw [hT2] at e
              cases e
              exact .inr (.inl ⟨(hc2.tab hT2).isCodeTable, rfl, #[], more2, rfl, grown2⟩)
            · exact .inl (others b o nb nb2 e)
        · by_cases nb : b = T
          · subst nb
            exact ⟨_, grown⟩
          · by_cases nb2 : b = T2
            · subst nb2
              exact ⟨_, grown2⟩
            · exact ⟨o, others b o nb nb2 e⟩
  cases hk : K.lookup a with
  | none =>
    refine key (fun b => if b = T then some (.tbl #[]) else if b = T2 then some (.tbl #[]) else if b = a then some (.frz { cls := .type "list", data := .seq vs.toArray } (.lst (ns.map V.int))) else none) (if_pos rfl) ((if_neg TT.symm).trans (if_pos rfl)) (fun b u e nb nb2 => ?_)
      (.inl (.inr ⟨_, (if_neg aT).trans ((if_neg aT2).trans (if_pos rfl))⟩))
    rw [if_neg nb, if_neg nb2] at e
    by_cases z : b = a
    · rw [if_pos z] at e
      cases e
      exact ⟨z, hk, rfl⟩
    · rw [if_neg z] at e
      cases e
  | some o =>
    have e := inK a o hk
    rw [ha] at e
    cases e
    refine key (fun b => if b = T then some (.tbl #[]) else if b = T2 then some (.tbl #[]) else none) (if_pos rfl) ((if_neg TT.symm).trans (if_pos rfl)) (fun b u e nb nb2 => by rw [if_neg nb, if_neg nb2] at e; cases e) (.inr ⟨_, vs.toArray, _, hk, rfl, rfl, rfl, ?_, by simpa using rv⟩)
    rw [List.size_toArray, lv]
    exact hl
end
/-- the law's call, the tables of two other defs' code objects told -/
theorem walk_ofGT2 {l : PySem.W.OpenLaw} {n k : Nat} {q : Program} {loose : List Str} {XP : (Str → Option Value) → Heap → Prop} {YP : World → Heap → Prop}
    {d : DefRec} {x xr xs : Str} (hn : l.most = some n) (hn2 : n ≤ sizeLine) (hdf : d.params.defaults = []) (hr : Room k callerA) (hrec : ((recsOf q).any fun e => e.name == xr) = true) (hrec2 : ((recsOf q).any fun e => e.name == xs) = true)
    (F : ∀ (w : World) (mg : Str → Option Value) (fa : Addr) (h : Heap), YP w h → h.Ns mainGlobals mg → mg d.name = some (.ref fa) →
      ∃ (K : PySem.W.Frag) (fd fdr fds : FuncData) (sp : Sp) (fr c T fs c2 T2 : Addr) (o o2 : Obj), K.In h ∧ (∀ (s : Shared) (u : Value), BindsTo s fd ⟨[u], []⟩ [(x, u)]) ∧
        (mg xr = some (.ref fr) ∧ K.lookup fr = some o ∧ o.data = .func fdr ∧ fdr.code = .ref c ∧ PySem.W.codeHdIn K c T = true ∧ K.lookup T = none) ∧
        (mg xs = some (.ref fs) ∧ K.lookup fs = some o2 ∧ o2.data = .func fds ∧ fds.code = .ref c2 ∧ PySem.W.codeHdIn K c2 T2 = true ∧ K.lookup T2 = none) ∧ T ≠ T2 ∧
        (∀ (H : Hp) (a : Addr) (ns : List Int), ns.length ≤ n → H T = some (.tbl #[]) → H T2 = some (.tbl #[]) → SqL K H a (ns.map V.int) → sp [.ref a] H (fun v _ => v = .bl true) fun _ _ _ => False) ∧
        ∀ base : Heap, K.In base → base.Ns mainGlobals mg → TabB base mg c T → TabB base mg c2 T2 → FnG l.prog w K mg base k fa fd [x] sp) :
    PySem.W.WalkO q loose XP YP l.row.toRowW d [] (fun f vs => PySem.call f vs) := by
  refine Att.attach_callB hn hdf fun w s0 s1 mg mb fa o pm cd doc a vs ns G Y h1 h2 h3 h4 h5 h6 h7 hbits h8 => ?_
  obtain ⟨K, fd, fdr, fds, sp, fr, c, T, fs, c2, T2, o1, o2, inK, bt, ⟨k0, k1, k2, k3, kc, kT⟩, ⟨m0, m1, m2, m3, mc, mT⟩, TT, hsp, hF⟩ := F w mg fa _ Y G.T.g h4
  have get : ∀ {xr : Str} {fr c T : Addr} {o1 : Obj} {fdr : FuncData}, ((recsOf q).any fun e => e.name == xr) = true → mg xr = some (.ref fr) → K.lookup fr = some o1 → o1.data = .func fdr → fdr.code = .ref c → PySem.W.CodeHd s1.heap c T → s1.heap.get? T = some { cls := .none, data := .fields #[] } := by
    intro xr fr c T o1 fdr hrec k0 k1 k2 k3 hc
    obtain ⟨dL, hm, e1⟩ := List.any_eq_true.mp hrec
    obtain ⟨a2, o2, fd2, c2, P2, g1, g2, g3, g4, g5, g6⟩ := G.T.tab dL hm
    rw [beq_iff_eq.mp e1, k0] at g1
    cases g1
    rw [inK _ _ k1] at g2
    cases g2
    rw [k2] at g3
    cases g3
    rw [k3] at g4
    cases g4
    obtain ⟨⟨oc, vc, e1, _, e3, e4⟩, hP⟩ := g6
    obtain ⟨oc', vs', file, tf, flags, tg, inF, text, tt, f1, f2, f3, f4, _⟩ := id hc
    rw [f1] at e1
    cases e1
    rw [f3] at e3
    cases e3
    rw [f4] at e4
    cases e4
    exact hP
  have hc := PySem.W.codeHd_of_K inK kc
  have hc2 := PySem.W.codeHd_of_K inK mc
  exact law_callT2 inK G.T.g G.T.b G.T.builtins G.T.nolimit h8 (get hrec k0 k1 k2 k3 hc) kT hc (get hrec2 m0 m1 m2 m3 hc2) mT hc2 TT G.T.bmain h5 h6 (Nat.le_trans h7 hn2) hr hF bt (fun H eT eT2 sq => hsp H a ns h7 eT eT2 sq)
theorem kit_bty {K : PySem.W.Frag} {t : Value} (h : PySem.W.subIn K t (.type "ValueError") = some true) : PySem.W.kitOne K t (.type "ValueError") = some true := by
  unfold PySem.W.kitOne
  split
  · rfl
  · unfold PySem.W.kitCls
    simp only
    rw [if_pos (by decide +kernel)]
    exact h
theorem walk_ofGTK2 {l : PySem.W.OpenLaw} {n k : Nat} {q : Program} {loose : List Str} {XP : (Str → Option Value) → Heap → Prop} {YP : World → Heap → Prop}
    {d : DefRec} {K : Params → PySem.W.Frag} {x xr xs : Str} (hn : l.most = some n) (hn2 : n ≤ sizeLine) (hdf : d.params.defaults = []) (hr : Room k callerA) (hrec : ((recsOf q).any fun e => e.name == xr) = true) (hrec2 : ((recsOf q).any fun e => e.name == xs) = true)
    (hY : ∀ (w : World) (h : Heap), YP w h → (K w.params).In h)
    (F : ∀ (w : World) (mg : Str → Option Value) (fa : Addr) (h : Heap), (K w.params).In h → h.Ns mainGlobals mg → mg d.name = some (.ref fa) →
      ∃ (fd fdr fds : FuncData) (sp : Sp) (fr c T fs c2 T2 : Addr) (o o2 : Obj), (∀ (s : Shared) (u : Value), BindsTo s fd ⟨[u], []⟩ [(x, u)]) ∧
        (mg xr = some (.ref fr) ∧ (K w.params).lookup fr = some o ∧ o.data = .func fdr ∧ fdr.code = .ref c ∧ PySem.W.codeHdIn (K w.params) c T = true ∧ (K w.params).lookup T = none) ∧
        (mg xs = some (.ref fs) ∧ (K w.params).lookup fs = some o2 ∧ o2.data = .func fds ∧ fds.code = .ref c2 ∧ PySem.W.codeHdIn (K w.params) c2 T2 = true ∧ (K w.params).lookup T2 = none) ∧ T ≠ T2 ∧
        (∀ (H : Hp) (a : Addr) (ns : List Int), ns.length ≤ n → H T = some (.tbl #[]) → H T2 = some (.tbl #[]) → SqL (K w.params) H a (ns.map V.int) → sp [.ref a] H (fun v _ => v = .bl true) fun _ _ _ => False) ∧
        ∀ base : Heap, (K w.params).In base → base.Ns mainGlobals mg → TabB base mg c T → TabB base mg c2 T2 → FnG l.prog w (K w.params) mg base k fa fd [x] sp) :
    PySem.W.WalkO q loose XP YP l.row.toRowW d [] (fun f vs => PySem.call f vs) :=
  walk_ofGT2 hn hn2 hdf hr hrec hrec2 fun w mg fa h Y ns hm => by
    obtain ⟨fd, fdr, fds, sp, fr, c, T, fs, c2, T2, o, o2, r⟩ := F w mg fa h (hY w h Y) ns hm
    exact ⟨K w.params, fd, fdr, fds, sp, fr, c, T, fs, c2, T2, o, o2, hY w h Y, r⟩
theorem kit_clsB {K : PySem.W.Frag} {t : Value} {C : Addr} {b : Bool} (h1 : PySem.W.isClsIn K C = true) (h2 : PySem.W.typeIn K (.ref C) = some (.type "type")) (h3 : PySem.W.subIn K t (.ref C) = some b) : PySem.W.kitCls K t (.ref C) = some b := by
  have h1 : (PySem.W.clsIn K C).isSome = true := h1
  unfold PySem.W.kitCls
  simp only [h1, h2, h3]
  cases b <;> decide
theorem kit_own {K : PySem.W.Frag} {t : Value} {C : Addr} (h1 : PySem.W.isClsIn K C = true) (h2 : PySem.W.typeIn K (.ref C) = some (.type "type")) (h3 : PySem.W.subIn K t (.ref C) = some true) : PySem.W.kitOne K t (.ref C) = some true := by
  unfold PySem.W.kitOne
  split
  · rfl
  · exact kit_clsB h1 h2 h3
theorem kit_not {K : PySem.W.Frag} {D C : Addr} (h1 : PySem.W.isClsIn K C = true) (h2 : PySem.W.typeIn K (.ref C) = some (.type "type")) (h3 : PySem.W.subIn K (.ref D) (.ref C) = some false) (h4 : PySem.W.subIn K (.ref C) (.ref C) = some true) : PySem.W.kitOne K (.ref D) (.ref C) = some false := by
  unfold PySem.W.kitOne
  split
  · rename_i z
    by_cases e : D = C
    · rw [e, h4] at h3
      cases h3
    · have n : ((Value.ref D) == (Value.ref C)) = false := by simp [e]
      rw [n] at z
      cases z
  · exact kit_clsB h1 h2 h3
theorem exm_own {K : PySem.W.Frag} {t : Value} {C : Addr} (h1 : PySem.W.isClsIn K C = true) (h2 : PySem.W.typeIn K (.ref C) = some (.type "type")) (h3 : PySem.W.subIn K t (.ref C) = some true) (h4 : PySem.W.subIn K (.ref C) (.type "BaseException") = some true) : PySem.W.exmOne K t (.ref C) = some true := by
  unfold PySem.W.exmOne
  rw [h4, if_pos (by decide)]
  exact kit_clsB h1 h2 h3
theorem sqT_K {K : PySem.W.Frag} {H : Hp} {a : Addr} {od : Option Addr} {us : List Value} {n : Nat} {sl : Array (Option Value)} {xs : List V} (h : K.lookup a = some ⟨.type "tuple", od, .seq us.toArray n, sl⟩) (hl : xs.length ≤ 1000) (r : Vals xs us) : SqT K H a xs := by
  have hl2 : us.length ≤ 1000 := by rw [← r.length]; exact hl
  exact .inr ⟨_, us.toArray, n, h, rfl, rfl, by rw [List.size_toArray]; exact Nat.le_trans hl2 (by decide), by simpa using r⟩
theorem kb_one {K : PySem.W.Frag} {x qual : Str} {st : Stmt} {f : Addr} {fd : FuncData} (F : Fun K x qual st f fd)
    (h : ∀ (kV doc pm : Value) (an : Option Addr) (cdv ct b : Value), bindArgs (PySem.W.fnOf x qual (defArgs st) (defBody st) (defScope st) .none kV doc pm an cdv ct) ⟨[], (["text"] : List Str).zip [b]⟩ = pure ((["text"] : List Str).zip [b])) : KBinds K fd ["text"] ["text"] g0 g0 := by
  obtain ⟨oc, od, kV, doc, pm, an, cdv, ct, osl, rfl, lk, hcd⟩ := F.ex
  refine ⟨fun s us ws _ hl => ?_, fun rv rz => ?_⟩
  · match us, ws, hl with
    | [], [b], _ => exact .of_eq (h _ _ _ _ _ _ _)
    | _ :: _, _, hl => cases hl
  · cases rv with
    | nil => exact rz
    | cons _ _ => exact .nil
set_option maxHeartbeats 4000000 in
theorem all_mk {l : PySem.W.OpenLaw} {w : World} {K : PySem.W.Frag} {h : Heap} {mg : Str → Option Value} {f0 f1 f2 f3 f4 f5 f6 f7 f8 f9 f10 f11 f12 f13 f14 f15 f16 f17 f18 f19 f20 f21 f22 cR1 f23 cL C T50 KD50 f50 f51 f52 pR f62 BT f61 FE TP DB D1 D2 D3 fa : Addr} {od0 an0 od1 an1 od2 an2 od3 an3 od4 an4 od5 an5 od6 an6 od7 an7 od8 an8 od9 an9 od10 an10 od11 an11 od12 an12 od13 an13 od14 an14 od15 an15 od16 an16 od17 an17 od18 an18 od19 an19 od20 an20 od21 an21 od22 an22 od23 an23 td50 od50 an50 od51 an51 od52 an52 od62 an62 od61 an61 odTP odD1 odD2 odD3 : Option Addr} {sl0 sl1 sl2 sl3 sl4 sl5 sl6 sl7 sl8 sl9 sl10 sl11 sl12 sl13 sl14 sl15 sl16 sl17 sl18 sl19 sl20 sl21 sl22 sl23 ts50 sl50 sl51 sl52 sl62 sl61 slTP slD1 slD2 slD3 : Array (Option Value)} {oc0 dc0 pm0 cd0 ct0 kV0 oc1 dc1 pm1 cd1 ct1 kV1 oc2 dc2 pm2 cd2 ct2 kV2 oc3 dc3 pm3 cd3 ct3 kV3 oc4 dc4 pm4 cd4 ct4 kV4 oc5 dc5 pm5 cd5 ct5 kV5 oc6 dc6 pm6 cd6 ct6 kV6 oc7 dc7 pm7 cd7 ct7 kV7 oc8 dc8 pm8 cd8 ct8 kV8 oc9 dc9 pm9 cd9 ct9 kV9 oc10 dc10 pm10 cd10 ct10 kV10 oc11 dc11 pm11 cd11 ct11 kV11 oc12 dc12 pm12 cd12 ct12 kV12 oc13 dc13 pm13 cd13 ct13 kV13 oc14 dc14 pm14 cd14 ct14 kV14 oc15 dc15 pm15 cd15 ct15 kV15 oc16 dc16 pm16 cd16 ct16 kV16 oc17 dc17 pm17 cd17 ct17 kV17 oc18 dc18 pm18 cd18 ct18 kV18 oc19 dc19 pm19 cd19 ct19 kV19 oc20 dc20 pm20 cd20 ct20 kV20 oc21 dc21 pm21 cd21 ct21 kV21 oc22 dc22 pm22 ct22 kV22 oc23 dc23 pm23 ct23 kV23 tc50 oc50 dc50 pm50 cd50 ct50 oc51 dc51 pm51 cd51 ct51 kV51 oc52 dc52 pm52 cd52 ct52 kV52 oc62 dc62 pm62 cd62 ct62 kV62 oc61 dc61 pm61 cd61 ct61 kV61 : Value} {restR : List Value} {tt500 tk500 tgT tgI tgL uTP0 uTP1 uTP2 uTP3 tkDB0 tkDB1 tkDB2 uD10 uD11 uD20 uD21 uD30 uD31 : Tok} {tn50 nTP nDB nD1 nD2 nD3 : Nat} {hDB0 hDB1 hDB2 : Int} {nmBT qBT nsBT bsBT bmBT snBT subBT abBT colBT ddBT k0BT k1BT k2BT k3BT k5BT : _} (X : K.In h) (G : h.Ns mainGlobals mg) (hfa : mg "law" = some (.ref fa))
    (a0 : PySem.W.nsIn K mainGlobals "is_integer" = some (some (.ref f0)))
    (l0 : K.lookup f0 = some ⟨oc0, od0, .func (PySem.W.fnOf "is_integer" "is_integer" (defArgs sIsInt) (defBody sIsInt) (defScope sIsInt) .none kV0 dc0 pm0 an0 cd0 ct0), sl0⟩)
    (c0 : PySem.W.codeIn K cd0 "is_integer" = true)
    (k0 : PySem.W.keepIn K (.ref f0) = true)
    (a1 : PySem.W.nsIn K mainGlobals "is_within" = some (some (.ref f1)))
    (l1 : K.lookup f1 = some ⟨oc1, od1, .func (PySem.W.fnOf "is_within" "is_within" (defArgs sWithin) (defBody sWithin) (defScope sWithin) .none kV1 dc1 pm1 an1 cd1 ct1), sl1⟩)
    (c1 : PySem.W.codeIn K cd1 "is_within" = true)
    (k1 : PySem.W.keepIn K (.ref f1) = true)
    (a2 : PySem.W.nsIn K mainGlobals "is_pair" = some (some (.ref f2)))
    (l2 : K.lookup f2 = some ⟨oc2, od2, .func (PySem.W.fnOf "is_pair" "is_pair" (defArgs sPair) (defBody sPair) (defScope sPair) .none kV2 dc2 pm2 an2 cd2 ct2), sl2⟩)
    (c2 : PySem.W.codeIn K cd2 "is_pair" = true)
    (k2 : PySem.W.keepIn K (.ref f2) = true)
    (a3 : PySem.W.nsIn K mainGlobals "can_be" = some (some (.ref f3)))
    (l3 : K.lookup f3 = some ⟨oc3, od3, .func (PySem.W.fnOf "can_be" "can_be" (defArgs sCanBe) (defBody sCanBe) (defScope sCanBe) .none kV3 dc3 pm3 an3 cd3 ct3), sl3⟩)
    (c3 : PySem.W.codeIn K cd3 "can_be" = true)
    (k3 : PySem.W.keepIn K (.ref f3) = true)
    (a4 : PySem.W.nsIn K mainGlobals "wrong_fill_word" = some (some (.ref f4)))
    (l4 : K.lookup f4 = some ⟨oc4, od4, .func (PySem.W.fnOf "wrong_fill_word" "wrong_fill_word" (defArgs sWrongFillWord) (defBody sWrongFillWord) (defScope sWrongFillWord) .none kV4 dc4 pm4 an4 cd4 ct4), sl4⟩)
    (c4 : PySem.W.codeIn K cd4 "wrong_fill_word" = true)
    (k4 : PySem.W.keepIn K (.ref f4) = true)
    (a5 : PySem.W.nsIn K mainGlobals "word_value" = some (some (.ref f5)))
    (l5 : K.lookup f5 = some ⟨oc5, od5, .func (PySem.W.fnOf "word_value" "word_value" (defArgs sWordV) (defBody sWordV) (defScope sWordV) .none kV5 dc5 pm5 an5 cd5 ct5), sl5⟩)
    (c5 : PySem.W.codeIn K cd5 "word_value" = true)
    (k5 : PySem.W.keepIn K (.ref f5) = true)
    (a6 : PySem.W.nsIn K mainGlobals "read_number" = some (some (.ref f6)))
    (l6 : K.lookup f6 = some ⟨oc6, od6, .func (PySem.W.fnOf "read_number" "read_number" (defArgs sReadN) (defBody sReadN) (defScope sReadN) .none kV6 dc6 pm6 an6 cd6 ct6), sl6⟩)
    (c6 : PySem.W.codeIn K cd6 "read_number" = true)
    (k6 : PySem.W.keepIn K (.ref f6) = true)
    (a7 : PySem.W.nsIn K mainGlobals "read_pair" = some (some (.ref f7)))
    (l7 : K.lookup f7 = some ⟨oc7, od7, .func (PySem.W.fnOf "read_pair" "read_pair" (defArgs sReadP) (defBody sReadP) (defScope sReadP) .none kV7 dc7 pm7 an7 cd7 ct7), sl7⟩)
    (c7 : PySem.W.codeIn K cd7 "read_pair" = true)
    (k7 : PySem.W.keepIn K (.ref f7) = true)
    (a8 : PySem.W.nsIn K mainGlobals "number_word" = some (some (.ref f8)))
    (l8 : K.lookup f8 = some ⟨oc8, od8, .func (PySem.W.fnOf "number_word" "number_word" (defArgs sNumW) (defBody sNumW) (defScope sNumW) .none kV8 dc8 pm8 an8 cd8 ct8), sl8⟩)
    (c8 : PySem.W.codeIn K cd8 "number_word" = true)
    (k8 : PySem.W.keepIn K (.ref f8) = true)
    (a9 : PySem.W.nsIn K mainGlobals "pair_word" = some (some (.ref f9)))
    (l9 : K.lookup f9 = some ⟨oc9, od9, .func (PySem.W.fnOf "pair_word" "pair_word" (defArgs sPairW) (defBody sPairW) (defScope sPairW) .none kV9 dc9 pm9 an9 cd9 ct9), sl9⟩)
    (c9 : PySem.W.codeIn K cd9 "pair_word" = true)
    (k9 : PySem.W.keepIn K (.ref f9) = true)
    (a10 : PySem.W.nsIn K mainGlobals "kept" = some (some (.ref f10)))
    (l10 : K.lookup f10 = some ⟨oc10, od10, .func (PySem.W.fnOf "kept" "kept" (defArgs sKept) (defBody sKept) (defScope sKept) .none kV10 dc10 pm10 an10 cd10 ct10), sl10⟩)
    (c10 : PySem.W.codeIn K cd10 "kept" = true)
    (k10 : PySem.W.keepIn K (.ref f10) = true)
    (a11 : PySem.W.nsIn K mainGlobals "parts_of" = some (some (.ref f11)))
    (l11 : K.lookup f11 = some ⟨oc11, od11, .func (PySem.W.fnOf "parts_of" "parts_of" (defArgs sParts) (defBody sParts) (defScope sParts) .none kV11 dc11 pm11 an11 cd11 ct11), sl11⟩)
    (c11 : PySem.W.codeIn K cd11 "parts_of" = true)
    (k11 : PySem.W.keepIn K (.ref f11) = true)
    (a12 : PySem.W.nsIn K mainGlobals "_law_pen" = some (some (.ref f12)))
    (l12 : K.lookup f12 = some ⟨oc12, od12, .func (PySem.W.fnOf "_law_pen" "_law_pen" (defArgs sPen) (defBody sPen) (defScope sPen) .none kV12 dc12 pm12 an12 cd12 ct12), sl12⟩)
    (c12 : PySem.W.codeIn K cd12 "_law_pen" = true)
    (k12 : PySem.W.keepIn K (.ref f12) = true)
    (a13 : PySem.W.nsIn K mainGlobals "_law_draw" = some (some (.ref f13)))
    (l13 : K.lookup f13 = some ⟨oc13, od13, .func (PySem.W.fnOf "_law_draw" "_law_draw" (defArgs sDraw) (defBody sDraw) (defScope sDraw) .none kV13 dc13 pm13 an13 cd13 ct13), sl13⟩)
    (c13 : PySem.W.codeIn K cd13 "_law_draw" = true)
    (k13 : PySem.W.keepIn K (.ref f13) = true)
    (a14 : PySem.W.nsIn K mainGlobals "_law_pick" = some (some (.ref f14)))
    (l14 : K.lookup f14 = some ⟨oc14, od14, .func (PySem.W.fnOf "_law_pick" "_law_pick" (defArgs sPick) (defBody sPick) (defScope sPick) .none kV14 dc14 pm14 an14 cd14 ct14), sl14⟩)
    (c14 : PySem.W.codeIn K cd14 "_law_pick" = true)
    (k14 : PySem.W.keepIn K (.ref f14) = true)
    (a15 : PySem.W.nsIn K mainGlobals "_law_numbers" = some (some (.ref f15)))
    (l15 : K.lookup f15 = some ⟨oc15, od15, .func (PySem.W.fnOf "_law_numbers" "_law_numbers" (defArgs sLNumbers) (defBody sLNumbers) (defScope sLNumbers) .none kV15 dc15 pm15 an15 cd15 ct15), sl15⟩)
    (c15 : PySem.W.codeIn K cd15 "_law_numbers" = true)
    (k15 : PySem.W.keepIn K (.ref f15) = true)
    (a16 : PySem.W.nsIn K mainGlobals "_law_rule" = some (some (.ref f16)))
    (l16 : K.lookup f16 = some ⟨oc16, od16, .func (PySem.W.fnOf "_law_rule" "_law_rule" (defArgs sLRule) (defBody sLRule) (defScope sLRule) .none kV16 dc16 pm16 an16 cd16 ct16), sl16⟩)
    (c16 : PySem.W.codeIn K cd16 "_law_rule" = true)
    (k16 : PySem.W.keepIn K (.ref f16) = true)
    (a17 : PySem.W.nsIn K mainGlobals "_law_heard" = some (some (.ref f17)))
    (l17 : K.lookup f17 = some ⟨oc17, od17, .func (PySem.W.fnOf "_law_heard" "_law_heard" (defArgs sHeard) (defBody sHeard) (defScope sHeard) .none kV17 dc17 pm17 an17 cd17 ct17), sl17⟩)
    (c17 : PySem.W.codeIn K cd17 "_law_heard" = true)
    (k17 : PySem.W.keepIn K (.ref f17) = true)
    (a18 : PySem.W.nsIn K mainGlobals "_law_text" = some (some (.ref f18)))
    (l18 : K.lookup f18 = some ⟨oc18, od18, .func (PySem.W.fnOf "_law_text" "_law_text" (defArgs sLText) (defBody sLText) (defScope sLText) .none kV18 dc18 pm18 an18 cd18 ct18), sl18⟩)
    (c18 : PySem.W.codeIn K cd18 "_law_text" = true)
    (k18 : PySem.W.keepIn K (.ref f18) = true)
    (a19 : PySem.W.nsIn K mainGlobals "_law_number" = some (some (.ref f19)))
    (l19 : K.lookup f19 = some ⟨oc19, od19, .func (PySem.W.fnOf "_law_number" "_law_number" (defArgs sLNumber) (defBody sLNumber) (defScope sLNumber) .none kV19 dc19 pm19 an19 cd19 ct19), sl19⟩)
    (c19 : PySem.W.codeIn K cd19 "_law_number" = true)
    (k19 : PySem.W.keepIn K (.ref f19) = true)
    (a20 : PySem.W.nsIn K mainGlobals "_law_first_wrong" = some (some (.ref f20)))
    (l20 : K.lookup f20 = some ⟨oc20, od20, .func (PySem.W.fnOf "_law_first_wrong" "_law_first_wrong" (defArgs sLFirstWrong) (defBody sLFirstWrong) (defScope sLFirstWrong) .none kV20 dc20 pm20 an20 cd20 ct20), sl20⟩)
    (c20 : PySem.W.codeIn K cd20 "_law_first_wrong" = true)
    (k20 : PySem.W.keepIn K (.ref f20) = true)
    (a21 : PySem.W.nsIn K mainGlobals "_law_bent" = some (some (.ref f21)))
    (l21 : K.lookup f21 = some ⟨oc21, od21, .func (PySem.W.fnOf "_law_bent" "_law_bent" (defArgs sLBent) (defBody sLBent) (defScope sLBent) .none kV21 dc21 pm21 an21 cd21 ct21), sl21⟩)
    (c21 : PySem.W.codeIn K cd21 "_law_bent" = true)
    (k21 : PySem.W.keepIn K (.ref f21) = true)
    (a22 : PySem.W.nsIn K mainGlobals "_law_read_right" = some (some (.ref f22)))
    (l22 : K.lookup f22 = some ⟨oc22, od22, .func (PySem.W.fnOf "_law_read_right" "_law_read_right" (defArgs sRight) (defBody sRight) (defScope sRight) .none kV22 dc22 pm22 an22 (.ref cR1) ct22), sl22⟩)
    (c22 : PySem.W.codeIn K (.ref cR1) "_law_read_right" = true)
    (k22 : PySem.W.keepIn K (.ref f22) = true)
    (a23 : PySem.W.nsIn K mainGlobals "law" = some (some (.ref f23)))
    (l23 : K.lookup f23 = some ⟨oc23, od23, .func (PySem.W.fnOf "law" "law" (defArgs sLaw70) (defBody sLaw70) (defScope sLaw70) .none kV23 dc23 pm23 an23 (.ref cL) ct23), sl23⟩)
    (c23 : PySem.W.codeIn K (.ref cL) "law" = true)
    (k23 : PySem.W.keepIn K (.ref f23) = true)
    (aC : PySem.W.nsIn K mainGlobals "FillRule" = some (some (.ref C)))
    (pgC : PySem.W.plainGet K C Str.empty = true)
    (hdC : PySem.W.hasDictIn K C = true)
    (poC : PySem.W.plainOver K C = true)
    (saC : PySem.W.findIn K (.ref C) "__setattr__" = some (some (.builtin "object.__setattr__")))
    (mkC : PySem.W.makesIn K C = true)
    (kcC : PySem.W.keepIn K (.ref C) = true)
    (n0C : PySem.W.findIn K (.ref C) "times" = some none)
    (n1C : PySem.W.findIn K (.ref C) "plus" = some none)
    (n2C : PySem.W.findIn K (.ref C) "cut_of" = some none)
    (n3C : PySem.W.findIn K (.ref C) "join_of" = some none)
    (n4C : PySem.W.findIn K (.ref C) "width" = some none)
    (hcC : PySem.W.findIn K (.ref C) "__class__" = some (some (.builtin "object.__class__")))
    (moC : PySem.W.mroIn K C (.type "object") = some true)
    (icC : PySem.W.isClsIn K C = true)
    (ttC : PySem.W.typeIn K (.ref C) = some (.type "type"))
    (neC : PySem.W.findIn K (.ref C) "__ne__" = some (some (.builtin "object.__ne__")))
    (nsC : PySem.W.kitOne K (.ref C) (.type "str") = some false)
    (ikn : PySem.W.specialIn K (.builtin "object.__class__") "__get__" = some (some (.builtin "getset_descriptor.__get__")))
    (ikt : PySem.W.takesIn K (.builtin "object.__class__") = some true)
    (m50 : PySem.W.findIn K (.ref C) "__init__" = some (some (.ref f50)))
    (i50 : PySem.W.isFn K (.ref f50) = true)
    (l50 : K.lookup f50 = some ⟨oc50, od50, .func (PySem.W.fnOf "__init__" "FillRule.__init__" (defArgs sFillRule_init) (defBody sFillRule_init) (defScope sFillRule_init) (.ref T50) (.ref KD50) dc50 pm50 an50 cd50 ct50), sl50⟩)
    (c50 : PySem.W.codeIn K cd50 "FillRule.__init__" = true)
    (k50 : PySem.W.keepIn K (.ref f50) = true)
    (t50 : K.lookup T50 = some ⟨tc50, td50, .seq #[Value.int 0 tt500] tn50, ts50⟩)
    (kd500 : PySem.W.nsIn K KD50 "cut_of" = some (some (.int 1 tk500)))
    (m51 : PySem.W.findIn K (.ref C) "__eq__" = some (some (.ref f51)))
    (i51 : PySem.W.isFn K (.ref f51) = true)
    (l51 : K.lookup f51 = some ⟨oc51, od51, .func (PySem.W.fnOf "__eq__" "FillRule.__eq__" (defArgs sFillRule_eq) (defBody sFillRule_eq) (defScope sFillRule_eq) .none kV51 dc51 pm51 an51 cd51 ct51), sl51⟩)
    (c51 : PySem.W.codeIn K cd51 "FillRule.__eq__" = true)
    (k51 : PySem.W.keepIn K (.ref f51) = true)
    (m52 : PySem.W.findIn K (.ref C) "__str__" = some (some (.ref f52)))
    (i52 : PySem.W.isFn K (.ref f52) = true)
    (l52 : K.lookup f52 = some ⟨oc52, od52, .func (PySem.W.fnOf "__str__" "FillRule.__str__" (defArgs sFillRule_str) (defBody sFillRule_str) (defScope sFillRule_str) .none kV52 dc52 pm52 an52 cd52 ct52), sl52⟩)
    (c52 : PySem.W.codeIn K cd52 "FillRule.__str__" = true)
    (k52 : PySem.W.keepIn K (.ref f52) = true)
    (rdC : PySem.W.readsIn K C (.type "type") = true)
    (gtC : PySem.W.specialIn K (.ref C) "__getattribute__" = some (some (.builtin "type.__getattribute__")))
    (fcC : PySem.W.findCls K (.ref C) (.type "type") "read" = some (.get (.builtin "staticmethod.__get__") (.ref pR) .none (.ref C)))
    (rcR : PySem.W.recIn K pR "staticmethod" = some (.ref f62 :: restR))
    (l62 : K.lookup f62 = some ⟨oc62, od62, .func (PySem.W.fnOf "read" "FillRule.read" (defArgs sFillRule_read) (defBody sFillRule_read) (defScope sFillRule_read) .none kV62 dc62 pm62 an62 cd62 ct62), sl62⟩)
    (c62 : PySem.W.codeIn K cd62 "FillRule.read" = true)
    (k62 : PySem.W.keepIn K (.ref f62) = true)
    (aBT : PySem.W.nsIn K mainGlobals "BadText" = some (some (.ref BT)))
    (icBT : PySem.W.isClsIn K BT = true)
    (ttBT : PySem.W.typeIn K (.ref BT) = some (.type "type"))
    (gaBT : PySem.W.findIn K (.ref BT) "__getattribute__" = some (some (.builtin "BaseException.__getattribute__")))
    (ggBT : PySem.W.findIn K (.ref BT) "__getattr__" = some none)
    (hdBT : PySem.W.hasDictIn K BT = true)
    (hcBT : PySem.W.findIn K (.ref BT) "__class__" = some (some (.builtin "object.__class__")))
    (moBT : PySem.W.mroIn K BT (.type "object") = some true)
    (saBT : PySem.W.findIn K (.ref BT) "__setattr__" = some (some (.builtin "object.__setattr__")))
    (exBT : PySem.W.subIn K (.ref BT) (.type "BaseException") = some true)
    (keBT : PySem.W.keepIn K (.ref BT) = true)
    (vEBT : PySem.W.subIn K (.ref BT) (.type "ValueError") = some true)
    (sSBT : PySem.W.subIn K (.ref BT) (.ref BT) = some true)
    (no0BT : PySem.W.findIn K (.ref BT) "line" = some none)
    (no1BT : PySem.W.findIn K (.ref BT) "word" = some none)
    (lxBT : K.lookup BT = some (excClassObj nmBT qBT BT nsBT bsBT bmBT true snBT subBT abBT colBT ddBT k0BT k1BT k2BT k3BT k5BT "ValueError.__new__"))
    (rxBT : PySem.HandSPX.refsVE bmBT = true)
    (m61 : PySem.W.findIn K (.ref BT) "__init__" = some (some (.ref f61)))
    (l61 : K.lookup f61 = some ⟨oc61, od61, .func (PySem.W.fnOf "__init__" "BadText.__init__" (defArgs sBText) (defBody sBText) (defScope sBText) .none kV61 dc61 pm61 an61 cd61 ct61), sl61⟩)
    (c61 : PySem.W.codeIn K cd61 "BadText.__init__" = true)
    (k61 : PySem.W.keepIn K (.ref f61) = true)
    (ty61 : PySem.W.typeIn K (.ref f61) = some (.type "function"))
    (aFE : PySem.W.nsIn K mainGlobals "FairError" = some (some (.ref FE)))
    (icFE : PySem.W.isClsIn K FE = true)
    (ttFE : PySem.W.typeIn K (.ref FE) = some (.type "type"))
    (suBF : PySem.W.subIn K (.ref BT) (.ref FE) = some true)
    (suFX : PySem.W.subIn K (.ref FE) (.type "BaseException") = some true)
    (hgT : PySem.W.nsIn K mainGlobals "MOST_TIMES" = some (some (.int 12 tgT)))
    (hgI : PySem.W.nsIn K mainGlobals "PIECE" = some (some (.int 10000000000000000000000000000000000000000000000000000000000000000 tgI)))
    (hgL : PySem.W.nsIn K mainGlobals "PIECE_LENGTH" = some (some (.int 64 tgL)))
    (aTP : PySem.W.nsIn K mainGlobals "PARTS" = some (some (.ref TP)))
    (lTP : K.lookup TP = some ⟨.type "tuple", odTP, .seq #[.str "times" uTP0, .str "plus" uTP1, .str "cut_of" uTP2, .str "join_of" uTP3] nTP, slTP⟩)
    (aDB : PySem.W.nsIn K mainGlobals "BOUNDS" = some (some (.ref DB)))
    (lDB : K.lookup DB = some ⟨.type "dict", none, .dict #[⟨hDB0, .str "plus" tkDB0, .ref D1⟩, ⟨hDB1, .str "cut_of" tkDB1, .ref D2⟩, ⟨hDB2, .str "join_of" tkDB2, .ref D3⟩] nDB, #[]⟩)
    (hkDB0 : hDB0 = PyData.keyHash w.params "plus")
    (nsDB0 : PySem.W.nsIn K DB "plus" = some (some (.ref D1)))
    (hkDB1 : hDB1 = PyData.keyHash w.params "cut_of")
    (nsDB1 : PySem.W.nsIn K DB "cut_of" = some (some (.ref D2)))
    (hkDB2 : hDB2 = PyData.keyHash w.params "join_of")
    (nsDB2 : PySem.W.nsIn K DB "join_of" = some (some (.ref D3)))
    (lowDB : (DB == sysModules) = false)
    (lD1 : K.lookup D1 = some ⟨.type "tuple", odD1, .seq #[.int (-12) uD10, .int 12 uD11] nD1, slD1⟩)
    (lD2 : K.lookup D2 = some ⟨.type "tuple", odD2, .seq #[.int 1 uD20, .int 5 uD21] nD2, slD2⟩)
    (lD3 : K.lookup D3 = some ⟨.type "tuple", odD3, .seq #[.int 2 uD30, .int 6 uD31] nD3, slD3⟩)
    (hdcR1 : PySem.W.codeHdIn K cR1 (tabAt K cR1) = true)
    (nocR1 : K.lookup (tabAt K cR1) = none)
    (hdcL : PySem.W.codeHdIn K cL (tabAt K cL) = true)
    (nocL : K.lookup (tabAt K cL) = none)
    (neqT : (tabAt K cR1 == tabAt K cL) = false)
    (zint : PySem.W.nsIn K mainGlobals "int" = some none)
    (zlen : PySem.W.nsIn K mainGlobals "len" = some none)
    (zabs : PySem.W.nsIn K mainGlobals "abs" = some none)
    (zlist : PySem.W.nsIn K mainGlobals "list" = some none)
    (zmin : PySem.W.nsIn K mainGlobals "min" = some none)
    (zmax : PySem.W.nsIn K mainGlobals "max" = some none)
    (zisinstance : PySem.W.nsIn K mainGlobals "isinstance" = some none)
    (zbool : PySem.W.nsIn K mainGlobals "bool" = some none)
    (ztuple : PySem.W.nsIn K mainGlobals "tuple" = some none)
    (zall : PySem.W.nsIn K mainGlobals "all" = some none)
    (zrange : PySem.W.nsIn K mainGlobals "range" = some none)
    (zrepr : PySem.W.nsIn K mainGlobals "repr" = some none)
    (zany : PySem.W.nsIn K mainGlobals "any" = some none)
    (zdict : PySem.W.nsIn K mainGlobals "dict" = some none)
    (zstr : PySem.W.nsIn K mainGlobals "str" = some none)
    (zenumerate : PySem.W.nsIn K mainGlobals "enumerate" = some none)
    (zzip : PySem.W.nsIn K mainGlobals "zip" = some none) :
    ∃ (fd fdr fds : FuncData) (sp : Sp) (fr c T fs c2 T2 : Addr) (o o2 : Obj), (∀ (s : Shared) (u : Value), BindsTo s fd ⟨[u], []⟩ [("_law_script", u)]) ∧
      (mg "_law_read_right" = some (.ref fr) ∧ K.lookup fr = some o ∧ o.data = .func fdr ∧ fdr.code = .ref c ∧ PySem.W.codeHdIn K c T = true ∧ K.lookup T = none) ∧
      (mg "law" = some (.ref fs) ∧ K.lookup fs = some o2 ∧ o2.data = .func fds ∧ fds.code = .ref c2 ∧ PySem.W.codeHdIn K c2 T2 = true ∧ K.lookup T2 = none) ∧ T ≠ T2 ∧
      (∀ (H : Hp) (a : Addr) (ns : List Int), ns.length ≤ 63 → H T = some (.tbl #[]) → H T2 = some (.tbl #[]) → SqL K H a (ns.map V.int) → sp [.ref a] H (fun v _ => v = .bl true) fun _ _ _ => False) ∧
      ∀ base : Heap, K.In base → base.Ns mainGlobals mg → TabB base mg c T → TabB base mg c2 T2 → FnG l.prog w K mg base 12 fa fd ["_law_script"] sp := by
  have e := hfa.symm.trans (PySem.W.mg_of X G a23)
  cases e
  have F0 := fun_mk (st := sIsInt) l0 c0 k0
  have b0 := F0.binds (ps := ["value"]) fun _ _ _ _ _ _ us hl => match us, hl with | [_], _ => rfl
  have F1 := fun_mk (st := sWithin) l1 c1 k1
  have b1 := F1.binds (ps := ["value", "least", "most"]) fun _ _ _ _ _ _ us hl => match us, hl with | [_, _, _], _ => rfl
  have F2 := fun_mk (st := sPair) l2 c2 k2
  have b2 := F2.binds (ps := ["value", "most"]) fun _ _ _ _ _ _ us hl => match us, hl with | [_, _], _ => rfl
  have F3 := fun_mk (st := sCanBe) l3 c3 k3
  have b3 := F3.binds (ps := ["part", "value"]) fun _ _ _ _ _ _ us hl => match us, hl with | [_, _], _ => rfl
  have F4 := fun_mk (st := sWrongFillWord) l4 c4 k4
  have b4 := F4.binds (ps := ["words"]) fun _ _ _ _ _ _ us hl => match us, hl with | [_], _ => rfl
  have F5 := fun_mk (st := sWordV) l5 c5 k5
  have b5 := F5.binds (ps := ["word"]) fun _ _ _ _ _ _ us hl => match us, hl with | [_], _ => rfl
  have F6 := fun_mk (st := sReadN) l6 c6 k6
  have b6 := F6.binds (ps := ["word"]) fun _ _ _ _ _ _ us hl => match us, hl with | [_], _ => rfl
  have F7 := fun_mk (st := sReadP) l7 c7 k7
  have b7 := F7.binds (ps := ["word"]) fun _ _ _ _ _ _ us hl => match us, hl with | [_], _ => rfl
  have F8 := fun_mk (st := sNumW) l8 c8 k8
  have b8 := F8.binds (ps := ["number"]) fun _ _ _ _ _ _ us hl => match us, hl with | [_], _ => rfl
  have F9 := fun_mk (st := sPairW) l9 c9 k9
  have b9 := F9.binds (ps := ["pair"]) fun _ _ _ _ _ _ us hl => match us, hl with | [_], _ => rfl
  have F10 := fun_mk (st := sKept) l10 c10 k10
  have b10 := F10.binds (ps := ["value"]) fun _ _ _ _ _ _ us hl => match us, hl with | [_], _ => rfl
  have F11 := fun_mk (st := sParts) l11 c11 k11
  have b11 := F11.binds (ps := ["value"]) fun _ _ _ _ _ _ us hl => match us, hl with | [_], _ => rfl
  have F12 := fun_mk (st := sPen) l12 c12 k12
  have b12 := F12.binds (ps := ["_law_script"]) fun _ _ _ _ _ _ us hl => match us, hl with | [_], _ => rfl
  have F13 := fun_mk (st := sDraw) l13 c13 k13
  have b13 := F13.binds (ps := ["_law_pen_here", "_law_many"]) fun _ _ _ _ _ _ us hl => match us, hl with | [_, _], _ => rfl
  have F14 := fun_mk (st := sPick) l14 c14 k14
  have b14 := F14.binds (ps := ["_law_pen_here", "_law_some"]) fun _ _ _ _ _ _ us hl => match us, hl with | [_, _], _ => rfl
  have F15 := fun_mk (st := sLNumbers) l15 c15 k15
  have b15 := F15.binds (ps := ["_law_pen_here"]) fun _ _ _ _ _ _ us hl => match us, hl with | [_], _ => rfl
  have F16 := fun_mk (st := sLRule) l16 c16 k16
  have b16 := F16.binds (ps := ["_law_told"]) fun _ _ _ _ _ _ us hl => match us, hl with | [_], _ => rfl
  have F17 := fun_mk (st := sHeard) l17 c17 k17
  have b17 := F17.binds (ps := ["_law_ask"]) fun _ _ _ _ _ _ us hl => match us, hl with | [_], _ => rfl
  have F18 := fun_mk (st := sLText) l18 c18 k18
  have b18 := F18.binds (ps := ["_law_told"]) fun _ _ _ _ _ _ us hl => match us, hl with | [_], _ => rfl
  have F19 := fun_mk (st := sLNumber) l19 c19 k19
  have b19 := F19.binds (ps := ["_law_word", "_law_low", "_law_top"]) fun _ _ _ _ _ _ us hl => match us, hl with | [_, _, _], _ => rfl
  have F20 := fun_mk (st := sLFirstWrong) l20 c20 k20
  have b20 := F20.binds (ps := ["_law_line"]) fun _ _ _ _ _ _ us hl => match us, hl with | [_], _ => rfl
  have F21 := fun_mk (st := sLBent) l21 c21 k21
  have b21 := F21.binds (ps := ["_law_pen_here", "_law_words"]) fun _ _ _ _ _ _ us hl => match us, hl with | [_, _], _ => rfl
  have F22 := fun_mk (st := sRight) l22 c22 k22
  have b22 := F22.binds (ps := ["_law_line"]) fun _ _ _ _ _ _ us hl => match us, hl with | [_], _ => rfl
  have F23 := fun_mk (st := sLaw70) l23 c23 k23
  have b23 := F23.binds (ps := ["_law_script"]) fun _ _ _ _ _ _ us hl => match us, hl with | [_], _ => rfl
  have F51 := fun_mk (st := sFillRule_eq) l51 c51 k51
  have b51 := F51.binds (ps := ["self", "other"]) fun _ _ _ _ _ _ us hl => match us, hl with | [_, _], _ => rfl
  have F52 := fun_mk (st := sFillRule_str) l52 c52 k52
  have b52 := F52.binds (ps := ["self"]) fun _ _ _ _ _ _ us hl => match us, hl with | [_], _ => rfl
  have F62 := fun_mk (st := sFillRule_read) l62 c62 k62
  have b62 := F62.binds (ps := ["text"]) fun _ _ _ _ _ _ us hl => match us, hl with | [_], _ => rfl
  have F61 := fun_mk (st := sBText) l61 c61 k61
  have b61 := F61.binds (ps := ["self", "line", "word"]) fun _ _ _ _ _ _ us hl => match us, hl with | [_, _, _], _ => rfl
  have T : Blt mg := ⟨PySem.W.mg_none_of X G zint, PySem.W.mg_none_of X G zlen, PySem.W.mg_none_of X G zabs, PySem.W.mg_none_of X G zlist, PySem.W.mg_none_of X G zmin, PySem.W.mg_none_of X G zmax, PySem.W.mg_none_of X G zisinstance, PySem.W.mg_none_of X G zbool, PySem.W.mg_none_of X G ztuple, PySem.W.mg_none_of X G zall, PySem.W.mg_none_of X G zrange, PySem.W.mg_none_of X G zrepr⟩
  have TTn : tabAt K cR1 ≠ tabAt K cL := fun e => by rw [e] at neqT; simp at neqT
  refine ⟨PySem.W.fnOf "law" "law" (defArgs sLaw70) (defBody sLaw70) (defScope sLaw70) .none kV23 dc23 pm23 an23 (.ref cL) ct23, PySem.W.fnOf "_law_read_right" "_law_read_right" (defArgs sRight) (defBody sRight) (defScope sRight) .none kV22 dc22 pm22 an22 (.ref cR1) ct22, PySem.W.fnOf "law" "law" (defArgs sLaw70) (defBody sLaw70) (defScope sLaw70) .none kV23 dc23 pm23 an23 (.ref cL) ct23, spLaw K (tabAt K cR1) (tabAt K cL), f22, cR1, tabAt K cR1, f23, cL, tabAt K cL, _, _, fun s v => .of_eq rfl, ⟨PySem.W.mg_of X G a22, l22, rfl, rfl, hdcR1, nocR1⟩, ⟨PySem.W.mg_of X G a23, l23, rfl, rfl, hdcL, nocL⟩, TTn, fun H a ns hl hT hT2 hS => ⟨a, ns, rfl, hS, hl, hT, hT2, fun _ => rfl⟩, fun base _ _ TB TB2 => ?_⟩
  have FC : FCls K C := ⟨⟨pgC, hdC, poC, saC⟩, n0C, n1C, n2C, n3C, n4C⟩
  have IT : InsT K C := ⟨hcC, ikn, ikt, moC, icC, ttC⟩
  have R2 : FTwo K C := ⟨FC, IT⟩
  have TBF : TabF K w mg TP DB D1 D2 D3 := ⟨PySem.W.mg_of X G aTP, fun _ => sqT_K lTP (by decide) (.cons ⟨_, rfl⟩ ( .cons ⟨_, rfl⟩ ( .cons ⟨_, rfl⟩ (.cons ⟨_, rfl⟩ .nil)))), PySem.W.mg_of X G aDB, ⟨_, _, ⟨lDB, ⟨⟨_, _, rfl, hkDB0⟩, ⟨_, _, rfl, hkDB1⟩, ⟨_, _, rfl, hkDB2⟩, trivial⟩, lowDB⟩⟩, nsDB0, nsDB1, nsDB2, fun _ => sqT_K lD1 (by decide) (.cons ⟨_, rfl⟩ (.cons ⟨_, rfl⟩ .nil)), fun _ => sqT_K lD2 (by decide) (.cons ⟨_, rfl⟩ (.cons ⟨_, rfl⟩ .nil)), fun _ => sqT_K lD3 (by decide) (.cons ⟨_, rfl⟩ (.cons ⟨_, rfl⟩ .nil))⟩
  have D50 : FunD K "__init__" "FillRule.__init__" (defArgs sFillRule_init) (defBody sFillRule_init) (defScope sFillRule_init) [.int 0] [("cut_of", .int 1)] f50 _ := ⟨⟨_, _, _, _, _, _, _, _, _, _, rfl, l50, c50, .inr ⟨by simp, T50, _, [Value.int 0 tt500], tn50, rfl, t50, rfl, .cons ⟨_, rfl⟩ .nil⟩, .inr ⟨KD50, rfl, fun z hz => by rw [List.mem_singleton.mp hz]; exact ⟨_, kd500, ⟨_, rfl⟩⟩⟩⟩, k50⟩
  obtain ⟨its50, b50⟩ := FunD.kbindsD (ps := ["self", "times", "plus", "cut_of", "join_of"]) D50 3 ["cut_of", "join_of"] (fun us _ ws => us ++ ws) (by simp) (fun r1 _ r2 => r1.append r2)
    (fun _ _ _ _ _ _ _ us its ws h1 h2 h3 => match us, its, ws, h1, h2, h3 with | [_, _, _], [_], [_, _], _, _, _ => ⟨_, rfl, rfl⟩)
  obtain ⟨its50b, mv50b, b50b⟩ := FunD.kbinds (ps := ["self", "times", "plus", "cut_of", "join_of"]) D50 2 ["join_of"] [("cut_of", .int 1)] (fun us its mv ws => us ++ (its ++ (mv ++ ws))) (by simp) (by simp) (fun _ h => h) (fun r1 r2 r3 r4 => r1.append (r2.append (r3.append r4)))
    (fun _ _ _ _ _ _ _ us its mv ws h1 h2 h3 h4 => match us, its, mv, ws, h1, h2, h3, h4 with | [_, _], [_], [_], [_], _, _, _, _ => ⟨_, rfl, ⟨_, _, _, _, _, _, rfl, rfl, rfl⟩⟩)
  have d0 : Df l.prog w K mg base 1 "is_integer" ["value"] _ := ⟨f0, _, ok_isInt F0 T, PySem.W.mg_of X G a0, F0.kp, b0⟩
  have d1 : Df l.prog w K mg base 2 "is_within" ["value", "least", "most"] _ := ⟨f1, _, ok_within F1 d0, PySem.W.mg_of X G a1, F1.kp, b1⟩
  have d2 : Df l.prog w K mg base 3 "is_pair" ["value", "most"] _ := ⟨f2, _, ok_pair F2 T d1, PySem.W.mg_of X G a2, F2.kp, b2⟩
  have d3 : Df l.prog w K mg base 4 "can_be" ["part", "value"] _ := ⟨f3, _, ok_canBe F3 TBF (PySem.W.mg_of X G hgT) d2 d1, PySem.W.mg_of X G a3, F3.kp, b3⟩
  have d11 : Df l.prog w K mg base 1 "parts_of" ["value"] _ := ⟨f11, _, ok_parts F11 T (PySem.W.mg_none_of X G zdict), PySem.W.mg_of X G a11, F11.kp, b11⟩
  have d10 : Df l.prog w K mg base 2 "kept" ["value"] _ := ⟨f10, _, ok_kept F10 T (PySem.W.mg_none_of X G zdict) (PySem.W.mg_none_of X G zany) d11, PySem.W.mg_of X G a10, F10.kp, b10⟩
  have d8 : Df l.prog w K mg base 1 "number_word" ["number"] _ := ⟨f8, _, ok_numW F8 (PySem.W.mg_none_of X G zstr) (PySem.W.mg_of X G hgI), PySem.W.mg_of X G a8, F8.kp, b8⟩
  have d9 : Df l.prog w K mg base 2 "pair_word" ["pair"] _ := ⟨f9, _, ok_pairW F9 d8, PySem.W.mg_of X G a9, F9.kp, b9⟩
  have d6 : Df l.prog w K mg base 1 "read_number" ["word"] _ := ⟨f6, _, ok_readN F6 T (PySem.W.mg_of X G hgL) (PySem.W.mg_of X G hgI), PySem.W.mg_of X G a6, F6.kp, b6⟩
  have d7 : Df l.prog w K mg base 2 "read_pair" ["word"] _ := ⟨f7, _, ok_readP F7 T d6, PySem.W.mg_of X G a7, F7.kp, b7⟩
  have d5 : Df l.prog w K mg base 3 "word_value" ["word"] _ := ⟨f5, _, ok_wordV F5 d6 d7, PySem.W.mg_of X G a5, F5.kp, b5⟩
  have d4 : Df l.prog w K mg base 5 "wrong_fill_word" ["words"] _ := ⟨f4, _, ok_wrong F4 T (PySem.W.mg_none_of X G zenumerate) TBF d5 d3, PySem.W.mg_of X G a4, F4.kp, b4⟩
  have oT : OexC K BT := ⟨⟨_, _, _, _, _, _, _, _, _, _, _, _, _, _, _, lxBT, rxBT⟩, saBT, exBT, ttBT, keBT⟩
  have G61 := ok_bText (P := l.prog) (w := w) (mg := mg) (base := base) F61 oT no0BT no1BT d10
  have BX : BTx l.prog w K mg base BT := ⟨oT, PySem.W.mg_of X G aBT, ⟨f61, _, m61, ty61, G61, b61⟩⟩
  have GF := ok_fillInit (P := l.prog) (w := w) (mg := mg) (base := base) D50 FC (PySem.W.mg_none_of X G zzip) TBF d3
  have MK : Mk K C f50 := ⟨mkC, m50, i50, kcC⟩
  have GE := ok_fillEq (P := l.prog) (w := w) (mg := mg) (base := base) F51 T R2 (PySem.W.mg_of X G aC)
  have GS := ok_fillStr (P := l.prog) (w := w) (mg := mg) (base := base) F52 R2 d9
  have RE : RF l.prog w K mg base C := ⟨R2, ⟨f51, fnr_of GE b51, m51, i51⟩, neC, ⟨f52, fnr_of GS b52, m52, i52⟩⟩
  have GRd := ok_read (P := l.prog) (w := w) (mg := mg) (base := base) F62 T (PySem.W.mg_none_of X G zstr) (PySem.W.mg_of X G aC) MK GF b50 d4 d5 BX
  have RB : RdB l.prog w K mg base C BT := ⟨PySem.W.mg_of X G aC, _, pR, f62, _, _, ⟨rdC, gtC⟩, ⟨fcC, ⟨_, rcR⟩, k62⟩, GRd, b62, kb_one F62 (fun _ _ _ _ _ _ _ => rfl)⟩
  have d12 : Df l.prog w K mg base 1 "_law_pen" ["_law_script"] _ := ⟨f12, _, ok_pen F12 T, PySem.W.mg_of X G a12, F12.kp, b12⟩
  have d13 : Df l.prog w K mg base 1 "_law_draw" ["_law_pen_here", "_law_many"] _ := ⟨f13, _, ok_draw F13 T, PySem.W.mg_of X G a13, F13.kp, b13⟩
  have d14 : Df l.prog w K mg base 2 "_law_pick" ["_law_pen_here", "_law_some"] _ := ⟨f14, _, ok_pick F14 T d13, PySem.W.mg_of X G a14, F14.kp, b14⟩
  have d15 : Df l.prog w K mg base 2 "_law_numbers" ["_law_pen_here"] _ := ⟨f15, _, ok_lnums F15 T d13, PySem.W.mg_of X G a15, F15.kp, b15⟩
  have d16 : Df l.prog w K mg base 7 "_law_rule" ["_law_told"] _ := ⟨f16, _, ok_lrule F16 (PySem.W.mg_of X G aC) MK GF b50, PySem.W.mg_of X G a16, F16.kp, b16⟩
  have d18 : Df l.prog w K mg base 1 "_law_text" ["_law_told"] _ := ⟨f18, _, ok_ltext F18 T (PySem.W.mg_none_of X G zstr), PySem.W.mg_of X G a18, F18.kp, b18⟩
  have d19 : Df l.prog w K mg base 1 "_law_number" ["_law_word", "_law_low", "_law_top"] _ := ⟨f19, _, ok_lnum F19 T (PySem.W.mg_none_of X G zstr), PySem.W.mg_of X G a19, F19.kp, b19⟩
  have d20 : Df l.prog w K mg base 2 "_law_first_wrong" ["_law_line"] _ := ⟨f20, _, ok_lfirst F20 T d19, PySem.W.mg_of X G a20, F20.kp, b20⟩
  have d21 : Df l.prog w K mg base 3 "_law_bent" ["_law_pen_here", "_law_words"] _ := ⟨f21, _, ok_bent F21 T d13 d14, PySem.W.mg_of X G a21, F21.kp, b21⟩
  have HB : HeldC K BT := ⟨icBT, gaBT, ggBT, exBT, hdBT, hcBT, ikn, ikt, moBT⟩
  have HH : HeardB l.prog w K mg BT FE f17 _ := ⟨F17, PySem.W.mg_of X G a17, b17, PySem.W.mg_of X G aFE, PySem.W.mg_of X G aBT, HB, no0BT, no1BT, exm_own icFE ttFE suBF suFX⟩
  have GRi := ok_right (P := l.prog) (w := w) (mg := mg) (base := base) (TT := tabAt K cR1) (TL := [(tabAt K cR1, (envOfC "_law_read_right" (defScope sRight) 0 f22 (.ref cR1)).qual ++ ("<lambda>" : Str)), (tabAt K cL, (envOfC "law" (defScope sLaw70) 0 f23 (.ref cL)).qual ++ ("<lambda>" : Str))]) F22 T (PySem.W.mg_none_of X G zstr) (PySem.W.mg_none_of X G zrepr) rfl TB (List.mem_cons_self ..)
    (fun p hp e => by
      rcases List.mem_cons.mp hp with rfl | hp
      · rfl
      · rw [List.mem_singleton.mp hp] at e
        exact absurd e.symm TTn) rfl HH RB RE MK GF b50 d20
  exact ok_law F23 T (PySem.W.mg_none_of X G zstr) rfl TB2 TTn rfl HH RB RE nsC MK GF b50b d12 d14 d15 d16 d18 d21 GRi (PySem.W.mg_of X G a22) F22.kp b22
end Ev
open PySem PySem.W PyProof.Rows
set_option maxRecDepth 100000 in
set_option maxHeartbeats 0 in
theorem PySem.Challenge.cw_evenrules_k70_fill_rules_written_and_rea_holds : PySem.Challenge.rw_evenrules_k70_fill_rules_written_and_rea.Holds := by
  exact hd (by
    k_fill
    refine Ev.walk_ofGTK2 (l := PySem.Challenge.rw_evenrules_k70_fill_rules_written_and_rea) (n := 63) (k := 12) (x := "_law_script") (xr := "_law_read_right") (xs := "law") rfl (by decide) rfl ⟨rfl, by decide, by decide⟩ (by kernel_rfl) (by kernel_rfl) (fun w h Y => PySem.W.km_in_of Y) ?F
    case F =>
      intro w mg fa h KX G hmg
      refine' Ev.all_mk KX G hmg ?a0 ?l0 ?c0 ?k0 ?a1 ?l1 ?c1 ?k1 ?a2 ?l2 ?c2 ?k2 ?a3 ?l3 ?c3 ?k3 ?a4 ?l4 ?c4 ?k4 ?a5 ?l5 ?c5 ?k5 ?a6 ?l6 ?c6 ?k6 ?a7 ?l7 ?c7 ?k7 ?a8 ?l8 ?c8 ?k8 ?a9 ?l9 ?c9 ?k9 ?a10 ?l10 ?c10 ?k10 ?a11 ?l11 ?c11 ?k11 ?a12 ?l12 ?c12 ?k12 ?a13 ?l13 ?c13 ?k13 ?a14 ?l14 ?c14 ?k14 ?a15 ?l15 ?c15 ?k15 ?a16 ?l16 ?c16 ?k16 ?a17 ?l17 ?c17 ?k17 ?a18 ?l18 ?c18 ?k18 ?a19 ?l19 ?c19 ?k19 ?a20 ?l20 ?c20 ?k20 ?a21 ?l21 ?c21 ?k21 ?a22 ?l22 ?c22 ?k22 ?a23 ?l23 ?c23 ?k23 ?aC ?pgC ?hdC ?poC ?saC ?mkC ?kcC ?n0C ?n1C ?n2C ?n3C ?n4C ?hcC ?moC ?icC ?ttC ?neC ?nsC ?ikn ?ikt ?m50 ?i50 ?l50 ?c50 ?k50 ?t50 ?kd500 ?m51 ?i51 ?l51 ?c51 ?k51 ?m52 ?i52 ?l52 ?c52 ?k52 ?rdC ?gtC ?fcC ?rcR ?l62 ?c62 ?k62 ?aBT ?icBT ?ttBT ?gaBT ?ggBT ?hdBT ?hcBT ?moBT ?saBT ?exBT ?keBT ?vEBT ?sSBT ?no0BT ?no1BT ?lxBT ?rxBT ?m61 ?l61 ?c61 ?k61 ?ty61 ?aFE ?icFE ?ttFE ?suBF ?suFX ?hgT ?hgI ?hgL ?aTP ?lTP ?aDB ?lDB ?hkDB0 ?nsDB0 ?hkDB1 ?nsDB1 ?hkDB2 ?nsDB2 ?lowDB ?lD1 ?lD2 ?lD3 ?hdcR1 ?nocR1 ?hdcL ?nocL ?neqT ?zint ?zlen ?zabs ?zlist ?zmin ?zmax ?zisinstance ?zbool ?ztuple ?zall ?zrange ?zrepr ?zany ?zdict ?zstr ?zenumerate ?zzip
      (case a0 => k_is)
      (case l0 => k_is)
      (case c0 => k_is)
      (case k0 => k_is)
      (case a1 => k_is)
      (case l1 => k_is)
      (case c1 => k_is)
      (case k1 => k_is)
      (case a2 => k_is)
      (case l2 => k_is)
      (case c2 => k_is)
      (case k2 => k_is)
      (case a3 => k_is)
      (case l3 => k_is)
      (case c3 => k_is)
      (case k3 => k_is)
      (case a4 => k_is)
      (case l4 => k_is)
      (case c4 => k_is)
      (case k4 => k_is)
      (case a5 => k_is)
      (case l5 => k_is)
      (case c5 => k_is)
      (case k5 => k_is)
      (case a6 => k_is)
      (case l6 => k_is)
      (case c6 => k_is)
      (case k6 => k_is)
      (case a7 => k_is)
      (case l7 => k_is)
      (case c7 => k_is)
      (case k7 => k_is)
      (case a8 => k_is)
      (case l8 => k_is)
      (case c8 => k_is)
      (case k8 => k_is)
      (case a9 => k_is)
      (case l9 => k_is)
      (case c9 => k_is)
      (case k9 => k_is)
      (case a10 => k_is)
      (case l10 => k_is)
      (case c10 => k_is)
      (case k10 => k_is)
      (case a11 => k_is)
      (case l11 => k_is)
      (case c11 => k_is)
      (case k11 => k_is)
      (case a12 => k_is)
      (case l12 => k_is)
      (case c12 => k_is)
      (case k12 => k_is)
      (case a13 => k_is)
      (case l13 => k_is)
      (case c13 => k_is)
      (case k13 => k_is)
      (case a14 => k_is)
      (case l14 => k_is)
      (case c14 => k_is)
      (case k14 => k_is)
      (case a15 => k_is)
      (case l15 => k_is)
      (case c15 => k_is)
      (case k15 => k_is)
      (case a16 => k_is)
      (case l16 => k_is)
      (case c16 => k_is)
      (case k16 => k_is)
      (case a17 => k_is)
      (case l17 => k_is)
      (case c17 => k_is)
      (case k17 => k_is)
      (case a18 => k_is)
      (case l18 => k_is)
      (case c18 => k_is)
      (case k18 => k_is)
      (case a19 => k_is)
      (case l19 => k_is)
      (case c19 => k_is)
      (case k19 => k_is)
      (case a20 => k_is)
      (case l20 => k_is)
      (case c20 => k_is)
      (case k20 => k_is)
      (case a21 => k_is)
      (case l21 => k_is)
      (case c21 => k_is)
      (case k21 => k_is)
      (case a22 => k_is)
      (case l22 => k_is)
      (case c22 => k_is)
      (case k22 => k_is)
      (case a23 => k_is)
      (case l23 => k_is)
      (case c23 => k_is)
      (case k23 => k_is)
      (case aC => k_is)
      (case pgC => k_is)
      (case hdC => k_is)
      (case poC => k_is)
      (case saC => k_is)
      (case mkC => k_is)
      (case kcC => k_is)
      (case n0C => k_is)
      (case n1C => k_is)
      (case n2C => k_is)
      (case n3C => k_is)
      (case n4C => k_is)
      (case hcC => k_is)
      (case moC => k_is)
      (case icC => k_is)
      (case ttC => k_is)
      (case neC => k_is)
      (case nsC => first | k_is | kernel_rfl | decide +kernel)
      (case ikn => k_is)
      (case ikt => k_is)
      (case m50 => k_is)
      (case i50 => k_is)
      (case l50 => k_is)
      (case c50 => k_is)
      (case k50 => k_is)
      (case t50 => k_is)
      (case kd500 => k_is)
      (case m51 => k_is)
      (case i51 => k_is)
      (case l51 => k_is)
      (case c51 => k_is)
      (case k51 => k_is)
      (case m52 => k_is)
      (case i52 => k_is)
      (case l52 => k_is)
      (case c52 => k_is)
      (case k52 => k_is)
      (case rdC => first | k_is | kernel_rfl | decide +kernel)
      (case gtC => k_is)
      (case fcC => first | k_is | kernel_rfl | decide +kernel)
      (case rcR => first | k_is | kernel_rfl | rfl)
      (case l62 => k_is)
      (case c62 => k_is)
      (case k62 => k_is)
      (case aBT => k_is)
      (case icBT => k_is)
      (case ttBT => k_is)
      (case gaBT => k_is)
      (case ggBT => k_is)
      (case hdBT => k_is)
      (case hcBT => k_is)
      (case moBT => k_is)
      (case saBT => k_is)
      (case exBT => k_is)
      (case keBT => k_is)
      (case vEBT => k_is)
      (case sSBT => k_is)
      (case no0BT => k_is)
      (case no1BT => k_is)
      (case lxBT => k_is)
      (case rxBT => decide +kernel)
      (case m61 => k_is)
      (case l61 => k_is)
      (case c61 => k_is)
      (case k61 => k_is)
      (case ty61 => k_is)
      (case aFE => k_is)
      (case icFE => k_is)
      (case ttFE => k_is)
      (case suBF => k_is)
      (case suFX => k_is)
      (case hgT => k_is)
      (case hgI => k_is)
      (case hgL => k_is)
      (case aTP => k_is)
      (case lTP => k_is)
      (case aDB => k_is)
      (case lDB => k_is)
      (case hkDB0 => rfl)
      (case nsDB0 => first | k_is | kernel_rfl)
      (case hkDB1 => rfl)
      (case nsDB1 => first | k_is | kernel_rfl)
      (case hkDB2 => rfl)
      (case nsDB2 => first | k_is | kernel_rfl)
      (case lowDB => kernel_rfl)
      (case lD1 => k_is)
      (case lD2 => k_is)
      (case lD3 => k_is)
      (case hdcR1 => kernel_rfl)
      (case nocR1 => kernel_rfl)
      (case hdcL => kernel_rfl)
      (case nocL => kernel_rfl)
      (case neqT => kernel_rfl)
      (case zint => k_is)
      (case zlen => k_is)
      (case zabs => k_is)
      (case zlist => k_is)
      (case zmin => k_is)
      (case zmax => k_is)
      (case zisinstance => k_is)
      (case zbool => k_is)
      (case ztuple => k_is)
      (case zall => k_is)
      (case zrange => k_is)
      (case zrepr => k_is)
      (case zany => k_is)
      (case zdict => k_is)
      (case zstr => k_is)
      (case zenumerate => k_is)
      (case zzip => k_is))
