import PyProof.Rows.All
import Wide.All
import OpenK.AllK
import Wide.FinOn
import HandS.ForMost
import HandS.Wide
import HandS.Codes
import HandS.IsInst
import HandS.Defaults
import HandS.MakeKw
import HandS.MakeKwOnly
import HandS.ClsMeth
import HandS.TupAny
import HandS.Style
import HandS.Zip
import HandS.Conv
import PySem.Challenge.RW_evenrules_k71_whole_two_groups_and_one_a
open PySem PySem.W PyProof.Rows
set_option Elab.async false
set_option linter.all false
set_option maxRecDepth 100000 in
set_option maxHeartbeats 0 in
open_top hd for PySem.Challenge.rw_evenrules_k71_whole_two_groups_and_one_a
set_option maxRecDepth 100000
set_option maxHeartbeats 4000000
namespace Ev
open PySem L2
def top (i : Nat) : Stmt := PySem.Challenge.pw_evenrules_k71_whole_two_groups_and_one_a.main.body.getD i (.Pass ⟨0, 0, 0, 0⟩)
abbrev sKept : Stmt := top 1
abbrev sIsFlat : Stmt := top 2
abbrev sCopiedDeep : Stmt := top 3
abbrev sPartsOf : Stmt := top 4
abbrev sRebuilt : Stmt := top 5
abbrev sBadRule_init : Stmt := inClass (top 8) 0
abbrev sBadNumber_init : Stmt := inClass (top 9) 0
abbrev sBadText_init : Stmt := inClass (top 10) 0
abbrev sIsInt : Stmt := top 12
abbrev sWithin : Stmt := top 13
abbrev sLeastOf : Stmt := top 15
abbrev sCrucialOf : Stmt := top 16
abbrev sIsRightFor : Stmt := top 17
abbrev sNumberWord : Stmt := top 21
abbrev sPairWord : Stmt := top 22
abbrev sReadNumber : Stmt := top 23
abbrev sReadPair : Stmt := top 24
abbrev sPair : Stmt := top 27
abbrev sWordValue : Stmt := top 28
abbrev sFillRule_init : Stmt := inClass (top 35) 0
abbrev sFillRule_least_fill : Stmt := inClass (top 35) 1
abbrev sFillRule_fits : Stmt := inClass (top 35) 2
abbrev sFillRule_eq : Stmt := inClass (top 35) 3
abbrev sFillRule_str : Stmt := inClass (top 35) 4
abbrev sFillRule_read : Stmt := inClass (top 35) 5
abbrev sCanBe : Stmt := top 36
abbrev sWrongFillWord : Stmt := top 37
abbrev sNeedSize : Stmt := top 38
abbrev sPen : Stmt := top 40
abbrev sDraw : Stmt := top 41
abbrev sPick : Stmt := top 42
abbrev sLNumbers : Stmt := top 43
abbrev sLRule : Stmt := top 44
abbrev sLLeast : Stmt := top 45
abbrev sLIsRight : Stmt := top 46
abbrev sLSize : Stmt := top 47
abbrev sLIdle : Stmt := top 48
abbrev sLBetweenRight : Stmt := top 49
abbrev sLaw : Stmt := top 50
end Ev
namespace Ev
open PySem L2
/-- all that was tracked is as it was, but at p -/
def But (p : Addr) (H H' : Hp) : Prop := ∀ b o, b ≠ p → H b = some o → H' b = some o
theorem But.refl (p : Addr) (H : Hp) : But p H H := fun _ _ _ e => e
theorem But.trans {p : Addr} {H H1 H2 : Hp} (a : But p H H1) (b : But p H1 H2) : But p H H2 := fun c o n e => b c o n (a c o n e)
theorem Same.but {p : Addr} {H H' : Hp} (a : Same H H') : But p H H' := fun c o _ e => a c o e
theorem But.upd_new {p q : Addr} {H : Hp} {o : HO} (h : H q = none) : But p H (upd H q o) := fun b u _ e => by
  rw [upd_ne (ne_of_none e h)]; exact e
theorem But.upd_at {p : Addr} {H : Hp} {o : HO} : But p H (upd H p o) := fun b u n e => by
  rw [upd_ne n]; exact e
/-- the pen: a list of a list of ints, how often it was asked, and a rest -/
def Pen (L : Addr) (H : Hp) (p : Addr) (B : Int) : Prop := ∃ (ns : List Int) (turn carry : Int),
  H p = some (.lst [.ref L, .int turn, .int carry]) ∧ H L = some (.lst (ns.map V.int)) ∧ L ≠ p ∧ ns.length ≤ 63 ∧ 0 ≤ turn ∧ turn ≤ B ∧ 0 ≤ carry
theorem Pen.keep {L : Addr} {H H' : Hp} {p : Addr} {B : Int} (h : Pen L H p B) (k : Same H H') : Pen L H' p B := by
  obtain ⟨ns, t, c, h1, h2, h3, h4, h5, h6, h7⟩ := h
  exact ⟨ns, t, c, k _ _ h1, k _ _ h2, h3, h4, h5, h6, h7⟩
theorem Pen.mono {L : Addr} {H : Hp} {p : Addr} {B B' : Int} (h : Pen L H p B) (k : B ≤ B') : Pen L H p B' := by
  obtain ⟨ns, t, c, h1, h2, h3, h4, h5, h6, h7⟩ := h
  exact ⟨ns, t, c, h1, h2, h3, h4, h5, by omega, h7⟩
def spDraw : Sp := fun vs H Q _ => ∃ (p L : Addr) (m B : Int), vs = [.ref p, .int m] ∧ 1 ≤ m ∧ m ≤ 100000000000000000000000000000 ∧ B ≤ 1000000 ∧ Pen L H p B ∧
  ∀ (d : Int) (H' : Hp), But p H H' → Pen L H' p (B + 1) → 0 ≤ d → d < m → Q (.int d) H'
theorem dpInts {K : PySem.W.Frag} {H : Hp} : ∀ ns : List Int, DpAll K H (ns.map V.int) (ns.map PyData.int)
  | [] => .nil
  | n :: r => .cons (.int n) (dpInts r)
theorem sh_ints (ns : List Int) : SeqAt.shaped (.list (ns.map PyData.int)) = true := by
  have h1 : ∀ ns : List Int, PyData.canLayAll0 (ns.map PyData.int) = true := by
    intro ns
    induction ns with
    | nil => rfl
    | cons n r ih => simp [PyData.canLayAll0, PyData.canLay0, ih]
  have h2 : ∀ ns : List Int, PyData.depthAll (ns.map PyData.int) ≤ 1 := by
    intro ns
    induction ns with
    | nil => simp [PyData.depthAll]
    | cons n r ih => simp [PyData.depthAll, PyData.depth]; omega
  unfold SeqAt.shaped
  rw [Bool.and_eq_true]
  refine ⟨by simp [PyData.canLay0, h1], decide_eq_true ?_⟩
  have := h2 ns
  simp [PyData.depth]; omega
theorem eqv_nil (ns : List Int) : PyData.eqv (.list (ns.map PyData.int)) (.list []) = ns.isEmpty := by
  cases ns <;> simp [PyData.eqv, PyData.eqvAll]
section
variable {P : Program} {w : World} {K : PySem.W.Frag} {mg : Str → Option Value} {base : Heap}
/-- built-ins that the program does not cover -/
structure Blt (mg : Str → Option Value) : Prop where
  int : mg "int" = none
  len : mg "len" = none
  abs : mg "abs" = none
  list : mg "list" = none
  min : mg "min" = none
  max : mg "max" = none
  isi : mg "isinstance" = none
  bool : mg "bool" = none
  tuple : mg "tuple" = none
  all : mg "all" = none
  range : mg "range" = none
  repr : mg "repr" = none
theorem scD : FnScope ["_law_pen_here", "_law_many", "_law_digit", "_law_spot", "_law_cell", "_law_great", "_law_mixed"] ["_law_pen_here", "_law_many"] (defScope sDraw) := ⟨rfl, rfl, rfl, by decide +kernel, rfl, by decide +kernel, by decide +kernel⟩
theorem fmod_lo (a : Int) {m : Int} (h : 1 ≤ m) : 0 ≤ a.fmod m := by rw [Int.fmod_eq_emod_of_nonneg a (by omega)]; exact Int.emod_nonneg a (by omega)
theorem fmod_hi (a : Int) {m : Int} (h : 1 ≤ m) : a.fmod m < m := by rw [Int.fmod_eq_emod_of_nonneg a (by omega)]; exact Int.emod_lt_of_pos a (by omega)
theorem fdiv_lo {a m : Int} (h : 1 ≤ m) (h0 : 0 ≤ a) : 0 ≤ a.fdiv m := by rw [Int.fdiv_eq_ediv_of_nonneg a (by omega)]; exact Int.ediv_nonneg h0 (by omega)
theorem cell_at {ns : List Int} (h : ns ≠ []) (t : Int) : ∃ c : Int, atI (ns.map V.int) (t.fmod (((ns.map V.int).length : Nat) : Int)) = some (V.int c) := by
  rw [List.length_map]
  have l : 0 < ns.length := List.length_pos_iff.mpr h
  have h1 : 0 ≤ t.fmod (ns.length : Int) := fmod_lo t (by omega)
  have h2 : t.fmod (ns.length : Int) < ns.length := fmod_hi t (by omega)
  generalize t.fmod (ns.length : Int) = i at h1 h2
  obtain ⟨j, rfl⟩ := Int.eq_ofNat_of_zero_le h1
  have hj : j < ns.length := by omega
  exact ⟨ns[j], atI_nat (by rw [List.getElem?_map, List.getElem?_eq_getElem hj]; rfl)⟩
theorem mul_le_of {a b A B : Int} (a0 : 0 ≤ a) (b0 : 0 ≤ b) (ha : a ≤ A) (hb : b ≤ B) : 0 ≤ a * b ∧ a * b ≤ A * B :=
  ⟨Int.mul_nonneg a0 b0, Int.mul_le_mul ha hb b0 (by omega)⟩
theorem bound1 (c : Int) {M C D t : Int} (hM : 1 ≤ M) (hM2 : M ≤ 4294967296) (hC : 0 ≤ C ∧ C ≤ 1000000) (hD : 0 ≤ D ∧ D ≤ 1000000) (h0 : 0 ≤ t) (h1 : t ≤ 1000000) : (c.fmod M + C * t + D).natAbs < 2 ^ 64 := by
  have a1 := fmod_lo c hM
  have a2 := fmod_hi c hM
  have ⟨a3, a4⟩ := mul_le_of hC.1 h0 hC.2 h1
  omega
theorem bound2 {x C5 C6 C7 t : Int} (hx : 0 ≤ x ∧ x < 4294967296) (h5 : 0 ≤ C5 ∧ C5 ≤ 1000000) (h6 : 0 ≤ C6 ∧ C6 ≤ 1000000) (h7 : 0 ≤ C7 ∧ C7 ≤ 1000000) (h0 : 0 ≤ t) (h1 : t ≤ 1000000) :
    (x * (2 * t + C5) + C6 * t * t + C7).natAbs < 2 ^ 64 := by
  have ⟨a1, a2⟩ := mul_le_of (b := 2 * t + C5) (A := 4294967296) (B := 3000000) hx.1 (by omega) (by omega) (by omega)
  have ⟨a3, a4⟩ := mul_le_of h6.1 h0 h6.2 h1
  have ⟨a5, a6⟩ := mul_le_of a3 h0 a4 h1
  omega
theorem great_nn {c e : Int} (h : e ≤ (if c < 0 then -c else c)) (b : Bool) : 0 ≤ 2 * ((if c < 0 then -c else c) - e) + (if b = true then 1 else 0) := by
  cases b
  · rw [if_neg Bool.false_ne_true]; omega
  · rw [if_pos rfl]; omega
theorem lt64 {x : Int} (h : 0 ≤ x ∧ x < 4294967296) : -(2 ^ 64) < x ∧ x < 2 ^ 64 := ⟨by omega, by omega⟩
theorem nz {M : Int} (h : 0 < M) : M ≠ 0 := by omega
theorem divW {i m : Int} (h : 1 ≤ m) (h2 : m ≤ 100000000000000000000000000000) : CDivW i m := wide_div (b := 97) (by omega) (by omega) (by decide) (by decide)
theorem ediv_lo {a m : Int} (h : 1 ≤ m) (h0 : 0 ≤ a) : 0 ≤ a / m := Int.ediv_nonneg h0 (by omega)
theorem ok_draw {f : Addr} {fd : FuncData} (F : Fun K "_law_draw" "_law_draw" sDraw f fd) (T : Blt mg) : FnOk P w K mg base CX0 1 f fd ["_law_pen_here", "_law_many"] spDraw := by
  refine F.ok scD (fun vs H Q E h => ?_) (fun cdv A outer s H vs Q E hr h => ?_)
  · obtain ⟨p, L, m, B, rfl, _⟩ := h
    rfl
  · obtain ⟨p, L, m, B, rfl, hm, hm2, hB, ⟨ns, tn, ca, hp, hL, Lp, hlen, t0, tB, c0⟩, k⟩ := h
    have hu := hu_of hr
    refine ⟨_, pss_cons (ps_if (pt_cmpR op_gt (pe_ix ix_list (pv 0) pe_int (fun _ _ => rfl)) pe_int (nomark _))
        (pss_cons (ps_set (i := 2) scD.nd rfl (.inl rfl) (pe_op op_modN (pe_callTy call_int1 (by rfl) T.int (by decide +kernel) (pa_cons (pe_ix ix_list (pv 0) pe_int (fun _ _ => rfl)) pa_nil)) (pv 1)))
        (pss_cons (ps_asg (pe_op op_fdivW (pe_callTy call_int1 (by rfl) T.int (by decide +kernel) (pa_cons (pe_ix ix_list (pv 0) pe_int (fun _ _ => rfl)) pa_nil)) (pv 1)) (pg_sub (pv 0) pe_int set_list))
        (pss_one (ps_ret (pv 2))))) pss_nil)
      (pss_cons (ps_set (i := 3) scD.nd rfl (.inl rfl) (pe_ix ix_list (pv 0) pe_int (fun _ _ => rfl)))
      (pss_cons (ps_asg (pe_op op_add (pv 3) pe_int) (pg_sub (pv 0) pe_int set_list))
      (pss_cons (ps_set (i := 4) scD.nd rfl (.inl rfl) (pe_op op_add (pe_op op_mul pe_int (pv 3)) pe_int))
      (pss_cons (ps_if (pt_cmpR (op_neD hr.units) (pe_ix ix_list (pv 0) pe_int (fun _ _ => rfl)) (pe_lst pa_nil) (nomark _))
        (pss_one (ps_set (i := 4) scD.nd rfl (.inl rfl) (pe_ix ix_list (pe_ix ix_list (pv 0) pe_int (fun _ _ => rfl))
          (pe_op op_modN (pe_callTy call_int1 (by rfl) T.int (by decide +kernel) (pa_cons (pv 3) pa_nil)) (pe_callB call_len_seq (by rfl) T.len PySem.boot_len (pa_cons (pe_ix ix_list (pv 0) pe_int (fun _ _ => rfl)) pa_nil))) (fun _ _ => rfl)))) pss_nil)
      (pss_cons (ps_if (PW.pt (pw_and (pt_cmpR op_lt (pv 3) (pe_callB call_len_seq (by rfl) T.len PySem.boot_len (pa_cons (pe_ix ix_list (pv 0) pe_int (fun _ _ => rfl)) pa_nil)) (nomark _))
          (pw_and1 (pt_cmpR op_ge (pe_callB call_abs (by rfl) T.abs (by decide +kernel) (pa_cons (pv 4) pa_nil)) (pe_op op_pow pe_int pe_int) (nomark _)))))
        (pss_cons (ps_set (i := 5) scD.nd rfl (.inl rfl) (pe_op op_add (pe_op op_mul pe_int (pe_op op_sub (pe_callB call_abs (by rfl) T.abs (by decide +kernel) (pa_cons (pv 4) pa_nil)) (pe_op op_pow pe_int pe_int)))
            (pe_callTy call_int1 (by rfl) T.int (by decide +kernel) (pa_cons (pe_cmpR op_lt (pv 4) pe_int (nomark _)) pa_nil))))
        (pss_cons (ps_asg (pe_op op_fdivW (pe_callTy call_int1 (by rfl) T.int (by decide +kernel) (pa_cons (pv 5) pa_nil)) (pv 1)) (pg_sub (pv 0) pe_int set_list))
        (pss_one (ps_ret (pe_op op_modN (pe_callTy call_int1 (by rfl) T.int (by decide +kernel) (pa_cons (pv 5) pa_nil)) (pv 1)))))) pss_nil)
      (pss_cons (ps_set (i := 6) scD.nd rfl (.inl rfl) (pe_op op_modN (pe_callTy call_int1 (by rfl) T.int (by decide +kernel) (pa_cons (pe_op op_pow (pe_op op_add (pe_op op_add
          (pe_op op_modN (pe_callTy call_int1 (by rfl) T.int (by decide +kernel) (pa_cons (pv 4) pa_nil)) pe_int) (pe_op op_mul pe_int (pv 3))) pe_int) pe_int) pa_nil)) pe_int))
      (pss_cons (ps_set (i := 6) scD.nd rfl (.inl rfl) (pe_op op_modN (pe_callTy call_int1 (by rfl) T.int (by decide +kernel) (pa_cons (pe_op op_pow (pe_op op_add (pe_op op_add
          (pe_op op_mul (pv 6) (pe_op op_add (pe_op op_mul pe_int (pv 3)) pe_int)) (pe_op op_mul (pe_op op_mul pe_int (pv 3)) (pv 3))) pe_int) pe_int) pa_nil)) pe_int))
      (pss_one (ps_ret (pe_op op_modN (pe_callTy call_int1 (by rfl) T.int (by decide +kernel) (pa_cons (pe_op op_fdivN (pv 6) pe_int) pa_nil)) (pv 1))))))))))), ?_⟩
    have i2 : ∀ {a b c : V}, atI [a, b, c] 2 = some c := fun {a b c} => atI_nat (j := 2) rfl
    have i1 : ∀ {a b c : V}, atI [a, b, c] 1 = some b := fun {a b c} => atI_nat (j := 1) rfl
    have i0 : ∀ {a b c : V}, atI [a, b, c] 0 = some a := fun {a b c} => atI_nat (j := 0) rfl
    -- if pen[2] > 0
    refine ⟨_, rfl, p, _, 2, _, rfl, rfl, SqL.of hp, i2, _, _, rfl, rfl, _, rfl, ite2 (fun e => ?_) (fun e => ?_)⟩
    · -- digit
      refine ⟨_, rfl, p, _, 2, _, rfl, rfl, SqL.of hp, i2, .inl ⟨_, rfl, _, rfl, _, _, rfl, rfl, (by omega), ?_⟩⟩
      refine ⟨_, rfl, p, _, 2, _, rfl, rfl, SqL.of hp, i2, .inl ⟨_, rfl, _, rfl, _, _, rfl, rfl, divW hm hm2, _, rfl, p, _, _, 2, rfl, rfl, hp, rfl, ?_⟩⟩
      refine ⟨_, rfl, ?_⟩
      exact k _ _ But.upd_at ⟨ns, tn, _, upd_same, by rw [upd_ne Lp]; exact hL, Lp, hlen, t0, by omega, ediv_lo hm c0⟩ (fmod_lo _ hm) (fmod_hi _ hm)
    · -- turn
      refine ⟨_, rfl, p, _, 1, _, rfl, rfl, SqL.of hp, i1, ?_⟩
      refine ⟨_, rfl, _, _, rfl, rfl, _, rfl, p, _, _, 1, rfl, rfl, hp, rfl, ?_⟩
      have hp1 : upd H p (.lst ([V.ref L, V.int tn, V.int ca].set 1 (V.int (tn + 1)))) p = some (.lst [.ref L, .int (tn + 1), .int ca]) := upd_same
      have hL1 : upd H p (.lst ([V.ref L, V.int tn, V.int ca].set 1 (V.int (tn + 1)))) L = some (.lst (ns.map V.int)) := by rw [upd_ne Lp]; exact hL
      have b1 : But p H (upd H p (.lst ([V.ref L, V.int tn, V.int ca].set 1 (V.int (tn + 1))))) := But.upd_at
      generalize upd H p (.lst ([V.ref L, V.int tn, V.int ca].set 1 (V.int (tn + 1)))) = H1 at hp1 hL1 b1 ⊢
      -- cell = c * turn + c'
      refine ⟨_, rfl, _, _, rfl, rfl, .inl ⟨by decide, by decide⟩, _, _, rfl, rfl, ?_⟩
      -- if pen[0] != []
      refine ⟨_, rfl, p, _, 0, _, rfl, rfl, SqL.of hp1, i0, by decide, fun l hl => ?_⟩
      have n1 : p ≠ l := ne_of_none hp1 hl
      have n2 : L ≠ l := ne_of_none hL1 hl
      have hp2 : upd H1 l (.lst []) p = some (.lst [.ref L, .int (tn + 1), .int ca]) := by rw [upd_ne n1]; exact hp1
      have hL2 : upd H1 l (.lst []) L = some (.lst (ns.map V.int)) := by rw [upd_ne n2]; exact hL1
      have hl2 : upd H1 l (.lst []) l = some (.lst []) := upd_same
      have b2 : But p H (upd H1 l (.lst [])) := b1.trans (But.upd_new hl)
      clear b1 hp1 hL1
      generalize upd H1 l (.lst []) = H2 at hp2 hL2 hl2 b2
      refine ⟨_, _, .lst (SqL.of hL2) (dpInts ns), .lst (SqL.of hl2) .nil, sh_ints ns, sh_ints [], _, rfl, ?_⟩
      rw [eqv_nil]
      -- the rest, for any cell
      have hcell : ∀ c : Int, ∃ j : Int, (if c < 0 then -c else c) = j ∧ 0 ≤ j := fun c => by
        by_cases z : c < 0
        · exact ⟨_, rfl, by rw [if_pos z]; omega⟩
        · exact ⟨_, rfl, by rw [if_neg z]; omega⟩
      have fin : ∀ H' : Hp, H' p = some (.lst [.ref L, .int (tn + 1), .int ca]) → H' L = some (.lst (ns.map V.int)) → But p H H' → Pen L H' p (B + 1) := fun H' e1 e2 _ =>
        ⟨ns, tn + 1, ca, e1, e2, Lp, hlen, by omega, by omega, c0⟩
      have ht : tn ≤ 1000000 := by omega
      have hm6 : 0 ≤ 66905 * tn ∧ 66905 * tn ≤ 66905 * 1000000 := mul_le_of (by decide) t0 (Int.le_refl _) ht
      have hq : ∀ {x m : Int}, 1 ≤ m → m ≤ 4294967296 → 0 ≤ x.fmod m ∧ x.fmod m < 4294967296 := fun {x m} h1 h2 => ⟨fmod_lo x h1, by have := fmod_hi x h1; omega⟩
      cases hn : ns with
      | nil =>
        refine iteF ?_
        refine ⟨_, rfl, _, rfl, p, _, 0, _, rfl, rfl, SqL.of hp2, i0, L, _, rfl, .inl (SqL.of hL2), _, _, rfl, rfl, _, rfl, ite2 (fun e1 => ?_) (fun e1 => ?_)⟩
        · refine ⟨_, rfl, _, rfl, _, _, rfl, rfl, ⟨by decide, by decide, by decide⟩, _, _, rfl, rfl, _, rfl, ite2 (fun e2 => ?_) (fun e2 => ?_)⟩
          · refine ⟨_, rfl, _, rfl, _, _, rfl, rfl, ⟨by decide, by decide, by decide⟩, _, _, rfl, rfl, _, _, rfl, rfl, .inl ⟨by decide, by decide⟩, _, rfl, _, _, rfl, rfl, .inr ⟨_, rfl, _, _, rfl, rfl, ?_⟩⟩
            refine ⟨_, rfl, .inl ⟨_, rfl, _, rfl, _, _, rfl, rfl, divW hm hm2, _, rfl, p, _, _, 2, rfl, rfl, hp2, rfl, ?_⟩⟩
            refine ⟨_, rfl, .inl ⟨_, rfl, _, rfl, _, _, rfl, rfl, (by omega), ?_⟩⟩
            refine k _ _ (b2.trans But.upd_at) ⟨_, tn + 1, _, upd_same, by rw [upd_ne Lp]; exact hL2, Lp, hlen, by omega, by omega, ediv_lo hm ?_⟩ (fmod_lo _ hm) (fmod_hi _ hm)
            have e3 := of_decide_eq_true e2
            exact great_nn e3 _
          · skip
            refine ⟨_, rfl, .inl ⟨_, rfl, _, _, rfl, rfl, nz (by decide), _, rfl, _, _, rfl, rfl, .inl ⟨by decide, by decide⟩, _, _, rfl, rfl, _, _, rfl, rfl, _, _, rfl, rfl, ⟨by decide, by decide, bound1 _ (by decide) (by decide) (by decide) (by decide) t0 ht⟩, .inl ⟨_, rfl, _, _, rfl, rfl, nz (by decide), ?_⟩⟩⟩
            refine ⟨_, rfl, _, rfl, _, _, rfl, rfl, .inl ⟨by decide, by decide⟩, _, _, rfl, rfl, _, _, rfl, rfl, .inl ?_, _, rfl, _, _, rfl, rfl, .inl ⟨by decide, by decide⟩, _, rfl, _, _, rfl, rfl, .inl ?_, _, _, rfl, rfl, _, _, rfl, rfl, _, _, rfl, rfl, ⟨by decide, by decide, ?_⟩, .inl ⟨_, rfl, _, _, rfl, rfl, nz (by decide), ?_⟩⟩
            · exact lt64 (hq (by decide) (by decide))
            · exact ⟨by omega, by omega⟩
            · exact bound2 (hq (by decide) (by decide)) (by decide) (by decide) (by decide) t0 ht
            · refine ⟨_, rfl, _, _, rfl, rfl, ⟨by decide, by decide⟩, .inl ⟨_, rfl, _, rfl, _, _, rfl, rfl, (by omega), ?_⟩⟩
              exact k _ _ b2 (fin _ hp2 hL2 b2) (fmod_lo _ hm) (fmod_hi _ hm)
        · skip
          refine ⟨_, rfl, .inl ⟨_, rfl, _, _, rfl, rfl, nz (by decide), _, rfl, _, _, rfl, rfl, .inl ⟨by decide, by decide⟩, _, _, rfl, rfl, _, _, rfl, rfl, _, _, rfl, rfl, ⟨by decide, by decide, bound1 _ (by decide) (by decide) (by decide) (by decide) t0 ht⟩, .inl ⟨_, rfl, _, _, rfl, rfl, nz (by decide), ?_⟩⟩⟩
          refine ⟨_, rfl, _, rfl, _, _, rfl, rfl, .inl ⟨by decide, by decide⟩, _, _, rfl, rfl, _, _, rfl, rfl, .inl ?_, _, rfl, _, _, rfl, rfl, .inl ⟨by decide, by decide⟩, _, rfl, _, _, rfl, rfl, .inl ?_, _, _, rfl, rfl, _, _, rfl, rfl, _, _, rfl, rfl, ⟨by decide, by decide, ?_⟩, .inl ⟨_, rfl, _, _, rfl, rfl, nz (by decide), ?_⟩⟩
          · exact lt64 (hq (by decide) (by decide))
          · exact ⟨by omega, by omega⟩
          · exact bound2 (hq (by decide) (by decide)) (by decide) (by decide) (by decide) t0 ht
          · refine ⟨_, rfl, _, _, rfl, rfl, ⟨by decide, by decide⟩, .inl ⟨_, rfl, _, rfl, _, _, rfl, rfl, (by omega), ?_⟩⟩
            exact k _ _ b2 (fin _ hp2 hL2 b2) (fmod_lo _ hm) (fmod_hi _ hm)
      | cons n0 nr =>
        refine iteT ?_
        obtain ⟨c, hc⟩ := cell_at (ns := ns) (by rw [hn]; exact List.cons_ne_nil _ _) tn
        refine ⟨_, rfl, p, _, 0, _, rfl, rfl, SqL.of hp2, i0, _, rfl, .inl ⟨_, rfl, _, rfl, p, _, 0, _, rfl, rfl, SqL.of hp2, i0, L, _, rfl, .inl (SqL.of hL2), _, _, rfl, rfl, (by rw [List.length_map, hn, List.length_cons]; omega), L, _, _, _, rfl, rfl, SqL.of hL2, hc, ?_⟩⟩
        refine ⟨_, rfl, _, rfl, p, _, 0, _, rfl, rfl, SqL.of hp2, i0, L, _, rfl, .inl (SqL.of hL2), _, _, rfl, rfl, _, rfl, ite2 (fun e1 => ?_) (fun e1 => ?_)⟩
        · refine ⟨_, rfl, _, rfl, _, _, rfl, rfl, ⟨by decide, by decide, by decide⟩, _, _, rfl, rfl, _, rfl, ite2 (fun e2 => ?_) (fun e2 => ?_)⟩
          · refine ⟨_, rfl, _, rfl, _, _, rfl, rfl, ⟨by decide, by decide, by decide⟩, _, _, rfl, rfl, _, _, rfl, rfl, .inl ⟨by decide, by decide⟩, _, rfl, _, _, rfl, rfl, .inr ⟨_, rfl, _, _, rfl, rfl, ?_⟩⟩
            refine ⟨_, rfl, .inl ⟨_, rfl, _, rfl, _, _, rfl, rfl, divW hm hm2, _, rfl, p, _, _, 2, rfl, rfl, hp2, rfl, ?_⟩⟩
            refine ⟨_, rfl, .inl ⟨_, rfl, _, rfl, _, _, rfl, rfl, (by omega), ?_⟩⟩
            refine k _ _ (b2.trans But.upd_at) ⟨_, tn + 1, _, upd_same, by rw [upd_ne Lp]; exact hL2, Lp, hlen, by omega, by omega, ediv_lo hm ?_⟩ (fmod_lo _ hm) (fmod_hi _ hm)
            have e3 := of_decide_eq_true e2
            exact great_nn e3 _
          · skip
            refine ⟨_, rfl, .inl ⟨_, rfl, _, _, rfl, rfl, nz (by decide), _, rfl, _, _, rfl, rfl, .inl ⟨by decide, by decide⟩, _, _, rfl, rfl, _, _, rfl, rfl, _, _, rfl, rfl, ⟨by decide, by decide, bound1 _ (by decide) (by decide) (by decide) (by decide) t0 ht⟩, .inl ⟨_, rfl, _, _, rfl, rfl, nz (by decide), ?_⟩⟩⟩
            refine ⟨_, rfl, _, rfl, _, _, rfl, rfl, .inl ⟨by decide, by decide⟩, _, _, rfl, rfl, _, _, rfl, rfl, .inl ?_, _, rfl, _, _, rfl, rfl, .inl ⟨by decide, by decide⟩, _, rfl, _, _, rfl, rfl, .inl ?_, _, _, rfl, rfl, _, _, rfl, rfl, _, _, rfl, rfl, ⟨by decide, by decide, ?_⟩, .inl ⟨_, rfl, _, _, rfl, rfl, nz (by decide), ?_⟩⟩
            · exact lt64 (hq (by decide) (by decide))
            · exact ⟨by omega, by omega⟩
            · exact bound2 (hq (by decide) (by decide)) (by decide) (by decide) (by decide) t0 ht
            · refine ⟨_, rfl, _, _, rfl, rfl, ⟨by decide, by decide⟩, .inl ⟨_, rfl, _, rfl, _, _, rfl, rfl, (by omega), ?_⟩⟩
              exact k _ _ b2 (fin _ hp2 hL2 b2) (fmod_lo _ hm) (fmod_hi _ hm)
        · skip
          refine ⟨_, rfl, .inl ⟨_, rfl, _, _, rfl, rfl, nz (by decide), _, rfl, _, _, rfl, rfl, .inl ⟨by decide, by decide⟩, _, _, rfl, rfl, _, _, rfl, rfl, _, _, rfl, rfl, ⟨by decide, by decide, bound1 _ (by decide) (by decide) (by decide) (by decide) t0 ht⟩, .inl ⟨_, rfl, _, _, rfl, rfl, nz (by decide), ?_⟩⟩⟩
          refine ⟨_, rfl, _, rfl, _, _, rfl, rfl, .inl ⟨by decide, by decide⟩, _, _, rfl, rfl, _, _, rfl, rfl, .inl ?_, _, rfl, _, _, rfl, rfl, .inl ⟨by decide, by decide⟩, _, rfl, _, _, rfl, rfl, .inl ?_, _, _, rfl, rfl, _, _, rfl, rfl, _, _, rfl, rfl, ⟨by decide, by decide, ?_⟩, .inl ⟨_, rfl, _, _, rfl, rfl, nz (by decide), ?_⟩⟩
          · exact lt64 (hq (by decide) (by decide))
          · exact ⟨by omega, by omega⟩
          · exact bound2 (hq (by decide) (by decide)) (by decide) (by decide) (by decide) t0 ht
          · refine ⟨_, rfl, _, _, rfl, rfl, ⟨by decide, by decide⟩, .inl ⟨_, rfl, _, rfl, _, _, rfl, rfl, (by omega), ?_⟩⟩
            exact k _ _ b2 (fin _ hp2 hL2 b2) (fmod_lo _ hm) (fmod_hi _ hm)
end
end Ev
namespace Ev
open PySem L2 PySem.Spec PyProof.Rows
/-! Promises of defs that are called while no repr is under way (so what they make can be shown). -/
structure FnG (P : Program) (w : World) (K : PySem.W.Frag) (mg : Str → Option Value) (base : Heap) (k : Nat) (f : Addr)
    (fd : FuncData) (ps : List Str) (sp : Sp) : Prop where
  many : ∀ vs H Q E, sp vs H Q E → vs.length = ps.length
  goes : ∀ (A : Around) (above : List Env) (s : Shared) (H : Hp) (args : Args) (us : List Value) (vs : List V) (Q : VK)
    (E : XK), Room k A → A.guards = some [] → Env0 P w K mg base A above s H → BindsTo s fd args (ps.zip us) → Vals vs us →
    sp vs H Q E → codeAny (model P w) A (.call (.ref f) args) (CR CX0 above P w H s Q E) s
theorem FnG.of {P : Program} {w : World} {K : PySem.W.Frag} {mg : Str → Option Value} {base : Heap} {k : Nat} {f : Addr}
    {fd : FuncData} {ps : List Str} {sp : Sp} (F : FnOk P w K mg base CX0 k f fd ps sp) : FnG P w K mg base k f fd ps sp :=
  ⟨F.len, fun A above s H args us vs Q E hr _ => F.run A above s H args us vs Q E hr⟩
section
variable {P : Program} {w : World} {K : PySem.W.Frag} {mg : Str → Option Value} {base : Heap}
/-- a def by its body, where no repr is under way -/
theorem fng_of {x qual : Str} {st : Stmt} {f : Addr} {fd : FuncData} {N ps : List Str} {k : Nat} {sp : Sp} (F : Fun K x qual st f fd)
    (S : FnScope N ps (defScope st)) (many : ∀ vs H Q E, sp vs H Q E → vs.length = ps.length)
    (body : ∀ (cdv : Value) (A : Around) (above : List Env) (s : Shared) (H : Hp) (vs : List V) (Q : VK) (E : XK),
      Room k (A.deeper (envOfC qual (defScope st) s.heap.objs.size f cdv)) → A.guards = some [] → sp vs H Q E →
      ∃ t, PSs (cxOf CX0 P w K mg base N qual (defScope st) f cdv A above s H E).nox (defBody st) t ∧
        t { nx := fun _ H' => Q .non H', rt := Q } (start N vs) H) : FnG P w K mg base (k + 1) f fd ps sp := by
  obtain ⟨oc, od, kV, doc, pm, an, cdv, ct, osl, rfl, lk, hcd⟩ := F.ex
  constructor
  · exact many
  · intro A above s H args us vs Q E room gd env bt rv hs
    have inK : K.In s.heap := env.mod.kin.keeps fun b o e => (env.bs b o e).1
    have noLim : s.heap.NoLimit := env.mod.nolimit.keeps fun b o e => (env.bs b o e).1
    have kinds : ∀ y ∈ ps.zip us, (defScope st).names.lookup y.1 = some .local ∨
        ((defScope st).names.lookup y.1 = some .cell ∧ ((cellsFrom (s.heap.objs.size + 1) (defScope st).names []).lookup y.1).isSome = true) := by
      rintro ⟨n, v⟩ hy
      cases S.par n (List.of_mem_zip hy).1 with
      | inl q => exact .inl q
      | inr q => exact .inr ⟨q, PySem.W.cellsFrom_some _ _ _ (.inl q)⟩
    refine codeAny_call_function room.depth (inK _ _ lk) rfl S.co S.gen rfl (PySem.W.codeRec_of inK hcd) (bt _ _ _ _ ?_)
    refine wpAny_newFunctionEnv_cells S.kind kinds fun e2 he s2 x => ?_
    subst he
    refine ⟨noLim.keeps x.toInCall.keep, codeAny_func ?_⟩
    obtain ⟨t, ht, hq⟩ := body cdv A above s H vs Q E (room.deeper _) gd hs
    have inv := inv_start (CX := CX0) (E := E) S room.hd env (many _ _ _ _ hs) rv x
    refine wpAny_mono (ht.nox.run [] s2 (start N vs) H _ inv hq) (fun fl s3 h3 => ?_) fun e s3 h3 => h3
    cases fl with
    | ret u =>
      obtain ⟨v, σ3, H3, J, rr, q⟩ := h3
      exact ⟨v, H3, J.os, J.bare, J.base, J.hok, rr, q⟩
    | next =>
      obtain ⟨σ3, H3, J, q⟩ := h3
      exact ⟨.non, H3, J.os, J.bare, J.base, J.hok, rfl, q⟩
    | brk =>
      obtain ⟨_, _, _, z⟩ := h3
      exact False.elim z
    | cont =>
      obtain ⟨_, _, _, z⟩ := h3
      exact False.elim z
end
section
variable {X : Cx}
/-- f(e, ..) of such a def -/
theorem pe_callG {k : Nat} {f : Addr} {fd : FuncData} {ps : List Str} {sp : Sp} {E : XK} {x : Str} {p pos : Pos} {e : Expr} {es : List Expr} {t : TA}
    (F : FnG X.prog X.w X.K X.mg X.base k f fd ps sp) (room : Room k X.A) (gd : X.A.guards = some []) (hg : Gl X x)
    (hm : X.mg x = some (.ref f)) (kp : PySem.W.keepIn X.K (.ref f) = true) (hb : Binds X.K fd ps []) (ha : PA X (e :: es) t)
    (hdb : (x == ("__debug__" : Str)) = false := by decide)
    (he : starEach (e :: es) X.env = (false, eval e X.env) :: starEach es X.env := by rfl)
    (hpl : (backTo pos (starEach es X.env)).any (·.1) = false := by rfl) :
    PE X (.Call (.Name x p) (e :: es) [] pos) (tCall sp [] E t) := by
  constructor
  intro pins s σ H Q I h
  refine wpAny_Call_Name_kw (ld_glob I hg hm ?_ hdb)
  refine PySem.W.callWith_K (h₀ := X.base) I.ok.mod.kin kp (thn (ha.run pos pins s σ H _ I h) fun us s1 d => ?_) he hpl
  obtain ⟨vs, H1, I1, rv, q⟩ := d
  refine ⟨I1.kIn, ?_⟩
  have q : sp vs H1 Q E := by
    have q' : sp (vs ++ []) H1 Q E := q
    rw [List.append_nil] at q'
    exact q'
  have hl : us.length = ps.length := rv.length.symm.trans (F.many _ _ _ _ q)
  have bt := hb s1 us I1.kIn (by rw [List.append_nil]; exact hl)
  rw [List.append_nil] at bt
  refine wpAny_call (codeAny_mono (F.goes X.A X.stack s1 H1 ⟨us, []⟩ us vs Q E room gd I1.env0 bt rv q) fun r s2 h2 => ?_)
  cases r with
  | error e => exact False.elim h2
  | ok fl =>
    cases fl with
    | ret u => exact I1.after h2
    | next => exact False.elim h2
    | brk => exact False.elim h2
    | cont => exact False.elim h2
/-- repr of data, where none is under way -/
def rRepr (K : PySem.W.Frag) : List V → Hp → VK → Prop := fun xs H Q => ∃ (a : Addr) (d : PyData), xs = [.ref a] ∧ Dp K H (.ref a) d ∧
  d.showable = true ∧ d.hasDict = false ∧ d.depth ≤ 32 ∧ d.shown.length ≤ sizeLine ∧ Q (.str d.shown) H
theorem call_repr (gd : X.A.guards = some []) (hu : X.A.units + 64 < cLine) : CallR X (.builtin "repr") (rRepr X.K) := by
  intro pins s σ H xs us Q I r h
  obtain ⟨a, d, rfl, hd, h1, h2, h3, h4, q⟩ := h
  cases r with
  | cons r1 r2 =>
    cases r2
    cases r1
    obtain ⟨as, rd⟩ := Dp.reads I d (.ref a) (.ref a) hd rfl
    exact repr_of_reads' rd h1 (fun z => by rw [h2] at z; cases z) gd (by omega) (fun _ _ e => e)
      (fun h' u tk hk => ⟨.str d.shown, H, I.kept hk, ⟨u, rfl⟩, q⟩) h4
end
/-! ### the law's own call -/
section
variable {P : Program} {w : World} {K : PySem.W.Frag} {mg mb : Str → Option Value}
theorem law_callG {k : Nat} {fa a : Addr} {fd : FuncData} {x : Str} {sp : Sp} {s : Shared} {vs : List Value} {ns : List Int}
    (inK : K.In s.heap) (ns1 : s.heap.Ns mainGlobals mg) (ns2 : s.heap.Ns builtinsNs mb) (blt : ∀ x : Str, x ≠ "__name__" → mb x = bootBuiltins x)
    (noLim : s.heap.NoLimit) (hg : s.gens = #[]) (ha : s.heap.get? a = some { cls := .type "list", data := .seq vs.toArray })
    (hi : IntsAre vs ns) (hl : ns.length ≤ sizeLine) (hr : Room k callerA)
    (F : ∀ base : Heap, K.In base → base.Ns mainGlobals mg → FnG P w K mg base k fa fd [x] sp)
    (bt : ∀ (s : Shared) (u : Value), BindsTo s fd ⟨[u], []⟩ [(x, u)])
    (hsp : ∀ H : Hp, SqL K H a (ns.map V.int) → sp [.ref a] H (fun v _ => v = .bl true) fun _ _ _ => False) :
    codeAny (model P w) callerA (.call (.ref fa) ⟨[.ref a], []⟩)
      (fun r s' => r = .ok (.ret (.bool true)) ∧ OldK s.heap s'.heap ∧ s'.os = s.os ∧ AllBare s'.gens) s := by
  have rv := vals_ints hi
  have lv := hi.length
  have key : ∀ H : Hp, (∀ b u, H b = some u → b = a ∧ K.lookup a = none ∧ u = .frz { cls := .type "list", data := .seq vs.toArray } (.lst (ns.map V.int))) →
      SqL K H a (ns.map V.int) → codeAny (model P w) callerA (.call (.ref fa) ⟨[.ref a], []⟩)
        (fun r s' => r = .ok (.ret (.bool true)) ∧ OldK s.heap s'.heap ∧ s'.os = s.os ∧ AllBare s'.gens) s := by
    intro H only sq
    have ok : HOk P w H s.heap := by
      intro b u e
      obtain ⟨rfl, _, rfl⟩ := only b u e
      exact ⟨ha, by rw [List.length_map]; exact hl, vs, _, rv, ha⟩
    have plain : ∀ {b : Addr} {o : Obj} {es : Array DictEntry} {n : Nat}, s.heap.get? b = some o → o.data = .dict es n → H b = none := by
      intro b o es n e d
      cases q : H b with
      | none => rfl
      | some u =>
        obtain ⟨rfl, _, _⟩ := only b u q
        rw [ha] at e
        cases e
        exact nomatch d
    have names : ∀ {b : Addr} {m : Str → Option Value}, s.heap.Ns b m → (hidT s.heap H).Ns b m := by
      rintro b m ⟨o, es, n, e, d, r⟩
      exact ⟨o, es, n, hidT_get e (plain e d), d, r⟩
    have inB : K.In (hidT s.heap H) := by
      intro b o e
      refine hidT_get (inK b o e) ?_
      cases q : H b with
      | none => rfl
      | some u =>
        obtain ⟨rfl, n, _⟩ := only b u q
        rw [n] at e
        cases e
    obtain ⟨mc, l1, l2⟩ := noLim
    have md : Mod K mg (hidT s.heap H) := ⟨inB, names ns1, ⟨mb, names ns2, blt⟩, ⟨mc, names l1, l2⟩⟩
    have env : Env0 P w K mg (hidT s.heap H) callerA [] s H :=
      ⟨rfl, md, fun b o e => of_hidT e, Nat.le_of_eq (hidT_size _ _), trivial, (fun b hb => by cases hb), ok, .of_eq hg⟩
    have go := (F _ inB (names ns1)).goes callerA [] s H ⟨[.ref a], []⟩ [.ref a] [.ref a] _ _ hr rfl env (bt s (.ref a)) (.cons rfl .nil) (hsp H sq)
    refine codeAny_mono go fun r s2 h2 => ?_
    cases r with
    | error e => exact False.elim h2
    | ok fl =>
      cases fl with
      | next => exact False.elim h2
      | brk => exact False.elim h2
      | cont => exact False.elim h2
      | ret u =>
        obtain ⟨v, H2, os, bare, un, ok2, rr, q⟩ := h2
        obtain rfl : v = V.bl true := q
        obtain rfl : u = Value.bool true := rr
        refine ⟨rfl, OldK.of_keep fun b o e => ?_, os, bare⟩
        cases q : H b with
        | none => exact un.keep b o e q (by intro z; cases z) (by simp)
        | some u =>
          obtain ⟨rfl, _, rfl⟩ := only b u q
          obtain ⟨e1, _⟩ := ok b _ q
          obtain ⟨e2, _⟩ := ok2 b _ (un.frzs b _ _ q)
          rw [e] at e1
          cases e1
          exact e2
  cases hk : K.lookup a with
  | none =>
    refine key (fun b => if b = a then some (.frz { cls := .type "list", data := .seq vs.toArray } (.lst (ns.map V.int))) else none) (fun b u e => ?_) (.inl (.inr ⟨_, if_pos rfl⟩))
    by_cases z : b = a
    · rw [if_pos z] at e
      cases e
      exact ⟨z, hk, rfl⟩
    · rw [if_neg z] at e
      cases e
  | some o =>
    have e := inK a o hk
    rw [ha] at e
    cases e
    refine key (fun _ => none) (fun b u e => by cases e) (.inr ⟨_, vs.toArray, _, hk, rfl, rfl, rfl, ?_, by simpa using rv⟩)
    rw [List.size_toArray, lv]
    exact hl
end
theorem walk_ofG {l : PySem.W.OpenLaw} {n k : Nat} {q : Program} {loose : List Str} {XP : (Str → Option Value) → Heap → Prop} {YP : World → Heap → Prop}
    {d : DefRec} {K : Params → PySem.W.Frag} {sp : World → Sp} {x : Str} (hn : l.most = some n) (hn2 : n ≤ sizeLine) (hdf : d.params.defaults = [])
    (hr : Room k callerA) (hY : ∀ (w : World) (h : Heap), YP w h → (K w.params).In h)
    (F : ∀ (w : World) (mg : Str → Option Value) (fa : Addr) (h : Heap), (K w.params).In h → h.Ns mainGlobals mg → mg d.name = some (.ref fa) →
      ∃ fd : FuncData, (∀ (s : Shared) (u : Value), BindsTo s fd ⟨[u], []⟩ [(x, u)]) ∧
        ∀ base : Heap, (K w.params).In base → base.Ns mainGlobals mg → FnG l.prog w (K w.params) mg base k fa fd [x] (sp w))
    (hsp : ∀ (w : World) (H : Hp) (a : Addr) (ns : List Int), ns.length ≤ n → SqL (K w.params) H a (ns.map V.int) → sp w [.ref a] H (fun v _ => v = .bl true) fun _ _ _ => False) :
    PySem.W.WalkO q loose XP YP l.row.toRowW d [] (fun f vs => PySem.call f vs) := by
  refine Att.attach_call hn hdf fun w s0 s1 mg mb fa o pm cd doc a vs ns G Y h1 h2 h3 h4 h5 h6 h7 h8 => ?_
  obtain ⟨fd, bt, hF⟩ := F w mg fa _ (hY w _ Y) G.T.g h4
  exact law_callG (hY w _ Y) G.T.g G.T.b G.T.builtins G.T.nolimit h8 h5 h6 (Nat.le_trans h7 hn2) hr hF bt (fun H sq => hsp w H a ns h7 sq)
end Ev
namespace Ev
open PySem L2 PySem.Spec PyProof.Rows
theorem walk_ofGE {l : PySem.W.OpenLaw} {n k : Nat} {q : Program} {loose : List Str} {XP : (Str → Option Value) → Heap → Prop} {YP : World → Heap → Prop}
    {d : DefRec} {x : Str} (hn : l.most = some n) (hn2 : n ≤ sizeLine) (hdf : d.params.defaults = []) (hr : Room k callerA)
    (F : ∀ (w : World) (mg : Str → Option Value) (fa : Addr) (h : Heap), YP w h → h.Ns mainGlobals mg → mg d.name = some (.ref fa) →
      ∃ (K : PySem.W.Frag) (fd : FuncData) (sp : Sp), K.In h ∧ (∀ (s : Shared) (u : Value), BindsTo s fd ⟨[u], []⟩ [(x, u)]) ∧
        (∀ (H : Hp) (a : Addr) (ns : List Int), ns.length ≤ n → SqL K H a (ns.map V.int) → sp [.ref a] H (fun v _ => v = .bl true) fun _ _ _ => False) ∧
        ∀ base : Heap, K.In base → base.Ns mainGlobals mg → FnG l.prog w K mg base k fa fd [x] sp) :
    PySem.W.WalkO q loose XP YP l.row.toRowW d [] (fun f vs => PySem.call f vs) := by
  refine Att.attach_call hn hdf fun w s0 s1 mg mb fa o pm cd doc a vs ns G Y h1 h2 h3 h4 h5 h6 h7 h8 => ?_
  obtain ⟨K, fd, sp, inK, bt, hsp, hF⟩ := F w mg fa _ Y G.T.g h4
  exact law_callG inK G.T.g G.T.b G.T.builtins G.T.nolimit h8 h5 h6 (Nat.le_trans h7 hn2) hr hF bt (fun H sq => hsp H a ns h7 sq)
end Ev
namespace Ev
open PySem L2
def spIsInt : Sp := fun vs H Q _ => ∃ i : Int, vs = [.int i] ∧ Q (.bl true) H
def spWithin : Sp := fun vs H Q _ => ∃ v l m : Int, vs = [.int v, .int l, .int m] ∧ l ≤ v ∧ v ≤ m ∧ Q (.bl true) H
def spPair (_K : PySem.W.Frag) : Sp := fun vs H Q _ => ∃ (a : Addr) (x y m : Int), vs = [.ref a, .int m] ∧ H a = some (.tup [.int x, .int y]) ∧ (1 ≤ x ∧ x ≤ m) ∧ (1 ≤ y ∧ y ≤ m) ∧ ∀ H', Same H H' → Q (.bl true) H'
section
variable {P : Program} {w : World} {K : PySem.W.Frag} {mg : Str → Option Value} {base : Heap}
theorem scIsInt : FnScope ["value"] ["value"] (defScope sIsInt) := ⟨rfl, rfl, rfl, by decide +kernel, rfl, by decide +kernel, by decide +kernel⟩
theorem ok_isInt {f : Addr} {fd : FuncData} (F : Fun K "is_integer" "is_integer" sIsInt f fd) (T : Blt mg) : FnOk P w K mg base CX0 1 f fd ["value"] spIsInt := by
  refine F.ok scIsInt (fun vs H Q E h => ?_) (fun cdv A outer s H vs Q E hr h => ?_)
  · obtain ⟨i, rfl, _⟩ := h
    rfl
  · obtain ⟨i, rfl, k⟩ := h
    refine ⟨_, pss_one (ps_ret (pe_and (pe_callB call_isi (by rfl) T.isi (by decide +kernel) (pa_cons (pv 0) (pa_cons (pe_bltn (v := .ty "int") (by rfl) T.int (by decide +kernel) rfl) pa_nil)))
      (pe_one (pe_not (pe_callB call_isi (by rfl) T.isi (by decide +kernel) (pa_cons (pv 0) (pa_cons (pe_bltn (v := .ty "bool") (by rfl) T.bool (by decide +kernel) rfl) pa_nil))))))), ?_⟩
    refine ⟨_, rfl, _, _, _, _, true, rfl, .ty _, .base (.int i), kit_ty (by decide +kernel), true, rfl, iteT ⟨_, rfl, _, _, _, _, false, rfl, .ty _, .base (.int i), kit_ty (by decide +kernel), _, rfl, ?_⟩⟩
    exact k
theorem scWithin : FnScope ["value", "least", "most"] ["value", "least", "most"] (defScope sWithin) := ⟨rfl, rfl, rfl, by decide +kernel, rfl, by decide +kernel, by decide +kernel⟩
theorem ok_within {f fI : Addr} {fd fdI : FuncData} (F : Fun K "is_within" "is_within" sWithin f fd) (T : Blt mg)
    (GI : FnOk P w K mg base CX0 1 fI fdI ["value"] spIsInt) (gI : mg "is_integer" = some (.ref fI)) (kI : PySem.W.keepIn K (.ref fI) = true) (bI : Binds K fdI ["value"] []) : FnOk P w K mg base CX0 2 f fd ["value", "least", "most"] spWithin := by
  refine F.ok scWithin (fun vs H Q E h => ?_) (fun cdv A outer s H vs Q E hr h => ?_)
  · obtain ⟨v, l, m, rfl, _⟩ := h
    rfl
  · obtain ⟨v, l, m, rfl, h1, h2, k⟩ := h
    refine ⟨_, pss_one (ps_ret (pe_and (pe_call GI hr (by rfl) gI kI bI .nil pass0 (pa_cons (pv 0) pa_nil)) (pe_one (pe_chain op_le op_le (pv 1) (pv 0) (pv 2))))), ?_⟩
    refine ⟨_, rfl, v, rfl, true, rfl, iteT ⟨_, rfl, _, rfl, _, _, rfl, rfl, true, congrArg V.bl (decide_eq_true h1), iteT ⟨_, rfl, _, _, rfl, rfl, ?_⟩⟩⟩
    show Q (.bl (decide (v ≤ m))) H
    rw [decide_eq_true h2]
    exact k

/-- a def that stands under its name -/
structure Df (P : Program) (w : World) (K : PySem.W.Frag) (mg : Str → Option Value) (base : Heap) (k : Nat) (x : Str) (ps : List Str) (sp : Sp) : Prop where
  ex : ∃ (f : Addr) (fd : FuncData), FnOk P w K mg base CX0 k f fd ps sp ∧ mg x = some (.ref f) ∧ PySem.W.keepIn K (.ref f) = true ∧ Binds K fd ps []
theorem scPair : FnScope ["value", "most", "item"] ["value", "most"] (defScope sPair) := ⟨rfl, rfl, rfl, by decide +kernel, rfl, by decide +kernel, by decide +kernel⟩
theorem ok_pair {f : Addr} {fd : FuncData} (F : Fun K "is_pair" "is_pair" sPair f fd) (T : Blt mg) (D : Df P w K mg base 2 "is_within" ["value", "least", "most"] spWithin) :
    FnOk P w K mg base CX0 3 f fd ["value", "most"] (spPair K) := by
  obtain ⟨fW, fdW, GW, gW, kW, bW⟩ := D.ex
  refine F.ok scPair (fun vs H Q E h => ?_) (fun cdv A outer s H vs Q E hr h => ?_)
  · obtain ⟨a, x, y, m, rfl, _⟩ := h
    rfl
  · obtain ⟨a, x, y, m, rfl, ha, hx, hy, k⟩ := h
    refine ⟨_, pss_one (ps_ret (pe_and (pe_callB call_isi (by rfl) T.isi (by decide +kernel) (pa_cons (pv 0) (pa_cons (pe_bltn (v := .ty "tuple") (by rfl) T.tuple (by decide +kernel) rfl) pa_nil)))
      (pe_and (pe_cmpR op_eq (pe_callB call_len_seq (by rfl) T.len PySem.boot_len (pa_cons (pv 0) pa_nil)) pe_int (nomark _))
      (pe_one (pe_callB (cr_all rfl) (by rfl) T.all (by decide +kernel) (pa_cons (pe_lc (own := [("item", 2)]) (g := gName 2) (by rfl) scPair.nd (pi_tup (pv 0)) (blkOk_by (own := [("item", 2)]) (N := ["value", "most", "item"]) (sc := defScope sPair) (by decide +kernel))
          (fun _ _ _ _ _ => pg_name (i := 2) scPair.nd rfl (.inl rfl)) (fun _ _ _ _ _ => pts_nil) (fun _ _ _ _ _ => pe_call GW hr (by rfl) gW kW bW .nil pass0 (pa_cons (pv 2) (pa_cons pe_int (pa_cons (pv 1) pa_nil))))) pa_nil)))))), ?_⟩
    refine ⟨_, rfl, _, _, _, _, true, rfl, .ty _, .base (.tup ha), kit_ty (by decide +kernel), true, rfl, iteT ⟨_, rfl, a, _, rfl, .inr (SqT.of ha), rfl, true, congrArg V.bl (decide_eq_true rfl), iteT ⟨_, rfl, a, rfl, ⟨_, SqT.of ha⟩, fun D nD => ?_⟩⟩⟩
    have naD : a ≠ D := ne_of_none ha nD
    refine lc_tup (xs := [V.int x, V.int y]) (fun i H' => H' D = some (.lst ((List.replicate i true).map V.bl)) ∧ But D H H') ⟨upd_same, But.upd_at⟩ (fun i H' _ h => SqT.of (h.2 _ _ naD ha)) (fun i v H' hi ⟨e1, e2⟩ => ?_) (fun H' ⟨e1, e2⟩ => ?_)
    · obtain ⟨z, rfl, z1, z2⟩ : ∃ z : Int, v = .int z ∧ 1 ≤ z ∧ z ≤ m := by
        match i, hi with
        | 0, hi => exact ⟨x, (Option.some.inj hi).symm, hx.1, hx.2⟩
        | 1, hi => exact ⟨y, (Option.some.inj hi).symm, hy.1, hy.2⟩
        | n + 2, hi => cases hi
      have hil : i < 2 := (List.getElem?_eq_some_iff.mp hi).1
      refine ⟨rfl, _, rfl, _, rfl, _, _, _, rfl, z1, z2, _, e1, ?_, ?_, ?_⟩
      · rw [List.length_map, List.length_replicate]; exact small1000 (by omega)
      · rw [List.replicate_succ', List.map_append]
        exact upd_same
      · exact e2.trans But.upd_at
    · refine ⟨D, [true, true], rfl, SqL.of e1, ?_⟩
      exact k H' fun b o e => e2 b o (ne_of_none e nD) e
end
end Ev
namespace Ev
open PySem L2 PySem.Spec PyProof.Rows
theorem same_new {H : Hp} {q : Addr} {o : HO} (n : H q = none) : Same H (upd H q o) := fun b u e => by rw [upd_ne (ne_of_none e n)]; exact e
theorem lk_hit {k : Str} {v : V} {l : List (Str × V)} : List.lookup k ((k, v) :: l) = some v := by simp [List.lookup]
theorem lk_miss {k k' : Str} {v : V} {l : List (Str × V)} (h : ¬ k = k') : List.lookup k ((k', v) :: l) = List.lookup k l := by
  have : (k == k') = false := by simpa using h
  simp [List.lookup, this]
theorem Pen.new {L : Addr} {H : Hp} {p q : Addr} {B : Int} {o : HO} (h : Pen L H p B) (n : H q = none) : Pen L (upd H q o) p B := h.keep (fun b u e => by rw [upd_ne (ne_of_none e n)]; exact e)
theorem Pen.some {L : Addr} {H : Hp} {p : Addr} {B : Int} (h : Pen L H p B) : ∃ xs, H p = some (.lst xs) := by
  obtain ⟨ns, t, c, h1, _⟩ := h
  exact ⟨_, h1⟩
theorem Pen.ne {L : Addr} {H : Hp} {p q : Addr} {B : Int} (h : Pen L H p B) (n : H q = none) : q ≠ p := by
  obtain ⟨xs, e⟩ := h.some
  exact (ne_of_none e n).symm
theorem But.free {L p a : Addr} {H H' : Hp} {B : Int} (t : But p H H') (h : Pen L H' p B) (n : H' a = none) : H a = none := by
  cases e : H a with
  | none => rfl
  | some o =>
    have := t a o (h.ne n) e
    rw [n] at this
    cases this
def spPick : Sp := fun vs H Q _ => ∃ (p l L : Addr) (xs : List V) (B : Int), vs = [.ref p, .ref l] ∧ H l = some (.lst xs) ∧ l ≠ p ∧ 1 ≤ xs.length ∧ xs.length ≤ 1000 ∧ B ≤ 1000000 ∧ Pen L H p B ∧
  ∀ (d : V) (H' : Hp), d ∈ xs → But p H H' → Pen L H' p (B + 1) → Q d H'
def spPen (K : PySem.W.Frag) : Sp := fun vs H Q _ => ∃ (a : Addr) (ns : List Int), vs = [.ref a] ∧ SqL K H a (ns.map V.int) ∧ ns.length ≤ 63 ∧
  ∀ (p L : Addr) (H' : Hp), H p = none → Same H H' → Pen L H' p 0 → Q (.ref p) H'
def spLaw (K : PySem.W.Frag) : Sp := fun vs H Q _ => ∃ (a : Addr) (ns : List Int), vs = [.ref a] ∧ SqL K H a (ns.map V.int) ∧ ns.length ≤ 63 ∧ ∀ H', Q (.bl true) H'
theorem But.tup {L p a : Addr} {H H' : Hp} {B : Int} {xs : List V} (h : H a = some (.tup xs)) (pn : Pen L H p B) (t : But p H H') : H' a = some (.tup xs) := by
  obtain ⟨ys, e⟩ := pn.some
  exact t _ _ (ne_of h e (by intro z; cases z)) h
theorem Pen.put {L p D : Addr} {H : Hp} {B : Int} {o : HO} (h : Pen L H p B) (d1 : D ≠ p) (d2 : D ≠ L) : Pen L (upd H D o) p B := by
  obtain ⟨ns, t, c, h1, h2, h3⟩ := h
  exact ⟨ns, t, c, by rw [upd_ne d1.symm]; exact h1, by rw [upd_ne d2.symm]; exact h2, h3⟩
theorem Pen.neL {L p D : Addr} {H : Hp} {B : Int} (h : Pen L H p B) (n : H D = none) : D ≠ L := by
  obtain ⟨ns, t, c, h1, h2, h3⟩ := h
  exact (ne_of_none h2 n).symm
theorem cut_ints (ns : List Int) (h : Int) : ∃ ms : List Int, cutV (ns.map V.int) none (some h) = ms.map V.int ∧ ms.length ≤ ns.length := by
  unfold cutV
  generalize HT.sIx (ns.map V.int).length 0 none = x
  generalize HT.sIx (ns.map V.int).length (ns.map V.int).length (some h) - x = y
  refine ⟨(ns.drop x).take y, ?_, ?_⟩
  · rw [List.map_take, List.map_drop]
  · rw [List.length_take, List.length_drop]; omega
theorem int_at {ns : List Int} {i : Nat} {x : V} (h : (ns.map V.int)[i]? = some x) : ∃ n, ns[i]? = some n ∧ x = .int n := by
  rw [List.getElem?_map] at h
  cases z : ns[i]? with
  | none => rw [z] at h; cases h
  | some n => rw [z] at h; exact ⟨n, rfl, (Option.some.inj h).symm⟩
theorem tup1 {a b : V} : atI [a, b] 1 = some b := atI_nat (j := 1) rfl
theorem tup0 {a b : V} : atI [a, b] 0 = some a := atI_nat (j := 0) rfl
theorem m64 {q : Int} (h1 : 1 ≤ q) (h2 : q ≤ 8) : -(2 ^ 64) < q ∧ q < 2 ^ 64 := ⟨by omega, by omega⟩
theorem mw {q b : Int} (h1 : -b ≤ q) (h2 : q ≤ b) (hb : b ≤ 10 ^ 19) : -(2 ^ 64) < q ∧ q < 2 ^ 64 := ⟨by omega, by omega⟩
section
variable {P : Program} {w : World} {K : PySem.W.Frag} {mg : Str → Option Value} {base : Heap}
theorem scPick : FnScope ["_law_pen_here", "_law_some"] ["_law_pen_here", "_law_some"] (defScope sPick) := ⟨rfl, rfl, rfl, by decide +kernel, rfl, by decide +kernel, by decide +kernel⟩
theorem ok_pick {f : Addr} {fd : FuncData} (F : Fun K "_law_pick" "_law_pick" sPick f fd) (T : Blt mg) (D : Df P w K mg base 1 "_law_draw" ["_law_pen_here", "_law_many"] spDraw) : FnOk P w K mg base CX0 2 f fd ["_law_pen_here", "_law_some"] spPick := by
  obtain ⟨f1, fd1, G1, g1, k1, b1⟩ := D.ex
  refine F.ok scPick (fun vs H Q E h => ?_) (fun cdv A outer s H vs Q E hr h => ?_)
  · obtain ⟨p, l, L, xs, B, rfl, _⟩ := h
    rfl
  · obtain ⟨p, l, L, xs, B, rfl, hl, hne, x1, x2, hB, hp, kk⟩ := h
    refine ⟨_, pss_one (ps_ret (pe_ix ix_list (pv 1) (pe_call G1 hr (by rfl) g1 k1 b1 .nil pass0 (pa_cons (pv 0) (pa_cons (pe_callB call_len_seq (by rfl) T.len PySem.boot_len (pa_cons (pv 1) pa_nil)) pa_nil))) (fun _ _ => rfl))), ?_⟩
    refine ⟨_, rfl, _, rfl, _, rfl, l, _, rfl, .inl (SqL.of hl), p, L, _, B, rfl, by omega, by omega, hB, hp, fun d H1 bt pn d0 d1 => ?_⟩
    obtain ⟨j, rfl⟩ := Int.eq_ofNat_of_zero_le d0
    have hj : j < xs.length := by omega
    refine ⟨l, xs, _, xs[j], rfl, rfl, SqL.of (bt _ _ hne hl), atI_nat (List.getElem?_eq_getElem hj), ?_⟩
    exact kk _ _ (List.getElem_mem hj) bt pn
theorem scPen : FnScope ["_law_script"] ["_law_script"] (defScope sPen) := ⟨rfl, rfl, rfl, by decide +kernel, rfl, by decide +kernel, by decide +kernel⟩
theorem ok_pen {f : Addr} {fd : FuncData} (F : Fun K "_law_pen" "_law_pen" sPen f fd) (T : Blt mg) : FnOk P w K mg base CX0 1 f fd ["_law_script"] (spPen K) := by
  refine F.ok scPen (fun vs H Q E h => ?_) (fun cdv A outer s H vs Q E hr h => ?_)
  · obtain ⟨a, ns, rfl, _⟩ := h
    rfl
  · obtain ⟨a, ns, rfl, hS, hlen, kk⟩ := h
    refine ⟨_, pss_one (ps_ret (pe_lst (pa_cons (pe_callTy call_list_of (by rfl) T.list (by decide +kernel) (pa_cons (pe_slice sl_list (pv 0) po_none (po_some pe_int)) pa_nil)) (pa_cons pe_int (pa_cons pe_int pa_nil))))), ?_⟩
    refine ⟨_, rfl, _, rfl, a, _, rfl, hS, fun l1 nl1 => ⟨l1, _, rfl, .inl (SqL.of upd_same), fun l2 nl2 => ⟨(by show 3 ≤ sizeLine; decide), fun p np => ?_⟩⟩⟩
    obtain ⟨ms, e1, e2⟩ := cut_ints ns 63
    rw [e1] at nl2 np ⊢
    have s1 : Same H (upd (upd H l1 (.lst (ms.map V.int))) l2 (.lst (ms.map V.int))) := (same_new nl1).trans (same_new nl2)
    have s2 := s1.trans (same_new (o := .lst [.ref l2, .int 0, .int 0]) np)
    refine kk p l2 _ ?_ s2 ⟨ms, 0, 0, upd_same, by rw [upd_ne (ne_of_none upd_same np)]; exact upd_same, ne_of_none upd_same np, by omega, by decide, by decide, by decide⟩
    cases z : H p with
    | none => rfl
    | some o => rw [s1 _ _ z] at np; cases np
end
end Ev
namespace Ev
open PySem L2 PySem.Spec PyProof.Rows RZ
/-! Fill rules. -/
structure Fr where
  p : Int
  q : Int
  k : Int
  c : Int
  j : Int
structure Fr.ok (r : Fr) : Prop where
  p1 : 1 ≤ r.p
  p2 : r.p ≤ 12
  q1 : 1 ≤ r.q
  q2 : r.q ≤ 12
  k1 : -12 ≤ r.k
  k2 : r.k ≤ 12
  c1 : 1 ≤ r.c
  c2 : r.c ≤ 5
  j1 : 2 ≤ r.j
  j2 : r.j ≤ 6
def Fr.wd (r : Fr) : Int := if r.c > r.j then r.c else r.j
def Fr.least (r : Fr) (m : Int) : Int := (r.p * m + r.k).fdiv r.q
def Fr.many (r : Fr) : Int := if r.c + 1 < r.j then r.c + 1 else r.j
def Fr.right (r : Fr) (m : Int) : Bool := decide (1 ≤ r.least m) && decide (r.many * r.least m ≤ (r.many - 1) * m + 1)
def fillF (a : Addr) (r : Fr) : List (Str × V) := [("times", .ref a), ("plus", .int r.k), ("cut_of", .int r.c), ("join_of", .int r.j), ("width", .int r.wd)]
def FAt (C : Addr) (H : Hp) (x : Addr) (r : Fr) : Prop := ∃ dx a, H x = some (.ins C dx (fillF a r)) ∧ H a = some (.tup [.int r.p, .int r.q])
theorem FAt.keep {C x : Addr} {H H' : Hp} {r : Fr} (h : FAt C H x r) (k : Same H H') : FAt C H' x r := by
  obtain ⟨dx, a, h1, h2⟩ := h
  exact ⟨dx, a, k _ _ h1, k _ _ h2⟩
theorem FAt.but {C x p : Addr} {H H' : Hp} {r : Fr} {xs : List V} (h : FAt C H x r) (hp : H p = some (.lst xs)) (k : But p H H') : FAt C H' x r := by
  obtain ⟨dx, a, h1, h2⟩ := h
  exact ⟨dx, a, k _ _ (ne_of h1 hp (by intro z; cases z)) h1, k _ _ (ne_of h2 hp (by intro z; cases z)) h2⟩
theorem fill_times (a : Addr) (r : Fr) : (fillF a r).lookup ("times" : Str) = some (.ref a) := lk_hit
theorem fill_plus (a : Addr) (r : Fr) : (fillF a r).lookup ("plus" : Str) = some (.int r.k) := (lk_miss (by decide +kernel)).trans lk_hit
theorem fill_cut (a : Addr) (r : Fr) : (fillF a r).lookup ("cut_of" : Str) = some (.int r.c) := (lk_miss (by decide +kernel)).trans ((lk_miss (by decide +kernel)).trans lk_hit)
theorem fill_join (a : Addr) (r : Fr) : (fillF a r).lookup ("join_of" : Str) = some (.int r.j) := (lk_miss (by decide +kernel)).trans ((lk_miss (by decide +kernel)).trans ((lk_miss (by decide +kernel)).trans lk_hit))
theorem fill_width (a : Addr) (r : Fr) : (fillF a r).lookup ("width" : Str) = some (.int r.wd) := (lk_miss (by decide +kernel)).trans ((lk_miss (by decide +kernel)).trans ((lk_miss (by decide +kernel)).trans ((lk_miss (by decide +kernel)).trans lk_hit)))
theorem fill_no (a : Addr) (r : Fr) {m : Str} (h1 : ¬ m = "times") (h2 : ¬ m = "plus") (h3 : ¬ m = "cut_of") (h4 : ¬ m = "join_of") (h5 : ¬ m = "width") : (fillF a r).lookup m = none := (lk_miss h1).trans ((lk_miss h2).trans ((lk_miss h3).trans ((lk_miss h4).trans ((lk_miss h5).trans rfl))))
theorem put_new {k : Str} {v : V} : ∀ {l : List (Str × V)}, (∀ e ∈ l, ¬ e.1 = k) → putF k v l = l ++ [(k, v)]
  | [], _ => rfl
  | (k', v') :: l, h => by
    show (if k' = k then _ else _) = _
    rw [if_neg (h _ List.mem_cons_self)]
    show (k', v') :: putF k v l = _
    rw [put_new (fun e he => h e (List.mem_cons_of_mem _ he))]
    rfl
theorem pf1 {a : V} : putF "times" a [] = ([("times", a)] : List (Str × V)) := rfl
theorem pf2 {a b : V} : putF "plus" b ([("times", a)] : List (Str × V)) = ([("times", a), ("plus", b)] : List (Str × V)) := put_new (by intro e0 he; simp only [List.mem_cons, List.not_mem_nil, or_false] at he; subst he; dsimp only; decide +kernel)
theorem pf3 {a b c : V} : putF "cut_of" c ([("times", a), ("plus", b)] : List (Str × V)) = ([("times", a), ("plus", b), ("cut_of", c)] : List (Str × V)) := put_new (by intro e0 he; simp only [List.mem_cons, List.not_mem_nil, or_false] at he; rcases he with rfl | rfl <;> (dsimp only; decide +kernel))
theorem pf4 {a b c d : V} : putF "join_of" d ([("times", a), ("plus", b), ("cut_of", c)] : List (Str × V)) = ([("times", a), ("plus", b), ("cut_of", c), ("join_of", d)] : List (Str × V)) := put_new (by intro e0 he; simp only [List.mem_cons, List.not_mem_nil, or_false] at he; rcases he with rfl | rfl | rfl <;> (dsimp only; decide +kernel))
theorem pf5 {a b c d e : V} : putF "width" e ([("times", a), ("plus", b), ("cut_of", c), ("join_of", d)] : List (Str × V)) = ([("times", a), ("plus", b), ("cut_of", c), ("join_of", d), ("width", e)] : List (Str × V)) := put_new (by intro e0 he; simp only [List.mem_cons, List.not_mem_nil, or_false] at he; rcases he with rfl | rfl | rfl | rfl <;> (dsimp only; decide +kernel))
/-- the class of fill rules -/
structure FCls (K : PySem.W.Frag) (C : Addr) : Prop where
  cl : Cls K C
  n1 : NoAttr K C "times"
  n2 : NoAttr K C "plus"
  n3 : NoAttr K C "cut_of"
  n4 : NoAttr K C "join_of"
  n5 : NoAttr K C "width"
inductive CanOK (H : Hp) : Str → V → Prop
  | times (a : Addr) (x y : Int) (h : H a = some (.tup [.int x, .int y])) (h1 : 1 ≤ x ∧ x ≤ 12) (h2 : 1 ≤ y ∧ y ≤ 12) : CanOK H "times" (.ref a)
  | plus (i : Int) (h1 : -12 ≤ i) (h2 : i ≤ 12) : CanOK H "plus" (.int i)
  | cut (i : Int) (h1 : 1 ≤ i) (h2 : i ≤ 5) : CanOK H "cut_of" (.int i)
  | join (i : Int) (h1 : 2 ≤ i) (h2 : i ≤ 6) : CanOK H "join_of" (.int i)
def parts4 : List V := [.str "times", .str "plus", .str "cut_of", .str "join_of"]
/-- the tables PARTS and BOUNDS -/
structure Tabs (K : PySem.W.Frag) (w : World) (mg : Str → Option Value) (TP D D1 D2 D3 : Addr) : Prop where
  gP : mg "PARTS" = some (.ref TP)
  tP : ∀ H : Hp, SqT K H TP parts4
  gB : mg "BOUNDS" = some (.ref D)
  kd : ∃ es n, KDict K w D es n
  l1 : PySem.W.nsIn K D "plus" = some (some (.ref D1))
  l2 : PySem.W.nsIn K D "cut_of" = some (some (.ref D2))
  l3 : PySem.W.nsIn K D "join_of" = some (some (.ref D3))
  t1 : ∀ H : Hp, SqT K H D1 [.int (-12), .int 12]
  t2 : ∀ H : Hp, SqT K H D2 [.int 1, .int 5]
  t3 : ∀ H : Hp, SqT K H D3 [.int 2, .int 6]
def spLeastOf (C : Addr) : Sp := fun vs H Q _ => ∃ (x : Addr) (r : Fr) (m : Int), vs = [.ref x, .int m] ∧ FAt C H x r ∧ r.ok ∧ Q (.int (r.least m)) H
def spCrucial (C : Addr) : Sp := fun vs H Q _ => ∃ (x : Addr) (r : Fr), vs = [.ref x] ∧ FAt C H x r ∧ Q (.int r.many) H
def spRightFor (C : Addr) : Sp := fun vs H Q _ => ∃ (x : Addr) (r : Fr) (m : Int), vs = [.ref x, .int m] ∧ FAt C H x r ∧ r.ok ∧ Q (.bl (r.right m)) H
def spNeedSize : Sp := fun vs H Q _ => ∃ m : Int, vs = [.int m] ∧ 2 ≤ m ∧ m ≤ 10 ^ 12 ∧ Q .non H
def spFits (C : Addr) : Sp := fun vs H Q _ => ∃ (x : Addr) (r : Fr) (m : Int), vs = [.ref x, .int m] ∧ FAt C H x r ∧ r.ok ∧ 2 ≤ m ∧ m ≤ 10 ^ 12 ∧ Q (.bl (r.right m)) H
def spLeastFill (C : Addr) : Sp := fun vs H Q _ => ∃ (x : Addr) (r : Fr) (m : Int), vs = [.ref x, .int m] ∧ FAt C H x r ∧ r.ok ∧ 2 ≤ m ∧ m ≤ 10 ^ 12 ∧ Q (.int (r.least m)) H
def spCanBe : Sp := fun vs H Q _ => ∃ (part : Str) (v : V), vs = [.str part, v] ∧ CanOK H part v ∧ ∀ H', Same H H' → Q (.bl true) H'
def spFillInit (C : Addr) : Sp := fun vs H Q _ => ∃ (x dx a : Addr) (r : Fr), vs = [.ref x, .ref a, .int r.k, .int r.c, .int r.j] ∧ H x = some (.ins C dx []) ∧ H a = some (.tup [.int r.p, .int r.q]) ∧ r.ok ∧
  ∀ H', But x H H' → H' x = some (.ins C dx (fillF a r)) → Q .non H'
theorem Fr.many_le {r : Fr} (o : r.ok) : 2 ≤ r.many ∧ r.many ≤ 6 := by
  have := o.c1; have := o.j1; have := o.j2
  unfold Fr.many
  by_cases z : r.c + 1 < r.j
  · rw [if_pos z]; omega
  · rw [if_neg z]; omega
section
variable {P : Program} {w : World} {K : PySem.W.Frag} {mg : Str → Option Value} {base : Heap}
theorem scLeastOf : FnScope ["rule", "most", "over", "under"] ["rule", "most"] (defScope sLeastOf) := ⟨rfl, rfl, rfl, by decide +kernel, rfl, by decide +kernel, by decide +kernel⟩
theorem ok_leastOf {f C : Addr} {fd : FuncData} (F : Fun K "least_of" "least_of" sLeastOf f fd) (T : FCls K C) : FnOk P w K mg base CX0 1 f fd ["rule", "most"] (spLeastOf C) := by
  refine F.ok scLeastOf (fun vs H Q E h => ?_) (fun cdv A outer s H vs Q E hr h => ?_)
  · obtain ⟨x, r, m, rfl, _⟩ := h
    rfl
  · obtain ⟨x, r, m, rfl, ⟨dx, a, hx, ha⟩, o, kk⟩ := h
    have o1 := o.q1; have o2 := o.q2
    refine ⟨_, (pss_cons (ps_asg (pe_fld (pv 0) rfl) (pg_tup (by rfl) (pgs_cons (pg_name (i := 2) scLeastOf.nd rfl (.inl rfl)) (pgs_cons (pg_name (i := 3) scLeastOf.nd rfl (.inl rfl)) pgs_nil))))
      (pss_one (ps_ret (pe_op op_fdivN (pe_op op_add (pe_op op_mul (pv 2) (pv 1)) (pe_fld (pv 0) rfl)) (pv 3))))), ?_⟩
    refine ⟨_, rfl, x, C, dx, _, _, rfl, hx, T.cl, T.n1, fill_times _ _, a, _, rfl, SqT.of ha, rfl, _, _, rfl, _, _, rfl, rfl, ?_⟩
    exact ⟨_, rfl, _, rfl, _, _, rfl, rfl, .inl (mw (b := 12) (by have := o.p1; omega) o.p2 (by decide)), _, rfl, x, C, dx, _, _, rfl, hx, T.cl, T.n2, fill_plus _ _, _, _, rfl, rfl, _, rfl, _, _, rfl, rfl, ⟨by omega, by omega⟩, kk⟩
theorem scCrucialOf : FnScope ["rule"] ["rule"] (defScope sCrucialOf) := ⟨rfl, rfl, rfl, by decide +kernel, rfl, by decide +kernel, by decide +kernel⟩
theorem ok_crucial {f C : Addr} {fd : FuncData} (F : Fun K "crucial_of" "crucial_of" sCrucialOf f fd) (T : FCls K C) : FnOk P w K mg base CX0 1 f fd ["rule"] (spCrucial C) := by
  refine F.ok scCrucialOf (fun vs H Q E h => ?_) (fun cdv A outer s H vs Q E hr h => ?_)
  · obtain ⟨x, r, rfl, _⟩ := h
    rfl
  · obtain ⟨x, r, rfl, ⟨dx, a, hx, ha⟩, kk⟩ := h
    refine ⟨_, (pss_one (ps_ret (pe_ifExp (pt_cmpR op_lt (pe_op op_add (pe_fld (pv 0) rfl) pe_int) (pe_fld (pv 0) rfl) (nomark _)) (pe_op op_add (pe_fld (pv 0) rfl) pe_int) (pe_fld (pv 0) rfl)))), ?_⟩
    refine ⟨_, rfl, x, C, dx, _, _, rfl, hx, T.cl, T.n3, fill_cut _ _, _, _, rfl, rfl, _, rfl, x, C, dx, _, _, rfl, hx, T.cl, T.n4, fill_join _ _, _, _, rfl, rfl, _, rfl, ite2 (fun e => ?_) (fun e => ?_)⟩
    · have e := of_decide_eq_true e
      unfold Fr.many at kk
      rw [if_pos e] at kk
      exact ⟨_, rfl, x, C, dx, _, _, rfl, hx, T.cl, T.n3, fill_cut _ _, _, _, rfl, rfl, kk⟩
    · have e : ¬ (r.c + 1 < r.j) := fun z => e (decide_eq_true z)
      unfold Fr.many at kk
      rw [if_neg e] at kk
      exact ⟨_, rfl, x, C, dx, _, _, rfl, hx, T.cl, T.n4, fill_join _ _, kk⟩
theorem scIsRightFor : FnScope ["rule", "most", "least", "many"] ["rule", "most"] (defScope sIsRightFor) := ⟨rfl, rfl, rfl, by decide +kernel, rfl, by decide +kernel, by decide +kernel⟩
theorem ok_rightFor {f C : Addr} {fd : FuncData} (F : Fun K "is_right_for" "is_right_for" sIsRightFor f fd) (D1 : Df P w K mg base 1 "least_of" ["rule", "most"] (spLeastOf C)) (D2 : Df P w K mg base 1 "crucial_of" ["rule"] (spCrucial C)) : FnOk P w K mg base CX0 2 f fd ["rule", "most"] (spRightFor C) := by
  obtain ⟨f1, fd1, G1, g1, k1, b1⟩ := D1.ex
  obtain ⟨f2, fd2, G2, g2, k2, b2⟩ := D2.ex
  refine F.ok scIsRightFor (fun vs H Q E h => ?_) (fun cdv A outer s H vs Q E hr h => ?_)
  · obtain ⟨x, r, m, rfl, _⟩ := h
    rfl
  · obtain ⟨x, r, m, rfl, fa, o, kk⟩ := h
    refine ⟨_, (pss_cons (ps_par (i := 2) (j := 3) (by rfl) scIsRightFor.nd rfl rfl (by decide) rfl rfl (pa_cons (pe_call G1 hr (by rfl) g1 k1 b1 .nil pass0 (pa_cons (pv 0) (pa_cons (pv 1) pa_nil))) (pa_cons (pe_call G2 hr (by rfl) g2 k2 b2 .nil pass0 (pa_cons (pv 0) pa_nil)) pa_nil)) (by rfl))
      (pss_one (ps_ret (pe_and (pe_cmpR op_le pe_int (pv 2) (nomark _)) (pe_one (pe_cmpR op_le (pe_op op_mul (pv 3) (pv 2)) (pe_op op_add (pe_op op_mul (pe_op op_sub (pv 3) pe_int) (pv 1)) pe_int) (nomark _))))))), ?_⟩
    refine ⟨_, rfl, _, rfl, x, r, m, rfl, fa, o, _, rfl, x, r, rfl, fa, _, _, rfl, ?_⟩
    have ⟨m1, m2⟩ := Fr.many_le o
    refine ⟨_, rfl, _, _, rfl, rfl, _, rfl, ite2 (fun e => ?_) (fun e => ?_)⟩
    · refine ⟨_, rfl, _, rfl, _, _, rfl, rfl, .inl (mw (b := 12) (by omega) (by omega) (by decide)), _, rfl, _, _, rfl, rfl, _, rfl, _, _, rfl, rfl, .inl (mw (b := 12) (by omega) (by omega) (by decide)), _, _, rfl, rfl, _, _, rfl, rfl, ?_⟩
      unfold Fr.right at kk
      rw [show decide (1 ≤ r.least m) = true from e, Bool.true_and] at kk
      exact kk
    · unfold Fr.right at kk
      rw [show decide (1 ≤ r.least m) = false from Bool.eq_false_iff.mpr e, Bool.false_and] at kk
      exact kk
theorem scNeedSize : FnScope ["value"] ["value"] (defScope sNeedSize) := ⟨rfl, rfl, rfl, by decide +kernel, rfl, by decide +kernel, by decide +kernel⟩
theorem ok_needSize {f : Addr} {fd : FuncData} (F : Fun K "need_size" "need_size" sNeedSize f fd) (D : Df P w K mg base 2 "is_within" ["value", "least", "most"] spWithin) {t1 t2 : Tok} (gL : mg "LEAST_SIZE" = some (.int 2 t1)) (gM : mg "MOST_SIZE" = some (.int (10 ^ 12) t2)) : FnOk P w K mg base CX0 3 f fd ["value"] spNeedSize := by
  obtain ⟨fW, fdW, GW, gW, kW, bW⟩ := D.ex
  refine F.ok scNeedSize (fun vs H Q E h => ?_) (fun cdv A outer s H vs Q E hr h => ?_)
  · obtain ⟨m, rfl, _⟩ := h
    rfl
  · obtain ⟨m, rfl, h1, h2, kk⟩ := h
    refine ⟨_, pss_one (ps_if (pt_not (pt_val (pe_call GW hr (by rfl) gW kW bW .nil pass0 (pa_cons (pv 0) (pa_cons (pe_glob (v := .int 2) rfl gL ⟨_, rfl⟩) (pa_cons (pe_glob (v := .int (10 ^ 12)) rfl gM ⟨_, rfl⟩) pa_nil)))))) (pss_one ps_never) pss_nil), ?_⟩
    exact ⟨_, rfl, _, _, _, rfl, h1, h2, true, rfl, iteF kk⟩
theorem scFillRule_fits : FnScope ["self", "most"] ["self", "most"] (defScope sFillRule_fits) := ⟨rfl, rfl, rfl, by decide +kernel, rfl, by decide +kernel, by decide +kernel⟩
theorem ok_fits {f C : Addr} {fd : FuncData} (F : Fun K "fits" "FillRule.fits" sFillRule_fits f fd) (D1 : Df P w K mg base 3 "need_size" ["value"] spNeedSize) (D2 : Df P w K mg base 2 "is_right_for" ["rule", "most"] (spRightFor C)) : FnOk P w K mg base CX0 4 f fd ["self", "most"] (spFits C) := by
  obtain ⟨f1, fd1, G1, g1, k1, b1⟩ := D1.ex
  obtain ⟨f2, fd2, G2, g2, k2, b2⟩ := D2.ex
  refine F.ok scFillRule_fits (fun vs H Q E h => ?_) (fun cdv A outer s H vs Q E hr h => ?_)
  · obtain ⟨x, r, m, rfl, _⟩ := h
    rfl
  · obtain ⟨x, r, m, rfl, fa, o, h1, h2, kk⟩ := h
    refine ⟨_, (pss_cons (ps_expr (pe_call G1 hr (by rfl) g1 k1 b1 .nil pass0 (pa_cons (pv 1) pa_nil)))
      (pss_one (ps_ret (pe_call G2 (hr.mono (by decide)) (by rfl) g2 k2 b2 .nil pass0 (pa_cons (pv 0) (pa_cons (pv 1) pa_nil)))))), ?_⟩
    exact ⟨_, rfl, m, rfl, h1, h2, _, rfl, _, rfl, x, r, m, rfl, fa, o, kk⟩
theorem scFillRule_least_fill : FnScope ["self", "most"] ["self", "most"] (defScope sFillRule_least_fill) := ⟨rfl, rfl, rfl, by decide +kernel, rfl, by decide +kernel, by decide +kernel⟩
theorem ok_leastFill {f C : Addr} {fd : FuncData} (F : Fun K "least_fill" "FillRule.least_fill" sFillRule_least_fill f fd) (D1 : Df P w K mg base 3 "need_size" ["value"] spNeedSize) (D2 : Df P w K mg base 1 "least_of" ["rule", "most"] (spLeastOf C)) : FnOk P w K mg base CX0 4 f fd ["self", "most"] (spLeastFill C) := by
  obtain ⟨f1, fd1, G1, g1, k1, b1⟩ := D1.ex
  obtain ⟨f2, fd2, G2, g2, k2, b2⟩ := D2.ex
  refine F.ok scFillRule_least_fill (fun vs H Q E h => ?_) (fun cdv A outer s H vs Q E hr h => ?_)
  · obtain ⟨x, r, m, rfl, _⟩ := h
    rfl
  · obtain ⟨x, r, m, rfl, fa, o, h1, h2, kk⟩ := h
    refine ⟨_, (pss_cons (ps_expr (pe_call G1 hr (by rfl) g1 k1 b1 .nil pass0 (pa_cons (pv 1) pa_nil)))
      (pss_one (ps_ret (pe_call G2 (hr.mono (by decide)) (by rfl) g2 k2 b2 .nil pass0 (pa_cons (pv 0) (pa_cons (pv 1) pa_nil)))))), ?_⟩
    exact ⟨_, rfl, m, rfl, h1, h2, _, rfl, _, rfl, x, r, m, rfl, fa, o, kk⟩
theorem scCanBe : FnScope ["part", "value", "low", "high"] ["part", "value"] (defScope sCanBe) := ⟨rfl, rfl, rfl, by decide +kernel, rfl, by decide +kernel, by decide +kernel⟩
theorem ok_canBe {f TP D Da Db Dc : Addr} {fd : FuncData} (F : Fun K "can_be" "can_be" sCanBe f fd) (B : Tabs K w mg TP D Da Db Dc) {t : Tok} (gM : mg "MOST_TIMES" = some (.int 12 t)) (D1 : Df P w K mg base 3 "is_pair" ["value", "most"] (spPair K)) (D2 : Df P w K mg base 2 "is_within" ["value", "least", "most"] spWithin) : FnOk P w K mg base CX0 4 f fd ["part", "value"] spCanBe := by
  obtain ⟨f1, fd1, G1, g1, k1, b1⟩ := D1.ex
  obtain ⟨f2, fd2, G2, g2, k2, b2⟩ := D2.ex
  obtain ⟨es, n, kd⟩ := B.kd
  refine F.ok scCanBe (fun vs H Q E h => ?_) (fun cdv A outer s H vs Q E hr h => ?_)
  · obtain ⟨part, v, rfl, _⟩ := h
    rfl
  · obtain ⟨part, v, rfl, c, kk⟩ := h
    refine ⟨_, (pss_cons (ps_if (pt_cmpR op_eq (pv 0) pe_str (nomark _))
        (pss_one (ps_ret (pe_call G1 hr (by rfl) g1 k1 b1 .nil pass0 (pa_cons (pv 1) (pa_cons (pe_glob (v := .int 12) rfl gM ⟨_, rfl⟩) pa_nil))))) pss_nil)
      (pss_cons (ps_asg (pe_ix ix_kdict (pe_glob (v := .ref D) (by rfl) B.gB rfl) (pv 0) (fun _ _ => rfl)) (pg_tup (by rfl) (pgs_cons (pg_name (i := 2) scCanBe.nd rfl (.inl rfl)) (pgs_cons (pg_name (i := 3) scCanBe.nd rfl (.inl rfl)) pgs_nil))))
      (pss_one (ps_ret (pe_call G2 (hr.mono (by decide)) (by rfl) g2 k2 b2 .nil pass0 (pa_cons (pv 1) (pa_cons (pv 2) (pa_cons (pv 3) pa_nil)))))))), ?_⟩
    cases c with
    | times a x y h h1 h2 =>
      refine ⟨_, rfl, rfl, _, rfl, ?_⟩
      rw [show decide (V.str ("times" : Str) = V.str "times") = true from decide_eq_true rfl]
      exact iteT ⟨_, rfl, a, x, y, _, rfl, h, h1, h2, kk⟩
    | plus i h1 h2 =>
      refine ⟨_, rfl, rfl, _, rfl, ?_⟩
      rw [show decide (V.str ("plus" : Str) = V.str "times") = false from decide_eq_false fun z => absurd (V.str.inj z) (by decide +kernel)]
      refine iteF ⟨_, rfl, D, "plus", .ref Da, rfl, rfl, ⟨es, n, .ref Da, kd.at_, kd.lit, B.l1, rfl⟩, Da, _, rfl, B.t1 _, rfl, _, _, rfl, _, _, rfl, rfl, ?_⟩
      exact ⟨_, rfl, _, rfl, _, rfl, _, _, _, rfl, h1, h2, kk _ (Same.refl _)⟩
    | cut i h1 h2 =>
      refine ⟨_, rfl, rfl, _, rfl, ?_⟩
      rw [show decide (V.str ("cut_of" : Str) = V.str "times") = false from decide_eq_false fun z => absurd (V.str.inj z) (by decide +kernel)]
      refine iteF ⟨_, rfl, D, "cut_of", .ref Db, rfl, rfl, ⟨es, n, .ref Db, kd.at_, kd.lit, B.l2, rfl⟩, Db, _, rfl, B.t2 _, rfl, _, _, rfl, _, _, rfl, rfl, ?_⟩
      exact ⟨_, rfl, _, rfl, _, rfl, _, _, _, rfl, h1, h2, kk _ (Same.refl _)⟩
    | join i h1 h2 =>
      refine ⟨_, rfl, rfl, _, rfl, ?_⟩
      rw [show decide (V.str ("join_of" : Str) = V.str "times") = false from decide_eq_false fun z => absurd (V.str.inj z) (by decide +kernel)]
      refine iteF ⟨_, rfl, D, "join_of", .ref Dc, rfl, rfl, ⟨es, n, .ref Dc, kd.at_, kd.lit, B.l3, rfl⟩, Dc, _, rfl, B.t3 _, rfl, _, _, rfl, _, _, rfl, rfl, ?_⟩
      exact ⟨_, rfl, _, rfl, _, rfl, _, _, _, rfl, h1, h2, kk _ (Same.refl _)⟩
theorem scFillRule_init : FnScope ["self", "times", "plus", "cut_of", "join_of", "part", "value"] ["self", "times", "plus", "cut_of", "join_of"] (defScope sFillRule_init) := ⟨rfl, rfl, rfl, by decide +kernel, rfl, by decide +kernel, by decide +kernel⟩
theorem ok_fillInit {f C TP D Da Db Dc : Addr} {fd : FuncData} {dvs : List V} {kws : List (Str × V)} (F : FunD K "__init__" "FillRule.__init__" (defArgs sFillRule_init) (defBody sFillRule_init) (defScope sFillRule_init) dvs kws f fd) (T : FCls K C) (mz : mg "zip" = none) (B : Tabs K w mg TP D Da Db Dc) (D1 : Df P w K mg base 4 "can_be" ["part", "value"] spCanBe) : FnOk P w K mg base CX0 5 f fd ["self", "times", "plus", "cut_of", "join_of"] (spFillInit C) := by
  obtain ⟨f1, fd1, G1, g1, k1, b1⟩ := D1.ex
  refine F.ok scFillRule_init (fun vs H Q E h => ?_) (fun cdv A outer s H vs Q E hr h => ?_)
  · obtain ⟨x, dx, a, r, rfl, _⟩ := h
    rfl
  · obtain ⟨x, dx, a, r, rfl, hx, ha, o, kk⟩ := h
    refine ⟨_, PSs.nox (pss_cons (ps_for PassesOwn.never rfl (pi_zipA (by rfl) mz (pa_cons (pe_glob (v := .ref TP) rfl B.gP rfl) (pa_cons (pe_tup (pa_cons (pv 1) (pa_cons (pv 2) (pa_cons (pv 3) (pa_cons (pv 4) pa_nil))))) pa_nil))) (pg_tup (by rfl) (pgs_cons (pg_name (i := 5) scFillRule_init.nd rfl (.inl rfl)) (pgs_cons (pg_name (i := 6) scFillRule_init.nd rfl (.inl rfl)) pgs_nil)))
        (pss_one (ps_if (pt_not (pt_val (pe_call G1 hr (by rfl) g1 k1 b1 .nil pass0 (pa_cons (pv 5) (pa_cons (pv 6) pa_nil)))))
          (pss_one ps_never) pss_nil)))
      (pss_cons (ps_fld (pv 0) (pv 1) rfl)
      (pss_cons (ps_fld (pv 0) (pv 2) rfl)
      (pss_cons (ps_fld (pv 0) (pv 3) rfl)
      (pss_cons (ps_fld (pv 0) (pv 4) rfl)
      (pss_one (ps_fld (pv 0) (pe_ifExp (pt_cmpR op_gt (pv 3) (pv 4) (nomark _)) (pv 3) (pv 4)) rfl))))))), ?_⟩
    refine ⟨_, rfl, _, rfl, _, rfl, _, rfl, (by show 4 ≤ sizeLine; decide), fun t nt => ⟨TP, t, parts4, [.ref a, .int r.k, .int r.c, .int r.j], rfl, .inr ⟨B.tP _, SqT.of upd_same, ?_⟩⟩⟩
    have s1 : Same H (upd H t (.tup [.ref a, .int r.k, .int r.c, .int r.j])) := same_new nt
    have ht : upd H t (.tup [.ref a, .int r.k, .int r.c, .int r.j]) t = some (.tup [.ref a, .int r.k, .int r.c, .int r.j]) := upd_same
    generalize upd H t (.tup [.ref a, .int r.k, .int r.c, .int r.j]) = H1 at s1 ht ⊢
    refine for_zipT (xs := parts4) (ys := [.ref a, .int r.k, .int r.c, .int r.j]) rfl (fun _ σ H' => (∃ v5 v6 : Option V, σ = [some (.ref x), some (.ref a), some (.int r.k), some (.int r.c), some (.int r.j), v5, v6]) ∧ Same H1 H') ⟨⟨_, _, rfl⟩, Same.refl _⟩ (fun i σ H' h => ⟨B.tP _, SqT.of (h.2 _ _ ht)⟩) (fun i xv yv Tp σ H' ex ey h nT => ?_) (fun σ H' h => ?_)
    · obtain ⟨⟨v5, v6, rfl⟩, s2⟩ := h
      have s3 : Same H1 (upd H' Tp (.tup [xv, yv])) := s2.trans (same_new nT)
      have hT : upd H' Tp (.tup [xv, yv]) Tp = some (.tup [xv, yv]) := upd_same
      generalize upd H' Tp (.tup [xv, yv]) = H2 at s3 hT ⊢
      have hil : i < 4 := (List.getElem?_eq_some_iff.mp ex).1
      have hc : ∃ part, xv = .str part ∧ CanOK H2 part yv := by
        rcases (show i = 0 ∨ i = 1 ∨ i = 2 ∨ i = 3 by omega) with rfl | rfl | rfl | rfl
        · obtain rfl := Option.some.inj ex; obtain rfl := Option.some.inj ey
          exact ⟨_, rfl, .times a r.p r.q (s3 _ _ (s1 _ _ ha)) ⟨o.p1, o.p2⟩ ⟨o.q1, o.q2⟩⟩
        · obtain rfl := Option.some.inj ex; obtain rfl := Option.some.inj ey
          exact ⟨_, rfl, .plus _ o.k1 o.k2⟩
        · obtain rfl := Option.some.inj ex; obtain rfl := Option.some.inj ey
          exact ⟨_, rfl, .cut _ o.c1 o.c2⟩
        · obtain rfl := Option.some.inj ex; obtain rfl := Option.some.inj ey
          exact ⟨_, rfl, .join _ o.j1 o.j2⟩
      obtain ⟨part, rfl, hc⟩ := hc
      refine ⟨Tp, _, rfl, SqT.of hT, rfl, _, _, rfl, _, _, rfl, rfl, ?_⟩
      exact ⟨_, rfl, _, rfl, part, yv, rfl, hc, fun H3 s4 => ⟨true, rfl, iteF ⟨⟨_, _, rfl⟩, s3.trans s4⟩⟩⟩
    · obtain ⟨⟨v5, v6, rfl⟩, s2⟩ := h
      have s3 := s1.trans s2
      refine ⟨_, rfl, _, rfl, x, C, dx, _, rfl, s3 _ _ hx, T.cl, T.n1, (by show 0 < 1000; decide), ?_⟩
      refine ⟨_, rfl, _, rfl, x, C, dx, _, rfl, upd_same, T.cl, T.n2, (by rw [pf1]; show 1 < 1000; decide), ?_⟩
      refine ⟨_, rfl, _, rfl, x, C, dx, _, rfl, upd_same, T.cl, T.n3, (by rw [pf1, pf2]; show 2 < 1000; decide), ?_⟩
      refine ⟨_, rfl, _, rfl, x, C, dx, _, rfl, upd_same, T.cl, T.n4, (by rw [pf1, pf2, pf3]; show 3 < 1000; decide), ?_⟩
      rw [pf1, pf2, pf3, pf4]
      have t4 : ∀ o1 o2 o3 o4 : HO, But x H (upd (upd (upd (upd H' x o1) x o2) x o3) x o4) := fun o1 o2 o3 o4 => (Same.but s3).trans (But.upd_at.trans (But.upd_at.trans (But.upd_at.trans But.upd_at)))
      refine ⟨_, rfl, _, rfl, _, _, rfl, rfl, _, rfl, ite2 (fun e => ?_) (fun e => ?_)⟩
      · have e := of_decide_eq_true e
        refine ⟨_, rfl, _, rfl, x, C, dx, _, rfl, upd_same, T.cl, T.n5, (by show 4 < 1000; decide), kk _ ((t4 _ _ _ _).trans But.upd_at) ?_⟩
        rw [upd_same, pf5]
        unfold fillF Fr.wd
        rw [if_pos e]
      · have e : ¬ (r.c > r.j) := fun z => e (decide_eq_true z)
        refine ⟨_, rfl, _, rfl, x, C, dx, _, rfl, upd_same, T.cl, T.n5, (by show 4 < 1000; decide), kk _ ((t4 _ _ _ _).trans But.upd_at) ?_⟩
        rw [upd_same, pf5]
        unfold fillF Fr.wd
        rw [if_neg e]
end
end Ev
namespace Ev
open PySem L2 PySem.Spec PyProof.Rows
/-! ### repr of a value that holds nothing but scalars -/
def sclr : V → PyData → Bool
  | .non, .none => true
  | .bl a, .bool b => a == b
  | .int a, .int b => decide (a = b)
  | .str a, .str b => a == b
  | _, _ => false
def keyD : Key → PyData
  | .inl i => .int i
  | .inr x => .str x
inductive Vd (K : PySem.W.Frag) (H : Hp) : V → PyData → Prop
  | plain {v : V} {d : PyData} : Dp K H v d → d.hasDict = false → Vd K H v d
  | dct {a : Addr} {kvs : List (Key × V)} {ds : List (PyData × PyData)} : H a = some (.dK kvs) → ds.map (·.1) = kvs.map (fun p => keyD p.1) → Paired (fun v d => sclr v d = true) (kvs.map (·.2)) (ds.map (·.2)) → Vd K H (.ref a) (.dict ds)
theorem reads_sc {h : Heap} {v : V} {d : PyData} {u : Value} (e : sclr v d = true) (r : RelV v u) : Reads h u d [] := by
  cases v <;> cases d <;> first | cases e | skip
  · cases (show u = Value.none from r); exact .none
  · obtain rfl := beq_iff_eq.mp e
    cases (show u = Value.bool _ from r); exact .bool _
  · obtain rfl := of_decide_eq_true e
    obtain ⟨t, q⟩ := (show ∃ t, u = Value.int _ t from r); cases q; exact .int _ _
  · obtain rfl := beq_iff_eq.mp e
    obtain ⟨t, q⟩ := (show ∃ t, u = Value.str _ t from r); cases q; exact .str _ _
theorem reads_scs {h : Heap} : ∀ {vs : List V} {ds : List PyData} {us : List Value}, Paired (fun v d => sclr v d = true) vs ds → Vals vs us → ReadsAll h us ds []
  | _, _, _, .nil, .nil => .nil
  | _, _, _, .cons e t, .cons r q => .cons (as := []) (bs := []) (reads_sc e r) (reads_scs t q)
theorem pair_vals {P : Program} {w : World} : ∀ {es : List DictEntry} {vs : List (Key × Value)}, Pairs (mixKind P w) es vs → es.map (·.val) = vs.map (·.2)
  | _, _, .nil => rfl
  | _, _, .cons h1 h2 t => by
    rw [List.map_cons, List.map_cons, h2, pair_vals t]
theorem reads_keys {P : Program} {w : World} {h : Heap} : ∀ {es : List DictEntry} {kvs : List (Key × V)} {vs : List (Key × Value)}, Pairs (mixKind P w) es vs → KV kvs vs → ReadsAll h (es.map (·.key)) (kvs.map fun p => keyD p.1) []
  | _, _, _, .nil, .nil => .nil
  | _, _, _, .cons h1 h2 t, .cons r q => by
    refine .cons (as := []) (bs := []) ?_ (reads_keys t q)
    dsimp only
    rw [r.1]
    rcases keyIs_shape (show keyIs _ _ = true from h1) with ⟨i, tk, e1, e2⟩ | ⟨x, tk, e1, e2⟩
    · rw [e1, e2]; exact .int _ _
    · rw [e1, e2]; exact .str _ _
theorem vals_snd : ∀ {kvs : List (Key × V)} {vs : List (Key × Value)}, KV kvs vs → Vals (kvs.map (·.2)) (vs.map (·.2))
  | _, _, .nil => .nil
  | _, _, .cons h t => .cons h.2 (vals_snd t)
section
variable {X : Cx}
/-- repr of such a value, where none is under way -/
def rReprV (K : PySem.W.Frag) : List V → Hp → VK → Prop := fun xs H Q => ∃ (v : V) (d : PyData), xs = [v] ∧ Vd K H v d ∧
  d.showable = true ∧ d.depth ≤ 32 ∧ d.shown.length ≤ sizeLine ∧ Q (.str d.shown) H
theorem call_reprV (gd : X.A.guards = some []) (hu : X.A.units + 64 < cLine) : CallR X (.builtin "repr") (rReprV X.K) := by
  intro pins s σ H xs us Q I r h
  obtain ⟨v, d, rfl, hd, h1, h3, h4, q⟩ := h
  obtain ⟨u, rfl, ru⟩ := vals1 r
  have fin : ∀ (h' : Heap) (t : Tok) (tk : Nat), (∀ b o, s.heap.get? b = some o → h'.get? b = some o) → EP X pins σ Q (.str d.shown t) { s with heap := h', toks := tk } := fun h' t tk hk => ⟨.str d.shown, H, I.kept hk, ⟨t, rfl⟩, q⟩
  have byRef : ∀ (a : Addr) (as : List Addr), u = .ref a → Reads s.heap (.ref a) d as → (d.hasDict = true → sysModules ∉ as) → wpAny (model X.prog X.w) X.A (call (.builtin "repr") [u]) (EP X pins σ Q) X.xe s := by
    intro a as eu rd hm
    subst eu
    exact repr_of_reads' rd h1 hm gd (by omega) (fun _ _ e => e) (fun h' t tk hk => fin h' t tk hk) h4
  cases hd with
  | plain dp nd =>
    cases dp with
    | non => cases ru; exact PySem.P.repr_of_none (fin s.heap _ _ fun _ _ e => e)
    | bl b => cases ru; exact PySem.P.repr_of_bool (fin s.heap _ _ fun _ _ e => e)
    | int i => obtain ⟨t, rfl⟩ := ru; exact PySem.P.repr_of_int (of_decide_eq_true h1) (fin s.heap _ _ fun _ _ e => e)
    | str x => obtain ⟨t, rfl⟩ := ru; exact PySem.P.repr_of_str (fin s.heap _ _ fun _ _ e => e) h4
    | lst sq al =>
      cases ru
      obtain ⟨as, rd⟩ := Dp.reads I _ _ _ (.lst sq al) rfl
      exact byRef _ as rfl rd fun z => by rw [nd] at z; cases z
    | tup sq al =>
      cases ru
      obtain ⟨as, rd⟩ := Dp.reads I _ _ _ (.tup sq al) rfl
      exact byRef _ as rfl rd fun z => by rw [nd] at z; cases z
  | @dct a kvs ds e ek ev =>
    cases ru
    obtain ⟨hz, hs0, vs, kv, hdo⟩ := (show ObjOk X.prog X.w H s.heap a (.dK kvs) from I.hok a _ e)
    obtain ⟨ep, ob, es, ho, ex, hdat, hko, hpr, hnd⟩ := hdo.dictAt
    have e1 : ReadsAll s.heap (es.toList.map (·.key)) (ds.map (·.1)) [] := by
      rw [ek]; exact reads_keys hpr kv
    have e2 : ReadsAll s.heap (es.toList.map (·.val)) (ds.map (·.2)) [] := by
      refine reads_scs ev ?_
      have e3 : es.toList.map (·.val) = vs.map (·.2) := pair_vals hpr
      rw [e3]; exact vals_snd kv
    refine byRef a (a :: [] ++ []) rfl (.dict ho ex.1 hdat e1 e2) fun _ z => ?_
    simp at z
    rw [← z] at hs0
    simp at hs0
end
end Ev
namespace Ev
open PySem L2 PySem.Spec PyProof.Rows
def tupR (r : Fr) : List V := [.int r.p, .int r.q, .int r.k, .int r.c, .int r.j]
theorem fdiv_lt {a b c : Int} (h : 1 ≤ b) : a.fdiv b < c ↔ a < c * b := by
  rw [Int.fdiv_eq_ediv_of_nonneg _ (by omega)]
  exact Int.ediv_lt_iff_lt_mul (by omega)
theorem r_no {r : Fr} {m : Int} (h : r.least m < 1) : r.right m = false := by
  unfold Fr.right
  rw [show decide (1 ≤ r.least m) = false from decide_eq_false (by omega), Bool.false_and]
theorem r_lin {r : Fr} {m : Int} (o : r.ok) (hm : 2 ≤ m) : (r.many * r.least m ≤ (r.many - 1) * m + 1) ↔ (r.c + 1) * r.least m ≤ r.c * m + 1 ∧ r.j * r.least m ≤ (r.j - 1) * m + 1 := by
  have c1 := o.c1; have c2 := o.c2; have j1 := o.j1; have j2 := o.j2
  unfold Fr.many
  generalize r.least m = L
  obtain ⟨p, q, k, c, j⟩ := r
  dsimp only at c1 c2 j1 j2 ⊢
  rcases (show c = 1 ∨ c = 2 ∨ c = 3 ∨ c = 4 ∨ c = 5 by omega) with rfl | rfl | rfl | rfl | rfl <;>
  rcases (show j = 2 ∨ j = 3 ∨ j = 4 ∨ j = 5 ∨ j = 6 by omega) with rfl | rfl | rfl | rfl | rfl <;>
  simp <;> omega
theorem r_iff {r : Fr} {m : Int} (o : r.ok) (hm : 2 ≤ m) : r.right m = true ↔ 1 ≤ r.least m ∧ (r.c + 1) * r.least m ≤ r.c * m + 1 ∧ r.j * r.least m ≤ (r.j - 1) * m + 1 := by
  rw [← r_lin o hm]
  unfold Fr.right
  rw [Bool.and_eq_true, decide_eq_true_iff, decide_eq_true_iff]
theorem r_B {r : Fr} {m : Int} (o : r.ok) (hm : 2 ≤ m) (h : (r.c * m + 1).fdiv (r.c + 1) < r.least m) : r.right m = false := by
  rw [Bool.eq_false_iff]
  intro z
  have := ((r_iff o hm).mp z).2.1
  have c1 := o.c1
  rw [fdiv_lt (by omega), Int.mul_comm (r.least m)] at h
  omega
theorem r_C {r : Fr} {m : Int} (o : r.ok) (hm : 2 ≤ m) (h1 : ¬ r.least m < 1) (h : ¬ (r.c * m + 1).fdiv (r.c + 1) < r.least m) : r.right m = decide ((r.j * r.least m - 1 + r.j - 2).fdiv (r.j - 1) ≤ m) := by
  have c1 := o.c1; have j1 := o.j1
  rw [fdiv_lt (by omega), Int.mul_comm (r.least m)] at h
  have e : ((r.j * r.least m - 1 + r.j - 2).fdiv (r.j - 1) ≤ m) ↔ r.j * r.least m ≤ (r.j - 1) * m + 1 := by
    have := @fdiv_lt (r.j * r.least m - 1 + r.j - 2) (r.j - 1) (m + 1) (by omega)
    rw [show (m + 1) * (r.j - 1) = (r.j - 1) * m + r.j - 1 by rw [Int.add_mul, Int.mul_comm m]; omega] at this
    omega
  by_cases z : r.right m = true
  · rw [z]
    exact (decide_eq_true (e.mpr ((r_iff o hm).mp z).2.2)).symm
  · rw [Bool.eq_false_iff.mpr z]
    refine (decide_eq_false fun y => z ((r_iff o hm).mpr ⟨by omega, ?_, e.mp y⟩)).symm
    omega
/-- a step of q times more -/
theorem least_step {r : Fr} (o : r.ok) (m s : Int) : r.least (m + r.q * s) = r.least m + r.p * s := by
  unfold Fr.least
  have q1 := o.q1
  rw [Int.fdiv_eq_ediv_of_nonneg _ (by omega), Int.fdiv_eq_ediv_of_nonneg _ (by omega)]
  rw [show r.p * (m + r.q * s) + r.k = r.p * m + r.k + r.q * (r.p * s) by
    rw [Int.mul_add, ← Int.mul_assoc r.p, ← Int.mul_assoc r.q, Int.mul_comm r.p r.q]; omega]
  exact Int.add_mul_ediv_left _ _ (by omega)
theorem between {r : Fr} {m s : Int} (o : r.ok) (hm : 2 ≤ m) (hs : 0 ≤ s) (h0 : 1 ≤ r.least m) (a : r.right m = true) (b : r.right (m + 2 * (r.q * s)) = true) : r.right (m + 1 * (r.q * s)) = true := by
  have q1 := o.q1
  have qs : 0 ≤ r.q * s := Int.mul_nonneg (by omega) hs
  have ps : 0 ≤ r.p * s := Int.mul_nonneg (by have := o.p1; omega) hs
  rw [r_iff o hm] at a
  rw [r_iff o (by omega)] at b
  rw [r_iff o (by omega)]
  rw [show m + 2 * (r.q * s) = m + r.q * (2 * s) by rw [← Int.mul_assoc, ← Int.mul_assoc, Int.mul_comm 2 r.q], least_step o] at b
  rw [show m + 1 * (r.q * s) = m + r.q * s by rw [Int.one_mul], least_step o]
  rw [show r.q * (2 * s) = 2 * (r.q * s) by rw [← Int.mul_assoc, ← Int.mul_assoc, Int.mul_comm 2 r.q], show r.p * (2 * s) = 2 * (r.p * s) by rw [← Int.mul_assoc, ← Int.mul_assoc, Int.mul_comm 2 r.p]] at b
  generalize r.q * s = Y at b qs ⊢
  generalize r.p * s = X at b ps ⊢
  generalize r.least m = L at a b h0 ⊢
  have c1 := o.c1; have c2 := o.c2; have j1 := o.j1; have j2 := o.j2
  obtain ⟨p, q, k, c, j⟩ := r
  dsimp only at c1 c2 j1 j2 a b ⊢
  refine ⟨by omega, ?_, ?_⟩
  · have a := a.2.1
    have b := b.2.1
    rcases (show c = 1 ∨ c = 2 ∨ c = 3 ∨ c = 4 ∨ c = 5 by omega) with rfl | rfl | rfl | rfl | rfl <;> simp at a b ⊢ <;> omega
  · have a := a.2.2
    have b := b.2.2
    rcases (show j = 2 ∨ j = 3 ∨ j = 4 ∨ j = 5 ∨ j = 6 by omega) with rfl | rfl | rfl | rfl | rfl <;> simp at a b ⊢ <;> omega
/-- the other rule, of which what is idle is greater -/
def Fr.idle (r : Fr) (b : Int) : Fr := if r.c + 1 ≤ r.j then { r with j := if r.j + b < 6 then r.j + b else 6 } else { r with c := if r.c + b < 5 then r.c + b else 5 }
theorem idle_ok {r : Fr} {b : Int} (o : r.ok) (hb : 1 ≤ b) : (r.idle b).ok := by
  obtain ⟨p1, p2, q1, q2, k1, k2, c1, c2, j1, j2⟩ := o
  unfold Fr.idle
  by_cases z : r.c + 1 ≤ r.j
  · rw [if_pos z]
    refine ⟨p1, p2, q1, q2, k1, k2, c1, c2, ?_, ?_⟩ <;> dsimp only <;> split <;> omega
  · rw [if_neg z]
    refine ⟨p1, p2, q1, q2, k1, k2, ?_, ?_, j1, j2⟩ <;> dsimp only <;> split <;> omega
theorem idle_right {r : Fr} {b m : Int} (o : r.ok) (hb : 1 ≤ b) : (r.idle b).right m = r.right m := by
  obtain ⟨p1, p2, q1, q2, k1, k2, c1, c2, j1, j2⟩ := o
  have e : (r.idle b).many = r.many := by
    unfold Fr.idle Fr.many
    by_cases z : r.c + 1 ≤ r.j
    · rw [if_pos z]
      dsimp only
      by_cases y : r.j + b < 6
      · rw [if_pos y, if_pos (by omega)]; split <;> omega
      · rw [if_neg y]; split <;> split <;> omega
    · rw [if_neg z]
      dsimp only
      rw [if_neg (by split <;> omega), if_neg (by omega)]
  have e2 : (r.idle b).least m = r.least m := by
    unfold Fr.idle
    by_cases z : r.c + 1 ≤ r.j
    · rw [if_pos z]; rfl
    · rw [if_neg z]; rfl
  unfold Fr.right
  rw [e, e2]
def spLNums : Sp := fun vs H Q _ => ∃ (p L : Addr) (B : Int), vs = [.ref p] ∧ B ≤ 900000 ∧ Pen L H p B ∧
  ∀ (a : Addr) (r : Fr) (H' : Hp), r.ok → H a = none → H' a = some (.tup (tupR r)) → But p H H' → Pen L H' p (B + 10) → Q (.ref a) H'
def spLRule (C : Addr) : Sp := fun vs H Q _ => ∃ (a : Addr) (r : Fr), vs = [.ref a] ∧ H a = some (.tup (tupR r)) ∧ r.ok ∧ ∀ x H', Same H H' → FAt C H' x r → Q (.ref x) H'
def spLLeast : Sp := fun vs H Q _ => ∃ (a : Addr) (r : Fr) (m : Int), vs = [.ref a, .int m] ∧ H a = some (.tup (tupR r)) ∧ r.ok ∧ Q (.int (r.least m)) H
def spLIsRight : Sp := fun vs H Q _ => ∃ (a : Addr) (r : Fr) (m : Int), vs = [.ref a, .int m] ∧ H a = some (.tup (tupR r)) ∧ r.ok ∧ 2 ≤ m ∧ ∀ H', Same H H' → Q (.bl (r.right m)) H'
def spLSize : Sp := fun vs H Q _ => ∃ (p L : Addr) (B : Int), vs = [.ref p] ∧ B ≤ 900000 ∧ Pen L H p B ∧
  ∀ (m : Int) (H' : Hp), 2 ≤ m → m ≤ 10 ^ 12 → But p H H' → Pen L H' p (B + 2) → Q (.int m) H'
def spLIdle : Sp := fun vs H Q _ => ∃ (a : Addr) (r : Fr) (b : Int), vs = [.ref a, .int b] ∧ H a = some (.tup (tupR r)) ∧ r.ok ∧ 1 ≤ b ∧ ∀ x H', Same H H' → H' x = some (.tup (tupR (r.idle b))) → Q (.ref x) H'
def spLBetween (C : Addr) : Sp := fun vs H Q _ => ∃ (x : Addr) (r : Fr) (m s : Int), vs = [.ref x, .int m, .int (r.q * s)] ∧ FAt C H x r ∧ r.ok ∧ 2 ≤ m ∧ 0 ≤ s ∧ m + 2 * (r.q * s) ≤ 10 ^ 12 ∧ ∀ H', Same H H' → Q (.bl true) H'
theorem i5_0 {a b c d e : V} : atI [a, b, c, d, e] 0 = some a := atI_nat (j := 0) rfl
theorem i5_1 {a b c d e : V} : atI [a, b, c, d, e] 1 = some b := atI_nat (j := 1) rfl
theorem i5_2 {a b c d e : V} : atI [a, b, c, d, e] 2 = some c := atI_nat (j := 2) rfl
theorem i5_3 {a b c d e : V} : atI [a, b, c, d, e] 3 = some d := atI_nat (j := 3) rfl
theorem i5_4 {a b c d e : V} : atI [a, b, c, d, e] 4 = some e := atI_nat (j := 4) rfl
section
variable {P : Program} {w : World} {K : PySem.W.Frag} {mg : Str → Option Value} {base : Heap}
theorem scLNumbers : FnScope ["_law_pen_here", "_law_kind", "_law_pair", "_law_extra"] ["_law_pen_here"] (defScope sLNumbers) := ⟨rfl, rfl, rfl, by decide +kernel, rfl, by decide +kernel, by decide +kernel⟩
theorem ok_lnums {f : Addr} {fd : FuncData} (F : Fun K "_law_numbers" "_law_numbers" sLNumbers f fd) (T : Blt mg) (D1 : Df P w K mg base 1 "_law_draw" ["_law_pen_here", "_law_many"] spDraw) : FnOk P w K mg base CX0 2 f fd ["_law_pen_here"] spLNums := by
  obtain ⟨f1, fd1, G1, g1, k1, b1⟩ := D1.ex
  refine F.ok scLNumbers (fun vs H Q E h => ?_) (fun cdv A outer s H vs Q E hr h => ?_)
  · obtain ⟨p, L, B, rfl, _⟩ := h
    rfl
  · obtain ⟨p, L, B, rfl, hB, pn, kk⟩ := h
    -- from the pair on
    obtain ⟨tR, hR, qR⟩ : ∃ t : TS, PSs (cxOf CX0 P w K mg base ["_law_pen_here", "_law_kind", "_law_pair", "_law_extra"] "_law_numbers" (defScope sLNumbers) f cdv A outer s H E).nox ((defBody sLNumbers).drop 3) t ∧ ∀ (G : Hp) (a : Addr) (u v kd : Int), G a = some (.tup [.int u, .int v]) → 1 ≤ u ∧ u ≤ 12 → 1 ≤ v ∧ v ≤ 12 → But p H G → Pen L G p (B + 4) →
        t { nx := fun _ H' => Q .non H', rt := Q } [some (.ref p), some (.int kd), some (.ref a), none] G := by
      refine ⟨_, (pss_cons (ps_set (i := 3) scLNumbers.nd rfl (.inl rfl) (pe_ifExp (pt_cmpR op_eq (pe_call G1 hr (by rfl) g1 k1 b1 .nil pass0 (pa_cons (pv 0) (pa_cons pe_int pa_nil))) pe_int (nomark _)) (pe_op op_sub (pe_call G1 hr (by rfl) g1 k1 b1 .nil pass0 (pa_cons (pv 0) (pa_cons pe_int pa_nil))) pe_int) pe_int))
        (pss_one (ps_ret (pe_tup (pa_cons (pe_ix ix_tup (pv 2) pe_int (fun _ _ => rfl)) (pa_cons (pe_ix ix_tup (pv 2) pe_int (fun _ _ => rfl)) (pa_cons (pv 3) (pa_cons (pe_op op_add pe_int (pe_call G1 hr (by rfl) g1 k1 b1 .nil pass0 (pa_cons (pv 0) (pa_cons pe_int pa_nil)))) (pa_cons (pe_op op_add pe_int (pe_call G1 hr (by rfl) g1 k1 b1 .nil pass0 (pa_cons (pv 0) (pa_cons pe_int pa_nil)))) pa_nil))))))))), ?_⟩
      intro G a u v kd ha hu hv bt pn
      have fin : ∀ (G2 : Hp) (e : Int), -12 ≤ e → e ≤ 12 → But p H G2 → G2 a = some (.tup [.int u, .int v]) → Pen L G2 p (B + 6) → ∀ (d1 d2 : Int) (G3 G4 : Hp), 0 ≤ d1 → d1 < 5 → 0 ≤ d2 → d2 < 5 → But p G2 G3 → But p G3 G4 → Pen L G4 p (B + 8) → ∀ t, G4 t = none → Q (.ref t) (upd G4 t (.tup [.int u, .int v, .int e, .int (1 + d1), .int (2 + d2)])) := by
        intro G2 e e1 e2 bt2 ha2 pn2 d1 d2 G3 G4 h1 h2 h3 h4 bt3 bt4 pn4 t nt
        have b4 : But p H G4 := bt2.trans (bt3.trans bt4)
        exact kk t ⟨u, v, e, 1 + d1, 2 + d2⟩ _ ⟨hu.1, hu.2, hv.1, hv.2, e1, e2, by show 1 ≤ 1 + d1; omega, by show 1 + d1 ≤ 5; omega, by show 2 ≤ 2 + d2; omega, by show 2 + d2 ≤ 6; omega⟩ (b4.free pn4 nt) upd_same (b4.trans (But.upd_new nt)) ((pn4.new nt).mono (by omega))
      refine ⟨_, rfl, p, L, _, _, rfl, by decide, by decide, by omega, pn, fun d G1 t1 p1 a1 c1 => ⟨rfl, _, rfl, ite2 (fun e => ?_) (fun e => ?_)⟩⟩
      · refine ⟨_, rfl, p, L, _, _, rfl, by decide, by decide, by omega, p1, fun d2 G2 t2 p2 a2 c2 => ⟨_, _, rfl, rfl, ?_⟩⟩
        have bt2 := bt.trans (t1.trans t2)
        have ha2 : G2 a = some (.tup [.int u, .int v]) := But.tup ha pn (t1.trans t2)
        refine ⟨_, rfl, a, _, _, _, rfl, rfl, SqT.of ha2, tup0, _, rfl, a, _, _, _, rfl, rfl, SqT.of ha2, tup1, _, rfl, _, rfl, p, L, _, _, rfl, by decide, by decide, by omega, p2, fun d3 G3 t3 p3 a3 c3 => ⟨_, _, rfl, rfl, ?_⟩⟩
        refine ⟨_, rfl, p, L, _, _, rfl, by decide, by decide, by omega, p3, fun d4 G4 t4 p4 a4 c4 => ⟨_, _, rfl, rfl, (by show 5 ≤ sizeLine; decide), fun t nt => ?_⟩⟩
        exact fin G2 (d2 - 12) (by omega) (by omega) bt2 ha2 (p2.mono (by omega)) d3 d4 G3 G4 a3 c3 a4 c4 t3 t4 (p4.mono (by omega)) t nt
      · have bt2 := bt.trans t1
        have ha2 : G1 a = some (.tup [.int u, .int v]) := But.tup ha pn t1
        refine ⟨_, rfl, a, _, _, _, rfl, rfl, SqT.of ha2, tup0, _, rfl, a, _, _, _, rfl, rfl, SqT.of ha2, tup1, _, rfl, _, rfl, p, L, _, _, rfl, by decide, by decide, by omega, p1, fun d3 G3 t3 p3 a3 c3 => ⟨_, _, rfl, rfl, ?_⟩⟩
        refine ⟨_, rfl, p, L, _, _, rfl, by decide, by decide, by omega, p3, fun d4 G4 t4 p4 a4 c4 => ⟨_, _, rfl, rfl, (by show 5 ≤ sizeLine; decide), fun t nt => ?_⟩⟩
        exact fin G1 0 (by omega) (by omega) bt2 ha2 (p1.mono (by omega)) d3 d4 G3 G4 a3 c3 a4 c4 t3 t4 (p4.mono (by omega)) t nt
    refine ⟨_, (pss_cons (ps_set (i := 1) scLNumbers.nd rfl (.inl rfl) (pe_call G1 hr (by rfl) g1 k1 b1 .nil pass0 (pa_cons (pv 0) (pa_cons pe_int pa_nil))))
      (pss_cons (ps_set (i := 2) scLNumbers.nd rfl (.inl rfl) (pe_ix ix_list (pe_lst (pa_cons (pe_tup (pa_cons pe_int (pa_cons pe_int pa_nil))) (pa_cons (pe_tup (pa_cons pe_int (pa_cons pe_int pa_nil))) (pa_cons (pe_tup (pa_cons pe_int (pa_cons pe_int pa_nil))) (pa_cons (pe_tup (pa_cons pe_int (pa_cons pe_int pa_nil))) (pa_cons (pe_tup (pa_cons pe_int (pa_cons pe_int pa_nil))) pa_nil)))))) (pv 1) (fun _ _ => rfl)))
      (pss_cons (ps_if (pt_cmpR op_gt (pv 1) pe_int (nomark _))
        (pss_one (ps_set (i := 2) scLNumbers.nd rfl (.inl rfl) (pe_tup (pa_cons (pe_op op_add pe_int (pe_call G1 hr (by rfl) g1 k1 b1 .nil pass0 (pa_cons (pv 0) (pa_cons pe_int pa_nil)))) (pa_cons (pe_op op_add pe_int (pe_call G1 hr (by rfl) g1 k1 b1 .nil pass0 (pa_cons (pv 0) (pa_cons pe_int pa_nil)))) pa_nil))))) pss_nil)
      hR))), ?_⟩
    refine ⟨_, rfl, p, L, _, _, rfl, by decide, by decide, by omega, pn, fun d H1 t1 p1 a1 c1 => ?_⟩
    refine ⟨(by show 2 ≤ sizeLine; decide), fun x1 n1 => ⟨(by show 2 ≤ sizeLine; decide), fun x2 n2 => ⟨(by show 2 ≤ sizeLine; decide), fun x3 n3 => ⟨(by show 2 ≤ sizeLine; decide), fun x4 n4 => ⟨(by show 2 ≤ sizeLine; decide), fun x5 n5 => ⟨(by show 5 ≤ sizeLine; decide), fun l nl => ?_⟩⟩⟩⟩⟩⟩
    -- five pairs
    have e1 : upd H1 x1 (.tup [.int 1, .int 2]) x1 = some (.tup [.int 1, .int 2]) := upd_same
    have s1 : Same H1 (upd H1 x1 (.tup [.int 1, .int 2])) := same_new n1
    generalize upd H1 x1 (.tup [.int 1, .int 2]) = G1 at e1 s1 n2 n3 n4 n5 nl ⊢
    have e2 : upd G1 x2 (.tup [.int 2, .int 3]) x2 = some (.tup [.int 2, .int 3]) := upd_same
    have s2 : Same G1 (upd G1 x2 (.tup [.int 2, .int 3])) := same_new n2
    generalize upd G1 x2 (.tup [.int 2, .int 3]) = G2 at e2 s2 n3 n4 n5 nl ⊢
    have e3 : upd G2 x3 (.tup [.int 3, .int 4]) x3 = some (.tup [.int 3, .int 4]) := upd_same
    have s3 : Same G2 (upd G2 x3 (.tup [.int 3, .int 4])) := same_new n3
    generalize upd G2 x3 (.tup [.int 3, .int 4]) = G3 at e3 s3 n4 n5 nl ⊢
    have e4 : upd G3 x4 (.tup [.int 1, .int 1]) x4 = some (.tup [.int 1, .int 1]) := upd_same
    have s4 : Same G3 (upd G3 x4 (.tup [.int 1, .int 1])) := same_new n4
    generalize upd G3 x4 (.tup [.int 1, .int 1]) = G4 at e4 s4 n5 nl ⊢
    have e5 : upd G4 x5 (.tup [.int 1, .int 1]) x5 = some (.tup [.int 1, .int 1]) := upd_same
    have s5 : Same G4 (upd G4 x5 (.tup [.int 1, .int 1])) := same_new n5
    generalize upd G4 x5 (.tup [.int 1, .int 1]) = G5 at e5 s5 nl ⊢
    have s6 : Same G5 (upd G5 l (.lst [.ref x1, .ref x2, .ref x3, .ref x4, .ref x5])) := same_new nl
    have hl : upd G5 l (.lst [.ref x1, .ref x2, .ref x3, .ref x4, .ref x5]) l = some (.lst [.ref x1, .ref x2, .ref x3, .ref x4, .ref x5]) := upd_same
    generalize upd G5 l (.lst [.ref x1, .ref x2, .ref x3, .ref x4, .ref x5]) = G6 at s6 hl ⊢
    have sa : Same H1 G6 := s1.trans (s2.trans (s3.trans (s4.trans (s5.trans s6))))
    obtain ⟨xa, u, v, hx, ha, hu, hv⟩ : ∃ (xa : Addr) (u v : Int), atI [V.ref x1, .ref x2, .ref x3, .ref x4, .ref x5] d = some (.ref xa) ∧ G6 xa = some (.tup [.int u, .int v]) ∧ (1 ≤ u ∧ u ≤ 12) ∧ (1 ≤ v ∧ v ≤ 12) := by
      rcases (show d = 0 ∨ d = 1 ∨ d = 2 ∨ d = 3 ∨ d = 4 by omega) with rfl | rfl | rfl | rfl | rfl
      · exact ⟨x1, 1, 2, i5_0, (s2.trans (s3.trans (s4.trans (s5.trans s6)))) _ _ e1, by decide, by decide⟩
      · exact ⟨x2, 2, 3, i5_1, (s3.trans (s4.trans (s5.trans s6))) _ _ e2, by decide, by decide⟩
      · exact ⟨x3, 3, 4, i5_2, (s4.trans (s5.trans s6)) _ _ e3, by decide, by decide⟩
      · exact ⟨x4, 1, 1, i5_3, (s5.trans s6) _ _ e4, by decide, by decide⟩
      · exact ⟨x5, 1, 1, i5_4, s6 _ _ e5, by decide, by decide⟩
    have p6 := p1.keep sa
    have b6 := t1.trans (Same.but sa)
    refine ⟨_, rfl, l, _, _, _, rfl, rfl, SqL.of hl, hx, ?_⟩
    refine ⟨_, rfl, _, _, rfl, rfl, _, rfl, ite2 (fun e => ?_) (fun e => ?_)⟩
    · refine ⟨_, rfl, p, L, _, _, rfl, by decide, by decide, by omega, p6, fun d3 G7 t3 p3 a3 c3 => ⟨_, _, rfl, rfl, ?_⟩⟩
      refine ⟨_, rfl, p, L, _, _, rfl, by decide, by decide, by omega, p3, fun d4 G8 t4 p4 a4 c4 => ⟨_, _, rfl, rfl, (by show 2 ≤ sizeLine; decide), fun t nt => ?_⟩⟩
      exact qR _ t (1 + d3) (1 + d4) d upd_same ⟨by omega, by omega⟩ ⟨by omega, by omega⟩ (b6.trans (t3.trans (t4.trans (But.upd_new nt)))) ((p4.new nt).mono (by omega))
    · exact qR G6 xa u v d ha hu hv b6 (p6.mono (by omega))
end
end Ev
namespace Ev
open PySem L2 PySem.Spec PyProof.Rows
section
variable {P : Program} {w : World} {K : PySem.W.Frag} {mg : Str → Option Value} {base : Heap}
theorem scLRule : FnScope ["_law_told"] ["_law_told"] (defScope sLRule) := ⟨rfl, rfl, rfl, by decide +kernel, rfl, by decide +kernel, by decide +kernel⟩
theorem ok_lrule {f C fI : Addr} {fd fdI : FuncData} {g : List Value → List Value → List Value} (F : Fun K "_law_rule" "_law_rule" sLRule f fd) (gC : mg "FillRule" = some (.ref C)) (M : Mk K C fI)
    (GI : FnOk P w K mg base CX0 5 fI fdI ["self", "times", "plus", "cut_of", "join_of"] (spFillInit C)) (bI : KBn K fdI ["self", "times", "plus", "cut_of", "join_of"] 3 ["cut_of", "join_of"] g (fun vs zs => vs ++ zs)) :
    FnOk P w K mg base CX0 7 f fd ["_law_told"] (spLRule C) := by
  refine F.ok scLRule (fun vs H Q E h => ?_) (fun cdv A outer s H vs Q E hr h => ?_)
  · obtain ⟨a, r, rfl, _⟩ := h
    rfl
  · obtain ⟨a, r, rfl, ha, o, kk⟩ := h
    refine ⟨_, (pss_one (ps_ret (pe_makeN (n := 2) M GI hr (by rfl) gC bI pass0 (pa_cons (pe_tup (pa_cons (pe_ix ix_tup (pv 0) pe_int (fun _ _ => rfl)) (pa_cons (pe_ix ix_tup (pv 0) pe_int (fun _ _ => rfl)) pa_nil))) (pa_cons (pe_ix ix_tup (pv 0) pe_int (fun _ _ => rfl)) pa_nil)) (pk_cons (pe_ix ix_tup (pv 0) pe_int (fun _ _ => rfl)) (pk_cons (pe_ix ix_tup (pv 0) pe_int (fun _ _ => rfl)) pk_nil))))), ?_⟩
    refine ⟨_, rfl, a, _, _, _, rfl, rfl, SqT.of ha, i5_0, _, rfl, a, _, _, _, rfl, rfl, SqT.of ha, i5_1, (by show 2 ≤ sizeLine; decide), fun t nt => ?_⟩
    have s1 : Same H (upd H t (.tup [.int r.p, .int r.q])) := same_new nt
    have ht : upd H t (.tup [.int r.p, .int r.q]) t = some (.tup [.int r.p, .int r.q]) := upd_same
    generalize upd H t (.tup [.int r.p, .int r.q]) = H1 at s1 ht ⊢
    have ha1 := s1 _ _ ha
    refine ⟨_, rfl, a, _, _, _, rfl, rfl, SqT.of ha1, i5_2, _, rfl, a, _, _, _, rfl, rfl, SqT.of ha1, i5_3, _, rfl, a, _, _, _, rfl, rfl, SqT.of ha1, i5_4, rfl, rfl, fun x dx nx ndx nex => ?_⟩
    have keep : ∀ (o1 o2 : HO) (b : Addr) (u : HO), H1 b = some u → upd (upd H1 dx o1) x o2 b = some u := fun o1 o2 b u e => by
      rw [upd_ne (ne_of_none e nx), upd_ne (ne_of_none e ndx)]; exact e
    refine ⟨x, dx, t, r, rfl, upd_same, keep _ _ _ _ ht, o, fun H3 t3 hx3 => ⟨rfl, ?_⟩⟩
    have s3 : ∀ b u, H1 b = some u → H3 b = some u := fun b u e => t3 _ _ (ne_of_none e nx) (keep _ _ _ _ e)
    exact kk x H3 (fun b u e => s3 _ _ (s1 _ _ e)) ⟨dx, t, hx3, s3 _ _ ht⟩
theorem scLLeast : FnScope ["_law_told", "_law_top"] ["_law_told", "_law_top"] (defScope sLLeast) := ⟨rfl, rfl, rfl, by decide +kernel, rfl, by decide +kernel, by decide +kernel⟩
theorem ok_lleast {f : Addr} {fd : FuncData} (F : Fun K "_law_least" "_law_least" sLLeast f fd) : FnOk P w K mg base CX0 1 f fd ["_law_told", "_law_top"] spLLeast := by
  refine F.ok scLLeast (fun vs H Q E h => ?_) (fun cdv A outer s H vs Q E hr h => ?_)
  · obtain ⟨a, r, m, rfl, _⟩ := h
    rfl
  · obtain ⟨a, r, m, rfl, ha, o, kk⟩ := h
    have q1 := o.q1; have q2 := o.q2
    refine ⟨_, (pss_one (ps_ret (pe_op op_fdivN (pe_op op_add (pe_op op_mul (pe_ix ix_tup (pv 0) pe_int (fun _ _ => rfl)) (pv 1)) (pe_ix ix_tup (pv 0) pe_int (fun _ _ => rfl))) (pe_ix ix_tup (pv 0) pe_int (fun _ _ => rfl))))), ?_⟩
    exact ⟨_, rfl, a, _, _, _, rfl, rfl, SqT.of ha, i5_0, _, rfl, _, _, rfl, rfl, .inl (mw (b := 12) (by have := o.p1; omega) o.p2 (by decide)), _, rfl, a, _, _, _, rfl, rfl, SqT.of ha, i5_2, _, _, rfl, rfl, _, rfl, a, _, _, _, rfl, rfl, SqT.of ha, i5_1, _, _, rfl, rfl, ⟨by omega, by omega⟩, kk⟩
theorem scLIsRight : FnScope ["_law_told", "_law_top", "_law_low", "_law_many", "_law_some"] ["_law_told", "_law_top"] (defScope sLIsRight) := ⟨rfl, rfl, rfl, by decide +kernel, rfl, by decide +kernel, by decide +kernel⟩
theorem ok_lisright {f : Addr} {fd : FuncData} (F : Fun K "_law_is_right" "_law_is_right" sLIsRight f fd) (D1 : Df P w K mg base 1 "_law_least" ["_law_told", "_law_top"] spLLeast) : FnOk P w K mg base CX0 2 f fd ["_law_told", "_law_top"] spLIsRight := by
  obtain ⟨f1, fd1, G1, g1, k1, b1⟩ := D1.ex
  refine F.ok scLIsRight (fun vs H Q E h => ?_) (fun cdv A outer s H vs Q E hr h => ?_)
  · obtain ⟨a, r, m, rfl, _⟩ := h
    rfl
  · obtain ⟨a, r, m, rfl, ha, o, hm, kk⟩ := h
    have c1 := o.c1; have c2 := o.c2; have j1 := o.j1; have j2 := o.j2
    refine ⟨_, (pss_cons (ps_par3 (i := 2) (j := 3) (l := 4) (by rfl) scLIsRight.nd rfl rfl rfl (by decide) (by decide) (by decide) rfl rfl rfl (pa_cons (pe_call G1 hr (by rfl) g1 k1 b1 .nil pass0 (pa_cons (pv 0) (pa_cons (pv 1) pa_nil))) (pa_cons (pe_ix ix_tup (pv 0) pe_int (fun _ _ => rfl)) (pa_cons (pe_ix ix_tup (pv 0) pe_int (fun _ _ => rfl)) pa_nil))) (by rfl))
      (pss_cons (ps_if (PW.pt (pw_or (pt_cmpR op_lt (pv 2) pe_int (nomark _)) (pw_or1 (pt_cmpR op_lt (pe_op op_fdivN (pe_op op_add (pe_op op_mul (pv 3) (pv 1)) pe_int) (pe_op op_add (pv 3) pe_int)) (pv 2) (nomark _)))))
        (pss_one (ps_ret pe_bl)) pss_nil)
      (pss_one (ps_ret (pe_cmpR op_le (pe_op op_fdivN (pe_op op_sub (pe_op op_add (pe_op op_sub (pe_op op_mul (pv 4) (pv 2)) pe_int) (pv 4)) pe_int) (pe_op op_sub (pv 4) pe_int)) (pv 1) (nomark _)))))), ?_⟩
    refine ⟨_, rfl, _, rfl, a, r, m, rfl, ha, o, _, rfl, a, _, _, _, rfl, rfl, SqT.of ha, i5_3, _, rfl, a, _, _, _, rfl, rfl, SqT.of ha, i5_4, _, _, _, rfl, ?_⟩
    have s1 : Same H H := Same.refl H
    refine ⟨_, rfl, _, _, rfl, rfl, _, rfl, ite2 (fun e => ?_) (fun e => ?_)⟩
    · have e := of_decide_eq_true e
      refine iteT ?_
      have := kk H s1
      rw [r_no e] at this
      exact this
    · have e0 : ¬ (r.least m < 1) := fun z => e (decide_eq_true z)
      refine ⟨_, rfl, _, rfl, _, _, rfl, rfl, .inl (mw (b := 12) (by omega) (by omega) (by decide)), _, _, rfl, rfl, _, rfl, _, _, rfl, rfl, _, _, rfl, rfl, ⟨by omega, by omega⟩, _, rfl, _, _, rfl, rfl, _, rfl, ite2 (fun e => ?_) (fun e => ?_)⟩
      · have e := of_decide_eq_true e
        have := kk H s1
        rw [r_B o hm e] at this
        exact this
      · have e1 : ¬ ((r.c * m + 1).fdiv (r.c + 1) < r.least m) := fun z => e (decide_eq_true z)
        refine ⟨_, rfl, _, rfl, _, _, rfl, rfl, .inl (mw (b := 12) (by omega) (by omega) (by decide)), _, _, rfl, rfl, _, rfl, _, _, rfl, rfl, _, _, rfl, rfl, _, rfl, _, _, rfl, rfl, _, _, rfl, rfl, ⟨by omega, by omega⟩, _, rfl, _, _, rfl, rfl, ?_⟩
        have := kk H s1
        rw [r_C o hm e0 e1] at this
        exact this
theorem scLSize : FnScope ["_law_pen_here", "_law_kind"] ["_law_pen_here"] (defScope sLSize) := ⟨rfl, rfl, rfl, by decide +kernel, rfl, by decide +kernel, by decide +kernel⟩
theorem ok_lsize {f : Addr} {fd : FuncData} (F : Fun K "_law_size" "_law_size" sLSize f fd) (D1 : Df P w K mg base 1 "_law_draw" ["_law_pen_here", "_law_many"] spDraw) : FnOk P w K mg base CX0 2 f fd ["_law_pen_here"] spLSize := by
  obtain ⟨f1, fd1, G1, g1, k1, b1⟩ := D1.ex
  refine F.ok scLSize (fun vs H Q E h => ?_) (fun cdv A outer s H vs Q E hr h => ?_)
  · obtain ⟨p, L, B, rfl, _⟩ := h
    rfl
  · obtain ⟨p, L, B, rfl, hB, pn, kk⟩ := h
    refine ⟨_, (pss_cons (ps_set (i := 1) scLSize.nd rfl (.inl rfl) (pe_call G1 hr (by rfl) g1 k1 b1 .nil pass0 (pa_cons (pv 0) (pa_cons pe_int pa_nil))))
      (pss_cons (ps_if (pt_cmpR op_lt (pv 1) pe_int (nomark _))
        (pss_one (ps_ret (pe_op op_add pe_int (pe_call G1 hr (by rfl) g1 k1 b1 .nil pass0 (pa_cons (pv 0) (pa_cons (pe_ix ix_list (pe_lst (pa_cons pe_int (pa_cons pe_int (pa_cons pe_int pa_nil)))) (pv 1) (fun _ _ => rfl)) pa_nil)))))) pss_nil)
      (pss_one (ps_ret (pe_ifExp (pt_cmpR op_eq (pv 1) pe_int (nomark _)) (pe_op op_sub (pe_op op_pow pe_int pe_int) (pe_call G1 hr (by rfl) g1 k1 b1 .nil pass0 (pa_cons (pv 0) (pa_cons pe_int pa_nil)))) (pe_op op_add pe_int (pe_call G1 hr (by rfl) g1 k1 b1 .nil pass0 (pa_cons (pv 0) (pa_cons (pe_op op_sub (pe_op op_pow pe_int pe_int) pe_int) pa_nil))))))))), ?_⟩
    refine ⟨_, rfl, p, L, _, _, rfl, by decide, by decide, by omega, pn, fun d H1 t1 p1 a1 c1 => ?_⟩
    refine ⟨_, rfl, _, _, rfl, rfl, _, rfl, ite2 (fun e => ?_) (fun e => ?_)⟩
    · have e := of_decide_eq_true e
      refine ⟨_, rfl, (by show 3 ≤ sizeLine; decide), fun l nl => ?_⟩
      obtain ⟨m, hm, m1, m2⟩ : ∃ m : Int, atI [V.int 9, .int 60, .int 400] d = some (.int m) ∧ 1 ≤ m ∧ m ≤ 400 := by
        rcases (show d = 0 ∨ d = 1 ∨ d = 2 by omega) with rfl | rfl | rfl
        · exact ⟨9, atI_nat (j := 0) rfl, by decide, by decide⟩
        · exact ⟨60, atI_nat (j := 1) rfl, by decide, by decide⟩
        · exact ⟨400, atI_nat (j := 2) rfl, by decide, by decide⟩
      refine ⟨_, rfl, l, _, _, _, rfl, rfl, SqL.of upd_same, hm, p, L, _, _, rfl, m1, by omega, by omega, p1.new nl, fun d2 H2 t2 p2 a2 c2 => ⟨_, _, rfl, rfl, ?_⟩⟩
      exact kk _ H2 (by omega) (by omega) (t1.trans ((But.upd_new nl).trans t2)) (p2.mono (by omega))
    · refine ⟨_, rfl, rfl, _, rfl, ite2 (fun e => ?_) (fun e => ?_)⟩
      · refine ⟨_, _, rfl, rfl, ⟨by decide, by decide, by decide⟩, _, rfl, p, L, _, _, rfl, by decide, by decide, by omega, p1, fun d2 H2 t2 p2 a2 c2 => ⟨_, _, rfl, rfl, ?_⟩⟩
        exact kk (10 ^ 12 - d2) H2 (by omega) (by omega) (t1.trans t2) (p2.mono (by omega))
      · refine ⟨_, rfl, _, _, rfl, rfl, ⟨by decide, by decide, by decide⟩, _, _, rfl, rfl, p, L, _, _, rfl, by decide, by decide, by omega, p1, fun d2 H2 t2 p2 a2 c2 => ⟨_, _, rfl, rfl, ?_⟩⟩
        have c2 : d2 < 10 ^ 12 - 1 := c2
        exact kk _ H2 (by omega) (by omega) (t1.trans t2) (p2.mono (by omega))
theorem scLIdle : FnScope ["_law_told", "_law_by"] ["_law_told", "_law_by"] (defScope sLIdle) := ⟨rfl, rfl, rfl, by decide +kernel, rfl, by decide +kernel, by decide +kernel⟩
theorem ok_lidle {f : Addr} {fd : FuncData} (F : Fun K "_law_idle" "_law_idle" sLIdle f fd) (T : Blt mg) : FnOk P w K mg base CX0 1 f fd ["_law_told", "_law_by"] spLIdle := by
  refine F.ok scLIdle (fun vs H Q E h => ?_) (fun cdv A outer s H vs Q E hr h => ?_)
  · obtain ⟨a, r, b, rfl, _⟩ := h
    rfl
  · obtain ⟨a, r, b, rfl, ha, o, hb, kk⟩ := h
    refine ⟨_, (pss_cons (ps_if (pt_cmpR op_le (pe_op op_add (pe_ix ix_tup (pv 0) pe_int (fun _ _ => rfl)) pe_int) (pe_ix ix_tup (pv 0) pe_int (fun _ _ => rfl)) (nomark _))
        (pss_one (ps_ret (pe_op op_catT (pe_slice sl_tup (pv 0) po_none (po_some pe_int)) (pe_tup (pa_cons (pe_callB (call_min2 rfl) (by rfl) T.min (by decide +kernel) (pa_cons pe_int (pa_cons (pe_callTy call_int1 (by rfl) T.int (by decide +kernel) (pa_cons (pe_op op_add (pe_ix ix_tup (pv 0) pe_int (fun _ _ => rfl)) (pv 1)) pa_nil)) pa_nil))) pa_nil))))) pss_nil)
      (pss_one (ps_ret (pe_op op_catT (pe_slice sl_tup (pv 0) po_none (po_some pe_int)) (pe_tup (pa_cons (pe_callB (call_min2 rfl) (by rfl) T.min (by decide +kernel) (pa_cons pe_int (pa_cons (pe_callTy call_int1 (by rfl) T.int (by decide +kernel) (pa_cons (pe_op op_add (pe_ix ix_tup (pv 0) pe_int (fun _ _ => rfl)) (pv 1)) pa_nil)) pa_nil))) (pa_cons (pe_ix ix_tup (pv 0) pe_int (fun _ _ => rfl)) pa_nil))))))), ?_⟩
    refine ⟨_, rfl, a, _, _, _, rfl, rfl, SqT.of ha, i5_3, _, _, rfl, rfl, _, rfl, a, _, _, _, rfl, rfl, SqT.of ha, i5_4, _, _, rfl, rfl, _, rfl, ite2 (fun e => ?_) (fun e => ?_)⟩
    · have e := of_decide_eq_true e
      refine ⟨_, rfl, _, rfl, a, tupR r, rfl, SqT.of ha, (by show ¬ (HT.sIx 5 0 none = 0 ∧ HT.sIx 5 5 (some 4) = 5); decide), fun x1 n1 => ?_⟩
      have c : cutV (tupR r) none (some 4) = [.int r.p, .int r.q, .int r.k, .int r.c] := rfl
      rw [c]
      have s1 : Same H (upd H x1 (.tup [.int r.p, .int r.q, .int r.k, .int r.c])) := same_new n1
      have h1 : upd H x1 (.tup [.int r.p, .int r.q, .int r.k, .int r.c]) x1 = some (.tup [.int r.p, .int r.q, .int r.k, .int r.c]) := upd_same
      generalize upd H x1 (.tup [.int r.p, .int r.q, .int r.k, .int r.c]) = H1 at s1 h1 ⊢
      refine ⟨_, rfl, a, _, _, _, rfl, rfl, SqT.of (s1 _ _ ha), i5_4, _, rfl, _, _, rfl, rfl, .inl ⟨_, rfl, _, _, rfl, (by show 1 ≤ sizeLine; decide), fun x2 n2 => ?_⟩⟩
      refine ⟨x1, x2, _, _, rfl, rfl, SqT.of (same_new n2 _ _ h1), SqT.of upd_same, by simp, by show 5 ≤ sizeLine; decide, fun z => by simp at z, fun _ x3 n3 => ?_⟩
      refine kk x3 _ (s1.trans ((same_new n2).trans (same_new n3))) ?_
      rw [upd_same]
      unfold Fr.idle
      rw [if_pos e]
      rfl
    · have e : ¬ (r.c + 1 ≤ r.j) := fun z => e (decide_eq_true z)
      refine ⟨_, rfl, _, rfl, a, tupR r, rfl, SqT.of ha, (by show ¬ (HT.sIx 5 0 none = 0 ∧ HT.sIx 5 5 (some 3) = 5); decide), fun x1 n1 => ?_⟩
      have c : cutV (tupR r) none (some 3) = [.int r.p, .int r.q, .int r.k] := rfl
      rw [c]
      have s1 : Same H (upd H x1 (.tup [.int r.p, .int r.q, .int r.k])) := same_new n1
      have h1 : upd H x1 (.tup [.int r.p, .int r.q, .int r.k]) x1 = some (.tup [.int r.p, .int r.q, .int r.k]) := upd_same
      generalize upd H x1 (.tup [.int r.p, .int r.q, .int r.k]) = H1 at s1 h1 ⊢
      refine ⟨_, rfl, a, _, _, _, rfl, rfl, SqT.of (s1 _ _ ha), i5_3, _, rfl, _, _, rfl, rfl, .inl ⟨_, rfl, _, _, rfl, _, rfl, a, _, _, _, rfl, rfl, SqT.of (s1 _ _ ha), i5_4, (by show 2 ≤ sizeLine; decide), fun x2 n2 => ?_⟩⟩
      refine ⟨x1, x2, _, _, rfl, rfl, SqT.of (same_new n2 _ _ h1), SqT.of upd_same, by simp, by show 5 ≤ sizeLine; decide, fun z => by simp at z, fun _ x3 n3 => ?_⟩
      refine kk x3 _ (s1.trans ((same_new n2).trans (same_new n3))) ?_
      rw [upd_same]
      unfold Fr.idle
      rw [if_neg e]
      rfl
/-- what the methods of fill rules do -/
structure FMeth (P : Program) (w : World) (K : PySem.W.Frag) (mg : Str → Option Value) (base : Heap) (C : Addr) : Prop where
  cls : FCls K C
  fits : ∃ f fd, Meth K C "fits" f ∧ FnOk P w K mg base CX0 4 f fd ["self", "most"] (spFits C) ∧ Binds K fd ["self", "most"] []
  low : ∃ f fd, Meth K C "least_fill" f ∧ FnOk P w K mg base CX0 4 f fd ["self", "most"] (spLeastFill C) ∧ Binds K fd ["self", "most"] []
theorem scLBetweenRight : FnScope ["_law_made", "_law_top", "_law_step", "_law_some", "_law_lap"] ["_law_made", "_law_top", "_law_step"] (defScope sLBetweenRight) := ⟨rfl, rfl, rfl, by decide +kernel, rfl, by decide +kernel, by decide +kernel⟩
theorem ok_lbetween {f C : Addr} {fd : FuncData} (F : Fun K "_law_between_right" "_law_between_right" sLBetweenRight f fd) (T : Blt mg) (M : FMeth P w K mg base C) : FnOk P w K mg base CX0 5 f fd ["_law_made", "_law_top", "_law_step"] (spLBetween C) := by
  obtain ⟨f1, fd1, m1, G1, b1⟩ := M.fits
  obtain ⟨f2, fd2, m2, G2, b2⟩ := M.low
  refine F.ok scLBetweenRight (fun vs H Q E h => ?_) (fun cdv A outer s H vs Q E hr h => ?_)
  · obtain ⟨x, r, m, s, rfl, _⟩ := h
    rfl
  · obtain ⟨x, r, m, s, rfl, fa, o, hm, hs, hle, kk⟩ := h
    refine ⟨_, (pss_cons (ps_setLc (i := 3) (own := [("_law_lap", 4)]) (g := gName 4) (tt := tYes) (by rfl) scLBetweenRight.nd rfl rfl (sw_true rfl rfl rfl (by decide +kernel)) (pi_range1 (by rfl) T.range (pa_cons pe_int pa_nil)) (blkOk_by (own := [("_law_lap", 4)]) (N := ["_law_made", "_law_top", "_law_step", "_law_some", "_law_lap"]) (sc := defScope sLBetweenRight) (by decide +kernel)) (fun _ _ _ _ _ => pg_name (i := 4) scLBetweenRight.nd rfl (.inl rfl)) (fun _ _ _ _ _ => pts_nil) (fun _ _ _ _ _ => (pe_meth (pv 0) M.cls.cl m1 G1 hr b1 .nil pass0 (pa_cons (pe_op op_add (pv 1) (pe_op op_mul (pv 4) (pv 2))) pa_nil))))
      (pss_one (ps_ret (pe_or (pe_cmpR op_lt (pe_meth (pv 0) M.cls.cl m2 G2 hr b2 .nil pass0 (pa_cons (pv 1) pa_nil)) pe_int (nomark _)) (pe_or (pe_not (pe_and (pe_ix ix_list (pv 3) pe_int (fun _ _ => rfl)) (pe_one (pe_ix ix_list (pv 3) pe_int (fun _ _ => rfl))))) (pe_one (pe_ix ix_list (pv 3) pe_int (fun _ _ => rfl)))))))), ?_⟩
    have q1 := o.q1
    have qs : 0 ≤ r.q * s := Int.mul_nonneg (by omega) hs
    have f3 : ∀ i : Nat, i < 3 → m + (0 + (i : Int)) * (r.q * s) ≤ 10 ^ 12 ∧ 2 ≤ m + (0 + (i : Int)) * (r.q * s) := by
      intro i hi
      rcases (show i = 0 ∨ i = 1 ∨ i = 2 by omega) with rfl | rfl | rfl
      · rw [show (0 + ((0 : Nat) : Int)) * (r.q * s) = 0 by simp]; omega
      · rw [show (0 + ((1 : Nat) : Int)) * (r.q * s) = r.q * s by simp]; omega
      · rw [show (0 + ((2 : Nat) : Int)) = 2 by rfl]; omega
    have rg : ∀ i : Nat, V.bl (r.right (m + (0 + (i : Int)) * (r.q * s))) = V.bl (r.right (m + (i : Int) * (r.q * s))) := fun i => by rw [Int.zero_add]
    refine ⟨3, rfl, by decide, by decide, fun D nD => lc_range (lo := 0) (n := 3) (fun i H' => H' D = some (.lst ((List.range i).map fun (i : Nat) => V.bl (r.right (m + (i : Int) * (r.q * s))))) ∧ Same H H') ⟨upd_same, same_new nD⟩ (fun i H' hi h => ?_) (fun H' h => ?_)⟩
    · obtain ⟨hD, s2⟩ := h
      refine ⟨rfl, _, rfl, x, _, _, rfl, (fa.keep s2).choose_spec.choose_spec.1, fill_no _ _ (by decide +kernel) (by decide +kernel) (by decide +kernel) (by decide +kernel) (by decide +kernel), _, rfl, _, rfl, _, rfl, _, _, rfl, rfl, .inl (mw (b := 12) (by omega) (by omega) (by decide)), _, _, rfl, rfl, x, r, _, rfl, fa.keep s2, o, (f3 i hi).2, (f3 i hi).1, _, hD, ?_, ?_, ?_⟩
      · rw [List.length_map, List.length_range]; exact small1000 (by omega)
      · rw [upd_same, List.range_succ, List.map_append, rg]; rfl
      · exact fun b u e => by rw [upd_ne (ne_of_none e nD)]; exact s2 _ _ e
    · obtain ⟨hD, s2⟩ := h
      have hD : H' D = some (.lst [.bl (r.right (m + 0 * (r.q * s))), .bl (r.right (m + 1 * (r.q * s))), .bl (r.right (m + 2 * (r.q * s)))]) := hD
      rw [show m + 0 * (r.q * s) = m by simp] at hD
      have a0 : ∀ {u v z : V}, atI [u, v, z] 0 = some u := fun {u v z} => atI_nat (j := 0) rfl
      have a1 : ∀ {u v z : V}, atI [u, v, z] 1 = some v := fun {u v z} => atI_nat (j := 1) rfl
      have a2 : ∀ {u v z : V}, atI [u, v, z] 2 = some z := fun {u v z} => atI_nat (j := 2) rfl
      have fa2 := fa.keep s2
      refine ⟨_, rfl, x, _, _, rfl, fa2.choose_spec.choose_spec.1, fill_no _ _ (by decide +kernel) (by decide +kernel) (by decide +kernel) (by decide +kernel) (by decide +kernel), _, rfl, x, r, m, rfl, fa2, o, hm, by omega, _, _, rfl, rfl, _, rfl, ite2 (fun e => ?_) (fun e => ?_)⟩
      · exact kk _ s2
      · have e : ¬ (r.least m < 1) := fun z => e (decide_eq_true z)
        refine ⟨_, rfl, D, _, _, _, rfl, rfl, SqL.of hD, a0, _, rfl, ite2 (fun e1 => ?_) (fun e1 => ?_)⟩
        · refine ⟨_, rfl, D, _, _, _, rfl, rfl, SqL.of hD, a2, _, rfl, _, rfl, ite2 (fun e2 => ?_) (fun e2 => ?_)⟩
          · exact kk _ s2
          · refine ⟨_, rfl, D, _, _, _, rfl, rfl, SqL.of hD, a1, ?_⟩
            have e3 : r.right (m + 2 * (r.q * s)) = true := by
              cases z : r.right (m + 2 * (r.q * s)) with
              | true => rfl
              | false => rw [z] at e2; exact absurd rfl e2
            rw [between o hm hs (by omega) e1 e3]
            exact kk _ s2
        · exact ⟨_, rfl, _, rfl, iteT (kk _ s2)⟩
end
end Ev
namespace Ev
open PySem L2 PySem.Spec PyProof.Rows
theorem shown_b (b : Bool) : (PyData.bool b).shown.length ≤ sizeLine := by cases b <;> decide +kernel
theorem shown_d (b : Bool) : (PyData.bool b).depth ≤ 32 := by cases b <;> decide +kernel
def thin : List Int := [2, 3, 4, 5, 7]
def thinN (i : Nat) : Nat := ((List.range i).filter fun (j : Nat) => Fr.right ⟨2, 3, 0, 1, 3⟩ (2 + (j : Int))).length
theorem thin_step : ∀ i : Fin 38, (Fr.right ⟨2, 3, 0, 1, 3⟩ (2 + ((i : Nat) : Int)) = true → thinN (i + 1) = thinN i + 1 ∧ thin[thinN i]? = some (2 + ((i : Nat) : Int))) ∧ (Fr.right ⟨2, 3, 0, 1, 3⟩ (2 + ((i : Nat) : Int)) = false → thinN (i + 1) = thinN i) := by decide +kernel
theorem eqv_thin : PyData.eqv (.list (thin.map PyData.int)) (.list (thin.map PyData.int)) = true := by decide +kernel
section
variable {P : Program} {w : World} {K : PySem.W.Frag} {mg : Str → Option Value} {base : Heap}
theorem scLaw : FnScope ["_law_script", "_law_pen_here", "_law_turn", "_law_told", "_law_top", "_law_made", "_law_other", "_law_size_here", "_law_due", "_law_step", "_law_thin"] ["_law_script"] (defScope sLaw) := ⟨rfl, rfl, rfl, by decide +kernel, rfl, by decide +kernel, by decide +kernel⟩
abbrev nLaw : List Str := ["_law_script", "_law_pen_here", "_law_turn", "_law_told", "_law_top", "_law_made", "_law_other", "_law_size_here", "_law_due", "_law_step", "_law_thin"]
theorem ok_law {f C fI : Addr} {fd fdI : FuncData} {g : List Value → List Value → List Value} (F : Fun K "law" "law" sLaw f fd) (T : Blt mg) (mr : mg "repr" = none) (gC : mg "FillRule" = some (.ref C)) (M : Mk K C fI) (FM : FMeth P w K mg base C)
    (GI : FnOk P w K mg base CX0 5 fI fdI ["self", "times", "plus", "cut_of", "join_of"] (spFillInit C)) (bI : KBn K fdI ["self", "times", "plus", "cut_of", "join_of"] 2 ["join_of"] g (fun vs zs => vs ++ ([.int 0] ++ ([.int 1] ++ zs))))
    (D1 : Df P w K mg base 1 "_law_pen" ["_law_script"] (spPen K)) (D2 : Df P w K mg base 2 "_law_numbers" ["_law_pen_here"] spLNums) (D3 : Df P w K mg base 2 "_law_size" ["_law_pen_here"] spLSize) (D4 : Df P w K mg base 7 "_law_rule" ["_law_told"] (spLRule C))
    (D5 : Df P w K mg base 1 "_law_draw" ["_law_pen_here", "_law_many"] spDraw) (D6 : Df P w K mg base 1 "_law_idle" ["_law_told", "_law_by"] spLIdle) (D7 : Df P w K mg base 2 "_law_is_right" ["_law_told", "_law_top"] spLIsRight) (D8 : Df P w K mg base 5 "_law_between_right" ["_law_made", "_law_top", "_law_step"] (spLBetween C)) :
    FnG P w K mg base 8 f fd ["_law_script"] (spLaw K) := by
  obtain ⟨f1, fd1, G1, g1, k1, b1⟩ := D1.ex
  obtain ⟨f2, fd2, G2, g2, k2, b2⟩ := D2.ex
  obtain ⟨f3, fd3, G3, g3, k3, b3⟩ := D3.ex
  obtain ⟨f4, fd4, G4, g4, k4, b4⟩ := D4.ex
  obtain ⟨f5, fd5, G5, g5, k5, b5⟩ := D5.ex
  obtain ⟨f6, fd6, G6, g6, k6, b6⟩ := D6.ex
  obtain ⟨f7, fd7, G7, g7, k7, b7⟩ := D7.ex
  obtain ⟨f8, fd8, G8, g8, k8, b8⟩ := D8.ex
  obtain ⟨f9, fd9, m9, G9, b9⟩ := FM.fits
  refine fng_of F scLaw (fun vs H Q E h => ?_) (fun cdv A outer s H vs Q E hr gd h => ?_)
  · obtain ⟨a, ns, rfl, _⟩ := h
    rfl
  · obtain ⟨a, ns, rfl, hS, hlen, kk⟩ := h
    have hr1 : Room 1 _ := hr.mono (by decide)
    have hr2 : Room 2 _ := hr.mono (by decide)
    have hr4 : Room 4 _ := hr.mono (by decide)
    have hr5 : Room 5 _ := hr.mono (by decide)
    have hr6 : Room 6 _ := hr.mono (by decide)
    have hu := hu_of (hr.mono (show 1 ≤ 7 by decide))
    have huu : (cxOf CX0 P w K mg base nLaw "law" (defScope sLaw) f cdv A outer s H E).nox.A.units + 64 < cLine := Room.units hr
    -- behind the turns
    obtain ⟨tR, hR, qR⟩ : ∃ t : TS, PSs (cxOf CX0 P w K mg base nLaw "law" (defScope sLaw) f cdv A outer s H E).nox ((defBody sLaw).drop 2) t ∧ ∀ (G : Hp) (v2 v3 v4 v5 v6 v7 v8 v9 : Option V) (p : Addr),
        t { nx := fun _ H' => Q .non H', rt := Q } [some (.ref a), some (.ref p), v2, v3, v4, v5, v6, v7, v8, v9, none] G := by
      refine ⟨_, (pss_cons (ps_set (i := 10) scLaw.nd rfl (by first | exact .inl rfl | exact .inr rfl) (pe_makeK (n := 1) M GI hr6 (by rfl) gC bI pass0 (pa_cons (pe_tup (pa_cons pe_int (pa_cons pe_int pa_nil))) pa_nil) (pk_cons pe_int pk_nil)))
        (pss_one (ps_ret (pe_cmpR (op_eqD hr.units) (pe_lc (own := [("_law_size_here", 7)]) (g := gName 7) (by rfl) scLaw.nd (pi_range2 (by rfl) T.range (pa_cons pe_int (pa_cons pe_int pa_nil))) (blkOk_by (own := [("_law_size_here", 7)]) (N := nLaw) (sc := defScope sLaw) (by decide +kernel)) (fun _ _ _ _ _ => pg_name (i := 7) scLaw.nd rfl (.inl rfl)) (fun _ _ _ _ _ => pts_one (pt_val (pe_meth (pv 10) FM.cls.cl m9 G9 hr4 b9 .nil pass0 (pa_cons (pv 7) pa_nil)))) (fun _ _ _ _ _ => (pv 7))) (pe_lst (pa_cons pe_int (pa_cons pe_int (pa_cons pe_int (pa_cons pe_int (pa_cons pe_int pa_nil)))))) (nomark _))))), ?_⟩
      intro G v2 v3 v4 v5 v6 v7 v8 v9 p
      refine ⟨(by show 2 ≤ sizeLine; decide), fun t nt => ⟨rfl, rfl, fun x dx nx ndx nex => ?_⟩⟩
      have ht : upd G t (.tup [.int 2, .int 3]) t = some (.tup [.int 2, .int 3]) := upd_same
      generalize upd G t (.tup [.int 2, .int 3]) = H2 at ht nx ndx ⊢
      have keep : ∀ (o1 o2 : HO) (b : Addr) (u : HO), H2 b = some u → upd (upd H2 dx o1) x o2 b = some u := fun o1 o2 b u e => by
        rw [upd_ne (ne_of_none e nx), upd_ne (ne_of_none e ndx)]; exact e
      have o : Fr.ok ⟨2, 3, 0, 1, 3⟩ := ⟨by decide, by decide, by decide, by decide, by decide, by decide, by decide, by decide, by decide, by decide⟩
      refine ⟨x, dx, t, ⟨2, 3, 0, 1, 3⟩, rfl, upd_same, keep _ _ _ _ ht, o, fun H3 t3 hx3 => ⟨rfl, ?_⟩⟩
      have fa : FAt C H3 x ⟨2, 3, 0, 1, 3⟩ := ⟨dx, t, hx3, t3 _ _ (ne_of_none ht nx) (keep _ _ _ _ ht)⟩
      clear t3 hx3 keep nx ndx ht H2
      refine ⟨2, 40, rfl, ⟨by decide, by decide, by decide, by decide⟩, fun D nD => lc_range (lo := 2) (n := 38) (fun i H' => H' D = some (.lst ((thin.take (thinN i)).map V.int)) ∧ Same H3 H') ⟨upd_same, same_new nD⟩ (fun i H' hi h => ?_) (fun H' h => ?_)⟩
      · obtain ⟨hD, s2⟩ := h
        have fa2 := fa.keep s2
        refine ⟨rfl, _, rfl, x, _, _, rfl, fa2.choose_spec.choose_spec.1, fill_no _ _ (by decide +kernel) (by decide +kernel) (by decide +kernel) (by decide +kernel) (by decide +kernel), _, rfl, x, _, _, rfl, fa2, o, by omega, by omega, ?_⟩
        have st := thin_step ⟨i, hi⟩
        have lt : thinN i ≤ 38 := Nat.le_trans (List.length_filter_le _ _) (by rw [List.length_range]; omega)
        refine ⟨_, rfl, ite2 (fun e => ?_) (fun e => ?_)⟩
        · obtain ⟨e1, e2⟩ := st.1 e
          refine ⟨_, rfl, _, hD, ?_, ?_, ?_⟩
          · rw [List.length_map, List.length_take]; exact small1000 (Nat.le_trans (Nat.min_le_left _ _) (by omega))
          · show upd H' D _ D = some (.lst ((thin.take (thinN (i + 1))).map V.int))
            rw [upd_same, e1, List.take_add_one, e2, List.map_append]
            rfl
          · exact fun b u q => by rw [upd_ne (ne_of_none q nD)]; exact s2 _ _ q
        · have e1 := st.2 (Bool.eq_false_iff.mpr e)
          refine ⟨?_, s2⟩
          show H' D = some (.lst ((thin.take (thinN (i + 1))).map V.int))
          rw [e1]
          exact hD
      · obtain ⟨hD, s2⟩ := h
        have hD : H' D = some (.lst (thin.map V.int)) := hD
        refine ⟨(by show 5 ≤ sizeLine; decide), fun l nl => ?_⟩
        have hl : upd H' l (.lst (thin.map V.int)) l = some (.lst (thin.map V.int)) := upd_same
        refine ⟨_, _, .lst (SqL.of (same_new nl _ _ hD)) (dpInts thin), .lst (SqL.of hl) (dpInts thin), sh_ints thin, sh_ints thin, ?_⟩
        rw [eqv_thin]
        exact kk _
    refine ⟨_, (pss_cons (ps_set (i := 1) scLaw.nd rfl (.inl rfl) (pe_call G1 hr1 (by rfl) g1 k1 b1 .nil pass0 (pa_cons (pv 0) pa_nil)))
    (pss_cons (ps_for PassesOwn.never rfl (pi_range1 (by rfl) T.range (pa_cons pe_int pa_nil)) (pg_name (i := 2) scLaw.nd rfl (.inl rfl))
      (pss_cons (ps_par (i := 3) (j := 4) (by rfl) scLaw.nd rfl rfl (by decide) rfl rfl (pa_cons (pe_call G2 hr2 (by rfl) g2 k2 b2 .nil pass0 (pa_cons (pv 1) pa_nil)) (pa_cons (pe_call G3 hr2 (by rfl) g3 k3 b3 .nil pass0 (pa_cons (pv 1) pa_nil)) pa_nil)) (by rfl))
      (pss_cons (ps_par (i := 5) (j := 6) (by rfl) scLaw.nd rfl rfl (by decide) rfl rfl (pa_cons (pe_call G4 hr (by rfl) g4 k4 b4 .nil pass0 (pa_cons (pv 3) pa_nil)) (pa_cons (pe_call G4 hr (by rfl) g4 k4 b4 .nil pass0 (pa_cons (pe_call G6 hr1 (by rfl) g6 k6 b6 .nil pass0 (pa_cons (pv 3) (pa_cons (pe_op op_add pe_int (pe_call G5 hr1 (by rfl) g5 k5 b5 .nil pass0 (pa_cons (pv 1) (pa_cons pe_int pa_nil)))) pa_nil))) pa_nil)) pa_nil)) (by rfl))
      (pss_cons (ps_for PassesOwn.never rfl (pi_range2 (by rfl) T.range (pa_cons (pv 4) (pa_cons (pe_op op_add (pe_callB (call_min2 rfl) (by rfl) T.min (by decide +kernel) (pa_cons (pe_op op_pow pe_int pe_int) (pa_cons (pe_op op_add (pv 4) pe_int) pa_nil))) pe_int) pa_nil))) (pg_name (i := 7) scLaw.nd rfl (.inl rfl))
        (pss_cons (ps_set (i := 8) scLaw.nd rfl (.inl rfl) (pe_call G7 hr2 (by rfl) g7 k7 b7 .nil pass0 (pa_cons (pv 3) (pa_cons (pv 7) pa_nil))))
        (pss_one (ps_if (PW.pt (pw_or (pt_cmpR op_ne (pe_callB (call_reprV gd huu) (by rfl) mr (by decide +kernel) (pa_cons (pe_meth (pv 5) FM.cls.cl m9 G9 hr4 b9 .nil pass0 (pa_cons (pv 7) pa_nil)) pa_nil)) (pe_callB (call_reprV gd huu) (by rfl) mr (by decide +kernel) (pa_cons (pv 8) pa_nil)) (nomark _)) (pw_or1 (pt_cmpR op_ne (pe_meth (pv 6) FM.cls.cl m9 G9 hr4 b9 .nil pass0 (pa_cons (pv 7) pa_nil)) (pv 8) (nomark _)))))
          (pss_one (ps_ret pe_bl)) pss_nil))))
      (pss_cons (ps_set (i := 9) scLaw.nd rfl (.inl rfl) (pe_op op_mul (pe_ix ix_tup (pv 3) pe_int (fun _ _ => rfl)) (pe_op op_add pe_int (pe_call G5 hr1 (by rfl) g5 k5 b5 .nil pass0 (pa_cons (pv 1) (pa_cons pe_int pa_nil))))))
      (pss_one (ps_if (PW.pt (pw_and (pt_cmpR op_le (pe_op op_add (pv 4) (pe_op op_mul pe_int (pv 9))) (pe_op op_pow pe_int pe_int) (nomark _)) (pw_and1 (pt_not (pt_val (pe_call G8 hr5 (by rfl) g8 k8 b8 .nil pass0 (pa_cons (pv 5) (pa_cons (pv 4) (pa_cons (pv 9) pa_nil)))))))))
        (pss_one (ps_ret pe_bl)) pss_nil)))))))
      hR)), ?_⟩
    refine ⟨_, rfl, a, ns, rfl, hS, hlen, fun p L H1 np s1 pn0 => ?_⟩
    refine ⟨12, rfl, by decide, by decide, for_range (n := 12) (fun i σ H2 => (∃ v2 v3 v4 v5 v6 v7 v8 v9 : Option V, σ = [some (.ref a), some (.ref p), v2, v3, v4, v5, v6, v7, v8, v9, none]) ∧ Pen L H2 p (100 * (i : Int))) ⟨⟨_, _, _, _, _, _, _, _, rfl⟩, pn0.mono (by omega)⟩ (fun i σ H2 hi h => ?_) (fun σ H2 h => ?_)⟩
    · obtain ⟨⟨v2, v3, v4, v5, v6, v7, v8, v9, rfl⟩, pn⟩ := h
      refine ⟨_, rfl, p, L, _, rfl, by omega, pn, fun at' r H3 o na ha b3' pn3 => ?_⟩
      refine ⟨_, rfl, p, L, _, rfl, by omega, pn3, fun m H4 h1 h2 b4' pn4 => ⟨_, _, rfl, ?_⟩⟩
      have ha4 : H4 at' = some (.tup (tupR r)) := But.tup ha pn3 b4'
      refine ⟨_, rfl, at', r, rfl, ha4, o, fun x1 H5 s5 fa5 => ?_⟩
      refine ⟨_, rfl, _, rfl, p, L, _, _, rfl, by decide, by decide, by omega, pn4.keep s5, fun d H6 b6' pn6 d1 d2 => ⟨_, _, rfl, rfl, ?_⟩⟩
      have pn5 := pn4.keep s5
      obtain ⟨ys, hys⟩ := pn5.some
      have fa6 : FAt C H6 x1 r := fa5.but hys b6'
      have ha6 : H6 at' = some (.tup (tupR r)) := But.tup (s5 _ _ ha4) pn5 b6'
      refine ⟨at', r, _, rfl, ha6, o, by omega, fun a7 H7 s7 h7 => ?_⟩
      refine ⟨a7, _, rfl, h7, idle_ok o (by omega), fun x2 H8 s8 fa8 => ⟨_, _, rfl, ?_⟩⟩
      have fa1 : FAt C H8 x1 r := (fa6.keep s7).keep s8
      have ha8 : H8 at' = some (.tup (tupR r)) := s8 _ _ (s7 _ _ ha6)
      have pn8 : Pen L H8 p (100 * (i : Int) + 10 + 2 + 1) := (pn6.keep s7).keep s8
      have hi8 : (if m + 7 < (10 : Int) ^ Int.toNat 12 then m + 7 else (10 : Int) ^ Int.toNat 12) ≤ 10 ^ 12 ∧ m ≤ (if m + 7 < (10 : Int) ^ Int.toNat 12 then m + 7 else (10 : Int) ^ Int.toNat 12) := by
        rw [show (10 : Int) ^ Int.toNat 12 = 10 ^ 12 from rfl]
        split <;> omega
      clear s8 s7 h7 ha6 fa6 hys pn6 pn5 fa5 s5 ha4 b6' pn4 b4' pn3 b3' ha na pn
      refine ⟨_, rfl, _, _, rfl, rfl, ⟨by decide, by decide, by decide⟩, _, rfl, _, _, rfl, rfl, _, _, rfl, ?_⟩
      generalize (if m + 7 < (10 : Int) ^ Int.toNat 12 then m + 7 else (10 : Int) ^ Int.toNat 12) = e at hi8 ⊢
      refine ⟨_, _, rfl, rfl, _, _, rfl, ⟨by omega, by omega, by omega, by omega⟩, ?_⟩
      refine for_range (lo := m) (n := (e + 1 - m).toNat) (fun _ σ H' => (∃ v7 v8 : Option V, σ = [some (.ref a), some (.ref p), some (.int (0 + (i : Int))), some (.ref at'), some (.int m), some (.ref x1), some (.ref x2), v7, v8, v9, none]) ∧ Same H8 H') ⟨⟨_, _, rfl⟩, Same.refl _⟩ (fun j σ H' hj h => ?_) (fun σ H' h => ?_)
      · obtain ⟨⟨v7, v8, rfl⟩, sH⟩ := h
        have hmj : 2 ≤ m + (j : Int) ∧ m + (j : Int) ≤ 10 ^ 12 := by omega
        refine ⟨_, rfl, _, rfl, at', r, _, rfl, sH _ _ ha8, o, hmj.1, fun H9 s9 => ?_⟩
        have fa9 : FAt C H9 x1 r := (fa1.keep sH).keep s9
        have fb9 : FAt C H9 x2 (r.idle (1 + d)) := (fa8.keep sH).keep s9
        refine ⟨_, rfl, x1, _, _, rfl, fa9.choose_spec.choose_spec.1, fill_no _ _ (by decide +kernel) (by decide +kernel) (by decide +kernel) (by decide +kernel) (by decide +kernel), _, rfl, x1, r, _, rfl, fa9, o, hmj.1, hmj.2, ?_⟩
        refine ⟨_, .bool _, rfl, .plain (.bl _) rfl, rfl, shown_d _, shown_b _, _, rfl, _, .bool _, rfl, .plain (.bl _) rfl, rfl, shown_d _, shown_b _, rfl, _, rfl, ?_⟩
        refine iteNS rfl ⟨_, rfl, x2, _, _, rfl, fb9.choose_spec.choose_spec.1, fill_no _ _ (by decide +kernel) (by decide +kernel) (by decide +kernel) (by decide +kernel) (by decide +kernel), _, rfl, x2, _, _, rfl, fb9, idle_ok o (by omega), hmj.1, hmj.2, ?_⟩
        rw [idle_right o (by omega)]
        refine ⟨_, rfl, rfl, _, rfl, ?_⟩
        exact iteNS rfl ⟨⟨_, _, rfl⟩, sH.trans s9⟩
      · obtain ⟨⟨v7, v8, rfl⟩, sH⟩ := h
        refine ⟨_, rfl, at', _, _, _, rfl, rfl, SqT.of (sH _ _ ha8), i5_1, _, rfl, p, L, _, _, rfl, by decide, by decide, by omega, pn8.keep sH, fun d' H9 b9' pn9 e1 e2 => ⟨_, _, rfl, rfl, _, _, rfl, rfl, .inl (mw (b := 12) (by have := o.q1; omega) o.q2 (by decide)), ?_⟩⟩
        obtain ⟨ys, hys⟩ := (pn8.keep sH).some
        have fa9 : FAt C H9 x1 r := (fa1.keep sH).but hys b9'
        refine ⟨_, rfl, _, rfl, _, _, rfl, rfl, .inl ⟨by decide, by decide⟩, _, _, rfl, rfl, _, _, rfl, rfl, ⟨by decide, by decide, by decide⟩, _, _, rfl, rfl, _, rfl, ite2 (fun e => ?_) (fun e => ?_)⟩
        · have e := of_decide_eq_true e
          refine ⟨_, rfl, _, rfl, _, rfl, x1, r, m, 1 + d', rfl, fa9, o, h1, by omega, e, fun H10 s10 => ⟨true, rfl, iteF ⟨⟨_, _, _, _, _, _, _, _, rfl⟩, (pn9.keep s10).mono (by omega)⟩⟩⟩
        · exact ⟨⟨_, _, _, _, _, _, _, _, rfl⟩, pn9.mono (by omega)⟩
    · obtain ⟨⟨v2, v3, v4, v5, v6, v7, v8, v9, rfl⟩, pn⟩ := h
      exact qR _ _ _ _ _ _ _ _ _ _
end
end Ev
namespace Ev
open PySem L2 PySem.Spec PyProof.Rows
theorem sqT_K {K : PySem.W.Frag} {H : Hp} {a : Addr} {od : Option Addr} {us : List Value} {n : Nat} {sl : Array (Option Value)} {xs : List V} (h : K.lookup a = some ⟨.type "tuple", od, .seq us.toArray n, sl⟩) (hl : xs.length ≤ 1000) (r : Vals xs us) : SqT K H a xs := by
  have hl2 : us.length ≤ 1000 := by rw [← r.length]; exact hl
  exact .inr ⟨_, us.toArray, n, h, rfl, rfl, by rw [List.size_toArray]; exact Nat.le_trans hl2 (by decide), by simpa using r⟩
set_option maxHeartbeats 4000000 in
theorem all_mk {l : PySem.W.OpenLaw} {w : World} {K : PySem.W.Frag} {h : Heap} {mg : Str → Option Value} {f0 f1 f2 f3 f4 f5 f6 f7 f8 f9 f10 f11 f12 f13 f14 f15 f16 f17 C T50 KD50 f50 f51 f52 TP D Da Db Dc fa : Addr} {od0 an0 od1 an1 od2 an2 od3 an3 od4 an4 od5 an5 od6 an6 od7 an7 od8 an8 od9 an9 od10 an10 od11 an11 od12 an12 od13 an13 od14 an14 od15 an15 od16 an16 od17 an17 td50 od50 an50 od51 an51 od52 an52 odTP odDa odDb odDc : Option Addr} {sl0 sl1 sl2 sl3 sl4 sl5 sl6 sl7 sl8 sl9 sl10 sl11 sl12 sl13 sl14 sl15 sl16 sl17 ts50 sl50 sl51 sl52 slTP slDa slDb slDc : Array (Option Value)} {oc0 dc0 pm0 cd0 ct0 kV0 oc1 dc1 pm1 cd1 ct1 kV1 oc2 dc2 pm2 cd2 ct2 kV2 oc3 dc3 pm3 cd3 ct3 kV3 oc4 dc4 pm4 cd4 ct4 kV4 oc5 dc5 pm5 cd5 ct5 kV5 oc6 dc6 pm6 cd6 ct6 kV6 oc7 dc7 pm7 cd7 ct7 kV7 oc8 dc8 pm8 cd8 ct8 kV8 oc9 dc9 pm9 cd9 ct9 kV9 oc10 dc10 pm10 cd10 ct10 kV10 oc11 dc11 pm11 cd11 ct11 kV11 oc12 dc12 pm12 cd12 ct12 kV12 oc13 dc13 pm13 cd13 ct13 kV13 oc14 dc14 pm14 cd14 ct14 kV14 oc15 dc15 pm15 cd15 ct15 kV15 oc16 dc16 pm16 cd16 ct16 kV16 oc17 dc17 pm17 cd17 ct17 kV17 tc50 oc50 dc50 pm50 cd50 ct50 oc51 dc51 pm51 cd51 ct51 kV51 oc52 dc52 pm52 cd52 ct52 kV52 : Value} {tt500 tk500 tgT tgL tgM uTP0 uTP1 uTP2 uTP3 tkD0 tkD1 tkD2 uDa0 uDa1 uDb0 uDb1 uDc0 uDc1 : Tok} {tn50 nTP nD nDa nDb nDc : Nat} {hD0 hD1 hD2 : Int} (X : K.In h) (G : h.Ns mainGlobals mg) (hfa : mg "law" = some (.ref fa))
    (a0 : PySem.W.nsIn K mainGlobals "is_integer" = some (some (.ref f0)))
    (l0 : K.lookup f0 = some ⟨oc0, od0, .func (PySem.W.fnOf "is_integer" "is_integer" (defArgs sIsInt) (defBody sIsInt) (defScope sIsInt) .none kV0 dc0 pm0 an0 cd0 ct0), sl0⟩)
    (c0 : PySem.W.codeIn K cd0 "is_integer" = true)
    (k0 : PySem.W.keepIn K (.ref f0) = true)
    (a1 : PySem.W.nsIn K mainGlobals "is_within" = some (some (.ref f1)))
    (l1 : K.lookup f1 = some ⟨oc1, od1, .func (PySem.W.fnOf "is_within" "is_within" (defArgs sWithin) (defBody sWithin) (defScope sWithin) .none kV1 dc1 pm1 an1 cd1 ct1), sl1⟩)
    (c1 : PySem.W.codeIn K cd1 "is_within" = true)
    (k1 : PySem.W.keepIn K (.ref f1) = true)
    (a2 : PySem.W.nsIn K mainGlobals "is_pair" = some (some (.ref f2)))
    (l2 : K.lookup f2 = some ⟨oc2, od2, .func (PySem.W.fnOf "is_pair" "is_pair" (defArgs sPair) (defBody sPair) (defScope sPair) .none kV2 dc2 pm2 an2 cd2 ct2), sl2⟩)
    (c2 : PySem.W.codeIn K cd2 "is_pair" = true)
    (k2 : PySem.W.keepIn K (.ref f2) = true)
    (a3 : PySem.W.nsIn K mainGlobals "least_of" = some (some (.ref f3)))
    (l3 : K.lookup f3 = some ⟨oc3, od3, .func (PySem.W.fnOf "least_of" "least_of" (defArgs sLeastOf) (defBody sLeastOf) (defScope sLeastOf) .none kV3 dc3 pm3 an3 cd3 ct3), sl3⟩)
    (c3 : PySem.W.codeIn K cd3 "least_of" = true)
    (k3 : PySem.W.keepIn K (.ref f3) = true)
    (a4 : PySem.W.nsIn K mainGlobals "crucial_of" = some (some (.ref f4)))
    (l4 : K.lookup f4 = some ⟨oc4, od4, .func (PySem.W.fnOf "crucial_of" "crucial_of" (defArgs sCrucialOf) (defBody sCrucialOf) (defScope sCrucialOf) .none kV4 dc4 pm4 an4 cd4 ct4), sl4⟩)
    (c4 : PySem.W.codeIn K cd4 "crucial_of" = true)
    (k4 : PySem.W.keepIn K (.ref f4) = true)
    (a5 : PySem.W.nsIn K mainGlobals "is_right_for" = some (some (.ref f5)))
    (l5 : K.lookup f5 = some ⟨oc5, od5, .func (PySem.W.fnOf "is_right_for" "is_right_for" (defArgs sIsRightFor) (defBody sIsRightFor) (defScope sIsRightFor) .none kV5 dc5 pm5 an5 cd5 ct5), sl5⟩)
    (c5 : PySem.W.codeIn K cd5 "is_right_for" = true)
    (k5 : PySem.W.keepIn K (.ref f5) = true)
    (a6 : PySem.W.nsIn K mainGlobals "can_be" = some (some (.ref f6)))
    (l6 : K.lookup f6 = some ⟨oc6, od6, .func (PySem.W.fnOf "can_be" "can_be" (defArgs sCanBe) (defBody sCanBe) (defScope sCanBe) .none kV6 dc6 pm6 an6 cd6 ct6), sl6⟩)
    (c6 : PySem.W.codeIn K cd6 "can_be" = true)
    (k6 : PySem.W.keepIn K (.ref f6) = true)
    (a7 : PySem.W.nsIn K mainGlobals "need_size" = some (some (.ref f7)))
    (l7 : K.lookup f7 = some ⟨oc7, od7, .func (PySem.W.fnOf "need_size" "need_size" (defArgs sNeedSize) (defBody sNeedSize) (defScope sNeedSize) .none kV7 dc7 pm7 an7 cd7 ct7), sl7⟩)
    (c7 : PySem.W.codeIn K cd7 "need_size" = true)
    (k7 : PySem.W.keepIn K (.ref f7) = true)
    (a8 : PySem.W.nsIn K mainGlobals "_law_pen" = some (some (.ref f8)))
    (l8 : K.lookup f8 = some ⟨oc8, od8, .func (PySem.W.fnOf "_law_pen" "_law_pen" (defArgs sPen) (defBody sPen) (defScope sPen) .none kV8 dc8 pm8 an8 cd8 ct8), sl8⟩)
    (c8 : PySem.W.codeIn K cd8 "_law_pen" = true)
    (k8 : PySem.W.keepIn K (.ref f8) = true)
    (a9 : PySem.W.nsIn K mainGlobals "_law_draw" = some (some (.ref f9)))
    (l9 : K.lookup f9 = some ⟨oc9, od9, .func (PySem.W.fnOf "_law_draw" "_law_draw" (defArgs sDraw) (defBody sDraw) (defScope sDraw) .none kV9 dc9 pm9 an9 cd9 ct9), sl9⟩)
    (c9 : PySem.W.codeIn K cd9 "_law_draw" = true)
    (k9 : PySem.W.keepIn K (.ref f9) = true)
    (a10 : PySem.W.nsIn K mainGlobals "_law_numbers" = some (some (.ref f10)))
    (l10 : K.lookup f10 = some ⟨oc10, od10, .func (PySem.W.fnOf "_law_numbers" "_law_numbers" (defArgs sLNumbers) (defBody sLNumbers) (defScope sLNumbers) .none kV10 dc10 pm10 an10 cd10 ct10), sl10⟩)
    (c10 : PySem.W.codeIn K cd10 "_law_numbers" = true)
    (k10 : PySem.W.keepIn K (.ref f10) = true)
    (a11 : PySem.W.nsIn K mainGlobals "_law_rule" = some (some (.ref f11)))
    (l11 : K.lookup f11 = some ⟨oc11, od11, .func (PySem.W.fnOf "_law_rule" "_law_rule" (defArgs sLRule) (defBody sLRule) (defScope sLRule) .none kV11 dc11 pm11 an11 cd11 ct11), sl11⟩)
    (c11 : PySem.W.codeIn K cd11 "_law_rule" = true)
    (k11 : PySem.W.keepIn K (.ref f11) = true)
    (a12 : PySem.W.nsIn K mainGlobals "_law_least" = some (some (.ref f12)))
    (l12 : K.lookup f12 = some ⟨oc12, od12, .func (PySem.W.fnOf "_law_least" "_law_least" (defArgs sLLeast) (defBody sLLeast) (defScope sLLeast) .none kV12 dc12 pm12 an12 cd12 ct12), sl12⟩)
    (c12 : PySem.W.codeIn K cd12 "_law_least" = true)
    (k12 : PySem.W.keepIn K (.ref f12) = true)
    (a13 : PySem.W.nsIn K mainGlobals "_law_is_right" = some (some (.ref f13)))
    (l13 : K.lookup f13 = some ⟨oc13, od13, .func (PySem.W.fnOf "_law_is_right" "_law_is_right" (defArgs sLIsRight) (defBody sLIsRight) (defScope sLIsRight) .none kV13 dc13 pm13 an13 cd13 ct13), sl13⟩)
    (c13 : PySem.W.codeIn K cd13 "_law_is_right" = true)
    (k13 : PySem.W.keepIn K (.ref f13) = true)
    (a14 : PySem.W.nsIn K mainGlobals "_law_size" = some (some (.ref f14)))
    (l14 : K.lookup f14 = some ⟨oc14, od14, .func (PySem.W.fnOf "_law_size" "_law_size" (defArgs sLSize) (defBody sLSize) (defScope sLSize) .none kV14 dc14 pm14 an14 cd14 ct14), sl14⟩)
    (c14 : PySem.W.codeIn K cd14 "_law_size" = true)
    (k14 : PySem.W.keepIn K (.ref f14) = true)
    (a15 : PySem.W.nsIn K mainGlobals "_law_idle" = some (some (.ref f15)))
    (l15 : K.lookup f15 = some ⟨oc15, od15, .func (PySem.W.fnOf "_law_idle" "_law_idle" (defArgs sLIdle) (defBody sLIdle) (defScope sLIdle) .none kV15 dc15 pm15 an15 cd15 ct15), sl15⟩)
    (c15 : PySem.W.codeIn K cd15 "_law_idle" = true)
    (k15 : PySem.W.keepIn K (.ref f15) = true)
    (a16 : PySem.W.nsIn K mainGlobals "_law_between_right" = some (some (.ref f16)))
    (l16 : K.lookup f16 = some ⟨oc16, od16, .func (PySem.W.fnOf "_law_between_right" "_law_between_right" (defArgs sLBetweenRight) (defBody sLBetweenRight) (defScope sLBetweenRight) .none kV16 dc16 pm16 an16 cd16 ct16), sl16⟩)
    (c16 : PySem.W.codeIn K cd16 "_law_between_right" = true)
    (k16 : PySem.W.keepIn K (.ref f16) = true)
    (a17 : PySem.W.nsIn K mainGlobals "law" = some (some (.ref f17)))
    (l17 : K.lookup f17 = some ⟨oc17, od17, .func (PySem.W.fnOf "law" "law" (defArgs sLaw) (defBody sLaw) (defScope sLaw) .none kV17 dc17 pm17 an17 cd17 ct17), sl17⟩)
    (c17 : PySem.W.codeIn K cd17 "law" = true)
    (k17 : PySem.W.keepIn K (.ref f17) = true)
    (aC : PySem.W.nsIn K mainGlobals "FillRule" = some (some (.ref C)))
    (pgC : PySem.W.plainGet K C Str.empty = true)
    (hdC : PySem.W.hasDictIn K C = true)
    (poC : PySem.W.plainOver K C = true)
    (saC : PySem.W.findIn K (.ref C) "__setattr__" = some (some (.builtin "object.__setattr__")))
    (mkC : PySem.W.makesIn K C = true)
    (kcC : PySem.W.keepIn K (.ref C) = true)
    (n0C : PySem.W.findIn K (.ref C) "times" = some none)
    (n1C : PySem.W.findIn K (.ref C) "plus" = some none)
    (n2C : PySem.W.findIn K (.ref C) "cut_of" = some none)
    (n3C : PySem.W.findIn K (.ref C) "join_of" = some none)
    (n4C : PySem.W.findIn K (.ref C) "width" = some none)
    (m50 : PySem.W.findIn K (.ref C) "__init__" = some (some (.ref f50)))
    (i50 : PySem.W.isFn K (.ref f50) = true)
    (l50 : K.lookup f50 = some ⟨oc50, od50, .func (PySem.W.fnOf "__init__" "FillRule.__init__" (defArgs sFillRule_init) (defBody sFillRule_init) (defScope sFillRule_init) (.ref T50) (.ref KD50) dc50 pm50 an50 cd50 ct50), sl50⟩)
    (c50 : PySem.W.codeIn K cd50 "FillRule.__init__" = true)
    (k50 : PySem.W.keepIn K (.ref f50) = true)
    (t50 : K.lookup T50 = some ⟨tc50, td50, .seq #[Value.int 0 tt500] tn50, ts50⟩)
    (kd500 : PySem.W.nsIn K KD50 "cut_of" = some (some (.int 1 tk500)))
    (m51 : PySem.W.findIn K (.ref C) "fits" = some (some (.ref f51)))
    (i51 : PySem.W.isFn K (.ref f51) = true)
    (l51 : K.lookup f51 = some ⟨oc51, od51, .func (PySem.W.fnOf "fits" "FillRule.fits" (defArgs sFillRule_fits) (defBody sFillRule_fits) (defScope sFillRule_fits) .none kV51 dc51 pm51 an51 cd51 ct51), sl51⟩)
    (c51 : PySem.W.codeIn K cd51 "FillRule.fits" = true)
    (k51 : PySem.W.keepIn K (.ref f51) = true)
    (m52 : PySem.W.findIn K (.ref C) "least_fill" = some (some (.ref f52)))
    (i52 : PySem.W.isFn K (.ref f52) = true)
    (l52 : K.lookup f52 = some ⟨oc52, od52, .func (PySem.W.fnOf "least_fill" "FillRule.least_fill" (defArgs sFillRule_least_fill) (defBody sFillRule_least_fill) (defScope sFillRule_least_fill) .none kV52 dc52 pm52 an52 cd52 ct52), sl52⟩)
    (c52 : PySem.W.codeIn K cd52 "FillRule.least_fill" = true)
    (k52 : PySem.W.keepIn K (.ref f52) = true)
    (hgT : PySem.W.nsIn K mainGlobals "MOST_TIMES" = some (some (.int 12 tgT)))
    (hgL : PySem.W.nsIn K mainGlobals "LEAST_SIZE" = some (some (.int 2 tgL)))
    (hgM : PySem.W.nsIn K mainGlobals "MOST_SIZE" = some (some (.int (10 ^ 12) tgM)))
    (aTP : PySem.W.nsIn K mainGlobals "PARTS" = some (some (.ref TP)))
    (lTP : K.lookup TP = some ⟨.type "tuple", odTP, .seq #[.str "times" uTP0, .str "plus" uTP1, .str "cut_of" uTP2, .str "join_of" uTP3] nTP, slTP⟩)
    (aD : PySem.W.nsIn K mainGlobals "BOUNDS" = some (some (.ref D)))
    (lD : K.lookup D = some ⟨.type "dict", none, .dict #[⟨hD0, .str "plus" tkD0, .ref Da⟩, ⟨hD1, .str "cut_of" tkD1, .ref Db⟩, ⟨hD2, .str "join_of" tkD2, .ref Dc⟩] nD, #[]⟩)
    (hkD0 : hD0 = PyData.keyHash w.params "plus")
    (nsD0 : PySem.W.nsIn K D "plus" = some (some (.ref Da)))
    (hkD1 : hD1 = PyData.keyHash w.params "cut_of")
    (nsD1 : PySem.W.nsIn K D "cut_of" = some (some (.ref Db)))
    (hkD2 : hD2 = PyData.keyHash w.params "join_of")
    (nsD2 : PySem.W.nsIn K D "join_of" = some (some (.ref Dc)))
    (lowD : (D == sysModules) = false)
    (lDa : K.lookup Da = some ⟨.type "tuple", odDa, .seq #[.int (-12) uDa0, .int 12 uDa1] nDa, slDa⟩)
    (lDb : K.lookup Db = some ⟨.type "tuple", odDb, .seq #[.int 1 uDb0, .int 5 uDb1] nDb, slDb⟩)
    (lDc : K.lookup Dc = some ⟨.type "tuple", odDc, .seq #[.int 2 uDc0, .int 6 uDc1] nDc, slDc⟩)
    (zint : PySem.W.nsIn K mainGlobals "int" = some none)
    (zlen : PySem.W.nsIn K mainGlobals "len" = some none)
    (zabs : PySem.W.nsIn K mainGlobals "abs" = some none)
    (zlist : PySem.W.nsIn K mainGlobals "list" = some none)
    (zmin : PySem.W.nsIn K mainGlobals "min" = some none)
    (zmax : PySem.W.nsIn K mainGlobals "max" = some none)
    (zisinstance : PySem.W.nsIn K mainGlobals "isinstance" = some none)
    (zbool : PySem.W.nsIn K mainGlobals "bool" = some none)
    (ztuple : PySem.W.nsIn K mainGlobals "tuple" = some none)
    (zall : PySem.W.nsIn K mainGlobals "all" = some none)
    (zrange : PySem.W.nsIn K mainGlobals "range" = some none)
    (zrepr : PySem.W.nsIn K mainGlobals "repr" = some none)
    (zzip : PySem.W.nsIn K mainGlobals "zip" = some none) :
    ∃ fd : FuncData, (∀ (s : Shared) (v : Value), BindsTo s fd ⟨[v], []⟩ [("_law_script", v)]) ∧ ∀ base : Heap, K.In base → base.Ns mainGlobals mg → FnG l.prog w K mg base 8 fa fd ["_law_script"] (spLaw K) := by
  have e := hfa.symm.trans (PySem.W.mg_of X G a17)
  cases e
  have F0 := fun_mk (st := sIsInt) l0 c0 k0
  have b0 := F0.binds (ps := ["value"]) fun _ _ _ _ _ _ us hl => match us, hl with | [_], _ => rfl
  have F1 := fun_mk (st := sWithin) l1 c1 k1
  have b1 := F1.binds (ps := ["value", "least", "most"]) fun _ _ _ _ _ _ us hl => match us, hl with | [_, _, _], _ => rfl
  have F2 := fun_mk (st := sPair) l2 c2 k2
  have b2 := F2.binds (ps := ["value", "most"]) fun _ _ _ _ _ _ us hl => match us, hl with | [_, _], _ => rfl
  have F3 := fun_mk (st := sLeastOf) l3 c3 k3
  have b3 := F3.binds (ps := ["rule", "most"]) fun _ _ _ _ _ _ us hl => match us, hl with | [_, _], _ => rfl
  have F4 := fun_mk (st := sCrucialOf) l4 c4 k4
  have b4 := F4.binds (ps := ["rule"]) fun _ _ _ _ _ _ us hl => match us, hl with | [_], _ => rfl
  have F5 := fun_mk (st := sIsRightFor) l5 c5 k5
  have b5 := F5.binds (ps := ["rule", "most"]) fun _ _ _ _ _ _ us hl => match us, hl with | [_, _], _ => rfl
  have F6 := fun_mk (st := sCanBe) l6 c6 k6
  have b6 := F6.binds (ps := ["part", "value"]) fun _ _ _ _ _ _ us hl => match us, hl with | [_, _], _ => rfl
  have F7 := fun_mk (st := sNeedSize) l7 c7 k7
  have b7 := F7.binds (ps := ["value"]) fun _ _ _ _ _ _ us hl => match us, hl with | [_], _ => rfl
  have F8 := fun_mk (st := sPen) l8 c8 k8
  have b8 := F8.binds (ps := ["_law_script"]) fun _ _ _ _ _ _ us hl => match us, hl with | [_], _ => rfl
  have F9 := fun_mk (st := sDraw) l9 c9 k9
  have b9 := F9.binds (ps := ["_law_pen_here", "_law_many"]) fun _ _ _ _ _ _ us hl => match us, hl with | [_, _], _ => rfl
  have F10 := fun_mk (st := sLNumbers) l10 c10 k10
  have b10 := F10.binds (ps := ["_law_pen_here"]) fun _ _ _ _ _ _ us hl => match us, hl with | [_], _ => rfl
  have F11 := fun_mk (st := sLRule) l11 c11 k11
  have b11 := F11.binds (ps := ["_law_told"]) fun _ _ _ _ _ _ us hl => match us, hl with | [_], _ => rfl
  have F12 := fun_mk (st := sLLeast) l12 c12 k12
  have b12 := F12.binds (ps := ["_law_told", "_law_top"]) fun _ _ _ _ _ _ us hl => match us, hl with | [_, _], _ => rfl
  have F13 := fun_mk (st := sLIsRight) l13 c13 k13
  have b13 := F13.binds (ps := ["_law_told", "_law_top"]) fun _ _ _ _ _ _ us hl => match us, hl with | [_, _], _ => rfl
  have F14 := fun_mk (st := sLSize) l14 c14 k14
  have b14 := F14.binds (ps := ["_law_pen_here"]) fun _ _ _ _ _ _ us hl => match us, hl with | [_], _ => rfl
  have F15 := fun_mk (st := sLIdle) l15 c15 k15
  have b15 := F15.binds (ps := ["_law_told", "_law_by"]) fun _ _ _ _ _ _ us hl => match us, hl with | [_, _], _ => rfl
  have F16 := fun_mk (st := sLBetweenRight) l16 c16 k16
  have b16 := F16.binds (ps := ["_law_made", "_law_top", "_law_step"]) fun _ _ _ _ _ _ us hl => match us, hl with | [_, _, _], _ => rfl
  have F17 := fun_mk (st := sLaw) l17 c17 k17
  have b17 := F17.binds (ps := ["_law_script"]) fun _ _ _ _ _ _ us hl => match us, hl with | [_], _ => rfl
  have F51 := fun_mk (st := sFillRule_fits) l51 c51 k51
  have b51 := F51.binds (ps := ["self", "most"]) fun _ _ _ _ _ _ us hl => match us, hl with | [_, _], _ => rfl
  have F52 := fun_mk (st := sFillRule_least_fill) l52 c52 k52
  have b52 := F52.binds (ps := ["self", "most"]) fun _ _ _ _ _ _ us hl => match us, hl with | [_, _], _ => rfl
  refine ⟨PySem.W.fnOf "law" "law" (defArgs sLaw) (defBody sLaw) (defScope sLaw) .none kV17 dc17 pm17 an17 cd17 ct17, fun s v => .of_eq rfl, fun base _ _ => ?_⟩
  have T : Blt mg := ⟨PySem.W.mg_none_of X G zint, PySem.W.mg_none_of X G zlen, PySem.W.mg_none_of X G zabs, PySem.W.mg_none_of X G zlist, PySem.W.mg_none_of X G zmin, PySem.W.mg_none_of X G zmax, PySem.W.mg_none_of X G zisinstance, PySem.W.mg_none_of X G zbool, PySem.W.mg_none_of X G ztuple, PySem.W.mg_none_of X G zall, PySem.W.mg_none_of X G zrange, PySem.W.mg_none_of X G zrepr⟩
  have FC : FCls K C := ⟨⟨pgC, hdC, poC, saC⟩, n0C, n1C, n2C, n3C, n4C⟩
  have TB : Tabs K w mg TP D Da Db Dc := ⟨PySem.W.mg_of X G aTP, fun _ => sqT_K lTP (by decide) (.cons ⟨_, rfl⟩ ( .cons ⟨_, rfl⟩ ( .cons ⟨_, rfl⟩ (.cons ⟨_, rfl⟩ .nil)))), PySem.W.mg_of X G aD, ⟨_, _, ⟨lD, ⟨⟨_, _, rfl, hkD0⟩, ⟨_, _, rfl, hkD1⟩, ⟨_, _, rfl, hkD2⟩, trivial⟩, lowD⟩⟩, nsD0, nsD1, nsD2, fun _ => sqT_K lDa (by decide) (.cons ⟨_, rfl⟩ (.cons ⟨_, rfl⟩ .nil)), fun _ => sqT_K lDb (by decide) (.cons ⟨_, rfl⟩ (.cons ⟨_, rfl⟩ .nil)), fun _ => sqT_K lDc (by decide) (.cons ⟨_, rfl⟩ (.cons ⟨_, rfl⟩ .nil))⟩
  have D50 : FunD K "__init__" "FillRule.__init__" (defArgs sFillRule_init) (defBody sFillRule_init) (defScope sFillRule_init) [.int 0] [("cut_of", .int 1)] f50 _ := ⟨⟨_, _, _, _, _, _, _, _, _, _, rfl, l50, c50, .inr ⟨by simp, T50, _, [Value.int 0 tt500], tn50, rfl, t50, rfl, .cons ⟨_, rfl⟩ .nil⟩, .inr ⟨KD50, rfl, fun z hz => by rw [List.mem_singleton.mp hz]; exact ⟨_, kd500, ⟨_, rfl⟩⟩⟩⟩, k50⟩
  obtain ⟨its50, b50⟩ := FunD.kbindsD (ps := ["self", "times", "plus", "cut_of", "join_of"]) D50 3 ["cut_of", "join_of"] (fun us _ ws => us ++ ws) (by simp) (fun r1 _ r2 => r1.append r2)
    (fun _ _ _ _ _ _ _ us its ws h1 h2 h3 => match us, its, ws, h1, h2, h3 with | [_, _, _], [_], [_, _], _, _, _ => ⟨_, rfl, rfl⟩)
  obtain ⟨its50b, mv50b, b50b⟩ := FunD.kbinds (ps := ["self", "times", "plus", "cut_of", "join_of"]) D50 2 ["join_of"] [("cut_of", .int 1)] (fun us its mv ws => us ++ (its ++ (mv ++ ws))) (by simp) (by simp) (fun _ h => h) (fun r1 r2 r3 r4 => r1.append (r2.append (r3.append r4)))
    (fun _ _ _ _ _ _ _ us its mv ws h1 h2 h3 h4 => match us, its, mv, ws, h1, h2, h3, h4 with | [_, _], [_], [_], [_], _, _, _, _ => ⟨_, rfl, ⟨_, _, _, _, _, _, rfl, rfl, rfl⟩⟩)
  have d0 : Df l.prog w K mg base 1 "is_integer" ["value"] _ := ⟨f0, _, ok_isInt F0 T, PySem.W.mg_of X G a0, F0.kp, b0⟩
  obtain ⟨_, _, GI, gI, kI, bI⟩ := d0.ex
  have d1 : Df l.prog w K mg base 2 "is_within" ["value", "least", "most"] _ := ⟨f1, _, ok_within F1 T GI gI kI bI, PySem.W.mg_of X G a1, F1.kp, b1⟩
  have d2 : Df l.prog w K mg base 3 "is_pair" ["value", "most"] _ := ⟨f2, _, ok_pair F2 T d1, PySem.W.mg_of X G a2, F2.kp, b2⟩
  have d3 : Df l.prog w K mg base 1 "least_of" ["rule", "most"] _ := ⟨f3, _, ok_leastOf F3 FC, PySem.W.mg_of X G a3, F3.kp, b3⟩
  have d4 : Df l.prog w K mg base 1 "crucial_of" ["rule"] _ := ⟨f4, _, ok_crucial F4 FC, PySem.W.mg_of X G a4, F4.kp, b4⟩
  have d5 : Df l.prog w K mg base 2 "is_right_for" ["rule", "most"] _ := ⟨f5, _, ok_rightFor F5 d3 d4, PySem.W.mg_of X G a5, F5.kp, b5⟩
  have d7 : Df l.prog w K mg base 3 "need_size" ["value"] _ := ⟨f7, _, ok_needSize F7 d1 (PySem.W.mg_of X G hgL) (PySem.W.mg_of X G hgM), PySem.W.mg_of X G a7, F7.kp, b7⟩
  have d6 : Df l.prog w K mg base 4 "can_be" ["part", "value"] _ := ⟨f6, _, ok_canBe F6 TB (PySem.W.mg_of X G hgT) d2 d1, PySem.W.mg_of X G a6, F6.kp, b6⟩
  have GF := ok_fillInit (P := l.prog) (w := w) (mg := mg) (base := base) D50 FC (PySem.W.mg_none_of X G zzip) TB d6
  have MK : Mk K C f50 := ⟨mkC, m50, i50, kcC⟩
  have FM : FMeth l.prog w K mg base C := ⟨FC, ⟨_, _, ⟨m51, i51, k51⟩, ok_fits F51 d7 d5, b51⟩, ⟨_, _, ⟨m52, i52, k52⟩, ok_leastFill F52 d7 d3, b52⟩⟩
  have d8 : Df l.prog w K mg base 1 "_law_pen" ["_law_script"] _ := ⟨f8, _, ok_pen F8 T, PySem.W.mg_of X G a8, F8.kp, b8⟩
  have d9 : Df l.prog w K mg base 1 "_law_draw" ["_law_pen_here", "_law_many"] _ := ⟨f9, _, ok_draw F9 T, PySem.W.mg_of X G a9, F9.kp, b9⟩
  have d10 : Df l.prog w K mg base 2 "_law_numbers" ["_law_pen_here"] _ := ⟨f10, _, ok_lnums F10 T d9, PySem.W.mg_of X G a10, F10.kp, b10⟩
  have d11 : Df l.prog w K mg base 7 "_law_rule" ["_law_told"] _ := ⟨f11, _, ok_lrule F11 (PySem.W.mg_of X G aC) MK GF b50, PySem.W.mg_of X G a11, F11.kp, b11⟩
  have d12 : Df l.prog w K mg base 1 "_law_least" ["_law_told", "_law_top"] _ := ⟨f12, _, ok_lleast F12, PySem.W.mg_of X G a12, F12.kp, b12⟩
  have d13 : Df l.prog w K mg base 2 "_law_is_right" ["_law_told", "_law_top"] _ := ⟨f13, _, ok_lisright F13 d12, PySem.W.mg_of X G a13, F13.kp, b13⟩
  have d14 : Df l.prog w K mg base 2 "_law_size" ["_law_pen_here"] _ := ⟨f14, _, ok_lsize F14 d9, PySem.W.mg_of X G a14, F14.kp, b14⟩
  have d15 : Df l.prog w K mg base 1 "_law_idle" ["_law_told", "_law_by"] _ := ⟨f15, _, ok_lidle F15 T, PySem.W.mg_of X G a15, F15.kp, b15⟩
  have d16 : Df l.prog w K mg base 5 "_law_between_right" ["_law_made", "_law_top", "_law_step"] _ := ⟨f16, _, ok_lbetween F16 T FM, PySem.W.mg_of X G a16, F16.kp, b16⟩
  exact ok_law F17 T (PySem.W.mg_none_of X G zrepr) (PySem.W.mg_of X G aC) MK FM GF b50b d8 d10 d14 d11 d9 d15 d13 d16
end Ev
open PySem PySem.W PyProof.Rows
set_option maxRecDepth 100000 in
set_option maxHeartbeats 0 in
theorem PySem.Challenge.cw_evenrules_k71_whole_two_groups_and_one_a_holds : PySem.Challenge.rw_evenrules_k71_whole_two_groups_and_one_a.Holds := by
  exact hd (by
    k_fill
    refine Ev.walk_ofG (l := PySem.Challenge.rw_evenrules_k71_whole_two_groups_and_one_a) (n := 63) (k := 8) (x := "_law_script") (sp := fun w => Ev.spLaw _) rfl (by decide) rfl ⟨rfl, by decide, by decide⟩ (fun w h Y => PySem.W.kIn_of Y) ?F (fun _ _ a ns hl hS => ⟨a, ns, rfl, hS, hl, fun _ => rfl⟩)
    case F =>
      intro w mg fa h KX G hmg
      refine' Ev.all_mk KX G hmg ?a0 ?l0 ?c0 ?k0 ?a1 ?l1 ?c1 ?k1 ?a2 ?l2 ?c2 ?k2 ?a3 ?l3 ?c3 ?k3 ?a4 ?l4 ?c4 ?k4 ?a5 ?l5 ?c5 ?k5 ?a6 ?l6 ?c6 ?k6 ?a7 ?l7 ?c7 ?k7 ?a8 ?l8 ?c8 ?k8 ?a9 ?l9 ?c9 ?k9 ?a10 ?l10 ?c10 ?k10 ?a11 ?l11 ?c11 ?k11 ?a12 ?l12 ?c12 ?k12 ?a13 ?l13 ?c13 ?k13 ?a14 ?l14 ?c14 ?k14 ?a15 ?l15 ?c15 ?k15 ?a16 ?l16 ?c16 ?k16 ?a17 ?l17 ?c17 ?k17 ?aC ?pgC ?hdC ?poC ?saC ?mkC ?kcC ?n0C ?n1C ?n2C ?n3C ?n4C ?m50 ?i50 ?l50 ?c50 ?k50 ?t50 ?kd500 ?m51 ?i51 ?l51 ?c51 ?k51 ?m52 ?i52 ?l52 ?c52 ?k52 ?hgT ?hgL ?hgM ?aTP ?lTP ?aD ?lD ?hkD0 ?nsD0 ?hkD1 ?nsD1 ?hkD2 ?nsD2 ?lowD ?lDa ?lDb ?lDc ?zint ?zlen ?zabs ?zlist ?zmin ?zmax ?zisinstance ?zbool ?ztuple ?zall ?zrange ?zrepr ?zzip
      (case a0 => k_is)
      (case l0 => k_is)
      (case c0 => k_is)
      (case k0 => k_is)
      (case a1 => k_is)
      (case l1 => k_is)
      (case c1 => k_is)
      (case k1 => k_is)
      (case a2 => k_is)
      (case l2 => k_is)
      (case c2 => k_is)
      (case k2 => k_is)
      (case a3 => k_is)
      (case l3 => k_is)
      (case c3 => k_is)
      (case k3 => k_is)
      (case a4 => k_is)
      (case l4 => k_is)
      (case c4 => k_is)
      (case k4 => k_is)
      (case a5 => k_is)
      (case l5 => k_is)
      (case c5 => k_is)
      (case k5 => k_is)
      (case a6 => k_is)
      (case l6 => k_is)
      (case c6 => k_is)
      (case k6 => k_is)
      (case a7 => k_is)
      (case l7 => k_is)
      (case c7 => k_is)
      (case k7 => k_is)
      (case a8 => k_is)
      (case l8 => k_is)
      (case c8 => k_is)
      (case k8 => k_is)
      (case a9 => k_is)
      (case l9 => k_is)
      (case c9 => k_is)
      (case k9 => k_is)
      (case a10 => k_is)
      (case l10 => k_is)
      (case c10 => k_is)
      (case k10 => k_is)
      (case a11 => k_is)
      (case l11 => k_is)
      (case c11 => k_is)
      (case k11 => k_is)
      (case a12 => k_is)
      (case l12 => k_is)
      (case c12 => k_is)
      (case k12 => k_is)
      (case a13 => k_is)
      (case l13 => k_is)
      (case c13 => k_is)
      (case k13 => k_is)
      (case a14 => k_is)
      (case l14 => k_is)
      (case c14 => k_is)
      (case k14 => k_is)
      (case a15 => k_is)
      (case l15 => k_is)
      (case c15 => k_is)
      (case k15 => k_is)
      (case a16 => k_is)
      (case l16 => k_is)
      (case c16 => k_is)
      (case k16 => k_is)
      (case a17 => k_is)
      (case l17 => k_is)
      (case c17 => k_is)
      (case k17 => k_is)
      (case aC => k_is)
      (case pgC => k_is)
      (case hdC => k_is)
      (case poC => k_is)
      (case saC => k_is)
      (case mkC => k_is)
      (case kcC => k_is)
      (case n0C => k_is)
      (case n1C => k_is)
      (case n2C => k_is)
      (case n3C => k_is)
      (case n4C => k_is)
      (case m50 => k_is)
      (case i50 => k_is)
      (case l50 => k_is)
      (case c50 => k_is)
      (case k50 => k_is)
      (case t50 => k_is)
      (case kd500 => k_is)
      (case m51 => k_is)
      (case i51 => k_is)
      (case l51 => k_is)
      (case c51 => k_is)
      (case k51 => k_is)
      (case m52 => k_is)
      (case i52 => k_is)
      (case l52 => k_is)
      (case c52 => k_is)
      (case k52 => k_is)
      (case hgT => k_is)
      (case hgL => k_is)
      (case hgM => k_is)
      (case aTP => k_is)
      (case lTP => k_is)
      (case aD => k_is)
      (case lD => k_is)
      (case hkD0 => rfl)
      (case nsD0 => first | k_is | kernel_rfl)
      (case hkD1 => rfl)
      (case nsD1 => first | k_is | kernel_rfl)
      (case hkD2 => rfl)
      (case nsD2 => first | k_is | kernel_rfl)
      (case lowD => kernel_rfl)
      (case lDa => k_is)
      (case lDb => k_is)
      (case lDc => k_is)
      (case zint => k_is)
      (case zlen => k_is)
      (case zabs => k_is)
      (case zlist => k_is)
      (case zmin => k_is)
      (case zmax => k_is)
      (case zisinstance => k_is)
      (case zbool => k_is)
      (case ztuple => k_is)
      (case zall => k_is)
      (case zrange => k_is)
      (case zrepr => k_is)
      (case zzip => k_is))
