import PyProof.Rows.All
import Wide.All
import OpenK.AllK
import Wide.FinOn
import HandS.ForMost
import HandS.Wide
import HandS.Codes
import HandS.IsInst
import HandS.Defaults
import HandS.MakeKw
import HandS.MakeKwOnly
import HandS.ClsMeth
import HandS.TupAny
import HandS.Style
import HandS.Zip
import HandS.Conv
import HandS.Walk
import HandS.Lambda
import HandS.Iter
import HandS.ExcInit
import HandS.DictComp
import HandS.DeepEq
import KE.KDictList
import KE.DataEq
import HandS.More
import HandS.SlotsOwn
import PyProof.InstNe
import PyProof.Rows.Range3
import PyProof.InstSpecial
import PyProof.EqKinds
import PySem.Challenge.RW_evenrules_k26_answers_on_two_rules_made
open PySem PySem.W PyProof.Rows
set_option Elab.async false
set_option linter.all false
set_option maxRecDepth 100000 in
set_option maxHeartbeats 0 in
open_top hd for PySem.Challenge.rw_evenrules_k26_answers_on_two_rules_made
set_option maxRecDepth 100000
set_option maxHeartbeats 4000000
namespace Ev
open PySem L2
def top (i : Nat) : Stmt := PySem.Challenge.pw_evenrules_k26_answers_on_two_rules_made.main.body.getD i (.Pass ⟨0, 0, 0, 0⟩)
abbrev sKept : Stmt := top 1
abbrev sIsFlat : Stmt := top 2
abbrev sCopiedDeep : Stmt := top 3
abbrev sPartsOf : Stmt := top 4
abbrev sRebuilt : Stmt := top 5
abbrev sWithin_init : Stmt := inClass (top 9) 0
abbrev sWithin_eq : Stmt := inClass (top 9) 1
abbrev sWithin_bool : Stmt := inClass (top 9) 2
abbrev sParted_init : Stmt := inClass (top 10) 0
abbrev sParted_eq : Stmt := inClass (top 10) 1
abbrev sParted_bool : Stmt := inClass (top 10) 2
abbrev sMet_init : Stmt := inClass (top 12) 0
abbrev sMet_eq : Stmt := inClass (top 12) 1
abbrev sMet_bool : Stmt := inClass (top 12) 2
abbrev sNever_init : Stmt := inClass (top 13) 0
abbrev sNever_eq : Stmt := inClass (top 13) 1
abbrev sNever_bool : Stmt := inClass (top 13) 2
abbrev sPen : Stmt := top 15
abbrev sDraw : Stmt := top 16
abbrev sPick : Stmt := top 17
abbrev sLThing : Stmt := top 18
abbrev sLMadeRight : Stmt := top 19
abbrev sLaw : Stmt := top 20
end Ev
namespace Ev
open PySem L2
/-- all that was tracked is as it was, but at p -/
def But (p : Addr) (H H' : Hp) : Prop := ∀ b o, b ≠ p → H b = some o → H' b = some o
theorem But.refl (p : Addr) (H : Hp) : But p H H := fun _ _ _ e => e
theorem But.trans {p : Addr} {H H1 H2 : Hp} (a : But p H H1) (b : But p H1 H2) : But p H H2 := fun c o n e => b c o n (a c o n e)
theorem Same.but {p : Addr} {H H' : Hp} (a : Same H H') : But p H H' := fun c o _ e => a c o e
theorem But.upd_new {p q : Addr} {H : Hp} {o : HO} (h : H q = none) : But p H (upd H q o) := fun b u _ e => by
  rw [upd_ne (ne_of_none e h)]; exact e
theorem But.upd_at {p : Addr} {H : Hp} {o : HO} : But p H (upd H p o) := fun b u n e => by
  rw [upd_ne n]; exact e
/-- the pen: a list of a list of ints, how often it was asked, and a rest -/
def Pen (L : Addr) (H : Hp) (p : Addr) (B : Int) : Prop := ∃ (ns : List Int) (turn carry : Int),
  H p = some (.lst [.ref L, .int turn, .int carry]) ∧ H L = some (.lst (ns.map V.int)) ∧ L ≠ p ∧ ns.length ≤ 63 ∧ 0 ≤ turn ∧ turn ≤ B ∧ 0 ≤ carry
theorem Pen.keep {L : Addr} {H H' : Hp} {p : Addr} {B : Int} (h : Pen L H p B) (k : Same H H') : Pen L H' p B := by
  obtain ⟨ns, t, c, h1, h2, h3, h4, h5, h6, h7⟩ := h
  exact ⟨ns, t, c, k _ _ h1, k _ _ h2, h3, h4, h5, h6, h7⟩
theorem Pen.mono {L : Addr} {H : Hp} {p : Addr} {B B' : Int} (h : Pen L H p B) (k : B ≤ B') : Pen L H p B' := by
  obtain ⟨ns, t, c, h1, h2, h3, h4, h5, h6, h7⟩ := h
  exact ⟨ns, t, c, h1, h2, h3, h4, h5, by omega, h7⟩
def spDraw : Sp := fun vs H Q _ => ∃ (p L : Addr) (m B : Int), vs = [.ref p, .int m] ∧ 1 ≤ m ∧ m ≤ 1000000000000000000000000000000000000000000000000000000000000 ∧ B ≤ 1000000 ∧ Pen L H p B ∧
  ∀ (d : Int) (H' : Hp), But p H H' → Pen L H' p (B + 1) → 0 ≤ d → d < m → Q (.int d) H'
theorem dpInts {K : PySem.W.Frag} {H : Hp} : ∀ ns : List Int, DpAll K H (ns.map V.int) (ns.map PyData.int)
  | [] => .nil
  | n :: r => .cons (.int n) (dpInts r)
theorem sh_ints (ns : List Int) : SeqAt.shaped (.list (ns.map PyData.int)) = true := by
  have h1 : ∀ ns : List Int, PyData.canLayAll0 (ns.map PyData.int) = true := by
    intro ns
    induction ns with
    | nil => rfl
    | cons n r ih => simp [PyData.canLayAll0, PyData.canLay0, ih]
  have h2 : ∀ ns : List Int, PyData.depthAll (ns.map PyData.int) ≤ 1 := by
    intro ns
    induction ns with
    | nil => simp [PyData.depthAll]
    | cons n r ih => simp [PyData.depthAll, PyData.depth]; omega
  unfold SeqAt.shaped
  rw [Bool.and_eq_true]
  refine ⟨by simp [PyData.canLay0, h1], decide_eq_true ?_⟩
  have := h2 ns
  simp [PyData.depth]; omega
theorem eqv_nil (ns : List Int) : PyData.eqv (.list (ns.map PyData.int)) (.list []) = ns.isEmpty := by
  cases ns <;> simp [PyData.eqv, PyData.eqvAll]
section
variable {P : Program} {w : World} {K : PySem.W.Frag} {mg : Str → Option Value} {base : Heap}
/-- built-ins that the program does not cover -/
structure Blt (mg : Str → Option Value) : Prop where
  int : mg "int" = none
  len : mg "len" = none
  abs : mg "abs" = none
  list : mg "list" = none
  min : mg "min" = none
  max : mg "max" = none
  isi : mg "isinstance" = none
  bool : mg "bool" = none
  tuple : mg "tuple" = none
  all : mg "all" = none
  range : mg "range" = none
  repr : mg "repr" = none
theorem scD : FnScope ["_law_pen_here", "_law_many", "_law_digit", "_law_at", "_law_cell", "_law_great", "_law_mixed"] ["_law_pen_here", "_law_many"] (defScope sDraw) := ⟨rfl, rfl, rfl, by decide +kernel, rfl, by decide +kernel, by decide +kernel⟩
theorem fmod_lo (a : Int) {m : Int} (h : 1 ≤ m) : 0 ≤ a.fmod m := by rw [Int.fmod_eq_emod_of_nonneg a (by omega)]; exact Int.emod_nonneg a (by omega)
theorem fmod_hi (a : Int) {m : Int} (h : 1 ≤ m) : a.fmod m < m := by rw [Int.fmod_eq_emod_of_nonneg a (by omega)]; exact Int.emod_lt_of_pos a (by omega)
theorem fdiv_lo {a m : Int} (h : 1 ≤ m) (h0 : 0 ≤ a) : 0 ≤ a.fdiv m := by rw [Int.fdiv_eq_ediv_of_nonneg a (by omega)]; exact Int.ediv_nonneg h0 (by omega)
theorem cell_at {ns : List Int} (h : ns ≠ []) (t : Int) : ∃ c : Int, atI (ns.map V.int) (t.fmod (((ns.map V.int).length : Nat) : Int)) = some (V.int c) := by
  rw [List.length_map]
  have l : 0 < ns.length := List.length_pos_iff.mpr h
  have h1 : 0 ≤ t.fmod (ns.length : Int) := fmod_lo t (by omega)
  have h2 : t.fmod (ns.length : Int) < ns.length := fmod_hi t (by omega)
  generalize t.fmod (ns.length : Int) = i at h1 h2
  obtain ⟨j, rfl⟩ := Int.eq_ofNat_of_zero_le h1
  have hj : j < ns.length := by omega
  exact ⟨ns[j], atI_nat (by rw [List.getElem?_map, List.getElem?_eq_getElem hj]; rfl)⟩
theorem mul_le_of {a b A B : Int} (a0 : 0 ≤ a) (b0 : 0 ≤ b) (ha : a ≤ A) (hb : b ≤ B) : 0 ≤ a * b ∧ a * b ≤ A * B :=
  ⟨Int.mul_nonneg a0 b0, Int.mul_le_mul ha hb b0 (by omega)⟩
theorem bound1 (c : Int) {M C D t : Int} (hM : 1 ≤ M) (hM2 : M ≤ 4294967296) (hC : 0 ≤ C ∧ C ≤ 1000000) (hD : 0 ≤ D ∧ D ≤ 1000000) (h0 : 0 ≤ t) (h1 : t ≤ 1000000) : (c.fmod M + C * t + D).natAbs < 2 ^ 64 := by
  have a1 := fmod_lo c hM
  have a2 := fmod_hi c hM
  have ⟨a3, a4⟩ := mul_le_of hC.1 h0 hC.2 h1
  omega
theorem bound2 {x C5 C6 C7 t : Int} (hx : 0 ≤ x ∧ x < 4294967296) (h5 : 0 ≤ C5 ∧ C5 ≤ 1000000) (h6 : 0 ≤ C6 ∧ C6 ≤ 1000000) (h7 : 0 ≤ C7 ∧ C7 ≤ 1000000) (h0 : 0 ≤ t) (h1 : t ≤ 1000000) :
    (x * (2 * t + C5) + C6 * t * t + C7).natAbs < 2 ^ 64 := by
  have ⟨a1, a2⟩ := mul_le_of (b := 2 * t + C5) (A := 4294967296) (B := 3000000) hx.1 (by omega) (by omega) (by omega)
  have ⟨a3, a4⟩ := mul_le_of h6.1 h0 h6.2 h1
  have ⟨a5, a6⟩ := mul_le_of a3 h0 a4 h1
  omega
theorem great_nn {c e : Int} (h : e ≤ (if c < 0 then -c else c)) (b : Bool) : 0 ≤ 2 * ((if c < 0 then -c else c) - e) + (if b = true then 1 else 0) := by
  cases b
  · rw [if_neg Bool.false_ne_true]; omega
  · rw [if_pos rfl]; omega
theorem lt64 {x : Int} (h : 0 ≤ x ∧ x < 4294967296) : -(2 ^ 64) < x ∧ x < 2 ^ 64 := ⟨by omega, by omega⟩
theorem nz {M : Int} (h : 0 < M) : M ≠ 0 := by omega
theorem divW {i m : Int} (h : 1 ≤ m) (h2 : m ≤ 1000000000000000000000000000000000000000000000000000000000000) : CDivW i m := wide_div (b := 200) (by omega) (by omega) (by decide) (by decide)
theorem ediv_lo {a m : Int} (h : 1 ≤ m) (h0 : 0 ≤ a) : 0 ≤ a / m := Int.ediv_nonneg h0 (by omega)
theorem ok_draw {f : Addr} {fd : FuncData} (F : Fun K "_law_draw" "_law_draw" sDraw f fd) (T : Blt mg) : FnOk P w K mg base CX0 1 f fd ["_law_pen_here", "_law_many"] spDraw := by
  refine F.ok scD (fun vs H Q E h => ?_) (fun cdv A outer s H vs Q E hr h => ?_)
  · obtain ⟨p, L, m, B, rfl, _⟩ := h
    rfl
  · obtain ⟨p, L, m, B, rfl, hm, hm2, hB, ⟨ns, tn, ca, hp, hL, Lp, hlen, t0, tB, c0⟩, k⟩ := h
    have hu := hu_of hr
    refine ⟨_, pss_cons (ps_if (pt_cmpR op_gt (pe_ix ix_list (pv 0) pe_int (fun _ _ => rfl)) pe_int (nomark _))
        (pss_cons (ps_set (i := 2) scD.nd rfl (.inl rfl) (pe_op op_modN (pe_callTy call_int1 (by rfl) T.int (by decide +kernel) (pa_cons (pe_ix ix_list (pv 0) pe_int (fun _ _ => rfl)) pa_nil)) (pv 1)))
        (pss_cons (ps_asg (pe_op op_fdivW (pe_callTy call_int1 (by rfl) T.int (by decide +kernel) (pa_cons (pe_ix ix_list (pv 0) pe_int (fun _ _ => rfl)) pa_nil)) (pv 1)) (pg_sub (pv 0) pe_int set_list))
        (pss_one (ps_ret (pv 2))))) pss_nil)
      (pss_cons (ps_set (i := 3) scD.nd rfl (.inl rfl) (pe_ix ix_list (pv 0) pe_int (fun _ _ => rfl)))
      (pss_cons (ps_asg (pe_op op_add (pv 3) pe_int) (pg_sub (pv 0) pe_int set_list))
      (pss_cons (ps_set (i := 4) scD.nd rfl (.inl rfl) (pe_op op_add (pe_op op_mul pe_int (pv 3)) pe_int))
      (pss_cons (ps_if (pt_cmpR (op_neD hr.units) (pe_ix ix_list (pv 0) pe_int (fun _ _ => rfl)) (pe_lst pa_nil) (nomark _))
        (pss_one (ps_set (i := 4) scD.nd rfl (.inl rfl) (pe_ix ix_list (pe_ix ix_list (pv 0) pe_int (fun _ _ => rfl))
          (pe_op op_modN (pe_callTy call_int1 (by rfl) T.int (by decide +kernel) (pa_cons (pv 3) pa_nil)) (pe_callB call_len_seq (by rfl) T.len PySem.boot_len (pa_cons (pe_ix ix_list (pv 0) pe_int (fun _ _ => rfl)) pa_nil))) (fun _ _ => rfl)))) pss_nil)
      (pss_cons (ps_if (PW.pt (pw_and (pt_cmpR op_lt (pv 3) (pe_callB call_len_seq (by rfl) T.len PySem.boot_len (pa_cons (pe_ix ix_list (pv 0) pe_int (fun _ _ => rfl)) pa_nil)) (nomark _))
          (pw_and1 (pt_cmpR op_ge (pe_callB call_abs (by rfl) T.abs (by decide +kernel) (pa_cons (pv 4) pa_nil)) (pe_op op_pow pe_int pe_int) (nomark _)))))
        (pss_cons (ps_set (i := 5) scD.nd rfl (.inl rfl) (pe_op op_add (pe_op op_mul pe_int (pe_op op_sub (pe_callB call_abs (by rfl) T.abs (by decide +kernel) (pa_cons (pv 4) pa_nil)) (pe_op op_pow pe_int pe_int)))
            (pe_callTy call_int1 (by rfl) T.int (by decide +kernel) (pa_cons (pe_cmpR op_lt (pv 4) pe_int (nomark _)) pa_nil))))
        (pss_cons (ps_asg (pe_op op_fdivW (pe_callTy call_int1 (by rfl) T.int (by decide +kernel) (pa_cons (pv 5) pa_nil)) (pv 1)) (pg_sub (pv 0) pe_int set_list))
        (pss_one (ps_ret (pe_op op_modN (pe_callTy call_int1 (by rfl) T.int (by decide +kernel) (pa_cons (pv 5) pa_nil)) (pv 1)))))) pss_nil)
      (pss_cons (ps_set (i := 6) scD.nd rfl (.inl rfl) (pe_op op_modN (pe_callTy call_int1 (by rfl) T.int (by decide +kernel) (pa_cons (pe_op op_pow (pe_op op_add (pe_op op_add
          (pe_op op_modN (pe_callTy call_int1 (by rfl) T.int (by decide +kernel) (pa_cons (pv 4) pa_nil)) pe_int) (pe_op op_mul pe_int (pv 3))) pe_int) pe_int) pa_nil)) pe_int))
      (pss_cons (ps_set (i := 6) scD.nd rfl (.inl rfl) (pe_op op_modN (pe_callTy call_int1 (by rfl) T.int (by decide +kernel) (pa_cons (pe_op op_pow (pe_op op_add (pe_op op_add
          (pe_op op_mul (pv 6) (pe_op op_add (pe_op op_mul pe_int (pv 3)) pe_int)) (pe_op op_mul (pe_op op_mul pe_int (pv 3)) (pv 3))) pe_int) pe_int) pa_nil)) pe_int))
      (pss_one (ps_ret (pe_op op_modN (pe_callTy call_int1 (by rfl) T.int (by decide +kernel) (pa_cons (pe_op op_fdivN (pv 6) pe_int) pa_nil)) (pv 1))))))))))), ?_⟩
    have i2 : ∀ {a b c : V}, atI [a, b, c] 2 = some c := fun {a b c} => atI_nat (j := 2) rfl
    have i1 : ∀ {a b c : V}, atI [a, b, c] 1 = some b := fun {a b c} => atI_nat (j := 1) rfl
    have i0 : ∀ {a b c : V}, atI [a, b, c] 0 = some a := fun {a b c} => atI_nat (j := 0) rfl
    -- if pen[2] > 0
    refine ⟨_, rfl, p, _, 2, _, rfl, rfl, SqL.of hp, i2, _, _, rfl, rfl, _, rfl, ite2 (fun e => ?_) (fun e => ?_)⟩
    · -- digit
      refine ⟨_, rfl, p, _, 2, _, rfl, rfl, SqL.of hp, i2, .inl ⟨_, rfl, _, rfl, _, _, rfl, rfl, (by omega), ?_⟩⟩
      refine ⟨_, rfl, p, _, 2, _, rfl, rfl, SqL.of hp, i2, .inl ⟨_, rfl, _, rfl, _, _, rfl, rfl, divW hm hm2, _, rfl, p, _, _, 2, rfl, rfl, hp, rfl, ?_⟩⟩
      refine ⟨_, rfl, ?_⟩
      exact k _ _ But.upd_at ⟨ns, tn, _, upd_same, by rw [upd_ne Lp]; exact hL, Lp, hlen, t0, by omega, ediv_lo hm c0⟩ (fmod_lo _ hm) (fmod_hi _ hm)
    · -- turn
      refine ⟨_, rfl, p, _, 1, _, rfl, rfl, SqL.of hp, i1, ?_⟩
      refine ⟨_, rfl, _, _, rfl, rfl, _, rfl, p, _, _, 1, rfl, rfl, hp, rfl, ?_⟩
      have hp1 : upd H p (.lst ([V.ref L, V.int tn, V.int ca].set 1 (V.int (tn + 1)))) p = some (.lst [.ref L, .int (tn + 1), .int ca]) := upd_same
      have hL1 : upd H p (.lst ([V.ref L, V.int tn, V.int ca].set 1 (V.int (tn + 1)))) L = some (.lst (ns.map V.int)) := by rw [upd_ne Lp]; exact hL
      have b1 : But p H (upd H p (.lst ([V.ref L, V.int tn, V.int ca].set 1 (V.int (tn + 1))))) := But.upd_at
      generalize upd H p (.lst ([V.ref L, V.int tn, V.int ca].set 1 (V.int (tn + 1)))) = H1 at hp1 hL1 b1 ⊢
      -- cell = c * turn + c'
      refine ⟨_, rfl, _, _, rfl, rfl, .inl ⟨by decide, by decide⟩, _, _, rfl, rfl, ?_⟩
      -- if pen[0] != []
      refine ⟨_, rfl, p, _, 0, _, rfl, rfl, SqL.of hp1, i0, by decide, fun l hl => ?_⟩
      have n1 : p ≠ l := ne_of_none hp1 hl
      have n2 : L ≠ l := ne_of_none hL1 hl
      have hp2 : upd H1 l (.lst []) p = some (.lst [.ref L, .int (tn + 1), .int ca]) := by rw [upd_ne n1]; exact hp1
      have hL2 : upd H1 l (.lst []) L = some (.lst (ns.map V.int)) := by rw [upd_ne n2]; exact hL1
      have hl2 : upd H1 l (.lst []) l = some (.lst []) := upd_same
      have b2 : But p H (upd H1 l (.lst [])) := b1.trans (But.upd_new hl)
      clear b1 hp1 hL1
      generalize upd H1 l (.lst []) = H2 at hp2 hL2 hl2 b2
      refine ⟨_, _, .lst (SqL.of hL2) (dpInts ns), .lst (SqL.of hl2) .nil, sh_ints ns, sh_ints [], _, rfl, ?_⟩
      rw [eqv_nil]
      -- the rest, for any cell
      have hcell : ∀ c : Int, ∃ j : Int, (if c < 0 then -c else c) = j ∧ 0 ≤ j := fun c => by
        by_cases z : c < 0
        · exact ⟨_, rfl, by rw [if_pos z]; omega⟩
        · exact ⟨_, rfl, by rw [if_neg z]; omega⟩
      have fin : ∀ H' : Hp, H' p = some (.lst [.ref L, .int (tn + 1), .int ca]) → H' L = some (.lst (ns.map V.int)) → But p H H' → Pen L H' p (B + 1) := fun H' e1 e2 _ =>
        ⟨ns, tn + 1, ca, e1, e2, Lp, hlen, by omega, by omega, c0⟩
      have ht : tn ≤ 1000000 := by omega
      have hm6 : 0 ≤ 66905 * tn ∧ 66905 * tn ≤ 66905 * 1000000 := mul_le_of (by decide) t0 (Int.le_refl _) ht
      have hq : ∀ {x m : Int}, 1 ≤ m → m ≤ 4294967296 → 0 ≤ x.fmod m ∧ x.fmod m < 4294967296 := fun {x m} h1 h2 => ⟨fmod_lo x h1, by have := fmod_hi x h1; omega⟩
      cases hn : ns with
      | nil =>
        refine iteF ?_
        refine ⟨_, rfl, _, rfl, p, _, 0, _, rfl, rfl, SqL.of hp2, i0, L, _, rfl, .inl (SqL.of hL2), _, _, rfl, rfl, _, rfl, ite2 (fun e1 => ?_) (fun e1 => ?_)⟩
        · refine ⟨_, rfl, _, rfl, _, _, rfl, rfl, ⟨by decide, by decide, by decide⟩, _, _, rfl, rfl, _, rfl, ite2 (fun e2 => ?_) (fun e2 => ?_)⟩
          · refine ⟨_, rfl, _, rfl, _, _, rfl, rfl, ⟨by decide, by decide, by decide⟩, _, _, rfl, rfl, _, _, rfl, rfl, .inl ⟨by decide, by decide⟩, _, rfl, _, _, rfl, rfl, .inr ⟨_, rfl, _, _, rfl, rfl, ?_⟩⟩
            refine ⟨_, rfl, .inl ⟨_, rfl, _, rfl, _, _, rfl, rfl, divW hm hm2, _, rfl, p, _, _, 2, rfl, rfl, hp2, rfl, ?_⟩⟩
            refine ⟨_, rfl, .inl ⟨_, rfl, _, rfl, _, _, rfl, rfl, (by omega), ?_⟩⟩
            refine k _ _ (b2.trans But.upd_at) ⟨_, tn + 1, _, upd_same, by rw [upd_ne Lp]; exact hL2, Lp, hlen, by omega, by omega, ediv_lo hm ?_⟩ (fmod_lo _ hm) (fmod_hi _ hm)
            have e3 := of_decide_eq_true e2
            exact great_nn e3 _
          · skip
            refine ⟨_, rfl, .inl ⟨_, rfl, _, _, rfl, rfl, nz (by decide), _, rfl, _, _, rfl, rfl, .inl ⟨by decide, by decide⟩, _, _, rfl, rfl, _, _, rfl, rfl, _, _, rfl, rfl, ⟨by decide, by decide, bound1 _ (by decide) (by decide) (by decide) (by decide) t0 ht⟩, .inl ⟨_, rfl, _, _, rfl, rfl, nz (by decide), ?_⟩⟩⟩
            refine ⟨_, rfl, _, rfl, _, _, rfl, rfl, .inl ⟨by decide, by decide⟩, _, _, rfl, rfl, _, _, rfl, rfl, .inl ?_, _, rfl, _, _, rfl, rfl, .inl ⟨by decide, by decide⟩, _, rfl, _, _, rfl, rfl, .inl ?_, _, _, rfl, rfl, _, _, rfl, rfl, _, _, rfl, rfl, ⟨by decide, by decide, ?_⟩, .inl ⟨_, rfl, _, _, rfl, rfl, nz (by decide), ?_⟩⟩
            · exact lt64 (hq (by decide) (by decide))
            · exact ⟨by omega, by omega⟩
            · exact bound2 (hq (by decide) (by decide)) (by decide) (by decide) (by decide) t0 ht
            · refine ⟨_, rfl, _, _, rfl, rfl, ⟨by decide, by decide⟩, .inl ⟨_, rfl, _, rfl, _, _, rfl, rfl, (by omega), ?_⟩⟩
              exact k _ _ b2 (fin _ hp2 hL2 b2) (fmod_lo _ hm) (fmod_hi _ hm)
        · skip
          refine ⟨_, rfl, .inl ⟨_, rfl, _, _, rfl, rfl, nz (by decide), _, rfl, _, _, rfl, rfl, .inl ⟨by decide, by decide⟩, _, _, rfl, rfl, _, _, rfl, rfl, _, _, rfl, rfl, ⟨by decide, by decide, bound1 _ (by decide) (by decide) (by decide) (by decide) t0 ht⟩, .inl ⟨_, rfl, _, _, rfl, rfl, nz (by decide), ?_⟩⟩⟩
          refine ⟨_, rfl, _, rfl, _, _, rfl, rfl, .inl ⟨by decide, by decide⟩, _, _, rfl, rfl, _, _, rfl, rfl, .inl ?_, _, rfl, _, _, rfl, rfl, .inl ⟨by decide, by decide⟩, _, rfl, _, _, rfl, rfl, .inl ?_, _, _, rfl, rfl, _, _, rfl, rfl, _, _, rfl, rfl, ⟨by decide, by decide, ?_⟩, .inl ⟨_, rfl, _, _, rfl, rfl, nz (by decide), ?_⟩⟩
          · exact lt64 (hq (by decide) (by decide))
          · exact ⟨by omega, by omega⟩
          · exact bound2 (hq (by decide) (by decide)) (by decide) (by decide) (by decide) t0 ht
          · refine ⟨_, rfl, _, _, rfl, rfl, ⟨by decide, by decide⟩, .inl ⟨_, rfl, _, rfl, _, _, rfl, rfl, (by omega), ?_⟩⟩
            exact k _ _ b2 (fin _ hp2 hL2 b2) (fmod_lo _ hm) (fmod_hi _ hm)
      | cons n0 nr =>
        refine iteT ?_
        obtain ⟨c, hc⟩ := cell_at (ns := ns) (by rw [hn]; exact List.cons_ne_nil _ _) tn
        refine ⟨_, rfl, p, _, 0, _, rfl, rfl, SqL.of hp2, i0, _, rfl, .inl ⟨_, rfl, _, rfl, p, _, 0, _, rfl, rfl, SqL.of hp2, i0, L, _, rfl, .inl (SqL.of hL2), _, _, rfl, rfl, (by rw [List.length_map, hn, List.length_cons]; omega), L, _, _, _, rfl, rfl, SqL.of hL2, hc, ?_⟩⟩
        refine ⟨_, rfl, _, rfl, p, _, 0, _, rfl, rfl, SqL.of hp2, i0, L, _, rfl, .inl (SqL.of hL2), _, _, rfl, rfl, _, rfl, ite2 (fun e1 => ?_) (fun e1 => ?_)⟩
        · refine ⟨_, rfl, _, rfl, _, _, rfl, rfl, ⟨by decide, by decide, by decide⟩, _, _, rfl, rfl, _, rfl, ite2 (fun e2 => ?_) (fun e2 => ?_)⟩
          · refine ⟨_, rfl, _, rfl, _, _, rfl, rfl, ⟨by decide, by decide, by decide⟩, _, _, rfl, rfl, _, _, rfl, rfl, .inl ⟨by decide, by decide⟩, _, rfl, _, _, rfl, rfl, .inr ⟨_, rfl, _, _, rfl, rfl, ?_⟩⟩
            refine ⟨_, rfl, .inl ⟨_, rfl, _, rfl, _, _, rfl, rfl, divW hm hm2, _, rfl, p, _, _, 2, rfl, rfl, hp2, rfl, ?_⟩⟩
            refine ⟨_, rfl, .inl ⟨_, rfl, _, rfl, _, _, rfl, rfl, (by omega), ?_⟩⟩
            refine k _ _ (b2.trans But.upd_at) ⟨_, tn + 1, _, upd_same, by rw [upd_ne Lp]; exact hL2, Lp, hlen, by omega, by omega, ediv_lo hm ?_⟩ (fmod_lo _ hm) (fmod_hi _ hm)
            have e3 := of_decide_eq_true e2
            exact great_nn e3 _
          · skip
            refine ⟨_, rfl, .inl ⟨_, rfl, _, _, rfl, rfl, nz (by decide), _, rfl, _, _, rfl, rfl, .inl ⟨by decide, by decide⟩, _, _, rfl, rfl, _, _, rfl, rfl, _, _, rfl, rfl, ⟨by decide, by decide, bound1 _ (by decide) (by decide) (by decide) (by decide) t0 ht⟩, .inl ⟨_, rfl, _, _, rfl, rfl, nz (by decide), ?_⟩⟩⟩
            refine ⟨_, rfl, _, rfl, _, _, rfl, rfl, .inl ⟨by decide, by decide⟩, _, _, rfl, rfl, _, _, rfl, rfl, .inl ?_, _, rfl, _, _, rfl, rfl, .inl ⟨by decide, by decide⟩, _, rfl, _, _, rfl, rfl, .inl ?_, _, _, rfl, rfl, _, _, rfl, rfl, _, _, rfl, rfl, ⟨by decide, by decide, ?_⟩, .inl ⟨_, rfl, _, _, rfl, rfl, nz (by decide), ?_⟩⟩
            · exact lt64 (hq (by decide) (by decide))
            · exact ⟨by omega, by omega⟩
            · exact bound2 (hq (by decide) (by decide)) (by decide) (by decide) (by decide) t0 ht
            · refine ⟨_, rfl, _, _, rfl, rfl, ⟨by decide, by decide⟩, .inl ⟨_, rfl, _, rfl, _, _, rfl, rfl, (by omega), ?_⟩⟩
              exact k _ _ b2 (fin _ hp2 hL2 b2) (fmod_lo _ hm) (fmod_hi _ hm)
        · skip
          refine ⟨_, rfl, .inl ⟨_, rfl, _, _, rfl, rfl, nz (by decide), _, rfl, _, _, rfl, rfl, .inl ⟨by decide, by decide⟩, _, _, rfl, rfl, _, _, rfl, rfl, _, _, rfl, rfl, ⟨by decide, by decide, bound1 _ (by decide) (by decide) (by decide) (by decide) t0 ht⟩, .inl ⟨_, rfl, _, _, rfl, rfl, nz (by decide), ?_⟩⟩⟩
          refine ⟨_, rfl, _, rfl, _, _, rfl, rfl, .inl ⟨by decide, by decide⟩, _, _, rfl, rfl, _, _, rfl, rfl, .inl ?_, _, rfl, _, _, rfl, rfl, .inl ⟨by decide, by decide⟩, _, rfl, _, _, rfl, rfl, .inl ?_, _, _, rfl, rfl, _, _, rfl, rfl, _, _, rfl, rfl, ⟨by decide, by decide, ?_⟩, .inl ⟨_, rfl, _, _, rfl, rfl, nz (by decide), ?_⟩⟩
          · exact lt64 (hq (by decide) (by decide))
          · exact ⟨by omega, by omega⟩
          · exact bound2 (hq (by decide) (by decide)) (by decide) (by decide) (by decide) t0 ht
          · refine ⟨_, rfl, _, _, rfl, rfl, ⟨by decide, by decide⟩, .inl ⟨_, rfl, _, rfl, _, _, rfl, rfl, (by omega), ?_⟩⟩
            exact k _ _ b2 (fin _ hp2 hL2 b2) (fmod_lo _ hm) (fmod_hi _ hm)
end
end Ev
namespace Ev
open PySem L2 PySem.Spec PyProof.Rows
abbrev sParts : Stmt := sPartsOf
theorem same_new {H : Hp} {q : Addr} {o : HO} (n : H q = none) : Same H (upd H q o) := fun b u e => by rw [upd_ne (ne_of_none e n)]; exact e
theorem Same.gone {H H' : Hp} {p : Addr} (k : Same H H') (n : H' p = none) : H p = none := by
  cases z : H p with
  | none => rfl
  | some o => rw [k _ _ z] at n; cases n
/-- a def that stands under its name -/
structure Df (P : Program) (w : World) (K : PySem.W.Frag) (mg : Str → Option Value) (base : Heap) (k : Nat) (x : Str) (ps : List Str) (sp : Sp) : Prop where
  ex : ∃ (f : Addr) (fd : FuncData), FnOk P w K mg base CX0 k f fd ps sp ∧ mg x = some (.ref f) ∧ PySem.W.keepIn K (.ref f) = true ∧ Binds K fd ps []
theorem extN_refl (H : Hp) : LamX.ExtN H H := fun _ _ e _ => e
theorem sx {H H1 H2 : Hp} (k : Same H H1) (q : LamX.ExtN H1 H2) : LamX.ExtN H H2 := fun b o e t => q b o (k b o e) t
theorem xx {H H1 H2 : Hp} (k : LamX.ExtN H H1) (q : LamX.ExtN H1 H2) : LamX.ExtN H H2 := fun b o e t => q b o (k b o e t) t
/-- no integer -/
def NoInt (H : Hp) (v : V) : Prop := (∀ i, v ≠ .int i) ∧ ∃ (T : String) (b c : Bool), (∀ (K : PySem.W.Frag) (H' : Hp), LamX.ExtN H H' → TyX K H' v (.type T)) ∧ kitB T "int" = some b ∧ kitB T "bool" = some c ∧ (b = true → c = true)
theorem NoInt.keep {H H' : Hp} {v : V} (h : NoInt H v) (k : Same H H') : NoInt H' v := by
  obtain ⟨n, T, b, c, ty, r⟩ := h
  exact ⟨n, T, b, c, fun K G q => ty K G (sx k q), r⟩
theorem NoInt.ext {H H' : Hp} {v : V} (h : NoInt H v) (k : LamX.ExtN H H') : NoInt H' v := by
  obtain ⟨n, T, b, c, ty, r⟩ := h
  exact ⟨n, T, b, c, fun K G q => ty K G (xx k q), r⟩
/-- an integer or none -/
def IntQ (H : Hp) (v : V) : Prop := (∃ i, v = .int i) ∨ NoInt H v
theorem IntQ.keep {H H' : Hp} {v : V} (h : IntQ H v) (k : Same H H') : IntQ H' v := h.imp id fun n => n.keep k
theorem IntQ.ext {H H' : Hp} {v : V} (h : IntQ H v) (k : LamX.ExtN H H') : IntQ H' v := h.imp id fun n => n.ext k
def isI : V → Bool
  | .int _ => true
  | _ => false
def inB (l m : Int) : V → Bool
  | .int i => decide (l ≤ i) && decide (i ≤ m)
  | _ => false
theorem isI_no {H : Hp} {v : V} (h : NoInt H v) : isI v = false := by
  cases v <;> first | rfl | exact absurd rfl (h.1 _)
theorem inB_no {H : Hp} {v : V} (h : NoInt H v) (l m : Int) : inB l m v = false := by
  cases v <;> first | rfl | exact absurd rfl (h.1 _)
/-- what stands in such a tuple -/
def Scal (v : V) : Prop := (∃ i, v = .int i) ∨ (∃ b, v = .bl b) ∨ v = .str "2" ∨ v = .non
theorem noInt_bl (H : Hp) (b : Bool) : NoInt H (.bl b) := ⟨fun i z => (by cases z), "bool", true, true, fun _ _ _ => .base (.bl b), by decide +kernel, by decide +kernel, fun _ => rfl⟩
theorem noInt_str (H : Hp) (x : Str) : NoInt H (.str x) := ⟨fun i z => (by cases z), "str", false, false, fun _ _ _ => .base (.str x), by decide +kernel, by decide +kernel, fun z => z⟩
theorem noInt_non (H : Hp) : NoInt H .non := ⟨fun i z => (by cases z), "NoneType", false, false, fun _ _ _ => .base .non, by decide +kernel, by decide +kernel, fun z => z⟩
theorem Scal.q {H : Hp} {v : V} (h : Scal v) : IntQ H v := by
  rcases h with ⟨i, rfl⟩ | ⟨b, rfl⟩ | rfl | rfl
  · exact .inl ⟨i, rfl⟩
  · exact .inr (noInt_bl H b)
  · exact .inr (noInt_str H _)
  · exact .inr (noInt_non H)
/-- no tuple -/
def NoTup (H : Hp) (v : V) : Prop := ∃ T : String, (∀ (K : PySem.W.Frag) (H' : Hp), LamX.ExtN H H' → TyX K H' v (.type T)) ∧ kitB T "tuple" = some false
theorem NoTup.keep {H H' : Hp} {v : V} (h : NoTup H v) (k : Same H H') : NoTup H' v := by
  obtain ⟨T, ty, r⟩ := h
  exact ⟨T, fun K G q => ty K G (sx k q), r⟩
theorem NoTup.ext {H H' : Hp} {v : V} (h : NoTup H v) (k : LamX.ExtN H H') : NoTup H' v := by
  obtain ⟨T, ty, r⟩ := h
  exact ⟨T, fun K G q => ty K G (xx k q), r⟩
/-- a tuple of such values, or no tuple: xs tells which -/
def PairQ (H : Hp) (v : V) : Option (List V) → Prop
  | some xs => ∃ a, v = .ref a ∧ H a = some (.tup xs) ∧ xs.length ≤ 1000 ∧ ∀ x ∈ xs, Scal x
  | none => NoTup H v
theorem PairQ.keep {H H' : Hp} {v : V} {o : Option (List V)} (h : PairQ H v o) (k : Same H H') : PairQ H' v o := by
  cases o with
  | none => exact NoTup.keep h k
  | some xs =>
    obtain ⟨a, e, h1, h2, h3⟩ := h
    exact ⟨a, e, k _ _ h1, h2, h3⟩
theorem PairQ.ext {H H' : Hp} {v : V} {o : Option (List V)} (h : PairQ H v o) (k : LamX.ExtN H H') : PairQ H' v o := by
  cases o with
  | none => exact NoTup.ext h k
  | some xs =>
    obtain ⟨a, e, h1, h2, h3⟩ := h
    exact ⟨a, e, k _ _ h1 (fun _ z => by cases z), h2, h3⟩
def pairB (m : Int) : Option (List V) → Bool
  | some [x, y] => inB 1 m x && inB 1 m y
  | _ => false
def leV : V → V → Bool
  | .int i, .int j => decide (j ≤ i)
  | _, _ => false
def timesB : Option (List V) → Bool
  | some [x, y] => (inB 1 6 x && inB 1 6 y) && leV x y
  | _ => false
def spIsIntA : Sp := fun vs H Q _ => ∃ v : V, vs = [v] ∧ IntQ H v ∧ Q (.bl (isI v)) H
def spWithinA : Sp := fun vs H Q _ => ∃ (v : V) (l m : Int), vs = [v, .int l, .int m] ∧ IntQ H v ∧ Q (.bl (inB l m v)) H
def spPairA : Sp := fun vs H Q _ => ∃ (v : V) (o : Option (List V)) (m : Int), vs = [v, .int m] ∧ PairQ H v o ∧ ∀ H', Same H H' → Q (.bl (pairB m o)) H'
def spTimesA : Sp := fun vs H Q _ => ∃ (v : V) (o : Option (List V)), vs = [v] ∧ PairQ H v o ∧ ∀ H', Same H H' → Q (.bl (timesB o)) H'
def spPlusA : Sp := fun vs H Q _ => ∃ v : V, vs = [v] ∧ IntQ H v ∧ Q (.bl (inB (-6) 6 v)) H
def spTurnA : Sp := fun vs H Q _ => ∃ (v : V) (o : Option (List V)), vs = [v] ∧ PairQ H v o ∧ ∀ H', Same H H' → Q (.bl (pairB 8 o)) H'
theorem lc_pureV {J : It} {n : Nat} {G : Hp → Prop} {Y : Nat → Hp → V → Hp → Prop} (W : Walk J n G Y) {g : TG} {tt : TT} {te : TE} {vs : List Nat} {σ : L2.St} {H1 : Hp} {D : Addr} {Qd : Hp → Prop} (rs : List V) (hn : rs.length = n) (hb : n ≤ 4000)
    (hG : ∀ H, But D H1 H → G H)
    (step : ∀ (i : Nat) (x : V) (H H' : Hp) (r : V), i < n → rs[i]? = some r → But D H1 H → (∃ acc, H D = some (.lst acc)) → Y i H x H' → ∀ (R : VK) (Wk : Hp → Prop), (∀ H4, Same H H4 → R r H4) →
      g x (wipe σ vs) H' fun σ2 H2 => wipe σ2 vs = wipe σ vs ∧ tt σ2 H2 fun b H3 => if b = true then te σ2 H3 R else Wk H3)
    (fin : ∀ H, But D H1 H → H D = some (.lst rs) → Qd H) :
    ∃ W : Nat → Nat → Hp → Prop, (∃ m, W 0 m (upd H1 D (HO.lst []))) ∧ ∀ (i m : Nat) (H : Hp), W i m H → J.stop i H ∧ Qd H ∨ J.go i H ∧ ∃ Nx : Hp → Prop, (∀ (H' : Hp), Nx H' → ∃ m', m' < m ∧ W (i + 1) m' H') ∧
      ∀ (x : V) (H' : Hp), J.yld i H x H' → g x (wipe σ vs) H' fun σ2 H2 => wipe σ2 vs = wipe σ vs ∧ tt σ2 H2 fun b H3 =>
        if b = true then te σ2 H3 fun y H4 => ∃ acc, H4 D = some (HO.lst acc) ∧ acc.length < sizeLine ∧ Nx (upd H4 D (HO.lst (acc ++ [y]))) else Nx H3 := by
  refine lc_it W (fun i H => H D = some (.lst (rs.take i)) ∧ But D H1 H) ⟨upd_same, But.upd_at⟩ (fun i H _ h => hG H h.2) (fun i x H H' hi h y => ?_) (fun H h => ?_)
  · obtain ⟨e1, e2⟩ := h
    have hr : rs[i]? = some rs[i] := List.getElem?_eq_getElem (by omega)
    refine step i x H H' rs[i] hi hr e2 ⟨_, e1⟩ y _ _ fun H4 s4 => ⟨_, s4 _ _ e1, ?_, ?_, ?_⟩
    · rw [List.length_take]
      exact Nat.lt_of_le_of_lt (Nat.min_le_left _ _) (Nat.lt_of_lt_of_le (show i < 4000 by omega) (by decide))
    · rw [List.take_add_one, hr]
      exact upd_same
    · exact fun c o nc ec => by rw [upd_ne nc]; exact s4 _ _ (e2 c o nc ec)
  · obtain ⟨e1, e2⟩ := h
    rw [← hn, List.take_length] at e1
    exact fin H e2 e1
section
variable {P : Program} {w : World} {K : PySem.W.Frag} {mg : Str → Option Value} {base : Heap}
theorem tup1 {a b : V} : atI [a, b] 1 = some b := atI_nat (j := 1) rfl
theorem tup0 {a b : V} : atI [a, b] 0 = some a := atI_nat (j := 0) rfl
end
end Ev
namespace Ev
open PySem L2 PySem.Spec PyProof.Rows
section
variable {X : Cx}
theorem pe_never {e : Expr} : PE X e (fun _ _ _ => False) := ⟨fun _ _ _ _ _ _ h => h.elim⟩
end
/-- v is a value of the built-in type T, one that holds nothing -/
structure Flat (v : V) (T : String) : Prop where
  ty : ∀ (K : PySem.W.Frag) (H : Hp), TyX K H v (.type T)
  l : kitB T "list" = some false
  t : kitB T "tuple" = some false
  d : kitB T "dict" = some false
theorem flat_int (i : Int) : Flat (.int i) "int" := ⟨fun _ _ => .base (.int i), by decide +kernel, by decide +kernel, by decide +kernel⟩
theorem flat_str (x : Str) : Flat (.str x) "str" := ⟨fun _ _ => .base (.str x), by decide +kernel, by decide +kernel, by decide +kernel⟩
theorem kit2 {K : PySem.W.Frag} {T a b : String} (h1 : kitB T a = some false) (h2 : kitB T b = some false) : PySem.W.kitAny K (.type T) [.type a, .type b] = some false :=
  kitAny_cons (kit_ty h1) (fun _ => kitAny_cons (kit_ty h2) (fun _ => kitAny_nil) (fun z => by cases z)) (fun z => by cases z)
def spParts : Sp := fun vs H Q _ => ∃ (v : V) (T : String), vs = [v] ∧ Flat v T ∧ ∀ (p : Addr) (H' : Hp), H p = none → Same H H' → H' p = some (.lst []) → Q (.ref p) H'
def spKept : Sp := fun vs H Q _ => ∃ (v : V) (T : String), vs = [v] ∧ Flat v T ∧ ∀ (H' : Hp), Same H H' → Q v H'
section
variable {P : Program} {w : World} {K : PySem.W.Frag} {mg : Str → Option Value} {base : Heap}
theorem scParts : FnScope ["value"] ["value"] (defScope sParts) := ⟨rfl, rfl, rfl, by decide +kernel, rfl, by decide +kernel, by decide +kernel⟩
theorem ok_parts {f : Addr} {fd : FuncData} (F : Fun K "parts_of" "parts_of" sParts f fd) (T : Blt mg) (md : mg "dict" = none) : FnOk P w K mg base CX0 1 f fd ["value"] spParts := by
  refine F.ok scParts (fun vs H Q E h => ?_) (fun cdv A outer s H vs Q E hr h => ?_)
  · obtain ⟨v, TT, rfl, _⟩ := h
    rfl
  · obtain ⟨v, TT, rfl, fl, kk⟩ := h
    refine ⟨_, pss_cons (ps_if (pt_val (pe_callB call_isiT (by rfl) T.isi (by decide +kernel) (pa_cons (pv 0) (pa_cons (pe_tup (pa_cons (pe_bltn (v := .ty "list") (by rfl) T.list (by decide +kernel) rfl) (pa_cons (pe_bltn (v := .ty "tuple") (by rfl) T.tuple (by decide +kernel) rfl) pa_nil))) pa_nil)))) (pss_one ps_never) pss_nil)
      (pss_one (ps_ret (pe_ifExp (pt_val (pe_callB call_isi (by rfl) T.isi (by decide +kernel) (pa_cons (pv 0) (pa_cons (pe_bltn (v := .ty "dict") (by rfl) md (by decide +kernel) rfl) pa_nil)))) pe_never (pe_lst pa_nil)))), ?_⟩
    refine ⟨_, rfl, (by show 2 ≤ sizeLine; decide), fun tp ntp => ⟨v, tp, _, _, _, false, rfl, upd_same, .cons (.ty _) (.cons (.ty _) .nil), fl.ty _ _, kit2 fl.l fl.t, _, rfl, iteF ?_⟩⟩
    refine ⟨_, rfl, v, _, _, _, false, rfl, .ty _, fl.ty _ _, kit_ty fl.d, _, rfl, iteF ⟨(by show 0 ≤ sizeLine; decide), fun p np => ?_⟩⟩
    refine kk p _ ?_ (fun b o e => ?_) upd_same
    · cases e : H p with
      | none => rfl
      | some o => rw [upd_ne (ne_of_none e ntp), e] at np; cases np
    · have e1 : upd H tp (.tup [.ty "list", .ty "tuple"]) b = some o := by rw [upd_ne (ne_of_none e ntp)]; exact e
      rw [upd_ne (ne_of_none e1 np)]; exact e1
theorem kit3 {K : PySem.W.Frag} {T a b c : String} (h1 : kitB T a = some false) (h2 : kitB T b = some false) (h3 : kitB T c = some false) : PySem.W.kitAny K (.type T) [.type a, .type b, .type c] = some false :=
  kitAny_cons (kit_ty h1) (fun _ => kitAny_cons (kit_ty h2) (fun _ => kitAny_cons (kit_ty h3) (fun _ => kitAny_nil) (fun z => by cases z)) (fun z => by cases z)) (fun z => by cases z)
theorem scKept : FnScope ["value"] ["value"] (defScope sKept) := ⟨rfl, rfl, rfl, by decide +kernel, rfl, by decide +kernel, by decide +kernel⟩
theorem ok_kept {f : Addr} {fd : FuncData} (F : Fun K "kept" "kept" sKept f fd) (T : Blt mg) (md : mg "dict" = none) (ma : mg "any" = none) (D : Df P w K mg base 1 "parts_of" ["value"] spParts) : FnOk P w K mg base CX0 2 f fd ["value"] spKept := by
  refine F.ok scKept (fun vs H Q E h => ?_) (fun cdv A outer s H vs Q E hr h => ?_)
  · obtain ⟨v, TT, rfl, _⟩ := h
    rfl
  · obtain ⟨v, TT, rfl, fl, kk⟩ := h
    refine ⟨_, pss_cons (ps_if (pt_not (pt_val (pe_callB call_isiT (by rfl) T.isi (by decide +kernel) (pa_cons (pv 0) (pa_cons (pe_tup (pa_cons (pe_bltn (v := .ty "list") (by rfl) T.list (by decide +kernel) rfl) (pa_cons (pe_bltn (v := .ty "tuple") (by rfl) T.tuple (by decide +kernel) rfl) (pa_cons (pe_bltn (v := .ty "dict") (by rfl) md (by decide +kernel) rfl) pa_nil)))) pa_nil))))) (pss_one (ps_ret (pv 0))) pss_nil)
      (pss_cons ps_never (pss_one ps_never)), ?_⟩
    refine ⟨_, rfl, (by show 3 ≤ sizeLine; decide), fun tp ntp => ⟨v, tp, _, _, _, false, rfl, upd_same, .cons (.ty _) (.cons (.ty _) (.cons (.ty _) .nil)), fl.ty _ _, kit3 fl.l fl.t fl.d, _, rfl, iteT ⟨_, rfl, ?_⟩⟩⟩
    exact kk _ (fun b u e => by rw [upd_ne (ne_of_none e ntp)]; exact e)
end
end Ev
namespace Ev
open PySem L2 PySem.Spec PyProof.Rows
/-! Promises of defs that are called while no repr is under way (so what they make can be shown). -/
structure FnG (P : Program) (w : World) (K : PySem.W.Frag) (mg : Str → Option Value) (base : Heap) (k : Nat) (f : Addr)
    (fd : FuncData) (ps : List Str) (sp : Sp) : Prop where
  many : ∀ vs H Q E, sp vs H Q E → vs.length = ps.length
  goes : ∀ (A : Around) (above : List Env) (s : Shared) (H : Hp) (args : Args) (us : List Value) (vs : List V) (Q : VK)
    (E : XK), Room k A → A.guards = some [] → Env0 P w K mg base A above s H → BindsTo s fd args (ps.zip us) → Vals vs us →
    sp vs H Q E → codeAny (model P w) A (.call (.ref f) args) (CR CX0 above P w H s Q E) s
theorem FnG.of {P : Program} {w : World} {K : PySem.W.Frag} {mg : Str → Option Value} {base : Heap} {k : Nat} {f : Addr}
    {fd : FuncData} {ps : List Str} {sp : Sp} (F : FnOk P w K mg base CX0 k f fd ps sp) : FnG P w K mg base k f fd ps sp :=
  ⟨F.len, fun A above s H args us vs Q E hr _ => F.run A above s H args us vs Q E hr⟩
section
variable {P : Program} {w : World} {K : PySem.W.Frag} {mg : Str → Option Value} {base : Heap}
/-- a def by its body, where no repr is under way -/
theorem fng_code {x qual : Str} {st : Stmt} {f : Addr} {fd : FuncData} {N ps : List Str} {k : Nat} {sp : Sp} (F : Fun K x qual st f fd)
    (S : FnScope N ps (defScope st)) (many : ∀ vs H Q E, sp vs H Q E → vs.length = ps.length)
    (body : ∀ (cdv : Value), fd.code = cdv → ∀ (A : Around) (above : List Env) (s : Shared) (H : Hp) (vs : List V) (Q : VK) (E : XK),
      Room k (A.deeper (envOfC qual (defScope st) s.heap.objs.size f cdv)) → A.guards = some [] → sp vs H Q E →
      ∃ t, PSs (cxOf CX0 P w K mg base N qual (defScope st) f cdv A above s H E).nox (defBody st) t ∧
        t { nx := fun _ H' => Q .non H', rt := Q } (start N vs) H) : FnG P w K mg base (k + 1) f fd ps sp := by
  obtain ⟨oc, od, kV, doc, pm, an, cdv, ct, osl, rfl, lk, hcd⟩ := F.ex
  constructor
  · exact many
  · intro A above s H args us vs Q E room gd env bt rv hs
    have inK : K.In s.heap := env.mod.kin.keeps fun b o e => (env.bs b o e).1
    have noLim : s.heap.NoLimit := env.mod.nolimit.keeps fun b o e => (env.bs b o e).1
    have kinds : ∀ y ∈ ps.zip us, (defScope st).names.lookup y.1 = some .local ∨
        ((defScope st).names.lookup y.1 = some .cell ∧ ((cellsFrom (s.heap.objs.size + 1) (defScope st).names []).lookup y.1).isSome = true) := by
      rintro ⟨n, v⟩ hy
      cases S.par n (List.of_mem_zip hy).1 with
      | inl q => exact .inl q
      | inr q => exact .inr ⟨q, PySem.W.cellsFrom_some _ _ _ (.inl q)⟩
    refine codeAny_call_function room.depth (inK _ _ lk) rfl S.co S.gen rfl (PySem.W.codeRec_of inK hcd) (bt _ _ _ _ ?_)
    refine wpAny_newFunctionEnv_cells S.kind kinds fun e2 he s2 x => ?_
    subst he
    refine ⟨noLim.keeps x.toInCall.keep, codeAny_func ?_⟩
    obtain ⟨t, ht, hq⟩ := body cdv rfl A above s H vs Q E (room.deeper _) gd hs
    have inv := inv_start (CX := CX0) (E := E) S room.hd env (many _ _ _ _ hs) rv x
    refine wpAny_mono (ht.nox.run [] s2 (start N vs) H _ inv hq) (fun fl s3 h3 => ?_) fun e s3 h3 => h3
    cases fl with
    | ret u =>
      obtain ⟨v, σ3, H3, J, rr, q⟩ := h3
      exact ⟨v, H3, J.os, J.bare, J.base, J.hok, rr, q⟩
    | next =>
      obtain ⟨σ3, H3, J, q⟩ := h3
      exact ⟨.non, H3, J.os, J.bare, J.base, J.hok, rfl, q⟩
    | brk =>
      obtain ⟨_, _, _, z⟩ := h3
      exact False.elim z
    | cont =>
      obtain ⟨_, _, _, z⟩ := h3
      exact False.elim z
theorem fng_of {x qual : Str} {st : Stmt} {f : Addr} {fd : FuncData} {N ps : List Str} {k : Nat} {sp : Sp} (F : Fun K x qual st f fd)
    (S : FnScope N ps (defScope st)) (many : ∀ vs H Q E, sp vs H Q E → vs.length = ps.length)
    (body : ∀ (cdv : Value) (A : Around) (above : List Env) (s : Shared) (H : Hp) (vs : List V) (Q : VK) (E : XK),
      Room k (A.deeper (envOfC qual (defScope st) s.heap.objs.size f cdv)) → A.guards = some [] → sp vs H Q E →
      ∃ t, PSs (cxOf CX0 P w K mg base N qual (defScope st) f cdv A above s H E).nox (defBody st) t ∧
        t { nx := fun _ H' => Q .non H', rt := Q } (start N vs) H) : FnG P w K mg base (k + 1) f fd ps sp :=
  fng_code F S many fun cdv _ => body cdv
end
section
variable {X : Cx}
/-- f(e, ..) of such a def -/
theorem pe_callG {k : Nat} {f : Addr} {fd : FuncData} {ps : List Str} {sp : Sp} {E : XK} {x : Str} {p pos : Pos} {e : Expr} {es : List Expr} {t : TA}
    (F : FnG X.prog X.w X.K X.mg X.base k f fd ps sp) (room : Room k X.A) (gd : X.A.guards = some []) (hg : Gl X x)
    (hm : X.mg x = some (.ref f)) (kp : PySem.W.keepIn X.K (.ref f) = true) (hb : Binds X.K fd ps []) (ha : PA X (e :: es) t)
    (hdb : (x == ("__debug__" : Str)) = false := by decide)
    (he : starEach (e :: es) X.env = (false, eval e X.env) :: starEach es X.env := by rfl)
    (hpl : (backTo pos (starEach es X.env)).any (·.1) = false := by rfl) :
    PE X (.Call (.Name x p) (e :: es) [] pos) (tCall sp [] E t) := by
  constructor
  intro pins s σ H Q I h
  refine wpAny_Call_Name_kw (ld_glob I hg hm ?_ hdb)
  refine PySem.W.callWith_K (h₀ := X.base) I.ok.mod.kin kp (thn (ha.run pos pins s σ H _ I h) fun us s1 d => ?_) he hpl
  obtain ⟨vs, H1, I1, rv, q⟩ := d
  refine ⟨I1.kIn, ?_⟩
  have q : sp vs H1 Q E := by
    have q' : sp (vs ++ []) H1 Q E := q
    rw [List.append_nil] at q'
    exact q'
  have hl : us.length = ps.length := rv.length.symm.trans (F.many _ _ _ _ q)
  have bt := hb s1 us I1.kIn (by rw [List.append_nil]; exact hl)
  rw [List.append_nil] at bt
  refine wpAny_call (codeAny_mono (F.goes X.A X.stack s1 H1 ⟨us, []⟩ us vs Q E room gd I1.env0 bt rv q) fun r s2 h2 => ?_)
  cases r with
  | error e => exact False.elim h2
  | ok fl =>
    cases fl with
    | ret u => exact I1.after h2
    | next => exact False.elim h2
    | brk => exact False.elim h2
    | cont => exact False.elim h2
/-- repr of data, where none is under way -/
def rRepr (K : PySem.W.Frag) : List V → Hp → VK → Prop := fun xs H Q => ∃ (a : Addr) (d : PyData), xs = [.ref a] ∧ Dp K H (.ref a) d ∧
  d.showable = true ∧ d.hasDict = false ∧ d.depth ≤ 32 ∧ d.shown.length ≤ sizeLine ∧ Q (.str d.shown) H
theorem call_repr (gd : X.A.guards = some []) (hu : X.A.units + 64 < cLine) : CallR X (.builtin "repr") (rRepr X.K) := by
  intro pins s σ H xs us Q I r h
  obtain ⟨a, d, rfl, hd, h1, h2, h3, h4, q⟩ := h
  cases r with
  | cons r1 r2 =>
    cases r2
    cases r1
    obtain ⟨as, rd⟩ := Dp.reads I d (.ref a) (.ref a) hd rfl
    exact repr_of_reads' rd h1 (fun z => by rw [h2] at z; cases z) gd (by omega) (fun _ _ e => e)
      (fun h' u tk hk => ⟨.str d.shown, H, I.kept hk, ⟨u, rfl⟩, q⟩) h4
end
/-! ### the law's own call -/
section
variable {P : Program} {w : World} {K : PySem.W.Frag} {mg mb : Str → Option Value}
theorem law_callG {k : Nat} {fa a : Addr} {fd : FuncData} {x : Str} {sp : Sp} {s : Shared} {vs : List Value} {ns : List Int}
    (inK : K.In s.heap) (ns1 : s.heap.Ns mainGlobals mg) (ns2 : s.heap.Ns builtinsNs mb) (blt : ∀ x : Str, x ≠ "__name__" → mb x = bootBuiltins x)
    (noLim : s.heap.NoLimit) (hg : s.gens = #[]) (ha : s.heap.get? a = some { cls := .type "list", data := .seq vs.toArray })
    (hi : IntsAre vs ns) (hl : ns.length ≤ sizeLine) (hr : Room k callerA)
    (F : ∀ base : Heap, K.In base → base.Ns mainGlobals mg → FnG P w K mg base k fa fd [x] sp)
    (bt : ∀ (s : Shared) (u : Value), BindsTo s fd ⟨[u], []⟩ [(x, u)])
    (hsp : ∀ H : Hp, SqL K H a (ns.map V.int) → sp [.ref a] H (fun v _ => v = .bl true) fun _ _ _ => False) :
    codeAny (model P w) callerA (.call (.ref fa) ⟨[.ref a], []⟩)
      (fun r s' => r = .ok (.ret (.bool true)) ∧ OldK s.heap s'.heap ∧ s'.os = s.os ∧ AllBare s'.gens) s := by
  have rv := vals_ints hi
  have lv := hi.length
  have key : ∀ H : Hp, (∀ b u, H b = some u → b = a ∧ K.lookup a = none ∧ u = .frz { cls := .type "list", data := .seq vs.toArray } (.lst (ns.map V.int))) →
      SqL K H a (ns.map V.int) → codeAny (model P w) callerA (.call (.ref fa) ⟨[.ref a], []⟩)
        (fun r s' => r = .ok (.ret (.bool true)) ∧ OldK s.heap s'.heap ∧ s'.os = s.os ∧ AllBare s'.gens) s := by
    intro H only sq
    have ok : HOk P w H s.heap := by
      intro b u e
      obtain ⟨rfl, _, rfl⟩ := only b u e
      exact ⟨ha, by rw [List.length_map]; exact hl, vs, _, rv, ha⟩
    have plain : ∀ {b : Addr} {o : Obj} {es : Array DictEntry} {n : Nat}, s.heap.get? b = some o → o.data = .dict es n → H b = none := by
      intro b o es n e d
      cases q : H b with
      | none => rfl
      | some u =>
        obtain ⟨rfl, _, _⟩ := only b u q
        rw [ha] at e
        cases e
        exact nomatch d
    have names : ∀ {b : Addr} {m : Str → Option Value}, s.heap.Ns b m → (hidT s.heap H).Ns b m := by
      rintro b m ⟨o, es, n, e, d, r⟩
      exact ⟨o, es, n, hidT_get e (plain e d), d, r⟩
    have inB : K.In (hidT s.heap H) := by
      intro b o e
      refine hidT_get (inK b o e) ?_
      cases q : H b with
      | none => rfl
      | some u =>
        obtain ⟨rfl, n, _⟩ := only b u q
        rw [n] at e
        cases e
    obtain ⟨mc, l1, l2⟩ := noLim
    have md : Mod K mg (hidT s.heap H) := ⟨inB, names ns1, ⟨mb, names ns2, blt⟩, ⟨mc, names l1, l2⟩⟩
    have env : Env0 P w K mg (hidT s.heap H) callerA [] s H :=
      ⟨rfl, md, fun b o e => of_hidT e, Nat.le_of_eq (hidT_size _ _), trivial, (fun b hb => by cases hb), ok, .of_eq hg⟩
    have go := (F _ inB (names ns1)).goes callerA [] s H ⟨[.ref a], []⟩ [.ref a] [.ref a] _ _ hr rfl env (bt s (.ref a)) (.cons rfl .nil) (hsp H sq)
    refine codeAny_mono go fun r s2 h2 => ?_
    cases r with
    | error e => exact False.elim h2
    | ok fl =>
      cases fl with
      | next => exact False.elim h2
      | brk => exact False.elim h2
      | cont => exact False.elim h2
      | ret u =>
        obtain ⟨v, H2, os, bare, un, ok2, rr, q⟩ := h2
        obtain rfl : v = V.bl true := q
        obtain rfl : u = Value.bool true := rr
        refine ⟨rfl, OldK.of_keep fun b o e => ?_, os, bare⟩
        cases q : H b with
        | none => exact un.keep b o e q (by intro z; cases z) (by simp)
        | some u =>
          obtain ⟨rfl, _, rfl⟩ := only b u q
          obtain ⟨e1, _⟩ := ok b _ q
          obtain ⟨e2, _⟩ := ok2 b _ (un.frzs b _ _ q)
          rw [e] at e1
          cases e1
          exact e2
  cases hk : K.lookup a with
  | none =>
    refine key (fun b => if b = a then some (.frz { cls := .type "list", data := .seq vs.toArray } (.lst (ns.map V.int))) else none) (fun b u e => ?_) (.inl (.inr ⟨_, if_pos rfl⟩))
    by_cases z : b = a
    · rw [if_pos z] at e
      cases e
      exact ⟨z, hk, rfl⟩
    · rw [if_neg z] at e
      cases e
  | some o =>
    have e := inK a o hk
    rw [ha] at e
    cases e
    refine key (fun _ => none) (fun b u e => by cases e) (.inr ⟨_, vs.toArray, _, hk, rfl, rfl, rfl, ?_, by simpa using rv⟩)
    rw [List.size_toArray, lv]
    exact hl
end
theorem walk_ofG {l : PySem.W.OpenLaw} {n k : Nat} {q : Program} {loose : List Str} {XP : (Str → Option Value) → Heap → Prop} {YP : World → Heap → Prop}
    {d : DefRec} {K : Params → PySem.W.Frag} {sp : World → Sp} {x : Str} (hn : l.most = some n) (hn2 : n ≤ sizeLine) (hdf : d.params.defaults = [])
    (hr : Room k callerA) (hY : ∀ (w : World) (h : Heap), YP w h → (K w.params).In h)
    (F : ∀ (w : World) (mg : Str → Option Value) (fa : Addr) (h : Heap), (K w.params).In h → h.Ns mainGlobals mg → mg d.name = some (.ref fa) →
      ∃ fd : FuncData, (∀ (s : Shared) (u : Value), BindsTo s fd ⟨[u], []⟩ [(x, u)]) ∧
        ∀ base : Heap, (K w.params).In base → base.Ns mainGlobals mg → FnG l.prog w (K w.params) mg base k fa fd [x] (sp w))
    (hsp : ∀ (w : World) (H : Hp) (a : Addr) (ns : List Int), ns.length ≤ n → SqL (K w.params) H a (ns.map V.int) → sp w [.ref a] H (fun v _ => v = .bl true) fun _ _ _ => False) :
    PySem.W.WalkO q loose XP YP l.row.toRowW d [] (fun f vs => PySem.call f vs) := by
  refine Att.attach_call hn hdf fun w s0 s1 mg mb fa o pm cd doc a vs ns G Y h1 h2 h3 h4 h5 h6 h7 h8 => ?_
  obtain ⟨fd, bt, hF⟩ := F w mg fa _ (hY w _ Y) G.T.g h4
  exact law_callG (hY w _ Y) G.T.g G.T.b G.T.builtins G.T.nolimit h8 h5 h6 (Nat.le_trans h7 hn2) hr hF bt (fun H sq => hsp w H a ns h7 sq)
end Ev
namespace Ev
open PySem L2 PySem.Spec PyProof.Rows
theorem walk_ofGE {l : PySem.W.OpenLaw} {n k : Nat} {q : Program} {loose : List Str} {XP : (Str → Option Value) → Heap → Prop} {YP : World → Heap → Prop}
    {d : DefRec} {x : Str} (hn : l.most = some n) (hn2 : n ≤ sizeLine) (hdf : d.params.defaults = []) (hr : Room k callerA)
    (F : ∀ (w : World) (mg : Str → Option Value) (fa : Addr) (h : Heap), YP w h → h.Ns mainGlobals mg → mg d.name = some (.ref fa) →
      ∃ (K : PySem.W.Frag) (fd : FuncData) (sp : Sp), K.In h ∧ (∀ (s : Shared) (u : Value), BindsTo s fd ⟨[u], []⟩ [(x, u)]) ∧
        (∀ (H : Hp) (a : Addr) (ns : List Int), ns.length ≤ n → SqL K H a (ns.map V.int) → sp [.ref a] H (fun v _ => v = .bl true) fun _ _ _ => False) ∧
        ∀ base : Heap, K.In base → base.Ns mainGlobals mg → FnG l.prog w K mg base k fa fd [x] sp) :
    PySem.W.WalkO q loose XP YP l.row.toRowW d [] (fun f vs => PySem.call f vs) := by
  refine Att.attach_call hn hdf fun w s0 s1 mg mb fa o pm cd doc a vs ns G Y h1 h2 h3 h4 h5 h6 h7 h8 => ?_
  obtain ⟨K, fd, sp, inK, bt, hsp, hF⟩ := F w mg fa _ Y G.T.g h4
  exact law_callG inK G.T.g G.T.b G.T.builtins G.T.nolimit h8 h5 h6 (Nat.le_trans h7 hn2) hr hF bt (fun H sq => hsp H a ns h7 sq)
end Ev
namespace Ev
open PySem L2 PySem.Spec PyProof.Rows RZ
theorem vals_snd : ∀ {kvs : List (Key × V)} {vs : List (Key × Value)}, KV kvs vs → Vals (kvs.map (·.2)) (vs.map (·.2))
  | _, _, .nil => .nil
  | _, _, .cons h t => .cons h.2 (vals_snd t)
/-! ### list(d.values()) -/
def tListVals (te : TE) : TE := fun σ H Q => te σ H fun x H1 => ∃ (d : Addr) (kvs : List (Key × V)), x = .ref d ∧ H1 d = some (.dK kvs) ∧ ∀ p, H1 p = none → Q (.ref p) (upd H1 p (.lst (kvs.map (·.2))))
section
variable {X : Cx} {e : Expr} {te : TE} {p apos cpos pos : Pos}
theorem pe_listVals (hc : X.calm = true) (he : PE X e te) (hg : Gl X "list") (hm : X.mg "list" = none) (hv : bootBuiltins "list" = some (.type "list")) (hbase : attributeBase e "values" X.env (eval e X.env) = eval e X.env := by rfl) (hline : (apos.endLine == cpos.line) = true := by rfl)
    (hs : starEach [.Call (.Attribute e "values" apos) [] [] cpos] X.env = (false, eval (.Call (.Attribute e "values" apos) [] [] cpos) X.env) :: starEach [] X.env := by rfl) :
    PE X (.Call (.Name "list" p) [.Call (.Attribute e "values" apos) [] [] cpos] [] pos) (tListVals te) := by
  constructor
  intro pins s σ H Q I hq
  refine wpAny_Call_Name_kw (ld_blt I hg hm hv ?_)
  refine PyProof.Rows.callWith_type1 ?_ hs rfl
  rw [hs]
  show wpAny _ _ (spliced ((false, eval (.Call (.Attribute e "values" apos) [] [] cpos) X.env) :: backTo pos (starEach [] X.env))) _ _ s
  refine Calls.spliced_cons ?_
  refine wpAny_Call_method (T := "dict") (id := "dict.values") hbase rfl hline F.plainAttrs_dict F.slot_dict_values F.type_dict_values (thn (he.run pins s σ H _ I hq) fun u s1 hh => ?_)
  obtain ⟨x, H1, I1, rx, d, kvs, rfl, hd, q⟩ := hh
  obtain rfl : u = Value.ref d := rx
  obtain ⟨hz, hs0, vs, kv, hdo⟩ := I1.hok d _ hd
  obtain ⟨ep, hat⟩ := hdo.dictAt
  have lk : kvs.length = vs.length := Paired.length kv
  refine ⟨hdo.typeIs, hdo.mapOf.noDict, ?_⟩
  show wpAny _ _ (callWith cpos (.builtin "dict.values") [.ref d] [] []) _ X.xe s1
  refine method_meetsIn F.slot_dict_values F.entry_dict_values rfl (PySem.evalArgs_none ⟨rfl, hdo.typeIs, F.args_dict_values_1 _, _, meets_dict_values (mixKind X.prog X.w) d hs0, ⟨vs, hdo⟩, ?_⟩)
  refine Calls.spliced_nil ?_
  have I2 : Inv X pins σ H1 { s1 with heap := s1.heap.push { cls := .type "dict_values", data := .fields #[.ref d] } } := I1.kept (t' := s1.toks) fun b ob q => Heap.get?_push_of_some _ q
  refine PySem.W.kdl_call (PySem.W.kdl_values (knd := mixKind X.prog X.w) (kvs := vs) (ep := ep)) (I1.ok.hd hc) ⟨⟨_, Heap.get?_push_size _ rfl, rfl, rfl⟩, hat.push _⟩ (by omega) fun h' tk acc c' hk hD hacc => ?_
  have e2 : acc.toList = vs.map (·.2) := PySem.W.kdl_vals_eq acc.toList (by rw [Array.length_toList]; exact hacc.1) fun j v e => hacc.2 j v (by rw [← Array.getElem?_toList]; exact e)
  refine ⟨.ref _, upd H1 _ (.lst (kvs.map (·.2))), I2.laid (t' := tk) hk (Nat.le_refl _) (show ObjOk X.prog X.w _ _ _ (.lst (kvs.map (·.2))) from ⟨by rw [List.length_map]; exact hz, acc.toList, c', by rw [e2]; exact vals_snd kv, by rw [Array.toArray_toList]; exact hD⟩), rfl, q _ (I2.hok.fresh (Nat.le_refl _))⟩
end
/-! ### what stands in a value -/
def AllFlat (us : List V) : Prop := ∀ u ∈ us, ∃ T, Flat u T
inductive Hold (H : Hp) : V → List V → Bool → Prop
  | flat {v : V} {T : String} : Flat v T → Hold H v [] false
  | tup {a : Addr} {us : List V} : H a = some (.tup us) → AllFlat us → us.length ≤ 900 → Hold H (.ref a) us false
  | lst {a : Addr} {us : List V} : H a = some (.lst us) → AllFlat us → us.length ≤ 900 → Hold H (.ref a) us true
  | dct {a : Addr} {kvs : List (Key × V)} : H a = some (.dK kvs) → AllFlat (kvs.map (·.2)) → kvs.length ≤ 900 → (kvs.map (·.1)).Nodup → Hold H (.ref a) (kvs.map (·.2)) true
/-- the copy of a value -/
inductive Alike (H : Hp) : V → Hp → V → Prop
  | same {v : V} {H' : Hp} : Alike H v H' v
  | lst {a b : Addr} {us : List V} {H' : Hp} : H a = some (.lst us) → H' b = some (.lst us) → Alike H (.ref a) H' (.ref b)
  | dct {a b : Addr} {kvs : List (Key × V)} {H' : Hp} : H a = some (.dK kvs) → H' b = some (.dK kvs) → Alike H (.ref a) H' (.ref b)
theorem Hold.keep {H H' : Hp} {v : V} {us : List V} {b : Bool} (h : Hold H v us b) (k : Same H H') : Hold H' v us b := by
  cases h with
  | flat f => exact .flat f
  | tup e a l => exact .tup (k _ _ e) a l
  | lst e a l => exact .lst (k _ _ e) a l
  | dct e a l n => exact .dct (k _ _ e) a l n
theorem Hold.len {H : Hp} {v : V} {us : List V} {b : Bool} (h : Hold H v us b) : us.length ≤ 900 := by
  cases h with
  | flat f => exact Nat.zero_le _
  | tup e a l => exact l
  | lst e a l => exact l
  | dct e a l n => rw [List.length_map]; exact l
theorem Hold.items {H : Hp} {v : V} {us : List V} {b : Bool} (h : Hold H v us b) : AllFlat us := by
  cases h with
  | flat f => exact fun u z => by cases z
  | tup e a l => exact a
  | lst e a l => exact a
  | dct e a l n => exact a
theorem Hold.ty {H : Hp} {v : V} {us : List V} {b : Bool} (h : Hold H v us b) : ∃ T : String, (∀ (K : PySem.W.Frag) (H' : Hp), Same H H' → TyX K H' v (.type T)) ∧ ∃ b1 b2 b3, kitB T "list" = some b1 ∧ kitB T "tuple" = some b2 ∧ kitB T "dict" = some b3 ∧ b = (b1 || b3) := by
  cases h with
  | @flat v T f => exact ⟨T, fun K H' _ => f.ty K H', false, false, false, f.l, f.t, f.d, rfl⟩
  | tup e a l => exact ⟨"tuple", fun K H' k => .base (.tup (k _ _ e)), false, true, false, by decide +kernel, by decide +kernel, by decide +kernel, rfl⟩
  | lst e a l => exact ⟨"list", fun K H' k => .base (.lst (k _ _ e)), true, false, false, by decide +kernel, by decide +kernel, by decide +kernel, rfl⟩
  | dct e a l n => exact ⟨"dict", fun K H' k => .base (.dK (k _ _ e)), false, false, true, by decide +kernel, by decide +kernel, by decide +kernel, rfl⟩
theorem kit_any2 {K : PySem.W.Frag} {T a b : String} {r1 r2 : Bool} (h1 : kitB T a = some r1) (h2 : kitB T b = some r2) : PySem.W.kitAny K (.type T) [.type a, .type b] = some (r1 || r2) := by
  refine kitAny_cons (kit_ty h1) (fun e => ?_) (fun e => by rw [e]; rfl)
  refine kitAny_cons (kit_ty h2) (fun e2 => ?_) (fun e2 => by rw [e, e2]; rfl)
  rw [e, e2]
  exact kitAny_nil
def spPartsV : Sp := fun vs H Q _ => ∃ (v : V) (us : List V) (b : Bool), vs = [v] ∧ Hold H v us b ∧ ∀ (p : Addr) (H' : Hp), H p = none → Same H H' → H' p = some (.lst us) → Q (.ref p) H'
def spRebuilt : Sp := fun vs H Q _ => ∃ (v : V) (us : List V) (p : Addr), vs = [v, .ref p] ∧ Hold H v us true ∧ H p = some (.lst us) ∧ ∀ (v' : V) (H' : Hp), Same H H' → Alike H v H' v' → Q v' H'
def spKeptV : Sp := fun vs H Q _ => ∃ (v : V) (us : List V) (b : Bool), vs = [v] ∧ Hold H v us b ∧ ∀ (v' : V) (H' : Hp), Same H H' → Alike H v H' v' → Q v' H'
section
variable {P : Program} {w : World} {K : PySem.W.Frag} {mg : Str → Option Value} {base : Heap}
theorem ok_partsV {f : Addr} {fd : FuncData} (F : Fun K "parts_of" "parts_of" sParts f fd) (T : Blt mg) (md : mg "dict" = none) : FnOk P w K mg base CX0 1 f fd ["value"] spPartsV := by
  refine F.ok scParts (fun vs H Q E h => ?_) (fun cdv A outer s H vs Q E hr h => ?_)
  · obtain ⟨v, us, b, rfl, _⟩ := h
    rfl
  · obtain ⟨v, us, b, rfl, hh, kk⟩ := h
    refine ⟨_, pss_cons (ps_if (pt_val (pe_callB call_isiT (by rfl) T.isi (by decide +kernel) (pa_cons (pv 0) (pa_cons (pe_tup (pa_cons (pe_bltn (v := .ty "list") (by rfl) T.list (by decide +kernel) rfl) (pa_cons (pe_bltn (v := .ty "tuple") (by rfl) T.tuple (by decide +kernel) rfl) pa_nil))) pa_nil))))
        (pss_one (ps_ret (pe_callTy call_list_of (by rfl) T.list (by decide +kernel) (pa_cons (pv 0) pa_nil)))) pss_nil)
      (pss_one (ps_ret (pe_ifExp (pt_val (pe_callB call_isi (by rfl) T.isi (by decide +kernel) (pa_cons (pv 0) (pa_cons (pe_bltn (v := .ty "dict") (by rfl) md (by decide +kernel) rfl) pa_nil)))) (pe_listVals rfl (pv 0) (by rfl) T.list (by decide +kernel)) (pe_lst pa_nil)))), ?_⟩
    have fin : ∀ (tp p : Addr) (ntp : H tp = none) (np : upd H tp (.tup [.ty "list", .ty "tuple"]) p = none), Q (.ref p) (upd (upd H tp (.tup [.ty "list", .ty "tuple"])) p (.lst us)) := fun tp p ntp np =>
      kk p _ (Same.gone (same_new ntp) np) ((same_new ntp).trans (same_new np)) upd_same
    cases hh with
    | @flat v TT f =>
      refine ⟨_, rfl, (by show 2 ≤ sizeLine; decide), fun tp ntp => ⟨_, tp, _, _, _, false, rfl, upd_same, .cons (.ty _) (.cons (.ty _) .nil), f.ty _ _, kit_any2 f.l f.t, _, rfl, iteF ?_⟩⟩
      exact ⟨_, rfl, _, _, _, _, false, rfl, .ty _, f.ty _ _, kit_ty f.d, _, rfl, iteF ⟨(by show 0 ≤ sizeLine; decide), fun p np => fin tp p ntp np⟩⟩
    | tup e a l =>
      refine ⟨_, rfl, (by show 2 ≤ sizeLine; decide), fun tp ntp => ⟨_, tp, _, _, _, true, rfl, upd_same, .cons (.ty _) (.cons (.ty _) .nil), .base (.tup (same_new ntp _ _ e)), kit_any2 (r1 := false) (r2 := true) (by decide +kernel) (by decide +kernel), _, rfl, iteT ?_⟩⟩
      exact ⟨_, rfl, _, _, rfl, .inr (SqT.of (same_new ntp _ _ e)), fun p np => fin tp p ntp np⟩
    | lst e a l =>
      refine ⟨_, rfl, (by show 2 ≤ sizeLine; decide), fun tp ntp => ⟨_, tp, _, _, _, true, rfl, upd_same, .cons (.ty _) (.cons (.ty _) .nil), .base (.lst (same_new ntp _ _ e)), kit_any2 (r1 := true) (r2 := false) (by decide +kernel) (by decide +kernel), _, rfl, iteT ?_⟩⟩
      exact ⟨_, rfl, _, _, rfl, .inl (SqL.of (same_new ntp _ _ e)), fun p np => fin tp p ntp np⟩
    | dct e a l n =>
      refine ⟨_, rfl, (by show 2 ≤ sizeLine; decide), fun tp ntp => ⟨_, tp, _, _, _, false, rfl, upd_same, .cons (.ty _) (.cons (.ty _) .nil), .base (.dK (same_new ntp _ _ e)), kit_any2 (r1 := false) (r2 := false) (by decide +kernel) (by decide +kernel), _, rfl, iteF ?_⟩⟩
      exact ⟨_, rfl, _, _, _, _, true, rfl, .ty _, .base (.dK (same_new ntp _ _ e)), kit_ty (by decide +kernel), _, rfl, iteT ⟨_, rfl, _, _, rfl, same_new ntp _ _ e, fun p np => fin tp p ntp np⟩⟩
theorem putK_take {kvs : List (Key × V)} (n : (kvs.map (·.1)).Nodup) {i : Nat} {k : Key} {z : V} (e : kvs[i]? = some (k, z)) : putK (kvs.take i) k z = kvs.take (i + 1) := by
  have hi : i < kvs.length := (List.getElem?_eq_some_iff.mp e).1
  have ei : kvs[i] = (k, z) := (List.getElem?_eq_some_iff.mp e).2
  have new : ((kvs.take i).any fun kv => decide (kv.1 = k)) = false := by
    rw [List.any_eq_false]
    intro p hp hq
    obtain ⟨j, hj, ej⟩ := List.mem_take_iff_getElem.mp hp
    have hq : p.1 = k := of_decide_eq_true hq
    have h1 : (kvs.map (·.1))[j]'(by rw [List.length_map]; omega) = k := by rw [List.getElem_map, ej, hq]
    have h2 : (kvs.map (·.1))[i]'(by rw [List.length_map]; omega) = k := by rw [List.getElem_map, ei]
    have h3 := (List.getElem_inj n).mp (h1.trans h2.symm)
    omega
  unfold putK
  rw [new, if_neg (by decide), List.take_add_one, e]
  rfl
theorem scRebuilt : FnScope ["value", "parts", "key", "part"] ["value", "parts"] (defScope sRebuilt) := ⟨rfl, rfl, rfl, by decide +kernel, rfl, by decide +kernel, by decide +kernel⟩
theorem ok_rebuilt {f : Addr} {fd : FuncData} (F : Fun K "rebuilt" "rebuilt" sRebuilt f fd) (T : Blt mg) (md : mg "dict" = none) (mz : mg "zip" = none) : FnOk P w K mg base CX0 1 f fd ["value", "parts"] spRebuilt := by
  refine F.ok scRebuilt (fun vs H Q E h => ?_) (fun cdv A outer s H vs Q E hr h => ?_)
  · obtain ⟨v, us, p, rfl, _⟩ := h
    rfl
  · obtain ⟨v, us, p, rfl, hh, hp, kk⟩ := h
    refine ⟨_, pss_cons (ps_if (pt_val (pe_callB call_isi (by rfl) T.isi (by decide +kernel) (pa_cons (pv 0) (pa_cons (pe_bltn (v := .ty "dict") (by rfl) md (by decide +kernel) rfl) pa_nil))))
        (pss_one (ps_ret (pe_dc (g := gTup K 2 (gCons (gName 2) (gCons (gName 3) gNil))) (tt := tYes) (tk := tVar 2) (tv := tVar 3) (own := [("key", 2), ("part", 3)]) rfl scRebuilt.nd (pi_zip (by rfl) mz (pa_cons (pe_callTy (call_list_dK rfl) (by rfl) T.list (by decide +kernel) (pa_cons (pv 0) pa_nil)) (pa_cons (pv 1) pa_nil)))
          (blkOk_by (own := [("key", 2), ("part", 3)]) (N := ["value", "parts", "key", "part"]) (sc := defScope sRebuilt) (by decide +kernel))
          (fun _ _ _ _ _ => pg_tup (by rfl) (pgs_cons (pg_name (i := 2) scRebuilt.nd rfl (.inl rfl)) (pgs_cons (pg_name (i := 3) scRebuilt.nd rfl (.inl rfl)) pgs_nil))) (fun _ _ _ _ _ => pts_nil) (fun _ _ _ _ _ => pv 2) (fun _ _ _ _ _ => pv 3)))) pss_nil)
      (pss_one (ps_ret (pe_ifExp (pt_val (pe_callB call_isi (by rfl) T.isi (by decide +kernel) (pa_cons (pv 0) (pa_cons (pe_bltn (v := .ty "tuple") (by rfl) T.tuple (by decide +kernel) rfl) pa_nil)))) pe_never (pv 1)))), ?_⟩
    generalize eb : true = bb at hh
    cases hh with
    | flat f => cases eb
    | tup e a l => cases eb
    | lst e a l =>
      refine ⟨_, rfl, _, _, _, _, false, rfl, .ty _, .base (.lst e), kit_ty (by decide +kernel), _, rfl, iteF ?_⟩
      refine ⟨_, rfl, _, _, _, _, false, rfl, .ty _, .base (.lst e), kit_ty (by decide +kernel), _, rfl, iteF ⟨_, rfl, ?_⟩⟩
      exact kk _ H (Same.refl H) (.lst e hp)
    | @dct a kvs e al l n =>
      refine ⟨_, rfl, _, _, _, _, true, rfl, .ty _, .base (.dK e), kit_ty (by decide +kernel), _, rfl, iteT ?_⟩
      refine ⟨_, rfl, a, kvs, rfl, e, fun q nq => ⟨_, rfl, q, p, _, _, rfl, SqL.of upd_same, SqL.of (same_new nq _ _ hp), fun D nD => ?_⟩⟩
      have hq1 := same_new (o := .dK []) nD _ _ (upd_same (H := H) (a := q) (o := .lst (kvs.map fun kv => kV kv.1)))
      have hp1 := same_new (o := .dK []) nD _ _ (same_new (o := .lst (kvs.map fun kv => kV kv.1)) nq _ _ hp)
      have hD1 : upd (upd H q (.lst (kvs.map fun kv => kV kv.1))) D (.dK []) D = some (.dK []) := upd_same
      have nDp : D ≠ p := fun z => by rw [z, same_new nq _ _ hp] at nD; cases nD
      have nDq : D ≠ q := fun z => by rw [z, upd_same] at nD; cases nD
      have s1 : Same H (upd (upd H q (.lst (kvs.map fun kv => kV kv.1))) D (.dK [])) := (same_new nq).trans (same_new nD)
      have nDH : H D = none := Same.gone (same_new nq) nD
      generalize upd (upd H q (.lst (kvs.map fun kv => kV kv.1))) D (.dK []) = H1 at hq1 hp1 hD1 s1
      refine ⟨fun i m G => m = kvs.length - i ∧ i ≤ kvs.length ∧ But D H1 G ∧ G D = some (.dK (kvs.take i)), ⟨_, rfl, Nat.zero_le _, But.refl _ _, hD1⟩, ?_⟩
      rintro i m G ⟨rfl, hi, bt, gD⟩
      have gq := bt _ _ nDq.symm hq1
      have gp := bt _ _ nDp.symm hp1
      by_cases hlt : i < kvs.length
      · right
        have ek : (kvs.map fun kv => kV kv.1)[i]? = some (kV kvs[i].1) := by rw [List.getElem?_map, List.getElem?_eq_getElem hlt]; rfl
        have ev : (kvs.map (·.2))[i]? = some kvs[i].2 := by rw [List.getElem?_map, List.getElem?_eq_getElem hlt]; rfl
        refine ⟨⟨_, _, _, _, SqL.of gq, SqL.of gp, ek, ev⟩, fun G' => But D H1 G' ∧ G' D = some (.dK (kvs.take (i + 1))), fun G' ⟨b2, d2⟩ => ⟨_, by omega, rfl, hlt, b2, d2⟩, fun x G' y => ?_⟩
        obtain ⟨tp, x1, x2, rfl, nt, rfl, h1, h2⟩ := y
        have e1 := h1 _ (SqL.of gq)
        have e2 := h2 _ (SqL.of gp)
        rw [ek] at e1
        rw [ev] at e2
        obtain rfl := Option.some.inj e1
        obtain rfl := Option.some.inj e2
        have gD2 := same_new (o := .tup [kV kvs[i].1, kvs[i].2]) nt _ _ gD
        refine ⟨_, _, rfl, SqT.of upd_same, rfl, _, _, rfl, _, _, rfl, rfl, rfl, ?_⟩
        refine ⟨_, rfl, _, rfl, _, kvs[i].1, rfl, gD2, ?_, ?_, ?_⟩
        · rw [List.length_take]
          exact Nat.lt_of_le_of_lt (show _ ≤ 900 by omega) (by rw [sizeLine_eq]; decide)
        · exact bt.trans ((Same.but (same_new nt)).trans But.upd_at)
        · rw [upd_same, show putK (kvs.take i) kvs[i].1 kvs[i].2 = kvs.take (i + 1) from putK_take n (by rw [List.getElem?_eq_getElem hlt])]
      · left
        have ei : i = kvs.length := by omega
        refine ⟨⟨_, _, SqL.of gq, SqL.of gp, .inl (by rw [List.length_map]; omega)⟩, ?_⟩
        rw [ei, List.take_length] at gD
        exact kk _ G (fun b o z => bt _ _ (ne_of_none z nDH) (s1 _ _ z)) (.dct e gD)
end
end Ev
namespace Ev
open PySem L2 PySem.Spec PyProof.Rows RZ
theorem Alike.from {H H1 H' : Hp} {v v' : V} (k : Same H H1) (us : List V) (h : Hold H v us true) (a : Alike H1 v H' v') : Alike H v H' v' := by
  cases a with
  | same => exact .same
  | lst e1 e2 =>
    generalize eb : true = bb at h
    cases h with
    | flat f => cases eb
    | tup e a l => cases eb
    | lst e a l => rw [k _ _ e] at e1; cases e1; exact .lst e e2
    | dct e a l n => rw [k _ _ e] at e1; cases e1
  | dct e1 e2 =>
    generalize eb : true = bb at h
    cases h with
    | flat f => cases eb
    | tup e a l => cases eb
    | lst e a l => rw [k _ _ e] at e1; cases e1
    | dct e a l n => rw [k _ _ e] at e1; cases e1; exact .dct e e2
theorem flat_hold {H : Hp} {us : List V} (h : AllFlat us) {j : Nat} {u : V} (e : us[j]? = some u) : Hold H u [] false := by
  obtain ⟨T, f⟩ := h u (List.mem_of_getElem? e)
  exact .flat f
/-- the marks of the things -/
def marks (b : Bool) (n : Nat) : List Bool := b :: List.replicate n false
theorem marks_at {b : Bool} {n j : Nat} (h : j < n) : (marks b n)[j + 1]? = some false := by
  show (List.replicate n false)[j]? = some false
  rw [List.getElem?_replicate, if_pos h]
theorem ends_at {m n j : Nat} (h : j < m) : (List.replicate m (V.int (1 + (n : Int))))[j]? = some (V.int (1 + (n : Int))) := by
  rw [List.getElem?_replicate, if_pos h]
theorem cut_tail {x : V} {ys : List V} : cutV (x :: ys) (some 1) (some (1 + (ys.length : Int))) = ys := by
  unfold cutV
  have h1 : HT.sIx (x :: ys).length 0 (some 1) = 1 := by
    have := HT.sIx_nat (x :: ys).length 0 1
    rw [List.length_cons] at this ⊢
    rw [show ((1 : Nat) : Int) = 1 from rfl] at this
    rw [this]; omega
  have h2 : HT.sIx (x :: ys).length (x :: ys).length (some (1 + (ys.length : Int))) = ys.length + 1 := by
    have := HT.sIx_nat (x :: ys).length (x :: ys).length (ys.length + 1)
    rw [show ((ys.length + 1 : Nat) : Int) = 1 + (ys.length : Int) by omega] at this
    rw [this, List.length_cons]; omega
  rw [h1, h2, show (x :: ys).drop 1 = ys from rfl, show ys.length + 1 - 1 = ys.length by omega, List.take_length]
theorem cut_none {xs : List V} {h : Option Int} : cutV xs h h = [] ∨ h = none := by
  cases h with
  | none => exact .inr rfl
  | some k =>
    left
    unfold cutV
    have e : HT.sIx xs.length xs.length (some k) = HT.sIx xs.length 0 (some k) := rfl
    rw [e, Nat.sub_self, List.take_zero]
theorem cut_void {xs : List V} {k : Int} : cutV xs (some k) (some k) = [] := by
  rcases cut_none (xs := xs) (h := some k) with e | e
  · exact e
  · cases e
theorem ix_first {x : V} {ys : List V} : ixN (x :: ys).length 0 = some 0 := by
  unfold ixN
  rw [List.length_cons]
  simp
theorem any_none (n : Nat) : (List.replicate n false).any id = false := by
  rw [List.any_eq_false]
  intro x hx
  rw [List.eq_of_mem_replicate hx]
  decide
theorem Alike.put {H G : Hp} {v v' : V} {m : Addr} {xs : List V} {us : List V} (h : Alike H v G v') (hv : Hold H v us true) (hm : G m = some (.lst xs)) (nl : xs.length = us.length + 1) {o : HO} : Alike H v (upd G m o) v' := by
  cases h with
  | same => exact .same
  | lst e1 e2 =>
    refine .lst e1 ?_
    rw [upd_ne]
    · exact e2
    · intro z
      rw [z, hm] at e2
      cases e2
      generalize eb : true = bb at hv
      cases hv with
      | flat f => cases eb
      | tup e a l => cases eb
      | lst e a l => rw [e] at e1; cases e1; omega
      | dct e a l n => rw [e] at e1; cases e1
  | dct e1 e2 =>
    refine .dct e1 ?_
    rw [upd_ne]
    · exact e2
    · intro z
      rw [z, hm] at e2
      cases e2
abbrev sFlat : Stmt := sIsFlat
abbrev sCopied : Stmt := sCopiedDeep
theorem scCopied : FnScope ["value", "things", "ends", "at", "made", "loose", "place", "first", "end", "thing"] ["value"] (defScope sCopied) := ⟨rfl, rfl, rfl, by decide +kernel, rfl, by decide +kernel, by decide +kernel⟩
theorem scFlat : FnScope ["value", "part"] ["value"] (defScope sFlat) := ⟨rfl, rfl, rfl, by decide +kernel, rfl, by decide +kernel, by decide +kernel⟩
theorem kit_any3 {K : PySem.W.Frag} {T a b c : String} {r1 r2 r3 : Bool} (h1 : kitB T a = some r1) (h2 : kitB T b = some r2) (h3 : kitB T c = some r3) : PySem.W.kitAny K (.type T) [.type a, .type b, .type c] = some (r1 || (r2 || r3)) := by
  refine kitAny_cons (kit_ty h1) (fun e => ?_) (fun e => by rw [e]; rfl)
  rw [e]
  exact (kit_any2 h2 h3).trans rfl
def spFlat : Sp := fun vs H Q _ => ∃ (a : Addr) (us : List V), vs = [.ref a] ∧ H a = some (.tup us) ∧ AllFlat us ∧ us.length ≤ 900 ∧ ∀ H', Same H H' → Q (.bl true) H'
section
variable {P : Program} {w : World} {K : PySem.W.Frag} {mg : Str → Option Value} {base : Heap}
theorem ok_copied {f : Addr} {fd : FuncData} (F : Fun K "copied_deep" "copied_deep" sCopied f fd) (T : Blt mg) (md : mg "dict" = none) (ma : mg "any" = none) (D : Df P w K mg base 1 "parts_of" ["value"] spPartsV) (D2 : Df P w K mg base 1 "rebuilt" ["value", "parts"] spRebuilt) : FnOk P w K mg base CX0 2 f fd ["value"] spKeptV := by
  obtain ⟨f1, fd1, G1, g1, k1, b1⟩ := D.ex
  obtain ⟨f2, fd2, G2, g2, k2, b2⟩ := D2.ex
  refine F.ok scCopied (fun vs H Q E h => ?_) (fun cdv A outer s H vs Q E hr h => ?_)
  · obtain ⟨v, us, b, rfl, _⟩ := h
    rfl
  · obtain ⟨v, us, b, rfl, hh, kk⟩ := h
    refine ⟨_, pss_cons (ps_set (i := 1) scCopied.nd rfl (.inl rfl) (pe_lst (pa_cons (pv 0) pa_nil)))
      (pss_cons (ps_set (i := 2) scCopied.nd rfl (.inl rfl) (pe_lst pa_nil))
      (pss_cons (ps_set (i := 3) scCopied.nd rfl (.inl rfl) pe_int)
      (pss_cons (ps_while PassesOwn.never (pt_cmpR op_lt (pv 3) (pe_callB call_len_seq (by rfl) T.len PySem.boot_len (pa_cons (pv 1) pa_nil)) (nomark _))
        (pss_cons (ps_expr (pe_bm PySem.F.plainAttrs_list PySem.F.slot_list_extend PySem.F.type_list_extend mt_extend (pv 1) (pa_cons (pe_callTy call_list_of (by rfl) T.list (by decide +kernel) (pa_cons (pe_call G1 hr (by rfl) g1 k1 b1 .nil pass0 (pa_cons (pe_ix ix_list (pv 1) (pv 3) (fun _ _ => rfl)) pa_nil)) pa_nil)) pa_nil)))
        (pss_cons (ps_expr (pe_bm PySem.F.plainAttrs_list PySem.F.slot_list_append PySem.F.type_list_append mt_append (pv 2) (pa_cons (pe_callB call_len_seq (by rfl) T.len PySem.boot_len (pa_cons (pv 1) pa_nil)) pa_nil)))
        (pss_one (ps_aug (i := 3) scCopied.nd rfl (.inl rfl) pe_int ip_add)))))
      (pss_cons (ps_set (i := 4) scCopied.nd rfl (.inl rfl) (pe_callTy call_list_of (by rfl) T.list (by decide +kernel) (pa_cons (pv 1) pa_nil)))
      (pss_cons (ps_setLc (i := 5) (te := tCB (rIsiT K) (tCons (tVar 9) (tCons (tTup (tCons (tC (.ty "list")) (tCons (tC (.ty "dict")) tNil))) tNil))) (own := [("thing", 9)]) (g := gName 9) (by rfl) scCopied.nd rfl rfl (sw_true rfl rfl rfl (by decide +kernel)) (pi_list (pv 1))
          (blkOk_by (own := [("thing", 9)]) (N := ["value", "things", "ends", "at", "made", "loose", "place", "first", "end", "thing"]) (sc := defScope sCopied) (by decide +kernel))
          (fun _ _ _ _ _ => pg_name (i := 9) scCopied.nd rfl (.inl rfl)) (fun _ _ _ _ _ => pts_nil)
          (fun _ _ _ _ _ => pe_callB (id := "isinstance") call_isiT (by rfl) T.isi (by decide +kernel) (pa_cons (pv 9) (pa_cons (pe_tup (pa_cons (pe_bltn (v := .ty "list") (by rfl) T.list (by decide +kernel) rfl) (pa_cons (pe_bltn (v := .ty "dict") (by rfl) md (by decide +kernel) rfl) pa_nil))) pa_nil))))
      (pss_cons (ps_for PassesOwn.never rfl (pi_range3 rfl T.range (pa_cons (pe_op op_sub (pe_callB call_len_seq (by rfl) T.len PySem.boot_len (pa_cons (pv 1) pa_nil)) pe_int) (pa_cons (pe_un un_neg pe_int) (pa_cons (pe_un un_neg pe_int) pa_nil)))) (pg_name (i := 6) scCopied.nd rfl (.inl rfl))
        (pss_cons (ps_par (i := 7) (j := 8) rfl scCopied.nd rfl rfl (by decide) rfl rfl (pa_cons (pe_ifExp (pt_cmpR op_gt (pv 6) pe_int (nomark _)) (pe_ix ix_list (pv 2) (pe_op op_sub (pv 6) pe_int) (fun _ _ => rfl)) pe_int) (pa_cons (pe_ix ix_list (pv 2) (pv 6) (fun _ _ => rfl)) pa_nil)) (by rfl))
        (pss_cons (ps_if (pt_val (pe_callB (cr_any rfl) (by rfl) ma (by decide +kernel) (pa_cons (pe_slice sl_list (pv 5) (po_some (pv 7)) (po_some (pv 8))) pa_nil))) (pss_one ps_never) pss_nil)
        (pss_one (ps_if (pt_val (pe_ix ix_list (pv 5) (pv 6) (fun _ _ => rfl)))
          (pss_one (ps_asg (pe_call G2 hr (by rfl) g2 k2 b2 .nil pass0 (pa_cons (pe_ix ix_list (pv 1) (pv 6) (fun _ _ => rfl)) (pa_cons (pe_slice sl_list (pv 4) (po_some (pv 7)) (po_some (pv 8))) pa_nil))) (pg_sub (pv 4) (pv 6) set_list))) pss_nil)))))
      (pss_one (ps_ret (pe_ix ix_list (pv 4) pe_int (fun _ _ => rfl)))))))))), ?_⟩
    have hlen := hh.len
    have hit := hh.items
    have z1000 : ∀ {n : Nat}, n ≤ 902 → n ≤ sizeLine := fun h => Nat.le_trans h (by rw [sizeLine_eq]; decide)
    refine ⟨_, rfl, (by show 1 ≤ sizeLine; decide), fun t nt => ⟨(by show 0 ≤ sizeLine; decide), fun e ne => ?_⟩⟩
    have te : e ≠ t := fun z => by rw [z, upd_same] at ne; cases ne
    have s2 : Same H (upd (upd H t (.lst [v])) e (.lst [])) := (same_new nt).trans (same_new ne)
    have ht2 : upd (upd H t (.lst [v])) e (.lst []) t = some (.lst [v]) := same_new ne _ _ upd_same
    have he2 : upd (upd H t (.lst [v])) e (.lst []) e = some (.lst []) := upd_same
    have nte : H e = none := Same.gone (same_new nt) ne
    generalize upd (upd H t (.lst [v])) e (.lst []) = H2 at s2 ht2 he2 ⊢
    -- the walk over the things
    refine ⟨fun m σ H' => (m = us.length + 1 ∧ σ = [some v, some (.ref t), some (.ref e), some (.int 0), none, none, none, none, none, none] ∧ H' = H2) ∨
      (∃ k, k ≤ us.length ∧ m = us.length - k ∧ σ = [some v, some (.ref t), some (.ref e), some (.int (1 + (k : Int))), none, none, none, none, none, none] ∧ H' t = some (.lst (v :: us)) ∧ H' e = some (.lst (List.replicate (1 + k) (V.int (1 + (us.length : Int))))) ∧ Same H H'), ⟨_, .inl ⟨rfl, rfl, rfl⟩⟩, fun m σ H' h => ?_⟩
    rcases h with ⟨rfl, rfl, rfl⟩ | ⟨k, hk, rfl, rfl, ht, he, sm⟩
    · refine ⟨_, rfl, _, rfl, t, _, rfl, .inl (SqL.of ht2), _, _, rfl, rfl, _, rfl, ite2 (fun _ => ?_) (fun z => absurd (decide_eq_true (show (0 : Int) < ((1 : Nat) : Int) by decide)) z)⟩
      refine ⟨fun σ H' => σ = [some v, some (.ref t), some (.ref e), some (.int (1 + ((0 : Nat) : Int))), none, none, none, none, none, none] ∧ H' t = some (.lst (v :: us)) ∧ H' e = some (.lst (List.replicate (1 + 0) (V.int (1 + (us.length : Int))))) ∧ Same H H', fun σ' H' q => ⟨us.length, by omega, .inr ⟨0, Nat.zero_le _, rfl, q⟩⟩, ?_⟩
      refine ⟨_, rfl, .inl ⟨rfl, _, SqL.of ht2⟩, _, rfl, _, rfl, t, _, 0, v, rfl, rfl, SqL.of ht2, atI_nat (j := 0) rfl, v, us, b, rfl, hh.keep s2, fun p0 H30 np0 s30 hp0 => ⟨p0, _, rfl, .inl (SqL.of hp0), fun p np => ?_⟩⟩
      have s3 : Same H' (upd H30 p (.lst us)) := s30.trans (same_new np)
      have hp : upd H30 p (.lst us) p = some (.lst us) := upd_same
      generalize upd H30 p (.lst us) = H3 at s3 hp ⊢
      refine ⟨t, p, _, _, rfl, rfl, s3 _ _ ht2, hp, z1000 (by show 1 + us.length ≤ 902; omega), ?_⟩
      have he3 : upd H3 t (.lst ([v] ++ us)) e = some (.lst []) := by rw [upd_ne te]; exact s3 _ _ he2
      refine ⟨_, rfl, .inl ⟨rfl, _, SqL.of he3⟩, _, rfl, t, [v] ++ us, rfl, .inl (SqL.of upd_same), e, _, _, rfl, rfl, he3, (by show 0 < sizeLine; decide), ?_⟩
      refine ⟨_, rfl, _, _, rfl, rfl, rfl, ?_, ?_, fun b o q => ?_⟩
      · rw [upd_ne te.symm]; exact upd_same
      · have e1 : ((([v] ++ us).length : Nat) : Int) = 1 + (us.length : Int) := by rw [List.length_append, List.length_singleton]; omega
        rw [upd_same, e1]; rfl
      · rw [upd_ne (ne_of_none q nte), upd_ne (ne_of_none q nt)]
        exact s3 _ _ (s2 _ _ q)
    · by_cases hlt : k < us.length
      · have hge : (v :: us)[1 + k]? = some us[k] := by rw [Nat.add_comm]; exact List.getElem?_eq_getElem hlt
        have hix : atI (v :: us) (1 + (k : Int)) = some us[k] := by
          have := atI_nat (xs := v :: us) (j := 1 + k) hge
          rw [show ((1 + k : Nat) : Int) = 1 + (k : Int) by omega] at this
          exact this
        refine ⟨_, rfl, _, rfl, t, _, rfl, .inl (SqL.of ht), _, _, rfl, rfl, _, rfl, ite2 (fun _ => ?_) (fun z => absurd (decide_eq_true (show (1 + (k : Int)) < (((v :: us).length : Nat) : Int) by rw [List.length_cons]; omega)) z)⟩
        refine ⟨fun σ H' => σ = [some v, some (.ref t), some (.ref e), some (.int (1 + ((k + 1 : Nat) : Int))), none, none, none, none, none, none] ∧ H' t = some (.lst (v :: us)) ∧ H' e = some (.lst (List.replicate (1 + (k + 1)) (V.int (1 + (us.length : Int))))) ∧ Same H H', fun σ' H' q => ⟨us.length - (k + 1), by omega, .inr ⟨k + 1, hlt, rfl, q⟩⟩, ?_⟩
        refine ⟨_, rfl, .inl ⟨rfl, _, SqL.of ht⟩, _, rfl, _, rfl, t, _, _, us[k], rfl, rfl, SqL.of ht, hix, us[k], [], false, rfl, flat_hold hit (List.getElem?_eq_getElem hlt), fun p0 H30 np0 s30 hp0 => ⟨p0, _, rfl, .inl (SqL.of hp0), fun p np => ?_⟩⟩
        have s3 : Same H' (upd H30 p (.lst [])) := s30.trans (same_new np)
        have hp : upd H30 p (.lst []) p = some (.lst []) := upd_same
        generalize upd H30 p (.lst []) = H3 at s3 hp ⊢
        refine ⟨t, p, _, _, rfl, rfl, s3 _ _ ht, hp, z1000 (by show (v :: us).length + 0 ≤ 902; rw [List.length_cons]; omega), ?_⟩
        have he3 : upd H3 t (.lst ((v :: us) ++ [])) e = some (.lst (List.replicate (1 + k) (V.int (1 + (us.length : Int))))) := by rw [upd_ne te]; exact s3 _ _ he
        refine ⟨_, rfl, .inl ⟨rfl, _, SqL.of he3⟩, _, rfl, t, (v :: us) ++ [], rfl, .inl (SqL.of upd_same), e, _, _, rfl, rfl, he3, Nat.lt_of_lt_of_le (show (List.replicate (1 + k) (V.int (1 + (us.length : Int)))).length < 902 by rw [List.length_replicate]; omega) (z1000 (Nat.le_refl _)), ?_⟩
        refine ⟨_, rfl, _, _, rfl, rfl, ?_, ?_, ?_, fun b o q => ?_⟩
        · have e5 : (1 + (k : Int)) + 1 = 1 + ((k + 1 : Nat) : Int) := by omega
          show List.set _ 3 (some (V.int ((1 + (k : Int)) + 1))) = _
          rw [e5]; rfl
        · rw [upd_ne te.symm, upd_same, List.append_nil]
        · have e1 : ((((v :: us) ++ []).length : Nat) : Int) = 1 + (us.length : Int) := by rw [List.append_nil, List.length_cons]; omega
          rw [upd_same, e1, show 1 + (k + 1) = (1 + k) + 1 by omega, List.replicate_succ' (n := 1 + k)]
        · have e3 := s3 _ _ (sm _ _ q)
          rw [upd_ne (ne_of_none q nte), upd_ne (ne_of_none q nt)]
          exact e3
      · obtain rfl : k = us.length := by omega
        refine ⟨_, rfl, _, rfl, t, _, rfl, .inl (SqL.of ht), _, _, rfl, rfl, _, rfl, ite2 (fun z => absurd (of_decide_eq_true z) (show ¬ ((1 + (us.length : Int)) < (((v :: us).length : Nat) : Int)) by rw [List.length_cons]; omega)) (fun _ => ?_)⟩
        refine ⟨_, rfl, t, _, rfl, .inl (SqL.of ht), fun md nmd => ?_⟩
        have ht3 := same_new (o := .lst (v :: us)) nmd _ _ ht
        have he3 := same_new (o := .lst (v :: us)) nmd _ _ he
        have hm3 : upd H' md (.lst (v :: us)) md = some (.lst (v :: us)) := upd_same
        have sm3 := sm.trans (same_new (o := .lst (v :: us)) nmd)
        have nmH : H md = none := Same.gone sm nmd
        generalize upd H' md (.lst (v :: us)) = H3 at ht3 he3 hm3 sm3 ⊢
        refine ⟨_, rfl, t, rfl, ⟨_, SqL.of ht3⟩, fun D nD => ?_⟩
        refine lc_list (K := K) (a := t) (xs := v :: us) (fun i H' => H' D = some (.lst (((marks b us.length).take i).map V.bl)) ∧ But D H3 H') ⟨upd_same, But.upd_at⟩ (fun i H' _ q => SqL.of (q.2 _ _ (ne_of_none ht3 nD) ht3)) (fun i y H' hi ⟨e1, e2⟩ => ?_) (fun H' ⟨e1, e2⟩ => ?_)
        · have hil : i < us.length + 1 := (List.getElem?_eq_some_iff.mp hi).1
          obtain ⟨TT, r, hr1, ty, kit⟩ : ∃ (TT : String) (r : Bool), (marks b us.length)[i]? = some r ∧ (∀ (K : PySem.W.Frag) (G : Hp), Same H' G → TyX K G y (.type TT)) ∧ PySem.W.kitAny K (.type TT) [.type "list", .type "dict"] = some r := by
            cases i with
            | zero =>
              obtain rfl : v = y := Option.some.inj hi
              obtain ⟨TT, ty, b1, b2, b3, f1, f2, f3, eb⟩ := hh.ty
              refine ⟨TT, b, rfl, fun K G k => ty K G fun c o q => k _ _ (e2 _ _ (ne_of_none (sm3 _ _ q) nD) (sm3 _ _ q)), ?_⟩
              rw [eb]; exact kit_any2 f1 f3
            | succ j =>
              obtain ⟨TT, f⟩ := hit y (List.mem_of_getElem? (show us[j]? = some y from hi))
              exact ⟨TT, false, marks_at (by omega), fun K G _ => f.ty K G, kit_any2 f.l f.d⟩
          refine ⟨rfl, _, rfl, (by show 2 ≤ sizeLine; decide), fun tp ntp => ⟨y, tp, _, _, _, r, rfl, upd_same, .cons (.ty _) (.cons (.ty _) .nil), ty _ _ (same_new ntp), kit, _, same_new ntp _ _ e1, ?_, ?_, ?_⟩⟩
          · refine Nat.lt_of_lt_of_le (show _ < 902 from ?_) (z1000 (Nat.le_refl _))
            rw [List.length_map, List.length_take]; omega
          · rw [upd_same, List.take_add_one, hr1, List.map_append]; rfl
          · exact (e2.trans (Same.but (same_new ntp))).trans But.upd_at
        · have eM : (marks b us.length).take (v :: us).length = marks b us.length := by
            rw [List.take_of_length_le]
            show (List.replicate us.length false).length + 1 ≤ us.length + 1
            rw [List.length_replicate]; exact Nat.le_refl _
          rw [eM] at e1
          have s4 : Same H3 H' := fun b o q => e2 b o (ne_of_none q nD) q
          have ht4 := s4 _ _ ht3
          have he4 := s4 _ _ he3
          have hm4 := s4 _ _ hm3
          have s04 := sm3.trans s4
          have nDH : H D = none := Same.gone sm3 nD
          have lenI : ((((v :: us).length : Nat) : Int)) - 1 = (us.length : Int) := by rw [List.length_cons]; omega
          refine ⟨_, rfl, t, _, rfl, .inl (SqL.of ht4), _, _, rfl, rfl, _, rfl, _, rfl, (us.length : Int), -1, -1, us.length + 1, ?_, ?_, ?_⟩
          · show [V.int (((((v :: us).length : Nat) : Int)) - 1), V.int (-1), V.int (-1)] = _
            rw [lenI]
          · have h := RgC.neg (i := (us.length : Int)) (j := -1) (by omega) (by omega) (by decide) (by decide)
            rw [show ((us.length : Int) - -1).toNat = us.length + 1 by omega] at h
            exact h
          refine for_rangeC (lo := (us.length : Int)) (c := -1) (n := us.length + 1) (fun i σ H5 => (∃ v6 v7 v8 v9 : Option V, σ = [some v, some (.ref t), some (.ref e), some (.int (1 + (us.length : Int))), some (.ref md), some (.ref D), v6, v7, v8, v9]) ∧
            (i ≤ us.length → Same H' H5) ∧ (i = us.length + 1 → Same H H5 ∧ ∃ v', H5 md = some (.lst (v' :: us)) ∧ Alike H v H5 v')) ⟨⟨none, none, none, none, rfl⟩, fun _ => Same.refl _, fun z => by omega⟩ ?_ ?_
          · rintro i σ H5 hi ⟨⟨v6, v7, v8, v9, rfl⟩, u5, _⟩
            have s5 := u5 (by omega)
            clear u5
            have he5 := s5 _ _ he4
            have hD5 := s5 _ _ e1
            by_cases hlast : i = us.length
            · subst hlast
              have e0 : (us.length : Int) + ((us.length : Nat) : Int) * -1 = 0 := by omega
              rw [e0]
              refine ⟨_, rfl, _, _, rfl, rfl, _, rfl, ite2 (fun z => absurd (of_decide_eq_true z) (show ¬ ((0 : Int) < 0) by decide)) (fun _ => ?_)⟩
              refine ⟨_, rfl, _, rfl, e, _, _, _, rfl, rfl, SqL.of he5, atI_nat (j := 0) (ends_at (m := 1 + us.length) (by omega)), _, _, rfl, ?_⟩
              refine ⟨_, rfl, _, rfl, _, rfl, _, rfl, _, rfl, D, _, rfl, SqL.of hD5, fun sl nsl => ?_⟩
              have ecut : cutV ((marks b us.length).map V.bl) (some 1) (some (1 + (us.length : Int))) = (List.replicate us.length false).map V.bl := by
                have := cut_tail (x := V.bl b) (ys := (List.replicate us.length false).map V.bl)
                rw [List.length_map, List.length_replicate] at this
                exact this
              rw [ecut]
              refine ⟨sl, List.replicate us.length false, rfl, SqL.of upd_same, _, rfl, ?_⟩
              rw [any_none]
              refine iteF ?_
              have s6 := s5.trans (same_new (o := .lst ((List.replicate us.length false).map V.bl)) nsl)
              generalize upd H5 sl (.lst ((List.replicate us.length false).map V.bl)) = H6 at s6
              refine ⟨_, rfl, _, rfl, D, _, _, _, rfl, rfl, SqL.of (s6 _ _ e1), atI_nat (j := 0) rfl, _, rfl, ?_⟩
              cases b with
              | false => exact iteF ⟨⟨_, _, _, _, rfl⟩, fun z => by omega, fun _ => ⟨s04.trans s6, v, s6 _ _ hm4, .same⟩⟩
              | true =>
                refine iteT ⟨_, rfl, _, rfl, t, _, _, _, rfl, rfl, SqL.of (s6 _ _ ht4), atI_nat (j := 0) rfl, _, rfl, _, rfl, _, rfl, _, rfl, _, rfl, md, _, rfl, SqL.of (s6 _ _ hm4), fun q nq => ?_⟩
                rw [cut_tail]
                have s7 := s6.trans (same_new (o := .lst us) nq)
                have hq : upd H6 q (.lst us) q = some (.lst us) := upd_same
                generalize upd H6 q (.lst us) = H7 at s7 hq
                refine ⟨v, us, q, rfl, hh.keep (s04.trans s7), hq, fun v' H8 s8 al => ?_⟩
                have hm8 := s8 _ _ (s7 _ _ hm4)
                refine ⟨_, rfl, _, rfl, md, _, _, 0, rfl, rfl, hm8, ix_first, ?_⟩
                refine ⟨⟨_, _, _, _, rfl⟩, fun z => by omega, fun _ => ⟨fun c o z => ?_, v', upd_same, (al.from (s04.trans s7) us hh).put hh hm8 rfl⟩⟩
                rw [upd_ne (ne_of_none z nmH)]
                exact s8 _ _ (s7 _ _ (s04 _ _ z))
            · have hi2 : i < us.length := by omega
              obtain ⟨j, ej⟩ : ∃ j : Nat, us.length = i + j + 1 := ⟨us.length - i - 1, by omega⟩
              have e0 : (us.length : Int) + ((i : Nat) : Int) * -1 = ((j + 1 : Nat) : Int) := by omega
              rw [e0]
              have e9 : ((j + 1 : Nat) : Int) - 1 = ((j : Nat) : Int) := by omega
              refine ⟨_, rfl, _, _, rfl, rfl, _, rfl, ite2 (fun _ => ?_) (fun z => absurd (decide_eq_true (show (0 : Int) < ((j + 1 : Nat) : Int) by omega)) z)⟩
              have hfst : atI (List.replicate (1 + us.length) (V.int (1 + (us.length : Int)))) (((j + 1 : Nat) : Int) - 1) = some (V.int (1 + (us.length : Int))) := by
                rw [e9]
                exact atI_nat (ends_at (m := 1 + us.length) (by omega))
              refine ⟨_, rfl, _, rfl, _, _, rfl, rfl, e, _, _, V.int (1 + (us.length : Int)), rfl, rfl, SqL.of he5, hfst, ?_⟩
              refine ⟨_, rfl, _, rfl, e, _, _, _, rfl, rfl, SqL.of he5, atI_nat (j := j + 1) (ends_at (m := 1 + us.length) (by omega)), _, _, rfl, ?_⟩
              refine ⟨_, rfl, _, rfl, _, rfl, _, rfl, _, rfl, D, _, rfl, SqL.of hD5, fun sl nsl => ?_⟩
              rw [cut_void]
              refine ⟨sl, [], rfl, SqL.of upd_same, _, rfl, iteF ?_⟩
              refine ⟨_, rfl, _, rfl, D, _, _, _, rfl, rfl, SqL.of (same_new nsl _ _ hD5), atI_nat (j := j + 1) (show ((marks b us.length).map V.bl)[j + 1]? = some (V.bl false) by rw [List.getElem?_map, marks_at (by omega)]; rfl), _, rfl, iteF ?_⟩
              exact ⟨⟨_, _, _, _, rfl⟩, fun _ => s5.trans (same_new nsl), fun z => by omega⟩
          · rintro σ H5 ⟨⟨v6, v7, v8, v9, rfl⟩, _, s5⟩
            obtain ⟨s5, v', hm5, al⟩ := s5 rfl
            exact ⟨_, rfl, md, _, 0, v', rfl, rfl, SqL.of hm5, atI_nat (j := 0) rfl, kk _ H5 s5 al⟩
theorem ok_flat {f : Addr} {fd : FuncData} (F : Fun K "is_flat" "is_flat" sFlat f fd) (T : Blt mg) (md : mg "dict" = none) : FnOk P w K mg base CX0 2 f fd ["value"] spFlat := by
  refine F.ok scFlat (fun vs H Q E h => ?_) (fun cdv A outer s H vs Q E hr h => ?_)
  · obtain ⟨a, us, rfl, _⟩ := h
    rfl
  · obtain ⟨a, us, rfl, ha, af, hn, k⟩ := h
    refine ⟨_, pss_cons (ps_for PassesOwn.never rfl (pi_tup (pv 0)) (pg_name (i := 1) scFlat.nd rfl (.inl rfl))
        (pss_one (ps_if (pt_val (pe_callB call_isiT (by rfl) T.isi (by decide +kernel) (pa_cons (pv 1) (pa_cons (pe_tup (pa_cons (pe_bltn (v := .ty "list") (by rfl) T.list (by decide +kernel) rfl) (pa_cons (pe_bltn (v := .ty "tuple") (by rfl) T.tuple (by decide +kernel) rfl) (pa_cons (pe_bltn (v := .ty "dict") (by rfl) md (by decide +kernel) rfl) pa_nil)))) pa_nil)))) (pss_one ps_never) pss_nil)))
      (pss_one (ps_ret pe_bl)), ?_⟩
    refine ⟨_, rfl, a, rfl, ⟨_, SqT.of ha⟩, ?_⟩
    refine for_it (walk_tup (K := K) (a := a) (xs := us)) (fun i σ G => Same H G ∧ ∃ z, σ = [some (.ref a), z]) ⟨Same.refl _, _, rfl⟩ (fun i σ G _ h => SqT.of (h.1 _ _ ha)) (fun i v σ G2 G3 hi h y => ?_) (fun σ G h => ?_)
    · obtain ⟨s2, z, rfl⟩ := h
      obtain ⟨rfl, hx⟩ := y
      obtain ⟨TT, fl⟩ := af v (List.mem_of_getElem? hx)
      exact ⟨_, rfl, (by show 3 ≤ sizeLine; decide), fun tp ntp => ⟨v, tp, _, _, _, false, rfl, upd_same, .cons (.ty _) (.cons (.ty _) (.cons (.ty _) .nil)), fl.ty _ _, kit3 fl.l fl.t fl.d, _, rfl, iteF ⟨s2.trans (same_new ntp), _, rfl⟩⟩⟩
    · obtain ⟨s2, z, rfl⟩ := h
      exact k G s2
theorem ok_keptV {f : Addr} {fd : FuncData} (F : Fun K "kept" "kept" sKept f fd) (T : Blt mg) (md : mg "dict" = none) (D : Df P w K mg base 2 "is_flat" ["value"] spFlat) (D2 : Df P w K mg base 2 "copied_deep" ["value"] spKeptV) : FnOk P w K mg base CX0 3 f fd ["value"] spKeptV := by
  obtain ⟨f1, fd1, G1, g1, k1, b1⟩ := D.ex
  obtain ⟨f2, fd2, G2, g2, k2, b2⟩ := D2.ex
  refine F.ok scKept (fun vs H Q E h => ?_) (fun cdv A outer s H vs Q E hr h => ?_)
  · obtain ⟨v, us, b, rfl, _⟩ := h
    rfl
  · obtain ⟨v, us, b, rfl, hh, kk⟩ := h
    refine ⟨_, pss_cons (ps_if (pt_not (pt_val (pe_callB call_isiT (by rfl) T.isi (by decide +kernel) (pa_cons (pv 0) (pa_cons (pe_tup (pa_cons (pe_bltn (v := .ty "list") (by rfl) T.list (by decide +kernel) rfl) (pa_cons (pe_bltn (v := .ty "tuple") (by rfl) T.tuple (by decide +kernel) rfl) (pa_cons (pe_bltn (v := .ty "dict") (by rfl) md (by decide +kernel) rfl) pa_nil)))) pa_nil))))) (pss_one (ps_ret (pv 0))) pss_nil)
      (pss_cons (ps_if (PW.pt (pw_and (pt_val (pe_callB call_isi (by rfl) T.isi (by decide +kernel) (pa_cons (pv 0) (pa_cons (pe_bltn (v := .ty "tuple") (by rfl) T.tuple (by decide +kernel) rfl) pa_nil)))) (pw_and1 (pt_val (pe_call G1 hr (by rfl) g1 k1 b1 .nil pass0 (pa_cons (pv 0) pa_nil)))))) (pss_one (ps_ret (pv 0))) pss_nil)
      (pss_one (ps_ret (pe_call G2 hr (by rfl) g2 k2 b2 .nil pass0 (pa_cons (pv 0) pa_nil))))), ?_⟩
    cases hh with
    | @flat v TT fl =>
      refine ⟨_, rfl, (by show 3 ≤ sizeLine; decide), fun tp ntp => ⟨v, tp, _, _, _, false, rfl, upd_same, .cons (.ty _) (.cons (.ty _) (.cons (.ty _) .nil)), fl.ty _ _, kit3 fl.l fl.t fl.d, _, rfl, iteT ⟨_, rfl, ?_⟩⟩⟩
      exact kk _ _ (same_new ntp) .same
    | @tup a us e al l =>
      refine ⟨_, rfl, (by show 3 ≤ sizeLine; decide), fun tp ntp => ⟨_, tp, _, _, _, true, rfl, upd_same, .cons (.ty _) (.cons (.ty _) (.cons (.ty _) .nil)), .base (.tup (same_new ntp _ _ e)), kit_any3 (r1 := false) (r2 := true) (r3 := false) (by decide +kernel) (by decide +kernel) (by decide +kernel), _, rfl, iteF ?_⟩⟩
      have e1 := same_new (o := .tup [.ty "list", .ty "tuple", .ty "dict"]) ntp _ _ e
      refine ⟨_, rfl, _, _, _, _, true, rfl, .ty _, .base (.tup e1), kit_ty (by decide +kernel), _, rfl, iteT ?_⟩
      refine ⟨_, rfl, a, us, rfl, e1, al, l, fun H' s' => ⟨_, rfl, iteT ⟨_, rfl, ?_⟩⟩⟩
      exact kk _ _ ((same_new ntp).trans s') .same
    | @lst a us e al l =>
      refine ⟨_, rfl, (by show 3 ≤ sizeLine; decide), fun tp ntp => ⟨_, tp, _, _, _, true, rfl, upd_same, .cons (.ty _) (.cons (.ty _) (.cons (.ty _) .nil)), .base (.lst (same_new ntp _ _ e)), kit_any3 (r1 := true) (r2 := false) (r3 := false) (by decide +kernel) (by decide +kernel) (by decide +kernel), _, rfl, iteF ?_⟩⟩
      have s1 := same_new (H := H) (o := .tup [.ty "list", .ty "tuple", .ty "dict"]) ntp
      have e1 := s1 _ _ e
      refine ⟨_, rfl, _, _, _, _, false, rfl, .ty _, .base (.lst e1), kit_ty (by decide +kernel), _, rfl, iteF ?_⟩
      refine ⟨_, rfl, _, us, true, rfl, (Hold.lst e1 al l), fun v' H' s' al' => ?_⟩
      exact kk _ _ (s1.trans s') (al'.from s1 us (.lst e al l))
    | @dct a kvs e al l nd =>
      refine ⟨_, rfl, (by show 3 ≤ sizeLine; decide), fun tp ntp => ⟨_, tp, _, _, _, true, rfl, upd_same, .cons (.ty _) (.cons (.ty _) (.cons (.ty _) .nil)), .base (.dK (same_new ntp _ _ e)), kit_any3 (r1 := false) (r2 := false) (r3 := true) (by decide +kernel) (by decide +kernel) (by decide +kernel), _, rfl, iteF ?_⟩⟩
      have s1 := same_new (H := H) (o := .tup [.ty "list", .ty "tuple", .ty "dict"]) ntp
      have e1 := s1 _ _ e
      refine ⟨_, rfl, _, _, _, _, false, rfl, .ty _, .base (.dK e1), kit_ty (by decide +kernel), _, rfl, iteF ?_⟩
      refine ⟨_, rfl, _, _, true, rfl, (Hold.dct e1 al l nd), fun v' H' s' al' => ?_⟩
      exact kk _ _ (s1.trans s') (al'.from s1 _ (.dct e al l nd))
end
end Ev
namespace Ev
open PySem L2 PySem.Spec PyProof.Rows
/-! ### repr of a value that holds nothing but scalars -/
def sclr : V → PyData → Bool
  | .non, .none => true
  | .bl a, .bool b => a == b
  | .int a, .int b => decide (a = b)
  | .str a, .str b => a == b
  | _, _ => false
def keyD : Key → PyData
  | .inl i => .int i
  | .inr x => .str x
inductive Vd (K : PySem.W.Frag) (H : Hp) : V → PyData → Prop
  | plain {v : V} {d : PyData} : Dp K H v d → d.hasDict = false → Vd K H v d
  | dct {a : Addr} {kvs : List (Key × V)} {ds : List (PyData × PyData)} : H a = some (.dK kvs) → ds.map (·.1) = kvs.map (fun p => keyD p.1) → Paired (fun v d => sclr v d = true) (kvs.map (·.2)) (ds.map (·.2)) → Vd K H (.ref a) (.dict ds)
theorem reads_sc {h : Heap} {v : V} {d : PyData} {u : Value} (e : sclr v d = true) (r : RelV v u) : Reads h u d [] := by
  cases v <;> cases d <;> first | cases e | skip
  · cases (show u = Value.none from r); exact .none
  · obtain rfl := beq_iff_eq.mp e
    cases (show u = Value.bool _ from r); exact .bool _
  · obtain rfl := of_decide_eq_true e
    obtain ⟨t, q⟩ := (show ∃ t, u = Value.int _ t from r); cases q; exact .int _ _
  · obtain rfl := beq_iff_eq.mp e
    obtain ⟨t, q⟩ := (show ∃ t, u = Value.str _ t from r); cases q; exact .str _ _
theorem reads_scs {h : Heap} : ∀ {vs : List V} {ds : List PyData} {us : List Value}, Paired (fun v d => sclr v d = true) vs ds → Vals vs us → ReadsAll h us ds []
  | _, _, _, .nil, .nil => .nil
  | _, _, _, .cons e t, .cons r q => .cons (as := []) (bs := []) (reads_sc e r) (reads_scs t q)
theorem pair_vals {P : Program} {w : World} : ∀ {es : List DictEntry} {vs : List (Key × Value)}, Pairs (mixKind P w) es vs → es.map (·.val) = vs.map (·.2)
  | _, _, .nil => rfl
  | _, _, .cons h1 h2 t => by
    rw [List.map_cons, List.map_cons, h2, pair_vals t]
theorem reads_keys {P : Program} {w : World} {h : Heap} : ∀ {es : List DictEntry} {kvs : List (Key × V)} {vs : List (Key × Value)}, Pairs (mixKind P w) es vs → KV kvs vs → ReadsAll h (es.map (·.key)) (kvs.map fun p => keyD p.1) []
  | _, _, _, .nil, .nil => .nil
  | _, _, _, .cons h1 h2 t, .cons r q => by
    refine .cons (as := []) (bs := []) ?_ (reads_keys t q)
    dsimp only
    rw [r.1]
    rcases keyIs_shape (show keyIs _ _ = true from h1) with ⟨i, tk, e1, e2⟩ | ⟨x, tk, e1, e2⟩
    · rw [e1, e2]; exact .int _ _
    · rw [e1, e2]; exact .str _ _
section
variable {X : Cx}
/-- repr of such a value, where none is under way -/
def rReprV (K : PySem.W.Frag) : List V → Hp → VK → Prop := fun xs H Q => ∃ (v : V) (d : PyData), xs = [v] ∧ Vd K H v d ∧
  d.showable = true ∧ d.depth ≤ 32 ∧ d.shown.length ≤ sizeLine ∧ Q (.str d.shown) H
theorem call_reprV (gd : X.A.guards = some []) (hu : X.A.units + 64 < cLine) : CallR X (.builtin "repr") (rReprV X.K) := by
  intro pins s σ H xs us Q I r h
  obtain ⟨v, d, rfl, hd, h1, h3, h4, q⟩ := h
  obtain ⟨u, rfl, ru⟩ := vals1 r
  have fin : ∀ (h' : Heap) (t : Tok) (tk : Nat), (∀ b o, s.heap.get? b = some o → h'.get? b = some o) → EP X pins σ Q (.str d.shown t) { s with heap := h', toks := tk } := fun h' t tk hk => ⟨.str d.shown, H, I.kept hk, ⟨t, rfl⟩, q⟩
  have byRef : ∀ (a : Addr) (as : List Addr), u = .ref a → Reads s.heap (.ref a) d as → (d.hasDict = true → sysModules ∉ as) → wpAny (model X.prog X.w) X.A (call (.builtin "repr") [u]) (EP X pins σ Q) X.xe s := by
    intro a as eu rd hm
    subst eu
    exact repr_of_reads' rd h1 hm gd (by omega) (fun _ _ e => e) (fun h' t tk hk => fin h' t tk hk) h4
  cases hd with
  | plain dp nd =>
    cases dp with
    | non => cases ru; exact PySem.P.repr_of_none (fin s.heap _ _ fun _ _ e => e)
    | bl b => cases ru; exact PySem.P.repr_of_bool (fin s.heap _ _ fun _ _ e => e)
    | int i => obtain ⟨t, rfl⟩ := ru; exact PySem.P.repr_of_int (of_decide_eq_true h1) (fin s.heap _ _ fun _ _ e => e)
    | str x => obtain ⟨t, rfl⟩ := ru; exact PySem.P.repr_of_str (fin s.heap _ _ fun _ _ e => e) h4
    | lst sq al =>
      cases ru
      obtain ⟨as, rd⟩ := Dp.reads I _ _ _ (.lst sq al) rfl
      exact byRef _ as rfl rd fun z => by rw [nd] at z; cases z
    | tup sq al =>
      cases ru
      obtain ⟨as, rd⟩ := Dp.reads I _ _ _ (.tup sq al) rfl
      exact byRef _ as rfl rd fun z => by rw [nd] at z; cases z
  | @dct a kvs ds e ek ev =>
    cases ru
    obtain ⟨hz, hs0, vs, kv, hdo⟩ := (show ObjOk X.prog X.w H s.heap a (.dK kvs) from I.hok a _ e)
    obtain ⟨ep, ob, es, ho, ex, hdat, hko, hpr, hnd⟩ := hdo.dictAt
    have e1 : ReadsAll s.heap (es.toList.map (·.key)) (ds.map (·.1)) [] := by
      rw [ek]; exact reads_keys hpr kv
    have e2 : ReadsAll s.heap (es.toList.map (·.val)) (ds.map (·.2)) [] := by
      refine reads_scs ev ?_
      have e3 : es.toList.map (·.val) = vs.map (·.2) := pair_vals hpr
      rw [e3]; exact vals_snd kv
    refine byRef a (a :: [] ++ []) rfl (.dict ho ex.1 hdat e1 e2) fun _ z => ?_
    simp at z
    rw [← z] at hs0
    simp at hs0
end
end Ev
namespace Ev
open PySem L2 PySem.Spec PyProof.Rows
/-! repr of what holds a dict: only the dict itself must not be that of the modules. -/
section
variable {prog : Program} {w : World} {h : Heap}
def Item (prog : Program) (w : World) (h : Heap) (u : Value) (d : PyData) : Prop := ∃ as bs, Reads h u d as ∧ ReadAtMost h d.depth bs ∧ ReprK prog w bs h d.depth u d.shown
theorem item_flat {u : Value} {d : PyData} {as : List Addr} (r : Reads h u d as) (hs : d.showable = true) (nd : d.hasDict = false) (hz : d.shown.length ≤ sizeLine) : Item prog w h u d := by
  obtain ⟨bs, e1, e2⟩ := ReprK.of_reads (prog := prog) (w := w) r hs (fun z => by rw [nd] at z; cases z) hz
  exact ⟨as, bs, r, e1, e2⟩
theorem dict_parts {a : Addr} {o : Obj} {es : Array DictEntry} {n : Nat} {kvs : List (PyData × PyData)} {as bs : List Addr} (h1 : h.get? a = some o) (h2 : o.cls = .type "dict") (h3 : o.data = .dict es n)
    (rk : ReadsAll h (es.toList.map (·.key)) (kvs.map (·.1)) as) (rv : ReadsAll h (es.toList.map (·.val)) (kvs.map (·.2)) bs) (hs : PyData.showableKv kvs = true)
    (nk : PyData.hasDictAll (kvs.map (·.1)) = false) (nv : PyData.hasDictAll (kvs.map (·.2)) = false) (hz : (dictText (PyData.shownKv kvs)).length ≤ sizeLine) :
    ∃ cs, ReadAtMost h (PyData.depthKv kvs) cs ∧ a ∉ cs ∧ ReprEntriesK prog w cs h (PyData.depthKv kvs) es.toList (List.zipWith (fun k v : Str => k ++ ": " ++ v) (PyData.shownAll (kvs.map (·.1))) (PyData.shownAll (kvs.map (·.2)))) := by
  obtain ⟨g1, g2⟩ := PyData.showableKv_split kvs hs
  have z1 : ∀ t ∈ PyData.shownAll (kvs.map (·.1)), t.length ≤ sizeLine := fun t ht => by
    obtain ⟨p, hp, hl⟩ := PyData.shownKv_key_le kvs t ht
    exact Nat.le_trans hl (Nat.le_trans (dictText_mem_le hp) hz)
  have z2 : ∀ t ∈ PyData.shownAll (kvs.map (·.2)), t.length ≤ sizeLine := fun t ht => by
    obtain ⟨p, hp, hl⟩ := PyData.shownKv_val_le kvs t ht
    exact Nat.le_trans hl (Nat.le_trans (dictText_mem_le hp) hz)
  obtain ⟨c1, m1, k1⟩ := ReprAllK.of_readsAll (prog := prog) (w := w) rk g1 (fun z => by rw [nk] at z; cases z) z1
  obtain ⟨c2, m2, k2⟩ := ReprAllK.of_readsAll (prog := prog) (w := w) rv g2 (fun z => by rw [nv] at z; cases z) z2
  have m : ReadAtMost h (PyData.depthKv kvs) (c1 ++ c2) := (m1.mono (PyData.depthAll_keys_le kvs)).append (m2.mono (PyData.depthAll_vals_le kvs))
  refine ⟨c1 ++ c2, m, not_mem_of_deeper (.dict h1 h2 h3 rk rv) (by simp only [PyData.depth]; omega) m, ReprEntriesK.of_two _ _ _ ?_ ?_⟩
  · exact k1.more_le (fun b hb => List.mem_append_left _ hb) (PyData.depthAll_keys_le kvs)
  · exact k2.more_le (fun b hb => List.mem_append_right _ hb) (PyData.depthAll_vals_le kvs)
theorem item_dict {a : Addr} {o : Obj} {es : Array DictEntry} {n : Nat} {kvs : List (PyData × PyData)} {as bs : List Addr} (h1 : h.get? a = some o) (h2 : o.cls = .type "dict") (h3 : o.data = .dict es n) (ns : (a == sysModules) = false)
    (rk : ReadsAll h (es.toList.map (·.key)) (kvs.map (·.1)) as) (rv : ReadsAll h (es.toList.map (·.val)) (kvs.map (·.2)) bs) (hs : PyData.showableKv kvs = true)
    (nk : PyData.hasDictAll (kvs.map (·.1)) = false) (nv : PyData.hasDictAll (kvs.map (·.2)) = false) (hz : (dictText (PyData.shownKv kvs)).length ≤ sizeLine) : Item prog w h (.ref a) (.dict kvs) := by
  obtain ⟨cs, m, na, k⟩ := dict_parts (prog := prog) (w := w) h1 h2 h3 rk rv hs nk nv hz
  have r : Reads h (.ref a) (.dict kvs) _ := .dict h1 h2 h3 rk rv
  refine ⟨_, a :: cs, r, ReadAtMost.cons r (by simp only [PyData.depth]; omega) m, ?_⟩
  simp only [PyData.depth, PyData.shown, PyData.shownKv_eq]
  exact ReprK.dict h1 h2 h3 ns na k
theorem items {us : List Value} {ds : List PyData} (p : Paired (Item prog w h) us ds) : ∃ as bs, ReadsAll h us ds as ∧ ReadAtMost h (PyData.depthAll ds) bs ∧ ReprAllK prog w bs h (PyData.depthAll ds) us (PyData.shownAll ds) := by
  induction p with
  | nil => exact ⟨[], [], .nil, (fun _ z => nomatch z), by simp only [PyData.shownAll]; exact .nil⟩
  | cons x t ih =>
    obtain ⟨as, bs, r, m, k⟩ := x
    obtain ⟨as2, bs2, r2, m2, k2⟩ := ih
    refine ⟨_, bs ++ bs2, .cons r r2, ?_, ?_⟩
    · refine ReadAtMost.append (m.mono ?_) (m2.mono ?_)
      · simp only [PyData.depthAll]; exact Nat.le_max_left _ _
      · simp only [PyData.depthAll]; exact Nat.le_max_right _ _
    · simp only [PyData.depthAll, PyData.shownAll]
      refine .cons ((k.more fun b hb => List.mem_append_left _ hb).level_le (Nat.le_max_left _ _)) (k2.more_le (fun b hb => List.mem_append_right _ hb) (Nat.le_max_right _ _))
theorem sb_dict {a : Addr} {o : Obj} {es : Array DictEntry} {n : Nat} {kvs : List (PyData × PyData)} {as bs : List Addr} (h1 : h.get? a = some o) (h2 : o.cls = .type "dict") (h3 : o.data = .dict es n) (ns : (a == sysModules) = false)
    (rk : ReadsAll h (es.toList.map (·.key)) (kvs.map (·.1)) as) (rv : ReadsAll h (es.toList.map (·.val)) (kvs.map (·.2)) bs) (hs : PyData.showableKv kvs = true)
    (nk : PyData.hasDictAll (kvs.map (·.1)) = false) (nv : PyData.hasDictAll (kvs.map (·.2)) = false) (hz : (dictText (PyData.shownKv kvs)).length ≤ sizeLine) : ∃ T i, ShowsBy prog w h a (.dict kvs) T i := by
  obtain ⟨cs, m, na, k⟩ := dict_parts (prog := prog) (w := w) h1 h2 h3 rk rv hs nk nv hz
  refine ⟨"dict", "dict.__repr__", F.slot_dict_repr, F.slot_dict_str, F.slot_dict_format, fun s kp => ⟨o, kp _ _ h1, h2⟩, fun A E s Q hg hu kp hQ => ?_⟩
  simp only [PyData.depth] at hu
  simp only [PyData.shown, PyData.shownKv_eq] at hQ
  exact call_dict_reprK h1 h2 h3 ns na k hg (fun b _ => Clear.nil b) hu kp hQ (by rw [← PyData.shownKv_eq]; exact hz)
theorem sb_list {a : Addr} {o : Obj} {l : List Value} {n : Nat} {ds : List PyData} (h1 : h.get? a = some o) (h2 : o.cls = .type "list") (h3 : o.data = .seq l.toArray n) (ne : l ≠ [])
    (p : Paired (Item prog w h) l ds) (hz : (listText (PyData.shownAll ds)).length ≤ sizeLine) : ∃ T i, ShowsBy prog w h a (.list ds) T i := by
  obtain ⟨as, bs, r, m, k⟩ := items p
  have na : a ∉ bs := not_mem_of_deeper (.list h1 h2 h3 r) (by simp only [PyData.depth]; omega) m
  refine ⟨"list", "list.__repr__", F.slot_list_repr.toG, F.slot_list_str, F.slot_list_format, fun s kp => ⟨o, kp _ _ h1, h2⟩, fun A E s Q hg hu kp hQ => ?_⟩
  simp only [PyData.depth] at hu
  simp only [PyData.shown] at hQ
  cases l with
  | nil => exact absurd rfl ne
  | cons x l => exact call_list_reprK h1 h2 h3 na (by simpa using k.length_eq) (fun i y e => k.item i y (by simpa using e)) hg (fun b _ => Clear.nil b) hu kp hQ hz
end
/-- a value that holds no dict, or a dict of such values -/
def Vi (K : PySem.W.Frag) (H : Hp) (v : V) (d : PyData) : Prop := (Dp K H v d ∧ d.hasDict = false) ∨ ∃ (a : Addr) (kvs : List (Key × V)) (ds : List (PyData × PyData)), v = .ref a ∧ d = .dict ds ∧ H a = some (.dK kvs) ∧
  ds.map (·.1) = kvs.map (fun p => keyD p.1) ∧ DpAll K H (kvs.map (·.2)) (ds.map (·.2)) ∧ PyData.hasDictAll (ds.map (·.2)) = false
theorem keys_nodict : ∀ kvs : List (Key × V), PyData.hasDictAll (kvs.map fun p => keyD p.1) = false
  | [] => by simp only [List.map_nil, PyData.hasDictAll]
  | p :: r => by
    rw [List.map_cons, PyData.hasDictAll, keys_nodict r]
    rcases p with ⟨k | k, v⟩ <;> simp [keyD, PyData.hasDict]
section
variable {X : Cx} {pins : List (Addr × Obj)} {σ : L2.St} {H : Hp} {s : Shared}
theorem vi_dict (I : Inv X pins σ H s) {a : Addr} {kvs : List (Key × V)} {ds : List (PyData × PyData)} (e : H a = some (.dK kvs)) (ek : ds.map (·.1) = kvs.map (fun p => keyD p.1)) (ev : DpAll X.K H (kvs.map (·.2)) (ds.map (·.2))) :
    ∃ (o : Obj) (es : Array DictEntry) (n : Nat) (as bs : List Addr), s.heap.get? a = some o ∧ o.cls = .type "dict" ∧ o.data = .dict es n ∧ (a == sysModules) = false ∧ ReadsAll s.heap (es.toList.map (·.key)) (ds.map (·.1)) as ∧ ReadsAll s.heap (es.toList.map (·.val)) (ds.map (·.2)) bs := by
  obtain ⟨hz, hs0, vs, kv, hdo⟩ := (show ObjOk X.prog X.w H s.heap a (.dK kvs) from I.hok a _ e)
  obtain ⟨ep, ob, es, ho, ex, hdat, hko, hpr, hnd⟩ := hdo.dictAt
  have e1 : ReadsAll s.heap (es.toList.map (·.key)) (ds.map (·.1)) [] := by
    rw [ek]; exact reads_keys hpr kv
  have e3 : es.toList.map (·.val) = vs.map (·.2) := pair_vals hpr
  obtain ⟨bs, e2⟩ := Dp.readsAll I _ _ _ ev (vals_snd kv)
  exact ⟨ob, es, ep, [], bs, ho, ex.1, hdat, hs0, e1, by rw [e3]; exact e2⟩
theorem vi_item (I : Inv X pins σ H s) {v : V} {d : PyData} {u : Value} (h : Vi X.K H v d) (r : RelV v u) (hs : d.showable = true) (hz : d.shown.length ≤ sizeLine) : Item X.prog X.w s.heap u d := by
  rcases h with ⟨h, nd⟩ | ⟨a, kvs, ds, rfl, rfl, e, ek, ev, nd⟩
  · obtain ⟨as, rd⟩ := Dp.reads I _ _ _ h r
    exact item_flat rd hs nd hz
  · cases r
    obtain ⟨o, es, n, as, bs, h1, h2, h3, h4, h5, h6⟩ := vi_dict I e ek ev
    refine item_dict h1 h2 h3 h4 h5 h6 (by simpa [PyData.showable] using hs) ?_ nd (by simpa only [PyData.shown] using hz)
    rw [ek]; exact keys_nodict kvs
theorem vi_items (I : Inv X pins σ H s) : ∀ {vs : List V} {ds : List PyData} {us : List Value}, Paired (Vi X.K H) vs ds → Vals vs us → (∀ d ∈ ds, d.showable = true ∧ d.shown.length ≤ sizeLine) → Paired (Item X.prog X.w s.heap) us ds
  | _, _, _, .nil, .nil, _ => .nil
  | _, _, _, .cons h t, .cons r q, g => .cons (vi_item I h r (g _ List.mem_cons_self).1 (g _ List.mem_cons_self).2) (vi_items I t q fun d m => g d (List.mem_cons_of_mem _ m))
/-- repr of such a value, and of a list of them -/
def rReprI (K : PySem.W.Frag) : List V → Hp → VK → Prop := fun xs H Q => ∃ (v : V) (d : PyData), xs = [v] ∧ d.showable = true ∧ d.depth ≤ 32 ∧ d.shown.length ≤ sizeLine ∧
  (Vi K H v d ∨ ∃ (a : Addr) (vs : List V) (ds : List PyData), v = .ref a ∧ d = .list ds ∧ H a = some (.lst vs) ∧ vs ≠ [] ∧ Paired (Vi K H) vs ds ∧ ∀ d ∈ ds, d.showable = true ∧ d.shown.length ≤ sizeLine) ∧ Q (.str d.shown) H
theorem call_reprI (gd : X.A.guards = some []) (hu : X.A.units + 64 < cLine) : CallR X (.builtin "repr") (rReprI X.K) := by
  intro pins s σ H xs us Q I r h
  obtain ⟨v, d, rfl, h1, h3, h4, h, q⟩ := h
  have fin : ∀ (h' : Heap) (t : Tok) (tk : Nat), (∀ b o, s.heap.get? b = some o → h'.get? b = some o) → EP X pins σ Q (.str d.shown t) { s with heap := h', toks := tk } := fun h' t tk hk => ⟨.str d.shown, H, I.kept hk, ⟨t, rfl⟩, q⟩
  have by_sb : ∀ (a : Addr) (T i : String), us = [.ref a] → ShowsBy X.prog X.w s.heap a d T i → wpAny (model X.prog X.w) X.A (call (.builtin "repr") us) (EP X pins σ Q) X.xe s := by
    intro a T i eu S
    subst eu
    exact call_repr_slot (by omega) (S.typeIs s fun _ _ e => e) S.slotRepr (S.call X.A.in1 X.xe s _ gd (by show X.A.units + 1 + d.depth < cLine; omega) (fun _ _ e => e) fun h' u tk hk => ⟨_, _, rfl, fin h' u tk hk⟩)
  rcases h with (⟨h, nd⟩ | ⟨a, kvs, ds, rfl, rfl, e, ek, ev, nd⟩) | ⟨a, vs, ds, rfl, rfl, e, ne, p, g⟩
  · exact call_reprV gd hu pins s σ H _ us Q I r ⟨v, d, rfl, .plain h nd, h1, h3, h4, q⟩
  · obtain ⟨u, rfl, ru⟩ := vals1 r
    cases ru
    obtain ⟨o, es, n, as, bs, g1, g2, g3, g4, g5, g6⟩ := vi_dict I e ek ev
    obtain ⟨T, i, S⟩ := sb_dict (prog := X.prog) (w := X.w) g1 g2 g3 g4 g5 g6 (by simpa [PyData.showable] using h1) (by rw [ek]; exact keys_nodict kvs) nd (by simpa only [PyData.shown] using h4)
    exact by_sb a T i rfl S
  · obtain ⟨u, rfl, ru⟩ := vals1 r
    cases ru
    obtain ⟨hz, us2, n, rv, ho⟩ := (show ObjOk X.prog X.w H s.heap a (.lst vs) from I.hok a _ e)
    have ne2 : us2 ≠ [] := fun z => by
      rw [z] at rv
      cases rv
      exact ne rfl
    obtain ⟨T, i, S⟩ := sb_list (prog := X.prog) (w := X.w) (ds := ds) ho rfl rfl ne2 (vi_items I p rv g) (by simpa only [PyData.shown] using h4)
    exact by_sb a T i rfl S
end
end Ev
namespace Ev
open PySem L2 PySem.Spec PyProof.Rows
/-! == and != by an own __eq__, both answers, beside values of other types. -/
section
variable {prog : Program} {w : World} {A : Around} {E : Value → Shared → Prop} {s : Shared} {K : PySem.W.Frag} {x C f : Addr} {ox : Obj} {od : Option Obj} {y : Value}
theorem neEntry {Q : Fin → Shared → Prop} (room : A.units < cLine) (X : K.In s.heap) (I : PySem.W.InstAt s.heap x ox C od) (he : PySem.W.findIn K (.ref C) "__eq__" = some (some (.ref f))) (hf : PySem.W.isFn K (.ref f) = true)
    (h : wpAny (model prog w) A (call (.ref f) [.ref x, y]) (fun v s' => ∃ b, v = .bool b ∧ Q (.done (.ret (.bool (!b)))) s') E s) : wpAny (model prog w) A (Builtin.«object.__ne__» ⟨[.ref x, y], []⟩) Q E s := by
  have asked : wpAny (model prog w) A (callSpecialIfBound? (.ref x) (Str.ofString "__eq__") [y]) (fun r s' => ∃ b, r = some (.bool b) ∧ Q (.done (.ret (.bool (!b)))) s') E s := by
    refine PySem.W.ifBound_K X I he hf (wpAny_mono h (fun v s' hv => ?_) fun _ _ z => z)
    obtain ⟨b, rfl, q⟩ := hv
    exact ⟨b, rfl, q⟩
  unfold Builtin.«object.__ne__»
  repeat (first
    | (with_reducible refine wpAny_cRoomFor room ?_)
    | (refine wpAny_bind (m := callSpecialIfBound? (.ref x) (Str.ofString "__eq__") [y]) (wpAny_mono asked (fun r s' hr => ?_) fun _ _ z => z)
       obtain ⟨b, rfl, q⟩ := hr)
    | exact q
    | (exact wpAny_truthy_bool q)
    | wp_step)
theorem neCall {Q : Value → Shared → Prop} (room : A.in1.units < cLine) (X : K.In s.heap) (I : PySem.W.InstAt s.heap x ox C od) (hm : PySem.W.mroIn K C (.type "object") = some true) (he : PySem.W.findIn K (.ref C) "__eq__" = some (some (.ref f))) (hf : PySem.W.isFn K (.ref f) = true)
    (h : wpAny (model prog w) A.in1 (call (.ref f) [.ref x, y]) (fun v s' => ∃ b, v = .bool b ∧ Q (.bool (!b)) s') E s) : wpAny (model prog w) A (call (.builtin "object.__ne__") [.ref x, y]) Q E s :=
  wpAny_call (codeAny_call_builtin F.cmp_object.ne.plain F.cmpEntry_ne (PySem.W.check_slot F.cmpKind_ne F.cmpSplit_ne (I.type.andThen (PySem.W.looks_mroIn X hm)) (F.cmpArgs_ne _ _)
    (neEntry room X I he hf h)))
theorem neBound {Q : Option Value → Shared → Prop} {M : Model} (X : K.In s.heap) (I : PySem.W.InstAt s.heap x ox C od) (hn : PySem.W.findIn K (.ref C) "__ne__" = some (some (.builtin "object.__ne__")))
    (h : wpAny M A (call (.builtin "object.__ne__") [.ref x, y]) (fun v => Q (some v)) E s) : wpAny M A (callSpecialIfBound? (.ref x) "__ne__" [y]) Q E s := by
  have last : wpAny M A (call (.builtin "object.__ne__") ([.ref x] ++ [y]) >>= fun v => pure (some v)) Q E s := by
    refine wpAny_bind (wpAny_mono h (fun v s' z => ?_) fun _ _ z => z)
    exact wpAny_pure z
  simp only [callSpecialIfBound?, bindSpecialIfBound?]
  refine wpAny_holding (wpAny_bind (wpAny_bind (wpAny_bind (I.type.here ?_))))
  refine (PySem.W.looks_findIn X hn).here (wpAny_bind (wpAny_askSetting (wpAny_ite ?_)))
  have bd := F.cmp_object.ne.bind (.ref x)
  split
  · refine wpAny_bind (wpAny_of_eq bd ?_)
    exact wpAny_pure (by exact last)
  · refine wpAny_tryCatch (wpAny_bind (wpAny_of_eq bd ?_))
    exact wpAny_pure (by exact last)
theorem neRich {Q : Value → Shared → Prop} {tb : Value} (room : A.units + 1 < cLine) (X : K.In s.heap) (I : PySem.W.InstAt s.heap x ox C od) (hb : PySem.W.Looks (model prog w) s.heap (typeOf y) tb) (nf : PySem.W.notFirst K C tb = true)
    (hm : PySem.W.mroIn K C (.type "object") = some true) (hn : PySem.W.findIn K (.ref C) "__ne__" = some (some (.builtin "object.__ne__"))) (he : PySem.W.findIn K (.ref C) "__eq__" = some (some (.ref f))) (hf : PySem.W.isFn K (.ref f) = true)
    (h : wpAny (model prog w) A.in1 (call (.ref f) [.ref x, y]) (fun v s' => ∃ b, v = .bool b ∧ Q (.bool (!b)) s') E s) : wpAny (model prog w) A (richCompare .NotEq (.ref x) y) Q E s := by
  have one : wpAny (model prog w) A (tryCompare (.ref x) "__ne__" y) (fun r s' => ∃ b, r = some (.bool b) ∧ Q (.bool b) s') E s := by
    unfold tryCompare
    refine wpAny_bind (neBound X I hn (neCall (show A.in1.units < cLine from room) X I hm he hf (wpAny_mono h (fun v s' z => ?_) fun _ _ z => z)))
    obtain ⟨b, rfl, q⟩ := z
    exact ⟨b, rfl, wpAny_pure ⟨_, rfl, q⟩⟩
  unfold richCompare
  simp only [oneThing_ref]
  rw [cmpInfo_NotEq]
  refine wpAny_holding (wpAny_bind (wpAny_cRoomFor (Nat.lt_of_succ_lt room) ?_))
  refine wpAny_bind (I.type.here ?_)
  refine wpAny_bind (hb.here ?_)
  split
  · rename_i q
    have sub : PySem.W.subIn K tb (.ref C) = some false := by
      rcases Bool.or_eq_true_iff.mp nf with z | z
      · rw [beq_iff_eq.mp z] at q
        simp at q
      · exact beq_iff_eq.mp z
    refine wpAny_bind ((PySem.W.looks_subIn X sub).here ?_)
    simp only [Bool.false_eq_true, if_false]
    refine wpAny_bind (wpAny_mono one (fun r s' z => ?_) fun _ _ z => z)
    obtain ⟨b, rfl, q2⟩ := z
    exact wpAny_pure q2
  · refine wpAny_bind (wpAny_pure ?_)
    simp only [Bool.false_eq_true, if_false]
    refine wpAny_bind (wpAny_mono one (fun r s' z => ?_) fun _ _ z => z)
    obtain ⟨b, rfl, q2⟩ := z
    exact wpAny_pure q2
end
/-- which types come behind an own class -/
theorem nf_own {K : PySem.W.Frag} {C : Addr} : PySem.W.notFirst K C (.ref C) = true := by
  unfold PySem.W.notFirst
  simp
theorem nf_sub {K : PySem.W.Frag} {C : Addr} {t : Value} (h : PySem.W.subIn K t (.ref C) = some false) : PySem.W.notFirst K C t = true := by
  unfold PySem.W.notFirst
  rw [h]
  simp
theorem nf_ty {K : PySem.W.Frag} {C : Addr} {T : String} {l : List String} (h : fastBuiltinMro T = some (l.map Value.type)) : PySem.W.notFirst K C (.type T) = true := by
  refine nf_sub ?_
  show (fastBuiltinMro T).map (·.contains (.ref C)) = some false
  rw [h]
  have z : (l.map Value.type).contains (.ref C) = false := by
    rw [Bool.eq_false_iff]
    intro z
    have m := List.contains_iff_mem.mp z
    simp at m
  exact congrArg some z
section
variable {X : Cx} {CX : CXT} {C g : Addr} {n : Nat} {sp : Sp} {E : XK}
/-- what an own == promises for such values: a truth -/
def rOwnB (K : PySem.W.Frag) (C : Addr) (sp : Sp) (E : XK) (neg : Bool) : R2 := fun x y H Q => ∃ (a dx : Addr) (fs : List (Str × V)) (t : Value), x = .ref a ∧ H a = some (.ins C dx fs) ∧ TyX K H y t ∧ PySem.W.notFirst K C t = true ∧ sp [x, y] H (fun z H' => ∃ b, z = .bl b ∧ Q (.bl (neg ^^ b)) H') E
theorem op_eqO (he : PySem.W.findIn X.K (.ref C) "__eq__" = some (some (.ref g))) (hf : PySem.W.isFn X.K (.ref g) = true) (F : FnR X.prog X.w X.K X.mg X.base CX n g sp) (hr : Room n X.A) (hx : Passes CX X E) : OpR X (compareOp .Eq) (rOwnB X.K C sp E false) := by
  intro pins s σ H x y v u Q I rx ry h
  obtain ⟨a, dx, fs, t, rfl, ha, ty, nf, q⟩ := h
  cases (show v = Value.ref a from rx)
  obtain ⟨mA, J, _⟩ := ins_get I.hok ha
  obtain ⟨od, J, _⟩ := J.look
  obtain ⟨m, hF⟩ := I.fr
  obtain ⟨P, Z, hP, _⟩ := kit_of I ry ty
  show wpAny _ _ (richCompare .Eq (.ref a) u) _ _ s
  refine PySem.W.cmp_K (op := .Eq) hr.units0 hF I.ok.mod.kin J (Z.ty _ _ I.kIn hP) nf he hf ?_
  refine wpAny_mono (wpAny_call (SlX.run_at (us := [.ref a, u]) (ws := [.ref a, y]) F hr I.env0 hx I (.cons rfl (.cons ry .nil)) q)) (fun w' s' z => ?_) fun _ _ z => z
  obtain ⟨z', H', I', rz, b, rfl, q'⟩ := z
  cases (show w' = Value.bool b from rz)
  have q' : Q (.bl b) H' := by simpa using q'
  exact ⟨.bl b, H', I', rfl, q'⟩
theorem op_neO (he : PySem.W.findIn X.K (.ref C) "__eq__" = some (some (.ref g))) (hn : PySem.W.findIn X.K (.ref C) "__ne__" = some (some (.builtin "object.__ne__"))) (hm : PySem.W.mroIn X.K C (.type "object") = some true) (hf : PySem.W.isFn X.K (.ref g) = true)
    (F : FnR X.prog X.w X.K X.mg X.base CX n g sp) (hr : Room (n + 1) X.A) (hx : Passes CX X E) : OpR X (compareOp .NotEq) (rOwnB X.K C sp E true) := by
  intro pins s σ H x y v u Q I rx ry h
  obtain ⟨a, dx, fs, t, rfl, ha, ty, nf, q⟩ := h
  cases (show v = Value.ref a from rx)
  obtain ⟨mA, J, _⟩ := ins_get I.hok ha
  obtain ⟨od, J, _⟩ := J.look
  obtain ⟨P, Z, hP, _⟩ := kit_of I ry ty
  have hr1 : Room n X.A.in1 := hr.in1
  show wpAny _ _ (richCompare .NotEq (.ref a) u) _ _ s
  refine neRich (by have := hr1.units0; exact this) I.kIn J (Z.ty _ _ I.kIn hP) nf hm hn he hf ?_
  refine wpAny_mono (wpAny_call (SlX.run_at (us := [.ref a, u]) (ws := [.ref a, y]) F hr1 I.env0.in1 hx I (.cons rfl (.cons ry .nil)) q)) (fun w' s' z => ?_) fun _ _ z => z
  obtain ⟨z', H', I', rz, b, rfl, q'⟩ := z
  cases (show w' = Value.bool b from rz)
  have q' : Q (.bl (!b)) H' := by simpa using q'
  exact ⟨b, rfl, .bl (!b), H', I', rfl, q'⟩
end
end Ev
namespace Ev
open PySem L2 PySem.Spec PyProof.Rows
/-! bool(an instance) by an own __bool__. -/
section
variable {prog : Program} {w : World} {A : Around} {E : Value → Shared → Prop} {s : Shared} {K : PySem.W.Frag} {x C f : Addr} {ox : Obj} {od : Option Obj}
theorem truthyOwn {M : Model} {Q : Bool → Shared → Prop} (X : K.In s.heap) (I : PySem.W.InstAt s.heap x ox C od) (hs : PySem.W.findIn K (.ref C) "__bool__" = some (some (.ref f))) (hf : PySem.W.isFn K (.ref f) = true)
    (h : wpAny M A (call (.ref f) [.ref x]) (fun v s' => ∃ b, v = .bool b ∧ Q b s') E s) : wpAny M A (truthy (.ref x)) Q E s := by
  unfold truthy
  refine wpAny_bind (m := callSpecial? (.ref x) (Str.ofString "__bool__")) (PySem.W.special_fn X I hs (beq_iff_eq.mp hf) (wpAny_mono h (fun r s' z => ?_) fun _ _ z => z))
  obtain ⟨b, rfl, q⟩ := z
  exact wpAny_pure q
theorem boolRun {Q : Value → Shared → Prop} (X : K.In s.heap) (I : PySem.W.InstAt s.heap x ox C od) (hs : PySem.W.findIn K (.ref C) "__bool__" = some (some (.ref f))) (hf : PySem.W.isFn K (.ref f) = true)
    (h : wpAny (model prog w) A.in1.in1 (call (.ref f) [.ref x]) (fun v s' => ∃ b, v = .bool b ∧ Q (.bool b) s') E s) : wpAny (model prog w) A (call (.type "bool") [.ref x]) Q E s := by
  have g : MeetsIn prog w (Builtin.«bool.__new__» ⟨[.type "bool", .ref x], []⟩) (fun A' R s' => A' = A.in1 ∧ s' = s ∧ wpAny (model prog w) A.in1.in1 (call (.ref f) [.ref x]) (fun v s2 => ∃ b, v = .bool b ∧ R (.ok (.ret (.bool b))) s2) (fun e s2 => R (.error e) s2) s) :=
    .of_wp fun A' R s' h => by
      obtain ⟨rfl, rfl, h⟩ := h
      have hsub := F.conv_sub_bool
      have tr : ∀ {Q2 : Bool → Shared → Prop} {E2 : Value → Shared → Prop}, wpAny (model prog w) A.in1.in1 (call (.ref f) [.ref x]) (fun v s' => ∃ b, v = .bool b ∧ Q2 b s') E2 s' → wpAny (model prog w) A.in1.in1 (truthy (.ref x)) Q2 E2 s' := fun h => truthyOwn X I hs hf h
      repeat (any_goals (first | assumption | (with_reducible refine tr (wpAny_mono h (fun v s2 z => ?_) fun _ _ z => z); obtain ⟨b, rfl, q⟩ := z; refine ⟨b, rfl, ?_⟩) | wp_step))
      exact ⟨_, rfl, q⟩
  refine PySem.callType_newIn (S := _) F.called_bool F.newNe_bool (F.typeCall_bool_1 (.ref x)) (F.newCall_bool_1 (.ref x)) (fun obj => F.args_object_init_2 obj (.ref x)) F.entry_bool_new g ?_
  refine ⟨rfl, rfl, wpAny_mono h (fun v s' z => ?_) fun _ _ z => z⟩
  obtain ⟨b, rfl, q⟩ := z
  exact ⟨b, rfl, rfl, q⟩
end
section
variable {X : Cx} {CX : CXT} {C g : Addr} {n : Nat} {sp : Sp} {E : XK}
/-- bool(x), x an instance with an own __bool__: what that promises -/
def rBoolO (C : Addr) (sp : Sp) (E : XK) : List V → Hp → VK → Prop := fun xs H Q => ∃ (a dx : Addr) (fs : List (Str × V)), xs = [V.ref a] ∧ H a = some (.ins C dx fs) ∧ sp [.ref a] H (fun z H' => ∃ b : Bool, z = .bl b ∧ Q (.bl b) H') E
theorem call_boolO (hs : PySem.W.findIn X.K (.ref C) "__bool__" = some (some (.ref g))) (hf : PySem.W.isFn X.K (.ref g) = true) (F : FnR X.prog X.w X.K X.mg X.base CX n g sp) (hr : Room (n + 2) X.A) (hx : Passes CX X E) : CallR X (.type "bool") (rBoolO C sp E) := by
  intro pins s σ H xs us Q I r h
  obtain ⟨a, dx, fs, rfl, ha, q⟩ := h
  obtain ⟨u, rfl, ru⟩ := vals1 r
  cases (show u = Value.ref a from ru)
  obtain ⟨mA, J, _⟩ := ins_get I.hok ha
  obtain ⟨od, J, _⟩ := J.look
  have hr1 : Room n X.A.in1.in1 := (show Room (n + 1) X.A.in1 from hr.in1).in1
  refine boolRun I.kIn J hs hf (wpAny_mono (wpAny_call (SlX.run_at (us := [.ref a]) (ws := [.ref a]) F hr1 I.env0.in1.in1 hx I (.cons rfl .nil) q)) (fun w' s' z => ?_) fun _ _ z => z)
  obtain ⟨z', H', I', rz, b, rfl, q'⟩ := z
  cases (show w' = Value.bool b from rz)
  exact ⟨b, rfl, .bl b, H', I', rfl, q'⟩
end
end Ev
namespace Ev
open PySem L2 PySem.Spec PyProof.Rows
/-! a builtin value == an instance with an own __eq__ -/
section
variable {prog : Program} {w : World} {A : Around} {E : Value → Shared → Prop} {s : Shared} {K : PySem.W.Frag} {y C f : Addr} {oy : Obj} {od : Option Obj}
theorem eqRight {a : Value} {Ta ida : String} {Q : Value → Shared → Prop} (ha : s.TypeIs a Ta) (h1 : Slot Ta "__eq__" ida)
    (hc1 : ∀ Q' : Value → Shared → Prop, Q' .notImplemented s → wpAny (model prog w) A (call (.builtin ida) [a, .ref y]) Q' E s)
    (X : K.In s.heap) (I : PySem.W.InstAt s.heap y oy C od) (hs : PySem.W.findIn K (.ref C) "__eq__" = some (some (.ref f))) (hf : PySem.W.isFn K (.ref f) = true) (hsub : PySem.W.subIn K (.ref C) (.type Ta) = some false) (hu : A.units < cLine)
    (h : wpAny (model prog w) A (call (.ref f) [.ref y, a]) (fun v s' => ∃ b, v = .bool b ∧ Q (.bool b) s') E s) : wpAny (model prog w) A (richCompare .Eq a (.ref y)) Q E s := by
  have hi : cmpInfo CmpOp.Eq = ("==", (("__eq__" : Str), ("__eq__" : Str))) := rfl
  simp only [richCompare, hi, ha.oneThing_none]
  try with_reducible refine wpAny_holding ?_
  refine wpAny_bind (wpAny_cRoomFor hu ?_)
  refine wpAny_bind (wpAny_typeOf ha (wpAny_bind (I.type.here ?_)))
  have hne : (Value.type Ta != Value.ref C) = true := by simp
  simp only [hne, if_true]
  refine wpAny_bind ((PySem.W.looks_subIn X hsub).here ?_)
  simp only [Bool.false_eq_true, if_false, Bool.not_false, if_true]
  refine wpAny_bind (m := tryCompare a _ (.ref y)) (wpAny_tryCompare_declines ha h1 (hc1 _ ⟨rfl, ?_⟩))
  have one : wpAny (model prog w) A (tryCompare (.ref y) "__eq__" a) (fun r s' => ∃ b, r = some (.bool b) ∧ Q (.bool b) s') E s := by
    unfold tryCompare
    refine wpAny_bind (PySem.W.ifBound_K X I hs hf (wpAny_mono h (fun v s' z => ?_) fun _ _ z => z))
    obtain ⟨b, rfl, q⟩ := z
    exact wpAny_pure ⟨b, rfl, q⟩
  refine wpAny_bind (m := tryCompare (.ref y) _ a) (wpAny_mono one (fun r s' z => ?_) fun _ _ z => z)
  obtain ⟨b, rfl, q⟩ := z
  exact wpAny_pure q
end
section
open PySem.W
theorem int_declines_ins (b : Int) (u : Tok) (y C dx : Addr) :
    Meets (Builtin.«int.__eq__» ⟨[.int b u, .ref y], []⟩) (fun _ R s => s.heap.get? y = some (instObj C dx) ∧ R (.ok (.ret .notImplemented)) s) :=
  .of_wp fun prog w A R s h => by obtain ⟨hp, g, d, tk, os⟩ := s; obtain ⟨hl, h⟩ := h; wp_walk using wpAny_loadPart' hl, wpAny_load hl; exact ⟨_, rfl, h⟩
theorem bool_declines_ins (b : Bool) (y C dx : Addr) :
    Meets (Builtin.«int.__eq__» ⟨[.bool b, .ref y], []⟩) (fun _ R s => s.heap.get? y = some (instObj C dx) ∧ R (.ok (.ret .notImplemented)) s) :=
  .of_wp fun prog w A R s h => by obtain ⟨hp, g, d, tk, os⟩ := s; obtain ⟨hl, h⟩ := h; wp_walk using wpAny_loadPart' hl, wpAny_load hl; exact ⟨_, rfl, h⟩
theorem str_declines_ins (b : Str) (u : Tok) (y C dx : Addr) :
    Meets (Builtin.«str.__eq__» ⟨[.str b u, .ref y], []⟩) (fun _ R s => s.heap.get? y = some (instObj C dx) ∧ R (.ok (.ret .notImplemented)) s) :=
  .of_wp fun prog w A R s h => by obtain ⟨hp, g, d, tk, os⟩ := s; obtain ⟨hl, h⟩ := h; wp_walk using wpAny_loadPart' hl, wpAny_load hl; exact ⟨_, rfl, h⟩
theorem tup_declines_ins {prog : Program} {w : World} {K : PySem.W.Frag} (l : Addr) (items : Array Value) (n : Nat) (dd : Option Addr) (sl : Array (Option Value)) (y C dx : Addr) (hsub : subIn K (.ref C) (.type "tuple") = some false) :
    MeetsIn prog w (Builtin.«tuple.__eq__» ⟨[.ref l, .ref y], []⟩) (fun _ R s => K.In s.heap ∧ s.heap.get? l = some { cls := .type "tuple", dict := dd, data := .seq items n, slots := sl } ∧ s.heap.get? y = some (instObj C dx) ∧ R (.ok (.ret .notImplemented)) s) :=
  .of_wp fun A R s h => by
    obtain ⟨hp, g, d, tk, os⟩ := s; obtain ⟨X, hl, hy, h⟩ := h
    wp_walk using wpAny_loadPart' hl, wpAny_load hl, wpAny_load hy
    refine (looks_subIn (M := model prog w) X hsub).here ?_
    wp_walk
    exact ⟨_, rfl, h⟩
theorem lst_declines_ins {prog : Program} {w : World} {K : PySem.W.Frag} (l : Addr) (items : Array Value) (n : Nat) (dd : Option Addr) (sl : Array (Option Value)) (y C dx : Addr) (hsub : subIn K (.ref C) (.type "list") = some false) :
    MeetsIn prog w (Builtin.«list.__eq__» ⟨[.ref l, .ref y], []⟩) (fun _ R s => K.In s.heap ∧ s.heap.get? l = some { cls := .type "list", dict := dd, data := .seq items n, slots := sl } ∧ s.heap.get? y = some (instObj C dx) ∧ R (.ok (.ret .notImplemented)) s) :=
  .of_wp fun A R s h => by
    obtain ⟨hp, g, d, tk, os⟩ := s; obtain ⟨X, hl, hy, h⟩ := h
    wp_walk using wpAny_loadPart' hl, wpAny_load hl, wpAny_load hy
    refine (looks_subIn (M := model prog w) X hsub).here ?_
    wp_walk
    exact ⟨_, rfl, h⟩
theorem dct_declines_ins {prog : Program} {w : World} {K : PySem.W.Frag} (l : Addr) (es : Array DictEntry) (n : Nat) (dd : Option Addr) (sl : Array (Option Value)) (y C dx : Addr) (hsub : subIn K (.ref C) (.type "dict") = some false) :
    MeetsIn prog w (Builtin.«dict.__eq__» ⟨[.ref l, .ref y], []⟩) (fun _ R s => K.In s.heap ∧ s.heap.get? l = some { cls := .type "dict", dict := dd, data := .dict es n, slots := sl } ∧ s.heap.get? y = some (instObj C dx) ∧ R (.ok (.ret .notImplemented)) s) :=
  .of_wp fun A R s h => by
    obtain ⟨hp, g, d, tk, os⟩ := s; obtain ⟨X, hl, hy, h⟩ := h
    wp_walk using wpAny_loadPart' hl, wpAny_load hl, wpAny_load hy
    refine (looks_subIn (M := model prog w) X hsub).here ?_
    wp_walk
    exact ⟨_, rfl, h⟩
end
/-- a class that is below none of the builtin types here -/
structure NoSub (K : PySem.W.Frag) (C : Addr) : Prop where
  nn : PySem.W.subIn K (.ref C) (.type "NoneType") = some false
  nb : PySem.W.subIn K (.ref C) (.type "bool") = some false
  ni : PySem.W.subIn K (.ref C) (.type "int") = some false
  ns : PySem.W.subIn K (.ref C) (.type "str") = some false
  nt : PySem.W.subIn K (.ref C) (.type "tuple") = some false
  nl : PySem.W.subIn K (.ref C) (.type "list") = some false
  nd : PySem.W.subIn K (.ref C) (.type "dict") = some false
/-- a builtin value -/
inductive LeftV (K : PySem.W.Frag) (H : Hp) : V → Prop
  | non : LeftV K H .non
  | bl (b : Bool) : LeftV K H (.bl b)
  | int (i : Int) : LeftV K H (.int i)
  | str (x : Str) : LeftV K H (.str x)
  | tup {a : Addr} {xs : List V} : SqT K H a xs → LeftV K H (.ref a)
  | lst {a : Addr} {xs : List V} : SqL K H a xs → LeftV K H (.ref a)
  | dct {a : Addr} {kvs : List (Key × V)} : H a = some (.dK kvs) → LeftV K H (.ref a)
section
variable {X : Cx} {CX : CXT} {C g : Addr} {n : Nat} {sp : Sp} {E : XK}
def rEqR (K : PySem.W.Frag) (C : Addr) (sp : Sp) (E : XK) : R2 := fun x y H Q => ∃ (b dx : Addr) (fs : List (Str × V)), y = .ref b ∧ H b = some (.ins C dx fs) ∧ LeftV K H x ∧ sp [y, x] H (fun z H' => ∃ b, z = .bl b ∧ Q (.bl b) H') E
theorem op_eqR (N : NoSub X.K C) (he : PySem.W.findIn X.K (.ref C) "__eq__" = some (some (.ref g))) (hf : PySem.W.isFn X.K (.ref g) = true) (Ft : FnR X.prog X.w X.K X.mg X.base CX n g sp) (hr : Room n X.A) (hx : Passes CX X E) : OpR X (compareOp .Eq) (rEqR X.K C sp E) := by
  intro pins s σ H x y v u Q I rx ry h
  obtain ⟨b, dx, fs, rfl, hb, lv, q⟩ := h
  cases (show u = Value.ref b from ry)
  obtain ⟨mA, J, _⟩ := ins_get I.hok hb
  have jo := J.obj
  obtain ⟨od, J, _⟩ := J.look
  have own : wpAny (model X.prog X.w) X.A (call (.ref g) [.ref b, v]) (fun v' s' => ∃ b, v' = .bool b ∧ EP X pins σ Q (.bool b) s') X.xe s := by
    refine wpAny_mono (wpAny_call (SlX.run_at (us := [.ref b, v]) (ws := [.ref b, x]) Ft hr I.env0 hx I (.cons rfl (.cons rx .nil)) q)) (fun w' s' z => ?_) fun _ _ z => z
    obtain ⟨z', H', I', rz, b', rfl, q'⟩ := z
    cases (show w' = Value.bool b' from rz)
    exact ⟨b', rfl, .bl b', H', I', rfl, q'⟩
  show wpAny _ _ (richCompare .Eq v (.ref b)) _ _ s
  have hu := hr.units0
  cases lv with
  | non =>
    cases (show v = Value.none from rx)
    exact eqRight rfl PySem.F.slot_NoneType_eq (fun _ hq => call_gives PySem.F.slot_NoneType_eq rfl PySem.F.entry_NoneType_eq (PySem.F.args_NoneType_eq_2 _ _) (PySem.SeqAt.NoneType___eq___none_ref_0 b) hq) I.kIn J he hf N.nn hu own
  | bl k =>
    cases (show v = Value.bool k from rx)
    exact eqRight rfl PySem.F.slot_bool_eq (fun _ hq => call_meets PySem.F.slot_bool_eq rfl PySem.F.entry_int_eq (PySem.F.args_int_eq_2 _ _) (bool_declines_ins k b C dx) ⟨jo, hq⟩) I.kIn J he hf N.nb hu own
  | int i =>
    obtain ⟨t, rfl⟩ := (show ∃ t, v = Value.int i t from rx)
    exact eqRight (typeIs_int s i t) PySem.F.slot_int_eq (fun _ hq => call_meets PySem.F.slot_int_eq (typeIs_int s i t) PySem.F.entry_int_eq (PySem.F.args_int_eq_2 _ _) (int_declines_ins i t b C dx) ⟨jo, hq⟩) I.kIn J he hf N.ni hu own
  | str z =>
    obtain ⟨t, rfl⟩ := (show ∃ t, v = Value.str z t from rx)
    exact eqRight (typeIs_str s z t) PySem.F.slot_str_eq (fun _ hq => call_meets PySem.F.slot_str_eq (typeIs_str s z t) PySem.F.entry_str_eq (PySem.F.args_str_eq_2 _ _) (str_declines_ins z t b C dx) ⟨jo, hq⟩) I.kIn J he hf N.ns hu own
  | tup hq =>
    cases rx
    obtain ⟨its, r, pl, hz⟩ := I.tuple hq
    obtain ⟨⟨cls, dd, data, sl⟩, ho, hc, nn, hd⟩ := id pl
    simp only at hc hd
    subst hc hd
    exact eqRight ⟨_, ho, rfl⟩ PySem.F.slot_tuple_eq (fun _ hq => call_meetsIn PySem.F.slot_tuple_eq ⟨_, ho, rfl⟩ PySem.F.entry_tuple_eq (PySem.F.args_tuple_eq_2 _ _) (tup_declines_ins _ _ nn dd sl b C dx N.nt) ⟨I.kIn, ho, jo, hq⟩) I.kIn J he hf N.nt hu own
  | lst hq =>
    cases rx
    obtain ⟨its, r, pl, hz⟩ := I.list hq
    obtain ⟨⟨cls, dd, data, sl⟩, ho, hc, nn, hd⟩ := id pl.isList
    simp only at hc hd
    subst hc hd
    exact eqRight ⟨_, ho, rfl⟩ PySem.F.slot_list_eq (fun _ hq => call_meetsIn PySem.F.slot_list_eq ⟨_, ho, rfl⟩ PySem.F.entry_list_eq (PySem.F.args_list_eq_2 _ _) (lst_declines_ins _ _ nn dd sl b C dx N.nl) ⟨I.kIn, ho, jo, hq⟩) I.kIn J he hf N.nl hu own
  | dct hq =>
    cases rx
    obtain ⟨z, yy, vs, r, ⟨cls, dd, data, sl⟩, es, ep, ho, ⟨hc, hdd, hsl⟩, hd, _⟩ := (show ObjOk _ _ _ _ _ _ from I.hok _ _ hq)
    simp only at hc hd hdd hsl
    subst hc hd hdd hsl
    exact eqRight ⟨_, ho, rfl⟩ PySem.F.slot_dict_eq (fun _ hq => call_meetsIn PySem.F.slot_dict_eq ⟨_, ho, rfl⟩ PySem.F.entry_dict_eq (PySem.F.args_dict_eq_2 _ _) (dct_declines_ins _ es ep none #[] b C dx N.nd) ⟨I.kIn, ho, jo, hq⟩) I.kIn J he hf N.nd hu own
end
end Ev
namespace Ev
open PySem L2 PySem.Spec PyProof.Rows
/-! a text == a dict -/
theorem str_declines_dct (b : Str) (u : Tok) (l : Addr) (c : Value) (es : Array DictEntry) (n : Nat) (dd : Option Addr) (sl : Array (Option Value)) :
    Meets (Builtin.«str.__eq__» ⟨[.str b u, .ref l], []⟩) (fun _ R s => s.heap.get? l = some { cls := c, dict := dd, data := .dict es n, slots := sl } ∧ R (.ok (.ret .notImplemented)) s) :=
  .of_wp fun prog w A R s h => by obtain ⟨hp, g, d, tk, os⟩ := s; obtain ⟨hl, h⟩ := h; wp_walk using wpAny_loadPart' hl, wpAny_load hl; exact ⟨_, rfl, h⟩
theorem sub_str_dict' : isSubtype (.type "str") (.type "dict") = pure false := by rw [isSubtype_type]; kernel_rfl
theorem sub_dict_str' : isSubtype (.type "dict") (.type "str") = pure false := by rw [isSubtype_type]; kernel_rfl
theorem dct_declines_str (b : Str) (u : Tok) (l : Addr) (es : Array DictEntry) (n : Nat) (dd : Option Addr) (sl : Array (Option Value)) :
    Meets (Builtin.«dict.__eq__» ⟨[.ref l, .str b u], []⟩) (fun _ R s => s.heap.get? l = some { cls := .type "dict", dict := dd, data := .dict es n, slots := sl } ∧ R (.ok (.ret .notImplemented)) s) :=
  .of_wp fun prog w A R s h => by obtain ⟨hp, g, d, tk, os⟩ := s; obtain ⟨hl, h⟩ := h; have f1 := sub_str_dict'; wp_walk using wpAny_loadPart' hl, wpAny_load hl; exact ⟨_, rfl, h⟩
section
variable {X : Cx}
def rEqSD : R2 := fun x y H Q => ∃ (z : Str) (a : Addr) (kvs : List (Key × V)), x = .str z ∧ y = .ref a ∧ H a = some (.dK kvs) ∧ Q (.bl false) H
theorem op_eqSD (hu : X.A.units < cLine) : OpR X (compareOp .Eq) rEqSD := by
  intro pins s σ H x y v u Q I rx ry h
  obtain ⟨z, a, kvs, rfl, rfl, ha, q⟩ := h
  obtain ⟨t, rfl⟩ := (show ∃ t, v = Value.str z t from rx)
  cases (show u = Value.ref a from ry)
  obtain ⟨_, yy, vs, r, ⟨cls, dd, data, sl⟩, es, ep, ho, ⟨hc, hdd, hsl⟩, hd, _⟩ := (show ObjOk _ _ _ _ _ _ from I.hok _ _ ha)
  simp only at hc hd hdd hsl
  subst hc hd hdd hsl
  show wpAny _ _ (richCompare .Eq (.str z t) (.ref a)) _ _ s
  exact SeqAt.rc_eq_decline_or (k := false) (typeIs_str s z t) ⟨_, ho, rfl⟩ (by decide) sub_dict_str' PySem.F.slot_str_eq PySem.F.slot_dict_eq_refl
    (fun _ hq => call_meets PySem.F.slot_str_eq (typeIs_str s z t) PySem.F.entry_str_eq (PySem.F.args_str_eq_2 _ _) (str_declines_dct z t a (.type "dict") es ep none #[]) ⟨ho, hq⟩)
    (fun _ hq => call_meets PySem.F.slot_dict_eq_refl ⟨_, ho, rfl⟩ PySem.F.entry_dict_eq (PySem.F.args_dict_eq_2 _ _) (dct_declines_str z t a es ep none #[]) ⟨ho, hq⟩)
    (fun _ hq => wpAny_of_eq (rfl : isSame (.str z t) (.ref a) = pure false) hq) (.inr hu) ⟨.bl false, H, I, rfl, q⟩
end
end Ev
namespace Ev
open PySem L2 PySem.Spec PyProof.Rows
/-- what is kept in an answer, in this law -/
inductive Th where
  | non
  | int (i : Int)
  | str (x : Str)
  | tup (ns : List Int)
  | lst (ns : List Int)
  | dct (k : Str) (i : Int)
def Th.on (H : Hp) : Th → V → Prop
  | .non, v => v = .non
  | .int i, v => v = .int i
  | .str x, v => v = .str x
  | .tup ns, v => ∃ a, v = .ref a ∧ H a = some (.tup (ns.map V.int))
  | .lst ns, v => ∃ a, v = .ref a ∧ H a = some (.lst (ns.map V.int))
  | .dct k i, v => ∃ a, v = .ref a ∧ H a = some (.dK [(.inr k, .int i)])
def Th.data : Th → PyData
  | .non => .none
  | .int i => .int i
  | .str x => .str x
  | .tup ns => .tuple (ns.map PyData.int)
  | .lst ns => .list (ns.map PyData.int)
  | .dct k i => .dict [(.str k, .int i)]
def Th.short : Th → Prop
  | .non => True
  | .int _ => True
  | .str x => (PyData.str x).canLay0 = true
  | .tup ns => ns.length ≤ 900
  | .lst ns => ns.length ≤ 900
  | .dct _ _ => True
theorem Th.on.keep {H H' : Hp} {d : Th} {v : V} (h : d.on H v) (k : Same H H') : d.on H' v := by
  cases d with
  | non => exact h
  | int i => exact h
  | str x => exact h
  | tup ns => obtain ⟨a, e, q⟩ := h; exact ⟨a, e, k _ _ q⟩
  | lst ns => obtain ⟨a, e, q⟩ := h; exact ⟨a, e, k _ _ q⟩
  | dct k' i => obtain ⟨a, e, q⟩ := h; exact ⟨a, e, k _ _ q⟩
/-- beside an instance that changes -/
theorem Th.on.butI {H H' : Hp} {d : Th} {v : V} {x C dx : Addr} {fs : List (Str × V)} (h : d.on H v) (hx : H x = some (.ins C dx fs)) (k : But x H H') : d.on H' v := by
  cases d with
  | non => exact h
  | int i => exact h
  | str x => exact h
  | tup ns => obtain ⟨a, e, q⟩ := h; exact ⟨a, e, k _ _ (ne_of q hx (by intro z; cases z)) q⟩
  | lst ns => obtain ⟨a, e, q⟩ := h; exact ⟨a, e, k _ _ (ne_of q hx (by intro z; cases z)) q⟩
  | dct k' i => obtain ⟨a, e, q⟩ := h; exact ⟨a, e, k _ _ (ne_of q hx (by intro z; cases z)) q⟩
theorem flat_non : Flat .non "NoneType" := ⟨fun _ _ => .base .non, by decide +kernel, by decide +kernel, by decide +kernel⟩
theorem allflat_ints (ns : List Int) : AllFlat (ns.map V.int) := fun u z => by obtain ⟨n, _, rfl⟩ := List.mem_map.mp z; exact ⟨_, flat_int n⟩
theorem Th.on.hold {H : Hp} {d : Th} {v : V} (h : d.on H v) (s : d.short) : ∃ us b, Hold H v us b := by
  cases d with
  | non => obtain rfl := (show v = .non from h); exact ⟨_, _, .flat flat_non⟩
  | int i => obtain rfl := (show v = .int i from h); exact ⟨_, _, .flat (flat_int i)⟩
  | str x => obtain rfl := (show v = .str x from h); exact ⟨_, _, .flat (flat_str x)⟩
  | tup ns => obtain ⟨a, rfl, q⟩ := h; exact ⟨_, _, .tup q (allflat_ints ns) (by rw [List.length_map]; exact s)⟩
  | lst ns => obtain ⟨a, rfl, q⟩ := h; exact ⟨_, _, .lst q (allflat_ints ns) (by rw [List.length_map]; exact s)⟩
  | dct k' i => obtain ⟨a, rfl, q⟩ := h; exact ⟨_, _, .dct q (fun u z => by obtain rfl := List.mem_singleton.mp z; exact ⟨_, flat_int i⟩) (by show 1 ≤ 900; decide) (by simp)⟩
theorem Th.on.alike {H H' : Hp} {d : Th} {v v' : V} (h : d.on H v) (k : Same H H') (al : Alike H v H' v') : d.on H' v' := by
  cases al with
  | same => exact h.keep k
  | lst e1 e2 =>
    cases d with
    | non => cases h
    | int i => cases h
    | str x => cases h
    | tup ns => obtain ⟨a, e, q⟩ := h; cases e; rw [q] at e1; cases e1
    | lst ns => obtain ⟨a, e, q⟩ := h; cases e; rw [q] at e1; cases e1; exact ⟨_, rfl, e2⟩
    | dct k' i => obtain ⟨a, e, q⟩ := h; cases e; rw [q] at e1; cases e1
  | dct e1 e2 =>
    cases d with
    | non => cases h
    | int i => cases h
    | str x => cases h
    | tup ns => obtain ⟨a, e, q⟩ := h; cases e; rw [q] at e1; cases e1
    | lst ns => obtain ⟨a, e, q⟩ := h; cases e; rw [q] at e1; cases e1
    | dct k' i => obtain ⟨a, e, q⟩ := h; cases e; rw [q] at e1; cases e1; exact ⟨_, rfl, e2⟩
theorem Th.on.left {K : PySem.W.Frag} {H : Hp} {d : Th} {v : V} (h : d.on H v) : LeftV K H v := by
  cases d with
  | non => obtain rfl := (show v = .non from h); exact .non
  | int i => obtain rfl := (show v = .int i from h); exact .int i
  | str x => obtain rfl := (show v = .str x from h); exact .str x
  | tup ns => obtain ⟨a, rfl, q⟩ := h; exact .tup (SqT.of q)
  | lst ns => obtain ⟨a, rfl, q⟩ := h; exact .lst (SqL.of q)
  | dct k' i => obtain ⟨a, rfl, q⟩ := h; exact .dct q
theorem Th.on.ty {K : PySem.W.Frag} {H : Hp} {d : Th} {v : V} (h : d.on H v) : ∃ T l, TyX K H v (.type T) ∧ fastBuiltinMro T = some ((l : List String).map Value.type) := by
  cases d with
  | non => obtain rfl := (show v = .non from h); exact ⟨"NoneType", ["NoneType", "object"], .base .non, by decide +kernel⟩
  | int i => obtain rfl := (show v = .int i from h); exact ⟨"int", ["int", "object"], .base (.int i), by decide +kernel⟩
  | str x => obtain rfl := (show v = .str x from h); exact ⟨"str", ["str", "object"], .base (.str x), by decide +kernel⟩
  | tup ns => obtain ⟨a, rfl, q⟩ := h; exact ⟨"tuple", ["tuple", "object"], .base (.tup q), by decide +kernel⟩
  | lst ns => obtain ⟨a, rfl, q⟩ := h; exact ⟨"list", ["list", "object"], .base (.lst q), by decide +kernel⟩
  | dct k' i => obtain ⟨a, rfl, q⟩ := h; exact ⟨"dict", ["dict", "object"], .base (.dK q), by decide +kernel⟩
theorem dpInts_nodict (ns : List Int) : PyData.hasDictAll (ns.map PyData.int) = false := by
  induction ns with
  | nil => rfl
  | cons n r ih => rw [List.map_cons, PyData.hasDictAll, ih]; rfl
theorem Th.on.vi {K : PySem.W.Frag} {H : Hp} {d : Th} {v : V} (h : d.on H v) : Vi K H v d.data := by
  cases d with
  | non => obtain rfl := (show v = .non from h); exact .inl ⟨.non, rfl⟩
  | int i => obtain rfl := (show v = .int i from h); exact .inl ⟨.int i, rfl⟩
  | str x => obtain rfl := (show v = .str x from h); exact .inl ⟨.str x, rfl⟩
  | tup ns => obtain ⟨a, rfl, q⟩ := h; exact .inl ⟨.tup (SqT.of q) (dpInts ns), dpInts_nodict ns⟩
  | lst ns => obtain ⟨a, rfl, q⟩ := h; exact .inl ⟨.lst (SqL.of q) (dpInts ns), dpInts_nodict ns⟩
  | dct k' i => obtain ⟨a, rfl, q⟩ := h; exact .inr ⟨a, _, [(.str k', .int i)], rfl, rfl, q, rfl, .cons (.int i) .nil, rfl⟩
/-- what of two things is equal, as far as this law asks it -/
def EqTh (d e : Th) (b : Bool) : Prop := (d = e ∧ b = true) ∨ (d = .str "w" ∧ e ≠ .str "w" ∧ b = false) ∨ (∃ i j : Int, d = .int i ∧ e = .int j ∧ i ≠ j ∧ b = false)
def rEqTh (K : PySem.W.Frag) : R2 := fun x y H Q => ∃ (d e : Th) (b : Bool), d.on H x ∧ e.on H y ∧ d.short ∧ e.short ∧ EqTh d e b ∧ Q (.bl b) H
theorem sh_intsT (ns : List Int) : SeqAt.shaped (.tuple (ns.map PyData.int)) = true := by
  have h := sh_ints ns
  unfold SeqAt.shaped at h ⊢
  simpa [PyData.canLay0, PyData.depth] using h
/-- a thing that is no dict -/
theorem Th.on.dp {K : PySem.W.Frag} {H : Hp} {d : Th} {v : V} (h : d.on H v) (s : d.short) (n : ∀ k i, d ≠ .dct k i) : Dp K H v d.data ∧ SeqAt.shaped d.data = true := by
  cases d with
  | non => obtain rfl := (show v = .non from h); exact ⟨.non, rfl⟩
  | int i => obtain rfl := (show v = .int i from h); exact ⟨.int i, rfl⟩
  | str x => obtain rfl := (show v = .str x from h); exact ⟨.str x, by unfold SeqAt.shaped; rw [Bool.and_eq_true]; exact ⟨s, rfl⟩⟩
  | tup ns => obtain ⟨a, rfl, q⟩ := h; exact ⟨.tup (SqT.of q) (dpInts ns), sh_intsT ns⟩
  | lst ns => obtain ⟨a, rfl, q⟩ := h; exact ⟨.lst (SqL.of q) (dpInts ns), sh_ints ns⟩
  | dct k' i => exact absurd rfl (n _ _)
theorem eqv_w {e : Th} (h : e ≠ .str "w") (n : ∀ k i, e ≠ .dct k i) : PyData.eqv (.str "w") e.data = false := by
  cases e with
  | non => rfl
  | int i => rfl
  | str x => 
    have : ¬ ("w" : Str) = x := fun z => h (by rw [z])
    simpa [Th.data, PyData.eqv] using this
  | tup ns => rfl
  | lst ns => rfl
  | dct k' i => exact absurd rfl (n _ _)
section
variable {X : Cx}
theorem op_eqTh (hu : X.A.units + 64 < cLine) : OpR X (compareOp .Eq) (rEqTh X.K) := by
  intro pins s σ H x y v u Q I rx ry h
  obtain ⟨d, e, b, hx, hy, sd, se, he, q⟩ := h
  by_cases nd : ∃ k i, e = .dct k i
  · obtain ⟨k, i, rfl⟩ := nd
    obtain ⟨ya, rfl, hya⟩ := id hy
    rcases he with ⟨rfl, rfl⟩ | ⟨rfl, _, rfl⟩ | ⟨_, _, _, z, _⟩
    · obtain ⟨xa, rfl, hxa⟩ := id hx
      refine op_eqV hu pins s σ H _ _ v u Q I rx ry ⟨1, by decide, .inr ⟨xa, ya, _, _, rfl, rfl, hxa, hya, rfl, fun p hp => ?_⟩, q⟩
      obtain rfl := List.mem_singleton.mp hp
      exact ⟨.int i, by simp [valV], .inl ⟨rfl, rfl⟩⟩
    · obtain rfl := (show x = .str "w" from hx)
      exact op_eqSD (by omega) pins s σ H _ _ v u Q I rx ry ⟨"w", ya, _, rfl, rfl, hya, q⟩
    · cases z
  · have ne : ∀ k i, e ≠ .dct k i := fun k i z => nd ⟨k, i, z⟩
    obtain ⟨dy, sy⟩ := hy.dp (K := X.K) se ne
    rcases he with ⟨rfl, rfl⟩ | ⟨rfl, nw, rfl⟩ | ⟨i, j, rfl, rfl, nij, rfl⟩
    · obtain ⟨dx, sx⟩ := hx.dp (K := X.K) sd ne
      refine op_eqD hu pins s σ H _ _ v u Q I rx ry ⟨_, _, dx, dy, sx, sy, ?_⟩
      rw [SeqAt.eqv_refl _ (SeqAt.canLay_of_shaped sx)]
      exact q
    · obtain ⟨dx, sx⟩ := hx.dp (K := X.K) sd (fun k i z => by cases z)
      refine op_eqD hu pins s σ H _ _ v u Q I rx ry ⟨_, _, dx, dy, sx, sy, ?_⟩
      rw [show (Th.str "w").data = .str "w" from rfl, eqv_w nw ne]
      exact q
    · obtain ⟨dx, sx⟩ := hx.dp (K := X.K) sd (fun k i z => by cases z)
      refine op_eqD hu pins s σ H _ _ v u Q I rx ry ⟨_, _, dx, dy, sx, sy, ?_⟩
      rw [show PyData.eqv (Th.int i).data (Th.int j).data = false by simpa [Th.data, PyData.eqv] using nij]
      exact q
end
end Ev
namespace Ev
open PySem L2 PySem.Spec PyProof.Rows
def spBl (c : Bool) : Sp := fun vs H Q _ => ∃ v : V, vs = [v] ∧ Q (.bl c) H
theorem putF_new {k : Str} {v : V} : ∀ {l : List (Str × V)}, (∀ e ∈ l, ¬ e.1 = k) → putF k v l = l ++ [(k, v)]
  | [], _ => rfl
  | (k', v') :: l, h => by
    show (if k' = k then _ else _) = _
    rw [if_neg (h _ List.mem_cons_self)]
    show (k', v') :: putF k v l = _
    rw [putF_new (fun e he => h e (List.mem_cons_of_mem _ he))]
    rfl
theorem lkp_hit {k : Str} {v : V} {l : List (Str × V)} : List.lookup k ((k, v) :: l) = some v := by simp [List.lookup]
theorem lkp_miss {k k' : Str} {v : V} {l : List (Str × V)} (h : ¬ k = k') : List.lookup k ((k', v) :: l) = List.lookup k l := by
  have : (k == k') = false := by simpa using h
  simp [List.lookup, this]
/-- an instance's kind -/
structure InsT (K : PySem.W.Frag) (C : Addr) : Prop where
  ha : PySem.W.findIn K (.ref C) "__class__" = some (some (.builtin "object.__class__"))
  hn : PySem.W.specialIn K (.builtin "object.__class__") "__get__" = some (some (.builtin "getset_descriptor.__get__"))
  htk : PySem.W.takesIn K (.builtin "object.__class__") = some true
  hm : PySem.W.mroIn K C (.type "object") = some true
  ic : PySem.W.isClsIn K C = true
  tt : PySem.W.typeIn K (.ref C) = some (.type "type")
theorem kit_self {K : PySem.W.Frag} {C : Addr} : PySem.W.kitOne K (.ref C) (.ref C) = some true := by
  unfold PySem.W.kitOne
  rw [if_pos (by simp)]
structure CWithin (K : PySem.W.Frag) (C : Addr) : Prop where
  cl : Cls K C
  n1 : NoAttr K C "paper"
def WithinF (v1 : V) : List (Str × V) := [("paper", v1)]
theorem Within_l1 (v1 : V) : (WithinF v1).lookup ("paper" : Str) = some v1 := lkp_hit
theorem Within_p1 {v1 : V} : putF "paper" v1 [] = ([("paper", v1)] : List (Str × V)) := rfl
def WithinAt (C : Addr) (H : Hp) (x : Addr) (d1 : Th) : Prop := ∃ (dx : Addr) (v1 : V), H x = some (.ins C dx (WithinF v1)) ∧ d1.on H v1
theorem WithinAt.keep {C x : Addr} {H H' : Hp} {d1 : Th} (h : WithinAt C H x d1) (k : Same H H') : WithinAt C H' x d1 := by
  obtain ⟨dx, v1, h0, hv1⟩ := h
  exact ⟨dx, v1, k _ _ h0, hv1.keep k⟩
def spWithinI (C : Addr) : Sp := fun vs H Q _ => ∃ (x dx : Addr) (v1 : V) (d1 : Th), vs = [.ref x, v1] ∧ H x = some (.ins C dx []) ∧ d1.on H v1 ∧ d1.short ∧ ∀ H', But x H H' → WithinAt C H' x d1 → Q .non H'
def spWithinE (K : PySem.W.Frag) (C : Addr) : Sp := fun vs H Q _ => ∃ (x : Addr) (y : V) (d1 : Th), vs = [.ref x, y] ∧ WithinAt C H x d1 ∧ d1.short ∧
  ((∃ (z : Addr) (e1 : Th) (b1 : Bool), y = .ref z ∧ WithinAt C H z e1 ∧ e1.short ∧ EqTh d1 e1 b1 ∧ Q (.bl (b1)) H) ∨
   (∃ t : Value, TyX K H y t ∧ PySem.W.kitOne K t (.ref C) = some false ∧ Q (.bl false) H))
section
variable {P : Program} {w : World} {K : PySem.W.Frag} {mg : Str → Option Value} {base : Heap}
theorem scWithinI : FnScope ["self", "paper"] ["self", "paper"] (defScope sWithin_init) := ⟨rfl, rfl, rfl, by decide +kernel, rfl, by decide +kernel, by decide +kernel⟩
theorem ok_WithinI {f C : Addr} {fd : FuncData} (F : Fun K "__init__" "Within.__init__" sWithin_init f fd) (T : CWithin K C) (D : Df P w K mg base 3 "kept" ["value"] spKeptV) : FnOk P w K mg base CX0 4 f fd ["self", "paper"] (spWithinI C) := by
  obtain ⟨f1, fd1, G1, g1, k1, b1⟩ := D.ex
  refine F.ok scWithinI (fun vs H Q E h => ?_) (fun cdv A outer s H vs Q E hr h => ?_)
  · obtain ⟨x, dx, v1, d1, rfl, _⟩ := h
    rfl
  · obtain ⟨x, dx, v1, d1, rfl, hx, hv1, sd1, kk⟩ := h
    refine ⟨_, (pss_one (ps_fld (pv 0) (pe_call G1 hr (by rfl) g1 k1 b1 .nil pass0 (pa_cons (pv 1) pa_nil)) rfl)), ?_⟩
    have t0 : But x H H := fun _ _ _ e => e
    have x0 := hx
    obtain ⟨us1, bb1, ho1⟩ := (hv1.butI hx t0).hold sd1
    refine ⟨_, rfl, v1, us1, bb1, rfl, ho1, fun u1 H1' s1 al1 => ?_⟩
    have q1 := (hv1.butI hx t0).alike s1 al1
    refine ⟨_, rfl, x, C, dx, _, rfl, s1 _ _ x0, T.cl, T.n1, (by show 0 < 1000; decide), ?_⟩
    rw [Within_p1]
    have w1 : But x H1' (upd H1' x (.ins C dx [("paper", u1)])) := But.upd_at
    have x1 : upd H1' x (.ins C dx [("paper", u1)]) x = some (.ins C dx [("paper", u1)]) := upd_same
    have t1 : But x H (upd H1' x (.ins C dx [("paper", u1)])) := t0.trans ((Same.but s1).trans But.upd_at)
    replace q1 := q1.butI (s1 _ _ x0) w1
    exact kk _ t1 ⟨dx, u1, x1, q1⟩
theorem scWithinE : FnScope ["self", "other"] ["self", "other"] (defScope sWithin_eq) := ⟨rfl, rfl, rfl, by decide +kernel, rfl, by decide +kernel, by decide +kernel⟩
theorem ok_WithinE {f C : Addr} {fd : FuncData} (F : Fun K "__eq__" "Within.__eq__" sWithin_eq f fd) (T : Blt mg) (TC : CWithin K C) (IT : InsT K C) (gC : mg "Within" = some (.ref C)) : FnOk P w K mg base CX0 1 f fd ["self", "other"] (spWithinE K C) := by
  refine F.ok scWithinE (fun vs H Q E h => ?_) (fun cdv A outer s H vs Q E hr h => ?_)
  · obtain ⟨x, y, d1, rfl, _⟩ := h
    rfl
  · obtain ⟨x, y, d1, rfl, ⟨dx, v1, hx, hv1⟩, sd1, h⟩ := h
    refine ⟨_, pss_one (ps_ret (pe_and (pe_callB call_isi (by rfl) T.isi (by decide +kernel) (pa_cons (pv 1) (pa_cons (pe_glob (v := .ref C) rfl gC rfl) pa_nil)))
      (pe_one (pe_cmpR (op_eqTh (Room.units hr)) (pe_fld (pv 0) rfl) (pe_fld (pv 1) rfl) (nomark _))))), ?_⟩
    rcases h with ⟨z, e1, b1, rfl, ⟨dy, u1, hy, hu1⟩, se1, qb1, k⟩ | ⟨t, ty, kt, k⟩
    · refine ⟨_, rfl, _, _, _, _, true, rfl, .own C, .base (.ins hy TC.cl IT.ha IT.hn IT.htk IT.hm), kit_self, true, rfl, iteT ?_⟩
      exact ⟨_, rfl, x, C, dx, _, _, rfl, hx, TC.cl, TC.n1, Within_l1 _ , _, rfl, z, C, dy, _, _, rfl, hy, TC.cl, TC.n1, Within_l1 _ , d1, e1, b1, hv1, hu1, sd1, se1, qb1, k⟩
    · exact ⟨_, rfl, _, _, _, _, false, rfl, .own C, ty, kt, _, rfl, iteF k⟩
theorem scWithinB : FnScope ["self"] ["self"] (defScope sWithin_bool) := ⟨rfl, rfl, rfl, by decide +kernel, rfl, by decide +kernel, by decide +kernel⟩
theorem ok_WithinB {f : Addr} {fd : FuncData} (F : Fun K "__bool__" "Within.__bool__" sWithin_bool f fd) : FnOk P w K mg base CX0 1 f fd ["self"] (spBl true) := by
  refine F.ok scWithinB (fun vs H Q E h => ?_) (fun cdv A outer s H vs Q E hr h => ?_)
  · obtain ⟨v, rfl, _⟩ := h
    rfl
  · obtain ⟨v, rfl, k⟩ := h
    refine ⟨_, pss_one (ps_ret pe_bl), ?_⟩
    exact k
end
structure CParted (K : PySem.W.Frag) (C : Addr) : Prop where
  cl : Cls K C
  n1 : NoAttr K C "light"
  n2 : NoAttr K C "heavy"
def PartedF (v1 v2 : V) : List (Str × V) := [("light", v1), ("heavy", v2)]
theorem Parted_l1 (v1 v2 : V) : (PartedF v1 v2).lookup ("light" : Str) = some v1 := lkp_hit
theorem Parted_p1 {v1 : V} : putF "light" v1 [] = ([("light", v1)] : List (Str × V)) := rfl
theorem Parted_l2 (v1 v2 : V) : (PartedF v1 v2).lookup ("heavy" : Str) = some v2 := (lkp_miss (by decide +kernel)).trans (lkp_hit)
theorem Parted_p2 {v1 v2 : V} : putF "heavy" v2 ([("light", v1)] : List (Str × V)) = ([("light", v1), ("heavy", v2)] : List (Str × V)) := putF_new (by intro e0 he; simp only [List.mem_cons, List.not_mem_nil, or_false] at he; subst he; dsimp only; decide +kernel)
def PartedAt (C : Addr) (H : Hp) (x : Addr) (d1 d2 : Th) : Prop := ∃ (dx : Addr) (v1 v2 : V), H x = some (.ins C dx (PartedF v1 v2)) ∧ d1.on H v1 ∧ d2.on H v2
theorem PartedAt.keep {C x : Addr} {H H' : Hp} {d1 d2 : Th} (h : PartedAt C H x d1 d2) (k : Same H H') : PartedAt C H' x d1 d2 := by
  obtain ⟨dx, v1, v2, h0, hv1, hv2⟩ := h
  exact ⟨dx, v1, v2, k _ _ h0, hv1.keep k, hv2.keep k⟩
def spPartedI (C : Addr) : Sp := fun vs H Q _ => ∃ (x dx : Addr) (v1 v2 : V) (d1 d2 : Th), vs = [.ref x, v1, v2] ∧ H x = some (.ins C dx []) ∧ d1.on H v1 ∧ d2.on H v2 ∧ d1.short ∧ d2.short ∧ ∀ H', But x H H' → PartedAt C H' x d1 d2 → Q .non H'
def spPartedE (K : PySem.W.Frag) (C : Addr) : Sp := fun vs H Q _ => ∃ (x : Addr) (y : V) (d1 d2 : Th), vs = [.ref x, y] ∧ PartedAt C H x d1 d2 ∧ d1.short ∧ d2.short ∧
  ((∃ (z : Addr) (e1 e2 : Th) (b1 b2 : Bool), y = .ref z ∧ PartedAt C H z e1 e2 ∧ e1.short ∧ e2.short ∧ EqTh d1 e1 b1 ∧ EqTh d2 e2 b2 ∧ Q (.bl (b1 && (b2))) H) ∨
   (∃ t : Value, TyX K H y t ∧ PySem.W.kitOne K t (.ref C) = some false ∧ Q (.bl false) H))
section
variable {P : Program} {w : World} {K : PySem.W.Frag} {mg : Str → Option Value} {base : Heap}
theorem scPartedI : FnScope ["self", "light", "heavy"] ["self", "light", "heavy"] (defScope sParted_init) := ⟨rfl, rfl, rfl, by decide +kernel, rfl, by decide +kernel, by decide +kernel⟩
theorem ok_PartedI {f C : Addr} {fd : FuncData} (F : Fun K "__init__" "Parted.__init__" sParted_init f fd) (T : CParted K C) (D : Df P w K mg base 3 "kept" ["value"] spKeptV) : FnOk P w K mg base CX0 4 f fd ["self", "light", "heavy"] (spPartedI C) := by
  obtain ⟨f1, fd1, G1, g1, k1, b1⟩ := D.ex
  refine F.ok scPartedI (fun vs H Q E h => ?_) (fun cdv A outer s H vs Q E hr h => ?_)
  · obtain ⟨x, dx, v1, v2, d1, d2, rfl, _⟩ := h
    rfl
  · obtain ⟨x, dx, v1, v2, d1, d2, rfl, hx, hv1, hv2, sd1, sd2, kk⟩ := h
    refine ⟨_, (pss_cons (ps_fld (pv 0) (pe_call G1 hr (by rfl) g1 k1 b1 .nil pass0 (pa_cons (pv 1) pa_nil)) rfl)
      (pss_one (ps_fld (pv 0) (pe_call G1 hr (by rfl) g1 k1 b1 .nil pass0 (pa_cons (pv 2) pa_nil)) rfl))), ?_⟩
    have t0 : But x H H := fun _ _ _ e => e
    have x0 := hx
    obtain ⟨us1, bb1, ho1⟩ := (hv1.butI hx t0).hold sd1
    refine ⟨_, rfl, v1, us1, bb1, rfl, ho1, fun u1 H1' s1 al1 => ?_⟩
    have q1 := (hv1.butI hx t0).alike s1 al1
    refine ⟨_, rfl, x, C, dx, _, rfl, s1 _ _ x0, T.cl, T.n1, (by show 0 < 1000; decide), ?_⟩
    rw [Parted_p1]
    have w1 : But x H1' (upd H1' x (.ins C dx [("light", u1)])) := But.upd_at
    have x1 : upd H1' x (.ins C dx [("light", u1)]) x = some (.ins C dx [("light", u1)]) := upd_same
    have t1 : But x H (upd H1' x (.ins C dx [("light", u1)])) := t0.trans ((Same.but s1).trans But.upd_at)
    replace q1 := q1.butI (s1 _ _ x0) w1
    generalize upd H1' x (.ins C dx [("light", u1)]) = G1' at x1 t1 q1 ⊢
    clear w1
    obtain ⟨us2, bb2, ho2⟩ := (hv2.butI hx t1).hold sd2
    refine ⟨_, rfl, v2, us2, bb2, rfl, ho2, fun u2 H2' s2 al2 => ?_⟩
    have q2 := (hv2.butI hx t1).alike s2 al2
    refine ⟨_, rfl, x, C, dx, _, rfl, s2 _ _ x1, T.cl, T.n2, (by show 1 < 1000; decide), ?_⟩
    rw [Parted_p2]
    have w2 : But x H2' (upd H2' x (.ins C dx [("light", u1), ("heavy", u2)])) := But.upd_at
    have x2 : upd H2' x (.ins C dx [("light", u1), ("heavy", u2)]) x = some (.ins C dx [("light", u1), ("heavy", u2)]) := upd_same
    have t2 : But x H (upd H2' x (.ins C dx [("light", u1), ("heavy", u2)])) := t1.trans ((Same.but s2).trans But.upd_at)
    replace q2 := q2.butI (s2 _ _ x1) w2
    replace q1 := (q1.keep s2).butI (s2 _ _ x1) w2
    exact kk _ t2 ⟨dx, u1, u2, x2, q1, q2⟩
theorem scPartedE : FnScope ["self", "other"] ["self", "other"] (defScope sParted_eq) := ⟨rfl, rfl, rfl, by decide +kernel, rfl, by decide +kernel, by decide +kernel⟩
theorem ok_PartedE {f C : Addr} {fd : FuncData} (F : Fun K "__eq__" "Parted.__eq__" sParted_eq f fd) (T : Blt mg) (TC : CParted K C) (IT : InsT K C) (gC : mg "Parted" = some (.ref C)) : FnOk P w K mg base CX0 1 f fd ["self", "other"] (spPartedE K C) := by
  refine F.ok scPartedE (fun vs H Q E h => ?_) (fun cdv A outer s H vs Q E hr h => ?_)
  · obtain ⟨x, y, d1, d2, rfl, _⟩ := h
    rfl
  · obtain ⟨x, y, d1, d2, rfl, ⟨dx, v1, v2, hx, hv1, hv2⟩, sd1, sd2, h⟩ := h
    refine ⟨_, pss_one (ps_ret (pe_and (pe_callB call_isi (by rfl) T.isi (by decide +kernel) (pa_cons (pv 1) (pa_cons (pe_glob (v := .ref C) rfl gC rfl) pa_nil)))
      (pe_and (pe_cmpR (op_eqTh (Room.units hr)) (pe_fld (pv 0) rfl) (pe_fld (pv 1) rfl) (nomark _)) (pe_one (pe_cmpR (op_eqTh (Room.units hr)) (pe_fld (pv 0) rfl) (pe_fld (pv 1) rfl) (nomark _)))))), ?_⟩
    rcases h with ⟨z, e1, e2, b1, b2, rfl, ⟨dy, u1, u2, hy, hu1, hu2⟩, se1, se2, qb1, qb2, k⟩ | ⟨t, ty, kt, k⟩
    · refine ⟨_, rfl, _, _, _, _, true, rfl, .own C, .base (.ins hy TC.cl IT.ha IT.hn IT.htk IT.hm), kit_self, true, rfl, iteT ?_⟩
      refine ⟨_, rfl, x, C, dx, _, _, rfl, hx, TC.cl, TC.n1, Parted_l1 _ _ , _, rfl, z, C, dy, _, _, rfl, hy, TC.cl, TC.n1, Parted_l1 _ _ , d1, e1, b1, hv1, hu1, sd1, se1, qb1, _, rfl, ?_⟩
      cases b1 with
      | false => exact iteF (by simpa using k)
      | true =>
      refine iteT ?_
      rw [Bool.true_and] at k
      exact ⟨_, rfl, x, C, dx, _, _, rfl, hx, TC.cl, TC.n2, Parted_l2 _ _ , _, rfl, z, C, dy, _, _, rfl, hy, TC.cl, TC.n2, Parted_l2 _ _ , d2, e2, b2, hv2, hu2, sd2, se2, qb2, k⟩
    · exact ⟨_, rfl, _, _, _, _, false, rfl, .own C, ty, kt, _, rfl, iteF k⟩
theorem scPartedB : FnScope ["self"] ["self"] (defScope sParted_bool) := ⟨rfl, rfl, rfl, by decide +kernel, rfl, by decide +kernel, by decide +kernel⟩
theorem ok_PartedB {f : Addr} {fd : FuncData} (F : Fun K "__bool__" "Parted.__bool__" sParted_bool f fd) : FnOk P w K mg base CX0 1 f fd ["self"] (spBl false) := by
  refine F.ok scPartedB (fun vs H Q E h => ?_) (fun cdv A outer s H vs Q E hr h => ?_)
  · obtain ⟨v, rfl, _⟩ := h
    rfl
  · obtain ⟨v, rfl, k⟩ := h
    refine ⟨_, pss_one (ps_ret pe_bl), ?_⟩
    exact k
end
structure CMet (K : PySem.W.Frag) (C : Addr) : Prop where
  cl : Cls K C
  n1 : NoAttr K C "light"
  n2 : NoAttr K C "inner"
  n3 : NoAttr K C "outer"
def MetF (v1 v2 v3 : V) : List (Str × V) := [("light", v1), ("inner", v2), ("outer", v3)]
theorem Met_l1 (v1 v2 v3 : V) : (MetF v1 v2 v3).lookup ("light" : Str) = some v1 := lkp_hit
theorem Met_p1 {v1 : V} : putF "light" v1 [] = ([("light", v1)] : List (Str × V)) := rfl
theorem Met_l2 (v1 v2 v3 : V) : (MetF v1 v2 v3).lookup ("inner" : Str) = some v2 := (lkp_miss (by decide +kernel)).trans (lkp_hit)
theorem Met_p2 {v1 v2 : V} : putF "inner" v2 ([("light", v1)] : List (Str × V)) = ([("light", v1), ("inner", v2)] : List (Str × V)) := putF_new (by intro e0 he; simp only [List.mem_cons, List.not_mem_nil, or_false] at he; subst he; dsimp only; decide +kernel)
theorem Met_l3 (v1 v2 v3 : V) : (MetF v1 v2 v3).lookup ("outer" : Str) = some v3 := (lkp_miss (by decide +kernel)).trans ((lkp_miss (by decide +kernel)).trans (lkp_hit))
theorem Met_p3 {v1 v2 v3 : V} : putF "outer" v3 ([("light", v1), ("inner", v2)] : List (Str × V)) = ([("light", v1), ("inner", v2), ("outer", v3)] : List (Str × V)) := putF_new (by intro e0 he; simp only [List.mem_cons, List.not_mem_nil, or_false] at he; rcases he with rfl | rfl <;> (dsimp only; decide +kernel))
def MetAt (C : Addr) (H : Hp) (x : Addr) (d1 d2 d3 : Th) : Prop := ∃ (dx : Addr) (v1 v2 v3 : V), H x = some (.ins C dx (MetF v1 v2 v3)) ∧ d1.on H v1 ∧ d2.on H v2 ∧ d3.on H v3
theorem MetAt.keep {C x : Addr} {H H' : Hp} {d1 d2 d3 : Th} (h : MetAt C H x d1 d2 d3) (k : Same H H') : MetAt C H' x d1 d2 d3 := by
  obtain ⟨dx, v1, v2, v3, h0, hv1, hv2, hv3⟩ := h
  exact ⟨dx, v1, v2, v3, k _ _ h0, hv1.keep k, hv2.keep k, hv3.keep k⟩
def spMetI (C : Addr) : Sp := fun vs H Q _ => ∃ (x dx : Addr) (v1 v2 v3 : V) (d1 d2 d3 : Th), vs = [.ref x, v1, v2, v3] ∧ H x = some (.ins C dx []) ∧ d1.on H v1 ∧ d2.on H v2 ∧ d3.on H v3 ∧ d1.short ∧ d2.short ∧ d3.short ∧ ∀ H', But x H H' → MetAt C H' x d1 d2 d3 → Q .non H'
def spMetE (K : PySem.W.Frag) (C : Addr) : Sp := fun vs H Q _ => ∃ (x : Addr) (y : V) (d1 d2 d3 : Th), vs = [.ref x, y] ∧ MetAt C H x d1 d2 d3 ∧ d1.short ∧ d2.short ∧ d3.short ∧
  ((∃ (z : Addr) (e1 e2 e3 : Th) (b1 b2 b3 : Bool), y = .ref z ∧ MetAt C H z e1 e2 e3 ∧ e1.short ∧ e2.short ∧ e3.short ∧ EqTh d1 e1 b1 ∧ EqTh d2 e2 b2 ∧ EqTh d3 e3 b3 ∧ Q (.bl (b1 && (b2 && (b3)))) H) ∨
   (∃ t : Value, TyX K H y t ∧ PySem.W.kitOne K t (.ref C) = some false ∧ Q (.bl false) H))
section
variable {P : Program} {w : World} {K : PySem.W.Frag} {mg : Str → Option Value} {base : Heap}
theorem scMetI : FnScope ["self", "light", "inner", "outer"] ["self", "light", "inner", "outer"] (defScope sMet_init) := ⟨rfl, rfl, rfl, by decide +kernel, rfl, by decide +kernel, by decide +kernel⟩
theorem ok_MetI {f C : Addr} {fd : FuncData} (F : Fun K "__init__" "Met.__init__" sMet_init f fd) (T : CMet K C) (D : Df P w K mg base 3 "kept" ["value"] spKeptV) : FnOk P w K mg base CX0 4 f fd ["self", "light", "inner", "outer"] (spMetI C) := by
  obtain ⟨f1, fd1, G1, g1, k1, b1⟩ := D.ex
  refine F.ok scMetI (fun vs H Q E h => ?_) (fun cdv A outer s H vs Q E hr h => ?_)
  · obtain ⟨x, dx, v1, v2, v3, d1, d2, d3, rfl, _⟩ := h
    rfl
  · obtain ⟨x, dx, v1, v2, v3, d1, d2, d3, rfl, hx, hv1, hv2, hv3, sd1, sd2, sd3, kk⟩ := h
    refine ⟨_, (pss_cons (ps_fld (pv 0) (pe_call G1 hr (by rfl) g1 k1 b1 .nil pass0 (pa_cons (pv 1) pa_nil)) rfl)
      (pss_cons (ps_fld (pv 0) (pe_call G1 hr (by rfl) g1 k1 b1 .nil pass0 (pa_cons (pv 2) pa_nil)) rfl)
      (pss_one (ps_fld (pv 0) (pe_call G1 hr (by rfl) g1 k1 b1 .nil pass0 (pa_cons (pv 3) pa_nil)) rfl)))), ?_⟩
    have t0 : But x H H := fun _ _ _ e => e
    have x0 := hx
    obtain ⟨us1, bb1, ho1⟩ := (hv1.butI hx t0).hold sd1
    refine ⟨_, rfl, v1, us1, bb1, rfl, ho1, fun u1 H1' s1 al1 => ?_⟩
    have q1 := (hv1.butI hx t0).alike s1 al1
    refine ⟨_, rfl, x, C, dx, _, rfl, s1 _ _ x0, T.cl, T.n1, (by show 0 < 1000; decide), ?_⟩
    rw [Met_p1]
    have w1 : But x H1' (upd H1' x (.ins C dx [("light", u1)])) := But.upd_at
    have x1 : upd H1' x (.ins C dx [("light", u1)]) x = some (.ins C dx [("light", u1)]) := upd_same
    have t1 : But x H (upd H1' x (.ins C dx [("light", u1)])) := t0.trans ((Same.but s1).trans But.upd_at)
    replace q1 := q1.butI (s1 _ _ x0) w1
    generalize upd H1' x (.ins C dx [("light", u1)]) = G1' at x1 t1 q1 ⊢
    clear w1
    obtain ⟨us2, bb2, ho2⟩ := (hv2.butI hx t1).hold sd2
    refine ⟨_, rfl, v2, us2, bb2, rfl, ho2, fun u2 H2' s2 al2 => ?_⟩
    have q2 := (hv2.butI hx t1).alike s2 al2
    refine ⟨_, rfl, x, C, dx, _, rfl, s2 _ _ x1, T.cl, T.n2, (by show 1 < 1000; decide), ?_⟩
    rw [Met_p2]
    have w2 : But x H2' (upd H2' x (.ins C dx [("light", u1), ("inner", u2)])) := But.upd_at
    have x2 : upd H2' x (.ins C dx [("light", u1), ("inner", u2)]) x = some (.ins C dx [("light", u1), ("inner", u2)]) := upd_same
    have t2 : But x H (upd H2' x (.ins C dx [("light", u1), ("inner", u2)])) := t1.trans ((Same.but s2).trans But.upd_at)
    replace q2 := q2.butI (s2 _ _ x1) w2
    replace q1 := (q1.keep s2).butI (s2 _ _ x1) w2
    generalize upd H2' x (.ins C dx [("light", u1), ("inner", u2)]) = G2' at x2 t2 q1 q2 ⊢
    clear w2
    obtain ⟨us3, bb3, ho3⟩ := (hv3.butI hx t2).hold sd3
    refine ⟨_, rfl, v3, us3, bb3, rfl, ho3, fun u3 H3' s3 al3 => ?_⟩
    have q3 := (hv3.butI hx t2).alike s3 al3
    refine ⟨_, rfl, x, C, dx, _, rfl, s3 _ _ x2, T.cl, T.n3, (by show 2 < 1000; decide), ?_⟩
    rw [Met_p3]
    have w3 : But x H3' (upd H3' x (.ins C dx [("light", u1), ("inner", u2), ("outer", u3)])) := But.upd_at
    have x3 : upd H3' x (.ins C dx [("light", u1), ("inner", u2), ("outer", u3)]) x = some (.ins C dx [("light", u1), ("inner", u2), ("outer", u3)]) := upd_same
    have t3 : But x H (upd H3' x (.ins C dx [("light", u1), ("inner", u2), ("outer", u3)])) := t2.trans ((Same.but s3).trans But.upd_at)
    replace q3 := q3.butI (s3 _ _ x2) w3
    replace q1 := (q1.keep s3).butI (s3 _ _ x2) w3
    replace q2 := (q2.keep s3).butI (s3 _ _ x2) w3
    exact kk _ t3 ⟨dx, u1, u2, u3, x3, q1, q2, q3⟩
theorem scMetE : FnScope ["self", "other"] ["self", "other"] (defScope sMet_eq) := ⟨rfl, rfl, rfl, by decide +kernel, rfl, by decide +kernel, by decide +kernel⟩
theorem ok_MetE {f C : Addr} {fd : FuncData} (F : Fun K "__eq__" "Met.__eq__" sMet_eq f fd) (T : Blt mg) (TC : CMet K C) (IT : InsT K C) (gC : mg "Met" = some (.ref C)) : FnOk P w K mg base CX0 1 f fd ["self", "other"] (spMetE K C) := by
  refine F.ok scMetE (fun vs H Q E h => ?_) (fun cdv A outer s H vs Q E hr h => ?_)
  · obtain ⟨x, y, d1, d2, d3, rfl, _⟩ := h
    rfl
  · obtain ⟨x, y, d1, d2, d3, rfl, ⟨dx, v1, v2, v3, hx, hv1, hv2, hv3⟩, sd1, sd2, sd3, h⟩ := h
    refine ⟨_, pss_one (ps_ret (pe_and (pe_callB call_isi (by rfl) T.isi (by decide +kernel) (pa_cons (pv 1) (pa_cons (pe_glob (v := .ref C) rfl gC rfl) pa_nil)))
      (pe_and (pe_cmpR (op_eqTh (Room.units hr)) (pe_fld (pv 0) rfl) (pe_fld (pv 1) rfl) (nomark _)) (pe_and (pe_cmpR (op_eqTh (Room.units hr)) (pe_fld (pv 0) rfl) (pe_fld (pv 1) rfl) (nomark _)) (pe_one (pe_cmpR (op_eqTh (Room.units hr)) (pe_fld (pv 0) rfl) (pe_fld (pv 1) rfl) (nomark _))))))), ?_⟩
    rcases h with ⟨z, e1, e2, e3, b1, b2, b3, rfl, ⟨dy, u1, u2, u3, hy, hu1, hu2, hu3⟩, se1, se2, se3, qb1, qb2, qb3, k⟩ | ⟨t, ty, kt, k⟩
    · refine ⟨_, rfl, _, _, _, _, true, rfl, .own C, .base (.ins hy TC.cl IT.ha IT.hn IT.htk IT.hm), kit_self, true, rfl, iteT ?_⟩
      refine ⟨_, rfl, x, C, dx, _, _, rfl, hx, TC.cl, TC.n1, Met_l1 _ _ _ , _, rfl, z, C, dy, _, _, rfl, hy, TC.cl, TC.n1, Met_l1 _ _ _ , d1, e1, b1, hv1, hu1, sd1, se1, qb1, _, rfl, ?_⟩
      cases b1 with
      | false => exact iteF (by simpa using k)
      | true =>
      refine iteT ?_
      rw [Bool.true_and] at k
      refine ⟨_, rfl, x, C, dx, _, _, rfl, hx, TC.cl, TC.n2, Met_l2 _ _ _ , _, rfl, z, C, dy, _, _, rfl, hy, TC.cl, TC.n2, Met_l2 _ _ _ , d2, e2, b2, hv2, hu2, sd2, se2, qb2, _, rfl, ?_⟩
      cases b2 with
      | false => exact iteF (by simpa using k)
      | true =>
      refine iteT ?_
      rw [Bool.true_and] at k
      exact ⟨_, rfl, x, C, dx, _, _, rfl, hx, TC.cl, TC.n3, Met_l3 _ _ _ , _, rfl, z, C, dy, _, _, rfl, hy, TC.cl, TC.n3, Met_l3 _ _ _ , d3, e3, b3, hv3, hu3, sd3, se3, qb3, k⟩
    · exact ⟨_, rfl, _, _, _, _, false, rfl, .own C, ty, kt, _, rfl, iteF k⟩
theorem scMetB : FnScope ["self"] ["self"] (defScope sMet_bool) := ⟨rfl, rfl, rfl, by decide +kernel, rfl, by decide +kernel, by decide +kernel⟩
theorem ok_MetB {f : Addr} {fd : FuncData} (F : Fun K "__bool__" "Met.__bool__" sMet_bool f fd) : FnOk P w K mg base CX0 1 f fd ["self"] (spBl true) := by
  refine F.ok scMetB (fun vs H Q E h => ?_) (fun cdv A outer s H vs Q E hr h => ?_)
  · obtain ⟨v, rfl, _⟩ := h
    rfl
  · obtain ⟨v, rfl, k⟩ := h
    refine ⟨_, pss_one (ps_ret pe_bl), ?_⟩
    exact k
end
structure CNever (K : PySem.W.Frag) (C : Addr) : Prop where
  cl : Cls K C
  n1 : NoAttr K C "paper"
def NeverF (v1 : V) : List (Str × V) := [("paper", v1)]
theorem Never_l1 (v1 : V) : (NeverF v1).lookup ("paper" : Str) = some v1 := lkp_hit
theorem Never_p1 {v1 : V} : putF "paper" v1 [] = ([("paper", v1)] : List (Str × V)) := rfl
def NeverAt (C : Addr) (H : Hp) (x : Addr) (d1 : Th) : Prop := ∃ (dx : Addr) (v1 : V), H x = some (.ins C dx (NeverF v1)) ∧ d1.on H v1
theorem NeverAt.keep {C x : Addr} {H H' : Hp} {d1 : Th} (h : NeverAt C H x d1) (k : Same H H') : NeverAt C H' x d1 := by
  obtain ⟨dx, v1, h0, hv1⟩ := h
  exact ⟨dx, v1, k _ _ h0, hv1.keep k⟩
def spNeverI (C : Addr) : Sp := fun vs H Q _ => ∃ (x dx : Addr) (v1 : V) (d1 : Th), vs = [.ref x, v1] ∧ H x = some (.ins C dx []) ∧ d1.on H v1 ∧ d1.short ∧ ∀ H', But x H H' → NeverAt C H' x d1 → Q .non H'
def spNeverE (K : PySem.W.Frag) (C : Addr) : Sp := fun vs H Q _ => ∃ (x : Addr) (y : V) (d1 : Th), vs = [.ref x, y] ∧ NeverAt C H x d1 ∧ d1.short ∧
  ((∃ (z : Addr) (e1 : Th) (b1 : Bool), y = .ref z ∧ NeverAt C H z e1 ∧ e1.short ∧ EqTh d1 e1 b1 ∧ Q (.bl (b1)) H) ∨
   (∃ t : Value, TyX K H y t ∧ PySem.W.kitOne K t (.ref C) = some false ∧ Q (.bl false) H))
section
variable {P : Program} {w : World} {K : PySem.W.Frag} {mg : Str → Option Value} {base : Heap}
theorem scNeverI : FnScope ["self", "paper"] ["self", "paper"] (defScope sNever_init) := ⟨rfl, rfl, rfl, by decide +kernel, rfl, by decide +kernel, by decide +kernel⟩
theorem ok_NeverI {f C : Addr} {fd : FuncData} (F : Fun K "__init__" "Never.__init__" sNever_init f fd) (T : CNever K C) (D : Df P w K mg base 3 "kept" ["value"] spKeptV) : FnOk P w K mg base CX0 4 f fd ["self", "paper"] (spNeverI C) := by
  obtain ⟨f1, fd1, G1, g1, k1, b1⟩ := D.ex
  refine F.ok scNeverI (fun vs H Q E h => ?_) (fun cdv A outer s H vs Q E hr h => ?_)
  · obtain ⟨x, dx, v1, d1, rfl, _⟩ := h
    rfl
  · obtain ⟨x, dx, v1, d1, rfl, hx, hv1, sd1, kk⟩ := h
    refine ⟨_, (pss_one (ps_fld (pv 0) (pe_call G1 hr (by rfl) g1 k1 b1 .nil pass0 (pa_cons (pv 1) pa_nil)) rfl)), ?_⟩
    have t0 : But x H H := fun _ _ _ e => e
    have x0 := hx
    obtain ⟨us1, bb1, ho1⟩ := (hv1.butI hx t0).hold sd1
    refine ⟨_, rfl, v1, us1, bb1, rfl, ho1, fun u1 H1' s1 al1 => ?_⟩
    have q1 := (hv1.butI hx t0).alike s1 al1
    refine ⟨_, rfl, x, C, dx, _, rfl, s1 _ _ x0, T.cl, T.n1, (by show 0 < 1000; decide), ?_⟩
    rw [Never_p1]
    have w1 : But x H1' (upd H1' x (.ins C dx [("paper", u1)])) := But.upd_at
    have x1 : upd H1' x (.ins C dx [("paper", u1)]) x = some (.ins C dx [("paper", u1)]) := upd_same
    have t1 : But x H (upd H1' x (.ins C dx [("paper", u1)])) := t0.trans ((Same.but s1).trans But.upd_at)
    replace q1 := q1.butI (s1 _ _ x0) w1
    exact kk _ t1 ⟨dx, u1, x1, q1⟩
theorem scNeverE : FnScope ["self", "other"] ["self", "other"] (defScope sNever_eq) := ⟨rfl, rfl, rfl, by decide +kernel, rfl, by decide +kernel, by decide +kernel⟩
theorem ok_NeverE {f C : Addr} {fd : FuncData} (F : Fun K "__eq__" "Never.__eq__" sNever_eq f fd) (T : Blt mg) (TC : CNever K C) (IT : InsT K C) (gC : mg "Never" = some (.ref C)) : FnOk P w K mg base CX0 1 f fd ["self", "other"] (spNeverE K C) := by
  refine F.ok scNeverE (fun vs H Q E h => ?_) (fun cdv A outer s H vs Q E hr h => ?_)
  · obtain ⟨x, y, d1, rfl, _⟩ := h
    rfl
  · obtain ⟨x, y, d1, rfl, ⟨dx, v1, hx, hv1⟩, sd1, h⟩ := h
    refine ⟨_, pss_one (ps_ret (pe_and (pe_callB call_isi (by rfl) T.isi (by decide +kernel) (pa_cons (pv 1) (pa_cons (pe_glob (v := .ref C) rfl gC rfl) pa_nil)))
      (pe_one (pe_cmpR (op_eqTh (Room.units hr)) (pe_fld (pv 0) rfl) (pe_fld (pv 1) rfl) (nomark _))))), ?_⟩
    rcases h with ⟨z, e1, b1, rfl, ⟨dy, u1, hy, hu1⟩, se1, qb1, k⟩ | ⟨t, ty, kt, k⟩
    · refine ⟨_, rfl, _, _, _, _, true, rfl, .own C, .base (.ins hy TC.cl IT.ha IT.hn IT.htk IT.hm), kit_self, true, rfl, iteT ?_⟩
      exact ⟨_, rfl, x, C, dx, _, _, rfl, hx, TC.cl, TC.n1, Never_l1 _ , _, rfl, z, C, dy, _, _, rfl, hy, TC.cl, TC.n1, Never_l1 _ , d1, e1, b1, hv1, hu1, sd1, se1, qb1, k⟩
    · exact ⟨_, rfl, _, _, _, _, false, rfl, .own C, ty, kt, _, rfl, iteF k⟩
theorem scNeverB : FnScope ["self"] ["self"] (defScope sNever_bool) := ⟨rfl, rfl, rfl, by decide +kernel, rfl, by decide +kernel, by decide +kernel⟩
theorem ok_NeverB {f : Addr} {fd : FuncData} (F : Fun K "__bool__" "Never.__bool__" sNever_bool f fd) : FnOk P w K mg base CX0 1 f fd ["self"] (spBl false) := by
  refine F.ok scNeverB (fun vs H Q E h => ?_) (fun cdv A outer s H vs Q E hr h => ?_)
  · obtain ⟨v, rfl, _⟩ := h
    rfl
  · obtain ⟨v, rfl, k⟩ := h
    refine ⟨_, pss_one (ps_ret pe_bl), ?_⟩
    exact k
end
end Ev
namespace Ev
open PySem L2 PySem.Spec PyProof.Rows
theorem Pen.new {L : Addr} {H : Hp} {p q : Addr} {B : Int} {o : HO} (h : Pen L H p B) (n : H q = none) : Pen L (upd H q o) p B := h.keep (fun b u e => by rw [upd_ne (ne_of_none e n)]; exact e)
theorem Pen.some {L : Addr} {H : Hp} {p : Addr} {B : Int} (h : Pen L H p B) : ∃ xs, H p = some (.lst xs) := by
  obtain ⟨ns, t, c, h1, _⟩ := h
  exact ⟨_, h1⟩
theorem Pen.ne {L : Addr} {H : Hp} {p q : Addr} {B : Int} (h : Pen L H p B) (n : H q = none) : q ≠ p := by
  obtain ⟨xs, e⟩ := h.some
  exact (ne_of_none e n).symm
theorem But.free {L p a : Addr} {H H' : Hp} {B : Int} (t : But p H H') (h : Pen L H' p B) (n : H' a = none) : H a = none := by
  cases e : H a with
  | none => rfl
  | some o =>
    have := t a o (h.ne n) e
    rw [n] at this
    cases this
def spPick : Sp := fun vs H Q _ => ∃ (p l L : Addr) (xs : List V) (B : Int), vs = [.ref p, .ref l] ∧ H l = some (.lst xs) ∧ l ≠ p ∧ 1 ≤ xs.length ∧ xs.length ≤ 1000 ∧ B ≤ 1000000 ∧ Pen L H p B ∧
  ∀ (d : V) (H' : Hp), d ∈ xs → But p H H' → Pen L H' p (B + 1) → Q d H'
def spPen (K : PySem.W.Frag) : Sp := fun vs H Q _ => ∃ (a : Addr) (ns : List Int), vs = [.ref a] ∧ SqL K H a (ns.map V.int) ∧ ns.length ≤ 63 ∧
  ∀ (p L : Addr) (H' : Hp), H p = none → Same H H' → Pen L H' p 0 → Q (.ref p) H'
def spLaw (K : PySem.W.Frag) : Sp := fun vs H Q _ => ∃ (a : Addr) (ns : List Int), vs = [.ref a] ∧ SqL K H a (ns.map V.int) ∧ ns.length ≤ 63 ∧ ∀ H', Q (.bl true) H'
theorem But.tup {L p a : Addr} {H H' : Hp} {B : Int} {xs : List V} (h : H a = some (.tup xs)) (pn : Pen L H p B) (t : But p H H') : H' a = some (.tup xs) := by
  obtain ⟨ys, e⟩ := pn.some
  exact t _ _ (ne_of h e (by intro z; cases z)) h
theorem Pen.put {L p D : Addr} {H : Hp} {B : Int} {o : HO} (h : Pen L H p B) (d1 : D ≠ p) (d2 : D ≠ L) : Pen L (upd H D o) p B := by
  obtain ⟨ns, t, c, h1, h2, h3⟩ := h
  exact ⟨ns, t, c, by rw [upd_ne d1.symm]; exact h1, by rw [upd_ne d2.symm]; exact h2, h3⟩
theorem Pen.neL {L p D : Addr} {H : Hp} {B : Int} (h : Pen L H p B) (n : H D = none) : D ≠ L := by
  obtain ⟨ns, t, c, h1, h2, h3⟩ := h
  exact (ne_of_none h2 n).symm
theorem cut_ints (ns : List Int) (h : Int) : ∃ ms : List Int, cutV (ns.map V.int) none (some h) = ms.map V.int ∧ ms.length ≤ ns.length := by
  unfold cutV
  generalize HT.sIx (ns.map V.int).length 0 none = x
  generalize HT.sIx (ns.map V.int).length (ns.map V.int).length (some h) - x = y
  refine ⟨(ns.drop x).take y, ?_, ?_⟩
  · rw [List.map_take, List.map_drop]
  · rw [List.length_take, List.length_drop]; omega
theorem int_at {ns : List Int} {i : Nat} {x : V} (h : (ns.map V.int)[i]? = some x) : ∃ n, ns[i]? = some n ∧ x = .int n := by
  rw [List.getElem?_map] at h
  cases z : ns[i]? with
  | none => rw [z] at h; cases h
  | some n => rw [z] at h; exact ⟨n, rfl, (Option.some.inj h).symm⟩
theorem m64 {q : Int} (h1 : 1 ≤ q) (h2 : q ≤ 8) : -(2 ^ 64) < q ∧ q < 2 ^ 64 := ⟨by omega, by omega⟩
section
variable {P : Program} {w : World} {K : PySem.W.Frag} {mg : Str → Option Value} {base : Heap}
theorem scPick : FnScope ["_law_pen_here", "_law_some"] ["_law_pen_here", "_law_some"] (defScope sPick) := ⟨rfl, rfl, rfl, by decide +kernel, rfl, by decide +kernel, by decide +kernel⟩
theorem ok_pick {f : Addr} {fd : FuncData} (F : Fun K "_law_pick" "_law_pick" sPick f fd) (T : Blt mg) (D : Df P w K mg base 1 "_law_draw" ["_law_pen_here", "_law_many"] spDraw) : FnOk P w K mg base CX0 2 f fd ["_law_pen_here", "_law_some"] spPick := by
  obtain ⟨f1, fd1, G1, g1, k1, b1⟩ := D.ex
  refine F.ok scPick (fun vs H Q E h => ?_) (fun cdv A outer s H vs Q E hr h => ?_)
  · obtain ⟨p, l, L, xs, B, rfl, _⟩ := h
    rfl
  · obtain ⟨p, l, L, xs, B, rfl, hl, hne, x1, x2, hB, hp, kk⟩ := h
    refine ⟨_, pss_one (ps_ret (pe_ix ix_list (pv 1) (pe_call G1 hr (by rfl) g1 k1 b1 .nil pass0 (pa_cons (pv 0) (pa_cons (pe_callB call_len_seq (by rfl) T.len PySem.boot_len (pa_cons (pv 1) pa_nil)) pa_nil))) (fun _ _ => rfl))), ?_⟩
    refine ⟨_, rfl, _, rfl, _, rfl, l, _, rfl, .inl (SqL.of hl), p, L, _, B, rfl, by omega, by omega, hB, hp, fun d H1 bt pn d0 d1 => ?_⟩
    obtain ⟨j, rfl⟩ := Int.eq_ofNat_of_zero_le d0
    have hj : j < xs.length := by omega
    refine ⟨l, xs, _, xs[j], rfl, rfl, SqL.of (bt _ _ hne hl), atI_nat (List.getElem?_eq_getElem hj), ?_⟩
    exact kk _ _ (List.getElem_mem hj) bt pn
theorem scPen : FnScope ["_law_script"] ["_law_script"] (defScope sPen) := ⟨rfl, rfl, rfl, by decide +kernel, rfl, by decide +kernel, by decide +kernel⟩
theorem ok_pen {f : Addr} {fd : FuncData} (F : Fun K "_law_pen" "_law_pen" sPen f fd) (T : Blt mg) : FnOk P w K mg base CX0 1 f fd ["_law_script"] (spPen K) := by
  refine F.ok scPen (fun vs H Q E h => ?_) (fun cdv A outer s H vs Q E hr h => ?_)
  · obtain ⟨a, ns, rfl, _⟩ := h
    rfl
  · obtain ⟨a, ns, rfl, hS, hlen, kk⟩ := h
    refine ⟨_, pss_one (ps_ret (pe_lst (pa_cons (pe_callTy call_list_of (by rfl) T.list (by decide +kernel) (pa_cons (pe_slice sl_list (pv 0) po_none (po_some pe_int)) pa_nil)) (pa_cons pe_int (pa_cons pe_int pa_nil))))), ?_⟩
    refine ⟨_, rfl, _, rfl, a, _, rfl, hS, fun l1 nl1 => ⟨l1, _, rfl, .inl (SqL.of upd_same), fun l2 nl2 => ⟨(by show 3 ≤ sizeLine; decide), fun p np => ?_⟩⟩⟩
    obtain ⟨ms, e1, e2⟩ := cut_ints ns 63
    rw [e1] at nl2 np ⊢
    have s1 : Same H (upd (upd H l1 (.lst (ms.map V.int))) l2 (.lst (ms.map V.int))) := (same_new nl1).trans (same_new nl2)
    have s2 := s1.trans (same_new (o := .lst [.ref l2, .int 0, .int 0]) np)
    refine kk p l2 _ ?_ s2 ⟨ms, 0, 0, upd_same, by rw [upd_ne (ne_of_none upd_same np)]; exact upd_same, ne_of_none upd_same np, by omega, by decide, by decide, by decide⟩
    cases z : H p with
    | none => rfl
    | some o => rw [s1 _ _ z] at np; cases np
end
end Ev
namespace Ev
open PySem L2 PySem.Spec PyProof.Rows
/-- a thing beside the pen's list -/
def Th.onP (p : Addr) (H : Hp) (d : Th) (v : V) : Prop := d.on H v ∧ ∀ a, v = .ref a → a ≠ p
theorem Th.onP.but {p : Addr} {H H' : Hp} {d : Th} {v : V} (h : d.onP p H v) (k : But p H H') : d.onP p H' v := by
  obtain ⟨h, n⟩ := h
  refine ⟨?_, n⟩
  cases d with
  | non => exact h
  | int i => exact h
  | str x => exact h
  | tup ns => obtain ⟨a, e, q⟩ := h; exact ⟨a, e, k _ _ (n a e) q⟩
  | lst ns => obtain ⟨a, e, q⟩ := h; exact ⟨a, e, k _ _ (n a e) q⟩
  | dct k' i => obtain ⟨a, e, q⟩ := h; exact ⟨a, e, k _ _ (n a e) q⟩
/-- the things that are drawn -/
structure Th.fine (d : Th) : Prop where
  sh : d.short
  w : d ≠ .str "w"
  s1 : d.data.showable = true
  s2 : d.data.depth ≤ 5
  s3 : d.data.leavesShort 2000 = true
  s4 : d.data.weight ≤ 200
def spThing : Sp := fun vs H Q _ => ∃ (p L : Addr) (b : Int), vs = [.ref p] ∧ b ≤ 900000 ∧ Pen L H p b ∧ ∀ (v : V) (d : Th) (H' : Hp), d.fine → d.onP p H' v → But p H H' → Pen L H' p (b + 1) → Q v H'
section
variable {P : Program} {w : World} {K : PySem.W.Frag} {mg : Str → Option Value} {base : Heap}
theorem scThing : FnScope ["_law_pen_here"] ["_law_pen_here"] (defScope sLThing) := ⟨rfl, rfl, rfl, by decide +kernel, rfl, by decide +kernel, by decide +kernel⟩
theorem ok_thing {f : Addr} {fd : FuncData} (F : Fun K "_law_thing" "_law_thing" sLThing f fd) (D : Df P w K mg base 2 "_law_pick" ["_law_pen_here", "_law_some"] spPick) : FnOk P w K mg base CX0 3 f fd ["_law_pen_here"] spThing := by
  obtain ⟨f1, fd1, G1, g1, k1, b1⟩ := D.ex
  refine F.ok scThing (fun vs H Q E h => ?_) (fun cdv A outer s H vs Q E hr h => ?_)
  · obtain ⟨p, L, b, rfl, _⟩ := h
    rfl
  · obtain ⟨p, L, b, rfl, hb, pn, kk⟩ := h
    refine ⟨_, (pss_one (ps_ret (pe_call G1 hr (by rfl) g1 k1 b1 .nil pass0 (pa_cons (pv 0) (pa_cons (pe_lst (pa_cons pe_non (pa_cons pe_int (pa_cons pe_int (pa_cons pe_str (pa_cons pe_str (pa_cons (pe_tup pa_nil) (pa_cons (pe_tup (pa_cons pe_int (pa_cons pe_int pa_nil))) (pa_cons (pe_lst (pa_cons pe_int pa_nil)) (pa_cons (pe_disp (pps_cons pe_str pe_int pps_nil) rfl rfl (by simp) (by decide)) (pa_cons (pe_un un_neg pe_int) (pa_cons (pe_op op_pow pe_int pe_int) pa_nil)))))))))))) pa_nil))))), ?_⟩
    refine ⟨_, rfl, (by show 0 ≤ sizeLine; decide), fun a1 n1 => ?_⟩
    have f1 : upd H a1 (.tup []) a1 = some (.tup []) := upd_same
    have g1 : Same H (upd H a1 (.tup [])) := same_new n1
    have p1 : a1 ≠ p := pn.ne n1
    generalize upd H a1 (.tup []) = J1 at f1 g1 ⊢
    refine ⟨(by show 2 ≤ sizeLine; decide), fun a2 n2 => ?_⟩
    have f2 : upd J1 a2 (.tup [.int 1, .int 2]) a2 = some (.tup [.int 1, .int 2]) := upd_same
    have g2 : Same J1 (upd J1 a2 (.tup [.int 1, .int 2])) := same_new n2
    have p2 : a2 ≠ p := (pn.keep g1).ne n2
    generalize upd J1 a2 (.tup [.int 1, .int 2]) = J2 at f2 g2 ⊢
    refine ⟨(by show 1 ≤ sizeLine; decide), fun a3 n3 => ?_⟩
    have f3 : upd J2 a3 (.lst [.int 3]) a3 = some (.lst [.int 3]) := upd_same
    have g3 : Same J2 (upd J2 a3 (.lst [.int 3])) := same_new n3
    have p3 : a3 ≠ p := (pn.keep (g1.trans g2)).ne n3
    generalize upd J2 a3 (.lst [.int 3]) = J3 at f3 g3 ⊢
    intro a4 n4
    refine ⟨upd_same, [(.inr "a", .int 1)], rfl, by decide, ?_⟩
    rw [upd_upd, show mergeK [] [((.inr "a" : Key), V.int 1)] = [((.inr "a" : Key), V.int 1)] from rfl]
    have f4 : upd J3 a4 (.dK [(.inr "a", .int 1)]) a4 = some (.dK [(.inr "a", .int 1)]) := upd_same
    have g4 : Same J3 (upd J3 a4 (.dK [(.inr "a", .int 1)])) := same_new n4
    have p4 : a4 ≠ p := (pn.keep (g1.trans (g2.trans g3))).ne n4
    generalize upd J3 a4 (.dK [(.inr "a", .int 1)]) = J4 at f4 g4 ⊢
    refine ⟨_, rfl, _, _, rfl, rfl, ⟨by decide, by decide, by decide⟩, (by show 11 ≤ sizeLine; decide), fun z nz => ?_⟩
    dsimp only
    have f5 : upd J4 z (.lst [.non, .int 0, .int 7, .str "x", .str "", .ref a1, .ref a2, .ref a3, .ref a4, .int (-5), .int (10 ^ Int.toNat 40)]) z = some (.lst [.non, .int 0, .int 7, .str "x", .str "", .ref a1, .ref a2, .ref a3, .ref a4, .int (-5), .int (10 ^ Int.toNat 40)]) := upd_same
    have g5 : Same J4 (upd J4 z (.lst [.non, .int 0, .int 7, .str "x", .str "", .ref a1, .ref a2, .ref a3, .ref a4, .int (-5), .int (10 ^ Int.toNat 40)])) := same_new nz
    have gg : Same H J4 := g1.trans (g2.trans (g3.trans g4))
    have p5 : z ≠ p := (pn.keep gg).ne nz
    generalize upd J4 z (.lst [.non, .int 0, .int 7, .str "x", .str "", .ref a1, .ref a2, .ref a3, .ref a4, .int (-5), .int (10 ^ Int.toNat 40)]) = J5 at f5 g5 ⊢
    have g15 := gg.trans g5
    refine ⟨p, z, L, _, b, rfl, f5, p5, (by show 1 ≤ 11; decide), (by show 11 ≤ 1000; decide), by omega, pn.keep g15, fun v H' hv bt pn' => ?_⟩
    have bb : But p H H' := (Same.but g15).trans bt
    have k1 := bt _ _ p1 ((g2.trans (g3.trans (g4.trans g5))) _ _ f1)
    have k2 := bt _ _ p2 ((g3.trans (g4.trans g5)) _ _ f2)
    have k3 := bt _ _ p3 ((g4.trans g5) _ _ f3)
    have k4 := bt _ _ p4 (g5 _ _ f4)
    simp only [List.mem_cons, List.not_mem_nil, or_false] at hv
    rcases hv with rfl | rfl | rfl | rfl | rfl | rfl | rfl | rfl | rfl | rfl | rfl
    · exact kk _ .non H' ⟨trivial, (fun z => by cases z), rfl, by decide, by decide +kernel, by decide +kernel⟩ ⟨rfl, fun a z => by cases z⟩ bb pn'
    · exact kk _ (.int 0) H' ⟨trivial, (fun z => by cases z), by decide +kernel, by decide, by decide +kernel, by decide +kernel⟩ ⟨rfl, fun a z => by cases z⟩ bb pn'
    · exact kk _ (.int 7) H' ⟨trivial, (fun z => by cases z), by decide +kernel, by decide, by decide +kernel, by decide +kernel⟩ ⟨rfl, fun a z => by cases z⟩ bb pn'
    · exact kk _ (.str "x") H' ⟨(by show (PyData.str "x").canLay0 = true; decide +kernel), (fun z => by injection z with z; exact absurd z (by decide +kernel)), by decide +kernel, by decide, by decide +kernel, by decide +kernel⟩ ⟨rfl, fun a z => by cases z⟩ bb pn'
    · exact kk _ (.str "") H' ⟨(by show (PyData.str "").canLay0 = true; decide +kernel), (fun z => by injection z with z; exact absurd z (by decide +kernel)), by decide +kernel, by decide, by decide +kernel, by decide +kernel⟩ ⟨rfl, fun a z => by cases z⟩ bb pn'
    · exact kk _ (.tup []) H' ⟨(by show 0 ≤ 900; decide), (fun z => by cases z), by decide +kernel, by decide, by decide +kernel, by decide +kernel⟩ ⟨⟨a1, rfl, k1⟩, fun a z => by cases z; exact p1⟩ bb pn'
    · exact kk _ (.tup [1, 2]) H' ⟨(by show 2 ≤ 900; decide), (fun z => by cases z), by decide +kernel, by decide, by decide +kernel, by decide +kernel⟩ ⟨⟨a2, rfl, k2⟩, fun a z => by cases z; exact p2⟩ bb pn'
    · exact kk _ (.lst [3]) H' ⟨(by show 1 ≤ 900; decide), (fun z => by cases z), by decide +kernel, by decide, by decide +kernel, by decide +kernel⟩ ⟨⟨a3, rfl, k3⟩, fun a z => by cases z; exact p3⟩ bb pn'
    · exact kk _ (.dct "a" 1) H' ⟨trivial, (fun z => by cases z), by decide +kernel, by decide, by decide +kernel, by decide +kernel⟩ ⟨⟨a4, rfl, k4⟩, fun a z => by cases z; exact p4⟩ bb pn'
    · exact kk _ (.int (-5)) H' ⟨trivial, (fun z => by cases z), by decide +kernel, by decide, by decide +kernel, by decide +kernel⟩ ⟨rfl, fun a z => by cases z⟩ bb pn'
    · exact kk _ (.int (10 ^ Int.toNat 40)) H' ⟨trivial, (fun z => by cases z), by decide +kernel, by decide, by decide +kernel, by decide +kernel⟩ ⟨rfl, fun a z => by cases z⟩ bb pn'
end
end Ev
namespace Ev
open PySem L2 PySem.Spec PyProof.Rows RZ
/-- an answer of this law -/
inductive An where
  | w (d1 : Th)
  | p (d1 d2 : Th)
  | n (d1 : Th)
  | m (d1 d2 d3 : Th)
def An.ix : An → Nat
  | .w _ => 0
  | .p _ _ => 1
  | .n _ => 2
  | .m _ _ _ => 3
def An.short : An → Prop
  | .w d1 => d1.short
  | .p d1 d2 => d1.short ∧ d2.short
  | .n d1 => d1.short
  | .m d1 d2 d3 => d1.short ∧ d2.short ∧ d3.short
def An.at1 (cl : Nat → Addr) (H : Hp) (x : Addr) : An → Prop
  | .w d1 => WithinAt (cl 0) H x d1
  | .p d1 d2 => PartedAt (cl 1) H x d1 d2
  | .n d1 => NeverAt (cl 2) H x d1
  | .m d1 d2 d3 => MetAt (cl 3) H x d1 d2 d3
def An.on (cl : Nat → Addr) (H : Hp) (a : An) (v : V) : Prop := ∃ x, v = .ref x ∧ a.at1 cl H x
theorem An.at1.keep {cl : Nat → Addr} {H H' : Hp} {x : Addr} {a : An} (h : An.at1 cl H x a) (k : Same H H') : An.at1 cl H' x a := by
  cases a with
  | w d1 => exact WithinAt.keep h k
  | p d1 d2 => exact PartedAt.keep h k
  | n d1 => exact NeverAt.keep h k
  | m d1 d2 d3 => exact MetAt.keep h k
theorem An.on.keep {cl : Nat → Addr} {H H' : Hp} {v : V} {a : An} (h : a.on cl H v) (k : Same H H') : a.on cl H' v := by
  obtain ⟨x, e, q⟩ := h
  exact ⟨x, e, q.keep k⟩
/-- where an answer stands -/
theorem An.at1.ins {cl : Nat → Addr} {H : Hp} {x : Addr} {a : An} (h : An.at1 cl H x a) : ∃ (dx : Addr) (fs : List (Str × V)), H x = some (.ins (cl a.ix) dx fs) := by
  cases a with
  | w d1 => obtain ⟨dx, v1, e, _⟩ := h; exact ⟨dx, _, e⟩
  | p d1 d2 => obtain ⟨dx, v1, v2, e, _⟩ := h; exact ⟨dx, _, e⟩
  | n d1 => obtain ⟨dx, v1, e, _⟩ := h; exact ⟨dx, _, e⟩
  | m d1 d2 d3 => obtain ⟨dx, v1, v2, v3, e, _⟩ := h; exact ⟨dx, _, e⟩
/-- what == of two answers tells, as far as this law asks it -/
def EqAn : An → An → Bool → Prop
  | .w d1, .w e1, b => ∃ b1 : Bool, EqTh d1 e1 b1 ∧ b = (b1)
  | .p d1 d2, .p e1 e2, b => ∃ b1 b2 : Bool, EqTh d1 e1 b1 ∧ EqTh d2 e2 b2 ∧ b = (b1 && (b2))
  | .n d1, .n e1, b => ∃ b1 : Bool, EqTh d1 e1 b1 ∧ b = (b1)
  | .m d1 d2 d3, .m e1 e2 e3, b => ∃ b1 b2 b3 : Bool, EqTh d1 e1 b1 ∧ EqTh d2 e2 b2 ∧ EqTh d3 e3 b3 ∧ b = (b1 && (b2 && (b3)))
  | x, y, b => x.ix ≠ y.ix ∧ b = false
/-- the classes of answers, and what their methods promise -/
structure AnC (P : Program) (w : World) (K : PySem.W.Frag) (mg : Str → Option Value) (base : Heap) (cl : Nat → Addr) : Prop where
  it : ∀ i, i < 4 → InsT K (cl i)
  ns : ∀ i, i < 4 → NoSub K (cl i)
  cc : ∀ i, i < 4 → Cls K (cl i)
  ne : ∀ i, i < 4 → PySem.W.findIn K (.ref (cl i)) "__ne__" = some (some (.builtin "object.__ne__"))
  kt : ∀ i j, i < 4 → j < 4 → i ≠ j → PySem.W.kitOne K (.ref (cl i)) (.ref (cl j)) = some false
  su : ∀ i j, i < 4 → j < 4 → i ≠ j → PySem.W.subIn K (.ref (cl i)) (.ref (cl j)) = some false
  e0 : ∃ f, FnR P w K mg base CX0 1 f (spWithinE K (cl 0)) ∧ PySem.W.findIn K (.ref (cl 0)) "__eq__" = some (some (.ref f)) ∧ PySem.W.isFn K (.ref f) = true
  e1 : ∃ f, FnR P w K mg base CX0 1 f (spPartedE K (cl 1)) ∧ PySem.W.findIn K (.ref (cl 1)) "__eq__" = some (some (.ref f)) ∧ PySem.W.isFn K (.ref f) = true
  e2 : ∃ f, FnR P w K mg base CX0 1 f (spNeverE K (cl 2)) ∧ PySem.W.findIn K (.ref (cl 2)) "__eq__" = some (some (.ref f)) ∧ PySem.W.isFn K (.ref f) = true
  e3 : ∃ f, FnR P w K mg base CX0 1 f (spMetE K (cl 3)) ∧ PySem.W.findIn K (.ref (cl 3)) "__eq__" = some (some (.ref f)) ∧ PySem.W.isFn K (.ref f) = true
theorem An.ix_lt (a : An) : a.ix < 4 := by cases a <;> simp [An.ix]
theorem an_ty {P : Program} {w : World} {K : PySem.W.Frag} {mg : Str → Option Value} {base : Heap} {cl : Nat → Addr} (A : AnC P w K mg base cl) {H : Hp} {x : Addr} {a : An} (h : An.at1 cl H x a) : TyX K H (.ref x) (.ref (cl a.ix)) := by
  obtain ⟨dx, fs, e⟩ := h.ins
  have I := A.it _ a.ix_lt
  exact .base (.ins e (A.cc _ a.ix_lt) I.ha I.hn I.htk I.hm)
theorem an_nf {P : Program} {w : World} {K : PySem.W.Frag} {mg : Str → Option Value} {base : Heap} {cl : Nat → Addr} (A : AnC P w K mg base cl) (a b : An) : PySem.W.notFirst K (cl a.ix) (.ref (cl b.ix)) = true := by
  by_cases e : b.ix = a.ix
  · rw [e]; exact nf_own
  · exact nf_sub (A.su _ _ b.ix_lt a.ix_lt e)
theorem kit_noB {K : PySem.W.Frag} {C : Addr} {T : String} {l : List String} (I : InsT K C) (h : fastBuiltinMro T = some (l.map Value.type)) : PySem.W.kitOne K (.type T) (.ref C) = some false := by
  have sub : PySem.W.subIn K (.type T) (.ref C) = some false := by
    show (fastBuiltinMro T).map (·.contains (.ref C)) = some false
    rw [h]
    have z : (l.map Value.type).contains (.ref C) = false := by
      rw [Bool.eq_false_iff]
      intro z
      have m := List.contains_iff_mem.mp z
      simp at m
    exact congrArg some z
  have h1 : (PySem.W.clsIn K C).isSome = true := I.ic
  unfold PySem.W.kitOne
  split
  · rename_i z
    simp at z
  · unfold PySem.W.kitCls
    simp only [h1, I.tt, sub]
    decide
/-- an answer's == with another answer, or a thing -/
theorem an_own {P : Program} {w : World} {K : PySem.W.Frag} {mg : Str → Option Value} {base : Heap} {cl : Nat → Addr} (A : AnC P w K mg base cl) {neg : Bool} {x y : Addr} {a b : An} {H : Hp} {r : Bool} {Q : VK} (hx : An.at1 cl H x a) (hy : An.at1 cl H y b) (sa : a.short) (sb : b.short) (he : EqAn a b r) (q : Q (.bl (neg ^^ r)) H) :
    match a with
    | .w _ => rOwnB K (cl 0) (spWithinE K (cl 0)) E0 neg (.ref x) (.ref y) H Q
    | .p _ _ => rOwnB K (cl 1) (spPartedE K (cl 1)) E0 neg (.ref x) (.ref y) H Q
    | .n _ => rOwnB K (cl 2) (spNeverE K (cl 2)) E0 neg (.ref x) (.ref y) H Q
    | .m _ _ _ => rOwnB K (cl 3) (spMetE K (cl 3)) E0 neg (.ref x) (.ref y) H Q := by
  have ty := an_ty A hy
  have nf := an_nf A a b
  obtain ⟨dx, fs, ex⟩ := hx.ins
  have kt0 : b.ix ≠ 0 → PySem.W.kitOne K (.ref (cl b.ix)) (.ref (cl 0)) = some false := fun z => A.kt _ _ b.ix_lt (by decide) z
  have kt1 : b.ix ≠ 1 → PySem.W.kitOne K (.ref (cl b.ix)) (.ref (cl 1)) = some false := fun z => A.kt _ _ b.ix_lt (by decide) z
  have kt2 : b.ix ≠ 2 → PySem.W.kitOne K (.ref (cl b.ix)) (.ref (cl 2)) = some false := fun z => A.kt _ _ b.ix_lt (by decide) z
  have kt3 : b.ix ≠ 3 → PySem.W.kitOne K (.ref (cl b.ix)) (.ref (cl 3)) = some false := fun z => A.kt _ _ b.ix_lt (by decide) z
  cases a with
  | w d1 =>
    have sd1 : d1.short := sa
    refine ⟨x, dx, fs, _, rfl, ex, ty, nf, x, .ref y, d1, rfl, hx, sd1, ?_⟩
    cases b with
    | w e1 =>
      obtain ⟨b1, q1, rfl⟩ := he
      exact .inl ⟨y, e1, _, rfl, hy, sb, q1, _, rfl, q⟩
    | p e1 e2 =>
      obtain ⟨_, rfl⟩ := he
      exact .inr ⟨_, ty, kt0 (by simp [An.ix]), _, rfl, q⟩
    | n e1 =>
      obtain ⟨_, rfl⟩ := he
      exact .inr ⟨_, ty, kt0 (by simp [An.ix]), _, rfl, q⟩
    | m e1 e2 e3 =>
      obtain ⟨_, rfl⟩ := he
      exact .inr ⟨_, ty, kt0 (by simp [An.ix]), _, rfl, q⟩
  | p d1 d2 =>
    obtain ⟨sd1, sd2⟩ := id sa
    refine ⟨x, dx, fs, _, rfl, ex, ty, nf, x, .ref y, d1, d2, rfl, hx, sd1, sd2, ?_⟩
    cases b with
    | w e1 =>
      obtain ⟨_, rfl⟩ := he
      exact .inr ⟨_, ty, kt1 (by simp [An.ix]), _, rfl, q⟩
    | p e1 e2 =>
      obtain ⟨b1, b2, q1, q2, rfl⟩ := he
      obtain ⟨se1, se2⟩ := id sb
      exact .inl ⟨y, e1, e2, b1, b2, rfl, hy, se1, se2, q1, q2, _, rfl, q⟩
    | n e1 =>
      obtain ⟨_, rfl⟩ := he
      exact .inr ⟨_, ty, kt1 (by simp [An.ix]), _, rfl, q⟩
    | m e1 e2 e3 =>
      obtain ⟨_, rfl⟩ := he
      exact .inr ⟨_, ty, kt1 (by simp [An.ix]), _, rfl, q⟩
  | n d1 =>
    have sd1 : d1.short := sa
    refine ⟨x, dx, fs, _, rfl, ex, ty, nf, x, .ref y, d1, rfl, hx, sd1, ?_⟩
    cases b with
    | w e1 =>
      obtain ⟨_, rfl⟩ := he
      exact .inr ⟨_, ty, kt2 (by simp [An.ix]), _, rfl, q⟩
    | p e1 e2 =>
      obtain ⟨_, rfl⟩ := he
      exact .inr ⟨_, ty, kt2 (by simp [An.ix]), _, rfl, q⟩
    | n e1 =>
      obtain ⟨b1, q1, rfl⟩ := he
      exact .inl ⟨y, e1, _, rfl, hy, sb, q1, _, rfl, q⟩
    | m e1 e2 e3 =>
      obtain ⟨_, rfl⟩ := he
      exact .inr ⟨_, ty, kt2 (by simp [An.ix]), _, rfl, q⟩
  | m d1 d2 d3 =>
    obtain ⟨sd1, sd2, sd3⟩ := id sa
    refine ⟨x, dx, fs, _, rfl, ex, ty, nf, x, .ref y, d1, d2, d3, rfl, hx, sd1, sd2, sd3, ?_⟩
    cases b with
    | w e1 =>
      obtain ⟨_, rfl⟩ := he
      exact .inr ⟨_, ty, kt3 (by simp [An.ix]), _, rfl, q⟩
    | p e1 e2 =>
      obtain ⟨_, rfl⟩ := he
      exact .inr ⟨_, ty, kt3 (by simp [An.ix]), _, rfl, q⟩
    | n e1 =>
      obtain ⟨_, rfl⟩ := he
      exact .inr ⟨_, ty, kt3 (by simp [An.ix]), _, rfl, q⟩
    | m e1 e2 e3 =>
      obtain ⟨b1, b2, b3, q1, q2, q3, rfl⟩ := he
      obtain ⟨se1, se2, se3⟩ := id sb
      exact .inl ⟨y, e1, e2, e3, b1, b2, b3, rfl, hy, se1, se2, se3, q1, q2, q3, _, rfl, q⟩
def rEqAn (K : PySem.W.Frag) (cl : Nat → Addr) (neg : Bool) : R2 := fun x y H Q => ∃ (a b : An) (r : Bool), a.on cl H x ∧ b.on cl H y ∧ a.short ∧ b.short ∧ EqAn a b r ∧ Q (.bl (neg ^^ r)) H
section
variable {X : Cx} {cl : Nat → Addr}
theorem op_eqAn (A : AnC X.prog X.w X.K X.mg X.base cl) (hr : Room 1 X.A) : OpR X (compareOp .Eq) (rEqAn X.K cl false) := by
  intro pins s σ H x y v u Q I rx ry h
  obtain ⟨a, b, r, ⟨xa, rfl, hx⟩, ⟨ya, rfl, hy⟩, sa, sb, he, q⟩ := h
  have o := an_own A (neg := false) hx hy sa sb he q
  cases a with
  | w d1 =>
    obtain ⟨f, Ft, ht, hf⟩ := A.e0
    exact op_eqO (E := E0) ht hf Ft hr pass0 pins s σ H _ _ v u Q I rx ry o
  | p d1 d2 =>
    obtain ⟨f, Ft, ht, hf⟩ := A.e1
    exact op_eqO (E := E0) ht hf Ft hr pass0 pins s σ H _ _ v u Q I rx ry o
  | n d1 =>
    obtain ⟨f, Ft, ht, hf⟩ := A.e2
    exact op_eqO (E := E0) ht hf Ft hr pass0 pins s σ H _ _ v u Q I rx ry o
  | m d1 d2 d3 =>
    obtain ⟨f, Ft, ht, hf⟩ := A.e3
    exact op_eqO (E := E0) ht hf Ft hr pass0 pins s σ H _ _ v u Q I rx ry o
theorem op_neAn (A : AnC X.prog X.w X.K X.mg X.base cl) (hr : Room 2 X.A) : OpR X (compareOp .NotEq) (rEqAn X.K cl true) := by
  intro pins s σ H x y v u Q I rx ry h
  obtain ⟨a, b, r, ⟨xa, rfl, hx⟩, ⟨ya, rfl, hy⟩, sa, sb, he, q⟩ := h
  have o := an_own A (neg := true) hx hy sa sb he q
  cases a with
  | w d1 =>
    obtain ⟨f, Ft, ht, hf⟩ := A.e0
    exact op_neO (E := E0) ht (A.ne 0 (by decide)) (A.it 0 (by decide)).hm hf Ft hr pass0 pins s σ H _ _ v u Q I rx ry o
  | p d1 d2 =>
    obtain ⟨f, Ft, ht, hf⟩ := A.e1
    exact op_neO (E := E0) ht (A.ne 1 (by decide)) (A.it 1 (by decide)).hm hf Ft hr pass0 pins s σ H _ _ v u Q I rx ry o
  | n d1 =>
    obtain ⟨f, Ft, ht, hf⟩ := A.e2
    exact op_neO (E := E0) ht (A.ne 2 (by decide)) (A.it 2 (by decide)).hm hf Ft hr pass0 pins s σ H _ _ v u Q I rx ry o
  | m d1 d2 d3 =>
    obtain ⟨f, Ft, ht, hf⟩ := A.e3
    exact op_neO (E := E0) ht (A.ne 3 (by decide)) (A.it 3 (by decide)).hm hf Ft hr pass0 pins s σ H _ _ v u Q I rx ry o
/-- a thing is no answer -/
def rEqTA (K : PySem.W.Frag) (cl : Nat → Addr) : R2 := fun x y H Q => ∃ (T : String) (l : List String) (b : An), LeftV K H x ∧ TyX K H x (.type T) ∧ fastBuiltinMro T = some (l.map Value.type) ∧ b.on cl H y ∧ b.short ∧ Q (.bl false) H
theorem op_eqTA (A : AnC X.prog X.w X.K X.mg X.base cl) (hr : Room 1 X.A) : OpR X (compareOp .Eq) (rEqTA X.K cl) := by
  intro pins s σ H x y v u Q I rx ry h
  obtain ⟨T, l, b, lv, ty, hT, ⟨ya, rfl, hy⟩, sb, q⟩ := h
  obtain ⟨dx, fs, ey⟩ := hy.ins
  have kn := kit_noB (A.it _ b.ix_lt) hT
  cases b with
  | w d1 =>
    obtain ⟨f, Ft, ht, hf⟩ := A.e0
    have sd1 := sb
    exact op_eqR (E := E0) (A.ns 0 (by decide)) ht hf Ft hr pass0 pins s σ H _ _ v u Q I rx ry ⟨ya, dx, fs, rfl, ey, lv, ya, x, d1, rfl, hy, sd1, .inr ⟨_, ty, kn, _, rfl, q⟩⟩
  | p d1 d2 =>
    obtain ⟨f, Ft, ht, hf⟩ := A.e1
    obtain ⟨sd1, sd2⟩ := id sb
    exact op_eqR (E := E0) (A.ns 1 (by decide)) ht hf Ft hr pass0 pins s σ H _ _ v u Q I rx ry ⟨ya, dx, fs, rfl, ey, lv, ya, x, d1, d2, rfl, hy, sd1, sd2, .inr ⟨_, ty, kn, _, rfl, q⟩⟩
  | n d1 =>
    obtain ⟨f, Ft, ht, hf⟩ := A.e2
    have sd1 := sb
    exact op_eqR (E := E0) (A.ns 2 (by decide)) ht hf Ft hr pass0 pins s σ H _ _ v u Q I rx ry ⟨ya, dx, fs, rfl, ey, lv, ya, x, d1, rfl, hy, sd1, .inr ⟨_, ty, kn, _, rfl, q⟩⟩
  | m d1 d2 d3 =>
    obtain ⟨f, Ft, ht, hf⟩ := A.e3
    obtain ⟨sd1, sd2, sd3⟩ := id sb
    exact op_eqR (E := E0) (A.ns 3 (by decide)) ht hf Ft hr pass0 pins s σ H _ _ v u Q I rx ry ⟨ya, dx, fs, rfl, ey, lv, ya, x, d1, d2, d3, rfl, hy, sd1, sd2, sd3, .inr ⟨_, ty, kn, _, rfl, q⟩⟩
end
end Ev
namespace Ev
open PySem L2 PySem.Spec PyProof.Rows RZ
theorem mk_w {cl : Nat → Addr} {H : Hp} {x dx : Addr} {v1 : V} {d1 : Th} {Q : VK} {E : XK} (nx : H x = none) (nd : H dx = none) (ne : dx ≠ x) (h1 : d1.on H v1) (s1 : d1.short) (k : ∀ H', Same H H' → An.at1 cl H' x (.w d1) → Q .non H') :
    spWithinI (cl 0) [.ref x, v1] (upd (upd H dx (.own x)) x (.ins (cl 0) dx [])) Q E := by
  have n2 : (upd H dx (.own x)) x = none := by rw [upd_ne (fun z => ne z.symm)]; exact nx
  have s0 : Same H (upd (upd H dx (.own x)) x (.ins (cl 0) dx [])) := (same_new nd).trans (same_new n2)
  exact ⟨x, dx, v1, d1, rfl, upd_same, h1.keep s0, s1, fun H' bt at1 => k H' (fun c o e => bt c o (ne_of_none e nx) (s0 _ _ e)) at1⟩
theorem mp_w {cl : Nat → Addr} {H : Hp} {x dx : Addr} {v1 : V} {d1 : Th} {Q : VK} {E : XK} (nx : H x = none) (nd : H dx = none) (ne : dx ≠ x) (h1 : d1.on H v1) (s1 : d1.short) (k : ∀ H', Same H H' → An.at1 cl H' x (.w d1) → Q .non H') :
    spWithinI (cl 0) (.ref x :: ([v1] ++ [])) (upd (upd H dx (.own x)) x (.ins (cl 0) dx [])) Q E := by
  have n2 : (upd H dx (.own x)) x = none := by rw [upd_ne (fun z => ne z.symm)]; exact nx
  have s0 : Same H (upd (upd H dx (.own x)) x (.ins (cl 0) dx [])) := (same_new nd).trans (same_new n2)
  exact ⟨x, dx, v1, d1, rfl, upd_same, h1.keep s0, s1, fun H' bt at1 => k H' (fun c o e => bt c o (ne_of_none e nx) (s0 _ _ e)) at1⟩
theorem mr_w {cl : Nat → Addr} {H : Hp} {x dx : Addr} {v1 : V} {d1 : Th} {Q : VK} {E : XK} (nx : H x = none) (nd : H dx = none) (ne : dx ≠ x) (h1 : d1.on H v1) (s1 : d1.short) (k : ∀ H', Same H H' → An.at1 cl H' x (.w d1) → Q .non H') :
    spWithinI (cl 0) ([.ref x] ++ [v1].reverse) (upd (upd H dx (.own x)) x (.ins (cl 0) dx [])) Q E := by
  have n2 : (upd H dx (.own x)) x = none := by rw [upd_ne (fun z => ne z.symm)]; exact nx
  have s0 : Same H (upd (upd H dx (.own x)) x (.ins (cl 0) dx [])) := (same_new nd).trans (same_new n2)
  exact ⟨x, dx, v1, d1, rfl, upd_same, h1.keep s0, s1, fun H' bt at1 => k H' (fun c o e => bt c o (ne_of_none e nx) (s0 _ _ e)) at1⟩
theorem mk_p {cl : Nat → Addr} {H : Hp} {x dx : Addr} {v1 v2 : V} {d1 d2 : Th} {Q : VK} {E : XK} (nx : H x = none) (nd : H dx = none) (ne : dx ≠ x) (h1 : d1.on H v1) (h2 : d2.on H v2) (s1 : d1.short) (s2 : d2.short) (k : ∀ H', Same H H' → An.at1 cl H' x (.p d1 d2) → Q .non H') :
    spPartedI (cl 1) [.ref x, v1, v2] (upd (upd H dx (.own x)) x (.ins (cl 1) dx [])) Q E := by
  have n2 : (upd H dx (.own x)) x = none := by rw [upd_ne (fun z => ne z.symm)]; exact nx
  have s0 : Same H (upd (upd H dx (.own x)) x (.ins (cl 1) dx [])) := (same_new nd).trans (same_new n2)
  exact ⟨x, dx, v1, v2, d1, d2, rfl, upd_same, h1.keep s0, h2.keep s0, s1, s2, fun H' bt at1 => k H' (fun c o e => bt c o (ne_of_none e nx) (s0 _ _ e)) at1⟩
theorem mp_p {cl : Nat → Addr} {H : Hp} {x dx : Addr} {v1 v2 : V} {d1 d2 : Th} {Q : VK} {E : XK} (nx : H x = none) (nd : H dx = none) (ne : dx ≠ x) (h1 : d1.on H v1) (h2 : d2.on H v2) (s1 : d1.short) (s2 : d2.short) (k : ∀ H', Same H H' → An.at1 cl H' x (.p d1 d2) → Q .non H') :
    spPartedI (cl 1) (.ref x :: ([v1, v2] ++ [])) (upd (upd H dx (.own x)) x (.ins (cl 1) dx [])) Q E := by
  have n2 : (upd H dx (.own x)) x = none := by rw [upd_ne (fun z => ne z.symm)]; exact nx
  have s0 : Same H (upd (upd H dx (.own x)) x (.ins (cl 1) dx [])) := (same_new nd).trans (same_new n2)
  exact ⟨x, dx, v1, v2, d1, d2, rfl, upd_same, h1.keep s0, h2.keep s0, s1, s2, fun H' bt at1 => k H' (fun c o e => bt c o (ne_of_none e nx) (s0 _ _ e)) at1⟩
theorem mr_p {cl : Nat → Addr} {H : Hp} {x dx : Addr} {v1 v2 : V} {d1 d2 : Th} {Q : VK} {E : XK} (nx : H x = none) (nd : H dx = none) (ne : dx ≠ x) (h1 : d1.on H v1) (h2 : d2.on H v2) (s1 : d1.short) (s2 : d2.short) (k : ∀ H', Same H H' → An.at1 cl H' x (.p d1 d2) → Q .non H') :
    spPartedI (cl 1) ([.ref x] ++ [v2, v1].reverse) (upd (upd H dx (.own x)) x (.ins (cl 1) dx [])) Q E := by
  have n2 : (upd H dx (.own x)) x = none := by rw [upd_ne (fun z => ne z.symm)]; exact nx
  have s0 : Same H (upd (upd H dx (.own x)) x (.ins (cl 1) dx [])) := (same_new nd).trans (same_new n2)
  exact ⟨x, dx, v1, v2, d1, d2, rfl, upd_same, h1.keep s0, h2.keep s0, s1, s2, fun H' bt at1 => k H' (fun c o e => bt c o (ne_of_none e nx) (s0 _ _ e)) at1⟩
theorem mk_n {cl : Nat → Addr} {H : Hp} {x dx : Addr} {v1 : V} {d1 : Th} {Q : VK} {E : XK} (nx : H x = none) (nd : H dx = none) (ne : dx ≠ x) (h1 : d1.on H v1) (s1 : d1.short) (k : ∀ H', Same H H' → An.at1 cl H' x (.n d1) → Q .non H') :
    spNeverI (cl 2) [.ref x, v1] (upd (upd H dx (.own x)) x (.ins (cl 2) dx [])) Q E := by
  have n2 : (upd H dx (.own x)) x = none := by rw [upd_ne (fun z => ne z.symm)]; exact nx
  have s0 : Same H (upd (upd H dx (.own x)) x (.ins (cl 2) dx [])) := (same_new nd).trans (same_new n2)
  exact ⟨x, dx, v1, d1, rfl, upd_same, h1.keep s0, s1, fun H' bt at1 => k H' (fun c o e => bt c o (ne_of_none e nx) (s0 _ _ e)) at1⟩
theorem mp_n {cl : Nat → Addr} {H : Hp} {x dx : Addr} {v1 : V} {d1 : Th} {Q : VK} {E : XK} (nx : H x = none) (nd : H dx = none) (ne : dx ≠ x) (h1 : d1.on H v1) (s1 : d1.short) (k : ∀ H', Same H H' → An.at1 cl H' x (.n d1) → Q .non H') :
    spNeverI (cl 2) (.ref x :: ([v1] ++ [])) (upd (upd H dx (.own x)) x (.ins (cl 2) dx [])) Q E := by
  have n2 : (upd H dx (.own x)) x = none := by rw [upd_ne (fun z => ne z.symm)]; exact nx
  have s0 : Same H (upd (upd H dx (.own x)) x (.ins (cl 2) dx [])) := (same_new nd).trans (same_new n2)
  exact ⟨x, dx, v1, d1, rfl, upd_same, h1.keep s0, s1, fun H' bt at1 => k H' (fun c o e => bt c o (ne_of_none e nx) (s0 _ _ e)) at1⟩
theorem mr_n {cl : Nat → Addr} {H : Hp} {x dx : Addr} {v1 : V} {d1 : Th} {Q : VK} {E : XK} (nx : H x = none) (nd : H dx = none) (ne : dx ≠ x) (h1 : d1.on H v1) (s1 : d1.short) (k : ∀ H', Same H H' → An.at1 cl H' x (.n d1) → Q .non H') :
    spNeverI (cl 2) ([.ref x] ++ [v1].reverse) (upd (upd H dx (.own x)) x (.ins (cl 2) dx [])) Q E := by
  have n2 : (upd H dx (.own x)) x = none := by rw [upd_ne (fun z => ne z.symm)]; exact nx
  have s0 : Same H (upd (upd H dx (.own x)) x (.ins (cl 2) dx [])) := (same_new nd).trans (same_new n2)
  exact ⟨x, dx, v1, d1, rfl, upd_same, h1.keep s0, s1, fun H' bt at1 => k H' (fun c o e => bt c o (ne_of_none e nx) (s0 _ _ e)) at1⟩
theorem mk_m {cl : Nat → Addr} {H : Hp} {x dx : Addr} {v1 v2 v3 : V} {d1 d2 d3 : Th} {Q : VK} {E : XK} (nx : H x = none) (nd : H dx = none) (ne : dx ≠ x) (h1 : d1.on H v1) (h2 : d2.on H v2) (h3 : d3.on H v3) (s1 : d1.short) (s2 : d2.short) (s3 : d3.short) (k : ∀ H', Same H H' → An.at1 cl H' x (.m d1 d2 d3) → Q .non H') :
    spMetI (cl 3) [.ref x, v1, v2, v3] (upd (upd H dx (.own x)) x (.ins (cl 3) dx [])) Q E := by
  have n2 : (upd H dx (.own x)) x = none := by rw [upd_ne (fun z => ne z.symm)]; exact nx
  have s0 : Same H (upd (upd H dx (.own x)) x (.ins (cl 3) dx [])) := (same_new nd).trans (same_new n2)
  exact ⟨x, dx, v1, v2, v3, d1, d2, d3, rfl, upd_same, h1.keep s0, h2.keep s0, h3.keep s0, s1, s2, s3, fun H' bt at1 => k H' (fun c o e => bt c o (ne_of_none e nx) (s0 _ _ e)) at1⟩
theorem mp_m {cl : Nat → Addr} {H : Hp} {x dx : Addr} {v1 v2 v3 : V} {d1 d2 d3 : Th} {Q : VK} {E : XK} (nx : H x = none) (nd : H dx = none) (ne : dx ≠ x) (h1 : d1.on H v1) (h2 : d2.on H v2) (h3 : d3.on H v3) (s1 : d1.short) (s2 : d2.short) (s3 : d3.short) (k : ∀ H', Same H H' → An.at1 cl H' x (.m d1 d2 d3) → Q .non H') :
    spMetI (cl 3) (.ref x :: ([v1, v2, v3] ++ [])) (upd (upd H dx (.own x)) x (.ins (cl 3) dx [])) Q E := by
  have n2 : (upd H dx (.own x)) x = none := by rw [upd_ne (fun z => ne z.symm)]; exact nx
  have s0 : Same H (upd (upd H dx (.own x)) x (.ins (cl 3) dx [])) := (same_new nd).trans (same_new n2)
  exact ⟨x, dx, v1, v2, v3, d1, d2, d3, rfl, upd_same, h1.keep s0, h2.keep s0, h3.keep s0, s1, s2, s3, fun H' bt at1 => k H' (fun c o e => bt c o (ne_of_none e nx) (s0 _ _ e)) at1⟩
theorem mr_m {cl : Nat → Addr} {H : Hp} {x dx : Addr} {v1 v2 v3 : V} {d1 d2 d3 : Th} {Q : VK} {E : XK} (nx : H x = none) (nd : H dx = none) (ne : dx ≠ x) (h1 : d1.on H v1) (h2 : d2.on H v2) (h3 : d3.on H v3) (s1 : d1.short) (s2 : d2.short) (s3 : d3.short) (k : ∀ H', Same H H' → An.at1 cl H' x (.m d1 d2 d3) → Q .non H') :
    spMetI (cl 3) ([.ref x] ++ [v3, v2, v1].reverse) (upd (upd H dx (.own x)) x (.ins (cl 3) dx [])) Q E := by
  have n2 : (upd H dx (.own x)) x = none := by rw [upd_ne (fun z => ne z.symm)]; exact nx
  have s0 : Same H (upd (upd H dx (.own x)) x (.ins (cl 3) dx [])) := (same_new nd).trans (same_new n2)
  exact ⟨x, dx, v1, v2, v3, d1, d2, d3, rfl, upd_same, h1.keep s0, h2.keep s0, h3.keep s0, s1, s2, s3, fun H' bt at1 => k H' (fun c o e => bt c o (ne_of_none e nx) (s0 _ _ e)) at1⟩
/-- how answers are made, and their truth -/
structure AnM (P : Program) (w : World) (K : PySem.W.Frag) (mg : Str → Option Value) (base : Heap) (cl : Nat → Addr) (CV : Addr) : Prop where
  c : AnC P w K mg base cl
  gV : mg "Verdict" = some (.ref CV)
  iV : ∀ i, i < 4 → PySem.W.kitOne K (.ref (cl i)) (.ref CV) = some true
  k0 : CWithin K (cl 0)
  g0 : mg "Within" = some (.ref (cl 0))
  m0 : ∃ (f : Addr) (fd : FuncData) (g : List Value → List Value → List Value), Mk K (cl 0) f ∧ FnOk P w K mg base CX0 4 f fd ["self", "paper"] (spWithinI (cl 0)) ∧ Binds K fd ["self", "paper"] [] ∧ KBn K fd ["self", "paper"] 1 ["paper"] g (fun us ws => us ++ ws.reverse)
  b0 : ∃ f, FnR P w K mg base CX0 1 f (spBl true) ∧ PySem.W.findIn K (.ref (cl 0)) "__bool__" = some (some (.ref f)) ∧ PySem.W.isFn K (.ref f) = true
  k1 : CParted K (cl 1)
  g1 : mg "Parted" = some (.ref (cl 1))
  m1 : ∃ (f : Addr) (fd : FuncData) (g : List Value → List Value → List Value), Mk K (cl 1) f ∧ FnOk P w K mg base CX0 4 f fd ["self", "light", "heavy"] (spPartedI (cl 1)) ∧ Binds K fd ["self", "light", "heavy"] [] ∧ KBn K fd ["self", "light", "heavy"] 1 ["heavy", "light"] g (fun us ws => us ++ ws.reverse)
  b1 : ∃ f, FnR P w K mg base CX0 1 f (spBl false) ∧ PySem.W.findIn K (.ref (cl 1)) "__bool__" = some (some (.ref f)) ∧ PySem.W.isFn K (.ref f) = true
  k2 : CNever K (cl 2)
  g2 : mg "Never" = some (.ref (cl 2))
  m2 : ∃ (f : Addr) (fd : FuncData) (g : List Value → List Value → List Value), Mk K (cl 2) f ∧ FnOk P w K mg base CX0 4 f fd ["self", "paper"] (spNeverI (cl 2)) ∧ Binds K fd ["self", "paper"] [] ∧ KBn K fd ["self", "paper"] 1 ["paper"] g (fun us ws => us ++ ws.reverse)
  b2 : ∃ f, FnR P w K mg base CX0 1 f (spBl false) ∧ PySem.W.findIn K (.ref (cl 2)) "__bool__" = some (some (.ref f)) ∧ PySem.W.isFn K (.ref f) = true
  k3 : CMet K (cl 3)
  g3 : mg "Met" = some (.ref (cl 3))
  m3 : ∃ (f : Addr) (fd : FuncData) (g : List Value → List Value → List Value), Mk K (cl 3) f ∧ FnOk P w K mg base CX0 4 f fd ["self", "light", "inner", "outer"] (spMetI (cl 3)) ∧ Binds K fd ["self", "light", "inner", "outer"] [] ∧ KBn K fd ["self", "light", "inner", "outer"] 1 ["outer", "inner", "light"] g (fun us ws => us ++ ws.reverse)
  b3 : ∃ f, FnR P w K mg base CX0 1 f (spBl true) ∧ PySem.W.findIn K (.ref (cl 3)) "__bool__" = some (some (.ref f)) ∧ PySem.W.isFn K (.ref f) = true
def An.truth : An → Bool
  | .w _ => true
  | .p _ _ => false
  | .n _ => false
  | .m _ _ _ => true
def rBlAn (cl : Nat → Addr) : List V → Hp → VK → Prop := fun xs H Q => ∃ (v : V) (a : An), xs = [v] ∧ a.on cl H v ∧ Q (.bl a.truth) H
theorem call_boolAn {X : Cx} {cl : Nat → Addr} {CV : Addr} (A : AnM X.prog X.w X.K X.mg X.base cl CV) (hr : Room 3 X.A) : CallR X (.type "bool") (rBlAn cl) := by
  intro pins s σ H xs us Q I r h
  obtain ⟨v, a, rfl, ⟨x, rfl, hx⟩, q⟩ := h
  obtain ⟨dx, fs, ex⟩ := hx.ins
  cases a with
  | w d1 =>
    obtain ⟨f, Ft, ht, hf⟩ := A.b0
    exact call_boolO (E := E0) ht hf Ft hr pass0 pins s σ H _ us Q I r ⟨x, dx, fs, rfl, ex, .ref x, rfl, _, rfl, q⟩
  | p d1 d2 =>
    obtain ⟨f, Ft, ht, hf⟩ := A.b1
    exact call_boolO (E := E0) ht hf Ft hr pass0 pins s σ H _ us Q I r ⟨x, dx, fs, rfl, ex, .ref x, rfl, _, rfl, q⟩
  | n d1 =>
    obtain ⟨f, Ft, ht, hf⟩ := A.b2
    exact call_boolO (E := E0) ht hf Ft hr pass0 pins s σ H _ us Q I r ⟨x, dx, fs, rfl, ex, .ref x, rfl, _, rfl, q⟩
  | m d1 d2 d3 =>
    obtain ⟨f, Ft, ht, hf⟩ := A.b3
    exact call_boolO (E := E0) ht hf Ft hr pass0 pins s σ H _ us Q I r ⟨x, dx, fs, rfl, ex, .ref x, rfl, _, rfl, q⟩
/-- the answers of a turn, those like none of them -/
def someA (d1 d2 d3 : Th) : List An := [.w d1, .p d1 d2, .n d1, .m d1 d2 d3]
def othA (d1 d2 d3 : Th) : List An := [.w (.str "w"), .p (.str "w") d2, .p d1 (.str "w"), .n (.str "w"), .m (.str "w") d2 d3, .m d1 (.str "w") d3, .m d1 d2 (.str "w")]
theorem eqTh_refl (d : Th) : EqTh d d true := .inl ⟨rfl, rfl⟩
theorem eqTh_w {d : Th} (h : d ≠ .str "w") : EqTh (.str "w") d false := .inr (.inl ⟨rfl, h, rfl⟩)
theorem eqAn_refl (a : An) : EqAn a a true := by
  cases a with
  | w d1 => exact ⟨true, eqTh_refl _, rfl⟩
  | p d1 d2 => exact ⟨true, true, eqTh_refl _, eqTh_refl _, rfl⟩
  | n d1 => exact ⟨true, eqTh_refl _, rfl⟩
  | m d1 d2 d3 => exact ⟨true, true, true, eqTh_refl _, eqTh_refl _, eqTh_refl _, rfl⟩
theorem eqAn_ix {a b : An} (h : a.ix ≠ b.ix) : EqAn a b false := by
  cases a <;> cases b <;> first | exact ⟨h, rfl⟩ | exact absurd rfl h
theorem some_ix {d1 d2 d3 : Th} {i : Nat} {a : An} (h : (someA d1 d2 d3)[i]? = some a) : a.ix = i ∧ i < 4 := by
  match i, h with
  | 0, h => cases h; exact ⟨rfl, by decide⟩
  | 1, h => cases h; exact ⟨rfl, by decide⟩
  | 2, h => cases h; exact ⟨rfl, by decide⟩
  | 3, h => cases h; exact ⟨rfl, by decide⟩
  | i + 4, h => simp [someA] at h
theorem oth_no {d1 d2 d3 : Th} (f1 : d1 ≠ .str "w") (f2 : d2 ≠ .str "w") (f3 : d3 ≠ .str "w") {o a : An} (ho : o ∈ othA d1 d2 d3) (ha : a ∈ someA d1 d2 d3) : EqAn o a false := by
  simp only [othA, someA, List.mem_cons, List.not_mem_nil, or_false] at ho ha
  rcases ho with rfl | rfl | rfl | rfl | rfl | rfl | rfl <;> rcases ha with rfl | rfl | rfl | rfl <;> first
    | exact ⟨false, eqTh_w f1, rfl⟩
    | exact ⟨false, true, eqTh_w f1, eqTh_refl _, rfl⟩
    | exact ⟨true, false, eqTh_refl _, eqTh_w f2, rfl⟩
    | exact ⟨false, true, true, eqTh_w f1, eqTh_refl _, eqTh_refl _, rfl⟩
    | exact ⟨true, false, true, eqTh_refl _, eqTh_w f2, eqTh_refl _, rfl⟩
    | exact ⟨true, true, false, eqTh_refl _, eqTh_refl _, eqTh_w f3, rfl⟩
    | exact eqAn_ix (by simp [An.ix])
end Ev
namespace Ev
open PySem L2 PySem.Spec PyProof.Rows RZ
abbrev nMr : List Str := ["_law_pen_here", "_law_one", "_law_two", "_law_three", "_law_some", "_law_same", "_law_kept", "_law_told", "_law_due", "_law_others", "_law_k", "_law_alike", "_law_thing_here", "_law_made"]
theorem scMr : FnScope nMr ["_law_pen_here"] (defScope sLMadeRight) := ⟨rfl, rfl, rfl, by decide +kernel, rfl, by decide +kernel, by decide +kernel⟩
/-- a list of answers -/
def AnsL (cl : Nat → Addr) (H : Hp) (xs : List V) (as : List An) : Prop := Paired (fun v a => a.on cl H v) xs as
theorem AnsL.keep {cl : Nat → Addr} {H H' : Hp} {xs : List V} {as : List An} (h : AnsL cl H xs as) (k : Same H H') : AnsL cl H' xs as := Paired.mapP h fun _ _ z => z.keep k
theorem AnsL.at {cl : Nat → Addr} {H : Hp} : ∀ {xs : List V} {as : List An} {i : Nat} {x : V}, AnsL cl H xs as → xs[i]? = some x → ∃ a, as[i]? = some a ∧ a.on cl H x
  | _, _, 0, _, .cons h _, e => by cases e; exact ⟨_, rfl, h⟩
  | _, _, i + 1, _, .cons _ t, e => AnsL.at (i := i) t e
  | _, _, _, _, .nil, e => by simp at e
theorem AnsL.len {cl : Nat → Addr} {H : Hp} {xs : List V} {as : List An} (h : AnsL cl H xs as) : xs.length = as.length := Paired.length h
section
variable {P : Program} {w : World} {K : PySem.W.Frag} {mg : Str → Option Value} {base : Heap}
/-- the last two statements -/
theorem mr_end {f CV : Addr} {cl : Nat → Addr} {cdv : Value} {A : Around} {outer : List Env} {s : Shared} {H : Hp} {E : XK} (T : Blt mg) (mr : mg "repr" = none) (AM : AnM P w K mg base cl CV) (hr : Room 5 (cxOf CX0 P w K mg base nMr "_law_made_right" (defScope sLMadeRight) f cdv A outer s H E).nox.A) (gd : (cxOf CX0 P w K mg base nMr "_law_made_right" (defScope sLMadeRight) f cdv A outer s H E).nox.A.guards = some []) :
    ∃ t : TS, PSs (cxOf CX0 P w K mg base nMr "_law_made_right" (defScope sLMadeRight) f cdv A outer s H E).nox ((defBody sLMadeRight).drop 9) t ∧ ∀ (D : Ends) (G : Hp) (l4 : Addr) (xs : List V) (d1 d2 d3 : Th) (v0 v1 v2 v3 v5 v6 v7 v8 v9 v10 v11 : Option V), G l4 = some (.lst xs) → AnsL cl G xs (someA d1 d2 d3) →
      (∀ G', Same G G' → D.rt (.bl true) G') → t D [v0, v1, v2, v3, some (.ref l4), v5, v6, v7, v8, v9, v10, v11, none, none] G := by
  have hu : (cxOf CX0 P w K mg base nMr "_law_made_right" (defScope sLMadeRight) f cdv A outer s H E).nox.A.units + 64 < cLine := Room.units hr
  refine ⟨_, (pss_cons (ps_if (pt_cmpR (op_neD hu) (pe_lc (own := [("_law_made", 13)]) (g := gName 13) (by rfl) scMr.nd (pi_list (pv 4)) (blkOk_by (own := [("_law_made", 13)]) (N := nMr) (sc := defScope sLMadeRight) (by decide +kernel)) (fun _ _ _ _ _ => pg_name (i := 13) scMr.nd rfl (.inl rfl)) (fun _ _ _ _ _ => pts_one (pt_not (pt_val (pe_callB (r := rIsi K) call_isi (by exact rfl) (by exact T.isi) (by decide +kernel) (pa_cons (pv 13) (pa_cons (pe_glob (v := .ref CV) rfl AM.gV rfl) pa_nil)))))) (fun _ _ _ _ _ => pe_int)) (pe_lst pa_nil) (nomark _))
      (pss_one (ps_ret pe_bl)) pss_nil)
    (pss_one (ps_ret (pe_cmpR op_eq (pe_callB (call_reprV gd hu) (by rfl) mr (by decide +kernel) (pa_cons (pe_lc (own := [("_law_made", 13)]) (g := gName 13) (by rfl) scMr.nd (pi_list (pv 4)) (blkOk_by (own := [("_law_made", 13)]) (N := nMr) (sc := defScope sLMadeRight) (by decide +kernel)) (fun _ _ _ _ _ => pg_name (i := 13) scMr.nd rfl (.inl rfl)) (fun _ _ _ _ _ => pts_nil) (fun _ _ _ _ _ => (pe_callTy (r := rBlAn cl) (call_boolAn AM (hr.mono (by decide))) (by rfl) T.bool (by decide +kernel) (pa_cons (pv 13) pa_nil)))) pa_nil)) pe_str (nomark _))))), ?_⟩
  intro D G l4 xs d1 d2 d3 v0 v1 v2 v3 v5 v6 v7 v8 v9 v10 v11 hl4 ha fin
  have hlen : xs.length = 4 := ha.len
  refine ⟨_, rfl, l4, rfl, ⟨_, SqL.of hl4⟩, fun D1 nD => lc_list (K := K) (a := l4) (xs := xs) (fun i H' => H' D1 = some (.lst []) ∧ Same G H') ⟨upd_same, same_new nD⟩ (fun i H' _ q => SqL.of (q.2 _ _ hl4)) (fun i v H' hi h => ?_) (fun H' h => ?_)⟩
  · obtain ⟨hD, s1⟩ := h
    obtain ⟨a, hai, hav⟩ := ha.at hi
    obtain ⟨x, rfl, hx⟩ := hav.keep s1
    have ix := a.ix_lt
    refine ⟨rfl, _, rfl, _, _, _, _, true, rfl, .own CV, an_ty AM.c hx, AM.iV _ ix, _, rfl, iteF ⟨hD, s1⟩⟩
  · obtain ⟨hD, s1⟩ := h
    refine ⟨(by show 0 ≤ sizeLine; decide), fun q nq => ?_⟩
    have sq : Same H' (upd H' q (.lst [])) := same_new nq
    refine ⟨.list [], .list [], .lst (SqL.of (sq _ _ hD)) .nil, .lst (SqL.of upd_same) .nil, by decide +kernel, by decide +kernel, ?_⟩
    rw [show PyData.eqv (.list []) (.list []) = true by decide +kernel]
    have s2 := s1.trans sq
    generalize upd H' q (.lst []) = H2 at s2 ⊢
    refine ⟨_, rfl, iteF ?_⟩
    have ha2 := ha.keep s2
    refine ⟨_, rfl, l4, rfl, ⟨_, SqL.of (s2 _ _ hl4)⟩, fun D2 nD2 => lc_list (K := K) (a := l4) (xs := xs) (fun i H3 => H3 D2 = some (.lst (((someA d1 d2 d3).take i).map fun a => V.bl a.truth)) ∧ Same H2 H3) ⟨by rw [List.take_zero]; exact upd_same, same_new nD2⟩ (fun i H3 _ q => SqL.of (q.2 _ _ (s2 _ _ hl4))) (fun i v H3 hi h => ?_) (fun H3 h => ?_)⟩
    · obtain ⟨hD2, s3⟩ := h
      obtain ⟨a, hai, hav⟩ := ha2.at hi
      refine ⟨rfl, ?_⟩
      unfold tYes
      refine iteT ⟨_, rfl, v, a, rfl, hav.keep s3, _, hD2, ?_, ?_, fun b u e => by rw [upd_ne (ne_of_none e nD2)]; exact s3 _ _ e⟩
      · rw [List.length_map, List.length_take]
        exact Nat.lt_of_le_of_lt (show _ ≤ 4 from Nat.min_le_right _ _) (by decide)
      · rw [upd_same]
        obtain ⟨hj, e⟩ := List.getElem?_eq_some_iff.mp hai
        rw [List.take_succ_eq_append_getElem hj, List.map_append, e]
        rfl
    · obtain ⟨hD2, s3⟩ := h
      rw [hlen] at hD2
      have e4 : ((someA d1 d2 d3).take 4).map (fun a => V.bl a.truth) = [.bl true, .bl false, .bl false, .bl true] := rfl
      rw [e4] at hD2
      refine ⟨.ref D2, .list [.bool true, .bool false, .bool false, .bool true], rfl, .plain (.lst (SqL.of hD2) (.cons (.bl true) (.cons (.bl false) (.cons (.bl false) (.cons (.bl true) .nil))))) rfl, by decide +kernel, by decide, by decide +kernel, rfl, ?_⟩
      rw [decide_eq_true (show V.str (PyData.list [.bool true, .bool false, .bool false, .bool true]).shown = V.str "[True, False, False, True]" by rw [show (PyData.list [.bool true, .bool false, .bool false, .bool true]).shown = "[True, False, False, True]" by decide +kernel])]
      exact fin _ (s2.trans s3)
end
end Ev
namespace Ev
open PySem L2 PySem.Spec PyProof.Rows RZ
/-- what is like none of the answers -/
def OthV (cl : Nat → Addr) (d1 d2 d3 : Th) (H : Hp) (y : V) : Prop := (∃ o, o ∈ othA d1 d2 d3 ∧ o.short ∧ o.on cl H y) ∨ (∃ d : Th, d.on H y) ∨ ∃ a xs, y = .ref a ∧ H a = some (.tup xs)
theorem OthV.keep {cl : Nat → Addr} {d1 d2 d3 : Th} {H H' : Hp} {y : V} (h : OthV cl d1 d2 d3 H y) (k : Same H H') : OthV cl d1 d2 d3 H' y := by
  rcases h with ⟨o, h1, h2, h3⟩ | ⟨d, h⟩ | ⟨a, xs, e, h⟩
  · exact .inl ⟨o, h1, h2, h3.keep k⟩
  · exact .inr (.inl ⟨d, h.keep k⟩)
  · exact .inr (.inr ⟨a, xs, e, k _ _ h⟩)
theorem oth_rel {K : PySem.W.Frag} {cl : Nat → Addr} {d1 d2 d3 : Th} {H : Hp} {y z : V} {a : An} {Q : VK} (f1 : d1 ≠ .str "w") (f2 : d2 ≠ .str "w") (f3 : d3 ≠ .str "w") (h : OthV cl d1 d2 d3 H y) (ha : a ∈ someA d1 d2 d3) (sa : a.short) (hz : a.on cl H z) (q : Q (.bl false) H) :
    rEqAn K cl false y z H Q ∨ rEqTA K cl y z H Q := by
  rcases h with ⟨o, h1, h2, h3⟩ | ⟨d, h⟩ | ⟨b, xs, rfl, h⟩
  · exact .inl ⟨o, a, false, h3, hz, h2, sa, oth_no f1 f2 f3 h1 ha, q⟩
  · obtain ⟨T, l, ty, hT⟩ := h.ty (K := K)
    exact .inr ⟨T, l, a, h.left, ty, hT, hz, sa, q⟩
  · exact .inr ⟨"tuple", ["tuple", "object"], a, .tup (SqT.of h), .base (.tup h), by decide +kernel, hz, sa, q⟩
theorem some_sh {d1 d2 d3 : Th} (s1 : d1.short) (s2 : d2.short) (s3 : d3.short) {a : An} (h : a ∈ someA d1 d2 d3) : a.short := by
  simp only [someA, List.mem_cons, List.not_mem_nil, or_false] at h
  rcases h with rfl | rfl | rfl | rfl
  · exact s1
  · exact ⟨s1, s2⟩
  · exact s1
  · exact ⟨s1, s2, s3⟩
section
variable {P : Program} {w : World} {K : PySem.W.Frag} {mg : Str → Option Value} {base : Heap}
/-- the loop over the answers -/
theorem mr_loop {f CV : Addr} {cl : Nat → Addr} {cdv : Value} {A : Around} {outer : List Env} {s : Shared} {H : Hp} {E : XK} (T : Blt mg) (mr : mg "repr" = none) (AM : AnM P w K mg base cl CV) (hr : Room 5 (cxOf CX0 P w K mg base nMr "_law_made_right" (defScope sLMadeRight) f cdv A outer s H E).nox.A) (gd : (cxOf CX0 P w K mg base nMr "_law_made_right" (defScope sLMadeRight) f cdv A outer s H E).nox.A.guards = some []) :
    ∃ t : TS, PSs (cxOf CX0 P w K mg base nMr "_law_made_right" (defScope sLMadeRight) f cdv A outer s H E).nox ((defBody sLMadeRight).drop 8) t ∧ ∀ (D : Ends) (G : Hp) (l4 l5 l9 : Addr) (xs zs ys : List V) (d1 d2 d3 : Th) (v0 v1 v2 v3 v6 v7 v8 v10 v11 : Option V), G l4 = some (.lst xs) → AnsL cl G xs (someA d1 d2 d3) → G l5 = some (.lst zs) → AnsL cl G zs (someA d1 d2 d3) →
      G l9 = some (.lst ys) → (∀ y ∈ ys, OthV cl d1 d2 d3 G y) → d1.short → d2.short → d3.short → d1 ≠ .str "w" → d2 ≠ .str "w" → d3 ≠ .str "w" →
      (∀ G', Same G G' → D.rt (.bl true) G') → t D [v0, v1, v2, v3, some (.ref l4), some (.ref l5), v6, v7, v8, some (.ref l9), v10, v11, none, none] G := by
  have hu : (cxOf CX0 P w K mg base nMr "_law_made_right" (defScope sLMadeRight) f cdv A outer s H E).nox.A.units + 64 < cLine := Room.units hr
  have hr1 : Room 1 (cxOf CX0 P w K mg base nMr "_law_made_right" (defScope sLMadeRight) f cdv A outer s H E).nox.A := hr.mono (by decide)
  have hr2 : Room 2 (cxOf CX0 P w K mg base nMr "_law_made_right" (defScope sLMadeRight) f cdv A outer s H E).nox.A := hr.mono (by decide)
  obtain ⟨tE, hE, qE⟩ := mr_end (outer := outer) (s := s) (H := H) (E := E) (f := f) (cdv := cdv) T mr AM hr gd
  refine ⟨_, (pss_cons (ps_for PassesOwn.never rfl (pi_range1 (by rfl) T.range (pa_cons pe_int pa_nil)) (pg_name (i := 10) scMr.nd rfl (.inr rfl))
      (pss_cons (ps_setLc (i := 11) (own := [("_law_thing_here", 12)]) (g := gName 12) (by rfl) scMr.nd rfl rfl (sw_true rfl rfl rfl (by decide +kernel)) (pi_list (pv 4)) (blkOk_by (own := [("_law_thing_here", 12)]) (N := nMr) (sc := defScope sLMadeRight) (by decide +kernel)) (fun _ _ _ _ _ => pg_name (i := 12) scMr.nd rfl (.inl rfl)) (fun _ _ _ _ _ => pts_one (pt_cmpR (r := rEqAn K cl false) (by exact op_eqAn AM.c hr1) (pv 12) (pe_ix (r := rIxL K) (by exact ix_list) (pv 4) (pv 10) (fun _ _ => rfl)) (nomark _))) (fun _ _ _ _ _ => (pv 12)))
      (pss_one (ps_if (PW.pt (pw_or (pt_cmpR op_ne (pe_callB call_len_seq (by rfl) T.len PySem.boot_len (pa_cons (pv 11) pa_nil)) pe_int (nomark _)) (pw_or (pt_cmpR (op_neAn AM.c hr2) (pe_ix ix_list (pv 4) (pv 10) (fun _ _ => rfl)) (pe_ix ix_list (pv 5) (pv 10) (fun _ _ => rfl)) (nomark _)) (pw_or1 (pt_cmpR (op_neD hu) (pe_lc (own := [("_law_thing_here", 12)]) (g := gName 12) (by rfl) scMr.nd (pi_list (pv 9)) (blkOk_by (own := [("_law_thing_here", 12)]) (N := nMr) (sc := defScope sLMadeRight) (by decide +kernel)) (fun _ _ _ _ _ => pg_name (i := 12) scMr.nd rfl (.inl rfl)) (fun _ _ _ _ _ => pts_one (pt_cmpR (r := fun x y H Q => rEqAn K cl false x y H Q ∨ rEqTA K cl x y H Q) (by exact OpR.or (op_eqAn AM.c hr1) (op_eqTA AM.c hr1)) (pv 12) (pe_ix (r := rIxL K) (by exact ix_list) (pv 4) (pv 10) (fun _ _ => rfl)) (nomark _))) (fun _ _ _ _ _ => (pv 12))) (pe_lst pa_nil) (nomark _))))))
        (pss_one (ps_ret pe_bl)) pss_nil))))
    hE), ?_⟩
  intro D G l4 l5 l9 xs zs ys d1 d2 d3 v0 v1 v2 v3 v6 v7 v8 v10 v11 h4 a4 h5 a5 h9 a9 s1 s2 s3 f1 f2 f3 fin
  have hlen : xs.length = 4 := a4.len
  have hlenz : zs.length = 4 := a5.len
  refine ⟨4, rfl, by decide, by decide, for_range (n := 4) (fun i σ H2 => (∃ v10 v11 : Option V, σ = [v0, v1, v2, v3, some (.ref l4), some (.ref l5), v6, v7, v8, some (.ref l9), v10, v11, none, none]) ∧ Same G H2) ⟨⟨_, _, rfl⟩, Same.refl G⟩ (fun k σ H2 hk h => ?_) (fun σ H2 h => ?_)⟩
  · obtain ⟨⟨v10, v11, rfl⟩, sg⟩ := h
    obtain ⟨xk, hxk⟩ : ∃ x, xs[k]? = some x := ⟨xs[k]'(by omega), List.getElem?_eq_getElem _⟩
    obtain ⟨zk, hzk⟩ : ∃ x, zs[k]? = some x := ⟨zs[k]'(by omega), List.getElem?_eq_getElem _⟩
    obtain ⟨ak, hak, hax⟩ := a4.at hxk
    obtain ⟨ak', hak', haz⟩ := a5.at hzk
    obtain rfl : ak' = ak := by rw [hak] at hak'; exact (Option.some.inj hak').symm
    have mk' : ak' ∈ someA d1 d2 d3 := List.mem_of_getElem? hak
    have sk := some_sh s1 s2 s3 mk'
    have e0 : (0 : Int) + (k : Int) = (k : Int) := by omega
    have ax : atI xs ((0 : Int) + (k : Int)) = some xk := by rw [e0]; exact atI_nat hxk
    have az : atI zs ((0 : Int) + (k : Int)) = some zk := by rw [e0]; exact atI_nat hzk
    refine ⟨_, rfl, l4, rfl, ⟨_, SqL.of (sg _ _ h4)⟩, fun D1 nD => lc_list (K := K) (a := l4) (xs := xs) (fun i H' => H' D1 = some (.lst (if k < i then [xk] else [])) ∧ Same H2 H') ⟨by rw [if_neg (by omega)]; exact upd_same, same_new nD⟩ (fun i H' _ q => SqL.of (q.2 _ _ (sg _ _ h4))) (fun i v H' hi h => ?_) (fun H' h => ?_)⟩
    · obtain ⟨hD, st⟩ := h
      have sgt := sg.trans st
      obtain ⟨a, hai, hav⟩ := (a4.keep sgt).at hi
      have ma : a ∈ someA d1 d2 d3 := List.mem_of_getElem? hai
      refine ⟨rfl, _, rfl, _, rfl, _, rfl, l4, xs, _, xk, rfl, rfl, SqL.of (sgt _ _ h4), ax, ?_⟩
      by_cases ik : i = k
      · subst ik
        obtain rfl : a = ak' := by rw [hak] at hai; exact (Option.some.inj hai).symm
        obtain rfl : v = xk := by rw [hxk] at hi; exact (Option.some.inj hi).symm
        refine ⟨a, a, true, hav, hav, sk, sk, eqAn_refl a, _, rfl, iteT ⟨_, rfl, _, hD, ?_, ?_, fun b u e => by rw [upd_ne (ne_of_none e nD)]; exact st _ _ e⟩⟩
        · rw [if_neg (by omega)]; show 0 < sizeLine; decide
        · rw [upd_same, if_neg (by omega), if_pos (by omega)]; rfl
      · refine ⟨a, ak', false, hav, hax.keep sgt, some_sh s1 s2 s3 ma, sk, eqAn_ix (by rw [(some_ix hai).1, (some_ix hak).1]; exact ik), _, rfl, iteF ⟨?_, st⟩⟩
        rw [hD]
        by_cases z : k < i
        · rw [if_pos z, if_pos (by omega)]
        · rw [if_neg z, if_neg (by omega)]
    · obtain ⟨hD, st⟩ := h
      rw [hlen, if_pos (by omega)] at hD
      have sgt := sg.trans st
      refine ⟨_, rfl, D1, _, rfl, .inl (SqL.of hD), rfl, _, rfl, iteNS rfl ?_⟩
      refine ⟨_, rfl, _, rfl, l4, xs, _, xk, rfl, rfl, SqL.of (sgt _ _ h4), ax, _, rfl, _, rfl, l5, zs, _, zk, rfl, rfl, SqL.of (sgt _ _ h5), az, ak', ak', true, hax.keep sgt, haz.keep sgt, sk, sk, eqAn_refl _, _, rfl, iteF ?_⟩
      refine ⟨_, rfl, l9, rfl, ⟨_, SqL.of (sgt _ _ h9)⟩, fun D2 nD2 => lc_list (K := K) (a := l9) (xs := ys) (fun i H3 => H3 D2 = some (.lst []) ∧ Same H' H3) ⟨upd_same, same_new nD2⟩ (fun i H3 _ q => SqL.of (q.2 _ _ (sgt _ _ h9))) (fun i v H3 hi h => ?_) (fun H3 h => ?_)⟩
      · obtain ⟨hD2, st3⟩ := h
        have s3' := sgt.trans st3
        refine ⟨rfl, _, rfl, _, rfl, _, rfl, l4, xs, _, xk, rfl, rfl, SqL.of (s3' _ _ h4), ax, ?_⟩
        exact oth_rel f1 f2 f3 ((a9 v (List.mem_of_getElem? hi)).keep s3') mk' sk (hax.keep s3') ⟨_, rfl, iteF ⟨hD2, st3⟩⟩
      · obtain ⟨hD2, st3⟩ := h
        refine ⟨(by show 0 ≤ sizeLine; decide), fun q nq => ?_⟩
        have sq : Same H3 (upd H3 q (.lst [])) := same_new nq
        refine ⟨.list [], .list [], .lst (SqL.of (sq _ _ hD2)) .nil, .lst (SqL.of upd_same) .nil, by decide +kernel, by decide +kernel, ?_⟩
        rw [show PyData.eqv (.list []) (.list []) = true by decide +kernel]
        exact ⟨_, rfl, iteF ⟨⟨_, _, rfl⟩, (sgt.trans st3).trans sq⟩⟩
  · obtain ⟨⟨v10, v11, rfl⟩, sg⟩ := h
    exact qE D H2 l4 xs d1 d2 d3 _ _ _ _ _ _ _ _ _ _ _ (sg _ _ h4) (a4.keep sg) fun G' s' => fin G' (sg.trans s')
end
end Ev
namespace Ev
open PySem L2 PySem.Spec PyProof.Rows RZ
theorem shw : (Th.str "w").short := by show (PyData.str "w").canLay0 = true; decide +kernel
section
variable {P : Program} {w : World} {K : PySem.W.Frag} {mg : Str → Option Value} {base : Heap}
/-- those like none of them -/
theorem mr_oth {f CV : Addr} {cl : Nat → Addr} {cdv : Value} {A : Around} {outer : List Env} {s : Shared} {H : Hp} {E : XK} (T : Blt mg) (mr : mg "repr" = none) (AM : AnM P w K mg base cl CV) (hr : Room 5 (cxOf CX0 P w K mg base nMr "_law_made_right" (defScope sLMadeRight) f cdv A outer s H E).nox.A) (gd : (cxOf CX0 P w K mg base nMr "_law_made_right" (defScope sLMadeRight) f cdv A outer s H E).nox.A.guards = some []) :
    ∃ t : TS, PSs (cxOf CX0 P w K mg base nMr "_law_made_right" (defScope sLMadeRight) f cdv A outer s H E).nox ((defBody sLMadeRight).drop 6) t ∧ ∀ (D : Ends) (G : Hp) (l4 l5 : Addr) (xs zs : List V) (w1 w2 w3 : V) (d1 d2 d3 : Th) (v0 v6 v7 v8 v9 v10 v11 : Option V), G l4 = some (.lst xs) → AnsL cl G xs (someA d1 d2 d3) → G l5 = some (.lst zs) → AnsL cl G zs (someA d1 d2 d3) →
      d1.on G w1 → d2.on G w2 → d3.on G w3 → d1.short → d2.short → d3.short → d1 ≠ .str "w" → d2 ≠ .str "w" → d3 ≠ .str "w" →
      (∀ G', Same G G' → D.rt (.bl true) G') → t D [v0, some w1, some w2, some w3, some (.ref l4), some (.ref l5), v6, v7, v8, v9, v10, v11, none, none] G := by
  obtain ⟨fW, fdW, gW, MW, GW, bW, kW⟩ := AM.m0
  obtain ⟨fP, fdP, gP, MP, GP, bP, kP⟩ := AM.m1
  obtain ⟨fN, fdN, gN, MN, GN, bN, kN⟩ := AM.m2
  obtain ⟨fM, fdM, gM, MM, GM, bM, kM⟩ := AM.m3
  obtain ⟨tL, hL, qL⟩ := mr_loop (outer := outer) (s := s) (H := H) (E := E) (f := f) (cdv := cdv) T mr AM hr gd
  refine ⟨_, (pss_cons (ps_set (i := 9) scMr.nd rfl (.inl rfl) (pe_lst (pa_cons (pe_make MW GW hr (by rfl) AM.g0 bW .nil pass0 (pa_cons pe_str pa_nil)) (pa_cons (pe_make MP GP hr (by rfl) AM.g1 bP .nil pass0 (pa_cons pe_str (pa_cons (pv 2) pa_nil))) (pa_cons (pe_make MP GP hr (by rfl) AM.g1 bP .nil pass0 (pa_cons (pv 1) (pa_cons pe_str pa_nil))) (pa_cons (pe_make MN GN hr (by rfl) AM.g2 bN .nil pass0 (pa_cons pe_str pa_nil)) (pa_cons (pe_make MM GM hr (by rfl) AM.g3 bM .nil pass0 (pa_cons pe_str (pa_cons (pv 2) (pa_cons (pv 3) pa_nil)))) (pa_cons (pe_make MM GM hr (by rfl) AM.g3 bM .nil pass0 (pa_cons (pv 1) (pa_cons pe_str (pa_cons (pv 3) pa_nil)))) pa_nil))))))))
    (pss_cons (ps_set (i := 9) scMr.nd rfl (.inl rfl) (pe_op op_cat (pv 9) (pe_lst (pa_cons (pe_make MM GM hr (by rfl) AM.g3 bM .nil pass0 (pa_cons (pv 1) (pa_cons (pv 2) (pa_cons pe_str pa_nil)))) (pa_cons pe_non (pa_cons (pv 1) (pa_cons (pe_tup (pa_cons (pv 1) (pa_cons (pv 2) pa_nil))) pa_nil)))))))
    hL)), ?_⟩
  intro D G l4 l5 xs zs w1 w2 w3 d1 d2 d3 v0 v6 v7 v8 v9 v10 v11 h4 a4 h5 a5 k1 k2 k3 s1 s2 s3 f1 f2 f3 fin
  refine fun x1 dx1 na nd ne => mp_w (cl := cl) (d1 := .str "w") na nd ne rfl shw fun G1 t1 q1 => ⟨rfl, ?_⟩
  have r1 := t1
  refine ⟨_, rfl, fun x2 dx2 na nd ne => mp_p (cl := cl) (d1 := .str "w") na nd ne rfl (k2.keep r1) shw s2 fun G2 t2 q2 => ⟨rfl, ?_⟩⟩
  have r2 := r1.trans t2
  refine ⟨_, rfl, fun x3 dx3 na nd ne => mp_p (cl := cl) (d2 := .str "w") na nd ne (k1.keep r2) rfl s1 shw fun G3 t3 q3 => ⟨rfl, ?_⟩⟩
  have r3 := r2.trans t3
  refine fun x4 dx4 na nd ne => mp_n (cl := cl) (d1 := .str "w") na nd ne rfl shw fun G4 t4 q4 => ⟨rfl, ?_⟩
  have r4 := r3.trans t4
  refine ⟨_, rfl, _, rfl, fun x5 dx5 na nd ne => mp_m (cl := cl) (d1 := .str "w") na nd ne rfl (k2.keep r4) (k3.keep r4) shw s2 s3 fun G5 t5 q5 => ⟨rfl, ?_⟩⟩
  have r5 := r4.trans t5
  refine ⟨_, rfl, _, rfl, fun x6 dx6 na nd ne => mp_m (cl := cl) (d2 := .str "w") na nd ne (k1.keep r5) rfl (k3.keep r5) s1 shw s3 fun G6 t6 q6 => ⟨rfl, ?_⟩⟩
  have r6 := r5.trans t6
  refine ⟨(by show 6 ≤ sizeLine; decide), fun l9 n9 => ?_⟩
  have h9 : upd G6 l9 (.lst [.ref x1, .ref x2, .ref x3, .ref x4, .ref x5, .ref x6]) l9 = some (.lst [.ref x1, .ref x2, .ref x3, .ref x4, .ref x5, .ref x6]) := upd_same
  have t7 : Same G6 (upd G6 l9 (.lst [.ref x1, .ref x2, .ref x3, .ref x4, .ref x5, .ref x6])) := same_new n9
  generalize upd G6 l9 (.lst [.ref x1, .ref x2, .ref x3, .ref x4, .ref x5, .ref x6]) = G7 at h9 t7 ⊢
  have r7 := r6.trans t7
  refine ⟨_, rfl, _, rfl, _, rfl, fun x7 dx7 na nd ne => mp_m (cl := cl) (d3 := .str "w") na nd ne (k1.keep r7) (k2.keep r7) rfl s1 s2 shw fun G8 t8 q7 => ⟨rfl, ?_⟩⟩
  have r8 := r7.trans t8
  refine ⟨_, rfl, _, rfl, _, rfl, (by show 2 ≤ sizeLine; decide), fun tp np => ?_⟩
  have hp : upd G8 tp (.tup [w1, w2]) tp = some (.tup [w1, w2]) := upd_same
  have t9 : Same G8 (upd G8 tp (.tup [w1, w2])) := same_new np
  generalize upd G8 tp (.tup [w1, w2]) = G9 at hp t9 ⊢
  have r9 := r8.trans t9
  refine ⟨(by show 4 ≤ sizeLine; decide), fun l10 n10 => ?_⟩
  have h10 : upd G9 l10 (.lst [.ref x7, .non, w1, .ref tp]) l10 = some (.lst [.ref x7, .non, w1, .ref tp]) := upd_same
  have t10 : Same G9 (upd G9 l10 (.lst [.ref x7, .non, w1, .ref tp])) := same_new n10
  generalize upd G9 l10 (.lst [.ref x7, .non, w1, .ref tp]) = G10 at h10 t10 ⊢
  have r10 := r9.trans t10
  refine ⟨l9, l10, _, _, rfl, rfl, (t8.trans (t9.trans t10)) _ _ h9, h10, (by show 6 + 4 ≤ sizeLine; decide), fun l11 n11 => ?_⟩
  have h11 : upd G10 l11 (.lst ([.ref x1, .ref x2, .ref x3, .ref x4, .ref x5, .ref x6] ++ [.ref x7, .non, w1, .ref tp])) l11 = some (.lst [.ref x1, .ref x2, .ref x3, .ref x4, .ref x5, .ref x6, .ref x7, .non, w1, .ref tp]) := upd_same
  have t11 : Same G10 (upd G10 l11 (.lst ([.ref x1, .ref x2, .ref x3, .ref x4, .ref x5, .ref x6] ++ [.ref x7, .non, w1, .ref tp]))) := same_new n11
  generalize upd G10 l11 (.lst ([.ref x1, .ref x2, .ref x3, .ref x4, .ref x5, .ref x6] ++ [.ref x7, .non, w1, .ref tp])) = G11 at h11 t11 ⊢
  have r11 := r10.trans t11
  refine qL D G11 l4 l5 l11 xs zs _ d1 d2 d3 _ _ _ _ _ _ _ _ _ (r11 _ _ h4) (a4.keep r11) (r11 _ _ h5) (a5.keep r11) h11 (fun y hy => ?_) s1 s2 s3 f1 f2 f3 fun G' s' => fin G' (r11.trans s')
  have e11 := t11
  have e10 := t10.trans e11
  have e9 := t9.trans e10
  have e8 := t8.trans e9
  have e7 := t7.trans e8
  have e6 := t6.trans e7
  have e5 := t5.trans e6
  have e4 := t4.trans e5
  have e3 := t3.trans e4
  have e2 := t2.trans e3
  simp only [List.mem_cons, List.not_mem_nil, or_false] at hy
  rcases hy with rfl | rfl | rfl | rfl | rfl | rfl | rfl | rfl | rfl | rfl
  · exact .inl ⟨.w (.str "w"), by simp [othA], shw, x1, rfl, q1.keep e2⟩
  · exact .inl ⟨.p (.str "w") d2, by simp [othA], ⟨shw, s2⟩, x2, rfl, q2.keep e3⟩
  · exact .inl ⟨.p d1 (.str "w"), by simp [othA], ⟨s1, shw⟩, x3, rfl, q3.keep e4⟩
  · exact .inl ⟨.n (.str "w"), by simp [othA], shw, x4, rfl, q4.keep e5⟩
  · exact .inl ⟨.m (.str "w") d2 d3, by simp [othA], ⟨shw, s2, s3⟩, x5, rfl, q5.keep e6⟩
  · exact .inl ⟨.m d1 (.str "w") d3, by simp [othA], ⟨s1, shw, s3⟩, x6, rfl, q6.keep e7⟩
  · exact .inl ⟨.m d1 d2 (.str "w"), by simp [othA], ⟨s1, s2, shw⟩, x7, rfl, q7.keep e9⟩
  · exact .inr (.inl ⟨.non, rfl⟩)
  · exact .inr (.inl ⟨d1, k1.keep r11⟩)
  · exact .inr (.inr ⟨tp, _, rfl, e10 _ _ hp⟩)
end
end Ev
namespace Ev
open PySem L2 PySem.Spec PyProof.Rows RZ
/-- rows of things, each a list -/
def RowL (H : Hp) (ks : List V) (dss : List (List Th)) : Prop := Paired (fun v ds => ∃ a vs, v = .ref a ∧ H a = some (.lst vs) ∧ Paired (fun v (d : Th) => d.on H v) vs ds) ks dss
theorem RowL.keep {H H' : Hp} {ks : List V} {dss : List (List Th)} (h : RowL H ks dss) (k : Same H H') : RowL H' ks dss := Paired.mapP h fun _ _ ⟨a, vs, e, q, p⟩ => ⟨a, vs, e, k _ _ q, Paired.mapP p fun _ _ z => Th.on.keep z k⟩
theorem RowL.at {H : Hp} : ∀ {ks : List V} {dss : List (List Th)} {i : Nat} {x : V}, RowL H ks dss → ks[i]? = some x → ∃ ds, dss[i]? = some ds ∧ ∃ a vs, x = .ref a ∧ H a = some (.lst vs) ∧ Paired (fun v (d : Th) => d.on H v) vs ds
  | _, _, 0, _, .cons h _, e => by cases e; exact ⟨_, rfl, h⟩
  | _, _, i + 1, _, .cons _ t, e => RowL.at (i := i) t e
  | _, _, _, _, .nil, e => by simp at e
theorem fine_all {ds : List Th} (h : ∀ d ∈ ds, d.fine) : PyData.showableAll (ds.map Th.data) = true ∧ PyData.leavesShortAll 2000 (ds.map Th.data) = true ∧ PyData.weightAll (ds.map Th.data) ≤ 201 * ds.length ∧ PyData.depthAll (ds.map Th.data) ≤ 5 := by
  induction ds with
  | nil => exact ⟨rfl, rfl, Nat.le_refl _, by decide⟩
  | cons d r ih =>
    obtain ⟨a, b, c, e⟩ := ih fun x hx => h x (List.mem_cons_of_mem _ hx)
    have f := h d List.mem_cons_self
    refine ⟨?_, ?_, ?_, ?_⟩
    · rw [List.map_cons, PyData.showableAll, f.s1, a]; rfl
    · rw [List.map_cons, PyData.leavesShortAll, f.s3, b]; rfl
    · rw [List.map_cons, PyData.weightAll, List.length_cons]; have := f.s4; omega
    · rw [List.map_cons, PyData.depthAll]; have := f.s2; omega
theorem show_len {d : PyData} (h : d.leavesShort 2000 = true) (hw : d.weight ≤ 8000) : d.shown.length ≤ sizeLine := by
  have := PyData.shown_le 2000 (by decide) d h
  rw [sizeLine_eq]
  omega
theorem row_vi {K : PySem.W.Frag} {H : Hp} {vs : List V} {ds : List Th} (h : Paired (fun v (d : Th) => d.on H v) vs ds) : Paired (Vi K H) vs (ds.map Th.data) := by
  induction h with
  | nil => exact .nil
  | cons a _ ih => exact .cons (Th.on.vi a) ih
theorem row_rep {K : PySem.W.Frag} {H : Hp} {a : Addr} {vs : List V} {ds : List Th} {Q : VK} (ha : H a = some (.lst vs)) (h : Paired (fun v (d : Th) => d.on H v) vs ds) (hf : ∀ d ∈ ds, d.fine) (ne : ds ≠ []) (hl : ds.length ≤ 10) (q : Q (.str (PyData.list (ds.map Th.data)).shown) H) : rReprI K [.ref a] H Q := by
  obtain ⟨s1, s2, s3, s4⟩ := fine_all hf
  have nv : vs ≠ [] := fun z => by
    subst z
    cases h
    exact ne rfl
  refine ⟨.ref a, .list (ds.map Th.data), rfl, s1, ?_, show_len s2 ?_, .inr ⟨a, vs, ds.map Th.data, rfl, rfl, ha, nv, row_vi h, fun d hd => ?_⟩, q⟩
  · simp only [PyData.depth]; omega
  · simp only [PyData.weight]; omega
  · obtain ⟨e, he, rfl⟩ := List.mem_map.mp hd
    have f := hf e he
    exact ⟨f.s1, show_len f.s3 (by have := f.s4; omega)⟩
def rowsD (d1 d2 d3 : Th) : List (List Th) := [[d1], [d1, d2], [d1], [d1, d2, d3]]
section
variable {P : Program} {w : World} {K : PySem.W.Frag} {mg : Str → Option Value} {base : Heap}
/-- what the answers keep -/
theorem mr_kept {f CV : Addr} {cl : Nat → Addr} {cdv : Value} {A : Around} {outer : List Env} {s : Shared} {H : Hp} {E : XK} (T : Blt mg) (mr : mg "repr" = none) (mz : mg "zip" = none) (AM : AnM P w K mg base cl CV) (hr : Room 5 (cxOf CX0 P w K mg base nMr "_law_made_right" (defScope sLMadeRight) f cdv A outer s H E).nox.A) (gd : (cxOf CX0 P w K mg base nMr "_law_made_right" (defScope sLMadeRight) f cdv A outer s H E).nox.A.guards = some []) :
    ∃ t : TS, PSs (cxOf CX0 P w K mg base nMr "_law_made_right" (defScope sLMadeRight) f cdv A outer s H E).nox ((defBody sLMadeRight).drop 3) t ∧ ∀ (D : Ends) (G : Hp) (l4 l5 : Addr) (xs zs : List V) (w1 w2 w3 : V) (d1 d2 d3 : Th) (v0 v6 v7 v8 v9 v10 v11 : Option V), G l4 = some (.lst xs) → AnsL cl G xs (someA d1 d2 d3) → G l5 = some (.lst zs) → AnsL cl G zs (someA d1 d2 d3) →
      d1.on G w1 → d2.on G w2 → d3.on G w3 → d1.fine → d2.fine → d3.fine →
      (∀ G', Same G G' → D.rt (.bl true) G') → t D [v0, some w1, some w2, some w3, some (.ref l4), some (.ref l5), v6, v7, v8, v9, v10, v11, none, none] G := by
  have hu : (cxOf CX0 P w K mg base nMr "_law_made_right" (defScope sLMadeRight) f cdv A outer s H E).nox.A.units + 64 < cLine := Room.units hr
  obtain ⟨tO, hO, qO⟩ := mr_oth (outer := outer) (s := s) (H := H) (E := E) (f := f) (cdv := cdv) T mr AM hr gd
  refine ⟨_, (pss_cons (ps_set (i := 6) scMr.nd rfl (.inl rfl) (pe_lst (pa_cons (pe_lst (pa_cons (pe_fld (pe_ix ix_list (pv 4) pe_int (fun _ _ => rfl)) rfl) pa_nil)) (pa_cons (pe_lst (pa_cons (pe_fld (pe_ix ix_list (pv 4) pe_int (fun _ _ => rfl)) rfl) (pa_cons (pe_fld (pe_ix ix_list (pv 4) pe_int (fun _ _ => rfl)) rfl) pa_nil))) (pa_cons (pe_lst (pa_cons (pe_fld (pe_ix ix_list (pv 4) pe_int (fun _ _ => rfl)) rfl) pa_nil)) pa_nil)))))
    (pss_cons (ps_expr (pe_bm PySem.F.plainAttrs_list PySem.F.slot_list_append PySem.F.type_list_append mt_append (pv 6) (pa_cons (pe_lst (pa_cons (pe_fld (pe_ix ix_list (pv 4) pe_int (fun _ _ => rfl)) rfl) (pa_cons (pe_fld (pe_ix ix_list (pv 4) pe_int (fun _ _ => rfl)) rfl) (pa_cons (pe_fld (pe_ix ix_list (pv 4) pe_int (fun _ _ => rfl)) rfl) pa_nil)))) pa_nil)))
    (pss_cons (ps_for PassesOwn.never rfl (pi_zipA (by rfl) mz (pa_cons (pv 6) (pa_cons (pe_lst (pa_cons (pe_lst (pa_cons (pv 1) pa_nil)) (pa_cons (pe_lst (pa_cons (pv 1) (pa_cons (pv 2) pa_nil))) (pa_cons (pe_lst (pa_cons (pv 1) pa_nil)) (pa_cons (pe_lst (pa_cons (pv 1) (pa_cons (pv 2) (pa_cons (pv 3) pa_nil)))) pa_nil))))) pa_nil))) (pg_tup (by rfl) (pgs_cons (pg_name (i := 7) scMr.nd rfl (.inl rfl)) (pgs_cons (pg_name (i := 8) scMr.nd rfl (.inl rfl)) pgs_nil)))
      (pss_one (ps_if (pt_cmpR op_ne (pe_callB (call_reprI gd hu) (by rfl) mr (by decide +kernel) (pa_cons (pv 7) pa_nil)) (pe_callB (call_reprI gd hu) (by rfl) mr (by decide +kernel) (pa_cons (pv 8) pa_nil)) (nomark _))
        (pss_one (ps_ret pe_bl)) pss_nil)))
    hO))), ?_⟩
  intro D G l4 l5 xs zs w1 w2 w3 d1 d2 d3 v0 v6 v7 v8 v9 v10 v11 h4 a4 h5 a5 k1 k2 k3 f1 f2 f3 fin
  obtain ⟨x0, x1, x2, x3, rfl, q0, q1, q2, q3⟩ : ∃ x0 x1 x2 x3 : Addr, xs = [.ref x0, .ref x1, .ref x2, .ref x3] ∧ WithinAt (cl 0) G x0 d1 ∧ PartedAt (cl 1) G x1 d1 d2 ∧ NeverAt (cl 2) G x2 d1 ∧ MetAt (cl 3) G x3 d1 d2 d3 := by
    have a4' := a4
    cases a4' with | cons b0 t => cases t with | cons b1 t => cases t with | cons b2 t => cases t with | cons b3 t =>
    cases t
    obtain ⟨x0, rfl, q0⟩ := b0
    obtain ⟨x1, rfl, q1⟩ := b1
    obtain ⟨x2, rfl, q2⟩ := b2
    obtain ⟨x3, rfl, q3⟩ := b3
    exact ⟨x0, x1, x2, x3, rfl, q0, q1, q2, q3⟩
  obtain ⟨e0, u0, g0, m0⟩ := id q0
  obtain ⟨e1, u1, u1', g1, m1, m1'⟩ := id q1
  obtain ⟨e2, u2, g2, m2⟩ := id q2
  obtain ⟨e3, u3, u3', u3'', g3, m3, m3', m3''⟩ := id q3
  refine ⟨_, rfl, l4, _, 0, _, rfl, rfl, SqL.of (h4), atI_nat (j := 0) rfl, x0, cl 0, e0, _, _, rfl, g0, AM.k0.cl, AM.k0.n1, Within_l1 _ , (by show 1 ≤ sizeLine; decide), fun r1 nr1 => ?_⟩
  have j1 : upd G r1 (.lst [u0]) r1 = some (.lst [u0]) := upd_same
  have t1 : Same G (upd G r1 (.lst [u0])) := same_new nr1
  generalize upd G r1 (.lst [u0]) = G1 at j1 t1 ⊢
  have h4a := t1 _ _ h4
  have g1a := t1 _ _ g1
  refine ⟨_, rfl, l4, _, 1, _, rfl, rfl, SqL.of (h4a), atI_nat (j := 1) rfl, x1, cl 1, e1, _, _, rfl, g1a, AM.k1.cl, AM.k1.n1, Parted_l1 _ _ , _, rfl, l4, _, 1, _, rfl, rfl, SqL.of (h4a), atI_nat (j := 1) rfl, x1, cl 1, e1, _, _, rfl, g1a, AM.k1.cl, AM.k1.n2, Parted_l2 _ _ , (by show 2 ≤ sizeLine; decide), fun r2 nr2 => ?_⟩
  have j2 : upd G1 r2 (.lst [u1, u1']) r2 = some (.lst [u1, u1']) := upd_same
  have t2 : Same G1 (upd G1 r2 (.lst [u1, u1'])) := same_new nr2
  generalize upd G1 r2 (.lst [u1, u1']) = G2 at j2 t2 ⊢
  have h4b := t2 _ _ h4a
  have g2b := t2 _ _ (t1 _ _ g2)
  refine ⟨_, rfl, l4, _, 2, _, rfl, rfl, SqL.of (h4b), atI_nat (j := 2) rfl, x2, cl 2, e2, _, _, rfl, g2b, AM.k2.cl, AM.k2.n1, Never_l1 _ , (by show 1 ≤ sizeLine; decide), fun r3 nr3 => ?_⟩
  have j3 : upd G2 r3 (.lst [u2]) r3 = some (.lst [u2]) := upd_same
  have t3 : Same G2 (upd G2 r3 (.lst [u2])) := same_new nr3
  generalize upd G2 r3 (.lst [u2]) = G3 at j3 t3 ⊢
  have s3 := t1.trans (t2.trans t3)
  refine ⟨(by show 3 ≤ sizeLine; decide), fun l6 n6 => ?_⟩
  have j6 : upd G3 l6 (.lst [.ref r1, .ref r2, .ref r3]) l6 = some (.lst [.ref r1, .ref r2, .ref r3]) := upd_same
  have n6' : G3 l6 = none := n6
  have t4 : Same G3 (upd G3 l6 (.lst [.ref r1, .ref r2, .ref r3])) := same_new n6
  have big : ∀ o, Same G3 (upd (upd G3 l6 (.lst [.ref r1, .ref r2, .ref r3])) l6 o) := fun o b u e => by rw [upd_ne (ne_of_none e n6'), upd_ne (ne_of_none e n6')]; exact e
  have h4c := t4 _ _ (s3 _ _ h4)
  have g3c := t4 _ _ (s3 _ _ g3)
  refine ⟨_, rfl, .inl ⟨rfl, _, SqL.of j6⟩, _, rfl, l4, _, 3, _, rfl, rfl, SqL.of (h4c), atI_nat (j := 3) rfl, x3, cl 3, e3, _, _, rfl, g3c, AM.k3.cl, AM.k3.n1, Met_l1 _ _ _ , _, rfl, l4, _, 3, _, rfl, rfl, SqL.of (h4c), atI_nat (j := 3) rfl, x3, cl 3, e3, _, _, rfl, g3c, AM.k3.cl, AM.k3.n2, Met_l2 _ _ _ , _, rfl, l4, _, 3, _, rfl, rfl, SqL.of (h4c), atI_nat (j := 3) rfl, x3, cl 3, e3, _, _, rfl, g3c, AM.k3.cl, AM.k3.n3, Met_l3 _ _ _ , (by show 3 ≤ sizeLine; decide), fun r4 nr4 => ?_⟩
  have nl : l6 ≠ r4 := ne_of_none j6 nr4
  have j4 : upd (upd G3 l6 (.lst [.ref r1, .ref r2, .ref r3])) r4 (.lst [u3, u3', u3'']) r4 = some (.lst [u3, u3', u3'']) := upd_same
  refine ⟨l6, _, _, rfl, rfl, same_new nr4 _ _ j6, (by show 3 < sizeLine; decide), ?_⟩
  have st5 : Same G3 (upd (upd (upd G3 l6 (.lst [.ref r1, .ref r2, .ref r3])) r4 (.lst [u3, u3', u3''])) l6 (.lst ([.ref r1, .ref r2, .ref r3] ++ [.ref r4]))) := fun b u e => by
    rw [upd_ne (ne_of_none e n6')]
    exact same_new nr4 _ _ (t4 _ _ e)
  have j6' : upd (upd (upd G3 l6 (.lst [.ref r1, .ref r2, .ref r3])) r4 (.lst [u3, u3', u3''])) l6 (.lst ([.ref r1, .ref r2, .ref r3] ++ [.ref r4])) l6 = some (.lst [.ref r1, .ref r2, .ref r3, .ref r4]) := upd_same
  have j4' : upd (upd (upd G3 l6 (.lst [.ref r1, .ref r2, .ref r3])) r4 (.lst [u3, u3', u3''])) l6 (.lst ([.ref r1, .ref r2, .ref r3] ++ [.ref r4])) r4 = some (.lst [u3, u3', u3'']) := by rw [upd_ne nl.symm]; exact upd_same
  generalize upd (upd (upd G3 l6 (.lst [.ref r1, .ref r2, .ref r3])) r4 (.lst [u3, u3', u3''])) l6 (.lst ([.ref r1, .ref r2, .ref r3] ++ [.ref r4])) = G4 at st5 j6' j4' ⊢
  have s4 : Same G G4 := s3.trans st5
  have R6 : RowL G4 [.ref r1, .ref r2, .ref r3, .ref r4] (rowsD d1 d2 d3) := .cons ⟨r1, _, rfl, st5 _ _ (t3 _ _ (t2 _ _ j1)), .cons (Th.on.keep m0 s4) .nil⟩ (.cons ⟨r2, _, rfl, st5 _ _ (t3 _ _ j2), .cons (Th.on.keep m1 s4) (.cons (Th.on.keep m1' s4) .nil)⟩ (.cons ⟨r3, _, rfl, st5 _ _ j3, .cons (Th.on.keep m2 s4) .nil⟩ (.cons ⟨r4, _, rfl, j4', .cons (Th.on.keep m3 s4) (.cons (Th.on.keep m3' s4) (.cons (Th.on.keep m3'' s4) .nil))⟩ .nil)))
  refine ⟨_, rfl, _, rfl, (by show 1 ≤ sizeLine; decide), fun b1 nb1 => ⟨_, rfl, _, rfl, (by show 2 ≤ sizeLine; decide), fun b2 nb2 => ⟨_, rfl, (by show 1 ≤ sizeLine; decide), fun b3 nb3 => ⟨_, rfl, _, rfl, _, rfl, (by show 3 ≤ sizeLine; decide), fun b4 nb4 => ⟨(by show 4 ≤ sizeLine; decide), fun b5 nb5 => ?_⟩⟩⟩⟩⟩
  have c1 : upd G4 b1 (.lst [w1]) b1 = some (.lst [w1]) := upd_same
  have y1 : Same G4 (upd G4 b1 (.lst [w1])) := same_new nb1
  generalize upd G4 b1 (.lst [w1]) = J1 at c1 y1 nb2 nb3 nb4 nb5 ⊢
  have c2 : upd J1 b2 (.lst [w1, w2]) b2 = some (.lst [w1, w2]) := upd_same
  have y2 : Same J1 (upd J1 b2 (.lst [w1, w2])) := same_new nb2
  generalize upd J1 b2 (.lst [w1, w2]) = J2 at c2 y2 nb3 nb4 nb5 ⊢
  have c3 : upd J2 b3 (.lst [w1]) b3 = some (.lst [w1]) := upd_same
  have y3 : Same J2 (upd J2 b3 (.lst [w1])) := same_new nb3
  generalize upd J2 b3 (.lst [w1]) = J3 at c3 y3 nb4 nb5 ⊢
  have c4 : upd J3 b4 (.lst [w1, w2, w3]) b4 = some (.lst [w1, w2, w3]) := upd_same
  have y4 : Same J3 (upd J3 b4 (.lst [w1, w2, w3])) := same_new nb4
  generalize upd J3 b4 (.lst [w1, w2, w3]) = J4 at c4 y4 nb5 ⊢
  have c5 : upd J4 b5 (.lst [.ref b1, .ref b2, .ref b3, .ref b4]) b5 = some (.lst [.ref b1, .ref b2, .ref b3, .ref b4]) := upd_same
  have y5 : Same J4 (upd J4 b5 (.lst [.ref b1, .ref b2, .ref b3, .ref b4])) := same_new nb5
  generalize upd J4 b5 (.lst [.ref b1, .ref b2, .ref b3, .ref b4]) = J5 at c5 y5 ⊢
  have yy : Same G4 J5 := y1.trans (y2.trans (y3.trans (y4.trans y5)))
  have s5 : Same G J5 := s4.trans yy
  have z1 := k1.keep s5
  have z2 := k2.keep s5
  have z3 := k3.keep s5
  have RB : RowL J5 [.ref b1, .ref b2, .ref b3, .ref b4] (rowsD d1 d2 d3) := .cons ⟨b1, _, rfl, (y2.trans (y3.trans (y4.trans y5))) _ _ c1, .cons z1 .nil⟩ (.cons ⟨b2, _, rfl, (y3.trans (y4.trans y5)) _ _ c2, .cons z1 (.cons z2 .nil)⟩ (.cons ⟨b3, _, rfl, (y4.trans y5) _ _ c3, .cons z1 .nil⟩ (.cons ⟨b4, _, rfl, y5 _ _ c4, .cons z1 (.cons z2 (.cons z3 .nil))⟩ .nil)))
  have R5 := R6.keep yy
  have l6J := yy _ _ j6'
  refine ⟨l6, b5, [.ref r1, .ref r2, .ref r3, .ref r4], [.ref b1, .ref b2, .ref b3, .ref b4], rfl, .inl ⟨SqL.of l6J, SqL.of c5, ?_⟩⟩
  refine for_zipL (xs := [.ref r1, .ref r2, .ref r3, .ref r4]) (ys := [.ref b1, .ref b2, .ref b3, .ref b4]) rfl (fun i σ H' => (∃ v7 v8 : Option V, σ = [v0, some w1, some w2, some w3, some (.ref l4), some (.ref l5), some (.ref l6), v7, v8, v9, v10, v11, none, none]) ∧ Same J5 H') ⟨⟨_, _, rfl⟩, Same.refl _⟩ (fun i σ H' h => ⟨SqL.of (h.2 _ _ l6J), SqL.of (h.2 _ _ c5)⟩) (fun i x y Tp σ H' hx hy h nT => ?_) (fun σ H' h => ?_)
  · obtain ⟨⟨v7, v8, rfl⟩, sg⟩ := h
    have sT : Same H' (upd H' Tp (.tup [x, y])) := same_new nT
    have hT : upd H' Tp (.tup [x, y]) Tp = some (.tup [x, y]) := upd_same
    generalize upd H' Tp (.tup [x, y]) = H2 at sT hT ⊢
    have sg2 := sg.trans sT
    obtain ⟨ds, hd, a, vs, rfl, ha, hp⟩ := (R5.keep sg2).at hx
    obtain ⟨ds', hd', b, us, rfl, hb, hp'⟩ := (RB.keep sg2).at hy
    obtain rfl : ds = ds' := by rw [hd] at hd'; exact Option.some.inj hd'
    have md : ds ∈ rowsD d1 d2 d3 := List.mem_of_getElem? hd
    have ok : (∀ d ∈ ds, d.fine) ∧ ds ≠ [] ∧ ds.length ≤ 10 := by
      simp only [rowsD, List.mem_cons, List.not_mem_nil, or_false] at md
      rcases md with rfl | rfl | rfl | rfl
      · exact ⟨fun d z => by obtain rfl := List.mem_singleton.mp z; exact f1, by simp, by simp⟩
      · exact ⟨fun d z => by simp only [List.mem_cons, List.not_mem_nil, or_false] at z; rcases z with rfl | rfl <;> assumption, by simp, by simp⟩
      · exact ⟨fun d z => by obtain rfl := List.mem_singleton.mp z; exact f1, by simp, by simp⟩
      · exact ⟨fun d z => by simp only [List.mem_cons, List.not_mem_nil, or_false] at z; rcases z with rfl | rfl | rfl <;> assumption, by simp, by simp⟩
    refine ⟨Tp, _, rfl, SqT.of hT, rfl, _, _, rfl, _, _, rfl, rfl, ?_⟩
    refine ⟨_, rfl, ?_⟩
    dsimp only [tNil]
    refine row_rep ha hp ok.1 ok.2.1 ok.2.2 ?_
    refine ⟨_, rfl, ?_⟩
    dsimp only [tNil]
    refine row_rep hb hp' ok.1 ok.2.1 ok.2.2 ?_
    exact ⟨rfl, _, rfl, iteNS rfl ⟨⟨_, _, rfl⟩, sg2⟩⟩
  · obtain ⟨⟨v7, v8, rfl⟩, sg⟩ := h
    have s6 := s5.trans sg
    exact qO D H' l4 l5 _ zs w1 w2 w3 d1 d2 d3 _ _ _ _ _ _ _ (s6 _ _ h4) (a4.keep s6) (s6 _ _ h5) (a5.keep s6) (k1.keep s6) (k2.keep s6) (k3.keep s6) f1.sh f2.sh f3.sh f1.w f2.w f3.w fun G' s' => fin G' (s6.trans s')
end
end Ev
namespace Ev
open PySem L2 PySem.Spec PyProof.Rows RZ
def spMr : Sp := fun vs H Q _ => ∃ (p L : Addr) (b : Int), vs = [.ref p] ∧ b ≤ 899990 ∧ Pen L H p b ∧ ∀ H', But p H H' → Pen L H' p (b + 3) → Q (.bl true) H'
section
variable {P : Program} {w : World} {K : PySem.W.Frag} {mg : Str → Option Value} {base : Heap}
theorem ok_mr {f CV : Addr} {cl : Nat → Addr} {fd : FuncData} (F : Fun K "_law_made_right" "_law_made_right" sLMadeRight f fd) (T : Blt mg) (mr : mg "repr" = none) (mz : mg "zip" = none) (AM : AnM P w K mg base cl CV) (D : Df P w K mg base 3 "_law_thing" ["_law_pen_here"] spThing) :
    FnG P w K mg base 6 f fd ["_law_pen_here"] spMr := by
  obtain ⟨f1, fd1, G1, g1, k1, b1⟩ := D.ex
  obtain ⟨fW, fdW, gW, MW, GW, bW, kW⟩ := AM.m0
  obtain ⟨fP, fdP, gP, MP, GP, bP, kP⟩ := AM.m1
  obtain ⟨fN, fdN, gN, MN, GN, bN, kN⟩ := AM.m2
  obtain ⟨fM, fdM, gM, MM, GM, bM, kM⟩ := AM.m3
  refine fng_of F scMr (fun vs H Q E h => ?_) (fun cdv A outer s H vs Q E hr gd h => ?_)
  · obtain ⟨p, L, b, rfl, _⟩ := h
    rfl
  · obtain ⟨p, L, b, rfl, hb, pn, kk⟩ := h
    have hr4 := hr.mono (show 3 ≤ 5 by decide)
    obtain ⟨tL, hL, qL⟩ := mr_kept (outer := outer) (s := s) (H := H) (E := E) (f := f) (cdv := cdv) T mr mz AM hr gd
    refine ⟨_, (pss_cons (ps_par3 (i := 1) (j := 2) (l := 3) (by rfl) scMr.nd rfl rfl rfl (by decide) (by decide) (by decide) rfl rfl rfl (pa_cons (pe_call G1 hr4 (by rfl) g1 k1 b1 .nil pass0 (pa_cons (pv 0) pa_nil)) (pa_cons (pe_call G1 hr4 (by rfl) g1 k1 b1 .nil pass0 (pa_cons (pv 0) pa_nil)) (pa_cons (pe_call G1 hr4 (by rfl) g1 k1 b1 .nil pass0 (pa_cons (pv 0) pa_nil)) pa_nil))) (by rfl))
    (pss_cons (ps_set (i := 4) scMr.nd rfl (.inr rfl) (pe_lst (pa_cons (pe_make MW GW hr (by rfl) AM.g0 bW .nil pass0 (pa_cons (pv 1) pa_nil)) (pa_cons (pe_make MP GP hr (by rfl) AM.g1 bP .nil pass0 (pa_cons (pv 1) (pa_cons (pv 2) pa_nil))) (pa_cons (pe_make MN GN hr (by rfl) AM.g2 bN .nil pass0 (pa_cons (pv 1) pa_nil)) (pa_cons (pe_make MM GM hr (by rfl) AM.g3 bM .nil pass0 (pa_cons (pv 1) (pa_cons (pv 2) (pa_cons (pv 3) pa_nil)))) pa_nil))))))
    (pss_cons (ps_set (i := 5) scMr.nd rfl (.inl rfl) (pe_lst (pa_cons (pe_makeK0 MW GW hr (by rfl) AM.g0 kW pass0 (pk_cons (pv 1) pk_nil)) (pa_cons (pe_makeK0 MP GP hr (by rfl) AM.g1 kP pass0 (pk_cons (pv 2) (pk_cons (pv 1) pk_nil))) (pa_cons (pe_makeK0 MN GN hr (by rfl) AM.g2 kN pass0 (pk_cons (pv 1) pk_nil)) (pa_cons (pe_makeK0 MM GM hr (by rfl) AM.g3 kM pass0 (pk_cons (pv 3) (pk_cons (pv 2) (pk_cons (pv 1) pk_nil)))) pa_nil))))))
    hL))), ?_⟩
    refine ⟨_, rfl, p, L, b, rfl, by omega, pn, fun v1 d1 H1 f1 o1 t1 p1 => ?_⟩
    refine ⟨_, rfl, p, L, b + 1, rfl, by omega, p1, fun v2 d2 H2 f2 o2 t2 p2 => ?_⟩
    refine ⟨_, rfl, p, L, b + 1 + 1, rfl, by omega, p2, fun v3 d3 H3 f3 o3 t3 p3 => ?_⟩
    have y1 : d1.on H3 v1 := ((o1.but t2).but t3).1
    have y2 : d2.on H3 v2 := (o2.but t3).1
    have y3 : d3.on H3 v3 := o3.1
    have bb : But p H H3 := t1.trans (t2.trans t3)
    refine ⟨_, _, _, rfl, _, rfl, fun x1 e1 na nd ne => mp_w (cl := cl) (d1 := d1) na nd ne y1 f1.sh fun G1 s1 q1 => ⟨rfl, ?_⟩⟩
    have r1 := s1
    refine ⟨_, rfl, _, rfl, fun x2 e2 na nd ne => mp_p (cl := cl) (d1 := d1) (d2 := d2) na nd ne (y1.keep r1) (y2.keep r1) f1.sh f2.sh fun G2 s2 q2 => ⟨rfl, ?_⟩⟩
    have r2 := r1.trans s2
    refine ⟨_, rfl, fun x3 e3 na nd ne => mp_n (cl := cl) (d1 := d1) na nd ne (y1.keep r2) f1.sh fun G3 s3 q3 => ⟨rfl, ?_⟩⟩
    have r3 := r2.trans s3
    refine ⟨_, rfl, _, rfl, _, rfl, fun x4 e4 na nd ne => mp_m (cl := cl) (d1 := d1) (d2 := d2) (d3 := d3) na nd ne (y1.keep r3) (y2.keep r3) (y3.keep r3) f1.sh f2.sh f3.sh fun G4 s4 q4 => ⟨rfl, ?_⟩⟩
    have r4 := r3.trans s4
    refine ⟨(by show 4 ≤ sizeLine; decide), fun l4 n4 => ?_⟩
    have h4 : upd G4 l4 (.lst [.ref x1, .ref x2, .ref x3, .ref x4]) l4 = some (.lst [.ref x1, .ref x2, .ref x3, .ref x4]) := upd_same
    have s5 : Same G4 (upd G4 l4 (.lst [.ref x1, .ref x2, .ref x3, .ref x4])) := same_new n4
    generalize upd G4 l4 (.lst [.ref x1, .ref x2, .ref x3, .ref x4]) = G5 at h4 s5 ⊢
    have r5 := r4.trans s5
    have a4 : AnsL cl G5 [.ref x1, .ref x2, .ref x3, .ref x4] (someA d1 d2 d3) := .cons ⟨x1, rfl, An.at1.keep q1 (s2.trans (s3.trans (s4.trans s5)))⟩ (.cons ⟨x2, rfl, An.at1.keep q2 (s3.trans (s4.trans s5))⟩ (.cons ⟨x3, rfl, An.at1.keep q3 (s4.trans s5)⟩ (.cons ⟨x4, rfl, An.at1.keep q4 s5⟩ .nil)))
    refine ⟨_, rfl, rfl, rfl, fun z1 e1 na nd ne => mr_w (cl := cl) (d1 := d1) na nd ne (y1.keep r5) f1.sh fun J1 u1 m1 => ⟨rfl, ?_⟩⟩
    have w1 := r5.trans u1
    refine ⟨_, rfl, _, rfl, rfl, rfl, fun z2 e2 na nd ne => mr_p (cl := cl) (d1 := d1) (d2 := d2) na nd ne (y1.keep w1) (y2.keep w1) f1.sh f2.sh fun J2 u2 m2 => ⟨rfl, ?_⟩⟩
    have w2 := w1.trans u2
    refine ⟨_, rfl, rfl, rfl, fun z3 e3 na nd ne => mr_n (cl := cl) (d1 := d1) na nd ne (y1.keep w2) f1.sh fun J3 u3 m3 => ⟨rfl, ?_⟩⟩
    have w3 := w2.trans u3
    refine ⟨_, rfl, _, rfl, _, rfl, rfl, rfl, fun z4 e4 na nd ne => mr_m (cl := cl) (d1 := d1) (d2 := d2) (d3 := d3) na nd ne (y1.keep w3) (y2.keep w3) (y3.keep w3) f1.sh f2.sh f3.sh fun J4 u4 m4 => ⟨rfl, ?_⟩⟩
    have w4 := w3.trans u4
    refine ⟨(by show 4 ≤ sizeLine; decide), fun l5 n5 => ?_⟩
    have h5 : upd J4 l5 (.lst [.ref z1, .ref z2, .ref z3, .ref z4]) l5 = some (.lst [.ref z1, .ref z2, .ref z3, .ref z4]) := upd_same
    have u5 : Same J4 (upd J4 l5 (.lst [.ref z1, .ref z2, .ref z3, .ref z4])) := same_new n5
    generalize upd J4 l5 (.lst [.ref z1, .ref z2, .ref z3, .ref z4]) = J5 at h5 u5 ⊢
    have w5 := w4.trans u5
    have up : Same G5 J5 := u1.trans (u2.trans (u3.trans (u4.trans u5)))
    have a5 : AnsL cl J5 [.ref z1, .ref z2, .ref z3, .ref z4] (someA d1 d2 d3) := .cons ⟨z1, rfl, An.at1.keep m1 (u2.trans (u3.trans (u4.trans u5)))⟩ (.cons ⟨z2, rfl, An.at1.keep m2 (u3.trans (u4.trans u5))⟩ (.cons ⟨z3, rfl, An.at1.keep m3 (u4.trans u5)⟩ (.cons ⟨z4, rfl, An.at1.keep m4 u5⟩ .nil)))
    refine qL _ J5 l4 l5 _ _ v1 v2 v3 d1 d2 d3 _ _ _ _ _ _ _ (up _ _ h4) (a4.keep up) h5 a5 (y1.keep w5) (y2.keep w5) (y3.keep w5) f1 f2 f3 fun G' sg => ?_
    have all := w5.trans sg
    refine kk G' (bb.trans (Same.but all)) ?_
    have e : b + 1 + 1 + 1 = b + 3 := by omega
    exact e ▸ p3.keep all
end
end Ev
namespace Ev
open PySem L2 PySem.Spec PyProof.Rows RZ
theorem scLaw : FnScope ["_law_script", "_law_pen_here", "_law_turn"] ["_law_script"] (defScope sLaw) := ⟨rfl, rfl, rfl, by decide +kernel, rfl, by decide +kernel, by decide +kernel⟩
section
variable {P : Program} {w : World} {K : PySem.W.Frag} {mg : Str → Option Value} {base : Heap}
theorem ok_law {f CV : Addr} {cl : Nat → Addr} {fd : FuncData} (F : Fun K "law" "law" sLaw f fd) (T : Blt mg) (AM : AnM P w K mg base cl CV)
    (D1 : Df P w K mg base 1 "_law_pen" ["_law_script"] (spPen K))
    {f6 : Addr} {fd6 : FuncData} (G6 : FnG P w K mg base 6 f6 fd6 ["_law_pen_here"] spMr) (g6 : mg "_law_made_right" = some (.ref f6)) (k6 : PySem.W.keepIn K (.ref f6) = true) (b6 : Binds K fd6 ["_law_pen_here"] []) :
    FnG P w K mg base 7 f fd ["_law_script"] (spLaw K) := by
  obtain ⟨f1, fd1, G1, g1, k1, b1⟩ := D1.ex
  obtain ⟨fW, fdW, gW, MW, GW, bW, kW⟩ := AM.m0
  obtain ⟨fP, fdP, gP, MP, GP, bP, kP⟩ := AM.m1
  obtain ⟨fN, fdN, gN, MN, GN, bN, kN⟩ := AM.m2
  obtain ⟨fe, Fe, ee, ie⟩ := AM.c.e1
  refine fng_of F scLaw (fun vs H Q E h => ?_) (fun cdv A outer s H vs Q E hr gd h => ?_)
  · obtain ⟨a, ns, rfl, _⟩ := h
    rfl
  · obtain ⟨a, ns, rfl, hS, hlen, kk⟩ := h
    have hr1 := hr.mono (show 1 ≤ 6 by decide)
    have hr2 := hr.mono (show 2 ≤ 6 by decide)
    have hr5 := hr.mono (show 5 ≤ 6 by decide)
    refine ⟨_, (pss_cons (ps_set (i := 1) scLaw.nd rfl (.inl rfl) (pe_call G1 hr1 (by rfl) g1 k1 b1 .nil pass0 (pa_cons (pv 0) pa_nil)))
      (pss_cons (ps_for PassesOwn.never rfl (pi_range1 (by rfl) T.range (pa_cons pe_int pa_nil)) (pg_name (i := 2) scLaw.nd rfl (.inl rfl))
        (pss_one (ps_if (pt_not (pt_val (pe_callG (E := E0) G6 hr gd (by rfl) g6 k6 b6 (pa_cons (pv 1) pa_nil))))
          (pss_one (ps_ret pe_bl)) pss_nil)))
      (pss_one (ps_ret (pe_and (pe_cmpR (op_neAn AM.c hr2) (pe_make MP GP hr5 (by rfl) AM.g1 bP .nil pass0 (pa_cons pe_int (pa_cons pe_int pa_nil))) (pe_make MP GP hr5 (by rfl) AM.g1 bP .nil pass0 (pa_cons pe_int (pa_cons pe_int pa_nil))) (nomark _)) (pe_and (pe_cmpR (op_neAn AM.c hr2) (pe_make MW GW hr5 (by rfl) AM.g0 bW .nil pass0 (pa_cons pe_non pa_nil)) (pe_make MN GN hr5 (by rfl) AM.g2 bN .nil pass0 (pa_cons pe_non pa_nil)) (nomark _)) (pe_one (pe_not (pe_cmpR (op_eqO ee ie Fe hr1 pass0) (pe_make MP GP hr5 (by rfl) AM.g1 bP .nil pass0 (pa_cons pe_int (pa_cons pe_int pa_nil))) (pe_tup (pa_cons pe_int (pa_cons pe_int pa_nil))) (nomark _)))))))))), ?_⟩
    refine ⟨_, rfl, a, ns, rfl, hS, hlen, fun p L H1 np s1 pn0 => ?_⟩
    refine ⟨8, rfl, by decide, by decide, for_range (n := 8) (fun i σ H2 => (∃ v2 : Option V, σ = [some (.ref a), some (.ref p), v2]) ∧ Pen L H2 p (60 * (i : Int))) ⟨⟨_, rfl⟩, pn0.mono (by decide)⟩ (fun i σ H2 hi h => ?_) (fun σ H2 h => ?_)⟩
    · obtain ⟨⟨v2, rfl⟩, pn⟩ := h
      exact ⟨_, rfl, p, L, _, rfl, by omega, pn, fun H3 bt3 pn3 => ⟨_, rfl, iteF ⟨⟨_, rfl⟩, pn3.mono (by omega)⟩⟩⟩
    · obtain ⟨⟨v2, rfl⟩, pn⟩ := h
      refine fun x1 e1 na nd ne => mp_p (cl := cl) (d1 := .int 1) (d2 := .int 3) na nd ne rfl rfl trivial trivial fun G1 s1 q1 => ⟨rfl, ?_⟩
      refine fun x2 e2 na nd ne => mp_p (cl := cl) (d1 := .int 3) (d2 := .int 1) na nd ne rfl rfl trivial trivial fun G2 s2 q2 => ⟨rfl, ?_⟩
      refine ⟨.p (.int 1) (.int 3), .p (.int 3) (.int 1), false, ⟨x1, rfl, An.at1.keep q1 s2⟩, ⟨x2, rfl, q2⟩, ⟨trivial, trivial⟩, ⟨trivial, trivial⟩, ⟨false, false, .inr (.inr ⟨1, 3, rfl, rfl, by decide, rfl⟩), .inr (.inr ⟨3, 1, rfl, rfl, by decide, rfl⟩), rfl⟩, ?_⟩
      refine ⟨_, rfl, iteT ?_⟩
      refine fun x3 e3 na nd ne => mp_w (cl := cl) (d1 := .non) na nd ne rfl trivial fun G3 s3 q3 => ⟨rfl, ?_⟩
      refine fun x4 e4 na nd ne => mp_n (cl := cl) (d1 := .non) na nd ne rfl trivial fun G4 s4 q4 => ⟨rfl, ?_⟩
      refine ⟨.w .non, .n .non, false, ⟨x3, rfl, An.at1.keep q3 s4⟩, ⟨x4, rfl, q4⟩, trivial, trivial, eqAn_ix (by decide), ?_⟩
      refine ⟨_, rfl, iteT ?_⟩
      refine fun x5 e5 na nd ne => mp_p (cl := cl) (d1 := .int 1) (d2 := .int 3) na nd ne rfl rfl trivial trivial fun G5 s5 q5 => ⟨rfl, ?_⟩
      refine ⟨(by show 2 ≤ sizeLine; decide), fun t nt => ?_⟩
      have ht : upd G5 t (.tup [.int 1, .int 3]) t = some (.tup [.int 1, .int 3]) := upd_same
      have s6 : Same G5 (upd G5 t (.tup [.int 1, .int 3])) := same_new nt
      generalize upd G5 t (.tup [.int 1, .int 3]) = G6 at ht s6 ⊢
      have q6 : PartedAt (cl 1) G6 x5 (.int 1) (.int 3) := PartedAt.keep q5 s6
      obtain ⟨TT, l, ty, fb⟩ := Th.on.ty (K := K) (H := G6) (v := .ref t) (d := .tup [1, 3]) ⟨t, rfl, ht⟩
      obtain ⟨dx, u1, u2, hx, _⟩ := id q6
      refine ⟨x5, dx, _, _, rfl, hx, ty, nf_ty fb, x5, .ref t, .int 1, .int 3, rfl, q6, trivial, trivial, .inr ⟨_, ty, kit_noB (AM.c.it 1 (by decide)) fb, ?_⟩⟩
      exact ⟨false, rfl, _, rfl, kk _⟩
end
end Ev
namespace Ev
open PySem L2 PySem.Spec PyProof.Rows
theorem kit_clsB {K : PySem.W.Frag} {t : Value} {C : Addr} {b : Bool} (h1 : PySem.W.isClsIn K C = true) (h2 : PySem.W.typeIn K (.ref C) = some (.type "type")) (h3 : PySem.W.subIn K t (.ref C) = some b) : PySem.W.kitCls K t (.ref C) = some b := by
  have h1 : (PySem.W.clsIn K C).isSome = true := h1
  unfold PySem.W.kitCls
  simp only [h1, h2, h3]
  cases b <;> decide
theorem kit_own {K : PySem.W.Frag} {t : Value} {C : Addr} (h1 : PySem.W.isClsIn K C = true) (h2 : PySem.W.typeIn K (.ref C) = some (.type "type")) (h3 : PySem.W.subIn K t (.ref C) = some true) : PySem.W.kitOne K t (.ref C) = some true := by
  unfold PySem.W.kitOne
  split
  · rfl
  · exact kit_clsB h1 h2 h3
theorem kit_not {K : PySem.W.Frag} {D C : Addr} (h1 : PySem.W.isClsIn K C = true) (h2 : PySem.W.typeIn K (.ref C) = some (.type "type")) (h3 : PySem.W.subIn K (.ref D) (.ref C) = some false) (h4 : PySem.W.subIn K (.ref C) (.ref C) = some true) : PySem.W.kitOne K (.ref D) (.ref C) = some false := by
  unfold PySem.W.kitOne
  split
  · rename_i z
    by_cases e : D = C
    · rw [e, h4] at h3
      cases h3
    · have n : ((Value.ref D) == (Value.ref C)) = false := by simp [e]
      rw [n] at z
      cases z
  · exact kit_clsB h1 h2 h3
theorem fnr_of {P : Program} {w : World} {K : PySem.W.Frag} {mg : Str → Option Value} {base : Heap} {CX : CXT} {k : Nat} {f : Addr} {fd : FuncData} {ps : List Str} {sp : Sp} (F : FnOk P w K mg base CX k f fd ps sp) (b : Binds K fd ps []) : FnR P w K mg base CX k f sp := by
  intro A above s H us vs Q E room env rv hs
  have hl : us.length = ps.length := rv.length.symm.trans (F.len _ _ _ _ hs)
  have bt := b s us (env.mod.kin.keeps fun b o e => (env.bs b o e).1) (by rw [List.append_nil]; exact hl)
  rw [List.append_nil] at bt
  exact F.run A above s H ⟨us, []⟩ us vs Q E room env bt rv hs
theorem vals_rev : ∀ {vs : List V} {us : List Value}, Vals vs us → Vals vs.reverse us.reverse
  | _, _, .nil => .nil
  | _, _, .cons a t => by
    rw [List.reverse_cons, List.reverse_cons]
    exact (vals_rev t).append (.cons a .nil)
def cl4 (a b c d : Addr) : Nat → Addr
  | 0 => a
  | 1 => b
  | 2 => c
  | _ => d
theorem kb_rev {K : PySem.W.Frag} {x qual : Str} {st : Stmt} {f : Addr} {fd : FuncData} {ps ks : List Str} (F : Fun K x qual st f fd)
    (h : ∀ (kV doc pm : Value) (an : Option Addr) (cdv ct : Value) (us ws : List Value), us.length = 1 → ws.length = ks.length → bindArgs (PySem.W.fnOf x qual (defArgs st) (defBody st) (defScope st) .none kV doc pm an cdv ct) ⟨us, ks.zip ws⟩ = pure (ps.zip (us ++ ws.reverse))) : KBn K fd ps 1 ks (fun us ws => us ++ ws.reverse) (fun us ws => us ++ ws.reverse) := by
  obtain ⟨oc, od, kV, doc, pm, an, cdv, ct, osl, rfl, lk, hcd⟩ := F.ex
  exact ⟨fun s us ws _ h1 h2 => .of_eq (h _ _ _ _ _ _ us ws h1 h2), fun r1 r2 => r1.append (vals_rev r2)⟩
theorem sqT_K {K : PySem.W.Frag} {H : Hp} {a : Addr} {od : Option Addr} {us : List Value} {n : Nat} {sl : Array (Option Value)} {xs : List V} (h : K.lookup a = some ⟨.type "tuple", od, .seq us.toArray n, sl⟩) (hl : xs.length ≤ 1000) (r : Vals xs us) : SqT K H a xs := by
  have hl2 : us.length ≤ 1000 := by rw [← r.length]; exact hl
  exact .inr ⟨_, us.toArray, n, h, rfl, rfl, by rw [List.size_toArray]; exact Nat.le_trans hl2 (by decide), by simpa using r⟩
set_option maxHeartbeats 4000000 in
theorem all_mk {l : PySem.W.OpenLaw} {w : World} {K : PySem.W.Frag} {h : Heap} {mg : Str → Option Value} {f0 f1 f2 f3 f4 f5 f6 f7 f8 f9 f10 C0 C1 C2 C3 CV f50 f51 f52 f53 f54 f55 f56 f57 f58 f59 f60 f61 fa : Addr} {od0 an0 od1 an1 od2 an2 od3 an3 od4 an4 od5 an5 od6 an6 od7 an7 od8 an8 od9 an9 od10 an10 od50 an50 od51 an51 od52 an52 od53 an53 od54 an54 od55 an55 od56 an56 od57 an57 od58 an58 od59 an59 od60 an60 od61 an61 : Option Addr} {sl0 sl1 sl2 sl3 sl4 sl5 sl6 sl7 sl8 sl9 sl10 sl50 sl51 sl52 sl53 sl54 sl55 sl56 sl57 sl58 sl59 sl60 sl61 : Array (Option Value)} {oc0 dc0 pm0 cd0 ct0 kV0 oc1 dc1 pm1 cd1 ct1 kV1 oc2 dc2 pm2 cd2 ct2 kV2 oc3 dc3 pm3 cd3 ct3 kV3 oc4 dc4 pm4 cd4 ct4 kV4 oc5 dc5 pm5 cd5 ct5 kV5 oc6 dc6 pm6 cd6 ct6 kV6 oc7 dc7 pm7 cd7 ct7 kV7 oc8 dc8 pm8 cd8 ct8 kV8 oc9 dc9 pm9 cd9 ct9 kV9 oc10 dc10 pm10 cd10 ct10 kV10 oc50 dc50 pm50 cd50 ct50 kV50 oc51 dc51 pm51 cd51 ct51 kV51 oc52 dc52 pm52 cd52 ct52 kV52 oc53 dc53 pm53 cd53 ct53 kV53 oc54 dc54 pm54 cd54 ct54 kV54 oc55 dc55 pm55 cd55 ct55 kV55 oc56 dc56 pm56 cd56 ct56 kV56 oc57 dc57 pm57 cd57 ct57 kV57 oc58 dc58 pm58 cd58 ct58 kV58 oc59 dc59 pm59 cd59 ct59 kV59 oc60 dc60 pm60 cd60 ct60 kV60 oc61 dc61 pm61 cd61 ct61 kV61 : Value} (X : K.In h) (G : h.Ns mainGlobals mg) (hfa : mg "law" = some (.ref fa))
    (a0 : PySem.W.nsIn K mainGlobals "kept" = some (some (.ref f0)))
    (l0 : K.lookup f0 = some ⟨oc0, od0, .func (PySem.W.fnOf "kept" "kept" (defArgs sKept) (defBody sKept) (defScope sKept) .none kV0 dc0 pm0 an0 cd0 ct0), sl0⟩)
    (c0 : PySem.W.codeIn K cd0 "kept" = true)
    (k0 : PySem.W.keepIn K (.ref f0) = true)
    (a1 : PySem.W.nsIn K mainGlobals "parts_of" = some (some (.ref f1)))
    (l1 : K.lookup f1 = some ⟨oc1, od1, .func (PySem.W.fnOf "parts_of" "parts_of" (defArgs sParts) (defBody sParts) (defScope sParts) .none kV1 dc1 pm1 an1 cd1 ct1), sl1⟩)
    (c1 : PySem.W.codeIn K cd1 "parts_of" = true)
    (k1 : PySem.W.keepIn K (.ref f1) = true)
    (a2 : PySem.W.nsIn K mainGlobals "is_flat" = some (some (.ref f2)))
    (l2 : K.lookup f2 = some ⟨oc2, od2, .func (PySem.W.fnOf "is_flat" "is_flat" (defArgs sFlat) (defBody sFlat) (defScope sFlat) .none kV2 dc2 pm2 an2 cd2 ct2), sl2⟩)
    (c2 : PySem.W.codeIn K cd2 "is_flat" = true)
    (k2 : PySem.W.keepIn K (.ref f2) = true)
    (a3 : PySem.W.nsIn K mainGlobals "copied_deep" = some (some (.ref f3)))
    (l3 : K.lookup f3 = some ⟨oc3, od3, .func (PySem.W.fnOf "copied_deep" "copied_deep" (defArgs sCopied) (defBody sCopied) (defScope sCopied) .none kV3 dc3 pm3 an3 cd3 ct3), sl3⟩)
    (c3 : PySem.W.codeIn K cd3 "copied_deep" = true)
    (k3 : PySem.W.keepIn K (.ref f3) = true)
    (a4 : PySem.W.nsIn K mainGlobals "rebuilt" = some (some (.ref f4)))
    (l4 : K.lookup f4 = some ⟨oc4, od4, .func (PySem.W.fnOf "rebuilt" "rebuilt" (defArgs sRebuilt) (defBody sRebuilt) (defScope sRebuilt) .none kV4 dc4 pm4 an4 cd4 ct4), sl4⟩)
    (c4 : PySem.W.codeIn K cd4 "rebuilt" = true)
    (k4 : PySem.W.keepIn K (.ref f4) = true)
    (a5 : PySem.W.nsIn K mainGlobals "_law_pen" = some (some (.ref f5)))
    (l5 : K.lookup f5 = some ⟨oc5, od5, .func (PySem.W.fnOf "_law_pen" "_law_pen" (defArgs sPen) (defBody sPen) (defScope sPen) .none kV5 dc5 pm5 an5 cd5 ct5), sl5⟩)
    (c5 : PySem.W.codeIn K cd5 "_law_pen" = true)
    (k5 : PySem.W.keepIn K (.ref f5) = true)
    (a6 : PySem.W.nsIn K mainGlobals "_law_draw" = some (some (.ref f6)))
    (l6 : K.lookup f6 = some ⟨oc6, od6, .func (PySem.W.fnOf "_law_draw" "_law_draw" (defArgs sDraw) (defBody sDraw) (defScope sDraw) .none kV6 dc6 pm6 an6 cd6 ct6), sl6⟩)
    (c6 : PySem.W.codeIn K cd6 "_law_draw" = true)
    (k6 : PySem.W.keepIn K (.ref f6) = true)
    (a7 : PySem.W.nsIn K mainGlobals "_law_pick" = some (some (.ref f7)))
    (l7 : K.lookup f7 = some ⟨oc7, od7, .func (PySem.W.fnOf "_law_pick" "_law_pick" (defArgs sPick) (defBody sPick) (defScope sPick) .none kV7 dc7 pm7 an7 cd7 ct7), sl7⟩)
    (c7 : PySem.W.codeIn K cd7 "_law_pick" = true)
    (k7 : PySem.W.keepIn K (.ref f7) = true)
    (a8 : PySem.W.nsIn K mainGlobals "_law_thing" = some (some (.ref f8)))
    (l8 : K.lookup f8 = some ⟨oc8, od8, .func (PySem.W.fnOf "_law_thing" "_law_thing" (defArgs sLThing) (defBody sLThing) (defScope sLThing) .none kV8 dc8 pm8 an8 cd8 ct8), sl8⟩)
    (c8 : PySem.W.codeIn K cd8 "_law_thing" = true)
    (k8 : PySem.W.keepIn K (.ref f8) = true)
    (a9 : PySem.W.nsIn K mainGlobals "_law_made_right" = some (some (.ref f9)))
    (l9 : K.lookup f9 = some ⟨oc9, od9, .func (PySem.W.fnOf "_law_made_right" "_law_made_right" (defArgs sLMadeRight) (defBody sLMadeRight) (defScope sLMadeRight) .none kV9 dc9 pm9 an9 cd9 ct9), sl9⟩)
    (c9 : PySem.W.codeIn K cd9 "_law_made_right" = true)
    (k9 : PySem.W.keepIn K (.ref f9) = true)
    (a10 : PySem.W.nsIn K mainGlobals "law" = some (some (.ref f10)))
    (l10 : K.lookup f10 = some ⟨oc10, od10, .func (PySem.W.fnOf "law" "law" (defArgs sLaw) (defBody sLaw) (defScope sLaw) .none kV10 dc10 pm10 an10 cd10 ct10), sl10⟩)
    (c10 : PySem.W.codeIn K cd10 "law" = true)
    (k10 : PySem.W.keepIn K (.ref f10) = true)
    (aC0 : PySem.W.nsIn K mainGlobals "Within" = some (some (.ref C0)))
    (pgC0 : PySem.W.plainGet K C0 Str.empty = true)
    (hdC0 : PySem.W.hasDictIn K C0 = true)
    (poC0 : PySem.W.plainOver K C0 = true)
    (saC0 : PySem.W.findIn K (.ref C0) "__setattr__" = some (some (.builtin "object.__setattr__")))
    (mkC0 : PySem.W.makesIn K C0 = true)
    (kcC0 : PySem.W.keepIn K (.ref C0) = true)
    (n0C0 : PySem.W.findIn K (.ref C0) "paper" = some none)
    (aC1 : PySem.W.nsIn K mainGlobals "Parted" = some (some (.ref C1)))
    (pgC1 : PySem.W.plainGet K C1 Str.empty = true)
    (hdC1 : PySem.W.hasDictIn K C1 = true)
    (poC1 : PySem.W.plainOver K C1 = true)
    (saC1 : PySem.W.findIn K (.ref C1) "__setattr__" = some (some (.builtin "object.__setattr__")))
    (mkC1 : PySem.W.makesIn K C1 = true)
    (kcC1 : PySem.W.keepIn K (.ref C1) = true)
    (n0C1 : PySem.W.findIn K (.ref C1) "light" = some none)
    (n1C1 : PySem.W.findIn K (.ref C1) "heavy" = some none)
    (aC2 : PySem.W.nsIn K mainGlobals "Never" = some (some (.ref C2)))
    (pgC2 : PySem.W.plainGet K C2 Str.empty = true)
    (hdC2 : PySem.W.hasDictIn K C2 = true)
    (poC2 : PySem.W.plainOver K C2 = true)
    (saC2 : PySem.W.findIn K (.ref C2) "__setattr__" = some (some (.builtin "object.__setattr__")))
    (mkC2 : PySem.W.makesIn K C2 = true)
    (kcC2 : PySem.W.keepIn K (.ref C2) = true)
    (n0C2 : PySem.W.findIn K (.ref C2) "paper" = some none)
    (aC3 : PySem.W.nsIn K mainGlobals "Met" = some (some (.ref C3)))
    (pgC3 : PySem.W.plainGet K C3 Str.empty = true)
    (hdC3 : PySem.W.hasDictIn K C3 = true)
    (poC3 : PySem.W.plainOver K C3 = true)
    (saC3 : PySem.W.findIn K (.ref C3) "__setattr__" = some (some (.builtin "object.__setattr__")))
    (mkC3 : PySem.W.makesIn K C3 = true)
    (kcC3 : PySem.W.keepIn K (.ref C3) = true)
    (n0C3 : PySem.W.findIn K (.ref C3) "light" = some none)
    (n1C3 : PySem.W.findIn K (.ref C3) "inner" = some none)
    (n2C3 : PySem.W.findIn K (.ref C3) "outer" = some none)
    (aCV : PySem.W.nsIn K mainGlobals "Verdict" = some (some (.ref CV)))
    (hcC0 : PySem.W.findIn K (.ref C0) "__class__" = some (some (.builtin "object.__class__")))
    (moC0 : PySem.W.mroIn K C0 (.type "object") = some true)
    (hcC1 : PySem.W.findIn K (.ref C1) "__class__" = some (some (.builtin "object.__class__")))
    (moC1 : PySem.W.mroIn K C1 (.type "object") = some true)
    (hcC2 : PySem.W.findIn K (.ref C2) "__class__" = some (some (.builtin "object.__class__")))
    (moC2 : PySem.W.mroIn K C2 (.type "object") = some true)
    (hcC3 : PySem.W.findIn K (.ref C3) "__class__" = some (some (.builtin "object.__class__")))
    (moC3 : PySem.W.mroIn K C3 (.type "object") = some true)
    (icC0 : PySem.W.isClsIn K C0 = true)
    (ttC0 : PySem.W.typeIn K (.ref C0) = some (.type "type"))
    (icC1 : PySem.W.isClsIn K C1 = true)
    (ttC1 : PySem.W.typeIn K (.ref C1) = some (.type "type"))
    (icC2 : PySem.W.isClsIn K C2 = true)
    (ttC2 : PySem.W.typeIn K (.ref C2) = some (.type "type"))
    (icC3 : PySem.W.isClsIn K C3 = true)
    (ttC3 : PySem.W.typeIn K (.ref C3) = some (.type "type"))
    (icCV : PySem.W.isClsIn K CV = true)
    (ttCV : PySem.W.typeIn K (.ref CV) = some (.type "type"))
    (neC0 : PySem.W.findIn K (.ref C0) "__ne__" = some (some (.builtin "object.__ne__")))
    (svC0 : PySem.W.subIn K (.ref C0) (.ref CV) = some true)
    (sNoneTypeC0 : PySem.W.subIn K (.ref C0) (.type "NoneType") = some false)
    (sboolC0 : PySem.W.subIn K (.ref C0) (.type "bool") = some false)
    (sintC0 : PySem.W.subIn K (.ref C0) (.type "int") = some false)
    (sstrC0 : PySem.W.subIn K (.ref C0) (.type "str") = some false)
    (stupleC0 : PySem.W.subIn K (.ref C0) (.type "tuple") = some false)
    (slistC0 : PySem.W.subIn K (.ref C0) (.type "list") = some false)
    (sdictC0 : PySem.W.subIn K (.ref C0) (.type "dict") = some false)
    (suC0C0 : PySem.W.subIn K (.ref C0) (.ref C0) = some true)
    (suC0C1 : PySem.W.subIn K (.ref C0) (.ref C1) = some false)
    (suC0C2 : PySem.W.subIn K (.ref C0) (.ref C2) = some false)
    (suC0C3 : PySem.W.subIn K (.ref C0) (.ref C3) = some false)
    (neC1 : PySem.W.findIn K (.ref C1) "__ne__" = some (some (.builtin "object.__ne__")))
    (svC1 : PySem.W.subIn K (.ref C1) (.ref CV) = some true)
    (sNoneTypeC1 : PySem.W.subIn K (.ref C1) (.type "NoneType") = some false)
    (sboolC1 : PySem.W.subIn K (.ref C1) (.type "bool") = some false)
    (sintC1 : PySem.W.subIn K (.ref C1) (.type "int") = some false)
    (sstrC1 : PySem.W.subIn K (.ref C1) (.type "str") = some false)
    (stupleC1 : PySem.W.subIn K (.ref C1) (.type "tuple") = some false)
    (slistC1 : PySem.W.subIn K (.ref C1) (.type "list") = some false)
    (sdictC1 : PySem.W.subIn K (.ref C1) (.type "dict") = some false)
    (suC1C0 : PySem.W.subIn K (.ref C1) (.ref C0) = some false)
    (suC1C1 : PySem.W.subIn K (.ref C1) (.ref C1) = some true)
    (suC1C2 : PySem.W.subIn K (.ref C1) (.ref C2) = some false)
    (suC1C3 : PySem.W.subIn K (.ref C1) (.ref C3) = some false)
    (neC2 : PySem.W.findIn K (.ref C2) "__ne__" = some (some (.builtin "object.__ne__")))
    (svC2 : PySem.W.subIn K (.ref C2) (.ref CV) = some true)
    (sNoneTypeC2 : PySem.W.subIn K (.ref C2) (.type "NoneType") = some false)
    (sboolC2 : PySem.W.subIn K (.ref C2) (.type "bool") = some false)
    (sintC2 : PySem.W.subIn K (.ref C2) (.type "int") = some false)
    (sstrC2 : PySem.W.subIn K (.ref C2) (.type "str") = some false)
    (stupleC2 : PySem.W.subIn K (.ref C2) (.type "tuple") = some false)
    (slistC2 : PySem.W.subIn K (.ref C2) (.type "list") = some false)
    (sdictC2 : PySem.W.subIn K (.ref C2) (.type "dict") = some false)
    (suC2C0 : PySem.W.subIn K (.ref C2) (.ref C0) = some false)
    (suC2C1 : PySem.W.subIn K (.ref C2) (.ref C1) = some false)
    (suC2C2 : PySem.W.subIn K (.ref C2) (.ref C2) = some true)
    (suC2C3 : PySem.W.subIn K (.ref C2) (.ref C3) = some false)
    (neC3 : PySem.W.findIn K (.ref C3) "__ne__" = some (some (.builtin "object.__ne__")))
    (svC3 : PySem.W.subIn K (.ref C3) (.ref CV) = some true)
    (sNoneTypeC3 : PySem.W.subIn K (.ref C3) (.type "NoneType") = some false)
    (sboolC3 : PySem.W.subIn K (.ref C3) (.type "bool") = some false)
    (sintC3 : PySem.W.subIn K (.ref C3) (.type "int") = some false)
    (sstrC3 : PySem.W.subIn K (.ref C3) (.type "str") = some false)
    (stupleC3 : PySem.W.subIn K (.ref C3) (.type "tuple") = some false)
    (slistC3 : PySem.W.subIn K (.ref C3) (.type "list") = some false)
    (sdictC3 : PySem.W.subIn K (.ref C3) (.type "dict") = some false)
    (suC3C0 : PySem.W.subIn K (.ref C3) (.ref C0) = some false)
    (suC3C1 : PySem.W.subIn K (.ref C3) (.ref C1) = some false)
    (suC3C2 : PySem.W.subIn K (.ref C3) (.ref C2) = some false)
    (suC3C3 : PySem.W.subIn K (.ref C3) (.ref C3) = some true)
    (ikn : PySem.W.specialIn K (.builtin "object.__class__") "__get__" = some (some (.builtin "getset_descriptor.__get__")))
    (ikt : PySem.W.takesIn K (.builtin "object.__class__") = some true)
    (m50 : PySem.W.findIn K (.ref C0) "__init__" = some (some (.ref f50)))
    (i50 : PySem.W.isFn K (.ref f50) = true)
    (l50 : K.lookup f50 = some ⟨oc50, od50, .func (PySem.W.fnOf "__init__" "Within.__init__" (defArgs sWithin_init) (defBody sWithin_init) (defScope sWithin_init) .none kV50 dc50 pm50 an50 cd50 ct50), sl50⟩)
    (c50 : PySem.W.codeIn K cd50 "Within.__init__" = true)
    (k50 : PySem.W.keepIn K (.ref f50) = true)
    (m51 : PySem.W.findIn K (.ref C0) "__eq__" = some (some (.ref f51)))
    (i51 : PySem.W.isFn K (.ref f51) = true)
    (l51 : K.lookup f51 = some ⟨oc51, od51, .func (PySem.W.fnOf "__eq__" "Within.__eq__" (defArgs sWithin_eq) (defBody sWithin_eq) (defScope sWithin_eq) .none kV51 dc51 pm51 an51 cd51 ct51), sl51⟩)
    (c51 : PySem.W.codeIn K cd51 "Within.__eq__" = true)
    (k51 : PySem.W.keepIn K (.ref f51) = true)
    (m52 : PySem.W.findIn K (.ref C0) "__bool__" = some (some (.ref f52)))
    (i52 : PySem.W.isFn K (.ref f52) = true)
    (l52 : K.lookup f52 = some ⟨oc52, od52, .func (PySem.W.fnOf "__bool__" "Within.__bool__" (defArgs sWithin_bool) (defBody sWithin_bool) (defScope sWithin_bool) .none kV52 dc52 pm52 an52 cd52 ct52), sl52⟩)
    (c52 : PySem.W.codeIn K cd52 "Within.__bool__" = true)
    (k52 : PySem.W.keepIn K (.ref f52) = true)
    (m53 : PySem.W.findIn K (.ref C1) "__init__" = some (some (.ref f53)))
    (i53 : PySem.W.isFn K (.ref f53) = true)
    (l53 : K.lookup f53 = some ⟨oc53, od53, .func (PySem.W.fnOf "__init__" "Parted.__init__" (defArgs sParted_init) (defBody sParted_init) (defScope sParted_init) .none kV53 dc53 pm53 an53 cd53 ct53), sl53⟩)
    (c53 : PySem.W.codeIn K cd53 "Parted.__init__" = true)
    (k53 : PySem.W.keepIn K (.ref f53) = true)
    (m54 : PySem.W.findIn K (.ref C1) "__eq__" = some (some (.ref f54)))
    (i54 : PySem.W.isFn K (.ref f54) = true)
    (l54 : K.lookup f54 = some ⟨oc54, od54, .func (PySem.W.fnOf "__eq__" "Parted.__eq__" (defArgs sParted_eq) (defBody sParted_eq) (defScope sParted_eq) .none kV54 dc54 pm54 an54 cd54 ct54), sl54⟩)
    (c54 : PySem.W.codeIn K cd54 "Parted.__eq__" = true)
    (k54 : PySem.W.keepIn K (.ref f54) = true)
    (m55 : PySem.W.findIn K (.ref C1) "__bool__" = some (some (.ref f55)))
    (i55 : PySem.W.isFn K (.ref f55) = true)
    (l55 : K.lookup f55 = some ⟨oc55, od55, .func (PySem.W.fnOf "__bool__" "Parted.__bool__" (defArgs sParted_bool) (defBody sParted_bool) (defScope sParted_bool) .none kV55 dc55 pm55 an55 cd55 ct55), sl55⟩)
    (c55 : PySem.W.codeIn K cd55 "Parted.__bool__" = true)
    (k55 : PySem.W.keepIn K (.ref f55) = true)
    (m56 : PySem.W.findIn K (.ref C2) "__init__" = some (some (.ref f56)))
    (i56 : PySem.W.isFn K (.ref f56) = true)
    (l56 : K.lookup f56 = some ⟨oc56, od56, .func (PySem.W.fnOf "__init__" "Never.__init__" (defArgs sNever_init) (defBody sNever_init) (defScope sNever_init) .none kV56 dc56 pm56 an56 cd56 ct56), sl56⟩)
    (c56 : PySem.W.codeIn K cd56 "Never.__init__" = true)
    (k56 : PySem.W.keepIn K (.ref f56) = true)
    (m57 : PySem.W.findIn K (.ref C2) "__eq__" = some (some (.ref f57)))
    (i57 : PySem.W.isFn K (.ref f57) = true)
    (l57 : K.lookup f57 = some ⟨oc57, od57, .func (PySem.W.fnOf "__eq__" "Never.__eq__" (defArgs sNever_eq) (defBody sNever_eq) (defScope sNever_eq) .none kV57 dc57 pm57 an57 cd57 ct57), sl57⟩)
    (c57 : PySem.W.codeIn K cd57 "Never.__eq__" = true)
    (k57 : PySem.W.keepIn K (.ref f57) = true)
    (m58 : PySem.W.findIn K (.ref C2) "__bool__" = some (some (.ref f58)))
    (i58 : PySem.W.isFn K (.ref f58) = true)
    (l58 : K.lookup f58 = some ⟨oc58, od58, .func (PySem.W.fnOf "__bool__" "Never.__bool__" (defArgs sNever_bool) (defBody sNever_bool) (defScope sNever_bool) .none kV58 dc58 pm58 an58 cd58 ct58), sl58⟩)
    (c58 : PySem.W.codeIn K cd58 "Never.__bool__" = true)
    (k58 : PySem.W.keepIn K (.ref f58) = true)
    (m59 : PySem.W.findIn K (.ref C3) "__init__" = some (some (.ref f59)))
    (i59 : PySem.W.isFn K (.ref f59) = true)
    (l59 : K.lookup f59 = some ⟨oc59, od59, .func (PySem.W.fnOf "__init__" "Met.__init__" (defArgs sMet_init) (defBody sMet_init) (defScope sMet_init) .none kV59 dc59 pm59 an59 cd59 ct59), sl59⟩)
    (c59 : PySem.W.codeIn K cd59 "Met.__init__" = true)
    (k59 : PySem.W.keepIn K (.ref f59) = true)
    (m60 : PySem.W.findIn K (.ref C3) "__eq__" = some (some (.ref f60)))
    (i60 : PySem.W.isFn K (.ref f60) = true)
    (l60 : K.lookup f60 = some ⟨oc60, od60, .func (PySem.W.fnOf "__eq__" "Met.__eq__" (defArgs sMet_eq) (defBody sMet_eq) (defScope sMet_eq) .none kV60 dc60 pm60 an60 cd60 ct60), sl60⟩)
    (c60 : PySem.W.codeIn K cd60 "Met.__eq__" = true)
    (k60 : PySem.W.keepIn K (.ref f60) = true)
    (m61 : PySem.W.findIn K (.ref C3) "__bool__" = some (some (.ref f61)))
    (i61 : PySem.W.isFn K (.ref f61) = true)
    (l61 : K.lookup f61 = some ⟨oc61, od61, .func (PySem.W.fnOf "__bool__" "Met.__bool__" (defArgs sMet_bool) (defBody sMet_bool) (defScope sMet_bool) .none kV61 dc61 pm61 an61 cd61 ct61), sl61⟩)
    (c61 : PySem.W.codeIn K cd61 "Met.__bool__" = true)
    (k61 : PySem.W.keepIn K (.ref f61) = true)
    (zint : PySem.W.nsIn K mainGlobals "int" = some none)
    (zlen : PySem.W.nsIn K mainGlobals "len" = some none)
    (zabs : PySem.W.nsIn K mainGlobals "abs" = some none)
    (zlist : PySem.W.nsIn K mainGlobals "list" = some none)
    (zmin : PySem.W.nsIn K mainGlobals "min" = some none)
    (zmax : PySem.W.nsIn K mainGlobals "max" = some none)
    (zisinstance : PySem.W.nsIn K mainGlobals "isinstance" = some none)
    (zbool : PySem.W.nsIn K mainGlobals "bool" = some none)
    (ztuple : PySem.W.nsIn K mainGlobals "tuple" = some none)
    (zall : PySem.W.nsIn K mainGlobals "all" = some none)
    (zrange : PySem.W.nsIn K mainGlobals "range" = some none)
    (zrepr : PySem.W.nsIn K mainGlobals "repr" = some none)
    (zany : PySem.W.nsIn K mainGlobals "any" = some none)
    (zdict : PySem.W.nsIn K mainGlobals "dict" = some none)
    (zzip : PySem.W.nsIn K mainGlobals "zip" = some none) :
    ∃ fd : FuncData, (∀ (s : Shared) (v : Value), BindsTo s fd ⟨[v], []⟩ [("_law_script", v)]) ∧ ∀ base : Heap, K.In base → base.Ns mainGlobals mg → FnG l.prog w K mg base 7 fa fd ["_law_script"] (spLaw K) := by
  have e := hfa.symm.trans (PySem.W.mg_of X G a10)
  cases e
  have F0 := fun_mk (st := sKept) l0 c0 k0
  have b0 := F0.binds (ps := ["value"]) fun _ _ _ _ _ _ us hl => match us, hl with | [_], _ => rfl
  have F1 := fun_mk (st := sParts) l1 c1 k1
  have b1 := F1.binds (ps := ["value"]) fun _ _ _ _ _ _ us hl => match us, hl with | [_], _ => rfl
  have F2 := fun_mk (st := sFlat) l2 c2 k2
  have b2 := F2.binds (ps := ["value"]) fun _ _ _ _ _ _ us hl => match us, hl with | [_], _ => rfl
  have F3 := fun_mk (st := sCopied) l3 c3 k3
  have b3 := F3.binds (ps := ["value"]) fun _ _ _ _ _ _ us hl => match us, hl with | [_], _ => rfl
  have F4 := fun_mk (st := sRebuilt) l4 c4 k4
  have b4 := F4.binds (ps := ["value", "parts"]) fun _ _ _ _ _ _ us hl => match us, hl with | [_, _], _ => rfl
  have F5 := fun_mk (st := sPen) l5 c5 k5
  have b5 := F5.binds (ps := ["_law_script"]) fun _ _ _ _ _ _ us hl => match us, hl with | [_], _ => rfl
  have F6 := fun_mk (st := sDraw) l6 c6 k6
  have b6 := F6.binds (ps := ["_law_pen_here", "_law_many"]) fun _ _ _ _ _ _ us hl => match us, hl with | [_, _], _ => rfl
  have F7 := fun_mk (st := sPick) l7 c7 k7
  have b7 := F7.binds (ps := ["_law_pen_here", "_law_some"]) fun _ _ _ _ _ _ us hl => match us, hl with | [_, _], _ => rfl
  have F8 := fun_mk (st := sLThing) l8 c8 k8
  have b8 := F8.binds (ps := ["_law_pen_here"]) fun _ _ _ _ _ _ us hl => match us, hl with | [_], _ => rfl
  have F9 := fun_mk (st := sLMadeRight) l9 c9 k9
  have b9 := F9.binds (ps := ["_law_pen_here"]) fun _ _ _ _ _ _ us hl => match us, hl with | [_], _ => rfl
  have F10 := fun_mk (st := sLaw) l10 c10 k10
  have b10 := F10.binds (ps := ["_law_script"]) fun _ _ _ _ _ _ us hl => match us, hl with | [_], _ => rfl
  have F50 := fun_mk (st := sWithin_init) l50 c50 k50
  have b50 := F50.binds (ps := ["self", "paper"]) fun _ _ _ _ _ _ us hl => match us, hl with | [_, _], _ => rfl
  have F51 := fun_mk (st := sWithin_eq) l51 c51 k51
  have b51 := F51.binds (ps := ["self", "other"]) fun _ _ _ _ _ _ us hl => match us, hl with | [_, _], _ => rfl
  have F52 := fun_mk (st := sWithin_bool) l52 c52 k52
  have b52 := F52.binds (ps := ["self"]) fun _ _ _ _ _ _ us hl => match us, hl with | [_], _ => rfl
  have F53 := fun_mk (st := sParted_init) l53 c53 k53
  have b53 := F53.binds (ps := ["self", "light", "heavy"]) fun _ _ _ _ _ _ us hl => match us, hl with | [_, _, _], _ => rfl
  have F54 := fun_mk (st := sParted_eq) l54 c54 k54
  have b54 := F54.binds (ps := ["self", "other"]) fun _ _ _ _ _ _ us hl => match us, hl with | [_, _], _ => rfl
  have F55 := fun_mk (st := sParted_bool) l55 c55 k55
  have b55 := F55.binds (ps := ["self"]) fun _ _ _ _ _ _ us hl => match us, hl with | [_], _ => rfl
  have F56 := fun_mk (st := sNever_init) l56 c56 k56
  have b56 := F56.binds (ps := ["self", "paper"]) fun _ _ _ _ _ _ us hl => match us, hl with | [_, _], _ => rfl
  have F57 := fun_mk (st := sNever_eq) l57 c57 k57
  have b57 := F57.binds (ps := ["self", "other"]) fun _ _ _ _ _ _ us hl => match us, hl with | [_, _], _ => rfl
  have F58 := fun_mk (st := sNever_bool) l58 c58 k58
  have b58 := F58.binds (ps := ["self"]) fun _ _ _ _ _ _ us hl => match us, hl with | [_], _ => rfl
  have F59 := fun_mk (st := sMet_init) l59 c59 k59
  have b59 := F59.binds (ps := ["self", "light", "inner", "outer"]) fun _ _ _ _ _ _ us hl => match us, hl with | [_, _, _, _], _ => rfl
  have F60 := fun_mk (st := sMet_eq) l60 c60 k60
  have b60 := F60.binds (ps := ["self", "other"]) fun _ _ _ _ _ _ us hl => match us, hl with | [_, _], _ => rfl
  have F61 := fun_mk (st := sMet_bool) l61 c61 k61
  have b61 := F61.binds (ps := ["self"]) fun _ _ _ _ _ _ us hl => match us, hl with | [_], _ => rfl
  refine ⟨PySem.W.fnOf "law" "law" (defArgs sLaw) (defBody sLaw) (defScope sLaw) .none kV10 dc10 pm10 an10 cd10 ct10, fun s v => .of_eq rfl, fun base _ _ => ?_⟩
  have T : Blt mg := ⟨PySem.W.mg_none_of X G zint, PySem.W.mg_none_of X G zlen, PySem.W.mg_none_of X G zabs, PySem.W.mg_none_of X G zlist, PySem.W.mg_none_of X G zmin, PySem.W.mg_none_of X G zmax, PySem.W.mg_none_of X G zisinstance, PySem.W.mg_none_of X G zbool, PySem.W.mg_none_of X G ztuple, PySem.W.mg_none_of X G zall, PySem.W.mg_none_of X G zrange, PySem.W.mg_none_of X G zrepr⟩
  have dPV : Df l.prog w K mg base 1 "parts_of" ["value"] _ := ⟨f1, _, ok_partsV F1 T (PySem.W.mg_none_of X G zdict), PySem.W.mg_of X G a1, F1.kp, b1⟩
  have d4 : Df l.prog w K mg base 1 "rebuilt" ["value", "parts"] _ := ⟨f4, _, ok_rebuilt F4 T (PySem.W.mg_none_of X G zdict) (PySem.W.mg_none_of X G zzip), PySem.W.mg_of X G a4, F4.kp, b4⟩
  have d2 : Df l.prog w K mg base 2 "is_flat" ["value"] _ := ⟨f2, _, ok_flat F2 T (PySem.W.mg_none_of X G zdict), PySem.W.mg_of X G a2, F2.kp, b2⟩
  have d3 : Df l.prog w K mg base 2 "copied_deep" ["value"] _ := ⟨f3, _, ok_copied F3 T (PySem.W.mg_none_of X G zdict) (PySem.W.mg_none_of X G zany) dPV d4, PySem.W.mg_of X G a3, F3.kp, b3⟩
  have dKV : Df l.prog w K mg base 3 "kept" ["value"] _ := ⟨f0, _, ok_keptV F0 T (PySem.W.mg_none_of X G zdict) d2 d3, PySem.W.mg_of X G a0, F0.kp, b0⟩
  have TC0 : CWithin K C0 := ⟨⟨pgC0, hdC0, poC0, saC0⟩, n0C0⟩
  have IC0 : InsT K C0 := ⟨hcC0, ikn, ikt, moC0, icC0, ttC0⟩
  have NC0 : NoSub K C0 := ⟨sNoneTypeC0, sboolC0, sintC0, sstrC0, stupleC0, slistC0, sdictC0⟩
  have GIC0 := ok_WithinI (P := l.prog) (w := w) (mg := mg) (base := base) F50 TC0 dKV
  have GEC0 := ok_WithinE (P := l.prog) (w := w) (mg := mg) (base := base) F51 T TC0 IC0 (PySem.W.mg_of X G aC0)
  have GBC0 := ok_WithinB (P := l.prog) (w := w) (K := K) (mg := mg) (base := base) F52
  have MC0 : Mk K C0 f50 := ⟨mkC0, m50, i50, kcC0⟩
  have TC1 : CParted K C1 := ⟨⟨pgC1, hdC1, poC1, saC1⟩, n0C1, n1C1⟩
  have IC1 : InsT K C1 := ⟨hcC1, ikn, ikt, moC1, icC1, ttC1⟩
  have NC1 : NoSub K C1 := ⟨sNoneTypeC1, sboolC1, sintC1, sstrC1, stupleC1, slistC1, sdictC1⟩
  have GIC1 := ok_PartedI (P := l.prog) (w := w) (mg := mg) (base := base) F53 TC1 dKV
  have GEC1 := ok_PartedE (P := l.prog) (w := w) (mg := mg) (base := base) F54 T TC1 IC1 (PySem.W.mg_of X G aC1)
  have GBC1 := ok_PartedB (P := l.prog) (w := w) (K := K) (mg := mg) (base := base) F55
  have MC1 : Mk K C1 f53 := ⟨mkC1, m53, i53, kcC1⟩
  have TC2 : CNever K C2 := ⟨⟨pgC2, hdC2, poC2, saC2⟩, n0C2⟩
  have IC2 : InsT K C2 := ⟨hcC2, ikn, ikt, moC2, icC2, ttC2⟩
  have NC2 : NoSub K C2 := ⟨sNoneTypeC2, sboolC2, sintC2, sstrC2, stupleC2, slistC2, sdictC2⟩
  have GIC2 := ok_NeverI (P := l.prog) (w := w) (mg := mg) (base := base) F56 TC2 dKV
  have GEC2 := ok_NeverE (P := l.prog) (w := w) (mg := mg) (base := base) F57 T TC2 IC2 (PySem.W.mg_of X G aC2)
  have GBC2 := ok_NeverB (P := l.prog) (w := w) (K := K) (mg := mg) (base := base) F58
  have MC2 : Mk K C2 f56 := ⟨mkC2, m56, i56, kcC2⟩
  have TC3 : CMet K C3 := ⟨⟨pgC3, hdC3, poC3, saC3⟩, n0C3, n1C3, n2C3⟩
  have IC3 : InsT K C3 := ⟨hcC3, ikn, ikt, moC3, icC3, ttC3⟩
  have NC3 : NoSub K C3 := ⟨sNoneTypeC3, sboolC3, sintC3, sstrC3, stupleC3, slistC3, sdictC3⟩
  have GIC3 := ok_MetI (P := l.prog) (w := w) (mg := mg) (base := base) F59 TC3 dKV
  have GEC3 := ok_MetE (P := l.prog) (w := w) (mg := mg) (base := base) F60 T TC3 IC3 (PySem.W.mg_of X G aC3)
  have GBC3 := ok_MetB (P := l.prog) (w := w) (K := K) (mg := mg) (base := base) F61
  have MC3 : Mk K C3 f59 := ⟨mkC3, m59, i59, kcC3⟩
  have kt : ∀ i j, i < 4 → j < 4 → i ≠ j → PySem.W.kitOne K (.ref (cl4 C0 C1 C2 C3 i)) (.ref (cl4 C0 C1 C2 C3 j)) = some false := by
    intro i j hi hj ne
    match i, hi with
    | 0, _ =>
      match j, hj with
      | 0, _ => exact absurd rfl ne
      | 1, _ => exact kit_not icC1 ttC1 suC0C1 suC1C1
      | 2, _ => exact kit_not icC2 ttC2 suC0C2 suC2C2
      | 3, _ => exact kit_not icC3 ttC3 suC0C3 suC3C3
      | n + 4, h => exact absurd h (by omega)
    | 1, _ =>
      match j, hj with
      | 0, _ => exact kit_not icC0 ttC0 suC1C0 suC0C0
      | 1, _ => exact absurd rfl ne
      | 2, _ => exact kit_not icC2 ttC2 suC1C2 suC2C2
      | 3, _ => exact kit_not icC3 ttC3 suC1C3 suC3C3
      | n + 4, h => exact absurd h (by omega)
    | 2, _ =>
      match j, hj with
      | 0, _ => exact kit_not icC0 ttC0 suC2C0 suC0C0
      | 1, _ => exact kit_not icC1 ttC1 suC2C1 suC1C1
      | 2, _ => exact absurd rfl ne
      | 3, _ => exact kit_not icC3 ttC3 suC2C3 suC3C3
      | n + 4, h => exact absurd h (by omega)
    | 3, _ =>
      match j, hj with
      | 0, _ => exact kit_not icC0 ttC0 suC3C0 suC0C0
      | 1, _ => exact kit_not icC1 ttC1 suC3C1 suC1C1
      | 2, _ => exact kit_not icC2 ttC2 suC3C2 suC2C2
      | 3, _ => exact absurd rfl ne
      | n + 4, h => exact absurd h (by omega)
    | n + 4, h => exact absurd h (by omega)
  have su : ∀ i j, i < 4 → j < 4 → i ≠ j → PySem.W.subIn K (.ref (cl4 C0 C1 C2 C3 i)) (.ref (cl4 C0 C1 C2 C3 j)) = some false := by
    intro i j hi hj ne
    match i, hi with
    | 0, _ =>
      match j, hj with
      | 0, _ => exact absurd rfl ne
      | 1, _ => exact suC0C1
      | 2, _ => exact suC0C2
      | 3, _ => exact suC0C3
      | n + 4, h => exact absurd h (by omega)
    | 1, _ =>
      match j, hj with
      | 0, _ => exact suC1C0
      | 1, _ => exact absurd rfl ne
      | 2, _ => exact suC1C2
      | 3, _ => exact suC1C3
      | n + 4, h => exact absurd h (by omega)
    | 2, _ =>
      match j, hj with
      | 0, _ => exact suC2C0
      | 1, _ => exact suC2C1
      | 2, _ => exact absurd rfl ne
      | 3, _ => exact suC2C3
      | n + 4, h => exact absurd h (by omega)
    | 3, _ =>
      match j, hj with
      | 0, _ => exact suC3C0
      | 1, _ => exact suC3C1
      | 2, _ => exact suC3C2
      | 3, _ => exact absurd rfl ne
      | n + 4, h => exact absurd h (by omega)
    | n + 4, h => exact absurd h (by omega)
  have hit : ∀ i, i < 4 → InsT K (cl4 C0 C1 C2 C3 i) := fun i hi => match i, hi with | 0, _ => IC0 | 1, _ => IC1 | 2, _ => IC2 | 3, _ => IC3 | n + 4, h => absurd h (by omega)
  have hns : ∀ i, i < 4 → NoSub K (cl4 C0 C1 C2 C3 i) := fun i hi => match i, hi with | 0, _ => NC0 | 1, _ => NC1 | 2, _ => NC2 | 3, _ => NC3 | n + 4, h => absurd h (by omega)
  have hcc : ∀ i, i < 4 → Cls K (cl4 C0 C1 C2 C3 i) := fun i hi => match i, hi with | 0, _ => TC0.cl | 1, _ => TC1.cl | 2, _ => TC2.cl | 3, _ => TC3.cl | n + 4, h => absurd h (by omega)
  have hne : ∀ i, i < 4 → PySem.W.findIn K (.ref (cl4 C0 C1 C2 C3 i)) "__ne__" = some (some (.builtin "object.__ne__")) := fun i hi => match i, hi with | 0, _ => neC0 | 1, _ => neC1 | 2, _ => neC2 | 3, _ => neC3 | n + 4, h => absurd h (by omega)
  have hiv : ∀ i, i < 4 → PySem.W.kitOne K (.ref (cl4 C0 C1 C2 C3 i)) (.ref CV) = some true := fun i hi => match i, hi with | 0, _ => kit_own icCV ttCV svC0 | 1, _ => kit_own icCV ttCV svC1 | 2, _ => kit_own icCV ttCV svC2 | 3, _ => kit_own icCV ttCV svC3 | n + 4, h => absurd h (by omega)
  have AC : AnC l.prog w K mg base (cl4 C0 C1 C2 C3) := ⟨hit, hns, hcc, hne, kt, su, ⟨_, fnr_of GEC0 b51, m51, i51⟩, ⟨_, fnr_of GEC1 b54, m54, i54⟩, ⟨_, fnr_of GEC2 b57, m57, i57⟩, ⟨_, fnr_of GEC3 b60, m60, i60⟩⟩
  have AM : AnM l.prog w K mg base (cl4 C0 C1 C2 C3) CV := ⟨AC, (PySem.W.mg_of X G aCV), hiv, TC0, (PySem.W.mg_of X G aC0), ⟨f50, _, _, MC0, GIC0, b50, kb_rev F50 (fun _ _ _ _ _ _ us ws h1 h2 => match us, ws, h1, h2 with | [_], [_], _, _ => rfl)⟩, ⟨_, fnr_of GBC0 b52, m52, i52⟩, TC1, (PySem.W.mg_of X G aC1), ⟨f53, _, _, MC1, GIC1, b53, kb_rev F53 (fun _ _ _ _ _ _ us ws h1 h2 => match us, ws, h1, h2 with | [_], [_, _], _, _ => rfl)⟩, ⟨_, fnr_of GBC1 b55, m55, i55⟩, TC2, (PySem.W.mg_of X G aC2), ⟨f56, _, _, MC2, GIC2, b56, kb_rev F56 (fun _ _ _ _ _ _ us ws h1 h2 => match us, ws, h1, h2 with | [_], [_], _, _ => rfl)⟩, ⟨_, fnr_of GBC2 b58, m58, i58⟩, TC3, (PySem.W.mg_of X G aC3), ⟨f59, _, _, MC3, GIC3, b59, kb_rev F59 (fun _ _ _ _ _ _ us ws h1 h2 => match us, ws, h1, h2 with | [_], [_, _, _], _, _ => rfl)⟩, ⟨_, fnr_of GBC3 b61, m61, i61⟩⟩
  have d5 : Df l.prog w K mg base 1 "_law_pen" ["_law_script"] _ := ⟨f5, _, ok_pen F5 T, PySem.W.mg_of X G a5, F5.kp, b5⟩
  have d6 : Df l.prog w K mg base 1 "_law_draw" ["_law_pen_here", "_law_many"] _ := ⟨f6, _, ok_draw F6 T, PySem.W.mg_of X G a6, F6.kp, b6⟩
  have d7 : Df l.prog w K mg base 2 "_law_pick" ["_law_pen_here", "_law_some"] _ := ⟨f7, _, ok_pick F7 T d6, PySem.W.mg_of X G a7, F7.kp, b7⟩
  have d8 : Df l.prog w K mg base 3 "_law_thing" ["_law_pen_here"] _ := ⟨f8, _, ok_thing F8 d7, PySem.W.mg_of X G a8, F8.kp, b8⟩
  have GR := ok_mr (P := l.prog) (w := w) (base := base) F9 T (PySem.W.mg_none_of X G zrepr) (PySem.W.mg_none_of X G zzip) AM d8
  exact ok_law F10 T AM d5 GR (PySem.W.mg_of X G a9) F9.kp b9
end Ev
open PySem PySem.W PyProof.Rows
set_option maxRecDepth 100000 in
set_option maxHeartbeats 0 in
theorem PySem.Challenge.cw_evenrules_k26_answers_on_two_rules_made_holds : PySem.Challenge.rw_evenrules_k26_answers_on_two_rules_made.Holds := by
  exact hd (by
    k_fill
    refine Ev.walk_ofG (l := PySem.Challenge.rw_evenrules_k26_answers_on_two_rules_made) (n := 63) (k := 7) (x := "_law_script") (sp := fun w => Ev.spLaw _) rfl (by decide) rfl ⟨rfl, by decide, by decide⟩ (fun w h Y => PySem.W.kIn_of Y) ?F (fun _ _ a ns hl hS => ⟨a, ns, rfl, hS, hl, fun _ => rfl⟩)
    case F =>
      intro w mg fa h KX G hmg
      refine' Ev.all_mk KX G hmg ?a0 ?l0 ?c0 ?k0 ?a1 ?l1 ?c1 ?k1 ?a2 ?l2 ?c2 ?k2 ?a3 ?l3 ?c3 ?k3 ?a4 ?l4 ?c4 ?k4 ?a5 ?l5 ?c5 ?k5 ?a6 ?l6 ?c6 ?k6 ?a7 ?l7 ?c7 ?k7 ?a8 ?l8 ?c8 ?k8 ?a9 ?l9 ?c9 ?k9 ?a10 ?l10 ?c10 ?k10 ?aC0 ?pgC0 ?hdC0 ?poC0 ?saC0 ?mkC0 ?kcC0 ?n0C0 ?aC1 ?pgC1 ?hdC1 ?poC1 ?saC1 ?mkC1 ?kcC1 ?n0C1 ?n1C1 ?aC2 ?pgC2 ?hdC2 ?poC2 ?saC2 ?mkC2 ?kcC2 ?n0C2 ?aC3 ?pgC3 ?hdC3 ?poC3 ?saC3 ?mkC3 ?kcC3 ?n0C3 ?n1C3 ?n2C3 ?aCV ?hcC0 ?moC0 ?hcC1 ?moC1 ?hcC2 ?moC2 ?hcC3 ?moC3 ?icC0 ?ttC0 ?icC1 ?ttC1 ?icC2 ?ttC2 ?icC3 ?ttC3 ?icCV ?ttCV ?neC0 ?svC0 ?sNoneTypeC0 ?sboolC0 ?sintC0 ?sstrC0 ?stupleC0 ?slistC0 ?sdictC0 ?suC0C0 ?suC0C1 ?suC0C2 ?suC0C3 ?neC1 ?svC1 ?sNoneTypeC1 ?sboolC1 ?sintC1 ?sstrC1 ?stupleC1 ?slistC1 ?sdictC1 ?suC1C0 ?suC1C1 ?suC1C2 ?suC1C3 ?neC2 ?svC2 ?sNoneTypeC2 ?sboolC2 ?sintC2 ?sstrC2 ?stupleC2 ?slistC2 ?sdictC2 ?suC2C0 ?suC2C1 ?suC2C2 ?suC2C3 ?neC3 ?svC3 ?sNoneTypeC3 ?sboolC3 ?sintC3 ?sstrC3 ?stupleC3 ?slistC3 ?sdictC3 ?suC3C0 ?suC3C1 ?suC3C2 ?suC3C3 ?ikn ?ikt ?m50 ?i50 ?l50 ?c50 ?k50 ?m51 ?i51 ?l51 ?c51 ?k51 ?m52 ?i52 ?l52 ?c52 ?k52 ?m53 ?i53 ?l53 ?c53 ?k53 ?m54 ?i54 ?l54 ?c54 ?k54 ?m55 ?i55 ?l55 ?c55 ?k55 ?m56 ?i56 ?l56 ?c56 ?k56 ?m57 ?i57 ?l57 ?c57 ?k57 ?m58 ?i58 ?l58 ?c58 ?k58 ?m59 ?i59 ?l59 ?c59 ?k59 ?m60 ?i60 ?l60 ?c60 ?k60 ?m61 ?i61 ?l61 ?c61 ?k61 ?zint ?zlen ?zabs ?zlist ?zmin ?zmax ?zisinstance ?zbool ?ztuple ?zall ?zrange ?zrepr ?zany ?zdict ?zzip
      (case a0 => k_is)
      (case l0 => k_is)
      (case c0 => k_is)
      (case k0 => k_is)
      (case a1 => k_is)
      (case l1 => k_is)
      (case c1 => k_is)
      (case k1 => k_is)
      (case a2 => k_is)
      (case l2 => k_is)
      (case c2 => k_is)
      (case k2 => k_is)
      (case a3 => k_is)
      (case l3 => k_is)
      (case c3 => k_is)
      (case k3 => k_is)
      (case a4 => k_is)
      (case l4 => k_is)
      (case c4 => k_is)
      (case k4 => k_is)
      (case a5 => k_is)
      (case l5 => k_is)
      (case c5 => k_is)
      (case k5 => k_is)
      (case a6 => k_is)
      (case l6 => k_is)
      (case c6 => k_is)
      (case k6 => k_is)
      (case a7 => k_is)
      (case l7 => k_is)
      (case c7 => k_is)
      (case k7 => k_is)
      (case a8 => k_is)
      (case l8 => k_is)
      (case c8 => k_is)
      (case k8 => k_is)
      (case a9 => k_is)
      (case l9 => k_is)
      (case c9 => k_is)
      (case k9 => k_is)
      (case a10 => k_is)
      (case l10 => k_is)
      (case c10 => k_is)
      (case k10 => k_is)
      (case aC0 => k_is)
      (case pgC0 => k_is)
      (case hdC0 => k_is)
      (case poC0 => k_is)
      (case saC0 => k_is)
      (case mkC0 => k_is)
      (case kcC0 => k_is)
      (case n0C0 => k_is)
      (case aC1 => k_is)
      (case pgC1 => k_is)
      (case hdC1 => k_is)
      (case poC1 => k_is)
      (case saC1 => k_is)
      (case mkC1 => k_is)
      (case kcC1 => k_is)
      (case n0C1 => k_is)
      (case n1C1 => k_is)
      (case aC2 => k_is)
      (case pgC2 => k_is)
      (case hdC2 => k_is)
      (case poC2 => k_is)
      (case saC2 => k_is)
      (case mkC2 => k_is)
      (case kcC2 => k_is)
      (case n0C2 => k_is)
      (case aC3 => k_is)
      (case pgC3 => k_is)
      (case hdC3 => k_is)
      (case poC3 => k_is)
      (case saC3 => k_is)
      (case mkC3 => k_is)
      (case kcC3 => k_is)
      (case n0C3 => k_is)
      (case n1C3 => k_is)
      (case n2C3 => k_is)
      (case aCV => k_is)
      (case hcC0 => k_is)
      (case moC0 => k_is)
      (case hcC1 => k_is)
      (case moC1 => k_is)
      (case hcC2 => k_is)
      (case moC2 => k_is)
      (case hcC3 => k_is)
      (case moC3 => k_is)
      (case icC0 => k_is)
      (case ttC0 => k_is)
      (case icC1 => k_is)
      (case ttC1 => k_is)
      (case icC2 => k_is)
      (case ttC2 => k_is)
      (case icC3 => k_is)
      (case ttC3 => k_is)
      (case icCV => k_is)
      (case ttCV => k_is)
      (case neC0 => k_is)
      (case svC0 => k_is)
      (case sNoneTypeC0 => k_is)
      (case sboolC0 => k_is)
      (case sintC0 => k_is)
      (case sstrC0 => k_is)
      (case stupleC0 => k_is)
      (case slistC0 => k_is)
      (case sdictC0 => k_is)
      (case suC0C0 => k_is)
      (case suC0C1 => k_is)
      (case suC0C2 => k_is)
      (case suC0C3 => k_is)
      (case neC1 => k_is)
      (case svC1 => k_is)
      (case sNoneTypeC1 => k_is)
      (case sboolC1 => k_is)
      (case sintC1 => k_is)
      (case sstrC1 => k_is)
      (case stupleC1 => k_is)
      (case slistC1 => k_is)
      (case sdictC1 => k_is)
      (case suC1C0 => k_is)
      (case suC1C1 => k_is)
      (case suC1C2 => k_is)
      (case suC1C3 => k_is)
      (case neC2 => k_is)
      (case svC2 => k_is)
      (case sNoneTypeC2 => k_is)
      (case sboolC2 => k_is)
      (case sintC2 => k_is)
      (case sstrC2 => k_is)
      (case stupleC2 => k_is)
      (case slistC2 => k_is)
      (case sdictC2 => k_is)
      (case suC2C0 => k_is)
      (case suC2C1 => k_is)
      (case suC2C2 => k_is)
      (case suC2C3 => k_is)
      (case neC3 => k_is)
      (case svC3 => k_is)
      (case sNoneTypeC3 => k_is)
      (case sboolC3 => k_is)
      (case sintC3 => k_is)
      (case sstrC3 => k_is)
      (case stupleC3 => k_is)
      (case slistC3 => k_is)
      (case sdictC3 => k_is)
      (case suC3C0 => k_is)
      (case suC3C1 => k_is)
      (case suC3C2 => k_is)
      (case suC3C3 => k_is)
      (case ikn => k_is)
      (case ikt => k_is)
      (case m50 => k_is)
      (case i50 => k_is)
      (case l50 => k_is)
      (case c50 => k_is)
      (case k50 => k_is)
      (case m51 => k_is)
      (case i51 => k_is)
      (case l51 => k_is)
      (case c51 => k_is)
      (case k51 => k_is)
      (case m52 => k_is)
      (case i52 => k_is)
      (case l52 => k_is)
      (case c52 => k_is)
      (case k52 => k_is)
      (case m53 => k_is)
      (case i53 => k_is)
      (case l53 => k_is)
      (case c53 => k_is)
      (case k53 => k_is)
      (case m54 => k_is)
      (case i54 => k_is)
      (case l54 => k_is)
      (case c54 => k_is)
      (case k54 => k_is)
      (case m55 => k_is)
      (case i55 => k_is)
      (case l55 => k_is)
      (case c55 => k_is)
      (case k55 => k_is)
      (case m56 => k_is)
      (case i56 => k_is)
      (case l56 => k_is)
      (case c56 => k_is)
      (case k56 => k_is)
      (case m57 => k_is)
      (case i57 => k_is)
      (case l57 => k_is)
      (case c57 => k_is)
      (case k57 => k_is)
      (case m58 => k_is)
      (case i58 => k_is)
      (case l58 => k_is)
      (case c58 => k_is)
      (case k58 => k_is)
      (case m59 => k_is)
      (case i59 => k_is)
      (case l59 => k_is)
      (case c59 => k_is)
      (case k59 => k_is)
      (case m60 => k_is)
      (case i60 => k_is)
      (case l60 => k_is)
      (case c60 => k_is)
      (case k60 => k_is)
      (case m61 => k_is)
      (case i61 => k_is)
      (case l61 => k_is)
      (case c61 => k_is)
      (case k61 => k_is)
      (case zint => k_is)
      (case zlen => k_is)
      (case zabs => k_is)
      (case zlist => k_is)
      (case zmin => k_is)
      (case zmax => k_is)
      (case zisinstance => k_is)
      (case zbool => k_is)
      (case ztuple => k_is)
      (case zall => k_is)
      (case zrange => k_is)
      (case zrepr => k_is)
      (case zany => k_is)
      (case zdict => k_is)
      (case zzip => k_is))
