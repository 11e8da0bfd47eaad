import PyProof.Rows.All
import Wide.All
import OpenK.AllK
import Wide.FinOn
import HandS.ForMost
import HandS.Codes
import HandS.IsInst
import HandS.Defaults
import HandS.MakeKw
import HandS.MakeKwOnly
import HandS.ClsMeth
import HandS.TupAny
import HandS.Style
import HandS.Conv
import HandS.Walk
import HandS.Lambda
import HandS.Iter
import HandS.ExcInit
import HandS.ForExc
import KE.KExcIs
import HandS.EndTab
import HandS.More
import HandS.SlotsOwn
import PyProof.InstNe
import KE.DataEq
import HandS.Text
import HandS.StrMore
import PyProof.Rows.StrAscii
import KE.KCallOwn
import HandS.FStr
import KE.GoesEnum
import KE.GoesEnumKw
import KE.GoesMore
import PyProof.Rows.CallKw2
import HandS.DeepEq
import HandS.RaiseMore
import HandS.Dict
import PySem.Challenge.RW_evenrules_k17_rules_written_and_read
open PySem PySem.W PyProof.Rows
set_option Elab.async false
set_option linter.all false
set_option maxRecDepth 100000 in
set_option maxHeartbeats 0 in
open_top hd for PySem.Challenge.rw_evenrules_k17_rules_written_and_read
set_option maxRecDepth 100000
set_option maxHeartbeats 4000000
namespace Ev
open PySem L2
def top (i : Nat) : Stmt := PySem.Challenge.pw_evenrules_k17_rules_written_and_read.main.body.getD i (.Pass ⟨0, 0, 0, 0⟩)
abbrev sDraw : Stmt := top 47
/-- all that was tracked is as it was, but at p -/
def But (p : Addr) (H H' : Hp) : Prop := ∀ b o, b ≠ p → H b = some o → H' b = some o
theorem But.refl (p : Addr) (H : Hp) : But p H H := fun _ _ _ e => e
theorem But.trans {p : Addr} {H H1 H2 : Hp} (a : But p H H1) (b : But p H1 H2) : But p H H2 := fun c o n e => b c o n (a c o n e)
theorem Same.but {p : Addr} {H H' : Hp} (a : Same H H') : But p H H' := fun c o _ e => a c o e
theorem But.upd_new {p q : Addr} {H : Hp} {o : HO} (h : H q = none) : But p H (upd H q o) := fun b u _ e => by
  rw [upd_ne (ne_of_none e h)]; exact e
theorem But.upd_at {p : Addr} {H : Hp} {o : HO} : But p H (upd H p o) := fun b u n e => by
  rw [upd_ne n]; exact e
/-- the pen: a list of a list of ints, how often it was asked, and a rest -/
def Pen (L : Addr) (H : Hp) (p : Addr) (B : Int) : Prop := ∃ (ns : List Int) (turn carry : Int),
  H p = some (.lst [.ref L, .int turn, .int carry]) ∧ H L = some (.lst (ns.map V.int)) ∧ L ≠ p ∧ ns.length ≤ 63 ∧ 0 ≤ turn ∧ turn ≤ B ∧ 0 ≤ carry
theorem Pen.keep {L : Addr} {H H' : Hp} {p : Addr} {B : Int} (h : Pen L H p B) (k : Same H H') : Pen L H' p B := by
  obtain ⟨ns, t, c, h1, h2, h3, h4, h5, h6, h7⟩ := h
  exact ⟨ns, t, c, k _ _ h1, k _ _ h2, h3, h4, h5, h6, h7⟩
theorem Pen.mono {L : Addr} {H : Hp} {p : Addr} {B B' : Int} (h : Pen L H p B) (k : B ≤ B') : Pen L H p B' := by
  obtain ⟨ns, t, c, h1, h2, h3, h4, h5, h6, h7⟩ := h
  exact ⟨ns, t, c, h1, h2, h3, h4, h5, by omega, h7⟩
def spDraw : Sp := fun vs H Q _ => ∃ (p L : Addr) (m B : Int), vs = [.ref p, .int m] ∧ 1 ≤ m ∧ m < 1073741824 ∧ B ≤ 1000000 ∧ Pen L H p B ∧
  ∀ (d : Int) (H' : Hp), But p H H' → Pen L H' p (B + 1) → 0 ≤ d → d < m → Q (.int d) H'
theorem dpInts {K : PySem.W.Frag} {H : Hp} : ∀ ns : List Int, DpAll K H (ns.map V.int) (ns.map PyData.int)
  | [] => .nil
  | n :: r => .cons (.int n) (dpInts r)
theorem sh_ints (ns : List Int) : SeqAt.shaped (.list (ns.map PyData.int)) = true := by
  have h1 : ∀ ns : List Int, PyData.canLayAll0 (ns.map PyData.int) = true := by
    intro ns
    induction ns with
    | nil => rfl
    | cons n r ih => simp [PyData.canLayAll0, PyData.canLay0, ih]
  have h2 : ∀ ns : List Int, PyData.depthAll (ns.map PyData.int) ≤ 1 := by
    intro ns
    induction ns with
    | nil => simp [PyData.depthAll]
    | cons n r ih => simp [PyData.depthAll, PyData.depth]; omega
  unfold SeqAt.shaped
  rw [Bool.and_eq_true]
  refine ⟨by simp [PyData.canLay0, h1], decide_eq_true ?_⟩
  have := h2 ns
  simp [PyData.depth]; omega
theorem eqv_nil (ns : List Int) : PyData.eqv (.list (ns.map PyData.int)) (.list []) = ns.isEmpty := by
  cases ns <;> simp [PyData.eqv, PyData.eqvAll]
section
variable {P : Program} {w : World} {K : PySem.W.Frag} {mg : Str → Option Value} {base : Heap}
/-- built-ins that the program does not cover -/
structure Blt (mg : Str → Option Value) : Prop where
  int : mg "int" = none
  len : mg "len" = none
  abs : mg "abs" = none
  list : mg "list" = none
  min : mg "min" = none
  max : mg "max" = none
  isi : mg "isinstance" = none
  bool : mg "bool" = none
  tuple : mg "tuple" = none
  all : mg "all" = none
  range : mg "range" = none
  repr : mg "repr" = none
theorem scD : FnScope ["_law_pen_here", "_law_many", "_law_digit", "_law_at", "_law_cell", "_law_great", "_law_mixed"] ["_law_pen_here", "_law_many"] (defScope sDraw) := ⟨rfl, rfl, rfl, by decide +kernel, rfl, by decide +kernel, by decide +kernel⟩
theorem fmod_lo (a : Int) {m : Int} (h : 1 ≤ m) : 0 ≤ a.fmod m := by rw [Int.fmod_eq_emod_of_nonneg a (by omega)]; exact Int.emod_nonneg a (by omega)
theorem fmod_hi (a : Int) {m : Int} (h : 1 ≤ m) : a.fmod m < m := by rw [Int.fmod_eq_emod_of_nonneg a (by omega)]; exact Int.emod_lt_of_pos a (by omega)
theorem fdiv_lo {a m : Int} (h : 1 ≤ m) (h0 : 0 ≤ a) : 0 ≤ a.fdiv m := by rw [Int.fdiv_eq_ediv_of_nonneg a (by omega)]; exact Int.ediv_nonneg h0 (by omega)
theorem cell_at {ns : List Int} (h : ns ≠ []) (t : Int) : ∃ c : Int, atI (ns.map V.int) (t.fmod (((ns.map V.int).length : Nat) : Int)) = some (V.int c) := by
  rw [List.length_map]
  have l : 0 < ns.length := List.length_pos_iff.mpr h
  have h1 : 0 ≤ t.fmod (ns.length : Int) := fmod_lo t (by omega)
  have h2 : t.fmod (ns.length : Int) < ns.length := fmod_hi t (by omega)
  generalize t.fmod (ns.length : Int) = i at h1 h2
  obtain ⟨j, rfl⟩ := Int.eq_ofNat_of_zero_le h1
  have hj : j < ns.length := by omega
  exact ⟨ns[j], atI_nat (by rw [List.getElem?_map, List.getElem?_eq_getElem hj]; rfl)⟩
theorem mul_le_of {a b A B : Int} (a0 : 0 ≤ a) (b0 : 0 ≤ b) (ha : a ≤ A) (hb : b ≤ B) : 0 ≤ a * b ∧ a * b ≤ A * B :=
  ⟨Int.mul_nonneg a0 b0, Int.mul_le_mul ha hb b0 (by omega)⟩
theorem bound1 (c : Int) {M C D t : Int} (hM : 1 ≤ M) (hM2 : M ≤ 4294967296) (hC : 0 ≤ C ∧ C ≤ 1000000) (hD : 0 ≤ D ∧ D ≤ 1000000) (h0 : 0 ≤ t) (h1 : t ≤ 1000000) : (c.fmod M + C * t + D).natAbs < 2 ^ 64 := by
  have a1 := fmod_lo c hM
  have a2 := fmod_hi c hM
  have ⟨a3, a4⟩ := mul_le_of hC.1 h0 hC.2 h1
  omega
theorem bound2 {x C5 C6 C7 t : Int} (hx : 0 ≤ x ∧ x < 4294967296) (h5 : 0 ≤ C5 ∧ C5 ≤ 1000000) (h6 : 0 ≤ C6 ∧ C6 ≤ 1000000) (h7 : 0 ≤ C7 ∧ C7 ≤ 1000000) (h0 : 0 ≤ t) (h1 : t ≤ 1000000) :
    (x * (2 * t + C5) + C6 * t * t + C7).natAbs < 2 ^ 64 := by
  have ⟨a1, a2⟩ := mul_le_of (b := 2 * t + C5) (A := 4294967296) (B := 3000000) hx.1 (by omega) (by omega) (by omega)
  have ⟨a3, a4⟩ := mul_le_of h6.1 h0 h6.2 h1
  have ⟨a5, a6⟩ := mul_le_of a3 h0 a4 h1
  omega
theorem great_nn {c e : Int} (h : e ≤ (if c < 0 then -c else c)) (b : Bool) : 0 ≤ 2 * ((if c < 0 then -c else c) - e) + (if b = true then 1 else 0) := by
  cases b
  · rw [if_neg Bool.false_ne_true]; omega
  · rw [if_pos rfl]; omega
theorem lt64 {x : Int} (h : 0 ≤ x ∧ x < 4294967296) : -(2 ^ 64) < x ∧ x < 2 ^ 64 := ⟨by omega, by omega⟩
theorem nz {M : Int} (h : 0 < M) : M ≠ 0 := by omega
theorem ok_draw {f : Addr} {fd : FuncData} (F : Fun K "_law_draw" "_law_draw" sDraw f fd) (T : Blt mg) : FnOk P w K mg base CX0 1 f fd ["_law_pen_here", "_law_many"] spDraw := by
  refine F.ok scD (fun vs H Q E h => ?_) (fun cdv A outer s H vs Q E hr h => ?_)
  · obtain ⟨p, L, m, B, rfl, _⟩ := h
    rfl
  · obtain ⟨p, L, m, B, rfl, hm, hm2, hB, ⟨ns, tn, ca, hp, hL, Lp, hlen, t0, tB, c0⟩, k⟩ := h
    have hu := hu_of hr
    refine ⟨_, pss_cons (ps_if (pt_cmpR op_gt (pe_ix ix_list (pv 0) pe_int (fun _ _ => rfl)) pe_int (nomark _))
        (pss_cons (ps_set (i := 2) scD.nd rfl (.inl rfl) (pe_op op_modN (pe_callTy call_int1 (by rfl) T.int (by decide +kernel) (pa_cons (pe_ix ix_list (pv 0) pe_int (fun _ _ => rfl)) pa_nil)) (pv 1)))
        (pss_cons (ps_asg (pe_op op_fdivN (pe_callTy call_int1 (by rfl) T.int (by decide +kernel) (pa_cons (pe_ix ix_list (pv 0) pe_int (fun _ _ => rfl)) pa_nil)) (pv 1)) (pg_sub (pv 0) pe_int set_list))
        (pss_one (ps_ret (pv 2))))) pss_nil)
      (pss_cons (ps_set (i := 3) scD.nd rfl (.inl rfl) (pe_ix ix_list (pv 0) pe_int (fun _ _ => rfl)))
      (pss_cons (ps_asg (pe_op op_add (pv 3) pe_int) (pg_sub (pv 0) pe_int set_list))
      (pss_cons (ps_set (i := 4) scD.nd rfl (.inl rfl) (pe_op op_add (pe_op op_mul pe_int (pv 3)) pe_int))
      (pss_cons (ps_if (pt_cmpR (op_neD hr.units) (pe_ix ix_list (pv 0) pe_int (fun _ _ => rfl)) (pe_lst pa_nil) (nomark _))
        (pss_one (ps_set (i := 4) scD.nd rfl (.inl rfl) (pe_ix ix_list (pe_ix ix_list (pv 0) pe_int (fun _ _ => rfl))
          (pe_op op_modN (pe_callTy call_int1 (by rfl) T.int (by decide +kernel) (pa_cons (pv 3) pa_nil)) (pe_callB call_len_seq (by rfl) T.len PySem.boot_len (pa_cons (pe_ix ix_list (pv 0) pe_int (fun _ _ => rfl)) pa_nil))) (fun _ _ => rfl)))) pss_nil)
      (pss_cons (ps_if (PW.pt (pw_and (pt_cmpR op_lt (pv 3) (pe_callB call_len_seq (by rfl) T.len PySem.boot_len (pa_cons (pe_ix ix_list (pv 0) pe_int (fun _ _ => rfl)) pa_nil)) (nomark _))
          (pw_and1 (pt_cmpR op_ge (pe_callB call_abs (by rfl) T.abs (by decide +kernel) (pa_cons (pv 4) pa_nil)) (pe_op op_pow pe_int pe_int) (nomark _)))))
        (pss_cons (ps_set (i := 5) scD.nd rfl (.inl rfl) (pe_op op_add (pe_op op_mul pe_int (pe_op op_sub (pe_callB call_abs (by rfl) T.abs (by decide +kernel) (pa_cons (pv 4) pa_nil)) (pe_op op_pow pe_int pe_int)))
            (pe_callTy call_int1 (by rfl) T.int (by decide +kernel) (pa_cons (pe_cmpR op_lt (pv 4) pe_int (nomark _)) pa_nil))))
        (pss_cons (ps_asg (pe_op op_fdivN (pe_callTy call_int1 (by rfl) T.int (by decide +kernel) (pa_cons (pv 5) pa_nil)) (pv 1)) (pg_sub (pv 0) pe_int set_list))
        (pss_one (ps_ret (pe_op op_modN (pe_callTy call_int1 (by rfl) T.int (by decide +kernel) (pa_cons (pv 5) pa_nil)) (pv 1)))))) pss_nil)
      (pss_cons (ps_set (i := 6) scD.nd rfl (.inl rfl) (pe_op op_modN (pe_callTy call_int1 (by rfl) T.int (by decide +kernel) (pa_cons (pe_op op_pow (pe_op op_add (pe_op op_add
          (pe_op op_modN (pe_callTy call_int1 (by rfl) T.int (by decide +kernel) (pa_cons (pv 4) pa_nil)) pe_int) (pe_op op_mul pe_int (pv 3))) pe_int) pe_int) pa_nil)) pe_int))
      (pss_cons (ps_set (i := 6) scD.nd rfl (.inl rfl) (pe_op op_modN (pe_callTy call_int1 (by rfl) T.int (by decide +kernel) (pa_cons (pe_op op_pow (pe_op op_add (pe_op op_add
          (pe_op op_mul (pv 6) (pe_op op_add (pe_op op_mul pe_int (pv 3)) pe_int)) (pe_op op_mul (pe_op op_mul pe_int (pv 3)) (pv 3))) pe_int) pe_int) pa_nil)) pe_int))
      (pss_one (ps_ret (pe_op op_modN (pe_callTy call_int1 (by rfl) T.int (by decide +kernel) (pa_cons (pe_op op_fdivN (pv 6) pe_int) pa_nil)) (pv 1))))))))))), ?_⟩
    have i2 : ∀ {a b c : V}, atI [a, b, c] 2 = some c := fun {a b c} => atI_nat (j := 2) rfl
    have i1 : ∀ {a b c : V}, atI [a, b, c] 1 = some b := fun {a b c} => atI_nat (j := 1) rfl
    have i0 : ∀ {a b c : V}, atI [a, b, c] 0 = some a := fun {a b c} => atI_nat (j := 0) rfl
    -- if pen[2] > 0
    refine ⟨_, rfl, p, _, 2, _, rfl, rfl, SqL.of hp, i2, _, _, rfl, rfl, _, rfl, ite2 (fun e => ?_) (fun e => ?_)⟩
    · -- digit
      refine ⟨_, rfl, p, _, 2, _, rfl, rfl, SqL.of hp, i2, .inl ⟨_, rfl, _, rfl, _, _, rfl, rfl, (by omega), ?_⟩⟩
      refine ⟨_, rfl, p, _, 2, _, rfl, rfl, SqL.of hp, i2, .inl ⟨_, rfl, _, rfl, _, _, rfl, rfl, ⟨by omega, by omega⟩, _, rfl, p, _, _, 2, rfl, rfl, hp, rfl, ?_⟩⟩
      refine ⟨_, rfl, ?_⟩
      exact k _ _ But.upd_at ⟨ns, tn, _, upd_same, by rw [upd_ne Lp]; exact hL, Lp, hlen, t0, by omega, fdiv_lo hm c0⟩ (fmod_lo _ hm) (fmod_hi _ hm)
    · -- turn
      refine ⟨_, rfl, p, _, 1, _, rfl, rfl, SqL.of hp, i1, ?_⟩
      refine ⟨_, rfl, _, _, rfl, rfl, _, rfl, p, _, _, 1, rfl, rfl, hp, rfl, ?_⟩
      have hp1 : upd H p (.lst ([V.ref L, V.int tn, V.int ca].set 1 (V.int (tn + 1)))) p = some (.lst [.ref L, .int (tn + 1), .int ca]) := upd_same
      have hL1 : upd H p (.lst ([V.ref L, V.int tn, V.int ca].set 1 (V.int (tn + 1)))) L = some (.lst (ns.map V.int)) := by rw [upd_ne Lp]; exact hL
      have b1 : But p H (upd H p (.lst ([V.ref L, V.int tn, V.int ca].set 1 (V.int (tn + 1))))) := But.upd_at
      generalize upd H p (.lst ([V.ref L, V.int tn, V.int ca].set 1 (V.int (tn + 1)))) = H1 at hp1 hL1 b1 ⊢
      -- cell = c * turn + c'
      refine ⟨_, rfl, _, _, rfl, rfl, .inl ⟨by decide, by decide⟩, _, _, rfl, rfl, ?_⟩
      -- if pen[0] != []
      refine ⟨_, rfl, p, _, 0, _, rfl, rfl, SqL.of hp1, i0, by decide, fun l hl => ?_⟩
      have n1 : p ≠ l := ne_of_none hp1 hl
      have n2 : L ≠ l := ne_of_none hL1 hl
      have hp2 : upd H1 l (.lst []) p = some (.lst [.ref L, .int (tn + 1), .int ca]) := by rw [upd_ne n1]; exact hp1
      have hL2 : upd H1 l (.lst []) L = some (.lst (ns.map V.int)) := by rw [upd_ne n2]; exact hL1
      have hl2 : upd H1 l (.lst []) l = some (.lst []) := upd_same
      have b2 : But p H (upd H1 l (.lst [])) := b1.trans (But.upd_new hl)
      clear b1 hp1 hL1
      generalize upd H1 l (.lst []) = H2 at hp2 hL2 hl2 b2
      refine ⟨_, _, .lst (SqL.of hL2) (dpInts ns), .lst (SqL.of hl2) .nil, sh_ints ns, sh_ints [], _, rfl, ?_⟩
      rw [eqv_nil]
      -- the rest, for any cell
      have hcell : ∀ c : Int, ∃ j : Int, (if c < 0 then -c else c) = j ∧ 0 ≤ j := fun c => by
        by_cases z : c < 0
        · exact ⟨_, rfl, by rw [if_pos z]; omega⟩
        · exact ⟨_, rfl, by rw [if_neg z]; omega⟩
      have fin : ∀ H' : Hp, H' p = some (.lst [.ref L, .int (tn + 1), .int ca]) → H' L = some (.lst (ns.map V.int)) → But p H H' → Pen L H' p (B + 1) := fun H' e1 e2 _ =>
        ⟨ns, tn + 1, ca, e1, e2, Lp, hlen, by omega, by omega, c0⟩
      have ht : tn ≤ 1000000 := by omega
      have hm6 : 0 ≤ 71315 * tn ∧ 71315 * tn ≤ 71315 * 1000000 := mul_le_of (by decide) t0 (Int.le_refl _) ht
      have hq : ∀ {x m : Int}, 1 ≤ m → m ≤ 4294967296 → 0 ≤ x.fmod m ∧ x.fmod m < 4294967296 := fun {x m} h1 h2 => ⟨fmod_lo x h1, by have := fmod_hi x h1; omega⟩
      cases hn : ns with
      | nil =>
        refine iteF ?_
        refine ⟨_, rfl, _, rfl, p, _, 0, _, rfl, rfl, SqL.of hp2, i0, L, _, rfl, .inl (SqL.of hL2), _, _, rfl, rfl, _, rfl, ite2 (fun e1 => ?_) (fun e1 => ?_)⟩
        · refine ⟨_, rfl, _, rfl, _, _, rfl, rfl, ⟨by decide, by decide, by decide⟩, _, _, rfl, rfl, _, rfl, ite2 (fun e2 => ?_) (fun e2 => ?_)⟩
          · refine ⟨_, rfl, _, rfl, _, _, rfl, rfl, ⟨by decide, by decide, by decide⟩, _, _, rfl, rfl, _, _, rfl, rfl, .inl ⟨by decide, by decide⟩, _, rfl, _, _, rfl, rfl, .inr ⟨_, rfl, _, _, rfl, rfl, ?_⟩⟩
            refine ⟨_, rfl, .inl ⟨_, rfl, _, rfl, _, _, rfl, rfl, ⟨by omega, by omega⟩, _, rfl, p, _, _, 2, rfl, rfl, hp2, rfl, ?_⟩⟩
            refine ⟨_, rfl, .inl ⟨_, rfl, _, rfl, _, _, rfl, rfl, (by omega), ?_⟩⟩
            refine k _ _ (b2.trans But.upd_at) ⟨_, tn + 1, _, upd_same, by rw [upd_ne Lp]; exact hL2, Lp, hlen, by omega, by omega, fdiv_lo hm ?_⟩ (fmod_lo _ hm) (fmod_hi _ hm)
            have e3 := of_decide_eq_true e2
            exact great_nn e3 _
          · skip
            refine ⟨_, rfl, .inl ⟨_, rfl, _, _, rfl, rfl, nz (by decide), _, rfl, _, _, rfl, rfl, .inl ⟨by decide, by decide⟩, _, _, rfl, rfl, _, _, rfl, rfl, _, _, rfl, rfl, ⟨by decide, by decide, bound1 _ (by decide) (by decide) (by decide) (by decide) t0 ht⟩, .inl ⟨_, rfl, _, _, rfl, rfl, nz (by decide), ?_⟩⟩⟩
            refine ⟨_, rfl, _, rfl, _, _, rfl, rfl, .inl ⟨by decide, by decide⟩, _, _, rfl, rfl, _, _, rfl, rfl, .inl ?_, _, rfl, _, _, rfl, rfl, .inl ⟨by decide, by decide⟩, _, rfl, _, _, rfl, rfl, .inl ?_, _, _, rfl, rfl, _, _, rfl, rfl, _, _, rfl, rfl, ⟨by decide, by decide, ?_⟩, .inl ⟨_, rfl, _, _, rfl, rfl, nz (by decide), ?_⟩⟩
            · exact lt64 (hq (by decide) (by decide))
            · exact ⟨by omega, by omega⟩
            · exact bound2 (hq (by decide) (by decide)) (by decide) (by decide) (by decide) t0 ht
            · refine ⟨_, rfl, _, _, rfl, rfl, ⟨by decide, by decide⟩, .inl ⟨_, rfl, _, rfl, _, _, rfl, rfl, (by omega), ?_⟩⟩
              exact k _ _ b2 (fin _ hp2 hL2 b2) (fmod_lo _ hm) (fmod_hi _ hm)
        · skip
          refine ⟨_, rfl, .inl ⟨_, rfl, _, _, rfl, rfl, nz (by decide), _, rfl, _, _, rfl, rfl, .inl ⟨by decide, by decide⟩, _, _, rfl, rfl, _, _, rfl, rfl, _, _, rfl, rfl, ⟨by decide, by decide, bound1 _ (by decide) (by decide) (by decide) (by decide) t0 ht⟩, .inl ⟨_, rfl, _, _, rfl, rfl, nz (by decide), ?_⟩⟩⟩
          refine ⟨_, rfl, _, rfl, _, _, rfl, rfl, .inl ⟨by decide, by decide⟩, _, _, rfl, rfl, _, _, rfl, rfl, .inl ?_, _, rfl, _, _, rfl, rfl, .inl ⟨by decide, by decide⟩, _, rfl, _, _, rfl, rfl, .inl ?_, _, _, rfl, rfl, _, _, rfl, rfl, _, _, rfl, rfl, ⟨by decide, by decide, ?_⟩, .inl ⟨_, rfl, _, _, rfl, rfl, nz (by decide), ?_⟩⟩
          · exact lt64 (hq (by decide) (by decide))
          · exact ⟨by omega, by omega⟩
          · exact bound2 (hq (by decide) (by decide)) (by decide) (by decide) (by decide) t0 ht
          · refine ⟨_, rfl, _, _, rfl, rfl, ⟨by decide, by decide⟩, .inl ⟨_, rfl, _, rfl, _, _, rfl, rfl, (by omega), ?_⟩⟩
            exact k _ _ b2 (fin _ hp2 hL2 b2) (fmod_lo _ hm) (fmod_hi _ hm)
      | cons n0 nr =>
        refine iteT ?_
        obtain ⟨c, hc⟩ := cell_at (ns := ns) (by rw [hn]; exact List.cons_ne_nil _ _) tn
        refine ⟨_, rfl, p, _, 0, _, rfl, rfl, SqL.of hp2, i0, _, rfl, .inl ⟨_, rfl, _, rfl, p, _, 0, _, rfl, rfl, SqL.of hp2, i0, L, _, rfl, .inl (SqL.of hL2), _, _, rfl, rfl, (by rw [List.length_map, hn, List.length_cons]; omega), L, _, _, _, rfl, rfl, SqL.of hL2, hc, ?_⟩⟩
        refine ⟨_, rfl, _, rfl, p, _, 0, _, rfl, rfl, SqL.of hp2, i0, L, _, rfl, .inl (SqL.of hL2), _, _, rfl, rfl, _, rfl, ite2 (fun e1 => ?_) (fun e1 => ?_)⟩
        · refine ⟨_, rfl, _, rfl, _, _, rfl, rfl, ⟨by decide, by decide, by decide⟩, _, _, rfl, rfl, _, rfl, ite2 (fun e2 => ?_) (fun e2 => ?_)⟩
          · refine ⟨_, rfl, _, rfl, _, _, rfl, rfl, ⟨by decide, by decide, by decide⟩, _, _, rfl, rfl, _, _, rfl, rfl, .inl ⟨by decide, by decide⟩, _, rfl, _, _, rfl, rfl, .inr ⟨_, rfl, _, _, rfl, rfl, ?_⟩⟩
            refine ⟨_, rfl, .inl ⟨_, rfl, _, rfl, _, _, rfl, rfl, ⟨by omega, by omega⟩, _, rfl, p, _, _, 2, rfl, rfl, hp2, rfl, ?_⟩⟩
            refine ⟨_, rfl, .inl ⟨_, rfl, _, rfl, _, _, rfl, rfl, (by omega), ?_⟩⟩
            refine k _ _ (b2.trans But.upd_at) ⟨_, tn + 1, _, upd_same, by rw [upd_ne Lp]; exact hL2, Lp, hlen, by omega, by omega, fdiv_lo hm ?_⟩ (fmod_lo _ hm) (fmod_hi _ hm)
            have e3 := of_decide_eq_true e2
            exact great_nn e3 _
          · skip
            refine ⟨_, rfl, .inl ⟨_, rfl, _, _, rfl, rfl, nz (by decide), _, rfl, _, _, rfl, rfl, .inl ⟨by decide, by decide⟩, _, _, rfl, rfl, _, _, rfl, rfl, _, _, rfl, rfl, ⟨by decide, by decide, bound1 _ (by decide) (by decide) (by decide) (by decide) t0 ht⟩, .inl ⟨_, rfl, _, _, rfl, rfl, nz (by decide), ?_⟩⟩⟩
            refine ⟨_, rfl, _, rfl, _, _, rfl, rfl, .inl ⟨by decide, by decide⟩, _, _, rfl, rfl, _, _, rfl, rfl, .inl ?_, _, rfl, _, _, rfl, rfl, .inl ⟨by decide, by decide⟩, _, rfl, _, _, rfl, rfl, .inl ?_, _, _, rfl, rfl, _, _, rfl, rfl, _, _, rfl, rfl, ⟨by decide, by decide, ?_⟩, .inl ⟨_, rfl, _, _, rfl, rfl, nz (by decide), ?_⟩⟩
            · exact lt64 (hq (by decide) (by decide))
            · exact ⟨by omega, by omega⟩
            · exact bound2 (hq (by decide) (by decide)) (by decide) (by decide) (by decide) t0 ht
            · refine ⟨_, rfl, _, _, rfl, rfl, ⟨by decide, by decide⟩, .inl ⟨_, rfl, _, rfl, _, _, rfl, rfl, (by omega), ?_⟩⟩
              exact k _ _ b2 (fin _ hp2 hL2 b2) (fmod_lo _ hm) (fmod_hi _ hm)
        · skip
          refine ⟨_, rfl, .inl ⟨_, rfl, _, _, rfl, rfl, nz (by decide), _, rfl, _, _, rfl, rfl, .inl ⟨by decide, by decide⟩, _, _, rfl, rfl, _, _, rfl, rfl, _, _, rfl, rfl, ⟨by decide, by decide, bound1 _ (by decide) (by decide) (by decide) (by decide) t0 ht⟩, .inl ⟨_, rfl, _, _, rfl, rfl, nz (by decide), ?_⟩⟩⟩
          refine ⟨_, rfl, _, rfl, _, _, rfl, rfl, .inl ⟨by decide, by decide⟩, _, _, rfl, rfl, _, _, rfl, rfl, .inl ?_, _, rfl, _, _, rfl, rfl, .inl ⟨by decide, by decide⟩, _, rfl, _, _, rfl, rfl, .inl ?_, _, _, rfl, rfl, _, _, rfl, rfl, _, _, rfl, rfl, ⟨by decide, by decide, ?_⟩, .inl ⟨_, rfl, _, _, rfl, rfl, nz (by decide), ?_⟩⟩
          · exact lt64 (hq (by decide) (by decide))
          · exact ⟨by omega, by omega⟩
          · exact bound2 (hq (by decide) (by decide)) (by decide) (by decide) (by decide) t0 ht
          · refine ⟨_, rfl, _, _, rfl, rfl, ⟨by decide, by decide⟩, .inl ⟨_, rfl, _, rfl, _, _, rfl, rfl, (by omega), ?_⟩⟩
            exact k _ _ b2 (fin _ hp2 hL2 b2) (fmod_lo _ hm) (fmod_hi _ hm)
end
end Ev
namespace Ev
open PySem L2 PySem.Spec PyProof.Rows
abbrev sKept : Stmt := top 2
abbrev sParts : Stmt := top 5
abbrev sBRInit : Stmt := inClass (top 9) 0
abbrev sNHInit : Stmt := inClass (top 10) 0
abbrev sIsInt : Stmt := top 14
abbrev sWithin : Stmt := top 15
abbrev sTurnInit : Stmt := inClass (top 30) 0
abbrev sTurnEq : Stmt := inClass (top 30) 2
abbrev sTryInit : Stmt := inClass (top 31) 0
abbrev sTryEq : Stmt := inClass (top 31) 3
abbrev sPair : Stmt := top 35
abbrev sTimes : Stmt := top 36
abbrev sPlus : Stmt := top 37
abbrev sTurn : Stmt := top 38
abbrev sNeedT : Stmt := top 39
abbrev sHalves : Stmt := top 40
abbrev sNeedH : Stmt := top 41
abbrev sPen : Stmt := top 46
abbrev sPick : Stmt := top 48
abbrev sNums : Stmt := top 49
abbrev sRule : Stmt := top 50
abbrev sHeard : Stmt := top 51
abbrev sDue : Stmt := top 52
abbrev sTells : Stmt := top 53
abbrev sMade : Stmt := top 54
abbrev sLPair : Stmt := top 55
abbrev sLPlus : Stmt := top 56
abbrev sRefu : Stmt := top 57
abbrev sLaw : Stmt := top 58
theorem same_new {H : Hp} {q : Addr} {o : HO} (n : H q = none) : Same H (upd H q o) := fun b u e => by rw [upd_ne (ne_of_none e n)]; exact e
theorem Same.gone {H H' : Hp} {p : Addr} (k : Same H H') (n : H' p = none) : H p = none := by
  cases z : H p with
  | none => rfl
  | some o => rw [k _ _ z] at n; cases n
/-- a def that stands under its name -/
structure Df (P : Program) (w : World) (K : PySem.W.Frag) (mg : Str → Option Value) (base : Heap) (k : Nat) (x : Str) (ps : List Str) (sp : Sp) : Prop where
  ex : ∃ (f : Addr) (fd : FuncData), FnOk P w K mg base CX0 k f fd ps sp ∧ mg x = some (.ref f) ∧ PySem.W.keepIn K (.ref f) = true ∧ Binds K fd ps []
theorem extN_refl (H : Hp) : LamX.ExtN H H := fun _ _ e _ => e
theorem sx {H H1 H2 : Hp} (k : Same H H1) (q : LamX.ExtN H1 H2) : LamX.ExtN H H2 := fun b o e t => q b o (k b o e) t
theorem xx {H H1 H2 : Hp} (k : LamX.ExtN H H1) (q : LamX.ExtN H1 H2) : LamX.ExtN H H2 := fun b o e t => q b o (k b o e t) t
/-- no integer -/
def NoInt (H : Hp) (v : V) : Prop := (∀ i, v ≠ .int i) ∧ ∃ (T : String) (b c : Bool), (∀ (K : PySem.W.Frag) (H' : Hp), LamX.ExtN H H' → TyX K H' v (.type T)) ∧ kitB T "int" = some b ∧ kitB T "bool" = some c ∧ (b = true → c = true)
theorem NoInt.keep {H H' : Hp} {v : V} (h : NoInt H v) (k : Same H H') : NoInt H' v := by
  obtain ⟨n, T, b, c, ty, r⟩ := h
  exact ⟨n, T, b, c, fun K G q => ty K G (sx k q), r⟩
theorem NoInt.ext {H H' : Hp} {v : V} (h : NoInt H v) (k : LamX.ExtN H H') : NoInt H' v := by
  obtain ⟨n, T, b, c, ty, r⟩ := h
  exact ⟨n, T, b, c, fun K G q => ty K G (xx k q), r⟩
/-- an integer or none -/
def IntQ (H : Hp) (v : V) : Prop := (∃ i, v = .int i) ∨ NoInt H v
theorem IntQ.keep {H H' : Hp} {v : V} (h : IntQ H v) (k : Same H H') : IntQ H' v := h.imp id fun n => n.keep k
theorem IntQ.ext {H H' : Hp} {v : V} (h : IntQ H v) (k : LamX.ExtN H H') : IntQ H' v := h.imp id fun n => n.ext k
def isI : V → Bool
  | .int _ => true
  | _ => false
def inB (l m : Int) : V → Bool
  | .int i => decide (l ≤ i) && decide (i ≤ m)
  | _ => false
theorem isI_no {H : Hp} {v : V} (h : NoInt H v) : isI v = false := by
  cases v <;> first | rfl | exact absurd rfl (h.1 _)
theorem inB_no {H : Hp} {v : V} (h : NoInt H v) (l m : Int) : inB l m v = false := by
  cases v <;> first | rfl | exact absurd rfl (h.1 _)
/-- what stands in such a tuple -/
def Scal (v : V) : Prop := (∃ i, v = .int i) ∨ (∃ b, v = .bl b) ∨ v = .str "2"
theorem noInt_bl (H : Hp) (b : Bool) : NoInt H (.bl b) := ⟨fun i z => (by cases z), "bool", true, true, fun _ _ _ => .base (.bl b), by decide +kernel, by decide +kernel, fun _ => rfl⟩
theorem noInt_str (H : Hp) (x : Str) : NoInt H (.str x) := ⟨fun i z => (by cases z), "str", false, false, fun _ _ _ => .base (.str x), by decide +kernel, by decide +kernel, fun z => z⟩
theorem Scal.q {H : Hp} {v : V} (h : Scal v) : IntQ H v := by
  rcases h with ⟨i, rfl⟩ | ⟨b, rfl⟩ | rfl
  · exact .inl ⟨i, rfl⟩
  · exact .inr (noInt_bl H b)
  · exact .inr (noInt_str H _)
/-- no tuple -/
def NoTup (H : Hp) (v : V) : Prop := ∃ T : String, (∀ (K : PySem.W.Frag) (H' : Hp), LamX.ExtN H H' → TyX K H' v (.type T)) ∧ kitB T "tuple" = some false
theorem NoTup.keep {H H' : Hp} {v : V} (h : NoTup H v) (k : Same H H') : NoTup H' v := by
  obtain ⟨T, ty, r⟩ := h
  exact ⟨T, fun K G q => ty K G (sx k q), r⟩
theorem NoTup.ext {H H' : Hp} {v : V} (h : NoTup H v) (k : LamX.ExtN H H') : NoTup H' v := by
  obtain ⟨T, ty, r⟩ := h
  exact ⟨T, fun K G q => ty K G (xx k q), r⟩
/-- a tuple of such values, or no tuple: xs tells which -/
def PairQ (H : Hp) (v : V) : Option (List V) → Prop
  | some xs => ∃ a, v = .ref a ∧ H a = some (.tup xs) ∧ xs.length ≤ 1000 ∧ ∀ x ∈ xs, Scal x
  | none => NoTup H v
theorem PairQ.keep {H H' : Hp} {v : V} {o : Option (List V)} (h : PairQ H v o) (k : Same H H') : PairQ H' v o := by
  cases o with
  | none => exact NoTup.keep h k
  | some xs =>
    obtain ⟨a, e, h1, h2, h3⟩ := h
    exact ⟨a, e, k _ _ h1, h2, h3⟩
theorem PairQ.ext {H H' : Hp} {v : V} {o : Option (List V)} (h : PairQ H v o) (k : LamX.ExtN H H') : PairQ H' v o := by
  cases o with
  | none => exact NoTup.ext h k
  | some xs =>
    obtain ⟨a, e, h1, h2, h3⟩ := h
    exact ⟨a, e, k _ _ h1 (fun _ z => by cases z), h2, h3⟩
def pairB (m : Int) : Option (List V) → Bool
  | some [x, y] => inB 1 m x && inB 1 m y
  | _ => false
def leV : V → V → Bool
  | .int i, .int j => decide (j ≤ i)
  | _, _ => false
def timesB : Option (List V) → Bool
  | some [x, y] => (inB 1 6 x && inB 1 6 y) && leV x y
  | _ => false
def spIsIntA : Sp := fun vs H Q _ => ∃ v : V, vs = [v] ∧ IntQ H v ∧ Q (.bl (isI v)) H
def spWithinA : Sp := fun vs H Q _ => ∃ (v : V) (l m : Int), vs = [v, .int l, .int m] ∧ IntQ H v ∧ Q (.bl (inB l m v)) H
def spPairA : Sp := fun vs H Q _ => ∃ (v : V) (o : Option (List V)) (m : Int), vs = [v, .int m] ∧ PairQ H v o ∧ ∀ H', Same H H' → Q (.bl (pairB m o)) H'
def spTimesA : Sp := fun vs H Q _ => ∃ (v : V) (o : Option (List V)), vs = [v] ∧ PairQ H v o ∧ ∀ H', Same H H' → Q (.bl (timesB o)) H'
def spPlusA : Sp := fun vs H Q _ => ∃ v : V, vs = [v] ∧ IntQ H v ∧ Q (.bl (inB (-6) 6 v)) H
def spTurnA : Sp := fun vs H Q _ => ∃ (v : V) (o : Option (List V)), vs = [v] ∧ PairQ H v o ∧ ∀ H', Same H H' → Q (.bl (pairB 8 o)) H'
theorem lc_pureV {J : It} {n : Nat} {G : Hp → Prop} {Y : Nat → Hp → V → Hp → Prop} (W : Walk J n G Y) {g : TG} {tt : TT} {te : TE} {vs : List Nat} {σ : L2.St} {H1 : Hp} {D : Addr} {Qd : Hp → Prop} (rs : List V) (hn : rs.length = n) (hb : n ≤ 1000)
    (hG : ∀ H, But D H1 H → G H)
    (step : ∀ (i : Nat) (x : V) (H H' : Hp) (r : V), i < n → rs[i]? = some r → But D H1 H → (∃ acc, H D = some (.lst acc)) → Y i H x H' → ∀ (R : VK) (Wk : Hp → Prop), (∀ H4, Same H H4 → R r H4) →
      g x (wipe σ vs) H' fun σ2 H2 => wipe σ2 vs = wipe σ vs ∧ tt σ2 H2 fun b H3 => if b = true then te σ2 H3 R else Wk H3)
    (fin : ∀ H, But D H1 H → H D = some (.lst rs) → Qd H) :
    ∃ W : Nat → Nat → Hp → Prop, (∃ m, W 0 m (upd H1 D (HO.lst []))) ∧ ∀ (i m : Nat) (H : Hp), W i m H → J.stop i H ∧ Qd H ∨ J.go i H ∧ ∃ Nx : Hp → Prop, (∀ (H' : Hp), Nx H' → ∃ m', m' < m ∧ W (i + 1) m' H') ∧
      ∀ (x : V) (H' : Hp), J.yld i H x H' → g x (wipe σ vs) H' fun σ2 H2 => wipe σ2 vs = wipe σ vs ∧ tt σ2 H2 fun b H3 =>
        if b = true then te σ2 H3 fun y H4 => ∃ acc, H4 D = some (HO.lst acc) ∧ acc.length < sizeLine ∧ Nx (upd H4 D (HO.lst (acc ++ [y]))) else Nx H3 := by
  refine lc_it W (fun i H => H D = some (.lst (rs.take i)) ∧ But D H1 H) ⟨upd_same, But.upd_at⟩ (fun i H _ h => hG H h.2) (fun i x H H' hi h y => ?_) (fun H h => ?_)
  · obtain ⟨e1, e2⟩ := h
    have hr : rs[i]? = some rs[i] := List.getElem?_eq_getElem (by omega)
    refine step i x H H' rs[i] hi hr e2 ⟨_, e1⟩ y _ _ fun H4 s4 => ⟨_, s4 _ _ e1, ?_, ?_, ?_⟩
    · rw [List.length_take]
      exact Nat.lt_of_le_of_lt (Nat.min_le_left _ _) (Nat.lt_of_lt_of_le (show i < 1000 by omega) (by decide))
    · rw [List.take_add_one, hr]
      exact upd_same
    · exact fun c o nc ec => by rw [upd_ne nc]; exact s4 _ _ (e2 c o nc ec)
  · obtain ⟨e1, e2⟩ := h
    rw [← hn, List.take_length] at e1
    exact fin H e2 e1
section
variable {P : Program} {w : World} {K : PySem.W.Frag} {mg : Str → Option Value} {base : Heap}
theorem tup1 {a b : V} : atI [a, b] 1 = some b := atI_nat (j := 1) rfl
theorem tup0 {a b : V} : atI [a, b] 0 = some a := atI_nat (j := 0) rfl
theorem scIsInt : FnScope ["value"] ["value"] (defScope sIsInt) := ⟨rfl, rfl, rfl, by decide +kernel, rfl, by decide +kernel, by decide +kernel⟩
theorem ok_isInt {f : Addr} {fd : FuncData} (F : Fun K "is_integer" "is_integer" sIsInt f fd) (T : Blt mg) : FnOk P w K mg base CX0 1 f fd ["value"] spIsIntA := by
  refine F.ok scIsInt (fun vs H Q E h => ?_) (fun cdv A outer s H vs Q E hr h => ?_)
  · obtain ⟨v, rfl, _⟩ := h
    rfl
  · obtain ⟨v, rfl, h, k⟩ := h
    refine ⟨_, pss_one (ps_ret (pe_and (pe_callB call_isi (by rfl) T.isi (by decide +kernel) (pa_cons (pv 0) (pa_cons (pe_bltn (v := .ty "int") (by rfl) T.int (by decide +kernel) rfl) pa_nil)))
      (pe_one (pe_not (pe_callB call_isi (by rfl) T.isi (by decide +kernel) (pa_cons (pv 0) (pa_cons (pe_bltn (v := .ty "bool") (by rfl) T.bool (by decide +kernel) rfl) pa_nil))))))), ?_⟩
    rcases h with ⟨i, rfl⟩ | no
    · exact ⟨_, rfl, _, _, _, _, true, rfl, .ty _, .base (.int i), kit_ty (by decide +kernel), true, rfl, iteT ⟨_, rfl, _, _, _, _, false, rfl, .ty _, .base (.int i), kit_ty (by decide +kernel), _, rfl, k⟩⟩
    · rw [isI_no no] at k
      obtain ⟨_, TT, b, c, ty, e1, e2, e3⟩ := no
      refine ⟨_, rfl, _, _, _, _, b, rfl, .ty _, ty _ _ (extN_refl H), kit_ty e1, b, rfl, ?_⟩
      cases b with
      | false => exact iteF k
      | true => exact iteT ⟨_, rfl, _, _, _, _, true, rfl, .ty _, ty _ _ (extN_refl H), kit_ty (by rw [e2, e3 rfl]), _, rfl, k⟩
theorem scWithin : FnScope ["value", "least", "most"] ["value", "least", "most"] (defScope sWithin) := ⟨rfl, rfl, rfl, by decide +kernel, rfl, by decide +kernel, by decide +kernel⟩
theorem ok_within {f : Addr} {fd : FuncData} (F : Fun K "is_within" "is_within" sWithin f fd) (D : Df P w K mg base 1 "is_integer" ["value"] spIsIntA) : FnOk P w K mg base CX0 2 f fd ["value", "least", "most"] spWithinA := by
  obtain ⟨fI, fdI, GI, gI, kI, bI⟩ := D.ex
  refine F.ok scWithin (fun vs H Q E h => ?_) (fun cdv A outer s H vs Q E hr h => ?_)
  · obtain ⟨v, l, m, rfl, _⟩ := h
    rfl
  · obtain ⟨v, l, m, rfl, h, k⟩ := h
    refine ⟨_, pss_one (ps_ret (pe_and (pe_call GI hr (by rfl) gI kI bI .nil pass0 (pa_cons (pv 0) pa_nil)) (pe_one (pe_chain op_le op_le (pv 1) (pv 0) (pv 2))))), ?_⟩
    refine ⟨_, rfl, _, rfl, h, ?_⟩
    rcases h with ⟨i, rfl⟩ | no
    · refine ⟨true, rfl, iteT ⟨_, rfl, _, rfl, _, _, rfl, rfl, _, rfl, ?_⟩⟩
      have k : Q (.bl (decide (l ≤ i) && decide (i ≤ m))) H := k
      by_cases z : l ≤ i
      · rw [decide_eq_true z] at k ⊢
        refine iteT ⟨_, rfl, _, _, rfl, rfl, ?_⟩
        exact k
      · rw [decide_eq_false z] at k ⊢
        exact iteF k
    · rw [inB_no no] at k
      rw [isI_no no]
      exact ⟨false, rfl, iteF k⟩
theorem scPair : FnScope ["value", "most", "item"] ["value", "most"] (defScope sPair) := ⟨rfl, rfl, rfl, by decide +kernel, rfl, by decide +kernel, by decide +kernel⟩
theorem pairB_len {m : Int} {xs : List V} (h : xs.length ≠ 2) : pairB m (some xs) = false := by
  match xs, h with
  | [], _ => rfl
  | [_], _ => rfl
  | [_, _], h => exact absurd rfl h
  | _ :: _ :: _ :: _, _ => rfl
theorem ok_pair {f : Addr} {fd : FuncData} (F : Fun K "is_pair" "is_pair" sPair f fd) (T : Blt mg) (D : Df P w K mg base 2 "is_within" ["value", "least", "most"] spWithinA) : FnOk P w K mg base CX0 3 f fd ["value", "most"] spPairA := by
  obtain ⟨fW, fdW, GW, gW, kW, bW⟩ := D.ex
  refine F.ok scPair (fun vs H Q E h => ?_) (fun cdv A outer s H vs Q E hr h => ?_)
  · obtain ⟨v, o, m, rfl, _⟩ := h
    rfl
  · obtain ⟨v, o, m, rfl, hv, k⟩ := h
    refine ⟨_, pss_one (ps_ret (pe_and (pe_callB call_isi (by rfl) T.isi (by decide +kernel) (pa_cons (pv 0) (pa_cons (pe_bltn (v := .ty "tuple") (by rfl) T.tuple (by decide +kernel) rfl) pa_nil)))
      (pe_and (pe_cmpR op_eq (pe_callB call_len_seq (by rfl) T.len PySem.boot_len (pa_cons (pv 0) pa_nil)) pe_int (nomark _))
      (pe_one (pe_callB (cr_all rfl) (by rfl) T.all (by decide +kernel) (pa_cons (pe_lc (own := [("item", 2)]) (g := gName 2) (tt := tYes) (te := tCall spWithinA [] E0 (tCons (tVar 2) (tCons (tC (.int 1)) (tCons (tVar 1) tNil)))) (by rfl) scPair.nd (pi_tup (pv 0)) (blkOk_by (own := [("item", 2)]) (N := ["value", "most", "item"]) (sc := defScope sPair) (by decide +kernel))
          (fun _ _ _ _ _ => pg_name (i := 2) scPair.nd rfl (.inl rfl)) (fun _ _ _ _ _ => pts_nil) (fun _ _ _ _ _ => pe_call GW hr (by rfl) gW kW bW .nil pass0 (pa_cons (pv 2) (pa_cons pe_int (pa_cons (pv 1) pa_nil))))) pa_nil)))))), ?_⟩
    cases o with
    | none =>
      obtain ⟨TT, ty, e⟩ := hv
      exact ⟨_, rfl, _, _, _, _, false, rfl, .ty _, ty _ _ (extN_refl H), kit_ty e, false, rfl, iteF (k H (Same.refl H))⟩
    | some xs =>
      obtain ⟨a, rfl, ha, hl, hq⟩ := hv
      refine ⟨_, rfl, _, _, _, _, true, rfl, .ty _, .base (.tup ha), kit_ty (by decide +kernel), true, rfl, iteT ⟨_, rfl, a, _, rfl, .inr (SqT.of ha), rfl, _, rfl, ite2 (fun e => ?_) (fun e => ?_)⟩⟩
      · have e : xs.length = 2 := by
          have e' : (xs.length : Int) = 2 := by simpa using e
          omega
        refine ⟨_, rfl, a, rfl, ⟨_, SqT.of ha⟩, fun D nD => ?_⟩
        have aD := ne_of_none ha nD
        refine lc_pureV (n := xs.length) (walk_tup (xs := xs)) (xs.map fun x => V.bl (inB 1 m x)) (List.length_map _) (by omega) (fun H' h => SqT.of (h _ _ aD ha)) (fun i v H2 H' r hi hr bt _ y R Wk kk => ?_) (fun H' bt hD => ?_)
        · obtain ⟨rfl, hv⟩ := y
          have er : r = V.bl (inB 1 m v) := by
            rw [List.getElem?_map, hv] at hr
            exact (Option.some.inj hr).symm
          subst er
          have sq : IntQ H' v := (hq v (List.mem_of_getElem? hv)).q
          exact ⟨rfl, _, rfl, _, rfl, v, 1, m, rfl, sq, kk _ (Same.refl _)⟩
        · have s1 : Same H H' := fun c o e => bt c o (ne_of_none e nD) e
          have eq : (xs.map fun x => V.bl (inB 1 m x)) = (xs.map fun x => inB 1 m x).map V.bl := by rw [List.map_map]; rfl
          rw [eq] at hD
          refine ⟨D, _, rfl, SqL.of hD, ?_⟩
          match xs, e with
          | [x, y], _ =>
            have := k H' s1
            simpa [pairB] using this
      · have e : xs.length ≠ 2 := by
          have e' : ¬ (xs.length : Int) = 2 := by simpa using e
          omega
        have := k H (Same.refl H)
        rw [pairB_len e] at this
        simpa using this
theorem scTimes : FnScope ["value"] ["value"] (defScope sTimes) := ⟨rfl, rfl, rfl, by decide +kernel, rfl, by decide +kernel, by decide +kernel⟩
theorem inB_int {l m : Int} {v : V} (h : inB l m v = true) : ∃ i, v = .int i ∧ l ≤ i ∧ i ≤ m := by
  cases v <;> first | cases h | skip
  rename_i i
  have h : (decide (l ≤ i) && decide (i ≤ m)) = true := h
  rw [Bool.and_eq_true, decide_eq_true_eq, decide_eq_true_eq] at h
  exact ⟨i, rfl, h.1, h.2⟩
theorem pair_cases (m : Int) (o : Option (List V)) : (∃ i j, o = some [.int i, .int j] ∧ (1 ≤ i ∧ i ≤ m) ∧ (1 ≤ j ∧ j ≤ m) ∧ pairB m o = true) ∨ pairB m o = false := by
  cases z : pairB m o with
  | false => exact .inr rfl
  | true =>
    refine .inl ?_
    match o, z with
    | some [x, y], z =>
      have z : (inB 1 m x && inB 1 m y) = true := z
      rw [Bool.and_eq_true] at z
      obtain ⟨i, rfl, h1, h2⟩ := inB_int z.1
      obtain ⟨j, rfl, h3, h4⟩ := inB_int z.2
      exact ⟨i, j, rfl, ⟨h1, h2⟩, ⟨h3, h4⟩, rfl⟩
theorem times_no {o : Option (List V)} (h : pairB 6 o = false) : timesB o = false := by
  match o, h with
  | none, _ => rfl
  | some [], _ => rfl
  | some [_], _ => rfl
  | some [x, y], h =>
    have h : (inB 1 6 x && inB 1 6 y) = false := h
    show ((inB 1 6 x && inB 1 6 y) && leV x y) = false
    rw [h]
    rfl
  | some (_ :: _ :: _ :: _), _ => rfl
theorem ok_times {f : Addr} {fd : FuncData} (F : Fun K "is_times" "is_times" sTimes f fd) (D : Df P w K mg base 3 "is_pair" ["value", "most"] spPairA) {CW : Addr} {mc u : Value} (gW : mg "WeightRule" = some (.ref CW)) (cr : ClX.CRead K CW mc) (cv : ClX.CVal K CW mc "MOST" (.int 6) u) :
    FnOk P w K mg base CX0 4 f fd ["value"] spTimesA := by
  obtain ⟨fP, fdP, GP, gP, kP, bP⟩ := D.ex
  refine F.ok scTimes (fun vs H Q E h => ?_) (fun cdv A outer s H vs Q E hr h => ?_)
  · obtain ⟨v, o, rfl, _⟩ := h
    rfl
  · obtain ⟨v, o, rfl, hv, k⟩ := h
    refine ⟨_, pss_one (ps_ret (pe_and (pe_call GP hr (by rfl) gP kP bP .nil pass0 (pa_cons (pv 0) (pa_cons (ClX.pe_cval (pe_glob (v := .ref CW) rfl gW rfl)) pa_nil)))
      (pe_one (pe_cmpR op_le (pe_ix ix_tup (pv 0) pe_int (fun _ _ => rfl)) (pe_ix ix_tup (pv 0) pe_int (fun _ _ => rfl)) (nomark _))))), ?_⟩
    refine ⟨_, rfl, CW, mc, _, u, rfl, cr, cv, v, o, _, rfl, hv, fun H' s => ?_⟩
    rcases pair_cases 6 o with ⟨i, j, rfl, h1, h2, e⟩ | e
    · rw [e]
      obtain ⟨a, rfl, ha, _⟩ := hv
      refine ⟨true, rfl, iteT ⟨_, rfl, a, _, 1, _, rfl, rfl, SqT.of (s _ _ ha), tup1, _, rfl, a, _, 0, _, rfl, rfl, SqT.of (s _ _ ha), tup0, _, _, rfl, rfl, ?_⟩⟩
      have k := k H' s
      have e : (inB 1 6 (.int i) && inB 1 6 (.int j)) = true := e
      have k : Q (.bl ((inB 1 6 (.int i) && inB 1 6 (.int j)) && decide (j ≤ i))) H' := k
      rw [e, Bool.true_and] at k
      exact k
    · have k := k H' s
      rw [times_no e] at k
      rw [e]
      exact ⟨false, rfl, iteF k⟩
theorem scPlus : FnScope ["value"] ["value"] (defScope sPlus) := ⟨rfl, rfl, rfl, by decide +kernel, rfl, by decide +kernel, by decide +kernel⟩
theorem ok_plus {f : Addr} {fd : FuncData} (F : Fun K "is_plus" "is_plus" sPlus f fd) (D : Df P w K mg base 2 "is_within" ["value", "least", "most"] spWithinA) {t : Tok} (gM : mg "MOST_PLUS" = some (.int 6 t)) : FnOk P w K mg base CX0 3 f fd ["value"] spPlusA := by
  obtain ⟨fW, fdW, GW, gW, kW, bW⟩ := D.ex
  refine F.ok scPlus (fun vs H Q E h => ?_) (fun cdv A outer s H vs Q E hr h => ?_)
  · obtain ⟨v, rfl, _⟩ := h
    rfl
  · obtain ⟨v, rfl, hv, k⟩ := h
    refine ⟨_, pss_one (ps_ret (pe_call GW hr (by rfl) gW kW bW .nil pass0 (pa_cons (pv 0) (pa_cons (pe_un un_neg (pe_glob (v := .int 6) rfl gM ⟨_, rfl⟩)) (pa_cons (pe_glob (v := .int 6) rfl gM ⟨_, rfl⟩) pa_nil))))), ?_⟩
    exact ⟨_, rfl, _, rfl, v, _, _, rfl, hv, k⟩
theorem scTurn : FnScope ["value"] ["value"] (defScope sTurn) := ⟨rfl, rfl, rfl, by decide +kernel, rfl, by decide +kernel, by decide +kernel⟩
theorem ok_turn {f : Addr} {fd : FuncData} (F : Fun K "is_turn" "is_turn" sTurn f fd) (D : Df P w K mg base 3 "is_pair" ["value", "most"] spPairA) {t : Tok} (gM : mg "MOST_TURN" = some (.int 8 t)) : FnOk P w K mg base CX0 4 f fd ["value"] spTurnA := by
  obtain ⟨fP, fdP, GP, gP, kP, bP⟩ := D.ex
  refine F.ok scTurn (fun vs H Q E h => ?_) (fun cdv A outer s H vs Q E hr h => ?_)
  · obtain ⟨v, o, rfl, _⟩ := h
    rfl
  · obtain ⟨v, o, rfl, hv, k⟩ := h
    refine ⟨_, pss_one (ps_ret (pe_call GP hr (by rfl) gP kP bP .nil pass0 (pa_cons (pv 0) (pa_cons (pe_glob (v := .int 8) rfl gM ⟨_, rfl⟩) pa_nil)))), ?_⟩
    exact ⟨_, rfl, v, o, _, rfl, hv, k⟩
end
end Ev
namespace Ev
open PySem L2 PySem.Spec PyProof.Rows
section
variable {X : Cx}
theorem pe_never {e : Expr} : PE X e (fun _ _ _ => False) := ⟨fun _ _ _ _ _ _ h => h.elim⟩
end
/-- v is a value of the built-in type T, one that holds nothing -/
structure Flat (v : V) (T : String) : Prop where
  ty : ∀ (K : PySem.W.Frag) (H : Hp), TyX K H v (.type T)
  l : kitB T "list" = some false
  t : kitB T "tuple" = some false
  d : kitB T "dict" = some false
theorem flat_int (i : Int) : Flat (.int i) "int" := ⟨fun _ _ => .base (.int i), by decide +kernel, by decide +kernel, by decide +kernel⟩
theorem flat_str (x : Str) : Flat (.str x) "str" := ⟨fun _ _ => .base (.str x), by decide +kernel, by decide +kernel, by decide +kernel⟩
theorem kit2 {K : PySem.W.Frag} {T a b : String} (h1 : kitB T a = some false) (h2 : kitB T b = some false) : PySem.W.kitAny K (.type T) [.type a, .type b] = some false :=
  kitAny_cons (kit_ty h1) (fun _ => kitAny_cons (kit_ty h2) (fun _ => kitAny_nil) (fun z => by cases z)) (fun z => by cases z)
def spParts : Sp := fun vs H Q _ => ∃ (v : V) (T : String), vs = [v] ∧ Flat v T ∧ ∀ (p : Addr) (H' : Hp), H p = none → Same H H' → H' p = some (.lst []) → Q (.ref p) H'
def spKept : Sp := fun vs H Q _ => ∃ (v : V) (T : String), vs = [v] ∧ Flat v T ∧ ∀ (H' : Hp), Same H H' → Q v H'
section
variable {P : Program} {w : World} {K : PySem.W.Frag} {mg : Str → Option Value} {base : Heap}
theorem scParts : FnScope ["value"] ["value"] (defScope sParts) := ⟨rfl, rfl, rfl, by decide +kernel, rfl, by decide +kernel, by decide +kernel⟩
theorem ok_parts {f : Addr} {fd : FuncData} (F : Fun K "parts_of" "parts_of" sParts f fd) (T : Blt mg) (md : mg "dict" = none) : FnOk P w K mg base CX0 1 f fd ["value"] spParts := by
  refine F.ok scParts (fun vs H Q E h => ?_) (fun cdv A outer s H vs Q E hr h => ?_)
  · obtain ⟨v, TT, rfl, _⟩ := h
    rfl
  · obtain ⟨v, TT, rfl, fl, kk⟩ := h
    refine ⟨_, pss_cons (ps_if (pt_val (pe_callB call_isiT (by rfl) T.isi (by decide +kernel) (pa_cons (pv 0) (pa_cons (pe_tup (pa_cons (pe_bltn (v := .ty "list") (by rfl) T.list (by decide +kernel) rfl) (pa_cons (pe_bltn (v := .ty "tuple") (by rfl) T.tuple (by decide +kernel) rfl) pa_nil))) pa_nil)))) (pss_one ps_never) pss_nil)
      (pss_one (ps_ret (pe_ifExp (pt_val (pe_callB call_isi (by rfl) T.isi (by decide +kernel) (pa_cons (pv 0) (pa_cons (pe_bltn (v := .ty "dict") (by rfl) md (by decide +kernel) rfl) pa_nil)))) pe_never (pe_lst pa_nil)))), ?_⟩
    refine ⟨_, rfl, (by show 2 ≤ sizeLine; decide), fun tp ntp => ⟨v, tp, _, _, _, false, rfl, upd_same, .cons (.ty _) (.cons (.ty _) .nil), fl.ty _ _, kit2 fl.l fl.t, _, rfl, iteF ?_⟩⟩
    refine ⟨_, rfl, v, _, _, _, false, rfl, .ty _, fl.ty _ _, kit_ty fl.d, _, rfl, iteF ⟨(by show 0 ≤ sizeLine; decide), fun p np => ?_⟩⟩
    refine kk p _ ?_ (fun b o e => ?_) upd_same
    · cases e : H p with
      | none => rfl
      | some o => rw [upd_ne (ne_of_none e ntp), e] at np; cases np
    · have e1 : upd H tp (.tup [.ty "list", .ty "tuple"]) b = some o := by rw [upd_ne (ne_of_none e ntp)]; exact e
      rw [upd_ne (ne_of_none e1 np)]; exact e1
theorem kit3 {K : PySem.W.Frag} {T a b c : String} (h1 : kitB T a = some false) (h2 : kitB T b = some false) (h3 : kitB T c = some false) : PySem.W.kitAny K (.type T) [.type a, .type b, .type c] = some false :=
  kitAny_cons (kit_ty h1) (fun _ => kitAny_cons (kit_ty h2) (fun _ => kitAny_cons (kit_ty h3) (fun _ => kitAny_nil) (fun z => by cases z)) (fun z => by cases z)) (fun z => by cases z)
theorem scKept : FnScope ["value"] ["value"] (defScope sKept) := ⟨rfl, rfl, rfl, by decide +kernel, rfl, by decide +kernel, by decide +kernel⟩
theorem ok_kept {f : Addr} {fd : FuncData} (F : Fun K "kept" "kept" sKept f fd) (T : Blt mg) (md : mg "dict" = none) (ma : mg "any" = none) (D : Df P w K mg base 1 "parts_of" ["value"] spParts) : FnOk P w K mg base CX0 2 f fd ["value"] spKept := by
  refine F.ok scKept (fun vs H Q E h => ?_) (fun cdv A outer s H vs Q E hr h => ?_)
  · obtain ⟨v, TT, rfl, _⟩ := h
    rfl
  · obtain ⟨v, TT, rfl, fl, kk⟩ := h
    refine ⟨_, pss_cons (ps_if (pt_not (pt_val (pe_callB call_isiT (by rfl) T.isi (by decide +kernel) (pa_cons (pv 0) (pa_cons (pe_tup (pa_cons (pe_bltn (v := .ty "list") (by rfl) T.list (by decide +kernel) rfl) (pa_cons (pe_bltn (v := .ty "tuple") (by rfl) T.tuple (by decide +kernel) rfl) (pa_cons (pe_bltn (v := .ty "dict") (by rfl) md (by decide +kernel) rfl) pa_nil)))) pa_nil))))) (pss_one (ps_ret (pv 0))) pss_nil)
      (pss_cons ps_never (pss_one ps_never)), ?_⟩
    refine ⟨_, rfl, (by show 3 ≤ sizeLine; decide), fun tp ntp => ⟨v, tp, _, _, _, false, rfl, upd_same, .cons (.ty _) (.cons (.ty _) (.cons (.ty _) .nil)), fl.ty _ _, kit3 fl.l fl.t fl.d, _, rfl, iteT ⟨_, rfl, ?_⟩⟩⟩
    exact kk _ (fun b u e => by rw [upd_ne (ne_of_none e ntp)]; exact e)
end
end Ev
namespace Ev
open PySem L2 PySem.Spec PyProof.Rows
/-! Promises of defs that are called while no repr is under way (so what they make can be shown). -/
structure FnG (P : Program) (w : World) (K : PySem.W.Frag) (mg : Str → Option Value) (base : Heap) (k : Nat) (f : Addr)
    (fd : FuncData) (ps : List Str) (sp : Sp) : Prop where
  many : ∀ vs H Q E, sp vs H Q E → vs.length = ps.length
  goes : ∀ (A : Around) (above : List Env) (s : Shared) (H : Hp) (args : Args) (us : List Value) (vs : List V) (Q : VK)
    (E : XK), Room k A → A.guards = some [] → Env0 P w K mg base A above s H → BindsTo s fd args (ps.zip us) → Vals vs us →
    sp vs H Q E → codeAny (model P w) A (.call (.ref f) args) (CR CX0 above P w H s Q E) s
theorem FnG.of {P : Program} {w : World} {K : PySem.W.Frag} {mg : Str → Option Value} {base : Heap} {k : Nat} {f : Addr}
    {fd : FuncData} {ps : List Str} {sp : Sp} (F : FnOk P w K mg base CX0 k f fd ps sp) : FnG P w K mg base k f fd ps sp :=
  ⟨F.len, fun A above s H args us vs Q E hr _ => F.run A above s H args us vs Q E hr⟩
section
variable {P : Program} {w : World} {K : PySem.W.Frag} {mg : Str → Option Value} {base : Heap}
/-- a def by its body, where no repr is under way -/
theorem fng_code {x qual : Str} {st : Stmt} {f : Addr} {fd : FuncData} {N ps : List Str} {k : Nat} {sp : Sp} (F : Fun K x qual st f fd)
    (S : FnScope N ps (defScope st)) (many : ∀ vs H Q E, sp vs H Q E → vs.length = ps.length)
    (body : ∀ (cdv : Value), fd.code = cdv → ∀ (A : Around) (above : List Env) (s : Shared) (H : Hp) (vs : List V) (Q : VK) (E : XK),
      Room k (A.deeper (envOfC qual (defScope st) s.heap.objs.size f cdv)) → A.guards = some [] → sp vs H Q E →
      ∃ t, PSs (cxOf CX0 P w K mg base N qual (defScope st) f cdv A above s H E).nox (defBody st) t ∧
        t { nx := fun _ H' => Q .non H', rt := Q } (start N vs) H) : FnG P w K mg base (k + 1) f fd ps sp := by
  obtain ⟨oc, od, kV, doc, pm, an, cdv, ct, osl, rfl, lk, hcd⟩ := F.ex
  constructor
  · exact many
  · intro A above s H args us vs Q E room gd env bt rv hs
    have inK : K.In s.heap := env.mod.kin.keeps fun b o e => (env.bs b o e).1
    have noLim : s.heap.NoLimit := env.mod.nolimit.keeps fun b o e => (env.bs b o e).1
    have kinds : ∀ y ∈ ps.zip us, (defScope st).names.lookup y.1 = some .local ∨
        ((defScope st).names.lookup y.1 = some .cell ∧ ((cellsFrom (s.heap.objs.size + 1) (defScope st).names []).lookup y.1).isSome = true) := by
      rintro ⟨n, v⟩ hy
      cases S.par n (List.of_mem_zip hy).1 with
      | inl q => exact .inl q
      | inr q => exact .inr ⟨q, PySem.W.cellsFrom_some _ _ _ (.inl q)⟩
    refine codeAny_call_function room.depth (inK _ _ lk) rfl S.co S.gen rfl (PySem.W.codeRec_of inK hcd) (bt _ _ _ _ ?_)
    refine wpAny_newFunctionEnv_cells S.kind kinds fun e2 he s2 x => ?_
    subst he
    refine ⟨noLim.keeps x.toInCall.keep, codeAny_func ?_⟩
    obtain ⟨t, ht, hq⟩ := body cdv rfl A above s H vs Q E (room.deeper _) gd hs
    have inv := inv_start (CX := CX0) (E := E) S room.hd env (many _ _ _ _ hs) rv x
    refine wpAny_mono (ht.nox.run [] s2 (start N vs) H _ inv hq) (fun fl s3 h3 => ?_) fun e s3 h3 => h3
    cases fl with
    | ret u =>
      obtain ⟨v, σ3, H3, J, rr, q⟩ := h3
      exact ⟨v, H3, J.os, J.bare, J.base, J.hok, rr, q⟩
    | next =>
      obtain ⟨σ3, H3, J, q⟩ := h3
      exact ⟨.non, H3, J.os, J.bare, J.base, J.hok, rfl, q⟩
    | brk =>
      obtain ⟨_, _, _, z⟩ := h3
      exact False.elim z
    | cont =>
      obtain ⟨_, _, _, z⟩ := h3
      exact False.elim z
theorem fng_of {x qual : Str} {st : Stmt} {f : Addr} {fd : FuncData} {N ps : List Str} {k : Nat} {sp : Sp} (F : Fun K x qual st f fd)
    (S : FnScope N ps (defScope st)) (many : ∀ vs H Q E, sp vs H Q E → vs.length = ps.length)
    (body : ∀ (cdv : Value) (A : Around) (above : List Env) (s : Shared) (H : Hp) (vs : List V) (Q : VK) (E : XK),
      Room k (A.deeper (envOfC qual (defScope st) s.heap.objs.size f cdv)) → A.guards = some [] → sp vs H Q E →
      ∃ t, PSs (cxOf CX0 P w K mg base N qual (defScope st) f cdv A above s H E).nox (defBody st) t ∧
        t { nx := fun _ H' => Q .non H', rt := Q } (start N vs) H) : FnG P w K mg base (k + 1) f fd ps sp :=
  fng_code F S many fun cdv _ => body cdv
end
section
variable {X : Cx}
/-- f(e, ..) of such a def -/
theorem pe_callG {k : Nat} {f : Addr} {fd : FuncData} {ps : List Str} {sp : Sp} {E : XK} {x : Str} {p pos : Pos} {e : Expr} {es : List Expr} {t : TA}
    (F : FnG X.prog X.w X.K X.mg X.base k f fd ps sp) (room : Room k X.A) (gd : X.A.guards = some []) (hg : Gl X x)
    (hm : X.mg x = some (.ref f)) (kp : PySem.W.keepIn X.K (.ref f) = true) (hb : Binds X.K fd ps []) (ha : PA X (e :: es) t)
    (hdb : (x == ("__debug__" : Str)) = false := by decide)
    (he : starEach (e :: es) X.env = (false, eval e X.env) :: starEach es X.env := by rfl)
    (hpl : (backTo pos (starEach es X.env)).any (·.1) = false := by rfl) :
    PE X (.Call (.Name x p) (e :: es) [] pos) (tCall sp [] E t) := by
  constructor
  intro pins s σ H Q I h
  refine wpAny_Call_Name_kw (ld_glob I hg hm ?_ hdb)
  refine PySem.W.callWith_K (h₀ := X.base) I.ok.mod.kin kp (thn (ha.run pos pins s σ H _ I h) fun us s1 d => ?_) he hpl
  obtain ⟨vs, H1, I1, rv, q⟩ := d
  refine ⟨I1.kIn, ?_⟩
  have q : sp vs H1 Q E := by
    have q' : sp (vs ++ []) H1 Q E := q
    rw [List.append_nil] at q'
    exact q'
  have hl : us.length = ps.length := rv.length.symm.trans (F.many _ _ _ _ q)
  have bt := hb s1 us I1.kIn (by rw [List.append_nil]; exact hl)
  rw [List.append_nil] at bt
  refine wpAny_call (codeAny_mono (F.goes X.A X.stack s1 H1 ⟨us, []⟩ us vs Q E room gd I1.env0 bt rv q) fun r s2 h2 => ?_)
  cases r with
  | error e => exact False.elim h2
  | ok fl =>
    cases fl with
    | ret u => exact I1.after h2
    | next => exact False.elim h2
    | brk => exact False.elim h2
    | cont => exact False.elim h2
/-- repr of data, where none is under way -/
def rRepr (K : PySem.W.Frag) : List V → Hp → VK → Prop := fun xs H Q => ∃ (a : Addr) (d : PyData), xs = [.ref a] ∧ Dp K H (.ref a) d ∧
  d.showable = true ∧ d.hasDict = false ∧ d.depth ≤ 32 ∧ d.shown.length ≤ sizeLine ∧ Q (.str d.shown) H
theorem call_repr (gd : X.A.guards = some []) (hu : X.A.units + 64 < cLine) : CallR X (.builtin "repr") (rRepr X.K) := by
  intro pins s σ H xs us Q I r h
  obtain ⟨a, d, rfl, hd, h1, h2, h3, h4, q⟩ := h
  cases r with
  | cons r1 r2 =>
    cases r2
    cases r1
    obtain ⟨as, rd⟩ := Dp.reads I d (.ref a) (.ref a) hd rfl
    exact repr_of_reads' rd h1 (fun z => by rw [h2] at z; cases z) gd (by omega) (fun _ _ e => e)
      (fun h' u tk hk => ⟨.str d.shown, H, I.kept hk, ⟨u, rfl⟩, q⟩) h4
end
/-! ### the law's own call -/
section
variable {P : Program} {w : World} {K : PySem.W.Frag} {mg mb : Str → Option Value}
theorem law_callG {k : Nat} {fa a : Addr} {fd : FuncData} {x : Str} {sp : Sp} {s : Shared} {vs : List Value} {ns : List Int}
    (inK : K.In s.heap) (ns1 : s.heap.Ns mainGlobals mg) (ns2 : s.heap.Ns builtinsNs mb) (blt : ∀ x : Str, x ≠ "__name__" → mb x = bootBuiltins x)
    (noLim : s.heap.NoLimit) (hg : s.gens = #[]) (ha : s.heap.get? a = some { cls := .type "list", data := .seq vs.toArray })
    (hi : IntsAre vs ns) (hl : ns.length ≤ sizeLine) (hr : Room k callerA)
    (F : ∀ base : Heap, K.In base → base.Ns mainGlobals mg → FnG P w K mg base k fa fd [x] sp)
    (bt : ∀ (s : Shared) (u : Value), BindsTo s fd ⟨[u], []⟩ [(x, u)])
    (hsp : ∀ H : Hp, SqL K H a (ns.map V.int) → sp [.ref a] H (fun v _ => v = .bl true) fun _ _ _ => False) :
    codeAny (model P w) callerA (.call (.ref fa) ⟨[.ref a], []⟩)
      (fun r s' => r = .ok (.ret (.bool true)) ∧ OldK s.heap s'.heap ∧ s'.os = s.os ∧ AllBare s'.gens) s := by
  have rv := vals_ints hi
  have lv := hi.length
  have key : ∀ H : Hp, (∀ b u, H b = some u → b = a ∧ K.lookup a = none ∧ u = .frz { cls := .type "list", data := .seq vs.toArray } (.lst (ns.map V.int))) →
      SqL K H a (ns.map V.int) → codeAny (model P w) callerA (.call (.ref fa) ⟨[.ref a], []⟩)
        (fun r s' => r = .ok (.ret (.bool true)) ∧ OldK s.heap s'.heap ∧ s'.os = s.os ∧ AllBare s'.gens) s := by
    intro H only sq
    have ok : HOk P w H s.heap := by
      intro b u e
      obtain ⟨rfl, _, rfl⟩ := only b u e
      exact ⟨ha, by rw [List.length_map]; exact hl, vs, _, rv, ha⟩
    have plain : ∀ {b : Addr} {o : Obj} {es : Array DictEntry} {n : Nat}, s.heap.get? b = some o → o.data = .dict es n → H b = none := by
      intro b o es n e d
      cases q : H b with
      | none => rfl
      | some u =>
        obtain ⟨rfl, _, _⟩ := only b u q
        rw [ha] at e
        cases e
        exact nomatch d
    have names : ∀ {b : Addr} {m : Str → Option Value}, s.heap.Ns b m → (hidT s.heap H).Ns b m := by
      rintro b m ⟨o, es, n, e, d, r⟩
      exact ⟨o, es, n, hidT_get e (plain e d), d, r⟩
    have inB : K.In (hidT s.heap H) := by
      intro b o e
      refine hidT_get (inK b o e) ?_
      cases q : H b with
      | none => rfl
      | some u =>
        obtain ⟨rfl, n, _⟩ := only b u q
        rw [n] at e
        cases e
    obtain ⟨mc, l1, l2⟩ := noLim
    have md : Mod K mg (hidT s.heap H) := ⟨inB, names ns1, ⟨mb, names ns2, blt⟩, ⟨mc, names l1, l2⟩⟩
    have env : Env0 P w K mg (hidT s.heap H) callerA [] s H :=
      ⟨rfl, md, fun b o e => of_hidT e, Nat.le_of_eq (hidT_size _ _), trivial, (fun b hb => by cases hb), ok, .of_eq hg⟩
    have go := (F _ inB (names ns1)).goes callerA [] s H ⟨[.ref a], []⟩ [.ref a] [.ref a] _ _ hr rfl env (bt s (.ref a)) (.cons rfl .nil) (hsp H sq)
    refine codeAny_mono go fun r s2 h2 => ?_
    cases r with
    | error e => exact False.elim h2
    | ok fl =>
      cases fl with
      | next => exact False.elim h2
      | brk => exact False.elim h2
      | cont => exact False.elim h2
      | ret u =>
        obtain ⟨v, H2, os, bare, un, ok2, rr, q⟩ := h2
        obtain rfl : v = V.bl true := q
        obtain rfl : u = Value.bool true := rr
        refine ⟨rfl, OldK.of_keep fun b o e => ?_, os, bare⟩
        cases q : H b with
        | none => exact un.keep b o e q (by intro z; cases z) (by simp)
        | some u =>
          obtain ⟨rfl, _, rfl⟩ := only b u q
          obtain ⟨e1, _⟩ := ok b _ q
          obtain ⟨e2, _⟩ := ok2 b _ (un.frzs b _ _ q)
          rw [e] at e1
          cases e1
          exact e2
  cases hk : K.lookup a with
  | none =>
    refine key (fun b => if b = a then some (.frz { cls := .type "list", data := .seq vs.toArray } (.lst (ns.map V.int))) else none) (fun b u e => ?_) (.inl (.inr ⟨_, if_pos rfl⟩))
    by_cases z : b = a
    · rw [if_pos z] at e
      cases e
      exact ⟨z, hk, rfl⟩
    · rw [if_neg z] at e
      cases e
  | some o =>
    have e := inK a o hk
    rw [ha] at e
    cases e
    refine key (fun _ => none) (fun b u e => by cases e) (.inr ⟨_, vs.toArray, _, hk, rfl, rfl, rfl, ?_, by simpa using rv⟩)
    rw [List.size_toArray, lv]
    exact hl
end
theorem walk_ofG {l : PySem.W.OpenLaw} {n k : Nat} {q : Program} {loose : List Str} {XP : (Str → Option Value) → Heap → Prop} {YP : World → Heap → Prop}
    {d : DefRec} {K : Params → PySem.W.Frag} {sp : World → Sp} {x : Str} (hn : l.most = some n) (hn2 : n ≤ sizeLine) (hdf : d.params.defaults = [])
    (hr : Room k callerA) (hY : ∀ (w : World) (h : Heap), YP w h → (K w.params).In h)
    (F : ∀ (w : World) (mg : Str → Option Value) (fa : Addr) (h : Heap), (K w.params).In h → h.Ns mainGlobals mg → mg d.name = some (.ref fa) →
      ∃ fd : FuncData, (∀ (s : Shared) (u : Value), BindsTo s fd ⟨[u], []⟩ [(x, u)]) ∧
        ∀ base : Heap, (K w.params).In base → base.Ns mainGlobals mg → FnG l.prog w (K w.params) mg base k fa fd [x] (sp w))
    (hsp : ∀ (w : World) (H : Hp) (a : Addr) (ns : List Int), ns.length ≤ n → SqL (K w.params) H a (ns.map V.int) → sp w [.ref a] H (fun v _ => v = .bl true) fun _ _ _ => False) :
    PySem.W.WalkO q loose XP YP l.row.toRowW d [] (fun f vs => PySem.call f vs) := by
  refine Att.attach_call hn hdf fun w s0 s1 mg mb fa o pm cd doc a vs ns G Y h1 h2 h3 h4 h5 h6 h7 h8 => ?_
  obtain ⟨fd, bt, hF⟩ := F w mg fa _ (hY w _ Y) G.T.g h4
  exact law_callG (hY w _ Y) G.T.g G.T.b G.T.builtins G.T.nolimit h8 h5 h6 (Nat.le_trans h7 hn2) hr hF bt (fun H sq => hsp w H a ns h7 sq)
end Ev
namespace Ev
open PySem L2 PySem.Spec PyProof.Rows
theorem walk_ofGE {l : PySem.W.OpenLaw} {n k : Nat} {q : Program} {loose : List Str} {XP : (Str → Option Value) → Heap → Prop} {YP : World → Heap → Prop}
    {d : DefRec} {x : Str} (hn : l.most = some n) (hn2 : n ≤ sizeLine) (hdf : d.params.defaults = []) (hr : Room k callerA)
    (F : ∀ (w : World) (mg : Str → Option Value) (fa : Addr) (h : Heap), YP w h → h.Ns mainGlobals mg → mg d.name = some (.ref fa) →
      ∃ (K : PySem.W.Frag) (fd : FuncData) (sp : Sp), K.In h ∧ (∀ (s : Shared) (u : Value), BindsTo s fd ⟨[u], []⟩ [(x, u)]) ∧
        (∀ (H : Hp) (a : Addr) (ns : List Int), ns.length ≤ n → SqL K H a (ns.map V.int) → sp [.ref a] H (fun v _ => v = .bl true) fun _ _ _ => False) ∧
        ∀ base : Heap, K.In base → base.Ns mainGlobals mg → FnG l.prog w K mg base k fa fd [x] sp) :
    PySem.W.WalkO q loose XP YP l.row.toRowW d [] (fun f vs => PySem.call f vs) := by
  refine Att.attach_call hn hdf fun w s0 s1 mg mb fa o pm cd doc a vs ns G Y h1 h2 h3 h4 h5 h6 h7 h8 => ?_
  obtain ⟨K, fd, sp, inK, bt, hsp, hF⟩ := F w mg fa _ Y G.T.g h4
  exact law_callG inK G.T.g G.T.b G.T.builtins G.T.nolimit h8 h5 h6 (Nat.le_trans h7 hn2) hr hF bt (fun H sq => hsp H a ns h7 sq)
end Ev
namespace Ev
open PySem L2 PySem.Spec PyProof.Rows
/-- an error of the class C with the field n is told -/
def TellE (C : Addr) (n : Str) (v : V) (H : Hp) (E : XK) : Prop := ∀ (d : Addr) (H' : Hp), Same H H' → H d = none → H' d = some (.xd [(n, v)]) → E (.ref C) (some d) H'
def spErrI (C : Addr) (n : Str) : Sp := fun vs H Q _ => ∃ (a : Addr) (v : V) (T : String), vs = [.ref a, v] ∧ Flat v T ∧ H a = some (exo a C none) ∧
  ∀ (d : Addr) (H' : Hp), H d = none → H' a = some (exo a C (some d)) → H' d = some (exd d [(n, v)]) → (∀ b o, b ≠ a → H b = some o → H' b = some o) → Q .non H'
/-- an error class of the package with one field n -/
structure ErrC (P : Program) (w : World) (K : PySem.W.Frag) (mg : Str → Option Value) (base : Heap) (x n : Str) (C : Addr) : Prop where
  cl : OexC K C
  g : mg x = some (.ref C)
  ex : ∃ (f : Addr) (fd : FuncData), PySem.W.findIn K (.ref C) "__init__" = some (some (.ref f)) ∧ PySem.W.typeIn K (.ref f) = some (.type "function") ∧ FnOk P w K mg base CX0 3 f fd ["self", n] (spErrI C n) ∧ Binds K fd ["self", n] []
inductive Out
  | ok
  | rule (m : Str)
  | halves (w : Int)
def OutK (B N : Addr) (H : Hp) (E : XK) (good : Prop) : Out → Prop
  | .ok => good
  | .rule m => ∀ H1, Same H H1 → TellE B "part" (.str m) H1 E
  | .halves w => ∀ H1, Same H H1 → TellE N "weight" (.int w) H1 E
theorem OutK.mono {B N : Addr} {H H2 : Hp} {E : XK} {g g' : Prop} {o : Out} (h : OutK B N H E g o) (k : Same H H2) (f : g → g') : OutK B N H2 E g' o := by
  cases o with
  | ok => exact f h
  | rule m => exact fun H1 s => h H1 (k.trans s)
  | halves w => exact fun H1 s => h H1 (k.trans s)
def halvesO (p q k : Int) : Out := if p + k < q then .halves 2 else if 2 * q ≤ p + k then .ok else .halves 3
def outH : Option (List V) → V → Out
  | some [.int p, .int q], .int k => halvesO p q k
  | _, _ => .ok
def outP (o : Option (List V)) (k : V) : Out := if timesB o = false then .rule "times" else if inB (-6) 6 k = false then .rule "plus" else .ok
def Out.then : Out → Out → Out
  | .ok, y => y
  | x, _ => x
def outT (o : Option (List V)) (k : V) : Out := (outP o k).then (outH o k)
def outQ (o2 : Option (List V)) (c : V) : Out := if pairB 8 o2 = false then .rule "turn" else if inB (-6) 6 c = false then .rule "turn_plus" else .ok
def outN (o : Option (List V)) (k : V) (o2 : Option (List V)) (c : V) : Out := (outP o k).then ((outQ o2 c).then (outH o k))
def spNeedT (B : Addr) : Sp := fun vs H Q E => ∃ (tv kv : V) (o : Option (List V)) (N : Addr), vs = [tv, kv] ∧ PairQ H tv o ∧ IntQ H kv ∧ OutK B N H E (∀ H', Same H H' → Q .non H') (outP o kv)
def spHalves : Sp := fun vs H Q _ => ∃ (a : Addr) (p q k : Int), vs = [.ref a, .int k] ∧ H a = some (.tup [.int p, .int q]) ∧ Q (.bl (decide (2 * q ≤ p + k))) H
def spNeedH (N : Addr) : Sp := fun vs H Q E => ∃ (a : Addr) (p q k : Int) (B : Addr), vs = [.ref a, .int k] ∧ H a = some (.tup [.int p, .int q]) ∧ OutK B N H E (Q .non H) (halvesO p q k)
def tryV (tv kv : V) : List (Str × V) := [("times", tv), ("plus", kv)]
def turnV (tv kv uv cv : V) : List (Str × V) := [("times", tv), ("plus", kv), ("turn", uv), ("turn_plus", cv)]
def spTryInit (C B N : Addr) : Sp := fun vs H Q E => ∃ (x dx : Addr) (tv kv : V) (o : Option (List V)), vs = [.ref x, tv, kv] ∧ H x = some (.ins C dx []) ∧ PairQ H tv o ∧ IntQ H kv ∧ OutK B N H E (∀ H', But x H H' → H' x = some (.ins C dx (tryV tv kv)) → Q .non H') (outT o kv)
def spTurnInit (C B N : Addr) : Sp := fun vs H Q E => ∃ (x dx : Addr) (tv kv uv cv : V) (o o2 : Option (List V)), vs = [.ref x, tv, kv, uv, cv] ∧ H x = some (.ins C dx []) ∧ PairQ H tv o ∧ IntQ H kv ∧ PairQ H uv o2 ∧ IntQ H cv ∧ OutK B N H E (∀ H', But x H H' → H' x = some (.ins C dx (turnV tv kv uv cv)) → Q .non H') (outN o kv o2 cv)
/-- what the raising of such an error comes to -/
theorem raised {C : Addr} {n : Str} {H : Hp} {v : V} {T : String} {E : XK} (hv : Flat v T) (k : TellE C n v H E) (a' : Addr) (na : H a' = none) :
    spErrI C n [.ref a', v] (upd H a' (exo a' C none)) (fun v' H2 => v' = .non ∧ ∃ (d : Addr) (fs : List (Str × V)), H2 a' = some (exo a' C (some d)) ∧ H2 d = some (exd d fs) ∧ H d = none ∧ E (.ref C) (some d) (upd (del H2 a') d (.xd fs))) (fun _ _ _ => False) := by
  refine ⟨a', v, T, rfl, hv, upd_same, fun d H' nd ha' hd bt => ⟨rfl, d, _, ha', hd, ?_, ?_⟩⟩
  · have dne : d ≠ a' := fun z => by rw [z, upd_same] at nd; cases nd
    rw [upd_ne dne] at nd
    exact nd
  · have dne : d ≠ a' := fun z => by rw [z, upd_same] at nd; cases nd
    rw [upd_ne dne] at nd
    refine k d _ (fun b o e => ?_) nd upd_same
    rw [upd_ne (ne_of_none e nd), del_ne (ne_of_none e na)]
    exact bt b o (ne_of_none e na) (by rw [upd_ne (ne_of_none e na)]; exact e)
section
variable {P : Program} {w : World} {K : PySem.W.Frag} {mg : Str → Option Value} {base : Heap}
theorem scBR : FnScope ["self", "part"] ["self", "part"] (defScope sBRInit) := ⟨rfl, rfl, rfl, by decide +kernel, rfl, by decide +kernel, by decide +kernel⟩
theorem ok_br {f C : Addr} {fd : FuncData} (F : Fun K "__init__" "BadRule.__init__" sBRInit f fd) (T : OexC K C) (no : PySem.W.findIn K (.ref C) "part" = some none) (D : Df P w K mg base 2 "kept" ["value"] spKept) : FnOk P w K mg base CX0 3 f fd ["self", "part"] (spErrI C "part") := by
  obtain ⟨f1, fd1, G1, g1, k1, b1⟩ := D.ex
  refine F.ok scBR (fun vs H Q E h => ?_) (fun cdv A outer s H vs Q E hr h => ?_)
  · obtain ⟨a, v, TT, rfl, _⟩ := h
    rfl
  · obtain ⟨a, v, TT, rfl, fl, ha, kk⟩ := h
    refine ⟨_, pss_one (ps_ost (pv 0) (pe_call G1 hr (by rfl) g1 k1 b1 .nil pass0 (pa_cons (pv 1) pa_nil))), ?_⟩
    refine ⟨_, rfl, v, TT, rfl, fl, fun H1 s1 => ⟨_, rfl, a, C, rfl, T, no, .inl ⟨s1 _ _ ha, fun dx nd dne => ?_⟩⟩⟩
    refine kk dx _ (Same.gone s1 nd) upd_same (by rw [upd_ne dne]; exact upd_same) fun b o nb e => ?_
    rw [upd_ne nb, upd_ne (ne_of_none (s1 _ _ e) nd)]
    exact s1 _ _ e
theorem scNH : FnScope ["self", "weight"] ["self", "weight"] (defScope sNHInit) := ⟨rfl, rfl, rfl, by decide +kernel, rfl, by decide +kernel, by decide +kernel⟩
theorem ok_nh {f C : Addr} {fd : FuncData} (F : Fun K "__init__" "NoHalves.__init__" sNHInit f fd) (T : OexC K C) (no : PySem.W.findIn K (.ref C) "weight" = some none) (D : Df P w K mg base 2 "kept" ["value"] spKept) : FnOk P w K mg base CX0 3 f fd ["self", "weight"] (spErrI C "weight") := by
  obtain ⟨f1, fd1, G1, g1, k1, b1⟩ := D.ex
  refine F.ok scNH (fun vs H Q E h => ?_) (fun cdv A outer s H vs Q E hr h => ?_)
  · obtain ⟨a, v, TT, rfl, _⟩ := h
    rfl
  · obtain ⟨a, v, TT, rfl, fl, ha, kk⟩ := h
    refine ⟨_, pss_one (ps_ost (pv 0) (pe_call G1 hr (by rfl) g1 k1 b1 .nil pass0 (pa_cons (pv 1) pa_nil))), ?_⟩
    refine ⟨_, rfl, v, TT, rfl, fl, fun H1 s1 => ⟨_, rfl, a, C, rfl, T, no, .inl ⟨s1 _ _ ha, fun dx nd dne => ?_⟩⟩⟩
    refine kk dx _ (Same.gone s1 nd) upd_same (by rw [upd_ne dne]; exact upd_same) fun b o nb e => ?_
    rw [upd_ne nb, upd_ne (ne_of_none (s1 _ _ e) nd)]
    exact s1 _ _ e
theorem scHalves : FnScope ["times", "plus", "over", "under"] ["times", "plus"] (defScope sHalves) := ⟨rfl, rfl, rfl, by decide +kernel, rfl, by decide +kernel, by decide +kernel⟩
theorem ok_halves {f : Addr} {fd : FuncData} (F : Fun K "has_halves" "has_halves" sHalves f fd) : FnOk P w K mg base CX0 1 f fd ["times", "plus"] spHalves := by
  refine F.ok scHalves (fun vs H Q E h => ?_) (fun cdv A outer s H vs Q E hr h => ?_)
  · obtain ⟨a, p, q, k, rfl, _⟩ := h
    rfl
  · obtain ⟨a, p, q, k, rfl, ha, kk⟩ := h
    refine ⟨_, pss_cons (ps_asg (pv 0) (pg_tup (by rfl) (pgs_cons (pg_name (i := 2) scHalves.nd rfl (.inl rfl)) (pgs_cons (pg_name (i := 3) scHalves.nd rfl (.inl rfl)) pgs_nil))))
      (pss_one (ps_ret (pe_cmpR op_ge (pe_op op_add (pv 2) (pv 1)) (pe_op op_mul pe_int (pv 3)) (nomark _)))), ?_⟩
    refine ⟨_, rfl, a, _, rfl, SqT.of ha, rfl, _, _, rfl, _, _, rfl, rfl, ?_⟩
    exact ⟨_, rfl, _, rfl, _, _, rfl, rfl, _, rfl, _, _, rfl, rfl, .inl ⟨by decide, by decide⟩, _, _, rfl, rfl, kk⟩
/-- a def that may raise, under its name -/
structure DfX (P : Program) (w : World) (K : PySem.W.Frag) (mg : Str → Option Value) (base : Heap) (k : Nat) (x : Str) (ps : List Str) (sp : Sp) : Prop where
  ex : ∃ (f : Addr) (fd : FuncData), FnOk P w K mg base (L2.CX P w) k f fd ps sp ∧ mg x = some (.ref f) ∧ PySem.W.keepIn K (.ref f) = true ∧ Binds K fd ps []
theorem scNeedT : FnScope ["times", "plus"] ["times", "plus"] (defScope sNeedT) := ⟨rfl, rfl, rfl, by decide +kernel, rfl, by decide +kernel, by decide +kernel⟩
theorem ok_needT {f B : Addr} {fd : FuncData} (F : Fun K "need_times" "need_times" sNeedT f fd) (D1 : Df P w K mg base 4 "is_times" ["value"] spTimesA) (D2 : Df P w K mg base 3 "is_plus" ["value"] spPlusA) (EB : ErrC P w K mg base "BadRule" "part" B) : FnOk P w K mg base (L2.CX P w) 5 f fd ["times", "plus"] (spNeedT B) := by
  obtain ⟨f1, fd1, G1, g1, k1, b1⟩ := D1.ex
  obtain ⟨f2, fd2, G2, g2, k2, b2⟩ := D2.ex
  obtain ⟨TC, gC, fi, fdi, iC, tI, GI, bI⟩ := id EB
  refine F.okX scNeedT (fun vs H Q E h => ?_) (fun cdv A outer s H vs Q E hr h => ?_)
  · obtain ⟨tv, kv, o, N, rfl, _⟩ := h
    rfl
  · obtain ⟨tv, kv, o, N, rfl, hp, hk, h⟩ := h
    refine ⟨_, pss_cons (ps_if (pt_not (pt_val (pe_call G1 hr (by rfl) g1 k1 b1 .nil pass0 (pa_cons (pv 0) pa_nil)))) (pss_one (ps_raise rfl (takes_of rfl rfl rfl rfl) (pmk_oex TC iC tI GI (hr.mono (by decide)) bI .nil pass0 (by rfl) gC (pa_cons pe_str pa_nil)))) pss_nil)
      (pss_one (ps_if (pt_not (pt_val (pe_call G2 (hr.mono (by decide)) (by rfl) g2 k2 b2 .nil pass0 (pa_cons (pv 1) pa_nil)))) (pss_one (ps_raise rfl (takes_of rfl rfl rfl rfl) (pmk_oex TC iC tI GI (hr.mono (by decide)) bI .nil pass0 (by rfl) gC (pa_cons pe_str pa_nil)))) pss_nil)), ?_⟩
    refine ⟨_, rfl, tv, o, rfl, hp, fun H1 s1 => ?_⟩
    unfold outP at h
    cases z : timesB o with
    | false =>
      rw [if_pos z] at h
      exact ⟨false, rfl, iteT ⟨(by show 1 ≤ 1000; decide), fun a' na => raised (flat_str "times") (h H1 s1) a' na⟩⟩
    | true =>
      rw [if_neg (by rw [z]; simp)] at h
      refine ⟨true, rfl, iteF ⟨_, rfl, kv, rfl, hk.keep s1, ?_⟩⟩
      cases z2 : inB (-6) 6 kv with
      | false =>
        rw [if_pos z2] at h
        exact ⟨false, rfl, iteT ⟨(by show 1 ≤ 1000; decide), fun a' na => raised (flat_str "plus") (h H1 s1) a' na⟩⟩
      | true =>
        rw [if_neg (by rw [z2]; simp)] at h
        exact ⟨true, rfl, iteF (h H1 s1)⟩
theorem scNeedH : FnScope ["times", "plus", "over", "under"] ["times", "plus"] (defScope sNeedH) := ⟨rfl, rfl, rfl, by decide +kernel, rfl, by decide +kernel, by decide +kernel⟩
theorem ok_needH {f N : Addr} {fd : FuncData} (F : Fun K "need_halves" "need_halves" sNeedH f fd) (D : Df P w K mg base 1 "has_halves" ["times", "plus"] spHalves) (EN : ErrC P w K mg base "NoHalves" "weight" N) : FnOk P w K mg base (L2.CX P w) 5 f fd ["times", "plus"] (spNeedH N) := by
  obtain ⟨f1, fd1, G1, g1, k1, b1⟩ := D.ex
  obtain ⟨TC, gC, fi, fdi, iC, tI, GI, bI⟩ := id EN
  refine F.okX scNeedH (fun vs H Q E h => ?_) (fun cdv A outer s H vs Q E hr h => ?_)
  · obtain ⟨a, p, q, k, B, rfl, _⟩ := h
    rfl
  · obtain ⟨a, p, q, k, B, rfl, ha, h⟩ := h
    refine ⟨_, pss_cons (ps_asg (pv 0) (pg_tup (by rfl) (pgs_cons (pg_name (i := 2) scNeedH.nd rfl (.inl rfl)) (pgs_cons (pg_name (i := 3) scNeedH.nd rfl (.inl rfl)) pgs_nil))))
      (pss_cons (ps_if (pt_cmpR op_lt (pe_op op_add (pv 2) (pv 1)) (pv 3) (nomark _)) (pss_one (ps_raise rfl (takes_of rfl rfl rfl rfl) (pmk_oex TC iC tI GI hr bI .nil pass0 (by rfl) gC (pa_cons pe_int pa_nil)))) pss_nil)
      (pss_one (ps_if (pt_not (pt_val (pe_call G1 (hr.mono (by decide)) (by rfl) g1 k1 b1 .nil pass0 (pa_cons (pv 0) (pa_cons (pv 1) pa_nil))))) (pss_one (ps_raise rfl (takes_of rfl rfl rfl rfl) (pmk_oex TC iC tI GI hr bI .nil pass0 (by rfl) gC (pa_cons pe_int pa_nil)))) pss_nil))), ?_⟩
    refine ⟨_, rfl, a, _, rfl, SqT.of ha, rfl, _, _, rfl, _, _, rfl, rfl, ?_⟩
    unfold halvesO at h
    refine ⟨_, rfl, _, rfl, _, _, rfl, rfl, _, rfl, _, _, rfl, rfl, _, rfl, ite2 (fun e => ?_) (fun e => ?_)⟩
    · rw [if_pos (of_decide_eq_true e)] at h
      exact ⟨by decide, fun a' na => raised (flat_int 2) (h H (Same.refl H)) a' na⟩
    · rw [if_neg (fun z => e (decide_eq_true z))] at h
      refine ⟨_, rfl, _, rfl, a, p, q, k, rfl, ha, _, rfl, ?_⟩
      by_cases z : 2 * q ≤ p + k
      · rw [if_pos z] at h
        rw [decide_eq_true z]
        exact iteF h
      · rw [if_neg z] at h
        rw [decide_eq_false z]
        exact iteT ⟨by decide, fun a' na => raised (flat_int 3) (h H (Same.refl H)) a' na⟩
end
end Ev
namespace Ev
open PySem L2 PySem.Spec PyProof.Rows
/-! ### repr of a value that holds nothing but scalars -/
def sclr : V → PyData → Bool
  | .non, .none => true
  | .bl a, .bool b => a == b
  | .int a, .int b => decide (a = b)
  | .str a, .str b => a == b
  | _, _ => false
def keyD : Key → PyData
  | .inl i => .int i
  | .inr x => .str x
inductive Vd (K : PySem.W.Frag) (H : Hp) : V → PyData → Prop
  | plain {v : V} {d : PyData} : Dp K H v d → d.hasDict = false → Vd K H v d
  | dct {a : Addr} {kvs : List (Key × V)} {ds : List (PyData × PyData)} : H a = some (.dK kvs) → ds.map (·.1) = kvs.map (fun p => keyD p.1) → Paired (fun v d => sclr v d = true) (kvs.map (·.2)) (ds.map (·.2)) → Vd K H (.ref a) (.dict ds)
theorem reads_sc {h : Heap} {v : V} {d : PyData} {u : Value} (e : sclr v d = true) (r : RelV v u) : Reads h u d [] := by
  cases v <;> cases d <;> first | cases e | skip
  · cases (show u = Value.none from r); exact .none
  · obtain rfl := beq_iff_eq.mp e
    cases (show u = Value.bool _ from r); exact .bool _
  · obtain rfl := of_decide_eq_true e
    obtain ⟨t, q⟩ := (show ∃ t, u = Value.int _ t from r); cases q; exact .int _ _
  · obtain rfl := beq_iff_eq.mp e
    obtain ⟨t, q⟩ := (show ∃ t, u = Value.str _ t from r); cases q; exact .str _ _
theorem reads_scs {h : Heap} : ∀ {vs : List V} {ds : List PyData} {us : List Value}, Paired (fun v d => sclr v d = true) vs ds → Vals vs us → ReadsAll h us ds []
  | _, _, _, .nil, .nil => .nil
  | _, _, _, .cons e t, .cons r q => .cons (as := []) (bs := []) (reads_sc e r) (reads_scs t q)
theorem pair_vals {P : Program} {w : World} : ∀ {es : List DictEntry} {vs : List (Key × Value)}, Pairs (mixKind P w) es vs → es.map (·.val) = vs.map (·.2)
  | _, _, .nil => rfl
  | _, _, .cons h1 h2 t => by
    rw [List.map_cons, List.map_cons, h2, pair_vals t]
theorem reads_keys {P : Program} {w : World} {h : Heap} : ∀ {es : List DictEntry} {kvs : List (Key × V)} {vs : List (Key × Value)}, Pairs (mixKind P w) es vs → KV kvs vs → ReadsAll h (es.map (·.key)) (kvs.map fun p => keyD p.1) []
  | _, _, _, .nil, .nil => .nil
  | _, _, _, .cons h1 h2 t, .cons r q => by
    refine .cons (as := []) (bs := []) ?_ (reads_keys t q)
    dsimp only
    rw [r.1]
    rcases keyIs_shape (show keyIs _ _ = true from h1) with ⟨i, tk, e1, e2⟩ | ⟨x, tk, e1, e2⟩
    · rw [e1, e2]; exact .int _ _
    · rw [e1, e2]; exact .str _ _
theorem vals_snd : ∀ {kvs : List (Key × V)} {vs : List (Key × Value)}, KV kvs vs → Vals (kvs.map (·.2)) (vs.map (·.2))
  | _, _, .nil => .nil
  | _, _, .cons h t => .cons h.2 (vals_snd t)
section
variable {X : Cx}
/-- repr of such a value, where none is under way -/
def rReprV (K : PySem.W.Frag) : List V → Hp → VK → Prop := fun xs H Q => ∃ (v : V) (d : PyData), xs = [v] ∧ Vd K H v d ∧
  d.showable = true ∧ d.depth ≤ 32 ∧ d.shown.length ≤ sizeLine ∧ Q (.str d.shown) H
theorem call_reprV (gd : X.A.guards = some []) (hu : X.A.units + 64 < cLine) : CallR X (.builtin "repr") (rReprV X.K) := by
  intro pins s σ H xs us Q I r h
  obtain ⟨v, d, rfl, hd, h1, h3, h4, q⟩ := h
  obtain ⟨u, rfl, ru⟩ := vals1 r
  have fin : ∀ (h' : Heap) (t : Tok) (tk : Nat), (∀ b o, s.heap.get? b = some o → h'.get? b = some o) → EP X pins σ Q (.str d.shown t) { s with heap := h', toks := tk } := fun h' t tk hk => ⟨.str d.shown, H, I.kept hk, ⟨t, rfl⟩, q⟩
  have byRef : ∀ (a : Addr) (as : List Addr), u = .ref a → Reads s.heap (.ref a) d as → (d.hasDict = true → sysModules ∉ as) → wpAny (model X.prog X.w) X.A (call (.builtin "repr") [u]) (EP X pins σ Q) X.xe s := by
    intro a as eu rd hm
    subst eu
    exact repr_of_reads' rd h1 hm gd (by omega) (fun _ _ e => e) (fun h' t tk hk => fin h' t tk hk) h4
  cases hd with
  | plain dp nd =>
    cases dp with
    | non => cases ru; exact PySem.P.repr_of_none (fin s.heap _ _ fun _ _ e => e)
    | bl b => cases ru; exact PySem.P.repr_of_bool (fin s.heap _ _ fun _ _ e => e)
    | int i => obtain ⟨t, rfl⟩ := ru; exact PySem.P.repr_of_int (of_decide_eq_true h1) (fin s.heap _ _ fun _ _ e => e)
    | str x => obtain ⟨t, rfl⟩ := ru; exact PySem.P.repr_of_str (fin s.heap _ _ fun _ _ e => e) h4
    | lst sq al =>
      cases ru
      obtain ⟨as, rd⟩ := Dp.reads I _ _ _ (.lst sq al) rfl
      exact byRef _ as rfl rd fun z => by rw [nd] at z; cases z
    | tup sq al =>
      cases ru
      obtain ⟨as, rd⟩ := Dp.reads I _ _ _ (.tup sq al) rfl
      exact byRef _ as rfl rd fun z => by rw [nd] at z; cases z
  | @dct a kvs ds e ek ev =>
    cases ru
    obtain ⟨hz, hs0, vs, kv, hdo⟩ := (show ObjOk X.prog X.w H s.heap a (.dK kvs) from I.hok a _ e)
    obtain ⟨ep, ob, es, ho, ex, hdat, hko, hpr, hnd⟩ := hdo.dictAt
    have e1 : ReadsAll s.heap (es.toList.map (·.key)) (ds.map (·.1)) [] := by
      rw [ek]; exact reads_keys hpr kv
    have e2 : ReadsAll s.heap (es.toList.map (·.val)) (ds.map (·.2)) [] := by
      refine reads_scs ev ?_
      have e3 : es.toList.map (·.val) = vs.map (·.2) := pair_vals hpr
      rw [e3]; exact vals_snd kv
    refine byRef a (a :: [] ++ []) rfl (.dict ho ex.1 hdat e1 e2) fun _ z => ?_
    simp at z
    rw [← z] at hs0
    simp at hs0
end
end Ev
namespace Ev
open PySem L2 PySem.Spec PyProof.Rows
/-! An error that was caught stays in a local behind its suite: its object is told of from then on. -/
def Held (cls : Value) (d : Option Addr) (a : Addr) : HO := .ext fun h => ∃ oe : Obj, h.get? a = some oe ∧ Zc cls d oe ∧ ∃ vs : Array Value, oe.data = .fields vs
theorem held_ok {P : Program} {w : World} {H : Hp} {h : Heap} {a : Addr} {cls : Value} {d : Option Addr} {oe : Obj}
    (e : h.get? a = some oe) (z : Zc cls d oe) (f : ∃ vs : Array Value, oe.data = .fields vs) : ObjOk P w H h a (Held cls d a) :=
  ⟨⟨oe, e, z, f⟩, ⟨oe, e⟩, fun _ _ t k => by obtain ⟨o, q, r⟩ := t; exact ⟨o, k _ q, r⟩⟩
section
variable {X : Cx} {pins : List (Addr × Obj)} {σ : L2.St} {H : Hp} {s : Shared} {a : Addr} {cls : Value} {d : Option Addr} {oe : Obj}
theorem inv_hold (I : Inv X pins σ H s) (e : s.heap.get? a = some oe) (z : Zc cls d oe) (f : ∃ vs : Array Value, oe.data = .fields vs) (n : H a = none)
    (n0 : X.s_0.heap.get? a = none) (nL : a ≠ X.env.locals) (np : ∀ p ∈ X.pn ++ pins, p.1 ≠ a) : Inv X pins σ (upd H a (Held cls d a)) s := by
  have other : ∀ {b : Addr} {o : HO}, H b = some o → upd H a (Held cls d a) b = some o := fun {b o} q => by rw [upd_ne (ne_of_none q n)]; exact q
  constructor
  · exact I.ok
  · exact I.os
  · exact I.bare
  · constructor
    · exact I.base.keep
    · exact I.base.slot
    · intro b o q1 q2 q3
      have nb : b ≠ a := fun t => by rw [t, n0] at q1; cases q1
      rw [upd_ne nb]; exact I.base.free b o q1 q2 q3
    · exact I.base.there
    · exact fun b xs q => other (I.base.tups b xs q)
    · exact fun b o u q => other (I.base.frzs b o u q)
    · intro b ps q
      obtain ⟨more, t⟩ := I.base.tbls b ps q
      exact ⟨more, other t⟩
  · exact I.loc
  · exact I.cell
  · rw [upd_ne nL.symm]; exact I.free
  · intro x c q
    have nb : c ≠ a := fun t => by
      obtain ⟨v, o, q1, q2⟩ := I.cell x c q
      obtain ⟨vs, q3⟩ := f
      rw [t, e] at q1; cases q1
      rw [q3] at q2; cases q2
    rw [upd_ne nb]; exact I.freeC x c q
  · intro p hp
    obtain ⟨q1, q2, q3⟩ := I.pin p hp
    exact ⟨q1, by rw [upd_ne (np p hp)]; exact q2, q3⟩
  · intro b o q
    by_cases nb : b = a
    · subst nb
      rw [upd_same] at q
      cases q
      exact held_ok e z f
    · rw [upd_ne nb] at q
      exact (I.hok b o q).stay (fun _ _ _ t => t) (fun _ t => other t) (fun _ _ t => other t)
  · exact I.len
end
/-- what the clause wishes: the suite reads the error in slot i; behind it the error is told of, slot i is empty -/
def wHeld (K : PySem.W.Frag) (c : Value) (i : Nat) (ts : Addr → Value → Option Addr → TS) (Wout : WX) (n : Nat) (D : Ends) : WX := fun cls d σ H => σ.length = n →
  ∃ b, PySem.W.exmOne K cls c = some b ∧ (b = false → Wout cls d σ H) ∧ (b = true → ∀ a, H a = none →
    ts a cls d { nx := fun τ G => G a = none → D.nx (τ.set i none) (upd G a (Held cls d a)), rt := fun v G => D.rt v G, bk := fun τ G => D.bk (τ.set i none) G, ct := fun τ G => D.ct (τ.set i none) G } (σ.set i (some (.ref a))) H)
section
variable {X : Cx} {x n : Str} {c : Value} {i : Nat} {body suite : List Stmt} {b₀ : Stmt} {np pos pos' : Pos} {tb : WX → TS} {ts : Addr → Value → Option Addr → TS} {Wout : WX}
theorem ps_try_held (hs : X.stack = X.env :: X.outer) (hf : X.env.frame = some X.env.locals) (hex : X.ex = []) (hN : X.N.Nodup) (hi : X.N[i]? = some n) (hln : X.env.kindOf n = some .local) (hc : Names X x c) (tk : Takes X Wout)
    (hb : ∀ (W : WX) (pn : List (Addr × Obj)) (xe : Value → Shared → Prop), Takes (X.tr pn xe) W → PSs (X.tr pn xe) body (tb W))
    (hsu : ∀ (a : Addr) (oe : Obj) (cls : Value) (d : Option Addr) (pn : List (Addr × Obj)), Zc cls d oe → (∃ vs, oe.data = .fields vs) → PSs (X.suite a ((a, oe) :: pn)) (b₀ :: suite) (ts a cls d)) :
    PS X (.Try body [.ExceptHandler (some (.Name x np)) (some n) (b₀ :: suite) pos'] [] [] pos) (fun D σ H => tb (wHeld X.K c i ts Wout X.N.length D) D σ H) := by
  constructor
  intro pins s σ H D I h
  have ok := I.ok
  have frames : X.A.frames = some (X.env :: X.outer) := by rw [ok.frames, hs]
  have isLoc : Loc X.env.scope n := .inl hln
  let hands : List ExceptHandler := [.ExceptHandler (some (.Name x np)) (some n) (b₀ :: suite) pos']
  let land : Value → Shared → Prop := fun e s1 => wpAny (model X.prog X.w) X.A (noteFrame e X.env) (fun _ s2 => wpAny (model X.prog X.w) X.A (setFlight e none)
    (fun _ s3 => wpAny (model X.prog X.w) X.A (handleBy e X.env hands) (SP X pins D) X.xe s3) X.xe s2) X.xe s1
  have caught : Takes (X.tr (X.pn ++ pins) land) (wHeld X.K c i ts Wout X.N.length D) := by
    rintro u s' ⟨a, B, sI, pins', σ', H', cls, d, rfl, J', nb, up, sky, na, os, ag, wish⟩
    obtain ⟨b, hb1, hno, hyes⟩ := wish J'.len
    have J : Inv X pins σ' H' sI := J'.ofTry ok
    have sky2 : Sky B (X.env :: X.outer) a (Zc cls d) X.env.locals s'.heap := by rw [← hs]; exact sky
    refine Sky.land Zc.steady frames hf sky2 fun h3 fl3 up3 => ?_
    have J3 : Inv X pins σ' H' { s' with heap := h3 } := J.landed nb fl3.1 (up.trans up3) os ag
    obtain ⟨oe3, vs3, he3, hz3, hd3⟩ := fl3.there
    have nfr : a ∉ frs (X.env :: X.outer) := by
      intro hm
      obtain ⟨_, o2, e2, nf⟩ := fl3.2.2.1.mem hm
      rw [he3] at e2; cases e2
      exact nf _ hd3
    have nfr2 : a ∉ frs X.stack := by rw [hs]; exact nfr
    have nL : a ≠ X.env.locals := fun z => nfr (List.mem_filterMap.mpr ⟨_, List.mem_cons_self, by rw [hf, z]⟩)
    have nF : a ∉ X.fs := by
      intro hm
      obtain ⟨e, he, q⟩ := List.mem_filterMap.mp hm
      exact nfr (List.mem_filterMap.mpr ⟨e, List.mem_cons_of_mem _ he, q⟩)
    have nI : sI.heap.get? a = none := by
      cases q : sI.heap.get? a with
      | none => rfl
      | some o =>
        have z := nb a o q nfr2
        rw [fl3.2.1] at z; cases z
    have n0 : X.s_0.heap.get? a = none := by
      cases q : X.s_0.heap.get? a with
      | none => rfl
      | some o =>
        obtain ⟨o2, z⟩ := J.base.there a o q (by rw [hex]; simp)
        rw [nI] at z; cases z
    have npin : ∀ p ∈ X.pn ++ pins, p.1 ≠ a := fun p hp z => by
      have q := (J.pin p hp).1
      rw [z, nI] at q; cases q
    have S3 := J3.suite he3 hd3 na nL nF
    refine wpAny_handleBy_cons (codeAny_handlers_test ?_) (fun q => nomatch q)
    have LT : PySem.W.Looks (model X.prog X.w) h3 (typeOf (.ref a)) cls := by
      intro A Q E s k q
      exact wpAny_typeOf_ref (k _ _ he3) (by rw [hz3.1]; exact q)
    have LM := PySem.W.exm_one (M := model X.prog X.w) J3.kIn LT hb1
    have named : ∀ {Q E : Value → Shared → Prop}, Q c { s' with heap := h3 } → wpAny (model X.prog X.w) (X.A.mark (some (.ref a))) (eval (.Name x np) X.env) Q E { s' with heap := h3 } := by
      intro Q E q
      obtain ⟨g1, g2, g3⟩ := hc
      rcases g3 with m | ⟨m, v, nn⟩
      · exact ld_glob (X := X.suite a ((a, oe3) :: (X.pn ++ pins))) S3 g1 m q g2
      · exact ld_blt (X := X.suite a ((a, oe3) :: (X.pn ++ pins))) S3 g1 m v q nn g2
    refine named (LM.here ?_)
    cases b with
    | false =>
      refine wpAny_handleBy_nil (e := .ref a) (env := X.env) ?_
      obtain ⟨k1, k2, k3, oe, vs, T, oT, ts', he, hz, hd, h1, hr⟩ := id fl3
      unfold PySem.passOn
      refine wpAny_bind (wpAny_field he hd h1 ?_)
      rw [if_neg (by simp : ¬ ((Value.ref T == Value.none) = true))]
      have on : wpAny (model X.prog X.w) X.A (setFlight (.ref a) X.env.frame) (fun _ s4 => wpAny (model X.prog X.w) X.A (throw (.ref a) : Sem Flow) (SP X pins D) X.xe s4) X.xe { s' with heap := h3 } := by
        rw [hf]
        refine HandSPX.setFlight_upZ fl3 fun h4 hh4 up4 => ?_
        refine wpAny_throw (tk _ _ ⟨a, B, sI, pins, σ', H', cls, d, rfl, J, nb, (up.trans up3).trans up4, ?_, na, os, ag, hno rfl⟩)
        rw [hs]; exact .inr (.inr hh4)
      first
        | exact wpAny_bind (wpAny_pure (wpAny_bind on))
        | exact wpAny_bind on
    | true =>
      refine codeAny_handlers_suite_as (HandSPX.lands_againZ fl3 fun h4 fl4 up4 => ?_)
      have J4 : Inv X pins σ' H' { s' with heap := h4 } := J.landed nb fl4.1 ((up.trans up3).trans up4) os ag
      obtain ⟨oe4, vs4, he4, hz4, hd4⟩ := fl4.there
      refine store_ok (X := X.suite a ((a, oe4) :: (X.pn ++ pins))) (v := .ref a) (J4.suite he4 hd4 na nL nF) hN hi isLoc rfl (fun s5 S5 => ?_) (.inr hln)
      have suite := (hsu a oe4 cls d (X.pn ++ pins) hz4 ⟨_, hd4⟩).run [] s5 _ H' _ S5 (hyes rfl a na)
      refine wpAny_mono suite (fun f s6 hsp => ?_) (fun _ _ z => False.elim z)
      have gone : ∀ {τ : L2.St} {G : Hp} {Q : Shared → Prop}, Inv X pins τ G s6 → (∀ s7, Inv X pins (τ.set i none) G s7 → Q s7) →
          wpAny (model X.prog X.w) X.A (do bindName X.env n .none; unbindBehindTheSuite X.env n pos') (fun _ s7 => Q s7) X.xe s6 := by
        intro τ G Q S6 hq
        exact gone_ok S6 hN hi hln hq
      cases f with
      | next =>
        obtain ⟨τ, G, S6, q6⟩ := hsp
        obtain ⟨p1, p2, _⟩ := S6.pin (a, oe4) (List.mem_append_left _ List.mem_cons_self)
        exact gone (inv_hold (S6.unsuite ok) p1 hz4 ⟨_, hd4⟩ p2 n0 nL npin) fun s7 J7 => ⟨_, _, J7, q6 p2⟩
      | brk =>
        obtain ⟨τ, G, S6, q6⟩ := hsp
        exact gone (S6.unsuite ok) fun s7 J7 => ⟨_, _, J7, q6⟩
      | cont =>
        obtain ⟨τ, G, S6, q6⟩ := hsp
        exact gone (S6.unsuite ok) fun s7 J7 => ⟨_, _, J7, q6⟩
      | ret u =>
        obtain ⟨v, τ, G, S6, r6, q6⟩ := hsp
        exact gone (S6.unsuite ok) fun s7 J7 => ⟨_, _, _, J7, r6, q6⟩
  refine wpAny_Try_except (wpAny_mono ((hb _ (X.pn ++ pins) land caught).run [] s σ H D (I.toTry _) h) (fun f s1 hsp => ?_) (fun e s1 he => he))
  cases f with
  | next =>
    obtain ⟨τ, G, J, q⟩ := hsp
    exact wpAny_execs_nil ⟨τ, G, J.ofTry ok, q⟩
  | brk =>
    obtain ⟨τ, G, J, q⟩ := hsp
    exact ⟨τ, G, J.ofTry ok, q⟩
  | cont =>
    obtain ⟨τ, G, J, q⟩ := hsp
    exact ⟨τ, G, J.ofTry ok, q⟩
  | ret u =>
    obtain ⟨v, τ, G, J, r, q⟩ := hsp
    exact ⟨v, τ, G, J.ofTry ok, r, q⟩
end
/-- what the class of such an error says -/
structure HeldC (K : PySem.W.Frag) (C : Addr) : Prop where
  cl : (PySem.W.clsIn K C).isSome = true
  ga : PySem.W.findIn K (.ref C) "__getattribute__" = some (some (.builtin "BaseException.__getattribute__"))
  gg : PySem.W.findIn K (.ref C) "__getattr__" = some none
  ex : PySem.W.subIn K (.ref C) (.type "BaseException") = some true
  hd : PySem.W.hasDictIn K C = true
  ca : PySem.W.findIn K (.ref C) "__class__" = some (some (.builtin "object.__class__"))
  sp : PySem.W.specialIn K (.builtin "object.__class__") "__get__" = some (some (.builtin "getset_descriptor.__get__"))
  tk : PySem.W.takesIn K (.builtin "object.__class__") = some true
  mo : PySem.W.mroIn K C (.type "object") = some true
section
variable {X : Cx}
theorem held_at {pins : List (Addr × Obj)} {σ : L2.St} {H : Hp} {s : Shared} {a : Addr} {cls : Value} {d : Option Addr} (I : Inv X pins σ H s) (e : H a = some (Held cls d a)) :
    ∃ oe : Obj, s.heap.get? a = some oe ∧ Zc cls d oe ∧ ∃ vs : Array Value, oe.data = .fields vs := by
  have x : ObjOk X.prog X.w H s.heap a (.ext fun h => ∃ oe : Obj, h.get? a = some oe ∧ Zc cls d oe ∧ ∃ vs : Array Value, oe.data = .fields vs) := I.hok a _ e
  exact x.1
theorem held_inst {pins : List (Addr × Obj)} {σ : L2.St} {H : Hp} {s : Shared} {a C dd : Addr} {fs : List (Str × V)} (I : Inv X pins σ H s) (e : H a = some (Held (.ref C) (some dd) a)) (ed : H dd = some (.xd fs)) :
    ∃ (oe od : Obj) (mA : Str → Option Value), PySem.W.InstAt s.heap a oe C (some od) ∧ (∀ f, RelO (fs.lookup f) (mA f)) ∧ ∀ n, PySem.W.lookIn n od = some (mA n) := by
  obtain ⟨oe, he, hz, vs, hd⟩ := held_at I e
  obtain ⟨mA, hns, hr⟩ := (show ObjOk X.prog X.w H s.heap dd (.xd fs) from I.hok dd _ ed)
  obtain ⟨od, ho, hl⟩ := lookIn_ns hns
  exact ⟨oe, od, mA, ⟨he, hz.1, by unfold PySem.W.notCls; rw [hd] <;> rfl, by rw [hz.2]; exact ho⟩, hr, hl⟩
/-- isinstance(e, c), e such an error -/
def rIsHeld (K : PySem.W.Frag) : List V → Hp → VK → Prop := fun xs H Q => ∃ (a C dd : Addr) (fs : List (Str × V)) (c : V) (u : Value) (b : Bool),
  xs = [.ref a, c] ∧ H a = some (Held (.ref C) (some dd) a) ∧ H dd = some (.xd fs) ∧ HeldC K C ∧ ClsV c u ∧ PySem.W.kitOne K (.ref C) u = some b ∧ Q (.bl b) H
theorem call_isHeld : CallR X (.builtin "isinstance") (rIsHeld X.K) := by
  intro pins s σ H xs us Q I r h
  obtain ⟨a, C, dd, fs, c, u, b, rfl, ea, ed, T, k, e, q⟩ := h
  obtain ⟨u1, u2, rfl, r1, r2⟩ := vals2 r
  have e2 := k.eq r2
  subst e2
  cases r1
  obtain ⟨oe, od, mA, J, _, _⟩ := held_inst I ea ed
  exact PySem.W.kia_one (PySem.W.kitx_exc T.cl T.ga T.gg T.ex T.ca T.sp T.tk T.mo) I.kIn J e (fun z => nomatch z) fun tk => ⟨.bl b, H, I.tok tk, rfl, q⟩
/-- e.n, e such an error -/
def tHeldFld (K : PySem.W.Frag) (n : Str) (te : TE) : TE := fun σ H Q => te σ H fun x H1 => ∃ (a C dd : Addr) (fs : List (Str × V)) (v : V),
  x = .ref a ∧ H1 a = some (Held (.ref C) (some dd) a) ∧ H1 dd = some (.xd fs) ∧ HeldC K C ∧ PySem.W.findIn K (.ref C) n = some none ∧ fs.lookup n = some v ∧ Q v H1
theorem pe_heldFld {e : Expr} {te : TE} {pos : Pos} {n : Str} (he : PE X e te) (hb : attributeBase e n X.env (eval e X.env) = eval e X.env := by rfl) : PE X (.Attribute e n pos) (tHeldFld X.K n te) := by
  constructor
  intro pins s σ H Q I h
  refine attr_of hb (thn (he.run pins s σ H _ I h) fun u s1 hh => ?_)
  obtain ⟨x, H1, I1, rx, a, C, dd, fs, v, rfl, ea, ed, T, hno, l, q⟩ := hh
  obtain rfl : u = Value.ref a := rx
  obtain ⟨oe, od, mA, J, hr, hl⟩ := held_inst I1 ea ed
  obtain ⟨u, hu, ru⟩ := RelO.some_of (v := v) (o := mA n) (by rw [← l]; exact hr n)
  exact HandSPX.exc_get I1.kIn J T.ga T.gg T.ex (PySem.W.findObj_own T.hd hno rfl (by rw [hl, hu])) (handed_of ru) ⟨v, H1, I1.tok _, ru, q⟩
end
end Ev
namespace Ev
open PySem L2 PySem.Spec PyProof.Rows LamX
/-! The law's own call, where the law makes lambdas: the table of its code object is told of. -/
section
variable {P : Program} {w : World} {K : PySem.W.Frag} {mg mb : Str → Option Value}
theorem law_callT {k : Nat} {fa a c T : Addr} {fd : FuncData} {x : Str} {sp : Sp} {s : Shared} {vs : List Value} {ns : List Int}
    (inK : K.In s.heap) (ns1 : s.heap.Ns mainGlobals mg) (ns2 : s.heap.Ns builtinsNs mb) (blt : ∀ x : Str, x ≠ "__name__" → mb x = bootBuiltins x)
    (noLim : s.heap.NoLimit) (hg : s.gens = #[]) (hT : s.heap.get? T = some { cls := .none, data := .fields #[] }) (nT : K.lookup T = none) (hc : PySem.W.CodeHd s.heap c T)
    (hbm : ∃ (bm : Addr) (ob : Obj), mg "__builtins__" = some (.ref bm) ∧ bm ≠ builtinsNs ∧ s.heap.get? bm = some ob ∧ ob.cls = .type "module" ∧ ob.dict = some builtinsNs ∧ ob.data = .plain)
    (ha : s.heap.get? a = some { cls := .type "list", data := .seq vs.toArray }) (hi : IntsAre vs ns) (hl : ns.length ≤ sizeLine) (hr : Room k callerA)
    (F : ∀ base : Heap, K.In base → base.Ns mainGlobals mg → TabB base mg c T → FnG P w K mg base k fa fd [x] sp)
    (bt : ∀ (s : Shared) (u : Value), BindsTo s fd ⟨[u], []⟩ [(x, u)])
    (hsp : ∀ H : Hp, H T = some (.tbl #[]) → SqL K H a (ns.map V.int) → sp [.ref a] H (fun v _ => v = .bl true) fun _ _ _ => False) :
    codeAny (model P w) callerA (.call (.ref fa) ⟨[.ref a], []⟩)
      (fun r s' => r = .ok (.ret (.bool true)) ∧ OldK s.heap s'.heap ∧ s'.os = s.os ∧ AllBare s'.gens) s := by
  have rv := vals_ints hi
  have lv := hi.length
  have aT : a ≠ T := fun z => by
    rw [z, hT] at ha
    cases ha
  have key : ∀ H : Hp, H T = some (.tbl #[]) → (∀ b u, H b = some u → b ≠ T → b = a ∧ K.lookup a = none ∧ u = .frz { cls := .type "list", data := .seq vs.toArray } (.lst (ns.map V.int))) →
      SqL K H a (ns.map V.int) → codeAny (model P w) callerA (.call (.ref fa) ⟨[.ref a], []⟩)
        (fun r s' => r = .ok (.ret (.bool true)) ∧ OldK s.heap s'.heap ∧ s'.os = s.os ∧ AllBare s'.gens) s := by
    intro H eT only sq
    have ok : HOk P w H s.heap := by
      intro b u e
      by_cases zb : b = T
      · subst zb
        rw [eT] at e
        cases e
        exact hT
      · obtain ⟨rfl, _, rfl⟩ := only b u e zb
        exact ⟨ha, by rw [List.length_map]; exact hl, vs, _, rv, ha⟩
    have plain : ∀ {b : Addr} {o : Obj}, s.heap.get? b = some o → (∀ vs n, o.data ≠ .seq vs n) → o.data ≠ .fields #[] → H b = none := by
      intro b o e d1 d2
      cases q : H b with
      | none => rfl
      | some u =>
        by_cases zb : b = T
        · subst zb
          rw [hT] at e
          cases e
          exact absurd rfl d2
        · obtain ⟨rfl, _, _⟩ := only b u q zb
          rw [ha] at e
          cases e
          exact absurd rfl (d1 _ _)
    have names : ∀ {b : Addr} {m : Str → Option Value}, s.heap.Ns b m → (hidT s.heap H).Ns b m := by
      rintro b m ⟨o, es, n, e, d, r⟩
      exact ⟨o, es, n, hidT_get e (plain e (fun _ _ z => by rw [d] at z; cases z) fun z => by rw [d] at z; cases z), d, r⟩
    have inB : K.In (hidT s.heap H) := by
      intro b o e
      refine hidT_get (inK b o e) ?_
      cases q : H b with
      | none => rfl
      | some u =>
        by_cases zb : b = T
        · rw [zb, nT] at e
          cases e
        · obtain ⟨rfl, n, _⟩ := only b u q zb
          rw [n] at e
          cases e
    have tb : TabB (hidT s.heap H) mg c T := by
      obtain ⟨bm, ob, b1, b2, b3, b4, b5, b6⟩ := hbm
      refine ⟨?_, ⟨bm, ob, b1, b2, fun q => ?_, fun q => ?_, hidT_get b3 (plain b3 (fun _ _ z => by rw [b6] at z; cases z) fun z => by rw [b6] at z; cases z), b4, b5, b6⟩, fun z => ?_⟩
      · obtain ⟨o, us, file, tf, flags, tg, inF, text, tt, e1, r1, r2, r3, rest⟩ := hc
        refine ⟨o, us, file, tf, flags, tg, inF, text, tt, hidT_get e1 (plain e1 (fun _ _ z => by rw [r2] at z; cases z) fun z => ?_), r1, r2, r3, rest⟩
        rw [r2] at z
        cases z
        simp at r3
      · obtain ⟨o, es, n, e, d, _⟩ := ns1
        rw [q, e] at b3
        cases b3
        rw [d] at b6
        cases b6
      · rw [q, hT] at b3
        cases b3
        cases b6
      · obtain ⟨o, es, n, e, d, _⟩ := ns1
        rw [z, hT] at e
        cases e
        cases d
    obtain ⟨mc, l1, l2⟩ := noLim
    have md : Mod K mg (hidT s.heap H) := ⟨inB, names ns1, ⟨mb, names ns2, blt⟩, ⟨mc, names l1, l2⟩⟩
    have env : Env0 P w K mg (hidT s.heap H) callerA [] s H :=
      ⟨rfl, md, fun b o e => of_hidT e, Nat.le_of_eq (hidT_size _ _), trivial, (fun b hb => by cases hb), ok, .of_eq hg⟩
    have go := (F _ inB (names ns1) tb).goes callerA [] s H ⟨[.ref a], []⟩ [.ref a] [.ref a] _ _ hr rfl env (bt s (.ref a)) (.cons rfl .nil) (hsp H eT sq)
    refine codeAny_mono go fun r s2 h2 => ?_
    cases r with
    | error e => exact False.elim h2
    | ok fl =>
      cases fl with
      | next => exact False.elim h2
      | brk => exact False.elim h2
      | cont => exact False.elim h2
      | ret u =>
        obtain ⟨v, H2, os, bare, un, ok2, rr, q⟩ := h2
        obtain rfl : v = V.bl true := q
        obtain rfl : u = Value.bool true := rr
        have others : ∀ b o, b ≠ T → s.heap.get? b = some o → s2.heap.get? b = some o := by
          intro b o nb e
          cases q : H b with
          | none => exact un.keep b o e q (by intro z; cases z) (by simp)
          | some u =>
            obtain ⟨rfl, _, rfl⟩ := only b u q nb
            obtain ⟨e1, _⟩ := ok b _ q
            obtain ⟨e2, _⟩ := ok2 b _ (un.frzs b _ _ q)
            rw [e] at e1
            cases e1
            exact e2
        obtain ⟨more, eM⟩ := un.tbls T #[] eT
        have grown : s2.heap.get? T = some { cls := .none, data := .fields (#[] ++ more) } := ok2 T _ eM
        refine ⟨rfl, ⟨fun b o e => ?_, fun b o e => ?_⟩, os, bare⟩
        · by_cases nb : b = T
          · subst nb
            rw [hT] at e
            cases e
            exact .inr (.inl ⟨(hc.tab hT).isCodeTable, rfl, #[], more, rfl, grown⟩)
          · exact .inl (others b o nb e)
        · by_cases nb : b = T
          · subst nb
            exact ⟨_, grown⟩
          · exact ⟨o, others b o nb e⟩
  cases hk : K.lookup a with
  | none =>
    refine key (fun b => if b = T then some (.tbl #[]) else if b = a then some (.frz { cls := .type "list", data := .seq vs.toArray } (.lst (ns.map V.int))) else none) (if_pos rfl) (fun b u e nb => ?_)
      (.inl (.inr ⟨_, (if_neg aT).trans (if_pos rfl)⟩))
    rw [if_neg nb] at e
    by_cases z : b = a
    · rw [if_pos z] at e
      cases e
      exact ⟨z, hk, rfl⟩
    · rw [if_neg z] at e
      cases e
  | some o =>
    have e := inK a o hk
    rw [ha] at e
    cases e
    refine key (fun b => if b = T then some (.tbl #[]) else none) (if_pos rfl) (fun b u e nb => by rw [if_neg nb] at e; cases e) (.inr ⟨_, vs.toArray, _, hk, rfl, rfl, rfl, ?_, by simpa using rv⟩)
    rw [List.size_toArray, lv]
    exact hl
end
/-- the law's call, the table of another def's code object told -/
theorem walk_ofGT {l : PySem.W.OpenLaw} {n k : Nat} {q : Program} {loose : List Str} {XP : (Str → Option Value) → Heap → Prop} {YP : World → Heap → Prop}
    {d : DefRec} {x xr : Str} (hn : l.most = some n) (hn2 : n ≤ sizeLine) (hdf : d.params.defaults = []) (hr : Room k callerA) (hrec : ((recsOf q).any fun e => e.name == xr) = true)
    (F : ∀ (w : World) (mg : Str → Option Value) (fa : Addr) (h : Heap), YP w h → h.Ns mainGlobals mg → mg d.name = some (.ref fa) →
      ∃ (K : PySem.W.Frag) (fd fdr : FuncData) (sp : Sp) (fr c T : Addr) (o : Obj), K.In h ∧ (∀ (s : Shared) (u : Value), BindsTo s fd ⟨[u], []⟩ [(x, u)]) ∧
        mg xr = some (.ref fr) ∧ K.lookup fr = some o ∧ o.data = .func fdr ∧ fdr.code = .ref c ∧ PySem.W.codeHdIn K c T = true ∧ K.lookup T = none ∧
        (∀ (H : Hp) (a : Addr) (ns : List Int), ns.length ≤ n → H T = some (.tbl #[]) → SqL K H a (ns.map V.int) → sp [.ref a] H (fun v _ => v = .bl true) fun _ _ _ => False) ∧
        ∀ base : Heap, K.In base → base.Ns mainGlobals mg → TabB base mg c T → FnG l.prog w K mg base k fa fd [x] sp) :
    PySem.W.WalkO q loose XP YP l.row.toRowW d [] (fun f vs => PySem.call f vs) := by
  refine Att.attach_callB hn hdf fun w s0 s1 mg mb fa o pm cd doc a vs ns G Y h1 h2 h3 h4 h5 h6 h7 hbits h8 => ?_
  obtain ⟨K, fd, fdr, sp, fr, c, T, o1, inK, bt, k0, k1, k2, k3, kc, kT, hsp, hF⟩ := F w mg fa _ Y G.T.g h4
  have hc := PySem.W.codeHd_of_K inK kc
  have hT : s1.heap.get? T = some { cls := .none, data := .fields #[] } := by
    obtain ⟨dL, hm, e1⟩ := List.any_eq_true.mp hrec
    obtain ⟨a2, o2, fd2, c2, P2, g1, g2, g3, g4, g5, g6⟩ := G.T.tab dL hm
    rw [beq_iff_eq.mp e1, k0] at g1
    cases g1
    rw [inK _ _ k1] at g2
    cases g2
    rw [k2] at g3
    cases g3
    rw [k3] at g4
    cases g4
    obtain ⟨⟨oc, vc, e1, _, e3, e4⟩, hP⟩ := g6
    obtain ⟨oc', vs', file, tf, flags, tg, inF, text, tt, f1, f2, f3, f4, _⟩ := id hc
    rw [f1] at e1
    cases e1
    rw [f3] at e3
    cases e3
    rw [f4] at e4
    cases e4
    exact hP
  exact law_callT inK G.T.g G.T.b G.T.builtins G.T.nolimit h8 hT kT hc G.T.bmain h5 h6 (Nat.le_trans h7 hn2) hr hF bt (fun H eT sq => hsp H a ns h7 eT sq)
end Ev
namespace Ev
open PySem L2 PySem.Spec PyProof.Rows
theorem lk_hit {k : Str} {v : V} {l : List (Str × V)} : List.lookup k ((k, v) :: l) = some v := by simp [List.lookup]
theorem lk_miss {k k' : Str} {v : V} {l : List (Str × V)} (h : ¬ k = k') : List.lookup k ((k', v) :: l) = List.lookup k l := by
  have : (k == k') = false := by simpa using h
  simp [List.lookup, this]
theorem try_times (t k : V) : (tryV t k).lookup ("times" : Str) = some t := lk_hit
theorem try_plus (t k : V) : (tryV t k).lookup ("plus" : Str) = some k := (lk_miss (by decide +kernel)).trans lk_hit
theorem turn_times (t k u c : V) : (turnV t k u c).lookup ("times" : Str) = some t := lk_hit
theorem turn_plus (t k u c : V) : (turnV t k u c).lookup ("plus" : Str) = some k := (lk_miss (by decide +kernel)).trans lk_hit
theorem turn_turn (t k u c : V) : (turnV t k u c).lookup ("turn" : Str) = some u := (lk_miss (by decide +kernel)).trans ((lk_miss (by decide +kernel)).trans lk_hit)
theorem turn_tp (t k u c : V) : (turnV t k u c).lookup ("turn_plus" : Str) = some c := (lk_miss (by decide +kernel)).trans ((lk_miss (by decide +kernel)).trans ((lk_miss (by decide +kernel)).trans lk_hit))
theorem put_try (t k : V) : putF "plus" k (putF "times" t []) = tryV t k := by
  show (if ("times" : Str) = "plus" then _ else _) = _
  rw [if_neg (by decide +kernel)]
  rfl
theorem put_turn1 (t k u : V) : putF "turn" u (tryV t k) = ([("times", t), ("plus", k), ("turn", u)] : List (Str × V)) := by
  show (if ("times" : Str) = "turn" then _ else _ :: (if ("plus" : Str) = "turn" then _ else _)) = _
  rw [if_neg (by decide +kernel), if_neg (by decide +kernel)]
  rfl
theorem put_turn2 (t k u c : V) : putF "turn_plus" c (putF "turn" u (tryV t k)) = turnV t k u c := by
  rw [put_turn1]
  show (if ("times" : Str) = "turn_plus" then _ else _ :: (if ("plus" : Str) = "turn_plus" then _ else _ :: (if ("turn" : Str) = "turn_plus" then _ else _))) = _
  rw [if_neg (by decide +kernel), if_neg (by decide +kernel), if_neg (by decide +kernel)]
  rfl
/-- a class of rules -/
structure RCls (K : PySem.W.Frag) (C : Addr) : Prop where
  cl : Cls K C
  n1 : NoAttr K C "times"
  n2 : NoAttr K C "plus"
  n3 : NoAttr K C "turn"
  n4 : NoAttr K C "turn_plus"
theorem times_is {o : Option (List V)} (h : timesB o = true) : ∃ p q : Int, o = some [.int p, .int q] ∧ 1 ≤ q ∧ q ≤ p ∧ p ≤ 6 := by
  rcases pair_cases 6 o with ⟨i, j, rfl, h1, h2, e⟩ | e
  · have h : ((inB 1 6 (.int i) && inB 1 6 (.int j)) && decide (j ≤ i)) = true := h
    have e : (inB 1 6 (.int i) && inB 1 6 (.int j)) = true := e
    rw [e, Bool.true_and] at h
    exact ⟨i, j, rfl, h2.1, of_decide_eq_true h, h1.2⟩
  · rw [times_no e] at h
    cases h
/-- numbers that passed the first checks -/
theorem outP_ok {o : Option (List V)} {k : V} (h : outP o k = .ok) : (∃ p q : Int, o = some [.int p, .int q] ∧ 1 ≤ q ∧ q ≤ p ∧ p ≤ 6) ∧ ∃ i, k = .int i ∧ -6 ≤ i ∧ i ≤ 6 := by
  unfold outP at h
  cases z : timesB o with
  | false => rw [if_pos z] at h; cases h
  | true =>
    rw [if_neg (by rw [z]; simp)] at h
    cases z2 : inB (-6) 6 k with
    | false => rw [if_pos z2] at h; cases h
    | true => exact ⟨times_is z, inB_int z2⟩
section
variable {P : Program} {w : World} {K : PySem.W.Frag} {mg : Str → Option Value} {base : Heap}
theorem scTryInit : FnScope ["self", "times", "plus"] ["self", "times", "plus"] (defScope sTryInit) := ⟨rfl, rfl, rfl, by decide +kernel, rfl, by decide +kernel, by decide +kernel⟩
theorem ok_tryInit {f C B N : Addr} {fd : FuncData} {dvs : List V} {kws : List (Str × V)} (F : FunD K "__init__" "TryRule.__init__" (defArgs sTryInit) (defBody sTryInit) (defScope sTryInit) dvs kws f fd) (T : RCls K C) (D1 : DfX P w K mg base 5 "need_times" ["times", "plus"] (spNeedT B))
    (D2 : DfX P w K mg base 5 "need_halves" ["times", "plus"] (spNeedH N)) : FnOk P w K mg base (L2.CX P w) 6 f fd ["self", "times", "plus"] (spTryInit C B N) := by
  obtain ⟨f1, fd1, G1, g1, k1, bb1⟩ := D1.ex
  obtain ⟨f2, fd2, G2, g2, k2, bb2⟩ := D2.ex
  refine F.ok scTryInit (fun vs H Q E h => ?_) (fun cdv A outer s H vs Q E hr h => ?_)
  · obtain ⟨x, dx, tv, kv, o, rfl, _⟩ := h
    rfl
  · obtain ⟨x, dx, tv, kv, o, rfl, hx, hp, hk, h⟩ := h
    refine ⟨_, pss_cons (ps_expr (pe_callS G1 hr (by rfl) g1 k1 bb1 (fun σ => passAt (takes_of rfl rfl rfl rfl) σ) (pa_cons (pv 1) (pa_cons (pv 2) pa_nil))))
      (pss_cons (ps_expr (pe_callS G2 hr (by rfl) g2 k2 bb2 (fun σ => passAt (takes_of rfl rfl rfl rfl) σ) (pa_cons (pv 1) (pa_cons (pv 2) pa_nil))))
      (pss_cons (ps_fld (pv 0) (pv 1) rfl) (pss_one (ps_fld (pv 0) (pv 2) rfl)))), ?_⟩
    refine ⟨_, rfl, _, rfl, tv, kv, o, N, rfl, hp, hk, ?_⟩
    unfold outT at h
    cases z : outP o kv with
    | rule m => rw [z] at h; exact h
    | halves m => rw [z] at h; exact h
    | ok =>
      rw [z] at h
      obtain ⟨⟨p, q, rfl, q1, q2, q3⟩, k, rfl, k1, k2⟩ := outP_ok z
      obtain ⟨a, rfl, ha, _⟩ := hp
      have h : OutK B N H E (∀ H', But x H H' → H' x = some (.ins C dx (tryV (.ref a) (.int k))) → Q .non H') (halvesO p q k) := h
      intro H1 s1
      refine ⟨_, rfl, _, rfl, a, p, q, k, B, rfl, s1 _ _ ha, h.mono s1 fun kk => ?_⟩
      refine ⟨_, rfl, _, rfl, x, C, dx, _, rfl, s1 _ _ hx, T.cl, T.n1, (by show 0 < 1000; decide), _, rfl, _, rfl, x, C, dx, _, rfl, upd_same, T.cl, T.n2, (by show 1 < 1000; decide), ?_⟩
      refine kk _ ((Same.but s1).trans (But.upd_at.trans But.upd_at)) ?_
      rw [upd_same, put_try]
theorem scTurnInit : FnScope ["self", "times", "plus", "turn", "turn_plus"] ["self", "times", "plus", "turn", "turn_plus"] (defScope sTurnInit) := ⟨rfl, rfl, rfl, by decide +kernel, rfl, by decide +kernel, by decide +kernel⟩
theorem ok_turnInit {f C B N : Addr} {fd : FuncData} {dvs : List V} {kws : List (Str × V)} (F : FunD K "__init__" "TurnRule.__init__" (defArgs sTurnInit) (defBody sTurnInit) (defScope sTurnInit) dvs kws f fd) (T : RCls K C) (D1 : DfX P w K mg base 5 "need_times" ["times", "plus"] (spNeedT B))
    (D2 : DfX P w K mg base 5 "need_halves" ["times", "plus"] (spNeedH N)) (D3 : Df P w K mg base 4 "is_turn" ["value"] spTurnA) (D4 : Df P w K mg base 3 "is_plus" ["value"] spPlusA) (EB : ErrC P w K mg base "BadRule" "part" B) : FnOk P w K mg base (L2.CX P w) 6 f fd ["self", "times", "plus", "turn", "turn_plus"] (spTurnInit C B N) := by
  obtain ⟨f1, fd1, G1, g1, k1, bb1⟩ := D1.ex
  obtain ⟨f2, fd2, G2, g2, k2, bb2⟩ := D2.ex
  obtain ⟨f3, fd3, G3, g3, k3, bb3⟩ := D3.ex
  obtain ⟨f4, fd4, G4, g4, k4, bb4⟩ := D4.ex
  obtain ⟨TC, gC, fi, fdi, iC, tI, GI, bI⟩ := id EB
  refine F.ok scTurnInit (fun vs H Q E h => ?_) (fun cdv A outer s H vs Q E hr h => ?_)
  · obtain ⟨x, dx, tv, kv, uv, cv, o, o2, rfl, _⟩ := h
    rfl
  · obtain ⟨x, dx, tv, kv, uv, cv, o, o2, rfl, hx, hp, hk, hu, hc, h⟩ := h
    refine ⟨_, pss_cons (ps_expr (pe_callS G1 hr (by rfl) g1 k1 bb1 (fun σ => passAt (takes_of rfl rfl rfl rfl) σ) (pa_cons (pv 1) (pa_cons (pv 2) pa_nil))))
      (pss_cons (ps_if (pt_not (pt_val (pe_call G3 (hr.mono (by decide)) (by rfl) g3 k3 bb3 .nil pass0 (pa_cons (pv 3) pa_nil)))) (pss_one (ps_raise rfl (takes_of rfl rfl rfl rfl) (pmk_oex TC iC tI GI (hr.mono (by decide)) bI .nil pass0 (by rfl) gC (pa_cons pe_str pa_nil)))) pss_nil)
      (pss_cons (ps_if (pt_not (pt_val (pe_call G4 (hr.mono (by decide)) (by rfl) g4 k4 bb4 .nil pass0 (pa_cons (pv 4) pa_nil)))) (pss_one (ps_raise rfl (takes_of rfl rfl rfl rfl) (pmk_oex TC iC tI GI (hr.mono (by decide)) bI .nil pass0 (by rfl) gC (pa_cons pe_str pa_nil)))) pss_nil)
      (pss_cons (ps_expr (pe_callS G2 hr (by rfl) g2 k2 bb2 (fun σ => passAt (takes_of rfl rfl rfl rfl) σ) (pa_cons (pv 1) (pa_cons (pv 2) pa_nil))))
      (pss_cons (ps_fld (pv 0) (pv 1) rfl) (pss_cons (ps_fld (pv 0) (pv 2) rfl) (pss_cons (ps_fld (pv 0) (pv 3) rfl) (pss_one (ps_fld (pv 0) (pv 4) rfl)))))))), ?_⟩
    refine ⟨_, rfl, _, rfl, tv, kv, o, N, rfl, hp, hk, ?_⟩
    unfold outN at h
    cases z : outP o kv with
    | rule m => rw [z] at h; exact h
    | halves m => rw [z] at h; exact h
    | ok =>
      rw [z] at h
      obtain ⟨⟨p, q, rfl, q1, q2, q3⟩, k, rfl, k1, k2⟩ := outP_ok z
      obtain ⟨a, rfl, ha, _⟩ := hp
      have h : OutK B N H E (∀ H', But x H H' → H' x = some (.ins C dx (turnV (.ref a) (.int k) uv cv)) → Q .non H') ((outQ o2 cv).then (halvesO p q k)) := h
      intro H1 s1
      unfold outQ at h
      refine ⟨_, rfl, uv, o2, rfl, hu.keep s1, fun H2 s2 => ?_⟩
      have s2 := s1.trans s2
      cases z : pairB 8 o2 with
      | false =>
        rw [if_pos z] at h
        exact ⟨false, rfl, iteT ⟨(by show 1 ≤ 1000; decide), fun a' na => raised (flat_str "turn") (h H2 s2) a' na⟩⟩
      | true =>
        rw [if_neg (by rw [z]; simp)] at h
        refine ⟨true, rfl, iteF ⟨_, rfl, cv, rfl, hc.keep s2, ?_⟩⟩
        cases z2 : inB (-6) 6 cv with
        | false =>
          rw [if_pos z2] at h
          exact ⟨false, rfl, iteT ⟨(by show 1 ≤ 1000; decide), fun a' na => raised (flat_str "turn_plus") (h H2 s2) a' na⟩⟩
        | true =>
          rw [if_neg (by rw [z2]; simp)] at h
          have h : OutK B N H E (∀ H', But x H H' → H' x = some (.ins C dx (turnV (.ref a) (.int k) uv cv)) → Q .non H') (halvesO p q k) := h
          refine ⟨true, rfl, iteF ?_⟩
          refine ⟨_, rfl, _, rfl, a, p, q, k, B, rfl, s2 _ _ ha, h.mono s2 fun kk => ?_⟩
          refine ⟨_, rfl, _, rfl, x, C, dx, _, rfl, s2 _ _ hx, T.cl, T.n1, (by show 0 < 1000; decide), _, rfl, _, rfl, x, C, dx, _, rfl, upd_same, T.cl, T.n2, (by show 1 < 1000; decide), ?_⟩
          refine ⟨_, rfl, _, rfl, x, C, dx, _, rfl, upd_same, T.cl, T.n3, (by rw [put_try]; show 2 < 1000; decide), _, rfl, _, rfl, x, C, dx, _, rfl, upd_same, T.cl, T.n4, (by rw [put_try, put_turn1]; show 3 < 1000; decide), ?_⟩
          refine kk _ ((Same.but s2).trans (But.upd_at.trans (But.upd_at.trans (But.upd_at.trans But.upd_at)))) ?_
          rw [upd_same, put_try, put_turn2]
end
end Ev
namespace Ev
open PySem L2 PySem.Spec PyProof.Rows
theorem Pen.new {L : Addr} {H : Hp} {p q : Addr} {B : Int} {o : HO} (h : Pen L H p B) (n : H q = none) : Pen L (upd H q o) p B := h.keep (fun b u e => by rw [upd_ne (ne_of_none e n)]; exact e)
theorem Pen.some {L : Addr} {H : Hp} {p : Addr} {B : Int} (h : Pen L H p B) : ∃ xs, H p = some (.lst xs) := by
  obtain ⟨ns, t, c, h1, _⟩ := h
  exact ⟨_, h1⟩
theorem Pen.ne {L : Addr} {H : Hp} {p q : Addr} {B : Int} (h : Pen L H p B) (n : H q = none) : q ≠ p := by
  obtain ⟨xs, e⟩ := h.some
  exact (ne_of_none e n).symm
theorem But.free {L p a : Addr} {H H' : Hp} {B : Int} (t : But p H H') (h : Pen L H' p B) (n : H' a = none) : H a = none := by
  cases e : H a with
  | none => rfl
  | some o =>
    have := t a o (h.ne n) e
    rw [n] at this
    cases this
def spPick : Sp := fun vs H Q _ => ∃ (p l L : Addr) (xs : List V) (B : Int), vs = [.ref p, .ref l] ∧ H l = some (.lst xs) ∧ l ≠ p ∧ 1 ≤ xs.length ∧ xs.length ≤ 1000 ∧ B ≤ 1000000 ∧ Pen L H p B ∧
  ∀ (d : V) (H' : Hp), d ∈ xs → But p H H' → Pen L H' p (B + 1) → Q d H'
inductive Row
  | tr (p q k : Int)
  | tn (p q k t s c : Int)
def Row.vs : Row → List V
  | .tr p q k => [.int p, .int q, .int k]
  | .tn p q k t s c => [.int p, .int q, .int k, .int t, .int s, .int c]
def Row.p : Row → Int
  | .tr p _ _ => p
  | .tn p _ _ _ _ _ => p
def Row.q : Row → Int
  | .tr _ q _ => q
  | .tn _ q _ _ _ _ => q
def Row.k : Row → Int
  | .tr _ _ k => k
  | .tn _ _ k _ _ _ => k
def okN (p q k : Int) : Prop := 1 ≤ q ∧ q ≤ p ∧ p ≤ 6 ∧ -6 ≤ k ∧ k ≤ 6 ∧ 2 * q ≤ p + k
def okT (t s c : Int) : Prop := (1 ≤ t ∧ t ≤ 8) ∧ (1 ≤ s ∧ s ≤ 8) ∧ -6 ≤ c ∧ c ≤ 6
def Row.ok : Row → Prop
  | .tr p q k => okN p q k
  | .tn p q k t s c => okN p q k ∧ okT t s c
def spNums : Sp := fun vs H Q _ => ∃ (p L : Addr) (B : Int), vs = [.ref p] ∧ B ≤ 900000 ∧ Pen L H p B ∧
  ∀ (a : Addr) (p' q k t s c : Int) (H' : Hp), okN p' q k → okT t s c → H a = none → H' a = some (.tup (Row.tn p' q k t s c).vs) → But p H H' → Pen L H' p (B + 8) → Q (.ref a) H'
section
variable {P : Program} {w : World} {K : PySem.W.Frag} {mg : Str → Option Value} {base : Heap}
theorem scPick : FnScope ["_law_pen_here", "_law_some"] ["_law_pen_here", "_law_some"] (defScope sPick) := ⟨rfl, rfl, rfl, by decide +kernel, rfl, by decide +kernel, by decide +kernel⟩
theorem ok_pick {f : Addr} {fd : FuncData} (F : Fun K "_law_pick" "_law_pick" sPick f fd) (T : Blt mg) (D : Df P w K mg base 1 "_law_draw" ["_law_pen_here", "_law_many"] spDraw) : FnOk P w K mg base CX0 2 f fd ["_law_pen_here", "_law_some"] spPick := by
  obtain ⟨f1, fd1, G1, g1, k1, b1⟩ := D.ex
  refine F.ok scPick (fun vs H Q E h => ?_) (fun cdv A outer s H vs Q E hr h => ?_)
  · obtain ⟨p, l, L, xs, B, rfl, _⟩ := h
    rfl
  · obtain ⟨p, l, L, xs, B, rfl, hl, hne, x1, x2, hB, hp, kk⟩ := h
    refine ⟨_, pss_one (ps_ret (pe_ix ix_list (pv 1) (pe_call G1 hr (by rfl) g1 k1 b1 .nil pass0 (pa_cons (pv 0) (pa_cons (pe_callB call_len_seq (by rfl) T.len PySem.boot_len (pa_cons (pv 1) pa_nil)) pa_nil))) (fun _ _ => rfl))), ?_⟩
    refine ⟨_, rfl, _, rfl, _, rfl, l, _, rfl, .inl (SqL.of hl), p, L, _, B, rfl, by omega, by omega, hB, hp, fun d H1 bt pn d0 d1 => ?_⟩
    obtain ⟨j, rfl⟩ := Int.eq_ofNat_of_zero_le d0
    have hj : j < xs.length := by omega
    refine ⟨l, xs, _, xs[j], rfl, rfl, SqL.of (bt _ _ hne hl), atI_nat (List.getElem?_eq_getElem hj), ?_⟩
    exact kk _ _ (List.getElem_mem hj) bt pn
theorem scNums : FnScope ["_law_pen_here", "_law_q", "_law_p", "_law_k", "_law_s", "_law_t"] ["_law_pen_here"] (defScope sNums) := ⟨rfl, rfl, rfl, by decide +kernel, rfl, by decide +kernel, by decide +kernel⟩
theorem min2 {i j : Int} : (if j < i then j else i) = min i j := by
  by_cases h : j < i
  · rw [if_pos h]; omega
  · rw [if_neg h]; omega
theorem ok_nums {f : Addr} {fd : FuncData} (F : Fun K "_law_numbers" "_law_numbers" sNums f fd) (T : Blt mg) (D1 : Df P w K mg base 1 "_law_draw" ["_law_pen_here", "_law_many"] spDraw) (D2 : Df P w K mg base 2 "_law_pick" ["_law_pen_here", "_law_some"] spPick) :
    FnOk P w K mg base CX0 3 f fd ["_law_pen_here"] spNums := by
  obtain ⟨f1, fd1, G1, g1, k1, b1⟩ := D1.ex
  obtain ⟨f2, fd2, G2, g2, k2, b2⟩ := D2.ex
  refine F.ok scNums (fun vs H Q E h => ?_) (fun cdv A outer s H vs Q E hr h => ?_)
  · obtain ⟨p, L, B, rfl, _⟩ := h
    rfl
  · obtain ⟨p, L, B, rfl, hB, hp, kk⟩ := h
    have hr1 : Room 1 _ := hr.mono (by decide)
    refine ⟨_, pss_cons (ps_set (i := 1) scNums.nd rfl (.inl rfl) (pe_op op_add pe_int (pe_call G1 hr1 (by rfl) g1 k1 b1 .nil pass0 (pa_cons (pv 0) (pa_cons pe_int pa_nil)))))
      (pss_cons (ps_set (i := 2) scNums.nd rfl (.inl rfl) (pe_callB (call_min2 rfl) (by rfl) T.min (by decide +kernel) (pa_cons pe_int (pa_cons (pe_op op_add (pv 1) (pe_call G1 hr1 (by rfl) g1 k1 b1 .nil pass0 (pa_cons (pv 0) (pa_cons (pe_op op_add pe_int (pe_op op_mul pe_int (pv 1))) pa_nil)))) pa_nil))))
      (pss_cons (ps_set (i := 3) scNums.nd rfl (.inl rfl) (pe_call G2 hr (by rfl) g2 k2 b2 .nil pass0 (pa_cons (pv 0) (pa_cons (pe_lst (pa_cons pe_int (pa_cons pe_int (pa_cons pe_int (pa_cons (pe_op op_sub (pe_call G1 hr1 (by rfl) g1 k1 b1 .nil pass0 (pa_cons (pv 0) (pa_cons pe_int pa_nil))) pe_int) (pa_cons pe_int (pa_cons (pe_un un_neg pe_int) pa_nil))))))) pa_nil))))
      (pss_cons (ps_if (pt_cmpR op_lt (pe_op op_add (pv 2) (pv 3)) (pe_op op_mul pe_int (pv 1)) (nomark _)) (pss_one (ps_set (i := 3) scNums.nd rfl (.inl rfl) (pe_op op_sub (pe_op op_mul pe_int (pv 1)) (pv 2)))) pss_nil)
      (pss_cons (ps_set (i := 4) scNums.nd rfl (.inl rfl) (pe_op op_add pe_int (pe_call G1 hr1 (by rfl) g1 k1 b1 .nil pass0 (pa_cons (pv 0) (pa_cons pe_int pa_nil)))))
      (pss_cons (ps_set (i := 5) scNums.nd rfl (.inl rfl) (pe_callB (call_min2 rfl) (by rfl) T.min (by decide +kernel) (pa_cons pe_int (pa_cons (pe_op op_add (pv 4) (pe_call G1 hr1 (by rfl) g1 k1 b1 .nil pass0 (pa_cons (pv 0) (pa_cons (pe_op op_add (pe_op op_mul pe_int (pv 4)) pe_int) pa_nil)))) pa_nil))))
      (pss_one (ps_ret (pe_tup (pa_cons (pv 2) (pa_cons (pv 1) (pa_cons (pe_callB (call_min2 rfl) (by rfl) T.min (by decide +kernel) (pa_cons pe_int (pa_cons (pv 3) pa_nil))) (pa_cons (pv 5) (pa_cons (pv 4)
        (pa_cons (pe_call G2 hr (by rfl) g2 k2 b2 .nil pass0 (pa_cons (pv 0) (pa_cons (pe_lst (pa_cons pe_int (pa_cons (pe_un un_neg pe_int) (pa_cons (pe_un un_neg (pv 4)) (pa_cons (pe_op op_sub (pe_call G1 hr1 (by rfl) g1 k1 b1 .nil pass0 (pa_cons (pv 0) (pa_cons pe_int pa_nil))) pe_int) pa_nil))))) pa_nil))) pa_nil)))))))))))))), ?_⟩
    -- q, p
    refine ⟨_, rfl, p, L, _, B, rfl, by decide, by decide, by omega, hp, fun d1 H1 t1 p1 a1 c1 => ⟨_, _, rfl, rfl, ?_⟩⟩
    refine ⟨_, rfl, _, rfl, _, rfl, _, _, rfl, rfl, .inl ⟨by decide, by decide⟩, _, _, rfl, rfl, p, L, _, _, rfl, by omega, by omega, by omega, p1, fun d2 H2 t2 p2 a2 c2 => ⟨_, _, rfl, rfl, _, _, rfl, ?_⟩⟩
    rw [min2]
    -- k
    refine ⟨_, rfl, _, rfl, p, L, _, _, rfl, by decide, by decide, by omega, p2, fun d3 H3 t3 p3 a3 c3 => ⟨_, _, rfl, rfl, _, rfl, (by show 6 ≤ sizeLine; decide), fun l hl => ⟨p, l, L, _, _, rfl, upd_same, p3.ne hl, (by show 1 ≤ 6; decide), (by show 6 ≤ 1000; decide), by omega, p3.new hl, fun d4 H4 m4 t4 p4 => ?_⟩⟩⟩
    obtain ⟨k0, rfl, k0lo, k0hi⟩ : ∃ k0 : Int, d4 = .int k0 ∧ -6 ≤ k0 ∧ k0 ≤ 6 := by
      simp only [List.mem_cons, List.not_mem_nil, or_false] at m4
      rcases m4 with e | e | e | e | e | e
      · exact ⟨_, e, by decide, by decide⟩
      · exact ⟨_, e, by decide, by decide⟩
      · exact ⟨_, e, by decide, by decide⟩
      · exact ⟨_, e, by omega, by omega⟩
      · exact ⟨_, e, by decide, by decide⟩
      · exact ⟨_, e, by decide, by decide⟩
    have t04 : But p H H4 := ((t1.trans t2).trans t3).trans ((Same.but (same_new hl)).trans t4)
    refine ⟨_, rfl, _, rfl, _, _, rfl, rfl, _, rfl, _, _, rfl, rfl, .inl ⟨by decide, by decide⟩, _, _, rfl, rfl, _, rfl, ite2 (fun e => ?_) (fun e => ?_)⟩
    · have e := of_decide_eq_true e
      refine ⟨_, rfl, _, _, rfl, rfl, .inl ⟨by decide, by decide⟩, _, rfl, _, _, rfl, rfl, ?_⟩
      refine ⟨_, rfl, p, L, _, _, rfl, by decide, by decide, by omega, p4, fun d5 H5 t5 p5 a5 c5 => ⟨_, _, rfl, rfl, ?_⟩⟩
      refine ⟨_, rfl, _, rfl, _, rfl, _, _, rfl, rfl, .inl ⟨by decide, by decide⟩, _, _, rfl, rfl, p, L, _, _, rfl, by omega, by omega, by omega, p5, fun d6 H6 t6 p6 a6 c6 => ⟨_, _, rfl, rfl, _, _, rfl, ?_⟩⟩
      refine ⟨_, rfl, _, rfl, _, rfl, _, _, rfl, _, rfl, _, rfl, _, rfl, _, rfl, _, rfl, _, rfl, _, rfl, p, L, _, _, rfl, by decide, by decide, by omega, p6, fun d7 H7 t7 p7 a7 c7 => ⟨_, _, rfl, rfl, (by show 4 ≤ sizeLine; decide), fun l2 hl2 => ⟨p, l2, L, _, _, rfl, upd_same, p7.ne hl2, (by show 1 ≤ 4; decide), (by show 4 ≤ 1000; decide), by omega, p7.new hl2, fun d8 H8 m8 t8 p8 => ⟨(by show 6 ≤ sizeLine; decide), fun a na => ?_⟩⟩⟩⟩
      obtain ⟨c0, rfl, c0lo, c0hi⟩ : ∃ c0 : Int, d8 = .int c0 ∧ -6 ≤ c0 ∧ c0 ≤ 6 := by
        simp only [List.mem_cons, List.not_mem_nil, or_false] at m8
        rcases m8 with e | e | e | e
        · exact ⟨_, e, by decide, by decide⟩
        · exact ⟨_, e, by decide, by decide⟩
        · exact ⟨_, e, by omega, by omega⟩
        · exact ⟨_, e, by omega, by omega⟩
      have t08 : But p H H8 := t04.trans (((t5.trans t6).trans t7).trans ((Same.but (same_new hl2)).trans t8))
      refine kk a _ _ _ _ _ _ _ ?_ ?_ (t08.free p8 na) upd_same (t08.trans (Same.but (same_new na))) ((p8.new na).mono (by omega))
      · rw [min2]
        exact ⟨by omega, by omega, by omega, by omega, by omega, by omega⟩
      · rw [min2]
        exact ⟨⟨by omega, by omega⟩, ⟨by omega, by omega⟩, by omega, by omega⟩
    · have e : ¬ (min 6 (1 + d1 + d2) + k0 < 2 * (1 + d1)) := fun z => e (decide_eq_true z)
      refine ⟨_, rfl, p, L, _, _, rfl, by decide, by decide, by omega, p4, fun d5 H5 t5 p5 a5 c5 => ⟨_, _, rfl, rfl, ?_⟩⟩
      refine ⟨_, rfl, _, rfl, _, rfl, _, _, rfl, rfl, .inl ⟨by decide, by decide⟩, _, _, rfl, rfl, p, L, _, _, rfl, by omega, by omega, by omega, p5, fun d6 H6 t6 p6 a6 c6 => ⟨_, _, rfl, rfl, _, _, rfl, ?_⟩⟩
      refine ⟨_, rfl, _, rfl, _, rfl, _, _, rfl, _, rfl, _, rfl, _, rfl, _, rfl, _, rfl, _, rfl, _, rfl, p, L, _, _, rfl, by decide, by decide, by omega, p6, fun d7 H7 t7 p7 a7 c7 => ⟨_, _, rfl, rfl, (by show 4 ≤ sizeLine; decide), fun l2 hl2 => ⟨p, l2, L, _, _, rfl, upd_same, p7.ne hl2, (by show 1 ≤ 4; decide), (by show 4 ≤ 1000; decide), by omega, p7.new hl2, fun d8 H8 m8 t8 p8 => ⟨(by show 6 ≤ sizeLine; decide), fun a na => ?_⟩⟩⟩⟩
      obtain ⟨c0, rfl, c0lo, c0hi⟩ : ∃ c0 : Int, d8 = .int c0 ∧ -6 ≤ c0 ∧ c0 ≤ 6 := by
        simp only [List.mem_cons, List.not_mem_nil, or_false] at m8
        rcases m8 with e | e | e | e
        · exact ⟨_, e, by decide, by decide⟩
        · exact ⟨_, e, by decide, by decide⟩
        · exact ⟨_, e, by omega, by omega⟩
        · exact ⟨_, e, by omega, by omega⟩
      have t08 : But p H H8 := t04.trans (((t5.trans t6).trans t7).trans ((Same.but (same_new hl2)).trans t8))
      refine kk a _ _ _ _ _ _ _ ?_ ?_ (t08.free p8 na) upd_same (t08.trans (Same.but (same_new na))) ((p8.new na).mono (by omega))
      · rw [min2]
        exact ⟨by omega, by omega, by omega, by omega, by omega, by omega⟩
      · rw [min2]
        exact ⟨⟨by omega, by omega⟩, ⟨by omega, by omega⟩, by omega, by omega⟩
end
end Ev
namespace Ev
open PySem L2 PySem.Spec PyProof.Rows
def ObjAt (Ct Cn : Addr) (H : Hp) (r : Addr) : Row → Prop
  | .tr p q k => ∃ dx a : Addr, H r = some (.ins Ct dx (tryV (.ref a) (.int k))) ∧ H a = some (.tup [.int p, .int q])
  | .tn p q k t s c => ∃ dx a b : Addr, H r = some (.ins Cn dx (turnV (.ref a) (.int k) (.ref b) (.int c))) ∧ H a = some (.tup [.int p, .int q]) ∧ H b = some (.tup [.int t, .int s])
theorem ObjAt.keep {Ct Cn : Addr} {H H' : Hp} {r : Addr} {row : Row} (h : ObjAt Ct Cn H r row) (k : Same H H') : ObjAt Ct Cn H' r row := by
  cases row with
  | tr p q kk =>
    obtain ⟨dx, a, h1, h2⟩ := h
    exact ⟨dx, a, k _ _ h1, k _ _ h2⟩
  | tn p q kk t s c =>
    obtain ⟨dx, a, b, h1, h2, h3⟩ := h
    exact ⟨dx, a, b, k _ _ h1, k _ _ h2, k _ _ h3⟩
theorem ObjAt.but {Ct Cn p : Addr} {H H' : Hp} {r : Addr} {row : Row} {xs : List V} (h : ObjAt Ct Cn H r row) (hp : H p = some (.lst xs)) (k : But p H H') : ObjAt Ct Cn H' r row := by
  cases row with
  | tr p q kk =>
    obtain ⟨dx, a, h1, h2⟩ := h
    exact ⟨dx, a, k _ _ (ne_of h1 hp (by intro z; cases z)) h1, k _ _ (ne_of h2 hp (by intro z; cases z)) h2⟩
  | tn p q kk t s c =>
    obtain ⟨dx, a, b, h1, h2, h3⟩ := h
    exact ⟨dx, a, b, k _ _ (ne_of h1 hp (by intro z; cases z)) h1, k _ _ (ne_of h2 hp (by intro z; cases z)) h2, k _ _ (ne_of h3 hp (by intro z; cases z)) h3⟩
def Row.out : Row → Out
  | .tr p q k => outT (some [.int p, .int q]) (.int k)
  | .tn p q k t s c => outN (some [.int p, .int q]) (.int k) (some [.int t, .int s]) (.int c)
def spRule (Ct Cn B N : Addr) : Sp := fun vs H Q E => ∃ (l : Addr) (row : Row), vs = [.ref l] ∧ H l = some (.tup row.vs) ∧ OutK B N H E (∀ (r : Addr) (H' : Hp), Same H H' → ObjAt Ct Cn H' r row → Q (.ref r) H') row.out
theorem pairQ_int {H : Hp} {a : Addr} {i j : Int} (h : H a = some (.tup [.int i, .int j])) : PairQ H (.ref a) (some [.int i, .int j]) := ⟨a, rfl, h, (by show 2 ≤ 1000; decide), fun x m => by
  simp only [List.mem_cons, List.not_mem_nil, or_false] at m
  rcases m with rfl | rfl <;> exact .inl ⟨_, rfl⟩⟩
theorem OutK.imp {B N : Addr} {H : Hp} {E : XK} {g g' : Prop} {o : Out} (h : OutK B N H E g o) (f : g → g') : OutK B N H E g' o := h.mono (Same.refl H) f
theorem slice3 {K : PySem.W.Frag} {l : Addr} {row : Row} {H : Hp} {Q : VK} (h : H l = some (.tup row.vs)) (k : ∀ (a : Addr) (H' : Hp), Same H H' → H' a = some (.tup [.int row.p, .int row.q, .int row.k]) → Q (.ref a) H') :
    rSlA K (.ref l) none (some 3) H Q := by
  refine ⟨l, _, rfl, SqT.of h, fun z => ?_, fun z a na => ?_⟩
  · cases row with
    | tr p q kk => exact k l H (Same.refl H) h
    | tn p q kk t s c => exact absurd z.2 (by show ¬ (HT.sIx 6 6 (some 3) = 6); decide)
  · cases row with
    | tr p q kk => exact absurd (show HT.sIx 3 0 none = 0 ∧ HT.sIx 3 3 (some 3) = 3 by decide) z
    | tn p q kk t s c => exact k a _ (same_new na) upd_same

section
variable {P : Program} {w : World} {K : PySem.W.Frag} {mg : Str → Option Value} {base : Heap}
theorem scRule : FnScope ["_law_some", "_law_p", "_law_q", "_law_k"] ["_law_some"] (defScope sRule) := ⟨rfl, rfl, rfl, by decide +kernel, rfl, by decide +kernel, by decide +kernel⟩
theorem ok_rule {f Ct Cn B N fT fN : Addr} {fd fdT fdN : FuncData} {g : List Value → List Value → List Value} (F : Fun K "_law_rule" "_law_rule" sRule f fd) (T : Blt mg) (gT : mg "TryRule" = some (.ref Ct)) (gN : mg "TurnRule" = some (.ref Cn)) (MT : Mk K Ct fT) (MN : Mk K Cn fN)
    (GT : FnOk P w K mg base (L2.CX P w) 6 fT fdT ["self", "times", "plus"] (spTryInit Ct B N)) (bT : Binds K fdT ["self", "times", "plus"] [])
    (GN : FnOk P w K mg base (L2.CX P w) 6 fN fdN ["self", "times", "plus", "turn", "turn_plus"] (spTurnInit Cn B N)) (bN : KBn K fdN ["self", "times", "plus", "turn", "turn_plus"] 3 ["turn", "turn_plus"] g (fun vs zs => vs ++ zs)) :
    FnOk P w K mg base (L2.CX P w) 8 f fd ["_law_some"] (spRule Ct Cn B N) := by
  refine F.okX scRule (fun vs H Q E h => ?_) (fun cdv A outer s H vs Q E hr h => ?_)
  · obtain ⟨l, row, rfl, _⟩ := h
    rfl
  · obtain ⟨l, row, rfl, hl, kk⟩ := h
    refine ⟨_, pss_cons (ps_asg (pe_slice sl_tupA (pv 0) po_none (po_some pe_int)) (pg_tup (by rfl) (pgs_cons (pg_name (i := 1) scRule.nd rfl (.inl rfl)) (pgs_cons (pg_name (i := 2) scRule.nd rfl (.inl rfl)) (pgs_cons (pg_name (i := 3) scRule.nd rfl (.inl rfl)) pgs_nil)))))
      (pss_cons (ps_if (pt_cmpR op_eq (pe_callB call_len_seq (by rfl) T.len PySem.boot_len (pa_cons (pv 0) pa_nil)) pe_int (nomark _))
        (pss_one (ps_ret (pe_make MT GT hr (by rfl) gT bT .nil (E := E) (passes_call (takes_of rfl rfl rfl rfl) (fun _ _ _ _ h => h)) (pa_cons (pe_tup (pa_cons (pv 1) (pa_cons (pv 2) pa_nil))) (pa_cons (pv 3) pa_nil))))) pss_nil)
      (pss_one (ps_ret (pe_makeN (n := 2) MN GN hr (by rfl) gN bN (E := E) (passes_call (takes_of rfl rfl rfl rfl) (fun _ _ _ _ h => h)) (pa_cons (pe_tup (pa_cons (pv 1) (pa_cons (pv 2) pa_nil))) (pa_cons (pv 3) pa_nil))
        (pk_cons (pe_tup (pa_cons (pe_ix ix_tup (pv 0) pe_int (fun _ _ => rfl)) (pa_cons (pe_ix ix_tup (pv 0) pe_int (fun _ _ => rfl)) pa_nil))) (pk_cons (pe_ix ix_tup (pv 0) pe_int (fun _ _ => rfl)) pk_nil)))))), ?_⟩
    refine ⟨_, rfl, _, rfl, slice3 hl fun a H1 s1 ha => ⟨a, _, rfl, SqT.of ha, rfl, _, _, rfl, _, _, rfl, _, _, rfl, rfl, ?_⟩⟩
    have hl1 := s1 _ _ hl
    refine ⟨_, rfl, l, _, rfl, .inr (SqT.of hl1), rfl, _, rfl, ite2 (fun e => ?_) (fun e => ?_)⟩
    · cases row with
      | tn p q k t s c => exact absurd (V.int.inj (of_decide_eq_true e)) (show ¬ (((6 : Nat) : Int) = 3) by decide)
      | tr p q k =>
        refine ⟨_, rfl, _, rfl, (by show 2 ≤ sizeLine; decide), fun tp ntp => ⟨_, rfl, fun x dx nx ndx nex => ?_⟩⟩
        have hp : upd H1 tp (.tup [.int p, .int q]) tp = some (.tup [.int p, .int q]) := upd_same
        have s2 := s1.trans (same_new (o := .tup [.int p, .int q]) ntp)
        have hq : Same (upd H1 tp (.tup [.int p, .int q])) (upd (upd (upd H1 tp (.tup [.int p, .int q])) dx (.own x)) x (.ins Ct dx [])) := fun b u e => by rw [upd_ne (ne_of_none e nx), upd_ne (ne_of_none e ndx)]; exact e
        refine ⟨x, dx, .ref tp, .int k, _, rfl, upd_same, (pairQ_int hp).keep hq, .inl ⟨k, rfl⟩, kk.mono (s2.trans hq) fun kk H2 t2 hx2 => ⟨rfl, ?_⟩⟩
        have s3 : ∀ b u, upd H1 tp (.tup [.int p, .int q]) b = some u → H2 b = some u := fun b u e => t2 _ _ (ne_of_none e nx) (hq _ _ e)
        exact kk x H2 (fun b u e => s3 _ _ (s2 _ _ e)) ⟨dx, tp, hx2, s3 _ _ hp⟩
    · cases row with
      | tr p q k => exact absurd (decide_eq_true (show V.int ((3 : Nat) : Int) = V.int 3 from rfl)) e
      | tn p q k t s c =>
        refine ⟨_, rfl, _, rfl, (by show 2 ≤ sizeLine; decide), fun tp ntp => ⟨_, rfl, ?_⟩⟩
        have hl2 : upd H1 tp (.tup [.int p, .int q]) l = some (.tup (Row.tn p q k t s c).vs) := same_new ntp _ _ hl1
        refine ⟨_, rfl, l, _, 3, .int t, rfl, rfl, SqT.of hl2, atI_nat (j := 3) rfl, _, rfl, l, _, 4, .int s, rfl, rfl, SqT.of hl2, atI_nat (j := 4) rfl, (by show 2 ≤ sizeLine; decide), fun tq ntq => ?_⟩
        have hl3 : upd (upd H1 tp (.tup [.int p, .int q])) tq (.tup [.int t, .int s]) l = some (.tup (Row.tn p q k t s c).vs) := same_new ntq _ _ hl2
        refine ⟨_, rfl, l, _, 5, .int c, rfl, rfl, SqT.of hl3, atI_nat (j := 5) rfl, rfl, rfl, fun x dx nx ndx nex => ?_⟩
        have f1 : upd (upd H1 tp (.tup [.int (Row.tn p q k t s c).p, .int (Row.tn p q k t s c).q])) tq (.tup [.int t, .int s]) tp = some (.tup [.int p, .int q]) := same_new ntq _ _ upd_same
        have f2 : upd (upd H1 tp (.tup [.int (Row.tn p q k t s c).p, .int (Row.tn p q k t s c).q])) tq (.tup [.int t, .int s]) tq = some (.tup [.int t, .int s]) := upd_same
        have s2 : Same H (upd (upd H1 tp (.tup [.int (Row.tn p q k t s c).p, .int (Row.tn p q k t s c).q])) tq (.tup [.int t, .int s])) := s1.trans ((same_new ntp).trans (same_new ntq))
        generalize upd (upd H1 tp (.tup [.int (Row.tn p q k t s c).p, .int (Row.tn p q k t s c).q])) tq (.tup [.int t, .int s]) = H2 at f1 f2 s2 nx ndx ⊢
        have keep : Same H2 (upd (upd H2 dx (.own x)) x (.ins Cn dx [])) := fun b u e => by
          rw [upd_ne (ne_of_none e nx), upd_ne (ne_of_none e ndx)]; exact e
        refine ⟨x, dx, .ref tp, .int k, .ref tq, .int c, _, _, rfl, upd_same, (pairQ_int f1).keep keep, .inl ⟨k, rfl⟩, (pairQ_int f2).keep keep, .inl ⟨c, rfl⟩, kk.mono (s2.trans keep) fun kk H3 t3 hx3 => ⟨rfl, ?_⟩⟩
        have s3 : ∀ b u, H2 b = some u → H3 b = some u := fun b u e => t3 _ _ (ne_of_none e nx) (keep _ _ e)
        exact kk x H3 (fun b u e => s3 _ _ (s2 _ _ e)) ⟨dx, tp, tq, hx3, s3 _ _ f1, s3 _ _ f2⟩
end
end Ev
namespace Ev
open PySem L2 PySem.Spec PyProof.Rows
/-! == and != by an own __eq__, both answers, beside values of other types. -/
section
variable {prog : Program} {w : World} {A : Around} {E : Value → Shared → Prop} {s : Shared} {K : PySem.W.Frag} {x C f : Addr} {ox : Obj} {od : Option Obj} {y : Value}
theorem neEntry {Q : Fin → Shared → Prop} (room : A.units < cLine) (X : K.In s.heap) (I : PySem.W.InstAt s.heap x ox C od) (he : PySem.W.findIn K (.ref C) "__eq__" = some (some (.ref f))) (hf : PySem.W.isFn K (.ref f) = true)
    (h : wpAny (model prog w) A (call (.ref f) [.ref x, y]) (fun v s' => ∃ b, v = .bool b ∧ Q (.done (.ret (.bool (!b)))) s') E s) : wpAny (model prog w) A (Builtin.«object.__ne__» ⟨[.ref x, y], []⟩) Q E s := by
  have asked : wpAny (model prog w) A (callSpecialIfBound? (.ref x) (Str.ofString "__eq__") [y]) (fun r s' => ∃ b, r = some (.bool b) ∧ Q (.done (.ret (.bool (!b)))) s') E s := by
    refine PySem.W.ifBound_K X I he hf (wpAny_mono h (fun v s' hv => ?_) fun _ _ z => z)
    obtain ⟨b, rfl, q⟩ := hv
    exact ⟨b, rfl, q⟩
  unfold Builtin.«object.__ne__»
  repeat (first
    | (with_reducible refine wpAny_cRoomFor room ?_)
    | (refine wpAny_bind (m := callSpecialIfBound? (.ref x) (Str.ofString "__eq__") [y]) (wpAny_mono asked (fun r s' hr => ?_) fun _ _ z => z)
       obtain ⟨b, rfl, q⟩ := hr)
    | exact q
    | (exact wpAny_truthy_bool q)
    | wp_step)
theorem neCall {Q : Value → Shared → Prop} (room : A.in1.units < cLine) (X : K.In s.heap) (I : PySem.W.InstAt s.heap x ox C od) (hm : PySem.W.mroIn K C (.type "object") = some true) (he : PySem.W.findIn K (.ref C) "__eq__" = some (some (.ref f))) (hf : PySem.W.isFn K (.ref f) = true)
    (h : wpAny (model prog w) A.in1 (call (.ref f) [.ref x, y]) (fun v s' => ∃ b, v = .bool b ∧ Q (.bool (!b)) s') E s) : wpAny (model prog w) A (call (.builtin "object.__ne__") [.ref x, y]) Q E s :=
  wpAny_call (codeAny_call_builtin F.cmp_object.ne.plain F.cmpEntry_ne (PySem.W.check_slot F.cmpKind_ne F.cmpSplit_ne (I.type.andThen (PySem.W.looks_mroIn X hm)) (F.cmpArgs_ne _ _)
    (neEntry room X I he hf h)))
theorem neBound {Q : Option Value → Shared → Prop} {M : Model} (X : K.In s.heap) (I : PySem.W.InstAt s.heap x ox C od) (hn : PySem.W.findIn K (.ref C) "__ne__" = some (some (.builtin "object.__ne__")))
    (h : wpAny M A (call (.builtin "object.__ne__") [.ref x, y]) (fun v => Q (some v)) E s) : wpAny M A (callSpecialIfBound? (.ref x) "__ne__" [y]) Q E s := by
  have last : wpAny M A (call (.builtin "object.__ne__") ([.ref x] ++ [y]) >>= fun v => pure (some v)) Q E s := by
    refine wpAny_bind (wpAny_mono h (fun v s' z => ?_) fun _ _ z => z)
    exact wpAny_pure z
  simp only [callSpecialIfBound?, bindSpecialIfBound?]
  refine wpAny_holding (wpAny_bind (wpAny_bind (wpAny_bind (I.type.here ?_))))
  refine (PySem.W.looks_findIn X hn).here (wpAny_bind (wpAny_askSetting (wpAny_ite ?_)))
  have bd := F.cmp_object.ne.bind (.ref x)
  split
  · refine wpAny_bind (wpAny_of_eq bd ?_)
    exact wpAny_pure (by exact last)
  · refine wpAny_tryCatch (wpAny_bind (wpAny_of_eq bd ?_))
    exact wpAny_pure (by exact last)
theorem neRich {Q : Value → Shared → Prop} {tb : Value} (room : A.units + 1 < cLine) (X : K.In s.heap) (I : PySem.W.InstAt s.heap x ox C od) (hb : PySem.W.Looks (model prog w) s.heap (typeOf y) tb) (nf : PySem.W.notFirst K C tb = true)
    (hm : PySem.W.mroIn K C (.type "object") = some true) (hn : PySem.W.findIn K (.ref C) "__ne__" = some (some (.builtin "object.__ne__"))) (he : PySem.W.findIn K (.ref C) "__eq__" = some (some (.ref f))) (hf : PySem.W.isFn K (.ref f) = true)
    (h : wpAny (model prog w) A.in1 (call (.ref f) [.ref x, y]) (fun v s' => ∃ b, v = .bool b ∧ Q (.bool (!b)) s') E s) : wpAny (model prog w) A (richCompare .NotEq (.ref x) y) Q E s := by
  have one : wpAny (model prog w) A (tryCompare (.ref x) "__ne__" y) (fun r s' => ∃ b, r = some (.bool b) ∧ Q (.bool b) s') E s := by
    unfold tryCompare
    refine wpAny_bind (neBound X I hn (neCall (show A.in1.units < cLine from room) X I hm he hf (wpAny_mono h (fun v s' z => ?_) fun _ _ z => z)))
    obtain ⟨b, rfl, q⟩ := z
    exact ⟨b, rfl, wpAny_pure ⟨_, rfl, q⟩⟩
  unfold richCompare
  simp only [oneThing_ref]
  rw [cmpInfo_NotEq]
  refine wpAny_holding (wpAny_bind (wpAny_cRoomFor (Nat.lt_of_succ_lt room) ?_))
  refine wpAny_bind (I.type.here ?_)
  refine wpAny_bind (hb.here ?_)
  split
  · rename_i q
    have sub : PySem.W.subIn K tb (.ref C) = some false := by
      rcases Bool.or_eq_true_iff.mp nf with z | z
      · rw [beq_iff_eq.mp z] at q
        simp at q
      · exact beq_iff_eq.mp z
    refine wpAny_bind ((PySem.W.looks_subIn X sub).here ?_)
    simp only [Bool.false_eq_true, if_false]
    refine wpAny_bind (wpAny_mono one (fun r s' z => ?_) fun _ _ z => z)
    obtain ⟨b, rfl, q2⟩ := z
    exact wpAny_pure q2
  · refine wpAny_bind (wpAny_pure ?_)
    simp only [Bool.false_eq_true, if_false]
    refine wpAny_bind (wpAny_mono one (fun r s' z => ?_) fun _ _ z => z)
    obtain ⟨b, rfl, q2⟩ := z
    exact wpAny_pure q2
end
/-- which types come behind an own class -/
theorem nf_own {K : PySem.W.Frag} {C : Addr} : PySem.W.notFirst K C (.ref C) = true := by
  unfold PySem.W.notFirst
  simp
theorem nf_sub {K : PySem.W.Frag} {C : Addr} {t : Value} (h : PySem.W.subIn K t (.ref C) = some false) : PySem.W.notFirst K C t = true := by
  unfold PySem.W.notFirst
  rw [h]
  simp
theorem nf_ty {K : PySem.W.Frag} {C : Addr} {T : String} {l : List String} (h : fastBuiltinMro T = some (l.map Value.type)) : PySem.W.notFirst K C (.type T) = true := by
  refine nf_sub ?_
  show (fastBuiltinMro T).map (·.contains (.ref C)) = some false
  rw [h]
  have z : (l.map Value.type).contains (.ref C) = false := by
    rw [Bool.eq_false_iff]
    intro z
    have m := List.contains_iff_mem.mp z
    simp at m
  exact congrArg some z
section
variable {X : Cx} {CX : CXT} {C g : Addr} {n : Nat} {sp : Sp} {E : XK}
/-- what an own == promises for such values: a truth -/
def rOwnB (K : PySem.W.Frag) (C : Addr) (sp : Sp) (E : XK) (neg : Bool) : R2 := fun x y H Q => ∃ (a dx : Addr) (fs : List (Str × V)) (t : Value), x = .ref a ∧ H a = some (.ins C dx fs) ∧ TyX K H y t ∧ PySem.W.notFirst K C t = true ∧ sp [x, y] H (fun z H' => ∃ b, z = .bl b ∧ Q (.bl (neg ^^ b)) H') E
theorem op_eqO (he : PySem.W.findIn X.K (.ref C) "__eq__" = some (some (.ref g))) (hf : PySem.W.isFn X.K (.ref g) = true) (F : FnR X.prog X.w X.K X.mg X.base CX n g sp) (hr : Room n X.A) (hx : Passes CX X E) : OpR X (compareOp .Eq) (rOwnB X.K C sp E false) := by
  intro pins s σ H x y v u Q I rx ry h
  obtain ⟨a, dx, fs, t, rfl, ha, ty, nf, q⟩ := h
  cases (show v = Value.ref a from rx)
  obtain ⟨mA, J, _⟩ := ins_get I.hok ha
  obtain ⟨od, J, _⟩ := J.look
  obtain ⟨m, hF⟩ := I.fr
  obtain ⟨P, Z, hP, _⟩ := kit_of I ry ty
  show wpAny _ _ (richCompare .Eq (.ref a) u) _ _ s
  refine PySem.W.cmp_K (op := .Eq) hr.units0 hF I.ok.mod.kin J (Z.ty _ _ I.kIn hP) nf he hf ?_
  refine wpAny_mono (wpAny_call (SlX.run_at (us := [.ref a, u]) (ws := [.ref a, y]) F hr I.env0 hx I (.cons rfl (.cons ry .nil)) q)) (fun w' s' z => ?_) fun _ _ z => z
  obtain ⟨z', H', I', rz, b, rfl, q'⟩ := z
  cases (show w' = Value.bool b from rz)
  have q' : Q (.bl b) H' := by simpa using q'
  exact ⟨.bl b, H', I', rfl, q'⟩
theorem op_neO (he : PySem.W.findIn X.K (.ref C) "__eq__" = some (some (.ref g))) (hn : PySem.W.findIn X.K (.ref C) "__ne__" = some (some (.builtin "object.__ne__"))) (hm : PySem.W.mroIn X.K C (.type "object") = some true) (hf : PySem.W.isFn X.K (.ref g) = true)
    (F : FnR X.prog X.w X.K X.mg X.base CX n g sp) (hr : Room (n + 1) X.A) (hx : Passes CX X E) : OpR X (compareOp .NotEq) (rOwnB X.K C sp E true) := by
  intro pins s σ H x y v u Q I rx ry h
  obtain ⟨a, dx, fs, t, rfl, ha, ty, nf, q⟩ := h
  cases (show v = Value.ref a from rx)
  obtain ⟨mA, J, _⟩ := ins_get I.hok ha
  obtain ⟨od, J, _⟩ := J.look
  obtain ⟨P, Z, hP, _⟩ := kit_of I ry ty
  have hr1 : Room n X.A.in1 := hr.in1
  show wpAny _ _ (richCompare .NotEq (.ref a) u) _ _ s
  refine neRich (by have := hr1.units0; exact this) I.kIn J (Z.ty _ _ I.kIn hP) nf hm hn he hf ?_
  refine wpAny_mono (wpAny_call (SlX.run_at (us := [.ref a, u]) (ws := [.ref a, y]) F hr1 I.env0.in1 hx I (.cons rfl (.cons ry .nil)) q)) (fun w' s' z => ?_) fun _ _ z => z
  obtain ⟨z', H', I', rz, b, rfl, q'⟩ := z
  cases (show w' = Value.bool b from rz)
  have q' : Q (.bl (!b)) H' := by simpa using q'
  exact ⟨b, rfl, .bl (!b), H', I', rfl, q'⟩
end
end Ev
namespace Ev
open PySem L2 PySem.Spec PyProof.Rows
theorem sh_intsT (ns : List Int) : SeqAt.shaped (.tuple (ns.map PyData.int)) = true := by
  have h := sh_ints ns
  unfold SeqAt.shaped at h ⊢
  simpa [PyData.canLay0, PyData.depth] using h
theorem eqv_tupI (ps qs : List Int) : PyData.eqv (.tuple (ps.map PyData.int)) (.tuple (qs.map PyData.int)) = decide (ps = qs) := by
  have h : ∀ ps qs : List Int, PyData.eqvAll (ps.map PyData.int) (qs.map PyData.int) = decide (ps = qs) := by
    intro ps
    induction ps with
    | nil => intro qs; cases qs <;> simp [PyData.eqvAll]
    | cons a r ih =>
      intro qs
      cases qs with
      | nil => simp [PyData.eqvAll]
      | cons c t =>
        simp only [List.map_cons, PyData.eqvAll, ih t, PyData.eqv]
        by_cases e1 : a = c <;> by_cases e2 : r = t <;> simp [e1, e2]
  simp only [PyData.eqv, h]
/-- an instance's kind -/
structure InsT (K : PySem.W.Frag) (C : Addr) : Prop where
  ha : PySem.W.findIn K (.ref C) "__class__" = some (some (.builtin "object.__class__"))
  hn : PySem.W.specialIn K (.builtin "object.__class__") "__get__" = some (some (.builtin "getset_descriptor.__get__"))
  htk : PySem.W.takesIn K (.builtin "object.__class__") = some true
  hm : PySem.W.mroIn K C (.type "object") = some true
  ic : PySem.W.isClsIn K C = true
  tt : PySem.W.typeIn K (.ref C) = some (.type "type")
theorem sub_no {K : PySem.W.Frag} {C : Addr} {T : String} {l : List String} (h : fastBuiltinMro T = some (l.map Value.type)) : PySem.W.subIn K (.type T) (.ref C) = some false := by
  show (fastBuiltinMro T).map (·.contains (.ref C)) = some false
  rw [h]
  have z : (l.map Value.type).contains (.ref C) = false := by
    rw [Bool.eq_false_iff]
    intro z
    have m := List.contains_iff_mem.mp z
    simp at m
  exact congrArg some z
theorem kit_self {K : PySem.W.Frag} {C : Addr} : PySem.W.kitOne K (.ref C) (.ref C) = some true := by
  unfold PySem.W.kitOne
  rw [if_pos (by simp)]
def rowB : Row → Row → Bool
  | .tr p q k, .tr p' q' k' => decide ([p, q] = [p', q']) && decide (V.int k = V.int k')
  | .tn p q k t s c, .tn p' q' k' t' s' c' => decide ([p, q] = [p', q']) && (decide (V.int k = V.int k') && (decide ([t, s] = [t', s']) && decide (V.int c = V.int c')))
  | _, _ => false
theorem rowB_self (r : Row) : rowB r r = true := by cases r <;> simp [rowB]
/-- the two classes of rules -/
structure RTwo (K : PySem.W.Frag) (Ct Cn : Addr) : Prop where
  t : RCls K Ct
  n : RCls K Cn
  it : InsT K Ct
  ins : InsT K Cn
  tn : PySem.W.kitOne K (.ref Ct) (.ref Cn) = some false
  nt : PySem.W.kitOne K (.ref Cn) (.ref Ct) = some false
  sub1 : PySem.W.subIn K (.ref Ct) (.ref Cn) = some false
  sub2 : PySem.W.subIn K (.ref Cn) (.ref Ct) = some false
theorem tyIns {K : PySem.W.Frag} {C : Addr} {H : Hp} {x dx : Addr} {fs : List (Str × V)} (TC : RCls K C) (IT : InsT K C) (h : H x = some (.ins C dx fs)) : TyX K H (.ref x) (.ref C) := .base (.ins h TC.cl IT.ha IT.hn IT.htk IT.hm)
def Row.isT : Row → Bool
  | .tr _ _ _ => false
  | .tn _ _ _ _ _ _ => true
def Row.cls (Ct Cn : Addr) : Row → Addr
  | .tr _ _ _ => Ct
  | .tn _ _ _ _ _ _ => Cn
def spEqR (Ct Cn : Addr) (turn : Bool) : Sp := fun vs H Q _ => ∃ (x y : Addr) (r1 r2 : Row), vs = [.ref x, .ref y] ∧ ObjAt Ct Cn H x r1 ∧ ObjAt Ct Cn H y r2 ∧ r1.isT = turn ∧ Q (.bl (rowB r1 r2)) H
section
variable {P : Program} {w : World} {K : PySem.W.Frag} {mg : Str → Option Value} {base : Heap}
theorem scTryEq : FnScope ["self", "other"] ["self", "other"] (defScope sTryEq) := ⟨rfl, rfl, rfl, by decide +kernel, rfl, by decide +kernel, by decide +kernel⟩
theorem ok_tryEq {f Ct Cn : Addr} {fd : FuncData} (F : Fun K "__eq__" "TryRule.__eq__" sTryEq f fd) (T : Blt mg) (R : RTwo K Ct Cn) (gC : mg "TryRule" = some (.ref Ct)) : FnOk P w K mg base CX0 1 f fd ["self", "other"] (spEqR Ct Cn false) := by
  refine F.ok scTryEq (fun vs H Q E h => ?_) (fun cdv A outer s H vs Q E hr h => ?_)
  · obtain ⟨x, y, r1, r2, rfl, _⟩ := h
    rfl
  · obtain ⟨x, y, r1, r2, rfl, h1, h2, hm, k⟩ := h
    refine ⟨_, pss_one (ps_ret (pe_and (pe_callB call_isi (by rfl) T.isi (by decide +kernel) (pa_cons (pv 1) (pa_cons (pe_glob (v := .ref Ct) rfl gC rfl) pa_nil)))
      (pe_and (pe_cmpR (op_eqD (Room.units hr)) (pe_fld (pv 0) rfl) (pe_fld (pv 1) rfl) (nomark _)) (pe_one (pe_cmpR op_eq (pe_fld (pv 0) rfl) (pe_fld (pv 1) rfl) (nomark _)))))), ?_⟩
    cases r1 with
    | tn p q k t s c => cases hm
    | tr p q kk =>
      obtain ⟨dx, a, hx, ha⟩ := h1
      cases r2 with
      | tn p' q' k' t' s' c' =>
        obtain ⟨dy, a', b', hy, ha', hb'⟩ := h2
        exact ⟨_, rfl, _, _, _, _, false, rfl, .own Ct, tyIns R.n R.ins hy, R.nt, _, rfl, iteF k⟩
      | tr p' q' k' =>
        obtain ⟨dy, a', hy, ha'⟩ := h2
        refine ⟨_, rfl, _, _, _, _, true, rfl, .own Ct, tyIns R.t R.it hy, kit_self, true, rfl, iteT ?_⟩
        refine ⟨_, rfl, x, Ct, dx, _, _, rfl, hx, R.t.cl, R.t.n1, try_times _ _, _, rfl, y, Ct, dy, _, _, rfl, hy, R.t.cl, R.t.n1, try_times _ _, _, _, .tup (SqT.of ha) (dpInts [p, q]), .tup (SqT.of ha') (dpInts [p', q']), sh_intsT _, sh_intsT _, _, rfl, ?_⟩
        rw [eqv_tupI]
        have k : Q (.bl (decide ([p, q] = [p', q']) && decide (V.int kk = V.int k'))) H := k
        by_cases e : [p, q] = [p', q']
        · rw [decide_eq_true e] at k ⊢
          refine iteT ⟨_, rfl, x, Ct, dx, _, _, rfl, hx, R.t.cl, R.t.n2, try_plus _ _, _, rfl, y, Ct, dy, _, _, rfl, hy, R.t.cl, R.t.n2, try_plus _ _, rfl, ?_⟩
          simpa using k
        · rw [decide_eq_false e] at k ⊢
          exact iteF (by simpa using k)
theorem scTurnEq : FnScope ["self", "other"] ["self", "other"] (defScope sTurnEq) := ⟨rfl, rfl, rfl, by decide +kernel, rfl, by decide +kernel, by decide +kernel⟩
theorem ok_turnEq {f Ct Cn : Addr} {fd : FuncData} (F : Fun K "__eq__" "TurnRule.__eq__" sTurnEq f fd) (T : Blt mg) (R : RTwo K Ct Cn) (gC : mg "TurnRule" = some (.ref Cn)) : FnOk P w K mg base CX0 1 f fd ["self", "other"] (spEqR Ct Cn true) := by
  refine F.ok scTurnEq (fun vs H Q E h => ?_) (fun cdv A outer s H vs Q E hr h => ?_)
  · obtain ⟨x, y, r1, r2, rfl, _⟩ := h
    rfl
  · obtain ⟨x, y, r1, r2, rfl, h1, h2, hm, k⟩ := h
    refine ⟨_, pss_one (ps_ret (pe_and (pe_callB call_isi (by rfl) T.isi (by decide +kernel) (pa_cons (pv 1) (pa_cons (pe_glob (v := .ref Cn) rfl gC rfl) pa_nil)))
      (pe_and (pe_cmpR (op_eqD (Room.units hr)) (pe_fld (pv 0) rfl) (pe_fld (pv 1) rfl) (nomark _)) (pe_and (pe_cmpR op_eq (pe_fld (pv 0) rfl) (pe_fld (pv 1) rfl) (nomark _))
      (pe_and (pe_cmpR (op_eqD (Room.units hr)) (pe_fld (pv 0) rfl) (pe_fld (pv 1) rfl) (nomark _)) (pe_one (pe_cmpR op_eq (pe_fld (pv 0) rfl) (pe_fld (pv 1) rfl) (nomark _)))))))), ?_⟩
    cases r1 with
    | tr p q kk => cases hm
    | tn p q kk t s c =>
      obtain ⟨dx, a, b, hx, ha, hb⟩ := h1
      cases r2 with
      | tr p' q' k' =>
        obtain ⟨dy, a', hy, ha'⟩ := h2
        exact ⟨_, rfl, _, _, _, _, false, rfl, .own Cn, tyIns R.t R.it hy, R.tn, _, rfl, iteF k⟩
      | tn p' q' k' t' s' c' =>
        obtain ⟨dy, a', b', hy, ha', hb'⟩ := h2
        refine ⟨_, rfl, _, _, _, _, true, rfl, .own Cn, tyIns R.n R.ins hy, kit_self, true, rfl, iteT ?_⟩
        refine ⟨_, rfl, x, Cn, dx, _, _, rfl, hx, R.n.cl, R.n.n1, turn_times _ _ _ _, _, rfl, y, Cn, dy, _, _, rfl, hy, R.n.cl, R.n.n1, turn_times _ _ _ _, _, _, .tup (SqT.of ha) (dpInts [p, q]), .tup (SqT.of ha') (dpInts [p', q']), sh_intsT _, sh_intsT _, _, rfl, ?_⟩
        rw [eqv_tupI]
        have k : Q (.bl (decide ([p, q] = [p', q']) && (decide (V.int kk = V.int k') && (decide ([t, s] = [t', s']) && decide (V.int c = V.int c'))))) H := k
        by_cases e : [p, q] = [p', q']
        · rw [decide_eq_true e] at k ⊢
          refine iteT ⟨_, rfl, x, Cn, dx, _, _, rfl, hx, R.n.cl, R.n.n2, turn_plus _ _ _ _, _, rfl, y, Cn, dy, _, _, rfl, hy, R.n.cl, R.n.n2, turn_plus _ _ _ _, rfl, _, rfl, ?_⟩
          by_cases e2 : V.int kk = V.int k'
          · rw [decide_eq_true e2] at k ⊢
            refine iteT ⟨_, rfl, x, Cn, dx, _, _, rfl, hx, R.n.cl, R.n.n3, turn_turn _ _ _ _, _, rfl, y, Cn, dy, _, _, rfl, hy, R.n.cl, R.n.n3, turn_turn _ _ _ _, _, _, .tup (SqT.of hb) (dpInts [t, s]), .tup (SqT.of hb') (dpInts [t', s']), sh_intsT _, sh_intsT _, _, rfl, ?_⟩
            rw [eqv_tupI]
            by_cases e3 : [t, s] = [t', s']
            · rw [decide_eq_true e3] at k ⊢
              refine iteT ⟨_, rfl, x, Cn, dx, _, _, rfl, hx, R.n.cl, R.n.n4, turn_tp _ _ _ _, _, rfl, y, Cn, dy, _, _, rfl, hy, R.n.cl, R.n.n4, turn_tp _ _ _ _, rfl, ?_⟩
              simpa using k
            · rw [decide_eq_false e3] at k ⊢
              exact iteF (by simpa using k)
          · rw [decide_eq_false e2] at k ⊢
            exact iteF (by simpa using k)
        · rw [decide_eq_false e] at k ⊢
          exact iteF (by simpa using k)
end
end Ev
namespace Ev
open PySem L2 PySem.Spec PyProof.Rows
/-! Words that write integers: texts by their codes. -/
abbrev Sx (l : List Nat) : Str := SX.S l
def tx (i : Int) : Str := Str.ofString (toString i)
/-- a digit -/
def dig (c : Nat) : Bool := decide (48 ≤ c) && decide (c ≤ 57)
/-- the codes behind a sign -/
def dg (l : List Nat) : List Nat := if l.head? = some 45 then l.tail else l
def allD (l : List Nat) : Bool := !l.isEmpty && l.all dig
/-- the words that str writes of an integer -/
def can (l : List Nat) : Bool := allD (dg l) && !(decide ((dg l).head? = some 48) && decide (l ≠ [48]))
def val (l : List Nat) : Int := if l.head? = some 45 then -((NumText.digitsVal (dg l) : Nat) : Int) else ((NumText.digitsVal (dg l) : Nat) : Int)
theorem allD_iff {l : List Nat} : allD l = true ↔ l ≠ [] ∧ NumText.AllDigits l := by
  unfold allD NumText.AllDigits dig
  cases l with
  | nil => simp
  | cons a r => simp
theorem ascii_S (l : List Nat) : Txt.isascii (Sx l) = l.all (fun c => decide (c < 128)) := by
  unfold Txt.isascii
  simp [Sx, SX.S]
theorem isdigit_S (l : List Nat) : Txt.isdigit (Sx l) = (!l.isEmpty && l.all Unicode.isDigit) := by
  unfold Txt.isdigit
  cases l with
  | nil => simp [Sx, SX.S, Str.length]
  | cons a r => simp [Sx, SX.S, Str.length]
theorem uni_dig {c : Nat} (h : c < 128) : Unicode.isDigit c = dig c := by
  have : ∀ c : Fin 128, Unicode.isDigit c = dig c := by decide +kernel
  exact this ⟨c, h⟩
theorem dig_lt {c : Nat} (h : dig c = true) : c < 128 := by
  unfold dig at h
  simp at h
  omega
theorem digits_S (l : List Nat) : (Txt.isascii (Sx l) && Txt.isdigit (Sx l)) = allD l := by
  rw [ascii_S, isdigit_S]
  unfold allD
  cases h : l.all dig with
  | true =>
    have h' := List.all_eq_true.mp h
    have a : l.all (fun c => decide (c < 128)) = true := List.all_eq_true.mpr fun c hc => decide_eq_true (dig_lt (h' c hc))
    have b : l.all Unicode.isDigit = true := List.all_eq_true.mpr fun c hc => by rw [uni_dig (dig_lt (h' c hc))]; exact h' c hc
    rw [a, b]
    simp
  | false =>
    cases a : l.all (fun c => decide (c < 128)) with
    | false => simp
    | true =>
      have a' := List.all_eq_true.mp a
      have b : l.all Unicode.isDigit = false := by
        cases z : l.all Unicode.isDigit with
        | false => rfl
        | true =>
          have z' := List.all_eq_true.mp z
          rw [List.all_eq_true.mpr fun c hc => by rw [← uni_dig (of_decide_eq_true (a' c hc))]; exact z' c hc] at h
          cases h
      rw [b]
      simp
theorem starts_S (l : List Nat) (c : Nat) : Txt.startswith (Sx l) (Sx [c]) = decide (l.head? = some c) := by
  unfold Txt.startswith
  rw [StrLaws.subAt_eq]
  cases l with
  | nil => simp [Sx, SX.S, Str.length]
  | cons a r =>
    by_cases h : a = c
    · simp [Sx, SX.S, Str.length, h]
    · simp [Sx, SX.S, Str.length, h]
theorem rev_ind {P : List Nat → Prop} (h0 : P []) (h1 : ∀ d c, P d → P (d ++ [c])) (d : List Nat) : P d := by
  have key : ∀ l : List Nat, P l.reverse := by
    intro l
    induction l with
    | nil => exact h0
    | cons a r ih => rw [List.reverse_cons]; exact h1 _ _ ih
  have := key d.reverse
  rwa [List.reverse_reverse] at this
theorem numL_head : ∀ n : Nat, (TL.numL n).head? = some 48 → n = 0 := by
  intro n
  induction n using Nat.strongRecOn with
  | _ n ih =>
    intro h
    by_cases z : n < 10
    · rw [TL.numL_lt z] at h
      have : 48 + n = 48 := Option.some.inj h
      omega
    · rw [TL.numL_step (by omega)] at h
      have ne := TL.numL_ne (n / 10)
      have h2 : (TL.numL (n / 10)).head? = some 48 := by
        cases e : TL.numL (n / 10) with
        | nil => exact absurd e ne
        | cons a r => rw [e] at h; exact h
      have := ih (n / 10) (by omega) h2
      omega
/-- a row of digits without a nought ahead is what str writes -/
theorem val_snoc (d : List Nat) (c : Nat) : NumText.digitsVal (d ++ [c]) = NumText.digitsVal d * 10 + (c - 48) := by
  unfold NumText.digitsVal
  rw [List.foldl_append]
  rfl
theorem val_pos : ∀ d : List Nat, NumText.AllDigits d → d ≠ [] → d.head? ≠ some 48 → 1 ≤ NumText.digitsVal d := by
  intro d
  refine rev_ind (P := fun d => NumText.AllDigits d → d ≠ [] → d.head? ≠ some 48 → 1 ≤ NumText.digitsVal d) (fun _ h => absurd rfl h) (fun d c ih => ?_) d
  · intro ha _ hh
    rw [val_snoc]
    by_cases e : d = []
    · subst e
      have := ha c (by simp)
      have h2 : c ≠ 48 := fun z => hh (by rw [z]; rfl)
      simp [NumText.digitsVal]
      omega
    · have := ih (fun x hx => ha x (by simp [hx])) e (fun z => hh (by
        cases d with
        | nil => exact absurd rfl e
        | cons a r => exact z))
      omega
theorem numL_back : ∀ d : List Nat, NumText.AllDigits d → d ≠ [] → d.head? ≠ some 48 → TL.numL (NumText.digitsVal d) = d := by
  intro d
  refine rev_ind (P := fun d => NumText.AllDigits d → d ≠ [] → d.head? ≠ some 48 → TL.numL (NumText.digitsVal d) = d) (fun _ h => absurd rfl h) (fun d c ih => ?_) d
  · intro ha _ hh
    have hc := ha c (by simp)
    by_cases e : d = []
    · subst e
      rw [val_snoc]
      have : NumText.digitsVal [] * 10 + (c - 48) < 10 := by simp [NumText.digitsVal]; omega
      rw [TL.numL_lt this]
      simp [NumText.digitsVal]
      omega
    · have hd : d.head? ≠ some 48 := fun z => hh (by
        cases d with
        | nil => exact absurd rfl e
        | cons a r => exact z)
      have had : NumText.AllDigits d := fun x hx => ha x (by simp [hx])
      have p := val_pos d had e hd
      rw [val_snoc, TL.numL_step (by omega)]
      have e1 : (NumText.digitsVal d * 10 + (c - 48)) / 10 = NumText.digitsVal d := by omega
      have e2 : 48 + (NumText.digitsVal d * 10 + (c - 48)) % 10 = c := by omega
      rw [e1, e2, ih had e hd]
theorem ofS_cat (a b : String) : Str.ofString (a ++ b) = Str.ofString a ++ Str.ofString b := by
  rw [Str.ofString_eq_toList, Str.ofString_eq_toList, Str.ofString_eq_toList, String.toList_append, List.map_append]
  exact (SX.S_cat _ _).symm
/-- the codes of the text of an integer -/
def txc (i : Int) : List Nat := if i < 0 then 45 :: TL.numL i.natAbs else TL.numL i.natAbs
theorem numL_no45 (n : Nat) : (TL.numL n).head? ≠ some 45 := fun h => by
  have : 45 ∈ TL.numL n := List.mem_of_head? h
  have := TL.numL_digits n 45 this
  omega
theorem dg_nat (n : Nat) : dg (TL.numL n) = TL.numL n := by
  unfold dg
  rw [if_neg (numL_no45 n)]
theorem val_txc (i : Int) : val (txc i) = i := by
  unfold txc
  by_cases h : i < 0
  · rw [if_pos h]
    unfold val dg
    simp only [List.head?_cons, if_true, List.tail_cons]
    rw [TL.numL_val]
    omega
  · rw [if_neg h]
    unfold val
    rw [if_neg (numL_no45 _), dg_nat, TL.numL_val]
    omega
theorem allD_num (n : Nat) : allD (TL.numL n) = true := allD_iff.mpr ⟨TL.numL_ne n, TL.numL_digits n⟩
theorem can_txc (i : Int) : can (txc i) = true := by
  unfold txc
  by_cases h : i < 0
  · rw [if_pos h]
    unfold can
    have e : dg (45 :: TL.numL i.natAbs) = TL.numL i.natAbs := by unfold dg; simp
    rw [e, allD_num]
    have hh : (TL.numL i.natAbs).head? ≠ some 48 := fun z => by
      have := numL_head _ z
      omega
    simp [hh]
  · rw [if_neg h]
    unfold can
    rw [dg_nat, allD_num]
    by_cases hh : (TL.numL i.natAbs).head? = some 48
    · have := numL_head _ hh
      rw [this, TL.numL_lt (by decide)]
      simp
    · simp [hh]
theorem txc_val {l : List Nat} (h : can l = true) : txc (val l) = l := by
  unfold can at h
  rw [Bool.and_eq_true] at h
  obtain ⟨h1, h2⟩ := h
  obtain ⟨ne, ad⟩ := allD_iff.mp h1
  have h2 : ¬ ((dg l).head? = some 48 ∧ l ≠ [48]) := by
    intro z
    rw [decide_eq_true z.1, decide_eq_true z.2] at h2
    cases h2
  by_cases s : l.head? = some 45
  · have e : l = 45 :: dg l := by
      cases l with
      | nil => cases s
      | cons a r =>
        have : a = 45 := Option.some.inj s
        subst this
        unfold dg
        simp
    have hh : (dg l).head? ≠ some 48 := fun z => h2 ⟨z, fun q => by rw [q] at s; cases s⟩
    have p := val_pos _ ad ne hh
    have b := numL_back _ ad ne hh
    unfold val
    rw [if_pos s]
    unfold txc
    rw [if_pos (by omega), Int.natAbs_neg, Int.natAbs_natCast, b]
    exact e.symm
  · have e : dg l = l := by unfold dg; rw [if_neg s]
    unfold val
    rw [if_neg s]
    unfold txc
    rw [if_neg (by omega), Int.natAbs_natCast]
    rw [e] at ad ne h2 ⊢
    by_cases z : l = [48]
    · rw [z]; decide +kernel
    · exact numL_back _ ad ne fun q => h2 ⟨q, z⟩
/-- the law's own look: str of what int reads is the word -/
theorem can_iff {l : List Nat} (h : allD (dg l) = true) : (txc (val l) = l) ↔ can l = true :=
  ⟨fun e => by rw [← e]; exact can_txc _, txc_val⟩
theorem tx_S (i : Int) : tx i = Sx (txc i) := by
  unfold tx txc
  cases i with
  | ofNat n => 
    rw [if_neg (by show ¬ ((n : Int) < 0); omega)]
    exact SX.num_S n
  | negSucc m =>
    rw [if_pos (by omega)]
    have e : toString (Int.negSucc m) = "-" ++ toString ((m + 1 : Nat) : Int) := rfl
    rw [e]
    have e2 : Str.ofString ("-" ++ toString ((m + 1 : Nat) : Int)) = Str.ofString "-" ++ Str.ofString (toString ((m + 1 : Nat) : Int)) := by
      exact ofS_cat _ _
    rw [e2, SX.num_S]
    show SX.S [45] ++ SX.S _ = _
    rw [SX.S_cat]
    rfl
end Ev
namespace Ev
open PySem L2 PySem.Spec PyProof.Rows
abbrev sReadN : Stmt := top 21
def spReadN : Sp := fun vs H Q _ => ∃ l : List Nat, vs = [.str (Sx l)] ∧ l.length ≤ 63 ∧ Q (if can l = true then .int (val l) else .non) H
theorem intText_S {d : List Nat} (h : allD d = true) (hl : d.length ≤ 600) : PySem.intText? (Sx d) = some ((NumText.digitsVal d : Nat) : Int) := by
  obtain ⟨ne, ad⟩ := allD_iff.mp h
  exact PySem.intText_digits (x := Sx d) ad ne (by show d.toArray.size ≤ 4300; simp; omega)
theorem dg_len (l : List Nat) : (dg l).length ≤ l.length := by
  unfold dg
  by_cases h : l.head? = some 45
  · rw [if_pos h, List.length_tail]; omega
  · rw [if_neg h]; exact Nat.le_refl _
theorem dig_slice (l : List Nat) (h : l.head? = some 45) : Txt.slice (Sx l) (some 1) none = Sx (dg l) := by
  have e := SX.slice_from (a := l) (i := 1) (by decide)
  have e2 : l.drop (Int.toNat 1) = dg l := by
    unfold dg
    rw [if_pos h]
    cases l <;> rfl
  rw [e2] at e
  exact e
theorem S_inj {a b : List Nat} (h : Sx a = Sx b) : a = b := by
  have := congrArg (fun z : Str => z.cps.toList) h
  simpa [Sx, SX.S] using this
section
variable {P : Program} {w : World} {K : PySem.W.Frag} {mg : Str → Option Value} {base : Heap}
theorem scReadN : FnScope ["word", "digits", "first", "number", "start"] ["word"] (defScope sReadN) := ⟨rfl, rfl, rfl, by decide +kernel, rfl, by decide +kernel, by decide +kernel⟩
theorem ok_readN {f : Addr} {fd : FuncData} (F : Fun K "read_number" "read_number" sReadN f fd) (T : Blt mg) {t1 t2 : Tok} (gL : mg "PIECE_LENGTH" = some (.int 64 t1)) (gP : mg "PIECE" = some (.int (10 ^ 64) t2)) : FnOk P w K mg base CX0 1 f fd ["word"] spReadN := by
  refine F.ok scReadN (fun vs H Q E h => ?_) (fun cdv A outer s H vs Q E hr h => ?_)
  · obtain ⟨l, rfl, _⟩ := h
    rfl
  · obtain ⟨l, rfl, hl, k⟩ := h
    have st : ∀ (m : List Nat) (c : Nat), Txt.startswith (Sx m) (Sx [c]) = decide (m.head? = some c) := starts_S
    have sz : ∀ m : List Nat, m.length ≤ 63 → (Sx m).length ≤ sizeLine := fun m hm => by
      show m.toArray.size ≤ _
      rw [sizeLine_eq]; simp; omega
    have dl := dg_len l
    have ln : ∀ m : List Nat, (Sx m).length = m.length := fun m => by show m.toArray.size = _; simp
    obtain ⟨tT, hT, qT⟩ : ∃ t : TS, PSs (cxOf CX0 P w K mg base ["word", "digits", "first", "number", "start"] "read_number" (defScope sReadN) f cdv A outer s H E).nox ((defBody sReadN).drop 3) t ∧ ∀ (D : Ends) (G : Hp), allD (dg l) = true → D.rt (.int (val l)) G → t D [some (.str (Sx l)), some (.str (Sx (dg l))), none, none, none] G := by
      refine ⟨_, pss_cons (ps_set (i := 2) scReadN.nd rfl (.inl rfl) (pe_op op_mod (pe_callB call_len_str (by rfl) T.len PySem.boot_len (pa_cons (pv 1) pa_nil)) (C8.pe_gc (v := .int 64) (by rfl) ⟨_, gL, ⟨_, rfl⟩⟩)))
        (pss_cons (ps_set (i := 3) scReadN.nd rfl (.inl rfl) (pe_ifExp (pt_cmpR op_gt (pv 2) pe_int (nomark _)) (pe_callTy call_int_str (by rfl) T.int (by decide +kernel) (pa_cons (pe_slice C8.sl_txt (pv 1) po_none (po_some (pv 2))) pa_nil)) pe_int))
        (pss_cons (ps_for PassesOwn.never rfl (pi_range3 rfl T.range (pa_cons (pv 2) (pa_cons (pe_callB call_len_str (by rfl) T.len PySem.boot_len (pa_cons (pv 1) pa_nil)) (pa_cons (C8.pe_gc (v := .int 64) (by rfl) ⟨_, gL, ⟨_, rfl⟩⟩) pa_nil)))) (pg_name (i := 4) scReadN.nd rfl (.inl rfl))
          (pss_one (ps_set (i := 3) scReadN.nd rfl (.inl rfl) (pe_op op_add (pe_op op_mul (pv 3) (C8.pe_gc (v := .int (10 ^ 64)) (by rfl) ⟨_, gP, ⟨_, rfl⟩⟩)) (pe_callTy call_int_str (by rfl) T.int (by decide +kernel) (pa_cons (pe_slice C8.sl_txt (pv 1) (po_some (pv 4)) (po_some (pe_op op_add (pv 4) (C8.pe_gc (v := .int 64) (by rfl) ⟨_, gL, ⟨_, rfl⟩⟩)))) pa_nil))))))
        (pss_one (ps_ret (pe_ifExp (pt_val (pe_m1 PySem.F.slot_str_startswith PySem.F.type_str_startswith mt_startswith (pv 0) pe_str)) (pe_un un_neg (pv 3)) (pv 3)))))), ?_⟩
      intro D G hd q
      obtain ⟨ne, ad⟩ := allD_iff.mp hd
      have dp : 0 < (dg l).length := List.length_pos_iff.mpr ne
      have d63 : (dg l).length ≤ 63 := by omega
      have em : (((Sx (dg l)).length : Nat) : Int) % 64 = ((dg l).length : Int) := by rw [ln]; omega
      refine ⟨_, rfl, _, rfl, sz _ d63, _, _, rfl, rfl, (by omega : (0 : Int) < 64), ?_⟩
      show gName 2 (.int ((((Sx (dg l)).length : Nat) : Int) % 64)) _ G _
      rw [em]
      refine ⟨_, rfl, _, _, rfl, rfl, _, rfl, ?_⟩
      rw [decide_eq_true (by omega : (0 : Int) < ((dg l).length : Int))]
      refine iteT ⟨_, rfl, _, rfl, _, rfl, _, rfl, sz _ d63, ?_⟩
      have sl : Txt.slice (Sx (dg l)) none (some ((dg l).length : Int)) = Sx (dg l) := by
        have e := SX.slice_to (a := dg l) (i := ((dg l).length : Int)) (by omega)
        rw [Int.toNat_natCast, List.take_length] at e
        exact e
      rw [sl]
      refine ⟨_, _, rfl, intText_S hd (by omega), by rw [ln]; omega, ?_⟩
      refine ⟨_, rfl, _, rfl, _, rfl, sz _ d63, ?_⟩
      have rg : ∀ k : Fin 64, RgC (k.val : Int) (k.val : Int) 64 0 := fun k => ⟨by decide, by decide, by revert k; decide +kernel, by revert k; decide +kernel⟩
      rw [ln]
      refine ⟨_, _, _, 0, rfl, rg ⟨(dg l).length, by omega⟩, ?_⟩
      refine for_rangeC (lo := ((dg l).length : Int)) (c := 64) (n := 0) (fun i σ H5 => σ = [some (.str (Sx l)), some (.str (Sx (dg l))), some (.int ((dg l).length : Int)), some (.int ((NumText.digitsVal (dg l) : Nat) : Int)), none] ∧ H5 = G) ⟨rfl, rfl⟩ (fun i σ H5 h _ => absurd h (Nat.not_lt_zero _)) ?_
      rintro σ H5 ⟨rfl, rfl⟩
      refine ⟨_, rfl, ⟨_, rfl⟩, _, _, rfl, rfl, _, rfl, ?_⟩
      rw [show Txt.startswith (Sx l) (Str.ofString "-") = decide (l.head? = some 45) from st l 45]
      unfold val at q
      by_cases h : l.head? = some 45
      · rw [if_pos h] at q
        rw [decide_eq_true h]
        exact iteT ⟨_, rfl, _, rfl, q⟩
      · rw [if_neg h] at q
        rw [decide_eq_false h]
        exact iteF ⟨_, rfl, q⟩
    obtain ⟨tR, hR, qR⟩ : ∃ t : TS, PSs (cxOf CX0 P w K mg base ["word", "digits", "first", "number", "start"] "read_number" (defScope sReadN) f cdv A outer s H E).nox ((defBody sReadN).drop 1) t ∧ ∀ (D : Ends) (G : Hp) (m : List Nat), m = dg l → D.rt (if can l = true then .int (val l) else .non) G → t D [some (.str (Sx l)), some (.str (Sx m)), none, none, none] G := by
      refine ⟨_, (pss_cons (ps_if (PW.pt (pw_or (pt_not (pt_val (pe_m0 PySem.F.slot_str_isascii PySem.F.type_str_isascii mt_isascii (pv 1)))) (pw_or1 (pt_not (pt_val (pe_m0 PySem.F.slot_str_isdigit PySem.F.type_str_isdigit mt_isdigit (pv 1))))))) (pss_one (ps_ret pe_non)) pss_nil)
      (pss_cons (ps_if (PW.pt (pw_and (pt_val (pe_m1 PySem.F.slot_str_startswith PySem.F.type_str_startswith mt_startswith (pv 1) pe_str)) (pw_and1 (pt_cmpR op_ne (pv 0) pe_str (nomark _))))) (pss_one (ps_ret pe_non)) pss_nil)
      hT)), ?_⟩
      rintro D G m rfl q
      have ds := digits_S (dg l)
      refine ⟨_, rfl, ⟨_, rfl⟩, _, rfl, rfl, trivial, _, rfl, ?_⟩
      cases ha : Txt.isascii (Sx (dg l)) with
      | false =>
        rw [ha, Bool.false_and] at ds
        have c0 : can l = false := by unfold can; rw [← ds]; rfl
        rw [c0] at q
        exact iteT q
      | true =>
        rw [ha, Bool.true_and] at ds
        refine iteF ⟨_, rfl, ⟨_, rfl⟩, _, rfl, rfl, trivial, _, rfl, ?_⟩
        rw [ds]
        cases hd : allD (dg l) with
        | false =>
          have c0 : can l = false := by unfold can; rw [hd]; rfl
          rw [c0] at q
          exact iteT q
        | true =>
          obtain ⟨ne, ad⟩ := allD_iff.mp hd
          refine iteF ⟨_, rfl, ⟨_, rfl⟩, _, _, rfl, rfl, _, rfl, ?_⟩
          rw [show Txt.startswith (Sx (dg l)) (Str.ofString "0") = decide ((dg l).head? = some 48) from st (dg l) 48]
          have go : can l = true → (tL : TS) → True := fun _ _ => trivial
          clear go
          by_cases h0 : (dg l).head? = some 48
          · rw [decide_eq_true h0]
            refine iteT ⟨_, rfl, rfl, ?_⟩
            by_cases h1 : l = [48]
            · have hc : can l = true := by rw [h1]; decide +kernel
              rw [hc] at q
              have e : V.str (Sx l) = V.str (Str.ofString "0") := by rw [h1]; rfl
              refine ⟨_, rfl, ?_⟩
              rw [decide_eq_true e]
              exact iteF (qT _ G hd q)
            · have hc : can l = false := by unfold can; rw [hd, decide_eq_true h0, decide_eq_true h1]; rfl
              rw [hc] at q
              have e : ¬ V.str (Sx l) = V.str (Str.ofString "0") := fun z => h1 (S_inj (V.str.inj z))
              refine ⟨_, rfl, ?_⟩
              rw [decide_eq_false e]
              exact iteT q
          · rw [decide_eq_false h0]
            refine iteF ?_
            have hc : can l = true := by unfold can; rw [hd, decide_eq_false h0]; rfl
            rw [hc] at q
            exact qT _ G hd q
    refine ⟨_, pss_cons (ps_set (i := 1) scReadN.nd rfl (.inl rfl) (pe_ifExp (pt_val (pe_m1 PySem.F.slot_str_startswith PySem.F.type_str_startswith mt_startswith (pv 0) pe_str)) (pe_slice C8.sl_txt (pv 0) (po_some pe_int) po_none) (pv 0))) hR, ?_⟩
    refine ⟨_, rfl, ⟨_, rfl⟩, _, _, rfl, rfl, _, rfl, ?_⟩
    rw [show Txt.startswith (Sx l) (Str.ofString "-") = decide (l.head? = some 45) from st l 45]
    by_cases h : l.head? = some 45
    · rw [decide_eq_true h]
      refine iteT ⟨_, rfl, _, rfl, _, rfl, sz l hl, ?_⟩
      rw [dig_slice l h]
      exact qR _ H _ rfl k
    · rw [decide_eq_false h]
      refine iteF ⟨_, rfl, ?_⟩
      have e : dg l = l := by unfold dg; rw [if_neg h]
      exact qR _ H _ e.symm k
end
end Ev
namespace Ev
open PySem L2 PySem.Spec PyProof.Rows
/-! The pieces of a text between the signs s. -/
def pcz (s : Nat) (L : List Nat) : List (List Nat) := TL.spl [s] 0 [] L
theorem preS (s c : Nat) (r : List Nat) : TL.pre [s] (c :: r) = decide (c = s) := by
  unfold TL.pre
  by_cases h : c = s
  · subst h; simp
  · simp [h]
theorem spl_sepS (s : Nat) : ∀ (a acc r : List Nat), TL.spl [s] 0 acc (a ++ s :: r) = TL.spl [s] 0 acc a ++ TL.spl [s] 0 [] r := by
  intro a
  induction a with
  | nil =>
    intro acc r
    rw [List.nil_append, TL.spl_hit (by rw [preS]; simp), TL.spl_nil]
    rfl
  | cons c a ih =>
    intro acc r
    by_cases h : c = s
    · rw [List.cons_append, TL.spl_hit (by rw [preS, h]; simp), TL.spl_hit (by rw [preS, h]; simp)]
      show acc :: TL.spl [s] 0 [] (a ++ s :: r) = _
      rw [ih]
      rfl
    · rw [List.cons_append, TL.spl_miss (by rw [preS]; simp [h]), TL.spl_miss (by rw [preS]; simp [h]), ih]
theorem spl_boundS (s : Nat) : ∀ (a acc : List Nat), (∀ p ∈ TL.spl [s] 0 acc a, p.length ≤ acc.length + a.length ∧ ∀ c ∈ p, c ∈ acc ∨ c ∈ a) ∧ (TL.spl [s] 0 acc a).length ≤ a.length + 1 := by
  intro a
  induction a with
  | nil =>
    intro acc
    rw [TL.spl_nil]
    simp
  | cons c a ih =>
    intro acc
    by_cases h : c = s
    · rw [TL.spl_hit (by rw [preS, h]; simp)]
      show (∀ p ∈ acc :: TL.spl [s] 0 [] a, _) ∧ (acc :: TL.spl [s] 0 [] a).length ≤ _
      obtain ⟨h1, h2⟩ := ih []
      refine ⟨fun p hp => ?_, by simp; omega⟩
      rcases List.mem_cons.mp hp with rfl | hp
      · exact ⟨by simp, fun x hx => .inl hx⟩
      · obtain ⟨z1, z2⟩ := h1 p hp
        refine ⟨by simp at z1 ⊢; omega, fun x hx => .inr ?_⟩
        rcases z2 x hx with z | z
        · cases z
        · exact List.mem_cons_of_mem _ z
    · rw [TL.spl_miss (by rw [preS]; simp [h])]
      obtain ⟨h1, h2⟩ := ih (acc ++ [c])
      refine ⟨fun p hp => ?_, by simp; omega⟩
      obtain ⟨z1, z2⟩ := h1 p hp
      refine ⟨by simp at z1 ⊢; omega, fun x hx => ?_⟩
      rcases z2 x hx with z | z
      · rcases List.mem_append.mp z with z | z
        · exact .inl z
        · have : x = c := by simpa using z
          exact .inr (by rw [this]; exact List.mem_cons_self)
      · exact .inr (List.mem_cons_of_mem _ z)
theorem pcz_bound (s : Nat) (l : List Nat) : (∀ p ∈ pcz s l, p.length ≤ l.length ∧ ∀ c ∈ p, c ∈ l) ∧ (pcz s l).length ≤ l.length + 1 := by
  obtain ⟨h1, h2⟩ := spl_boundS s l []
  refine ⟨fun p hp => ?_, h2⟩
  obtain ⟨z1, z2⟩ := h1 p hp
  exact ⟨by simpa using z1, fun c hc => (z2 c hc).elim (fun z => by cases z) id⟩
/-- a text with the sign s between a and r -/
theorem pcz_sep (s : Nat) (a r : List Nat) : pcz s (a ++ s :: r) = pcz s a ++ pcz s r := spl_sepS s a [] r
theorem pcz_none {s : Nat} {l : List Nat} (h : s ∉ l) : pcz s l = [l] := by
  have e := TL.spl_last1 (s := s) (S := []) (p := l) (acc := []) h
  exact e
theorem split_pcz {s : Nat} (hs : s < 256) (L : List Nat) : (Txt.split (Sx L) (Sx [s])).map V.str = (pcz s L).map (fun l => V.str (Sx l)) := by
  have e := SX.split_S (a := L) (b := [s]) (by simp) (by simp [hs])
  show (Txt.split (SX.S L) (SX.S [s])).map V.str = _
  rw [e, List.map_map]
  rfl
end Ev
namespace Ev
open PySem L2 PySem.Spec PyProof.Rows
abbrev sReadP : Stmt := top 22
/-- what read_number gives -/
def rdV (l : List Nat) : V := if can l = true then .int (val l) else .non
/-- the pair that a word writes -/
def pairW (l : List Nat) : Option (Int × Int) := match pcz 47 l with
  | [a, b] => if can a = true ∧ can b = true then some (val a, val b) else none
  | _ => none
def OutPr (H : Hp) (Q : VK) : Option (Int × Int) → Prop
  | none => ∀ H', Same H H' → Q .non H'
  | some (p, q) => ∀ (r : Addr) (H' : Hp), Same H H' → H' r = some (.tup [.int p, .int q]) → Q (.ref r) H'
def spReadP : Sp := fun vs H Q _ => ∃ l : List Nat, vs = [.str (Sx l)] ∧ l.length ≤ 63 ∧ OutPr H Q (pairW l)
section
variable {P : Program} {w : World} {K : PySem.W.Frag} {mg : Str → Option Value} {base : Heap}
theorem scReadP : FnScope ["word", "numbers", "half"] ["word"] (defScope sReadP) := ⟨rfl, rfl, rfl, by decide +kernel, rfl, by decide +kernel, by decide +kernel⟩
theorem ok_readP {f : Addr} {fd : FuncData} (F : Fun K "read_pair" "read_pair" sReadP f fd) (T : Blt mg) (D1 : Df P w K mg base 1 "read_number" ["word"] spReadN) : FnOk P w K mg base CX0 2 f fd ["word"] spReadP := by
  obtain ⟨f1, fd1, G1, g1, k1, b1⟩ := D1.ex
  refine F.ok scReadP (fun vs H Q E h => ?_) (fun cdv A outer s H vs Q E hr h => ?_)
  · obtain ⟨l, rfl, _⟩ := h
    rfl
  · obtain ⟨l, rfl, hl, kk⟩ := h
    refine ⟨_, pss_cons (ps_setLc (i := 1) (te := tCall spReadN [] E0 (tCons (tVar 2) tNil)) (own := [("half", 2)]) (g := gName 2) (tt := tYes) (by rfl) scReadP.nd rfl rfl (sw_true rfl rfl rfl (by decide +kernel)) (pi_list (pe_split (pv 0) pe_str)) (blkOk_by (own := [("half", 2)]) (N := ["word", "numbers", "half"]) (sc := defScope sReadP) (by decide +kernel))
        (fun _ _ _ _ _ => pg_name (i := 2) scReadP.nd rfl (.inl rfl)) (fun _ _ _ _ _ => pts_nil) (fun _ _ _ _ _ => pe_call G1 hr (by rfl) g1 k1 b1 .nil pass0 (pa_cons (pv 2) pa_nil)))
      (pss_cons (ps_if (PW.pt (pw_or (pt_cmpR op_ne (pe_callB call_len_seq (by rfl) T.len PySem.boot_len (pa_cons (pv 1) pa_nil)) pe_int (nomark _)) (pw_or1 (pt_cmpR op_in_seq pe_non (pv 1) (by rfl))))) (pss_one (ps_ret pe_non)) pss_nil)
      (pss_one (ps_ret (pe_callTy call_tuple_of (by rfl) T.tuple (by decide +kernel) (pa_cons (pv 1) pa_nil))))), ?_⟩
    have sz : (Sx l).length + 2 ≤ sizeLine := by rw [SX.S_len, sizeLine_eq]; omega
    refine ⟨_, rfl, ⟨_, rfl⟩, _, _, rfl, rfl, by decide +kernel, sz, fun W nW => ?_⟩
    have eS : (Txt.split (Sx l) (Str.ofString "/")).map V.str = (pcz 47 l).map (fun l => V.str (Sx l)) := split_pcz (by decide) l
    rw [eS]
    have hb := (pcz_bound 47 l).1
    have hlen := (pcz_bound 47 l).2
    have hW : upd H W (.lst ((pcz 47 l).map (fun l => V.str (Sx l)))) W = some (.lst ((pcz 47 l).map (fun l => V.str (Sx l)))) := upd_same
    have sW : Same H (upd H W (.lst ((pcz 47 l).map (fun l => V.str (Sx l))))) := same_new nW
    generalize upd H W (.lst ((pcz 47 l).map (fun l => V.str (Sx l)))) = H1 at hW sW ⊢
    unfold pairW at kk
    generalize pcz 47 l = hs at hb hlen hW kk
    refine ⟨W, rfl, ⟨_, SqL.of hW⟩, fun D nD => ?_⟩
    have WD := ne_of_none hW nD
    have wk : Walk (Itl K W) hs.length (fun H => SqL K H W (hs.map (fun l => V.str (Sx l)))) (YAt (hs.map (fun l => V.str (Sx l)))) := by
      have w := walk_list (K := K) (a := W) (xs := hs.map (fun l => V.str (Sx l)))
      rw [List.length_map] at w
      exact w
    refine lc_pureV (n := hs.length) wk (hs.map rdV) (by simp) (by omega) (fun H' h => SqL.of (h _ _ WD hW)) (fun i v H2 H' r hi hr' bt _ y R Wk k => ?_) (fun H' bt hD => ?_)
    · obtain ⟨rfl, hv⟩ := y
      rw [List.getElem?_map] at hv hr'
      obtain ⟨x, hx, rfl⟩ := Option.map_eq_some_iff.mp hv
      rw [hx] at hr'
      have er : rdV x = r := Option.some.inj hr'
      subst er
      refine ⟨rfl, _, rfl, x, rfl, by have := (hb x (List.mem_of_getElem? hx)).1; omega, ?_⟩
      exact k _ (Same.refl _)
    · have s1 : Same H H' := sW.trans fun c o e => bt c o (ne_of_none e nD) e
      refine ⟨_, rfl, D, _, rfl, .inl (SqL.of hD), rfl, _, rfl, ?_⟩
      rw [List.length_map]
      by_cases e : hs.length = 2
      · match hs, e, hD, kk with
        | [a, b], _, hD, kk =>
          have kk : OutPr H Q (if can a = true ∧ can b = true then some (val a, val b) else none) := kk
          have fl : ∀ x, flatV (rdV x) = true := fun x => by unfold rdV; cases can x <;> rfl
          have iv : inV .non ([a, b].map rdV) = !(can a && can b) := by
            simp only [inV, rdV, List.map_cons, List.map_nil, List.any_cons, List.any_nil]
            cases can a <;> cases can b <;> simp [eqV]
          refine iteF ⟨_, rfl, D, _, rfl, .inl (SqL.of hD), rfl, by simp [fl], _, rfl, ?_⟩
          rw [if_neg (by decide), iv]
          cases ha : can a with
          | false =>
            rw [if_neg (by rw [ha]; simp)] at kk
            exact iteT (kk _ s1)
          | true =>
            cases hb' : can b with
            | false =>
              rw [if_neg (by rw [hb']; simp)] at kk
              exact iteT (kk _ s1)
            | true =>
              rw [if_pos ⟨ha, hb'⟩] at kk
              have er : [a, b].map rdV = [V.int (val a), V.int (val b)] := by unfold rdV; simp [ha, hb']
              refine iteF ⟨_, rfl, D, _, rfl, .inl ⟨SqL.of hD, fun r nr => ?_⟩⟩
              exact kk r _ (s1.trans (same_new nr)) (by rw [upd_same, er])
      · have e2 : decide (V.int (hs.length : Int) = V.int 2) = false := decide_eq_false fun z => by injection z with z; omega
        rw [e2]
        have kn : OutPr H Q none := by
          match hs, e, kk with
          | [], _, kk => exact kk
          | [_], _, kk => exact kk
          | _ :: _ :: _ :: _, _, kk => exact kk
        exact iteT (iteT (kn _ s1))
end
end Ev
namespace Ev
open PySem L2 PySem.Spec PyProof.Rows
/-! What the words of a rule say: for the program's reading and for the law's own look alike. -/
def nW (lo hi : Int) (l : List Nat) : Option Int := if can l = true ∧ lo ≤ val l ∧ val l ≤ hi then some (val l) else none
def pW (m : Int) (l : List Nat) : Option (Int × Int) := match pcz 47 l with
  | [a, b] => match nW 1 m a, nW 1 m b with
    | some x, some y => some (x, y)
    | _, _ => none
  | _ => none
def tW (l : List Nat) : Option (Int × Int) := match pW 6 l with
  | some (p, q) => if q ≤ p then some (p, q) else none
  | none => none
def wTurn : List Nat := [116, 117, 114, 110]
def wTry : List Nat := [116, 114, 121]
/-- the numbers that the word at a place tells -/
def slotO (j : Nat) (l : List Nat) : Option (List Int) :=
  if j = 1 then (tW l).map fun z => [z.1, z.2] else if j = 3 then (pW 8 l).map fun z => [z.1, z.2] else (nW (-6) 6 l).map fun z => [z]
def slotS (ws : List (List Nat)) (j : Nat) : Option (List Int) := ws[j]?.bind (slotO j)
def manyOf (ws : List (List Nat)) : Option Nat := if ws[0]? = some wTurn then some 5 else if ws[0]? = some wTry then some 3 else none
/-- all words ahead of j stand -/
def okTo (ws : List (List Nat)) (j : Nat) : Prop := ∀ i, 1 ≤ i → i < j → (slotS ws i).isSome = true
def accL (ws : List (List Nat)) : Nat → List Int
  | 0 => []
  | j + 1 => accL ws j ++ (slotS ws (j + 1)).getD []
def rowL : List Int → Row
  | [p, q, k, t, s, c] => .tn p q k t s c
  | [p, q, k] => .tr p q k
  | _ => .tr 0 0 0
/-- the first word that cannot stand, or lacks -/
inductive Wr (ws : List (List Nat)) : Option Nat → Prop
  | head : manyOf ws = none → Wr ws (some 0)
  | at_ (m j : Nat) : manyOf ws = some m → 1 ≤ j → j < m → okTo ws j → slotS ws j = none → Wr ws (some j)
  | long (m : Nat) : manyOf ws = some m → okTo ws m → m < ws.length → Wr ws (some m)
  | no (m : Nat) : manyOf ws = some m → okTo ws m → ws.length ≤ m → Wr ws none
theorem wr_unique {ws : List (List Nat)} {a b : Option Nat} (h : Wr ws a) (k : Wr ws b) : a = b := by
  have big : ∀ {m j : Nat}, okTo ws m → 1 ≤ j → j < m → slotS ws j = none → False := fun o h1 h2 e => by
    have := o _ h1 h2
    rw [e] at this
    cases this
  cases h with
  | head e =>
    cases k with
    | head _ => rfl
    | at_ m j e2 => rw [e] at e2; cases e2
    | long m e2 => rw [e] at e2; cases e2
    | no m e2 => rw [e] at e2; cases e2
  | at_ m j e h1 h2 h3 h4 =>
    cases k with
    | head e2 => rw [e] at e2; cases e2
    | at_ m' j' e2 k1 k2 k3 k4 =>
      rcases Nat.lt_trichotomy j j' with z | z | z
      · exact (big k3 h1 z h4).elim
      · rw [z]
      · exact (big h3 k1 z k4).elim
    | long m' e2 k1 k2 => rw [e] at e2; cases e2; exact (big k1 h1 h2 h4).elim
    | no m' e2 k1 k2 => rw [e] at e2; cases e2; exact (big k1 h1 h2 h4).elim
  | long m e h1 h2 =>
    cases k with
    | head e2 => rw [e] at e2; cases e2
    | at_ m' j' e2 k1 k2 k3 k4 => rw [e] at e2; cases e2; exact (big h1 k1 k2 k4).elim
    | long m' e2 k1 k2 => rw [e] at e2; cases e2; rfl
    | no m' e2 k1 k2 => rw [e] at e2; cases e2; omega
  | no m e h1 h2 =>
    cases k with
    | head e2 => rw [e] at e2; cases e2
    | at_ m' j' e2 k1 k2 k3 k4 => rw [e] at e2; cases e2; exact (big h1 k1 k2 k4).elim
    | long m' e2 k1 k2 => rw [e] at e2; cases e2; omega
    | no m' e2 k1 k2 => rfl
theorem okTo_one (ws : List (List Nat)) : okTo ws 1 := fun i h1 h2 => by omega
theorem okTo_succ {ws : List (List Nat)} {j : Nat} (h : okTo ws j) (e : (slotS ws j).isSome = true) : okTo ws (j + 1) := fun i h1 h2 => by
  by_cases z : i = j
  · rw [z]; exact e
  · exact h i h1 (by omega)
theorem many_cases {ws : List (List Nat)} {m : Nat} (h : manyOf ws = some m) : (m = 5 ∧ ws[0]? = some wTurn) ∨ (m = 3 ∧ ws[0]? = some wTry) := by
  unfold manyOf at h
  by_cases z : ws[0]? = some wTurn
  · rw [if_pos z] at h; exact .inl ⟨(Option.some.inj h).symm, z⟩
  · rw [if_neg z] at h
    by_cases z2 : ws[0]? = some wTry
    · rw [if_pos z2] at h; exact .inr ⟨(Option.some.inj h).symm, z2⟩
    · rw [if_neg z2] at h; cases h
/-- a word that stands tells as many numbers as it must, within their bounds -/
theorem nW_some {lo hi : Int} {l : List Nat} {x : Int} (h : nW lo hi l = some x) : can l = true ∧ x = val l ∧ lo ≤ x ∧ x ≤ hi := by
  unfold nW at h
  split at h
  · rename_i z
    cases h
    exact ⟨z.1, rfl, z.2.1, z.2.2⟩
  · cases h
theorem pW_some {m : Int} {l : List Nat} {x y : Int} (h : pW m l = some (x, y)) : ∃ a b, pcz 47 l = [a, b] ∧ nW 1 m a = some x ∧ nW 1 m b = some y := by
  unfold pW at h
  split at h
  · rename_i a b e
    split at h
    · rename_i x' y' e1 e2
      cases h
      exact ⟨a, b, e, e1, e2⟩
    · cases h
  · cases h
theorem tW_some {l : List Nat} {x y : Int} (h : tW l = some (x, y)) : pW 6 l = some (x, y) ∧ y ≤ x := by
  unfold tW at h
  split at h
  · rename_i p q e
    split at h
    · cases h; exact ⟨e, by assumption⟩
    · cases h
  · cases h
theorem pW_bnd {m : Int} {l : List Nat} {x y : Int} (h : pW m l = some (x, y)) : (1 ≤ x ∧ x ≤ m) ∧ 1 ≤ y ∧ y ≤ m := by
  obtain ⟨a, b, _, h1, h2⟩ := pW_some h
  exact ⟨(nW_some h1).2.2, (nW_some h2).2.2⟩
theorem slot1 {ws : List (List Nat)} {v : List Int} (h : slotS ws 1 = some v) : ∃ p q, v = [p, q] ∧ 1 ≤ q ∧ q ≤ p ∧ p ≤ 6 ∧ ∃ l, ws[1]? = some l ∧ tW l = some (p, q) := by
  unfold slotS at h
  obtain ⟨l, e, h⟩ := Option.bind_eq_some_iff.mp h
  unfold slotO at h
  rw [if_pos rfl] at h
  obtain ⟨⟨p, q⟩, e2, rfl⟩ := Option.map_eq_some_iff.mp h
  obtain ⟨h1, h2⟩ := tW_some e2
  obtain ⟨h3, h4⟩ := pW_bnd h1
  exact ⟨p, q, rfl, h4.1, h2, h3.2, l, e, e2⟩
theorem slot24 {ws : List (List Nat)} {j : Nat} (hj : j = 2 ∨ j = 4) {v : List Int} (h : slotS ws j = some v) : ∃ k, v = [k] ∧ -6 ≤ k ∧ k ≤ 6 ∧ ∃ l, ws[j]? = some l ∧ nW (-6) 6 l = some k := by
  unfold slotS at h
  obtain ⟨l, e, h⟩ := Option.bind_eq_some_iff.mp h
  unfold slotO at h
  rw [if_neg (by omega), if_neg (by omega)] at h
  obtain ⟨k, e2, rfl⟩ := Option.map_eq_some_iff.mp h
  obtain ⟨_, _, h3, h4⟩ := nW_some e2
  exact ⟨k, rfl, h3, h4, l, e, e2⟩
theorem slot3 {ws : List (List Nat)} {v : List Int} (h : slotS ws 3 = some v) : ∃ t s, v = [t, s] ∧ (1 ≤ t ∧ t ≤ 8) ∧ (1 ≤ s ∧ s ≤ 8) ∧ ∃ l, ws[3]? = some l ∧ pW 8 l = some (t, s) := by
  unfold slotS at h
  obtain ⟨l, e, h⟩ := Option.bind_eq_some_iff.mp h
  unfold slotO at h
  rw [if_neg (by omega), if_pos rfl] at h
  obtain ⟨⟨p, q⟩, e2, rfl⟩ := Option.map_eq_some_iff.mp h
  obtain ⟨h3, h4⟩ := pW_bnd e2
  exact ⟨p, q, rfl, h3, h4, l, e, e2⟩
def Row.ns : Row → List Int
  | .tr p q k => [p, q, k]
  | .tn p q k t s c => [p, q, k, t, s, c]
theorem Row.vs_ns (r : Row) : r.vs = r.ns.map V.int := by cases r <;> rfl
def Row.fit : Row → Prop
  | .tr p q k => 1 ≤ q ∧ q ≤ p ∧ p ≤ 6 ∧ -6 ≤ k ∧ k ≤ 6
  | .tn p q k t s c => (1 ≤ q ∧ q ≤ p ∧ p ≤ 6 ∧ -6 ≤ k ∧ k ≤ 6) ∧ okT t s c
def prW (p q : Int) : List Nat := txc p ++ 47 :: txc q
/-- the words of a rule's text -/
def Row.ws : Row → List (List Nat)
  | .tr p q k => [wTry, prW p q, txc k]
  | .tn p q k t s c => [wTurn, prW p q, txc k, prW t s, txc c]
def jz (s : Nat) (ws : List (List Nat)) : List Nat := TL.joinL [s] ws
theorem jz_cons (s : Nat) (a b : List Nat) (r : List (List Nat)) : jz s (a :: b :: r) = a ++ s :: jz s (b :: r) := rfl
theorem jz_spl (s : Nat) : ∀ (a acc : List Nat), jz s (TL.spl [s] 0 acc a) = acc ++ a := by
  intro a
  induction a with
  | nil =>
    intro acc
    rw [TL.spl_nil]
    simp [jz, TL.joinL]
  | cons c a ih =>
    intro acc
    by_cases h : c = s
    · rw [TL.spl_hit (by rw [preS, h]; simp)]
      have e := ih []
      have ne : TL.spl [s] 0 [] a ≠ [] := by
        intro z
        have := ih []
        cases a with
        | nil => rw [TL.spl_nil] at z; cases z
        | cons d t =>
          rw [z] at this
          cases this
      show jz s (acc :: TL.spl [s] 0 [] a) = _
      cases e2 : TL.spl [s] 0 [] a with
      | nil => exact absurd e2 ne
      | cons x y =>
        rw [jz_cons, ← e2, e, h]
        rfl
    · rw [TL.spl_miss (by rw [preS]; simp [h]), ih]
      simp
theorem jz_pcz (s : Nat) (L : List Nat) : jz s (pcz s L) = L := jz_spl s L []
theorem pcz_jz {s : Nat} : ∀ ws : List (List Nat), ws ≠ [] → (∀ l ∈ ws, s ∉ l) → pcz s (jz s ws) = ws := by
  intro ws
  induction ws with
  | nil => intro h _; exact absurd rfl h
  | cons a r ih =>
    intro _ h
    cases r with
    | nil => exact pcz_none (h a List.mem_cons_self)
    | cons c t =>
      rw [jz_cons, pcz_sep, ih (by simp) fun l hl => h l (List.mem_cons_of_mem _ hl), pcz_none (h a List.mem_cons_self)]
      rfl
theorem txc_sign {i : Int} {c : Nat} (h : c ∈ txc i) : c = 45 ∨ (48 ≤ c ∧ c ≤ 57) := by
  unfold txc at h
  split at h
  · rcases List.mem_cons.mp h with z | z
    · exact .inl z
    · exact .inr (TL.numL_digits _ c z)
  · exact .inr (TL.numL_digits _ c h)
theorem can_sign {l : List Nat} (h : can l = true) {c : Nat} (hc : c ∈ l) : c = 45 ∨ (48 ≤ c ∧ c ≤ 57) := by
  rw [← txc_val h] at hc
  exact txc_sign hc
theorem nW_back {lo hi : Int} {l : List Nat} {x : Int} (h : nW lo hi l = some x) : l = txc x := by
  obtain ⟨h1, rfl, _⟩ := nW_some h
  exact (txc_val h1).symm
theorem nW_txc {lo hi x : Int} (h1 : lo ≤ x) (h2 : x ≤ hi) : nW lo hi (txc x) = some x := by
  unfold nW
  rw [val_txc, if_pos ⟨can_txc x, h1, h2⟩]
theorem pW_back {m : Int} {l : List Nat} {x y : Int} (h : pW m l = some (x, y)) : l = prW x y := by
  obtain ⟨a, b, e, h1, h2⟩ := pW_some h
  have j := jz_pcz 47 l
  rw [e, jz_cons] at j
  rw [← j, nW_back h1, nW_back h2]
  rfl
theorem pcz_prW (x y : Int) : pcz 47 (prW x y) = [txc x, txc y] := by
  have no : ∀ i : Int, 47 ∉ txc i := fun i h => by
    have := txc_sign h
    omega
  have e : prW x y = jz 47 [txc x, txc y] := rfl
  rw [e]
  exact pcz_jz _ (by simp) fun l hl => by
    simp only [List.mem_cons, List.not_mem_nil, or_false] at hl
    rcases hl with rfl | rfl <;> exact no _
theorem pW_prW {m x y : Int} (h1 : 1 ≤ x) (h2 : x ≤ m) (h3 : 1 ≤ y) (h4 : y ≤ m) : pW m (prW x y) = some (x, y) := by
  unfold pW
  rw [pcz_prW]
  show (match nW 1 m (txc x), nW 1 m (txc y) with
    | some x, some y => some (x, y)
    | _, _ => none) = _
  rw [nW_txc h1 h2, nW_txc h3 h4]
theorem tW_prW {x y : Int} (h2 : x ≤ 6) (h3 : 1 ≤ y) (h : y ≤ x) : tW (prW x y) = some (x, y) := by
  unfold tW
  rw [pW_prW (by omega) h2 h3 (by omega)]
  exact if_pos h
/-- what all words together tell -/
theorem acc_row {ws : List (List Nat)} {m : Nat} (h : manyOf ws = some m) (ok : okTo ws m) : ∃ r : Row, accL ws (m - 1) = r.ns ∧ r.fit ∧ (m = 5 ↔ r.isT = true) ∧ (ws.length = m → ws = r.ws) := by
  have some_of : ∀ {o : Option (List Int)}, o.isSome = true → ∃ v, o = some v := fun {o} h => Option.isSome_iff_exists.mp h
  have g : ∀ {j : Nat} {l : List Nat}, ws[j]? = some l → ∀ h : j < ws.length, ws[j] = l := fun e h => by
    rw [List.getElem?_eq_getElem h] at e
    exact Option.some.inj e
  rcases many_cases h with ⟨rfl, h0⟩ | ⟨rfl, h0⟩
  · obtain ⟨v1, e1⟩ := some_of (ok 1 (by decide) (by decide))
    obtain ⟨v2, e2⟩ := some_of (ok 2 (by decide) (by decide))
    obtain ⟨v3, e3⟩ := some_of (ok 3 (by decide) (by decide))
    obtain ⟨v4, e4⟩ := some_of (ok 4 (by decide) (by decide))
    obtain ⟨p, q, rfl, b1, b2, b3, l1, w1, t1⟩ := slot1 e1
    obtain ⟨k, rfl, b4, b5, l2, w2, t2⟩ := slot24 (.inl rfl) e2
    obtain ⟨t, s, rfl, b6, b7, l3, w3, t3⟩ := slot3 e3
    obtain ⟨c, rfl, b8, b9, l4, w4, t4⟩ := slot24 (.inr rfl) e4
    refine ⟨.tn p q k t s c, ?_, ⟨⟨b1, b2, b3, b4, b5⟩, b6, b7, b8, b9⟩, by simp [Row.isT], fun hl => ?_⟩
    · show accL ws 4 = _
      simp only [accL, e1, e2, e3, e4]
      rfl
    · match ws, hl, h0, w1, w2, w3, w4 with
      | [x0, x1, x2, x3, x4], _, h0, w1, w2, w3, w4 =>
        obtain rfl : x0 = wTurn := Option.some.inj h0
        obtain rfl : x1 = l1 := Option.some.inj w1
        obtain rfl : x2 = l2 := Option.some.inj w2
        obtain rfl : x3 = l3 := Option.some.inj w3
        obtain rfl : x4 = l4 := Option.some.inj w4
        show _ = [wTurn, prW p q, txc k, prW t s, txc c]
        rw [← pW_back (tW_some t1).1, ← nW_back t2, ← pW_back t3, ← nW_back t4]
  · obtain ⟨v1, e1⟩ := some_of (ok 1 (by decide) (by decide))
    obtain ⟨v2, e2⟩ := some_of (ok 2 (by decide) (by decide))
    obtain ⟨p, q, rfl, b1, b2, b3, l1, w1, t1⟩ := slot1 e1
    obtain ⟨k, rfl, b4, b5, l2, w2, t2⟩ := slot24 (.inl rfl) e2
    refine ⟨.tr p q k, ?_, ⟨b1, b2, b3, b4, b5⟩, by simp [Row.isT], fun hl => ?_⟩
    · show accL ws 2 = _
      simp only [accL, e1, e2]
      rfl
    · match ws, hl, h0, w1, w2 with
      | [x0, x1, x2], _, h0, w1, w2 =>
        obtain rfl : x0 = wTry := Option.some.inj h0
        obtain rfl : x1 = l1 := Option.some.inj w1
        obtain rfl : x2 = l2 := Option.some.inj w2
        show _ = [wTry, prW p q, txc k]
        rw [← pW_back (tW_some t1).1, ← nW_back t2]
/-- a rule's own words -/
theorem row_words {r : Row} (h : r.fit) : Wr r.ws none ∧ manyOf r.ws = some (if r.isT then 5 else 3) ∧ accL r.ws ((if r.isT then 5 else 3) - 1) = r.ns := by
  cases r with
  | tr p q k =>
    obtain ⟨h1, h2, h3, h4, h5⟩ := h
    have e1 : slotS (Row.tr p q k).ws 1 = some [p, q] := by
      show (some (prW p q)).bind (slotO 1) = _
      rw [Option.bind_some]
      unfold slotO
      rw [if_pos rfl, tW_prW h3 h1 h2]
      rfl
    have e2 : slotS (Row.tr p q k).ws 2 = some [k] := by
      show (some (txc k)).bind (slotO 2) = _
      rw [Option.bind_some]
      unfold slotO
      rw [if_neg (by decide), if_neg (by decide), nW_txc h4 h5]
      rfl
    refine ⟨.no 3 rfl (fun i a b => ?_) (by show 3 ≤ 3; decide), rfl, ?_⟩
    · rcases (show i = 1 ∨ i = 2 by omega) with rfl | rfl
      · rw [e1]; rfl
      · rw [e2]; rfl
    · show accL _ 2 = _
      simp only [accL, e1, e2]
      rfl
  | tn p q k t s c =>
    obtain ⟨⟨h1, h2, h3, h4, h5⟩, ⟨h6, h7⟩, ⟨h8, h9⟩, h10, h11⟩ := h
    have e1 : slotS (Row.tn p q k t s c).ws 1 = some [p, q] := by
      show (some (prW p q)).bind (slotO 1) = _
      rw [Option.bind_some]
      unfold slotO
      rw [if_pos rfl, tW_prW h3 h1 h2]
      rfl
    have e2 : slotS (Row.tn p q k t s c).ws 2 = some [k] := by
      show (some (txc k)).bind (slotO 2) = _
      rw [Option.bind_some]
      unfold slotO
      rw [if_neg (by decide), if_neg (by decide), nW_txc h4 h5]
      rfl
    have e3 : slotS (Row.tn p q k t s c).ws 3 = some [t, s] := by
      show (some (prW t s)).bind (slotO 3) = _
      rw [Option.bind_some]
      unfold slotO
      rw [if_neg (by decide), if_pos rfl, pW_prW h6 h7 h8 h9]
      rfl
    have e4 : slotS (Row.tn p q k t s c).ws 4 = some [c] := by
      show (some (txc c)).bind (slotO 4) = _
      rw [Option.bind_some]
      unfold slotO
      rw [if_neg (by decide), if_neg (by decide), nW_txc h10 h11]
      rfl
    refine ⟨.no 5 rfl (fun i a b => ?_) (by show 5 ≤ 5; decide), rfl, ?_⟩
    · rcases (show i = 1 ∨ i = 2 ∨ i = 3 ∨ i = 4 by omega) with rfl | rfl | rfl | rfl
      · rw [e1]; rfl
      · rw [e2]; rfl
      · rw [e3]; rfl
      · rw [e4]; rfl
    · show accL _ 4 = _
      simp only [accL, e1, e2, e3, e4]
      rfl
/-- the text of a rule -/
def Row.tx (r : Row) : List Nat := jz 32 r.ws
theorem row_pcz {r : Row} : pcz 32 r.tx = r.ws := by
  have no : ∀ i : Int, 32 ∉ txc i := fun i h => by
    have := txc_sign h
    omega
  have no2 : ∀ p q : Int, 32 ∉ prW p q := fun p q h => by
    unfold prW at h
    rcases List.mem_append.mp h with h | h
    · exact no _ h
    · rcases List.mem_cons.mp h with h | h
      · cases h
      · exact no _ h
  refine pcz_jz _ (by cases r <;> simp [Row.ws]) fun l hl => ?_
  cases r with
  | tr p q k =>
    simp only [Row.ws, List.mem_cons, List.not_mem_nil, or_false] at hl
    rcases hl with rfl | rfl | rfl
    · decide
    · exact no2 _ _
    · exact no _
  | tn p q k t s c =>
    simp only [Row.ws, List.mem_cons, List.not_mem_nil, or_false] at hl
    rcases hl with rfl | rfl | rfl | rfl | rfl
    · decide
    · exact no2 _ _
    · exact no _
    · exact no2 _ _
    · exact no _
end Ev
namespace Ev
open PySem L2 PySem.Spec PyProof.Rows
/-! enumerate of a tuple, the start given by its name. -/
section
variable {M : Model} {A : Around} {E : Value → Shared → Prop} {s : Shared} {env : Env}
theorem callWith_typeKw {pos : Pos} {T : String} {first : List Value} {args : List (Bool × Sem Value)} {kw : List (Option Str × Sem Value)} {Q : Value → Shared → Prop} (hplain : args.any (·.1) = false) (hkw : kw.any (·.1.isNone) = false)
    (h : wpAny M A (evalArgs (.type T) true args kw) (fun a s₁ => wpAny M A (call (.type T) (first ++ a.pos) a.kw) Q E s₁) E s) :
    wpAny M A (callWith pos (.type T) first args kw) Q E s := by
  unfold callWith
  refine wpAny_bind (wpAny_holding (wpAny_mono h (fun a s₁ h₁ => wpAny_bind (wpAny_standAt ?_)) fun _ _ x => x))
  simp only [hplain, hkw, Bool.or_false]
  refine wpAny_bind (wpAny_pure ?_)
  exact wpAny_bind (wpAny_mono h₁ (fun r s₂ hr => wpAny_bind (wpAny_holding (wpAny_point (wpAny_pure hr)))) fun _ _ x => x)
end
def IteT (K : PySem.W.Frag) (a : Addr) (k0 : Int) : It where
  go i H := ∃ us : List V, SqT K H a us ∧ i < us.length
  yld i H v H' := ∃ T x, v = .ref T ∧ H T = none ∧ H' = upd H T (.tup [.int (k0 + (i : Int)), x]) ∧ ∀ us, SqT K H a us → us[i]? = some x
  stop i H := ∃ us : List V, SqT K H a us ∧ i = us.length
theorem turn_enumT {P : Program} {w : World} {K : PySem.W.Frag} {elts : List Expr} {kk : Nat} {tpos : Pos} {a e it : Addr} {k0 : Int} (ae : a ≠ e) (ai : a ≠ it) :
    Turn P w K (.Tuple elts kk tpos) (IteT K a k0) [e, it] e (fun i h => (∃ old, IsEnum h e it (k0 + (i : Int)) old) ∧ h.IsTupleIter it a i ∧ e ≠ it) where
  mem := by simp
  obj := fun i h st b hb => by
    obtain ⟨⟨old, he⟩, ⟨o, ho, hc, hd⟩, _⟩ := st
    have e' : b = e ∨ b = it := by simpa using hb
    rcases e' with z | z
    · rw [z]; exact ⟨_, he, fun v q => nomatch q⟩
    · rw [z]; exact ⟨o, ho, fun v q => by rw [hd] at q; cases q⟩
  keep := fun i h h' st k => let ⟨⟨old, he⟩, hi, hne⟩ := st; ⟨⟨old, k e (by simp) _ he⟩, hi.at fun o q => k it (by simp) o q, hne⟩
  item := by
    intro X hP hw hK hc i pins s σ H E J hf st hg
    subst hP hw hK
    obtain ⟨⟨old, he⟩, hit, hne⟩ := st
    obtain ⟨us, hq, hx⟩ := hg
    obtain ⟨its, rv, p, hz⟩ := J.tuple hq
    obtain ⟨u, hu, ru⟩ := rv.get (List.getElem?_eq_getElem hx)
    have l1 := rv.length
    have hd : X.A.in1.handled = none := J.ok.hd hc
    have hel : e < s.heap.objs.size := Heap.lt_size he
    have hil : it < s.heap.objs.size := by obtain ⟨_, q, _⟩ := hit; exact Heap.lt_size q
    refine wpAny_pyNext_enum_itemC (Draws.tuple hd it a ai its.toArray) he ⟨hit, p⟩ (by simp; omega) hne (by simp; exact ⟨hne, fun z => ae z.symm⟩) fun x h' tk hP ho hs' hT hsz hk => ?_
    obtain rfl : u = x := by
      have e : its[i]? = some x := by simpa using hP
      rw [hu] at e
      exact Option.some.inj e
    refine ⟨_, rfl, wpAny_letOwnedTupleGo_enum (s := { s with heap := h', toks := tk + 1 }) ho fun h'' he' sb => ?_⟩
    have hT2 : h''.get? s.heap.objs.size = some { cls := .type "tuple", data := .seq #[.int (k0 + (i : Int)) tk, u] } := (sb.2 _ (Nat.ne_of_gt hel)).trans hT
    have new : ObjOk X.prog X.w (upd H s.heap.objs.size (.tup [.int (k0 + (i : Int)), us[i]])) h'' s.heap.objs.size (.tup [.int (k0 + (i : Int)), us[i]]) :=
      ⟨by show 2 ≤ sizeLine; decide, [.int (k0 + (i : Int)) tk, u], .cons ⟨_, rfl⟩ (.cons ru .nil), ⟨_, hT2, rfl, _, rfl⟩⟩
    have I1 : Inv X pins σ (upd H s.heap.objs.size (.tup [.int (k0 + (i : Int)), us[i]])) { s with heap := h'', toks := tk + 1 } :=
      J.turnedNew (ch := [e, it]) (fun b ob hb q => (sb.2 b (fun z => hb (by simp [z]))).trans (hk b ob (fun z => hb (by simp [z])) (fun z => hb (by simp [z])) q)) hf (Nat.le_refl _) new
    refine ⟨.ref s.heap.objs.size, _, I1, rfl, ⟨_, us[i], rfl, J.hok.fresh (Nat.le_refl _), rfl, fun ys hy => by rw [J.tuple_inj hy hq]; exact List.getElem?_eq_getElem hx⟩, ⟨⟨u, ?_⟩, hs'.1.at fun o q => (sb.2 it (Ne.symm hne)).trans q, hne⟩, fun b hb => ?_⟩
    · have e1 : k0 + ((i + 1 : Nat) : Int) = k0 + (i : Int) + 1 := by omega
      rw [e1]; exact he'
    · have hb' : b < s.heap.objs.size := by
        have e' : b = e ∨ b = it := by simpa using hb
        rcases e' with z | z
        · rw [z]; exact hel
        · rw [z]; exact hil
      rw [upd_ne (Nat.ne_of_lt hb')]
      exact (hf b hb).1
  done := by
    intro X hP hw hK hc i pins s σ H E J hf st hg
    subst hP hw hK
    obtain ⟨⟨old, he⟩, hit, hne⟩ := st
    obtain ⟨us, hq, rfl⟩ := hg
    obtain ⟨its, rv, p, hz⟩ := J.tuple hq
    have l1 := rv.length
    have hd : X.A.in1.handled = none := J.ok.hd hc
    have ez : us.length = its.toArray.size := by simp; omega
    rw [ez] at hit
    refine wpAny_pyNext_enum_endD (Draws.tuple hd it a ai its.toArray) he ⟨hit, p⟩ fun h' hx => ⟨rfl, ?_⟩
    exact J.turnedL (t' := s.toks) (ch := [e, it]) (fun c o n q => hx c o (fun z => n (by simp [z])) q) hf
  self := fun A i s Q E st h => let ⟨⟨_, he⟩, _⟩ := st; wpAny_pyIter_enum he h
def iEnumT (K : PySem.W.Frag) (ta tk : TA) : TI := fun σ H R => ta σ H fun vs H1 => tk σ H1 fun ks H2 => ∃ a us k0, vs = [.ref a] ∧ ks = [.int k0] ∧ SqT K H2 a us ∧ 0 ≤ k0 ∧ k0 < 1000 ∧ R (IteT K a k0) H2
theorem pi_enumT {X : Cx} {e : Expr} {ta tk : TA} {kws : List Keyword} {p pos tpos : Pos} {elts : List Expr} {kk : Nat} (hg : Gl X "enumerate") (hm : X.mg "enumerate" = none) (ha : PA X [e] ta) (hkw : PK X kws tk)
    (hall : (backToKw pos (keywordEach kws X.env)).all (·.1.isSome) = true := by rfl) (hks : (backToKw pos (keywordEach kws X.env)).filterMap (·.1) = [Str.ofString "start"] := by rfl)
    (hs : starEach [e] X.env = [(false, eval e X.env)] := by rfl) (hpl : (backTo pos (starEach [e] X.env)).any (·.1) = false := by rfl) (hnn : (backToKw pos (keywordEach kws X.env)).any (·.1.isNone) = false := by rfl) :
    PI X (.Tuple elts kk tpos) (.Call (.Name "enumerate" p) [e] kws pos) (iEnumT X.K ta tk) := by
  refine ⟨fun pins s σ H R I h => ?_⟩
  refine wpAny_Call_Name_kw (ld_blt I hg hm boot_enumerate (callWith_typeKw hpl hnn (PyProof.Rows.evalArgs_kw2 hall (thn (ha.run pos pins s σ H _ I h) fun us s1 ⟨vs, H1, I1, r1, q1⟩ => thn (hkw.run pos pins s1 σ H1 _ I1 q1) fun ks s2 ⟨zs, H2, I2, r2, q2⟩ => ?_) hs)))
  obtain ⟨a, xs, k0, rfl, rfl, hq, k1, k2, q⟩ := q2
  rw [hks]
  cases r1 with
  | cons r rr =>
    cases rr
    cases r
    cases r2 with
    | cons r' rr' =>
      cases rr'
      obtain ⟨tk, rfl⟩ := r'
      obtain ⟨its, rv, p', hz⟩ := I2.tuple hq
      have la : a < s2.heap.objs.size := by obtain ⟨_, z, _⟩ := id p'; exact Heap.lt_size z
      refine enum_begins_start (begins_tuple a its.toArray) p' (by omega) (by omega) fun h' he hit hsz hk => wpAny_pyIter_enum he ?_
      have I3 : Inv X pins σ H2 { s2 with heap := h' } := I2.kept (t' := s2.toks) hk
      refine ⟨s2.heap.objs.size + 1, [s2.heap.objs.size + 1, s2.heap.objs.size], _, _, H2, rfl, I3, turn_enumT (k0 := k0) (e := s2.heap.objs.size + 1) (it := s2.heap.objs.size) (Nat.ne_of_lt (Nat.lt_succ_of_lt la)) (Nat.ne_of_lt la), ⟨⟨.none, by simpa using he⟩, ⟨_, hit, rfl, rfl⟩, Nat.succ_ne_self _⟩, fun b hb => ?_, q⟩
      have e' : b = s2.heap.objs.size + 1 ∨ b = s2.heap.objs.size := by simpa using hb
      have hle : s2.heap.objs.size ≤ b := by
        rcases e' with z | z
        · rw [z]; exact Nat.le_add_right _ _
        · rw [z]; exact Nat.le_refl _
      exact I2.fpOk hle (I2.hok.fresh hle)
end Ev
namespace ClX
open PySem PySem.Spec PyProof.Rows L2
/-- C.m is a staticmethod: its record at p, its def at g -/
structure SMet (K : PySem.W.Frag) (C : Addr) (mc : Value) (m : Str) (p g : Addr) : Prop where
  at_ : PySem.W.findCls K (.ref C) mc m = some (.get (.builtin "staticmethod.__get__") (.ref p) .none (.ref C))
  rc : ∃ rest, PySem.W.recIn K p "staticmethod" = some (.ref g :: rest)
  kp : PySem.W.keepIn K (.ref g) = true
section
variable {X : Cx} {pins : List (Addr × Obj)} {σ : L2.St} {H : Hp} {s : Shared} {C p g : Addr} {mc : Value} {m : Str} {A : Around} {E : Value → Shared → Prop}
theorem getmethsm_ok {pl : Sem Bool} {Q : Value × List Value → Shared → Prop} (I : Inv X pins σ H s) (r : CRead X.K C mc) (k : SMet X.K C mc m p g)
    (h : ∀ s', Inv X pins σ H s' → Q (.ref g, []) s') : wpAny (model X.prog X.w) A (getMethod (.ref C) m pl) Q E s := by
  obtain ⟨rest, hp⟩ := k.rc
  refine PySem.W.method_cls I.kIn r.ga (PySem.W.cls_bind I.kIn r.rd k.at_ ?_)
  refine wpAny_call (PySem.W.sm_get (s := { s with toks := s.toks + 1 }) I.kIn hp (PySem.W.handed_on rfl ?_))
  exact h _ (I.tok _)
end
section
variable {X : Cx} {CX : CXT} {k : Nat} {C p g : Addr} {mc : Value} {sp : Sp} {E : XK} {o e : Expr} {es : List Expr} {m : Str} {pos apos : Pos} {ta : TE} {t tk : TA} {pl : Sem Bool}
/-- C.m(..), m a staticmethod -/
def tSMeth (C : Addr) (sp : Sp) (E : XK) (ta : TE) (t : TA) : TE := fun σ H Q => ta σ H fun x H1 => x = .ref C ∧ t σ H1 fun vs H2 => sp vs H2 Q E
theorem pe_smeth (he : PE X o ta) (r : CRead X.K C mc) (c : SMet X.K C mc m p g) (F : FnR X.prog X.w X.K X.mg X.base CX k g sp) (hr : Room k X.A) (hx : Passes CX X E) (ha : PA X (e :: es) t)
    (hst : starEach (e :: es) X.env = (false, eval e X.env) :: starEach es X.env := by rfl) (hpl : (backTo pos (starEach es X.env)).any (·.1) = false := by rfl)
    (ht : eval (.Call (.Attribute o m apos) (e :: es) [] pos) X.env = (do
      let ov ← eval o X.env
      standAt apos.atName
      let (f, first) ← holding [ov] (getMethod ov m pl)
      callWith pos f first (backTo pos (starEach (e :: es) X.env)) (backToKw pos (keywordEach [] X.env))) := by rfl) :
    PE X (.Call (.Attribute o m apos) (e :: es) [] pos) (tSMeth C sp E ta t) := by
  refine ⟨fun pins s σ H Q I h => ?_⟩
  refine PySem.W.methodCall_KW (pl := pl) (thn (he.run pins s σ H _ I h) fun u s1 ⟨x, H1, I1, rx, ex, q⟩ => ?_) ht
  subst ex
  obtain rfl : u = Value.ref C := rx
  refine getmethsm_ok I1 r c fun s2 I2 => ?_
  refine PySem.W.callWith_K (h₀ := X.base) I2.ok.mod.kin c.kp (thn (ha.run pos pins s2 σ H1 _ I2 q) fun us s3 ⟨vs, H2, I3, rv, q2⟩ => ⟨I3.kIn, ?_⟩) hst hpl
  exact wpAny_call (run_fnR F hr hx I3 rv q2)
variable {kws : List Keyword} {ps ks : List Str} {fd : FuncData} {gg : List Value → List Value → List Value} {gV : List V → List V → List V}
/-- C.m(k = v, ..), m a staticmethod: keywords alone -/
def tSMethK (C : Addr) (sp : Sp) (gV : List V → List V → List V) (E : XK) (ta : TE) (tk : TA) : TE := fun σ H Q => ta σ H fun x H1 => x = .ref C ∧ tk σ H1 fun zs H2 => sp (gV [] zs) H2 Q E
theorem pe_smethK0 (he : PE X o ta) (r : CRead X.K C mc) (c : SMet X.K C mc m p g) (F : FnOk X.prog X.w X.K X.mg X.base CX k g fd ps sp) (hr : Room k X.A) (hb : KBinds X.K fd ps ks gg gV) (hx : Passes CX X E) (hkw : PK X kws tk)
    (hall : (backToKw pos (keywordEach kws X.env)).all (·.1.isSome) = true := by rfl) (hks : (backToKw pos (keywordEach kws X.env)).filterMap (·.1) = ks := by rfl)
    (hpl : ((backTo pos (starEach [] X.env)).any (·.1) || (backToKw pos (keywordEach kws X.env)).any (·.1.isNone)) = false := by rfl)
    (ht : eval (.Call (.Attribute o m apos) [] kws pos) X.env = (do
      let ov ← eval o X.env
      standAt apos.atName
      let (f, first) ← holding [ov] (getMethod ov m pl)
      callWith pos f first (backTo pos (starEach [] X.env)) (backToKw pos (keywordEach kws X.env))) := by rfl) :
    PE X (.Call (.Attribute o m apos) [] kws pos) (tSMethK C sp gV E ta tk) := by
  refine ⟨fun pins s σ H Q I h => ?_⟩
  refine PySem.W.methodCall_KW (pl := pl) (thn (he.run pins s σ H _ I h) fun u s1 ⟨x, H1, I1, rx, ex, q⟩ => ?_) ht
  subst ex
  obtain rfl : u = Value.ref C := rx
  refine getmethsm_ok I1 r c fun s2 I2 => ?_
  refine PySem.W.callWith_KW0 (h₀ := X.base) I2.ok.mod.kin c.kp hall (thn (hkw.run pos pins s2 σ H1 _ I2 q) fun ws s3 ⟨zs, H2, I3, rz, q2⟩ => ⟨I3.kIn, ?_⟩) hpl
  rw [hks]
  have r2 := hb.rel (vs := []) (us := []) .nil rz
  have hl : (gg [] ws).length = ps.length := by rw [← r2.length]; exact F.len _ _ _ _ q2
  refine wpAny_call (codeAny_mono (F.run X.A X.stack s3 H2 ⟨[], ks.zip ws⟩ (gg [] ws) (gV [] zs) Q E hr I3.env0 (hb.to s3 [] ws I3.kIn hl) r2 q2) fun r s' hq => ?_)
  cases r with
  | error e => exact hx _ σ H2 s3 e s' I3 hq
  | ok fl =>
    cases fl with
    | ret u => exact I3.after hq
    | next => exact False.elim hq
    | brk => exact False.elim hq
    | cont => exact False.elim hq
end
end ClX
namespace Ev
open PySem L2 PySem.Spec PyProof.Rows
abbrev sWrong : Stmt := top 42
abbrev sWordV : Stmt := top 43
abbrev sCan : Stmt := top 44
/-- what a word's value is -/
inductive Wv
  | no
  | nu (i : Int)
  | pr (p q : Int)
def wvO (l : List Nat) : Wv := if 47 ∈ l then (match pairW l with | some (p, q) => .pr p q | none => .no) else if can l = true then .nu (val l) else .no
def WvAt (H : Hp) (v : V) : Wv → Prop
  | .no => v = .non
  | .nu i => v = .int i
  | .pr p q => ∃ r : Addr, v = .ref r ∧ H r = some (.tup [.int p, .int q])
theorem WvAt.keep {H H' : Hp} {v : V} {o : Wv} (h : WvAt H v o) (k : Same H H') : WvAt H' v o := by
  cases o with
  | no => exact h
  | nu i => exact h
  | pr p q =>
    obtain ⟨r, e, h⟩ := h
    exact ⟨r, e, k _ _ h⟩
def kindS (j : Nat) : Str := if j = 1 then "times" else if j = 3 then "turn" else "plus"
def stB (j : Nat) : Wv → Bool
  | .no => false
  | .nu i => if j = 1 then false else if j = 3 then false else inB (-6) 6 (.int i)
  | .pr p q => if j = 1 then timesB (some [.int p, .int q]) else if j = 3 then pairB 8 (some [.int p, .int q]) else false
theorem st_slot (j : Nat) (l : List Nat) : stB j (wvO l) = (slotO j l).isSome ∧ ∀ v, slotO j l = some v → (∃ p q, (j = 1 ∨ j = 3) ∧ v = [p, q] ∧ wvO l = .pr p q) ∨ ∃ k, ¬ (j = 1 ∨ j = 3) ∧ v = [k] ∧ wvO l = .nu k := by
  have inb : ∀ m i : Int, inB 1 m (.int i) = (decide (1 ≤ i) && decide (i ≤ m)) := fun m i => rfl
  by_cases hs : 47 ∈ l
  · have hc : can l = false := by
      cases e : can l with
      | false => rfl
      | true =>
        have := can_sign e hs
        omega
    have wo : wvO l = (match pairW l with | some (p, q) => .pr p q | none => .no) := by unfold wvO; rw [if_pos hs]
    have nn : nW (-6) 6 l = none := by unfold nW; rw [if_neg (by rw [hc]; simp)]
    have ps : ∀ m, pW m l = match pairW l with | some (p, q) => if (1 ≤ p ∧ p ≤ m) ∧ 1 ≤ q ∧ q ≤ m then some (p, q) else none | none => none := by
      intro m
      unfold pW pairW
      generalize pcz 47 l = X
      match X with
      | [] => rfl
      | [_] => rfl
      | _ :: _ :: _ :: _ => rfl
      | [a, b] =>
        show (match nW 1 m a, nW 1 m b with | some x, some y => some (x, y) | _, _ => none) = match (if can a = true ∧ can b = true then some (val a, val b) else none : Option (Int × Int)) with | some (p, q) => if (1 ≤ p ∧ p ≤ m) ∧ 1 ≤ q ∧ q ≤ m then some (p, q) else none | none => none
        unfold nW
        by_cases ha : can a = true
        · by_cases hb : can b = true
          · simp only [ha, hb, true_and, and_self, if_true]
            by_cases z1 : 1 ≤ val a ∧ val a ≤ m
            · by_cases z2 : 1 ≤ val b ∧ val b ≤ m
              · simp [z1, z2]
              · simp [z1, z2]
            · simp [z1]
          · simp only [hb]
            by_cases z1 : 1 ≤ val a ∧ val a ≤ m
            · simp [ha, z1]
            · simp [ha, z1]
        · simp [ha]
    unfold slotO stB tW
    rw [wo, nn, ps 6, ps 8]
    cases e : pairW l with
    | none => 
      refine ⟨?_, ?_⟩
      · by_cases z : j = 1 <;> by_cases z3 : j = 3 <;> simp [z, z3]
      · intro v hv
        by_cases z : j = 1 <;> by_cases z3 : j = 3 <;> simp [z, z3] at hv
    | some pq =>
      obtain ⟨p, q⟩ := pq
      have e1 : timesB (some [.int p, .int q]) = (((decide (1 ≤ p) && decide (p ≤ 6)) && (decide (1 ≤ q) && decide (q ≤ 6))) && decide (q ≤ p)) := rfl
      have e2 : pairB 8 (some [.int p, .int q]) = ((decide (1 ≤ p) && decide (p ≤ 8)) && (decide (1 ≤ q) && decide (q ≤ 8))) := rfl
      refine ⟨?_, ?_⟩
      · by_cases z : j = 1
        · simp only [z, if_true, e1]
          by_cases b1 : (1 ≤ p ∧ p ≤ 6) ∧ 1 ≤ q ∧ q ≤ 6
          · by_cases b2 : q ≤ p <;> simp [b1, b2]
          · rw [if_neg b1]
            simp
            intro h1 h2 h3 h4
            exact absurd ⟨⟨h1, h2⟩, h3, h4⟩ b1
        · by_cases z3 : j = 3
          · simp only [z3, e2]
            by_cases b1 : (1 ≤ p ∧ p ≤ 8) ∧ 1 ≤ q ∧ q ≤ 8
            · simp [b1]
            · rw [if_neg b1]
              simp
              intro h1 h2 h3
              exact Int.not_le.mp fun h4 => b1 ⟨⟨h1, h2⟩, h3, h4⟩
          · simp [z, z3]
      · intro v hv
        by_cases z : j = 1
        · simp only [z, if_true] at hv
          by_cases b1 : (1 ≤ p ∧ p ≤ 6) ∧ 1 ≤ q ∧ q ≤ 6
          · by_cases b2 : q ≤ p
            · simp [b1, b2] at hv
              exact .inl ⟨p, q, .inl z, hv.symm, rfl⟩
            · simp [b1, b2] at hv
          · rw [if_neg b1] at hv
            simp at hv
        · by_cases z3 : j = 3
          · simp only [z3] at hv
            by_cases b1 : (1 ≤ p ∧ p ≤ 8) ∧ 1 ≤ q ∧ q ≤ 8
            · simp [b1] at hv
              exact .inl ⟨p, q, .inr z3, hv.symm, rfl⟩
            · rw [if_neg b1] at hv
              simp at hv
          · simp [z, z3] at hv
  · have pn : ∀ m, pW m l = none := fun m => by
      unfold pW
      rw [pcz_none hs]
    unfold wvO slotO tW
    rw [if_neg hs, pn 6, pn 8]
    unfold nW
    cases hc : can l with
    | false =>
      refine ⟨?_, ?_⟩
      · by_cases z : j = 1 <;> by_cases z3 : j = 3 <;> simp [z, z3, stB]
      · intro v hv
        by_cases z : j = 1 <;> by_cases z3 : j = 3 <;> simp [z, z3] at hv
    | true =>
      refine ⟨?_, ?_⟩
      · have e : inB (-6) 6 (.int (val l)) = (decide (-6 ≤ val l) && decide (val l ≤ 6)) := rfl
        by_cases z : j = 1
        · simp [z, stB]
        · by_cases z3 : j = 3
          · simp [z3, stB]
          · simp only [if_true, z, z3, stB, if_false]
            rw [e]
            by_cases b1 : -6 ≤ val l ∧ val l ≤ 6
            · simp [b1]
            · have b2 : (decide (-6 ≤ val l) && decide (val l ≤ 6)) = false := by
                rw [← Bool.decide_and]
                exact decide_eq_false b1
              rw [b2]
              simp only [true_and, if_neg b1]
              rfl
      · intro v hv
        by_cases z : j = 1
        · simp [z] at hv
        · by_cases z3 : j = 3
          · simp [z3] at hv
          · simp only [z, z3, if_false] at hv
            by_cases b1 : -6 ≤ val l ∧ val l ≤ 6
            · simp [b1] at hv
              exact .inr ⟨val l, by omega, hv.symm, rfl⟩
            · rw [if_neg (by simpa using b1)] at hv
              simp at hv
def spWordV : Sp := fun vs H Q _ => ∃ l : List Nat, vs = [.str (Sx l)] ∧ l.length ≤ 63 ∧ ∀ v H', Same H H' → WvAt H' v (wvO l) → Q v H'
def spCan : Sp := fun vs H Q _ => ∃ (j : Nat) (v : V) (o : Wv), vs = [.str (kindS j), v] ∧ WvAt H v o ∧ ∀ H', Same H H' → Q (.bl (stB j o)) H'
theorem wv_pair {H : Hp} {v : V} {o : Wv} (h : WvAt H v o) : PairQ H v (match o with | .pr p q => some [.int p, .int q] | _ => none) := by
  cases o with
  | no =>
    obtain rfl : v = .non := h
    exact ⟨"NoneType", fun _ _ _ => .base .non, by decide +kernel⟩
  | nu i =>
    obtain rfl : v = .int i := h
    exact ⟨"int", fun _ _ _ => .base (.int i), by decide +kernel⟩
  | pr p q =>
    obtain ⟨r, rfl, h⟩ := h
    exact pairQ_int h
theorem wv_int {H : Hp} {v : V} {o : Wv} (h : WvAt H v o) : IntQ H v ∧ isI v = (match o with | .nu _ => true | _ => false) := by
  cases o with
  | no =>
    obtain rfl : v = .non := h
    exact ⟨.inr ⟨fun i z => (by cases z), "NoneType", false, false, fun _ _ _ => .base .non, by decide +kernel, by decide +kernel, fun z => z⟩, rfl⟩
  | nu i =>
    obtain rfl : v = .int i := h
    exact ⟨.inl ⟨i, rfl⟩, rfl⟩
  | pr p q =>
    obtain ⟨r, rfl, h⟩ := h
    exact ⟨.inr ⟨fun i z => (by cases z), "tuple", false, false, fun _ H' k => .base (.tup (k _ _ h fun _ z => by cases z)), by decide +kernel, by decide +kernel, fun z => z⟩, rfl⟩
theorem wv_inB {H : Hp} {v : V} {o : Wv} (h : WvAt H v o) {j : Nat} (hj : ¬ j = 1) (hj3 : ¬ j = 3) : inB (-6) 6 v = stB j o := by
  unfold stB
  cases o with
  | no =>
    obtain rfl : v = .non := h
    rfl
  | nu i =>
    obtain rfl : v = .int i := h
    simp only [if_neg hj, if_neg hj3]
  | pr p q =>
    obtain ⟨r, rfl, h⟩ := h
    simp only [if_neg hj, if_neg hj3]
    rfl
section
variable {P : Program} {w : World} {K : PySem.W.Frag} {mg : Str → Option Value} {base : Heap}
theorem scWordV : FnScope ["word"] ["word"] (defScope sWordV) := ⟨rfl, rfl, rfl, by decide +kernel, rfl, by decide +kernel, by decide +kernel⟩
theorem ok_wordV {f : Addr} {fd : FuncData} (F : Fun K "word_value" "word_value" sWordV f fd) (D1 : Df P w K mg base 1 "read_number" ["word"] spReadN) (D2 : Df P w K mg base 2 "read_pair" ["word"] spReadP) : FnOk P w K mg base CX0 3 f fd ["word"] spWordV := by
  obtain ⟨f1, fd1, G1, g1, k1, b1⟩ := D1.ex
  obtain ⟨f2, fd2, G2, g2, k2, b2⟩ := D2.ex
  refine F.ok scWordV (fun vs H Q E h => ?_) (fun cdv A outer s H vs Q E hr h => ?_)
  · obtain ⟨l, rfl, _⟩ := h
    rfl
  · obtain ⟨l, rfl, hl, kk⟩ := h
    refine ⟨_, pss_one (ps_ret (pe_ifExp (pt_cmpR op_in_sign pe_str (pv 0) rfl) (pe_call G2 hr (by rfl) g2 k2 b2 .nil pass0 (pa_cons (pv 0) pa_nil)) (pe_call G1 (hr.mono (by decide)) (by rfl) g1 k1 b1 .nil pass0 (pa_cons (pv 0) pa_nil)))), ?_⟩
    refine ⟨_, rfl, 47, Sx l, rfl, rfl, _, rfl, ?_⟩
    have e : (Sx l).cps.toList = l := by simp [Sx, SX.S]
    rw [e]
    by_cases hs : 47 ∈ l
    · rw [decide_eq_true hs]
      refine iteT ⟨_, rfl, l, rfl, hl, ?_⟩
      have wo : wvO l = (match pairW l with | some (p, q) => .pr p q | none => .no) := by unfold wvO; rw [if_pos hs]
      rw [wo] at kk
      cases e : pairW l with
      | none =>
        rw [e] at kk
        exact fun H' s1 => kk _ _ s1 rfl
      | some pq =>
        obtain ⟨p, q⟩ := pq
        rw [e] at kk
        exact fun r H' s1 hr => kk _ _ s1 ⟨r, rfl, hr⟩
    · rw [decide_eq_false hs]
      refine iteF ⟨_, rfl, l, rfl, hl, ?_⟩
      have wo : wvO l = if can l = true then .nu (val l) else .no := by unfold wvO; rw [if_neg hs]
      rw [wo] at kk
      cases e : can l with
      | true =>
        rw [e] at kk
        exact kk _ _ (Same.refl H) rfl
      | false =>
        rw [e] at kk
        exact kk _ _ (Same.refl H) rfl
theorem scCan : FnScope ["kind", "value"] ["kind", "value"] (defScope sCan) := ⟨rfl, rfl, rfl, by decide +kernel, rfl, by decide +kernel, by decide +kernel⟩
theorem ok_can {f : Addr} {fd : FuncData} (F : Fun K "can_stand" "can_stand" sCan f fd) (D1 : Df P w K mg base 4 "is_times" ["value"] spTimesA) (D2 : Df P w K mg base 4 "is_turn" ["value"] spTurnA) (D3 : Df P w K mg base 3 "is_plus" ["value"] spPlusA) : FnOk P w K mg base CX0 5 f fd ["kind", "value"] spCan := by
  obtain ⟨f1, fd1, G1, g1, k1, b1⟩ := D1.ex
  obtain ⟨f2, fd2, G2, g2, k2, b2⟩ := D2.ex
  obtain ⟨f3, fd3, G3, g3, k3, b3⟩ := D3.ex
  refine F.ok scCan (fun vs H Q E h => ?_) (fun cdv A outer s H vs Q E hr h => ?_)
  · obtain ⟨j, v, o, rfl, _⟩ := h
    rfl
  · obtain ⟨j, v, o, rfl, hv, kk⟩ := h
    refine ⟨_, pss_cons (ps_if (pt_cmpR op_eq (pv 0) pe_str (nomark _)) (pss_one (ps_ret (pe_call G1 hr (by rfl) g1 k1 b1 .nil pass0 (pa_cons (pv 1) pa_nil)))) pss_nil)
      (pss_one (ps_ret (pe_ifExp (pt_cmpR op_eq (pv 0) pe_str (nomark _)) (pe_call G2 hr (by rfl) g2 k2 b2 .nil pass0 (pa_cons (pv 1) pa_nil)) (pe_call G3 (hr.mono (by decide)) (by rfl) g3 k3 b3 .nil pass0 (pa_cons (pv 1) pa_nil))))), ?_⟩
    have e1 : ∀ x : Str, decide (V.str x = V.str (Str.ofString "times")) = decide (x = Str.ofString "times") := fun x => by simp
    have e2 : ∀ x : Str, decide (V.str x = V.str (Str.ofString "turn")) = decide (x = Str.ofString "turn") := fun x => by simp
    refine ⟨_, rfl, rfl, _, rfl, ?_⟩
    by_cases z : j = 1
    · have ek : kindS j = Str.ofString "times" := by unfold kindS; rw [if_pos z]
      rw [show decide (V.str (kindS j) = V.str (Str.ofString "times")) = true from decide_eq_true (by rw [ek])]
      refine iteT ⟨_, rfl, v, _, rfl, wv_pair hv, fun H' s1 => ?_⟩
      have := kk H' s1
      unfold stB at this
      cases o with
      | no => exact this
      | nu i =>
        simp only [if_pos z] at this
        exact this
      | pr p q => simpa only [if_pos z] using this
    · have nk : ¬ V.str (kindS j) = V.str (Str.ofString "times") := fun q => by
        have q := V.str.inj q
        unfold kindS at q
        rw [if_neg z] at q
        split at q
        · exact absurd q (by decide +kernel)
        · exact absurd q (by decide +kernel)
      rw [decide_eq_false nk]
      refine iteF ⟨_, rfl, rfl, _, rfl, ?_⟩
      by_cases z3 : j = 3
      · have ek : kindS j = Str.ofString "turn" := by unfold kindS; rw [if_neg z, if_pos z3]
        rw [show decide (V.str (kindS j) = V.str (Str.ofString "turn")) = true from decide_eq_true (by rw [ek])]
        refine iteT ⟨_, rfl, v, _, rfl, wv_pair hv, fun H' s1 => ?_⟩
        have := kk H' s1
        unfold stB at this
        cases o with
        | no => exact this
        | nu i =>
          simp only [if_neg z, if_pos z3] at this
          exact this
        | pr p q => simpa only [if_neg z, if_pos z3] using this
      · have nk : ¬ V.str (kindS j) = V.str (Str.ofString "turn") := fun q => by
          have q := V.str.inj q
          unfold kindS at q
          rw [if_neg z, if_neg z3] at q
          exact absurd q (by decide +kernel)
        rw [decide_eq_false nk]
        refine iteF ⟨_, rfl, v, rfl, (wv_int hv).1, ?_⟩
        rw [wv_inB hv z z3]
        exact kk H (Same.refl H)
end
end Ev
namespace Ev
open PySem L2 PySem.Spec PyProof.Rows
def wz (l : List Nat) : V := .str (Sx l)
def optV : Option Nat → V
  | none => .non
  | some n => .int (n : Int)
def kinds (m : Nat) : List V := if m = 5 then [.str "times", .str "plus", .str "turn", .str "plus"] else [.str "times", .str "plus"]
/-- the table of the kinds of words -/
structure WDict (K : PySem.W.Frag) (w : World) (mg : Str → Option Value) (D T1 T2 : Addr) : Prop where
  g : mg "WORDS" = some (.ref D)
  kd : ∃ es n, KDict K w D es n
  look : ∀ z : Str, PySem.W.nsIn K D z = some (if z = "turn" then some (.ref T1) else if z = "try" then some (.ref T2) else none)
  t1 : ∀ H : Hp, SqT K H T1 (kinds 5)
  t2 : ∀ H : Hp, SqT K H T2 (kinds 3)
theorem walk_enumT {K : PySem.W.Frag} {a : Addr} {us : List V} {k0 : Int} (h : ∀ H, SqT K H a us) : Walk (IteT K a k0) us.length (fun _ => True) (YPair (fun i => some (.int (k0 + (i : Int)))) (fun i => us[i]?)) := by
  refine ⟨fun i H hi _ => ⟨us, h H, hi⟩, fun H _ => ⟨us, h H, rfl⟩, fun i H v H' _ _ y => ?_⟩
  obtain ⟨T, x, h1, h2, h3, h4⟩ := y
  exact ⟨T, .int (k0 + (i : Int)), x, h1, h2, h3, rfl, h4 us (h H)⟩
theorem wr_none {ws : List (List Nat)} (h : Wr ws none) : ∃ r : Row, r.fit ∧ ws = r.ws := by
  cases h with
  | no m e ok le =>
    obtain ⟨r, _, h2, _, h4⟩ := acc_row e ok
    have hm : 3 ≤ m := by rcases many_cases e with ⟨rfl, _⟩ | ⟨rfl, _⟩ <;> decide
    have := ok (m - 1) (by omega) (by omega)
    have lt : m - 1 < ws.length := by
      refine Nat.lt_of_not_le fun z => ?_
      unfold slotS at this
      rw [List.getElem?_eq_none z] at this
      cases this
    exact ⟨r, h2, h4 (by omega)⟩
theorem wv_prW (p q : Int) : wvO (prW p q) = .pr p q := by
  unfold wvO
  rw [if_pos (by unfold prW; simp)]
  unfold pairW
  rw [pcz_prW]
  show (match (if can (txc p) = true ∧ can (txc q) = true then some (val (txc p), val (txc q)) else none) with | some (p, q) => Wv.pr p q | none => .no) = _
  rw [if_pos ⟨can_txc p, can_txc q⟩, val_txc, val_txc]
theorem wv_txc (k : Int) : wvO (txc k) = .nu k := by
  unfold wvO
  rw [if_neg (fun h => by have := txc_sign h; omega), if_pos (can_txc k), val_txc]
def Wr2 (ws : List (List Nat)) (o : Option Nat) : Prop := (∃ n, o = some n ∧ Wr ws (some n)) ∨ ∃ r : Row, r.fit ∧ ws = r.ws ∧ o = if 2 * r.q ≤ r.p + r.k then none else some 1
def spWrong : Sp := fun vs H Q _ => ∃ (a : Addr) (ws : List (List Nat)), vs = [.ref a] ∧ H a = some (.lst (ws.map wz)) ∧ ws ≠ [] ∧ (∀ l ∈ ws, l.length ≤ 63) ∧ ∀ o H', Same H H' → Wr2 ws o → Q (optV o) H'
section
variable {P : Program} {w : World} {K : PySem.W.Frag} {mg : Str → Option Value} {base : Heap}
theorem scWrong : FnScope ["words", "kinds", "at", "kind"] ["words"] (defScope sWrong) := ⟨rfl, rfl, rfl, by decide +kernel, rfl, by decide +kernel, by decide +kernel⟩
theorem ok_wrong {f D T1 T2 : Addr} {fd : FuncData} (F : Fun K "wrong_rule_word" "wrong_rule_word" sWrong f fd) (T : Blt mg) (me : mg "enumerate" = none) (W : WDict K w mg D T1 T2) (D1 : Df P w K mg base 3 "word_value" ["word"] spWordV) (D2 : Df P w K mg base 5 "can_stand" ["kind", "value"] spCan) (D3 : Df P w K mg base 1 "has_halves" ["times", "plus"] spHalves) : FnOk P w K mg base CX0 6 f fd ["words"] spWrong := by
  obtain ⟨f1, fd1, G1, g1, k1, b1⟩ := D1.ex
  obtain ⟨f2, fd2, G2, g2, k2, b2⟩ := D2.ex
  obtain ⟨f3, fd3, G3, g3, k3, b3⟩ := D3.ex
  obtain ⟨gW, ⟨es, n, kd⟩, look, hT1, hT2⟩ := W
  refine F.ok scWrong (fun vs H Q E h => ?_) (fun cdv A outer s H vs Q E hr h => ?_)
  · obtain ⟨a, ws, rfl, _⟩ := h
    rfl
  · obtain ⟨a, ws, rfl, ha, ne, h63, kk⟩ := h
    obtain ⟨tR, hR, qR⟩ : ∃ t : TS, PSs (cxOf CX0 P w K mg base ["words", "kinds", "at", "kind"] "wrong_rule_word" (defScope sWrong) f cdv A outer s H E).nox ((defBody sWrong).drop 2) t ∧ ∀ (G : Hp) (T : Addr) (m : Nat), manyOf ws = some m → (∀ H, SqT K H T (kinds m)) → Same H G →
        t { nx := fun _ H' => Q .non H', rt := Q } [some (.ref a), some (.ref T), none, none] G := by
      refine ⟨_, (pss_cons (ps_for PassesOwn.never rfl (pi_enumT (by rfl) me (pa_cons (pv 1) pa_nil) (pk_cons pe_int pk_nil)) (pg_tup rfl (pgs_cons (pg_name (i := 2) scWrong.nd rfl (.inl rfl)) (pgs_cons (pg_name (i := 3) scWrong.nd rfl (.inl rfl)) pgs_nil)))
          (pss_one (ps_if (PW.pt (pw_or (pt_cmpR op_eq (pv 2) (pe_callB call_len_seq (by rfl) T.len PySem.boot_len (pa_cons (pv 0) pa_nil)) (nomark _)) (pw_or1 (pt_not (pt_val (pe_call G2 hr (by rfl) g2 k2 b2 .nil pass0 (pa_cons (pv 3) (pa_cons (pe_call G1 (hr.mono (by decide)) (by rfl) g1 k1 b1 .nil pass0 (pa_cons (pe_ix ix_list (pv 0) (pv 2) (fun _ _ => rfl)) pa_nil)) pa_nil))))))))
            (pss_one (ps_ret (pv 2))) pss_nil)))
        (pss_cons (ps_if (pt_cmpR op_gt (pe_callB call_len_seq (by rfl) T.len PySem.boot_len (pa_cons (pv 0) pa_nil)) (pe_op op_add (pe_callB call_len_seq (by rfl) T.len PySem.boot_len (pa_cons (pv 1) pa_nil)) pe_int) (nomark _))
          (pss_one (ps_ret (pe_op op_add (pe_callB call_len_seq (by rfl) T.len PySem.boot_len (pa_cons (pv 1) pa_nil)) pe_int))) pss_nil)
        (pss_one (ps_ret (pe_ifExp (pt_val (pe_call G3 (hr.mono (by decide)) (by rfl) g3 k3 b3 .nil pass0 (pa_cons (pe_call G1 (hr.mono (by decide)) (by rfl) g1 k1 b1 .nil pass0 (pa_cons (pe_ix ix_list (pv 0) pe_int (fun _ _ => rfl)) pa_nil)) (pa_cons (pe_call G1 (hr.mono (by decide)) (by rfl) g1 k1 b1 .nil pass0 (pa_cons (pe_ix ix_list (pv 0) pe_int (fun _ _ => rfl)) pa_nil)) pa_nil)))) pe_non pe_int))))), ?_⟩
      intro G Tk m hm hT sG
      have hlen : (kinds m).length = m - 1 ∧ 3 ≤ m ∧ m ≤ 5 := by
        rcases many_cases hm with ⟨rfl, _⟩ | ⟨rfl, _⟩
        · exact ⟨rfl, by decide, by decide⟩
        · exact ⟨rfl, by decide, by decide⟩
      have hkind : ∀ i x, (kinds m)[i]? = some x → x = .str (kindS (i + 1)) ∧ i + 1 < m := by
        intro i x hx
        have hi : i < (kinds m).length := (List.getElem?_eq_some_iff.mp hx).1
        rcases many_cases hm with ⟨rfl, _⟩ | ⟨rfl, _⟩
        · have hi : i < 4 := hi
          rcases (show i = 0 ∨ i = 1 ∨ i = 2 ∨ i = 3 by omega) with rfl | rfl | rfl | rfl <;> exact ⟨(Option.some.inj hx).symm, by decide⟩
        · have hi : i < 2 := hi
          rcases (show i = 0 ∨ i = 1 by omega) with rfl | rfl <;> exact ⟨(Option.some.inj hx).symm, by decide⟩
      refine ⟨_, rfl, Tk, kinds m, 1, rfl, rfl, hT _, by decide, by decide, ?_⟩
      refine for_it (walk_enumT hT) (fun i σ G => okTo ws (i + 1) ∧ i + 1 ≤ m ∧ Same H G ∧ ∃ x2 x3, σ = [some (.ref a), some (.ref Tk), x2, x3]) ⟨okTo_one ws, by omega, sG, none, none, rfl⟩ (fun _ _ _ _ _ => trivial) (fun i v σ G2 G3 hi h y => ?_) (fun σ G2 h => ?_)
      · obtain ⟨hok, hm1, s2, x2, x3, rfl⟩ := h
        obtain ⟨Tp, x, y, rfl, nT, rfl, ex, ey⟩ := y
        obtain rfl : V.int (1 + (i : Int)) = x := Option.some.inj ex
        obtain ⟨rfl, him⟩ := hkind i y ey
        have s3 : Same H (upd G2 Tp (.tup [.int (1 + (i : Int)), .str (kindS (i + 1))])) := s2.trans (same_new nT)
        have hT3 : upd G2 Tp (.tup [.int (1 + (i : Int)), .str (kindS (i + 1))]) Tp = some (.tup [.int (1 + (i : Int)), .str (kindS (i + 1))]) := upd_same
        generalize upd G2 Tp (.tup [.int (1 + (i : Int)), .str (kindS (i + 1))]) = G3 at s3 hT3 ⊢
        have ha3 := s3 _ _ ha
        refine ⟨Tp, _, rfl, SqT.of hT3, rfl, _, _, rfl, _, _, rfl, rfl, ?_⟩
        refine ⟨_, rfl, _, rfl, a, _, rfl, .inl (SqL.of ha3), rfl, _, rfl, ?_⟩
        rw [List.length_map]
        have ec : (1 : Int) + (i : Int) = ((i + 1 : Nat) : Int) := by omega
        rw [ec]
        by_cases z : i + 1 = ws.length
        · rw [show decide (V.int ((i + 1 : Nat) : Int) = V.int (ws.length : Int)) = true from decide_eq_true (by rw [z])]
          have e : slotS ws (i + 1) = none := by
            unfold slotS
            rw [List.getElem?_eq_none (by omega)]
            rfl
          exact iteT (iteT ⟨_, rfl, kk (some (i + 1)) _ s3 (.inl ⟨_, rfl, .at_ m (i + 1) hm (by omega) him hok e⟩)⟩)
        · rw [show decide (V.int ((i + 1 : Nat) : Int) = V.int (ws.length : Int)) = false from decide_eq_false fun q => by injection q with q; omega]
          by_cases z2 : i + 1 < ws.length
          · have e1 : ws[i + 1]? = some ws[i + 1] := List.getElem?_eq_getElem z2
            refine iteF ⟨_, rfl, _, rfl, _, rfl, a, _, _, _, rfl, rfl, SqL.of ha3, atI_nat (j := i + 1) (by rw [List.getElem?_map, e1]; rfl), ws[i + 1], rfl, h63 _ (List.getElem_mem z2), fun v H4 s4 hv => ?_⟩
            refine ⟨i + 1, v, _, rfl, hv, fun H5 s5 => ⟨_, rfl, ?_⟩⟩
            have st := (st_slot (i + 1) ws[i + 1]).1
            have es : slotS ws (i + 1) = slotO (i + 1) ws[i + 1] := by
              unfold slotS
              rw [e1]
              rfl
            rw [st, ← es]
            cases eo : slotS ws (i + 1) with
            | none => exact iteT ⟨_, rfl, kk (some (i + 1)) _ (s3.trans (s4.trans s5)) (.inl ⟨_, rfl, .at_ m (i + 1) hm (by omega) him hok eo⟩)⟩
            | some vv => exact iteF ⟨okTo_succ hok (by rw [eo]; rfl), (show i + 1 + 1 ≤ m by omega), s3.trans (s4.trans s5), _, _, rfl⟩
          · exfalso
            -- all words ahead of i + 1 stand, so there are that many
            by_cases z3 : i = 0
            · subst z3
              cases ws with
              | nil => exact ne rfl
              | cons x r => have e : (x :: r).length = r.length + 1 := rfl; rw [e] at z z2; omega
            · have := hok i (by omega) (by omega)
              unfold slotS at this
              rw [List.getElem?_eq_none (by omega)] at this
              cases this
      · obtain ⟨hok, hm1, s2, x2, x3, rfl⟩ := h
        have ha2 := s2 _ _ ha
        rw [hlen.1] at hok
        rw [show m - 1 + 1 = m by omega] at hok
        refine ⟨_, rfl, a, _, rfl, .inl (SqL.of ha2), _, rfl, Tk, _, rfl, .inr (hT _), _, _, rfl, rfl, _, _, rfl, rfl, _, rfl, ?_⟩
        rw [List.length_map, hlen.1]
        have em : ((m - 1 : Nat) : Int) + 1 = (m : Int) := by omega
        rw [em]
        by_cases z : m < ws.length
        · rw [show decide ((ws.length : Int) > (m : Int)) = true from decide_eq_true (by omega)]
          refine iteT ⟨_, rfl, Tk, _, rfl, .inr (hT _), _, _, rfl, rfl, ?_⟩
          rw [hlen.1]
          show Q (.int (((m - 1 : Nat) : Int) + 1)) G2
          rw [em]
          exact kk (some m) _ s2 (.inl ⟨_, rfl, .long m hm hok z⟩)
        · rw [show decide ((ws.length : Int) > (m : Int)) = false from decide_eq_false (by omega)]
          obtain ⟨r, hf, rfl⟩ := wr_none (.no m hm hok (by omega))
          have e1 : r.ws[1]? = some (prW r.p r.q) := by cases r <;> rfl
          have e2 : r.ws[2]? = some (txc r.k) := by cases r <;> rfl
          refine iteF ⟨_, rfl, a, _, _, _, rfl, rfl, SqL.of ha2, atI_nat (j := 1) (by rw [List.getElem?_map, e1]; rfl), _, rfl, h63 _ (List.mem_of_getElem? e1), fun v H4 s4 hv => ?_⟩
          rw [wv_prW] at hv
          obtain ⟨a0, rfl, h0⟩ := hv
          refine ⟨_, rfl, a, _, _, _, rfl, rfl, SqL.of (s4 _ _ ha2), atI_nat (j := 2) (by rw [List.getElem?_map, e2]; rfl), _, rfl, h63 _ (List.mem_of_getElem? e2), fun v H5 s5 hv => ?_⟩
          rw [wv_txc] at hv
          obtain rfl : v = .int r.k := hv
          refine ⟨a0, r.p, r.q, r.k, rfl, s5 _ _ h0, _, rfl, ?_⟩
          by_cases z : 2 * r.q ≤ r.p + r.k
          · rw [decide_eq_true z]
            exact iteT (kk none _ (s2.trans (s4.trans s5)) (.inr ⟨r, hf, rfl, by rw [if_pos z]⟩))
          · rw [decide_eq_false z]
            exact iteF (kk (some 1) _ (s2.trans (s4.trans s5)) (.inr ⟨r, hf, rfl, by rw [if_neg z]⟩))
    refine ⟨_, pss_cons (ps_if (PW.pt (pw_or (pt_cmpR op_eq (pe_callB call_len_seq (by rfl) T.len PySem.boot_len (pa_cons (pv 0) pa_nil)) pe_int (nomark _)) (pw_or1 (pt_cmpR (op_notIn_kd kd) (pe_ix ix_list (pv 0) pe_int (fun _ _ => rfl)) (pe_glob (v := .ref D) (by rfl) gW rfl) (by rfl))))) (pss_one (ps_ret pe_int)) pss_nil)
      (pss_cons (ps_set (i := 1) scWrong.nd rfl (.inl rfl) (pe_ix ix_kdict (pe_glob (v := .ref D) (by rfl) gW rfl) (pe_ix ix_list (pv 0) pe_int (fun _ _ => rfl)) (fun _ _ => rfl))) hR), ?_⟩
    obtain ⟨w0, wr, rfl⟩ : ∃ w0 wr, ws = w0 :: wr := by
      cases ws with
      | nil => exact absurd rfl ne
      | cons x r => exact ⟨x, r, rfl⟩
    refine ⟨_, rfl, a, _, rfl, .inl (SqL.of ha), rfl, _, rfl, ?_⟩
    rw [List.length_map, show decide (V.int (((w0 :: wr).length : Nat) : Int) = V.int 0) = false from decide_eq_false fun q => by injection q with q; rw [List.length_cons] at q; omega]
    refine iteF ?_
    refine ⟨_, rfl, a, _, _, _, rfl, rfl, SqL.of ha, atI_nat (j := 0) rfl, Sx w0, _, rfl, rfl, look _, _, rfl, ?_⟩
    have eT : Sx w0 = ("turn" : Str) ↔ w0 = wTurn := ⟨fun z => S_inj (b := wTurn) z, fun z => by rw [z]; rfl⟩
    have eY : Sx w0 = ("try" : Str) ↔ w0 = wTry := ⟨fun z => S_inj (b := wTry) z, fun z => by rw [z]; rfl⟩
    by_cases z1 : w0 = wTurn
    · rw [if_pos (eT.mpr z1)]
      refine iteF ⟨_, rfl, a, _, _, _, rfl, rfl, SqL.of ha, atI_nat (j := 0) rfl, ?_⟩
      refine ⟨D, Sx w0, .ref T1, rfl, rfl, ⟨es, n, .ref T1, kd.at_, kd.lit, (look _).trans (by rw [if_pos (eT.mpr z1)]), rfl⟩, ?_⟩
      exact qR H T1 5 (by unfold manyOf; rw [if_pos (by rw [z1]; rfl)]) hT1 (Same.refl H)
    · rw [if_neg (fun q => z1 (eT.mp q))]
      by_cases z2 : w0 = wTry
      · rw [if_pos (eY.mpr z2)]
        refine iteF ⟨_, rfl, a, _, _, _, rfl, rfl, SqL.of ha, atI_nat (j := 0) rfl, ?_⟩
        refine ⟨D, Sx w0, .ref T2, rfl, rfl, ⟨es, n, .ref T2, kd.at_, kd.lit, (look _).trans (by rw [if_neg (fun q => z1 (eT.mp q)), if_pos (eY.mpr z2)]), rfl⟩, ?_⟩
        exact qR H T2 3 (by unfold manyOf; rw [if_neg (by simpa using z1), if_pos (by rw [z2]; rfl)]) hT2 (Same.refl H)
      · rw [if_neg (fun q => z2 (eY.mp q))]
        exact iteT (kk (some 0) H (Same.refl H) (.inl ⟨_, rfl, .head (by unfold manyOf; rw [if_neg (by simpa using z1), if_neg (by simpa using z2)])⟩))
end
end Ev
namespace Ev
open PySem L2 PySem.Spec PyProof.Rows
abbrev sBText : Stmt := inClass (top 12) 0
def btF (i j : Int) : List (Str × V) := [("word", .int j), ("line", .int i)]
/-- BadText of line and word is told -/
def TellB (C : Addr) (i j : Int) (H : Hp) (E : XK) : Prop := ∀ (d : Addr) (H' : Hp), Same H H' → H d = none → H' d = some (.xd (btF i j)) → E (.ref C) (some d) H'
theorem TellB.on {C : Addr} {i j : Int} {H H1 : Hp} {E : XK} (h : TellB C i j H E) (s : Same H H1) : TellB C i j H1 E := fun d H' s1 n e => h d H' (s.trans s1) (Same.gone s n) e
def spBText (C : Addr) : Sp := fun vs H Q _ => ∃ (a : Addr) (i j : Int), vs = [.ref a, .int i, .int j] ∧ H a = some (exo a C none) ∧
  ∀ (d : Addr) (H' : Hp), H d = none → H' a = some (exo a C (some d)) → H' d = some (exd d (btF i j)) → (∀ b o, b ≠ a → H b = some o → H' b = some o) → Q .non H'
structure BTx (P : Program) (w : World) (K : PySem.W.Frag) (mg : Str → Option Value) (base : Heap) (C : Addr) : Prop where
  cl : OexC K C
  g : mg "BadText" = some (.ref C)
  ex : ∃ (f : Addr) (fd : FuncData), PySem.W.findIn K (.ref C) "__init__" = some (some (.ref f)) ∧ PySem.W.typeIn K (.ref f) = some (.type "function") ∧ FnOk P w K mg base CX0 3 f fd ["self", "line", "word"] (spBText C) ∧ Binds K fd ["self", "line", "word"] []
theorem raised2 {C : Addr} {H : Hp} {i j : Int} {E : XK} (k : TellB C i j H E) (a' : Addr) (na : H a' = none) :
    spBText C [.ref a', .int i, .int j] (upd H a' (exo a' C none)) (fun v' H2 => v' = .non ∧ ∃ (d : Addr) (fs : List (Str × V)), H2 a' = some (exo a' C (some d)) ∧ H2 d = some (exd d fs) ∧ H d = none ∧ E (.ref C) (some d) (upd (del H2 a') d (.xd fs))) (fun _ _ _ => False) := by
  refine ⟨a', i, j, rfl, upd_same, fun d H' nd ha' hd bt => ⟨rfl, d, _, ha', hd, ?_, ?_⟩⟩
  · have dne : d ≠ a' := fun z => by rw [z, upd_same] at nd; cases nd
    rw [upd_ne dne] at nd
    exact nd
  · have dne : d ≠ a' := fun z => by rw [z, upd_same] at nd; cases nd
    rw [upd_ne dne] at nd
    refine k d _ (fun b o e => ?_) nd upd_same
    rw [upd_ne (ne_of_none e nd), del_ne (ne_of_none e na)]
    exact bt b o (ne_of_none e na) (by rw [upd_ne (ne_of_none e na)]; exact e)
section
variable {P : Program} {w : World} {K : PySem.W.Frag} {mg : Str → Option Value} {base : Heap}
theorem scBText : FnScope ["self", "line", "word"] ["self", "line", "word"] (defScope sBText) := ⟨rfl, rfl, rfl, by decide +kernel, rfl, by decide +kernel, by decide +kernel⟩
theorem ok_bText {f C : Addr} {fd : FuncData} (F : Fun K "__init__" "BadText.__init__" sBText f fd) (T : OexC K C) (no : PySem.W.findIn K (.ref C) "line" = some none) (no2 : PySem.W.findIn K (.ref C) "word" = some none) (D : Df P w K mg base 2 "kept" ["value"] spKept) : FnOk P w K mg base CX0 3 f fd ["self", "line", "word"] (spBText C) := by
  obtain ⟨f1, fd1, G1, g1, k1, b1⟩ := D.ex
  refine F.ok scBText (fun vs H Q E h => ?_) (fun cdv A outer s H vs Q E hr h => ?_)
  · obtain ⟨a, i, j, rfl, _⟩ := h
    rfl
  · obtain ⟨a, i, j, rfl, ha, kk⟩ := h
    refine ⟨_, pss_cons (ps_ost (pv 0) (pe_call G1 hr (by rfl) g1 k1 b1 .nil pass0 (pa_cons (pv 1) pa_nil))) (pss_one (ps_ost (pv 0) (pe_call G1 hr (by rfl) g1 k1 b1 .nil pass0 (pa_cons (pv 2) pa_nil)))), ?_⟩
    refine ⟨_, rfl, .int i, "int", rfl, flat_int i, fun H1 s1 => ⟨_, rfl, a, C, rfl, T, no, .inl ⟨s1 _ _ ha, fun dx nx ne => ?_⟩⟩⟩
    have z1 : ∀ b o, b ≠ a → H1 b = some o → upd (upd H1 dx (exd dx [("line", .int i)])) a (exo a C (some dx)) b = some o := fun b o nb e => by rw [upd_ne nb, upd_ne (ne_of_none e nx)]; exact e
    have z2 : upd (upd H1 dx (exd dx [("line", .int i)])) a (exo a C (some dx)) a = some (exo a C (some dx)) := upd_same
    have z4 : upd (upd H1 dx (exd dx [("line", .int i)])) a (exo a C (some dx)) dx = some (exd dx [("line", .int i)]) := by rw [upd_ne ne]; exact upd_same
    generalize upd (upd H1 dx (exd dx [("line", .int i)])) a (exo a C (some dx)) = H2 at z1 z2 z4 ⊢
    refine ⟨_, rfl, .int j, "int", rfl, flat_int j, fun H3 s3 => ⟨_, rfl, a, C, rfl, T, no2, .inr ⟨dx, _, s3 _ _ z2, s3 _ _ z4, (by show 1 ≤ 900; decide), ?_⟩⟩⟩
    have y2 := s3 _ _ z2
    refine kk dx _ (Same.gone s1 nx) (by rw [upd_ne ne.symm]; exact y2) upd_same fun b o nb q => ?_
    rw [upd_ne (ne_of_none (s1 _ _ q) nx)]
    exact s3 _ _ (z1 _ _ nb (s1 _ _ q))
end
/-! ### a class in a local, called -/
section
variable {X : Cx} {CX : CXT} {k i : Nat} {f C : Addr} {fd : FuncData} {ps : List Str} {sp : Sp} {dvs : List V} {ds : List Value} {E : XK} {x : Str} {p pos : Pos} {e : Expr} {es : List Expr} {t : TA}
def tMakeL (i : Nat) (C : Addr) (sp : Sp) (dvs : List V) (E : XK) (t : TA) : TE := fun σ H Q => σ[i]? = some (some (.ref C)) ∧ tMake C sp dvs E t σ H Q
theorem pe_makeL (M : Mk X.K C f) (F : FnOk X.prog X.w X.K X.mg X.base CX k f fd ps sp) (hr : Room (k + 1) X.A) (hN : X.N[i]? = some x) (hv : Vis X.env.scope x) (hb : Binds X.K fd ps ds) (hd : Vals dvs ds) (hx : Passes CX X E)
    (ha : PA X (e :: es) t) (hdb : (x == ("__debug__" : Str)) = false := by decide) (hcd : (x == ("__classdict__" : Str)) = false := by decide) (he : starEach (e :: es) X.env = (false, eval e X.env) :: starEach es X.env := by rfl) (hpl : (backTo pos (starEach es X.env)).any (·.1) = false := by rfl) :
    PE X (.Call (.Name x p) (e :: es) [] pos) (tMakeL i C sp dvs E t) := by
  refine ⟨fun pins s σ H Q I h => ?_⟩
  obtain ⟨hs, ht⟩ := h
  refine wpAny_Call_Name_kw (thn ((pe_var (pos := p) hN hv hdb hcd).run pins s σ H (fun v H1 => v = .ref C ∧ H1 = H) I ⟨.ref C, hs, rfl, rfl⟩) fun u s1 ⟨v, H1, I1, r1, q1⟩ => ?_)
  obtain ⟨rfl, rfl⟩ := q1
  cases r1
  refine PySem.W.callWith_K (h₀ := X.base) I.ok.mod.kin M.kp (thn (ha.run pos pins s1 σ _ _ I1 ht) fun us s2 ⟨vs, H2, I2, r, q⟩ => ⟨I2.kIn, ?_⟩) he hpl
  exact run_make M F hr hb hd hx I2 r q
end
end Ev
namespace Ev
open PySem L2 PySem.Spec PyProof.Rows
abbrev sRead : Stmt := inClass (top 29) 4
/-- what a text is: no rule's (the word that cannot stand), a rule's without halves, a rule's -/
inductive Du
  | bad (n : Nat)
  | half (r : Row)
  | good (r : Row)
def DuAt (L : List Nat) : Du → Prop
  | .bad n => Wr (pcz 32 L) (some n)
  | .half r => L = r.tx ∧ r.fit ∧ ¬ 2 * r.q ≤ r.p + r.k
  | .good r => L = r.tx ∧ r.fit ∧ 2 * r.q ≤ r.p + r.k
theorem pcz_ne (s : Nat) (L : List Nat) : pcz s L ≠ [] := by
  have : ∀ (a acc : List Nat), TL.spl [s] 0 acc a ≠ [] := by
    intro a
    induction a with
    | nil => intro acc; rw [TL.spl_nil]; simp
    | cons c a ih =>
      intro acc
      by_cases h : c = s
      · rw [TL.spl_hit (by rw [preS, h]; simp)]
        exact List.cons_ne_nil _ _
      · rw [TL.spl_miss (by rw [preS]; simp [h])]
        exact ih _
  exact this L []
theorem wr_ex (ws : List (List Nat)) : ∃ o, Wr ws o := by
  have key : ∀ k, okTo ws k ∨ ∃ j, 1 ≤ j ∧ j < k ∧ okTo ws j ∧ slotS ws j = none := by
    intro k
    induction k with
    | zero => exact .inl fun i h1 h2 => by omega
    | succ k ih =>
      rcases ih with ih | ⟨j, h1, h2, h3, h4⟩
      · by_cases z : 1 ≤ k
        · cases e : slotS ws k with
          | none => exact .inr ⟨k, z, by omega, ih, e⟩
          | some v => exact .inl (okTo_succ ih (by rw [e]; rfl))
        · exact .inl fun i h1 h2 => by omega
      · exact .inr ⟨j, h1, by omega, h3, h4⟩
  cases e : manyOf ws with
  | none => exact ⟨_, .head e⟩
  | some m =>
    rcases key m with h | ⟨j, h1, h2, h3, h4⟩
    · by_cases z : m < ws.length
      · exact ⟨_, .long m e h z⟩
      · exact ⟨_, .no m e h (by omega)⟩
    · exact ⟨_, .at_ m j e h1 h2 h3 h4⟩
theorem du_ex (L : List Nat) : ∃ d, DuAt L d := by
  obtain ⟨o, h⟩ := wr_ex (pcz 32 L)
  cases o with
  | some n => exact ⟨.bad n, h⟩
  | none =>
    obtain ⟨r, h1, h2⟩ := wr_none h
    have e : L = r.tx := by
      have := jz_pcz 32 L
      rw [h2] at this
      exact this.symm
    by_cases z : 2 * r.q ≤ r.p + r.k
    · exact ⟨.good r, e, h1, z⟩
    · exact ⟨.half r, e, h1, z⟩
def NotStr (K : PySem.W.Frag) (H : Hp) (v : V) : Prop := ∃ u : Value, (∀ H', LamX.ExtN H H' → TyX K H' v u) ∧ PySem.W.kitOne K u (.type "str") = some false
def OutRd (Ct Cn BT : Addr) (H : Hp) (Q : VK) (E : XK) : Du → Prop
  | .bad n => TellB BT 0 (n : Int) H E
  | .half _ => TellB BT 0 1 H E
  | .good r => ∀ (z : Addr) (H' : Hp), Same H H' → ObjAt Ct Cn H' z r → Q (.ref z) H'
def spRead (K : PySem.W.Frag) (Ct Cn BT : Addr) : Sp := fun vs H Q E => ∃ v : V, vs = [v] ∧ ((NotStr K H v ∧ TellB BT 0 0 H E) ∨
  ∃ (L : List Nat) (d : Du), v = .str (Sx L) ∧ L.length ≤ 63 ∧ DuAt L d ∧ OutRd Ct Cn BT H Q E d)
theorem WvAt.upd {H : Hp} {v : V} {o : Wv} {D : Addr} {xs ys : List V} (h : WvAt H v o) (hD : H D = some (.lst xs)) : WvAt (L2.upd H D (.lst ys)) v o := by
  cases o with
  | no => exact h
  | nu i => exact h
  | pr p q =>
    obtain ⟨r, e, h⟩ := h
    exact ⟨r, e, by rw [upd_ne (ne_of h hD (by intro z; cases z))]; exact h⟩
theorem fit_outN {p q k t s c : Int} (h : (Row.tn p q k t s c).fit) : outN (some [.int p, .int q]) (.int k) (some [.int t, .int s]) (.int c) = halvesO p q k := by
  obtain ⟨⟨h1, h2, h3, h4, h5⟩, ⟨h6, h7⟩, ⟨h8, h9⟩, h10, h11⟩ := h
  have ib : ∀ {l m i : Int}, l ≤ i → i ≤ m → inB l m (.int i) = true := fun {l m i} a b => by
    show (decide (l ≤ i) && decide (i ≤ m)) = true
    rw [decide_eq_true a, decide_eq_true b]
    rfl
  have e1 : timesB (some [.int p, .int q]) = true := by
    show ((inB 1 6 (.int p) && inB 1 6 (.int q)) && decide (q ≤ p)) = true
    rw [ib (by omega) h3, ib h1 (by omega), decide_eq_true h2]
    rfl
  have e2 : pairB 8 (some [.int t, .int s]) = true := by
    show (inB 1 8 (.int t) && inB 1 8 (.int s)) = true
    rw [ib h6 h7, ib h8 h9]
    rfl
  unfold outN outP outQ
  rw [if_neg (by rw [e1]; simp), if_neg (by rw [ib h4 h5]; simp), if_neg (by rw [e2]; simp), if_neg (by rw [ib h10 h11]; simp)]
  rfl
theorem fit_outT {p q k : Int} (h : (Row.tr p q k).fit) : outT (some [.int p, .int q]) (.int k) = halvesO p q k := by
  obtain ⟨h1, h2, h3, h4, h5⟩ := h
  have ib : ∀ {l m i : Int}, l ≤ i → i ≤ m → inB l m (.int i) = true := fun {l m i} a b => by
    show (decide (l ≤ i) && decide (i ≤ m)) = true
    rw [decide_eq_true a, decide_eq_true b]
    rfl
  have e1 : timesB (some [.int p, .int q]) = true := by
    show ((inB 1 6 (.int p) && inB 1 6 (.int q)) && decide (q ≤ p)) = true
    rw [ib (by omega) h3, ib h1 (by omega), decide_eq_true h2]
    rfl
  unfold outT outP
  rw [if_neg (by rw [e1]; simp), if_neg (by rw [ib h4 h5]; simp)]
  rfl
theorem halves_ok {r : Row} (h : r.fit) (z : 2 * r.q ≤ r.p + r.k) : halvesO r.p r.q r.k = .ok := by
  have hq : 1 ≤ r.q := by
    cases r with
    | tr p q k => exact h.1
    | tn p q k t s c => exact h.1.1
  unfold halvesO
  rw [if_neg (by omega), if_pos z]
section
variable {P : Program} {w : World} {K : PySem.W.Frag} {mg : Str → Option Value} {base : Heap}
theorem scRead : FnScope ["text", "words", "wrong", "numbers", "word"] ["text"] (defScope sRead) := ⟨rfl, rfl, rfl, by decide +kernel, rfl, by decide +kernel, by decide +kernel⟩
theorem ok_read {f Ct Cn B N BT fT fN : Addr} {fd fdT fdN : FuncData} {g : List Value → List Value → List Value} (F : Fun K "read" "WeightRule.read" sRead f fd) (T : Blt mg) (ms : mg "str" = none) (gT : mg "TryRule" = some (.ref Ct)) (gN : mg "TurnRule" = some (.ref Cn)) (MT : Mk K Ct fT) (MN : Mk K Cn fN)
    (GT : FnOk P w K mg base (L2.CX P w) 6 fT fdT ["self", "times", "plus"] (spTryInit Ct B N)) (bT : Binds K fdT ["self", "times", "plus"] [])
    (GN : FnOk P w K mg base (L2.CX P w) 6 fN fdN ["self", "times", "plus", "turn", "turn_plus"] (spTurnInit Cn B N)) (bN : KBn K fdN ["self", "times", "plus", "turn", "turn_plus"] 3 ["turn", "turn_plus"] g (fun vs zs => vs ++ zs))
    (D1 : Df P w K mg base 6 "wrong_rule_word" ["words"] spWrong) (D2 : Df P w K mg base 3 "word_value" ["word"] spWordV) (EB : BTx P w K mg base BT) :
    FnOk P w K mg base (L2.CX P w) 8 f fd ["text"] (spRead K Ct Cn BT) := by
  obtain ⟨f1, fd1, G1, g1, k1, b1⟩ := D1.ex
  obtain ⟨f2, fd2, G2, g2, k2, b2⟩ := D2.ex
  obtain ⟨TC, gC, fi, fdi, iC, tI, GI, bI⟩ := id EB
  refine F.okX scRead (fun vs H Q E h => ?_) (fun cdv A outer s H vs Q E hr h => ?_)
  · obtain ⟨v, rfl, _⟩ := h
    rfl
  · obtain ⟨v, rfl, h⟩ := h
    obtain ⟨tR, hR, qR⟩ : ∃ t : TS, PSs (cxOf (L2.CX P w) P w K mg base ["text", "words", "wrong", "numbers", "word"] "WeightRule.read" (defScope sRead) f cdv A outer s H E) ((defBody sRead).drop 5) t ∧ ∀ (G : Hp) (tv xw : Option V) (W Z : Addr) (r : Row) (xs : List V), Same H G → r.fit → G W = some (.lst (r.ws.map wz)) → G Z = some (.lst xs) →
        (∀ i v, xs[i]? = some v → ∃ l, r.ws[i + 1]? = some l ∧ WvAt G v (wvO l)) → xs.length + 1 = r.ws.length →
        (2 * r.q ≤ r.p + r.k) → (∀ (z : Addr) (H' : Hp), Same H H' → ObjAt Ct Cn H' z r → Q (.ref z) H') →
        t { nx := fun _ H' => Q .non H', rt := Q } [tv, some (.ref W), xw, some (.ref Z), none] G := by
      refine ⟨_, (pss_cons (ps_if (pt_cmpR op_eq (pe_ix ix_list (pv 1) pe_int (fun _ _ => rfl)) pe_str (nomark _))
          (pss_one (ps_ret (pe_make MT GT hr (by rfl) gT bT .nil (E := E) (passes_call (takes_of rfl rfl rfl rfl) (fun _ _ _ _ h => h)) (pa_cons (pe_ix ix_list (pv 3) pe_int (fun _ _ => rfl)) (pa_cons (pe_ix ix_list (pv 3) pe_int (fun _ _ => rfl)) pa_nil))))) pss_nil)
        (pss_one (ps_ret (pe_makeN (n := 2) MN GN hr (by rfl) gN bN (E := E) (passes_call (takes_of rfl rfl rfl rfl) (fun _ _ _ _ h => h)) (pa_cons (pe_ix ix_list (pv 3) pe_int (fun _ _ => rfl)) (pa_cons (pe_ix ix_list (pv 3) pe_int (fun _ _ => rfl)) pa_nil))
          (pk_cons (pe_ix ix_list (pv 3) pe_int (fun _ _ => rfl)) (pk_cons (pe_ix ix_list (pv 3) pe_int (fun _ _ => rfl)) pk_nil)))))), ?_⟩
      intro G tv xw W Z r xs sG hfit hW hZ hxs hlen hz kk
      cases r with
      | tr p q k =>
        match xs, hlen, hZ, hxs with
        | [x0, x1], _, hZ, hxs =>
          obtain ⟨l0, e0, w0⟩ := hxs 0 x0 rfl
          obtain ⟨l1, e1, w1⟩ := hxs 1 x1 rfl
          obtain rfl : prW p q = l0 := Option.some.inj e0
          obtain rfl : txc k = l1 := Option.some.inj e1
          rw [wv_prW] at w0
          rw [wv_txc] at w1
          obtain ⟨a0, rfl, h0⟩ := w0
          obtain rfl : x1 = .int k := w1
          have z : 2 * q ≤ p + k := hz
          refine ⟨_, rfl, W, _, _, _, rfl, rfl, SqL.of hW, atI_nat (j := 0) rfl, rfl, _, rfl, ?_⟩
          rw [show decide (wz wTry = V.str (Str.ofString "try")) = true from rfl]
          refine iteT ⟨_, rfl, Z, _, _, _, rfl, rfl, SqL.of hZ, atI_nat (j := 0) rfl, _, rfl, Z, _, _, _, rfl, rfl, SqL.of hZ, atI_nat (j := 1) rfl, fun x dx nx ndx nex => ?_⟩
          have hq : Same G (upd (upd G dx (.own x)) x (.ins Ct dx [])) := fun b u e => by rw [upd_ne (ne_of_none e nx), upd_ne (ne_of_none e ndx)]; exact e
          refine ⟨x, dx, .ref a0, .int k, _, rfl, upd_same, (pairQ_int h0).keep hq, .inl ⟨k, rfl⟩, ?_⟩
          rw [fit_outT hfit, show halvesO p q k = .ok from halves_ok (r := .tr p q k) hfit z]
          intro H2 t2 hx2
          have s3 : ∀ b u, G b = some u → H2 b = some u := fun b u e => t2 _ _ (ne_of_none e nx) (hq _ _ e)
          exact ⟨rfl, kk x H2 (fun b u e => s3 _ _ (sG _ _ e)) ⟨dx, a0, hx2, s3 _ _ h0⟩⟩
      | tn p q k t s c =>
        match xs, hlen, hZ, hxs with
        | [x0, x1, x2, x3], _, hZ, hxs =>
          obtain ⟨l0, e0, w0⟩ := hxs 0 x0 rfl
          obtain ⟨l1, e1, w1⟩ := hxs 1 x1 rfl
          obtain ⟨l2, e2, w2⟩ := hxs 2 x2 rfl
          obtain ⟨l3, e3, w3⟩ := hxs 3 x3 rfl
          obtain rfl : prW p q = l0 := Option.some.inj e0
          obtain rfl : txc k = l1 := Option.some.inj e1
          obtain rfl : prW t s = l2 := Option.some.inj e2
          obtain rfl : txc c = l3 := Option.some.inj e3
          rw [wv_prW] at w0 w2
          rw [wv_txc] at w1 w3
          obtain ⟨a0, rfl, h0⟩ := w0
          obtain rfl : x1 = .int k := w1
          obtain ⟨a2, rfl, h2⟩ := w2
          obtain rfl : x3 = .int c := w3
          have z : 2 * q ≤ p + k := hz
          refine ⟨_, rfl, W, _, _, _, rfl, rfl, SqL.of hW, atI_nat (j := 0) rfl, rfl, _, rfl, ?_⟩
          rw [show decide (wz wTurn = V.str (Str.ofString "try")) = false from decide_eq_false fun z => absurd (S_inj (a := wTurn) (b := wTry) (V.str.inj z)) (by decide)]
          refine iteF ⟨_, rfl, Z, _, _, _, rfl, rfl, SqL.of hZ, atI_nat (j := 0) rfl, _, rfl, Z, _, _, _, rfl, rfl, SqL.of hZ, atI_nat (j := 1) rfl, ?_⟩
          refine ⟨_, rfl, Z, _, _, _, rfl, rfl, SqL.of hZ, atI_nat (j := 2) rfl, _, rfl, Z, _, _, _, rfl, rfl, SqL.of hZ, atI_nat (j := 3) rfl, rfl, rfl, fun x dx nx ndx nex => ?_⟩
          have hq : Same G (upd (upd G dx (.own x)) x (.ins Cn dx [])) := fun b u e => by rw [upd_ne (ne_of_none e nx), upd_ne (ne_of_none e ndx)]; exact e
          refine ⟨x, dx, .ref a0, .int k, .ref a2, .int c, _, _, rfl, upd_same, (pairQ_int h0).keep hq, .inl ⟨k, rfl⟩, (pairQ_int h2).keep hq, .inl ⟨c, rfl⟩, ?_⟩
          rw [fit_outN hfit, show halvesO p q k = .ok from halves_ok (r := .tn p q k t s c) hfit z]
          intro H2 t2 hx2
          have s3 : ∀ b u, G b = some u → H2 b = some u := fun b u e => t2 _ _ (ne_of_none e nx) (hq _ _ e)
          exact ⟨rfl, kk x H2 (fun b u e => s3 _ _ (sG _ _ e)) ⟨dx, a0, a2, hx2, s3 _ _ h0, s3 _ _ h2⟩⟩
    refine ⟨_, pss_cons (ps_if (pt_not (pt_val (pe_callB call_isi (by rfl) T.isi (by decide +kernel) (pa_cons (pv 0) (pa_cons (pe_bltn (v := .ty "str") (by rfl) ms (by decide +kernel) rfl) pa_nil)))))
        (pss_one (ps_raise rfl (takes_of rfl rfl rfl rfl) (pmk_oex TC iC tI GI (hr.mono (by decide)) bI .nil pass0 (by rfl) gC (pa_cons pe_int (pa_cons pe_int pa_nil))))) pss_nil)
      (pss_cons (ps_set (i := 1) scRead.nd rfl (.inl rfl) (pe_split (pv 0) pe_str))
      (pss_cons (ps_set (i := 2) scRead.nd rfl (.inl rfl) (pe_call G1 (hr.mono (by decide)) (by rfl) g1 k1 b1 .nil pass0 (pa_cons (pv 1) pa_nil)))
      (pss_cons (ps_if (pt_cmpR op_notN (pv 2) pe_non (nomark _)) (pss_one (ps_raise rfl (takes_of rfl rfl rfl rfl) (pmk_oex TC iC tI GI (hr.mono (by decide)) bI .nil pass0 (by rfl) gC (pa_cons pe_int (pa_cons (pv 2) pa_nil))))) pss_nil)
      (pss_cons (ps_setLc (i := 3) (te := tCall spWordV [] E0 (tCons (tVar 4) tNil)) (own := [("word", 4)]) (g := gName 4) (tt := tYes) (by rfl) scRead.nd rfl rfl (sw_true rfl rfl rfl (by decide +kernel)) (pi_list (pe_slice sl_list (pv 1) (po_some pe_int) po_none)) (blkOk_by (own := [("word", 4)]) (N := ["text", "words", "wrong", "numbers", "word"]) (sc := defScope sRead) (by decide +kernel))
        (fun _ _ _ _ _ => pg_name (i := 4) scRead.nd rfl (.inl rfl)) (fun _ _ _ _ _ => pts_nil) (fun _ _ _ _ _ => pe_call G2 (hr.mono (by decide)) (by rfl) g2 k2 b2 .nil pass0 (pa_cons (pv 4) pa_nil)))
      hR)))), ?_⟩
    rcases h with ⟨⟨u, ty, ki⟩, tb⟩ | ⟨L, d, rfl, lL, hd, kk⟩
    · exact ⟨_, rfl, v, _, _, _, false, rfl, .ty _, ty _ (extN_refl H), ki, _, rfl, iteT ⟨by decide, fun a' na => raised2 tb a' na⟩⟩
    · refine ⟨_, rfl, _, _, _, _, true, rfl, .ty _, .base (.str _), kit_ty (by decide +kernel), _, rfl, iteF ?_⟩
      refine ⟨_, rfl, ⟨_, rfl⟩, _, _, rfl, rfl, by decide +kernel, ?_, fun W nW => ?_⟩
      · rw [SX.S_len, sizeLine_eq]
        omega
      rw [show (Txt.split (Sx L) (Str.ofString " ")).map V.str = (pcz 32 L).map wz from split_pcz (by decide) L]
      have hW : upd H W (.lst ((pcz 32 L).map wz)) W = some (.lst ((pcz 32 L).map wz)) := upd_same
      have sW : Same H (upd H W (.lst ((pcz 32 L).map wz))) := same_new nW
      generalize upd H W (.lst ((pcz 32 L).map wz)) = H1 at hW sW ⊢
      have l63 : ∀ l ∈ pcz 32 L, l.length ≤ 63 := fun l hl => by have := ((pcz_bound 32 L).1 l hl).1; omega
      have ne : pcz 32 L ≠ [] := pcz_ne 32 L
      refine ⟨_, rfl, W, _, rfl, hW, ne, l63, fun o H2 s2 wo => ?_⟩
      have sH2 : Same H H2 := sW.trans s2
      have hcases : (∃ n : Nat, o = some n ∧ TellB BT 0 (n : Int) H E) ∨ ∃ r : Row, o = none ∧ pcz 32 L = r.ws ∧ r.fit ∧ 2 * r.q ≤ r.p + r.k ∧ ∀ (z : Addr) (H' : Hp), Same H H' → ObjAt Ct Cn H' z r → Q (.ref z) H' := by
        have un : ∀ {r r' : Row}, r.fit → r'.fit → r.ws = r'.ws → r.q = r'.q ∧ r.p = r'.p ∧ r.k = r'.k := fun {r r'} f f' e => by
          have h1 := (row_words f).2
          have h2 := (row_words f').2
          rw [e] at h1
          have hi : r.isT = r'.isT := by
            have := h1.1.symm.trans h2.1
            cases e1 : r.isT <;> cases e2 : r'.isT <;> simp [e1, e2] at this ⊢
          have hn : r.ns = r'.ns := by rw [← h1.2, ← h2.2, hi]
          cases r <;> cases r' <;> simp [Row.ns, Row.p, Row.q, Row.k, Row.isT] at hn hi ⊢ <;> omega
        cases d with
        | bad n =>
          rcases wo with ⟨m, rfl, wo⟩ | ⟨r, hf, eW, _⟩
          · have := wr_unique wo hd
            obtain rfl := Option.some.inj this
            exact .inl ⟨_, rfl, kk⟩
          · have hd : Wr (pcz 32 L) (some n) := hd
            rw [eW] at hd
            have := wr_unique hd (row_words hf).1
            cases this
        | half r =>
          have eW : pcz 32 L = r.ws := by rw [hd.1, row_pcz]
          rcases wo with ⟨m, rfl, wo⟩ | ⟨r', hf, eW', eo⟩
          · rw [eW] at wo
            have := wr_unique wo (row_words hd.2.1).1
            cases this
          · obtain ⟨e1, e2, e3⟩ := un hd.2.1 hf (eW.symm.trans eW')
            rw [← e1, ← e2, ← e3, if_neg hd.2.2] at eo
            exact .inl ⟨1, eo, kk⟩
        | good r =>
          have eW : pcz 32 L = r.ws := by rw [hd.1, row_pcz]
          rcases wo with ⟨m, rfl, wo⟩ | ⟨r', hf, eW', eo⟩
          · rw [eW] at wo
            have := wr_unique wo (row_words hd.2.1).1
            cases this
          · obtain ⟨e1, e2, e3⟩ := un hd.2.1 hf (eW.symm.trans eW')
            rw [← e1, ← e2, ← e3, if_pos hd.2.2] at eo
            exact .inr ⟨r, eo, eW, hd.2.1, hd.2.2, kk⟩
      rcases hcases with ⟨n, rfl, kb⟩ | ⟨r, rfl, eW, hf, hz, kr⟩
      · exact ⟨_, rfl, rfl, _, rfl, iteT ⟨_, rfl, (by show 2 ≤ 1000; decide), fun a' na => raised2 (TellB.on kb sH2) a' na⟩⟩
      · have hW2 := s2 _ _ hW
        rw [eW] at hW2 l63
        refine ⟨_, rfl, rfl, _, rfl, iteF ?_⟩
        refine ⟨_, rfl, _, rfl, W, _, rfl, SqL.of hW2, fun S nS => ?_⟩
        rw [show cutV (r.ws.map wz) (some 1) none = r.ws.tail.map wz by cases r <;> rfl]
        have hS : upd H2 S (.lst (r.ws.tail.map wz)) S = some (.lst (r.ws.tail.map wz)) := upd_same
        have sS : Same H2 (upd H2 S (.lst (r.ws.tail.map wz))) := same_new nS
        generalize upd H2 S (.lst (r.ws.tail.map wz)) = H3 at hS sS ⊢
        have hW3 := sS _ _ hW2
        refine ⟨S, rfl, ⟨_, SqL.of hS⟩, fun D nD => ?_⟩
        have SD := ne_of_none hS nD
        have WD := ne_of_none hW3 nD
        have wk : Walk (Itl K S) r.ws.tail.length (fun H => SqL K H S (r.ws.tail.map wz)) (YAt (r.ws.tail.map wz)) := by
          have w := walk_list (K := K) (a := S) (xs := r.ws.tail.map wz)
          rw [List.length_map] at w
          exact w
        have tl : ∀ i : Nat, r.ws.tail[i]? = r.ws[i + 1]? := fun i => by rw [List.getElem?_tail]
        have ln : r.ws.tail.length + 1 = r.ws.length := by cases r <;> rfl
        have l5 : r.ws.length ≤ 5 := by cases r <;> simp [Row.ws]
        refine lc_it (n := r.ws.tail.length) wk (fun i H' => (∃ xs, H' D = some (.lst xs) ∧ xs.length = i ∧ ∀ j v, xs[j]? = some v → ∃ l, r.ws[j + 1]? = some l ∧ WvAt H' v (wvO l)) ∧ But D H3 H') ⟨⟨[], upd_same, rfl, fun j v h => by simp at h⟩, But.upd_at⟩ (fun i H' _ h => SqL.of (h.2 _ _ SD hS)) (fun i v H4 H5 hi h y => ?_) (fun H4 h => ?_)
        · obtain ⟨rfl, hv⟩ := y
          obtain ⟨⟨xs, hD, hlen, hxs⟩, bt⟩ := h
          rw [List.getElem?_map] at hv
          obtain ⟨x, hx, rfl⟩ := Option.map_eq_some_iff.mp hv
          rw [tl] at hx
          refine ⟨rfl, _, rfl, x, rfl, l63 _ (List.mem_of_getElem? hx), fun u H6 s6 hu => ⟨xs, s6 _ _ hD, ?_, ⟨xs ++ [u], upd_same, by simp [hlen], fun j v hj => ?_⟩, fun c o nc ec => by rw [upd_ne nc]; exact s6 _ _ (bt c o nc ec)⟩⟩
          · rw [hlen]
            exact Nat.lt_of_lt_of_le (show i < 1000 by omega) (by decide)
          · by_cases z : j < xs.length
            · rw [List.getElem?_append_left z] at hj
              obtain ⟨l, e1, e2⟩ := hxs j v hj
              exact ⟨l, e1, (e2.keep s6).upd (s6 _ _ hD)⟩
            · have ej : j = i := by
                have := (List.getElem?_eq_some_iff.mp hj).1
                simp at this
                omega
              subst ej
              rw [← hlen, List.getElem?_append_right (Nat.le_refl _)] at hj
              simp at hj
              subst hj
              exact ⟨x, hx, hu.upd (s6 _ _ hD)⟩
        · obtain ⟨⟨xs, hD, hlen, hxs⟩, bt⟩ := h
          have s4 : Same H H4 := fun c o e => by
            have e3 := sS _ _ (sH2 _ _ e)
            exact bt c o (ne_of_none e3 nD) e3
          exact qR H4 _ _ W D r xs s4 hf (bt _ _ WD hW3) hD hxs (by omega) hz kr
end
end Ev
namespace Ev
open PySem L2 PySem.Spec PyProof.Rows
abbrev sNumW : Stmt := top 19
abbrev sPairW : Stmt := top 20
abbrev sTurnStr : Stmt := inClass (top 30) 3
abbrev sTryStr : Stmt := inClass (top 31) 4
section
variable {X : Cx} {CX : CXT} {C g : Addr} {n : Nat} {sp : Sp} {E : XK}
/-- str of an instance with its own __str__ -/
def rStrO (C : Addr) (sp : Sp) (E : XK) : List V → Hp → VK → Prop := fun xs H Q => ∃ (a dx : Addr) (fs : List (Str × V)), xs = [.ref a] ∧ H a = some (.ins C dx fs) ∧ sp [.ref a] H (fun z H' => (∃ y : Str, z = .str y) ∧ Q z H') E
theorem call_strO (hf : PySem.W.findIn X.K (.ref C) "__str__" = some (some (.ref g))) (hk : PySem.W.isFn X.K (.ref g) = true) (F : FnR X.prog X.w X.K X.mg X.base CX n g sp) (hr : Room (n + 2) X.A) (hx : Passes CX X E) : CallR X (.type "str") (rStrO C sp E) := by
  intro pins s σ H xs us Q I r h
  obtain ⟨a, dx, fs, rfl, ha, q⟩ := h
  obtain ⟨u, rfl, rx⟩ : ∃ u, us = [u] ∧ u = Value.ref a := by
    cases r with
    | cons r1 r2 => cases r2; exact ⟨_, rfl, r1⟩
  subst rx
  obtain ⟨mA, J, _⟩ := ins_get I.hok ha
  obtain ⟨od, J, _⟩ := J.look
  have hr1 : Room (n + 1) X.A.in1 := hr.in1
  have hr2 : Room n X.A.in1.in1 := hr1.in1
  refine PySem.W.kso_call hr2.units0 I.kIn J hf hk ?_
  refine wpAny_mono (wpAny_call (SlX.run_at (us := [.ref a]) (ws := [.ref a]) F hr2 I.env0.in1.in1 hx I (.cons rfl .nil) q)) (fun w' s' z => ?_) fun _ _ z => z
  obtain ⟨z', H', I', rz, ⟨y, rfl⟩, q'⟩ := z
  obtain ⟨tk, rfl⟩ : ∃ tk, w' = Value.str y tk := rz
  exact ⟨.str y, H', I', ⟨tk, rfl⟩, q'⟩
end
theorem tiny_log {n : Int} (h : n.natAbs ≤ 99) : n.natAbs.log2 < 1920 := by
  by_cases z : n.natAbs = 0
  · rw [z]; decide
  · exact (Nat.log2_lt z).mpr (Nat.lt_of_le_of_lt h (by decide +kernel))
theorem txc_len {i : Int} (h : i.natAbs ≤ 99) : (txc i).length ≤ 3 := by
  have k : ∀ n : Fin 100, (TL.numL n.val).length ≤ 2 := by decide +kernel
  have := k ⟨i.natAbs, by omega⟩
  unfold txc
  split
  · simp; exact this
  · exact Nat.le_trans this (by decide)
theorem S_fit (l : List Nat) (h : l.length ≤ 1000) : (Sx l).length ≤ sizeLine := by
  rw [SX.S_len, sizeLine_eq]
  omega
def spNumW : Sp := fun vs H Q _ => ∃ i : Int, vs = [.int i] ∧ i.natAbs ≤ 99 ∧ Q (.str (Sx (txc i))) H
def spPairW : Sp := fun vs H Q _ => ∃ (t : Addr) (p q : Int), vs = [.ref t] ∧ H t = some (.tup [.int p, .int q]) ∧ p.natAbs ≤ 99 ∧ q.natAbs ≤ 99 ∧ Q (.str (Sx (prW p q))) H
def spStrR (Ct Cn : Addr) (turn : Bool) : Sp := fun vs H Q _ => ∃ (x : Addr) (r : Row), vs = [.ref x] ∧ ObjAt Ct Cn H x r ∧ r.fit ∧ r.isT = turn ∧ Q (.str (Sx r.tx)) H
theorem prW_len {p q : Int} (h : p.natAbs ≤ 99) (h2 : q.natAbs ≤ 99) : (prW p q).length ≤ 7 := by
  unfold prW
  have a := txc_len h
  have b := txc_len h2
  simp
  omega
section
variable {P : Program} {w : World} {K : PySem.W.Frag} {mg : Str → Option Value} {base : Heap}
theorem scNumW : FnScope ["number", "rest", "pieces", "low", "digits"] ["number"] (defScope sNumW) := ⟨rfl, rfl, rfl, by decide +kernel, rfl, by decide +kernel, by decide +kernel⟩
theorem pss_nev {X : Cx} {ss : List Stmt} : PSs X ss (fun _ _ _ => False) := ⟨fun _ _ _ _ _ _ h => h.elim⟩
theorem ok_numW {f : Addr} {fd : FuncData} (F : Fun K "number_word" "number_word" sNumW f fd) (mstr : mg "str" = none) {t : Tok} (gP : mg "PIECE" = some (.int (10 ^ 64) t)) : FnOk P w K mg base CX0 1 f fd ["number"] spNumW := by
  refine F.ok scNumW (fun vs H Q E h => ?_) (fun cdv A outer s H vs Q E hr h => ?_)
  · obtain ⟨i, rfl, _⟩ := h
    rfl
  · obtain ⟨i, rfl, hi, kk⟩ := h
    refine ⟨_, pss_cons (ps_if (pt_chain op_lt op_lt (pe_un un_neg (pe_glob (v := .int (10 ^ 64)) rfl gP ⟨_, rfl⟩)) (pv 0) (pe_glob (v := .int (10 ^ 64)) rfl gP ⟨_, rfl⟩)) (pss_one (ps_ret (pe_callTy call_str_int (by rfl) mstr (by decide +kernel) (pa_cons (pv 0) pa_nil)))) pss_nil) pss_nev, ?_⟩
    have e64 : (10 : Int) ^ 64 = 10000000000000000000000000000000000000000000000000000000000000000 := by decide
    have q1 : decide (-(10 : Int) ^ 64 < i) = true := decide_eq_true (by rw [e64]; omega)
    have q2 : decide (i < (10 : Int) ^ 64) = true := decide_eq_true (by rw [e64]; omega)
    refine ⟨_, rfl, _, rfl, _, _, rfl, rfl, _, rfl, ?_⟩
    rw [q1]
    refine iteT ⟨_, _, rfl, rfl, _, rfl, ?_⟩
    rw [q2]
    rw [← tx_S] at kk
    exact iteT ⟨_, rfl, i, rfl, tiny_log hi, kk⟩
theorem scPairW : FnScope ["pair"] ["pair"] (defScope sPairW) := ⟨rfl, rfl, rfl, by decide +kernel, rfl, by decide +kernel, by decide +kernel⟩
theorem ok_pairW {f : Addr} {fd : FuncData} (F : Fun K "pair_word" "pair_word" sPairW f fd) (D1 : Df P w K mg base 1 "number_word" ["number"] spNumW) : FnOk P w K mg base CX0 2 f fd ["pair"] spPairW := by
  obtain ⟨f1, fd1, G1, g1, k1, b1⟩ := D1.ex
  refine F.ok scPairW (fun vs H Q E h => ?_) (fun cdv A outer s H vs Q E hr h => ?_)
  · obtain ⟨t, p, q, rfl, _⟩ := h
    rfl
  · obtain ⟨t, p, q, rfl, ht, hp, hq, kk⟩ := h
    refine ⟨_, pss_one (ps_ret (pe_joined (PJ.cons (pe_fmt (pe_call G1 hr (by rfl) g1 k1 b1 .nil pass0 (pa_cons (pe_ix ix_tup (pv 0) pe_int (fun _ _ => rfl)) pa_nil))) (PJ.cons pe_str (PJ.cons (pe_fmt (pe_call G1 hr (by rfl) g1 k1 b1 .nil pass0 (pa_cons (pe_ix ix_tup (pv 0) pe_int (fun _ _ => rfl)) pa_nil))) PJ.nil))))), ?_⟩
    have lp := txc_len hp
    have lq := txc_len hq
    have e1 : Str.empty ++ Sx (txc p) = Sx (txc p) := SX.S_cat [] _
    have e2 : Sx (txc p) ++ Str.ofString "/" = Sx (txc p ++ [47]) := SX.S_cat _ _
    have e3 : Sx (txc p ++ [47]) ++ Sx (txc q) = Sx (prW p q) := by
      rw [SX.S_cat, List.append_assoc]
      rfl
    refine ⟨_, rfl, t, _, _, _, rfl, rfl, SqT.of ht, atI_nat (j := 0) rfl, p, rfl, hp, .inl ⟨_, rfl, S_fit _ (by omega), _, rfl, ?_, ?_⟩⟩
    · rw [e1]
      exact S_fit _ (by omega)
    rw [e1]
    refine ⟨_, rfl, ?_, _, rfl, t, _, _, _, rfl, rfl, SqT.of ht, atI_nat (j := 1) rfl, q, rfl, hq, .inl ⟨_, rfl, S_fit _ (by omega), _, rfl, ?_, ?_⟩⟩
    · rw [e2]
      exact S_fit _ (by simp; omega)
    · rw [e2, e3]
      exact S_fit _ (Nat.le_trans (prW_len hp hq) (by decide))
    · rw [e2, e3]
      exact kk
theorem scTryStr : FnScope ["self"] ["self"] (defScope sTryStr) := ⟨rfl, rfl, rfl, by decide +kernel, rfl, by decide +kernel, by decide +kernel⟩
theorem fit_abs {r : Row} (h : r.fit) : r.p.natAbs ≤ 99 ∧ r.q.natAbs ≤ 99 ∧ r.k.natAbs ≤ 99 := by
  cases r with
  | tr p q k => 
    obtain ⟨h1, h2, h3, h4, h5⟩ := h
    exact ⟨by show p.natAbs ≤ 99; omega, by show q.natAbs ≤ 99; omega, by show k.natAbs ≤ 99; omega⟩
  | tn p q k t s c =>
    obtain ⟨⟨h1, h2, h3, h4, h5⟩, _⟩ := h
    exact ⟨by show p.natAbs ≤ 99; omega, by show q.natAbs ≤ 99; omega, by show k.natAbs ≤ 99; omega⟩
theorem ok_tryStr {f Ct Cn : Addr} {fd : FuncData} (F : Fun K "__str__" "TryRule.__str__" sTryStr f fd) (R : RTwo K Ct Cn) (D1 : Df P w K mg base 2 "pair_word" ["pair"] spPairW) : FnOk P w K mg base CX0 3 f fd ["self"] (spStrR Ct Cn false) := by
  obtain ⟨f1, fd1, G1, g1, k1, b1⟩ := D1.ex
  refine F.ok scTryStr (fun vs H Q E h => ?_) (fun cdv A outer s H vs Q E hr h => ?_)
  · obtain ⟨x, r, rfl, _⟩ := h
    rfl
  · obtain ⟨x, r, rfl, ob, hf, hT, kk⟩ := h
    cases r with
    | tn p q k t s c => cases hT
    | tr p q k =>
      obtain ⟨dx, a, hx, ha⟩ := ob
      obtain ⟨hp, hq, hk⟩ := fit_abs hf
      have lp : (prW p q).length ≤ 7 := prW_len hp hq
      have lk : (txc k).length ≤ 3 := txc_len hk
      refine ⟨_, pss_one (ps_ret (pe_joined (PJ.cons pe_str (PJ.cons (pe_fmt (pe_call G1 hr (by rfl) g1 k1 b1 .nil pass0 (pa_cons (pe_fld (pv 0) rfl) pa_nil))) (PJ.cons pe_str (PJ.cons (pe_fmt (pe_fld (pv 0) rfl)) PJ.nil)))))), ?_⟩
      have e0 : Str.empty ++ Str.ofString "try " = Sx (wTry ++ [32]) := SX.S_cat [] _
      have e1 : Sx (wTry ++ [32]) ++ Sx (prW p q) = Sx (wTry ++ [32] ++ prW p q) := SX.S_cat _ _
      have e2 : Sx (wTry ++ [32] ++ prW p q) ++ Str.ofString " " = Sx (wTry ++ [32] ++ prW p q ++ [32]) := SX.S_cat _ _
      have e3 : Sx (wTry ++ [32] ++ prW p q ++ [32]) ++ Sx (txc k) = Sx (Row.tr p q k).tx := by
        rw [SX.S_cat]
        congr 1
        simp [Row.tx, Row.ws, jz, TL.joinL]
      have w3 : wTry.length = 3 := rfl
      refine ⟨_, rfl, ?_, ?_⟩
      · rw [e0]
        exact S_fit _ (by decide)
      rw [e0]
      refine ⟨_, rfl, x, Ct, dx, _, _, rfl, hx, R.t.cl, R.t.n1, try_times _ _, a, p, q, rfl, ha, hp, hq, .inl ⟨_, rfl, S_fit _ (by omega), _, rfl, ?_, ?_⟩⟩
      · rw [e1]
        exact S_fit _ (by simp only [List.length_append, List.length_cons, List.length_nil]; omega)
      rw [e1]
      refine ⟨_, rfl, ?_, ?_⟩
      · rw [e2]
        exact S_fit _ (by simp only [List.length_append, List.length_cons, List.length_nil]; omega)
      rw [e2]
      refine ⟨_, rfl, x, Ct, dx, _, _, rfl, hx, R.t.cl, R.t.n2, try_plus _ _, .inr ⟨k, rfl, tiny_log hk, _, rfl, ?_⟩⟩
      have et : (Str.ofString (toString k)) = Sx (txc k) := tx_S k
      have l3 : (Sx (Row.tr p q k).tx).length ≤ sizeLine := by
        rw [← e3, SX.S_cat]
        exact S_fit _ (by simp only [List.length_append, List.length_cons, List.length_nil]; omega)
      refine ⟨?_, ?_⟩
      · show (Sx (wTry ++ [32] ++ prW p q ++ [32]) ++ Str.ofString (toString k)).length ≤ _
        rw [et, e3]
        exact l3
      · show Q (.str (Sx (wTry ++ [32] ++ prW p q ++ [32]) ++ Str.ofString (toString k))) H
        rw [et, e3]
        exact kk
theorem scTurnStr : FnScope ["self"] ["self"] (defScope sTurnStr) := ⟨rfl, rfl, rfl, by decide +kernel, rfl, by decide +kernel, by decide +kernel⟩
theorem ok_turnStr {f Ct Cn : Addr} {fd : FuncData} (F : Fun K "__str__" "TurnRule.__str__" sTurnStr f fd) (R : RTwo K Ct Cn) (D1 : Df P w K mg base 2 "pair_word" ["pair"] spPairW) : FnOk P w K mg base CX0 3 f fd ["self"] (spStrR Ct Cn true) := by
  obtain ⟨f1, fd1, G1, g1, k1, b1⟩ := D1.ex
  refine F.ok scTurnStr (fun vs H Q E h => ?_) (fun cdv A outer s H vs Q E hr h => ?_)
  · obtain ⟨x, r, rfl, _⟩ := h
    rfl
  · obtain ⟨x, r, rfl, ob, hf, hT, kk⟩ := h
    cases r with
    | tr p q k => cases hT
    | tn p q k t s c =>
      obtain ⟨dx, a, b, hx, ha, hb⟩ := ob
      obtain ⟨hp, hq, hk⟩ := fit_abs hf
      have ht : t.natAbs ≤ 99 := by have := hf.2.1; omega
      have hs : s.natAbs ≤ 99 := by have := hf.2.2.1; omega
      have hc : c.natAbs ≤ 99 := by have := hf.2.2.2; omega
      have lp : (prW p q).length ≤ 7 := prW_len hp hq
      have lk : (txc k).length ≤ 3 := txc_len hk
      have lt := prW_len ht hs
      have lc := txc_len hc
      refine ⟨_, pss_one (ps_ret (pe_joined (PJ.cons pe_str (PJ.cons (pe_fmt (pe_call G1 hr (by rfl) g1 k1 b1 .nil pass0 (pa_cons (pe_fld (pv 0) rfl) pa_nil))) (PJ.cons pe_str (PJ.cons (pe_fmt (pe_fld (pv 0) rfl)) (PJ.cons pe_str
        (PJ.cons (pe_fmt (pe_call G1 hr (by rfl) g1 k1 b1 .nil pass0 (pa_cons (pe_fld (pv 0) rfl) pa_nil))) (PJ.cons pe_str (PJ.cons (pe_fmt (pe_fld (pv 0) rfl)) PJ.nil)))))))))), ?_⟩
      have e0 : Str.empty ++ Str.ofString "turn " = Sx (wTurn ++ [32]) := SX.S_cat [] _
      have e1 : Sx (wTurn ++ [32]) ++ Sx (prW p q) = Sx (wTurn ++ [32] ++ prW p q) := SX.S_cat _ _
      have e2 : Sx (wTurn ++ [32] ++ prW p q) ++ Str.ofString " " = Sx (wTurn ++ [32] ++ prW p q ++ [32]) := SX.S_cat _ _
      have e3 : Sx (wTurn ++ [32] ++ prW p q ++ [32]) ++ Sx (txc k) = Sx (wTurn ++ [32] ++ prW p q ++ [32] ++ txc k) := SX.S_cat _ _
      have e4 : Sx (wTurn ++ [32] ++ prW p q ++ [32] ++ txc k) ++ Str.ofString " " = Sx (wTurn ++ [32] ++ prW p q ++ [32] ++ txc k ++ [32]) := SX.S_cat _ _
      have e5 : Sx (wTurn ++ [32] ++ prW p q ++ [32] ++ txc k ++ [32]) ++ Sx (prW t s) = Sx (wTurn ++ [32] ++ prW p q ++ [32] ++ txc k ++ [32] ++ prW t s) := SX.S_cat _ _
      have e6 : Sx (wTurn ++ [32] ++ prW p q ++ [32] ++ txc k ++ [32] ++ prW t s) ++ Str.ofString " " = Sx (wTurn ++ [32] ++ prW p q ++ [32] ++ txc k ++ [32] ++ prW t s ++ [32]) := SX.S_cat _ _
      have e7 : Sx (wTurn ++ [32] ++ prW p q ++ [32] ++ txc k ++ [32] ++ prW t s ++ [32]) ++ Sx (txc c) = Sx (Row.tn p q k t s c).tx := by
        rw [SX.S_cat]
        congr 1
        simp [Row.tx, Row.ws, jz, TL.joinL]
      have w4 : wTurn.length = 4 := rfl
      have et : ∀ i : Int, (Str.ofString (toString i)) = Sx (txc i) := tx_S
      refine ⟨_, rfl, ?_, ?_⟩
      · rw [e0]
        exact S_fit _ (by decide)
      rw [e0]
      refine ⟨_, rfl, x, Cn, dx, _, _, rfl, hx, R.n.cl, R.n.n1, turn_times _ _ _ _, a, p, q, rfl, ha, hp, hq, .inl ⟨_, rfl, S_fit _ (by omega), _, rfl, ?_, ?_⟩⟩
      · rw [e1]
        exact S_fit _ (by simp only [List.length_append, List.length_cons, List.length_nil]; omega)
      rw [e1]
      refine ⟨_, rfl, ?_, ?_⟩
      · rw [e2]
        exact S_fit _ (by simp only [List.length_append, List.length_cons, List.length_nil]; omega)
      rw [e2]
      refine ⟨_, rfl, x, Cn, dx, _, _, rfl, hx, R.n.cl, R.n.n2, turn_plus _ _ _ _, .inr ⟨k, rfl, tiny_log hk, _, rfl, ?_⟩⟩
      show (Sx (wTurn ++ [32] ++ prW p q ++ [32]) ++ Str.ofString (toString k)).length ≤ _ ∧ tJs _ (Sx (wTurn ++ [32] ++ prW p q ++ [32]) ++ Str.ofString (toString k)) _ _ _
      rw [et, e3]
      refine ⟨S_fit _ (by simp only [List.length_append, List.length_cons, List.length_nil]; omega), _, rfl, ?_, ?_⟩
      · rw [e4]
        exact S_fit _ (by simp only [List.length_append, List.length_cons, List.length_nil]; omega)
      rw [e4]
      refine ⟨_, rfl, x, Cn, dx, _, _, rfl, hx, R.n.cl, R.n.n3, turn_turn _ _ _ _, b, t, s, rfl, hb, ht, hs, .inl ⟨_, rfl, S_fit _ (by omega), _, rfl, ?_, ?_⟩⟩
      · rw [e5]
        exact S_fit _ (by simp only [List.length_append, List.length_cons, List.length_nil]; omega)
      rw [e5]
      refine ⟨_, rfl, ?_, ?_⟩
      · rw [e6]
        exact S_fit _ (by simp only [List.length_append, List.length_cons, List.length_nil]; omega)
      rw [e6]
      refine ⟨_, rfl, x, Cn, dx, _, _, rfl, hx, R.n.cl, R.n.n4, turn_tp _ _ _ _, .inr ⟨c, rfl, tiny_log hc, _, rfl, ?_⟩⟩
      show (Sx (wTurn ++ [32] ++ prW p q ++ [32] ++ txc k ++ [32] ++ prW t s ++ [32]) ++ Str.ofString (toString c)).length ≤ _ ∧ Q (.str (Sx (wTurn ++ [32] ++ prW p q ++ [32] ++ txc k ++ [32] ++ prW t s ++ [32]) ++ Str.ofString (toString c))) H
      rw [et]
      refine ⟨?_, by rw [e7]; exact kk⟩
      rw [SX.S_cat]
      exact S_fit _ (by simp only [List.length_append, List.length_cons, List.length_nil]; omega)
end
end Ev
namespace Ev
open PySem L2 PySem.Spec PyProof.Rows LamX
def shw (j : Int) : Str := (PyData.int j).shown
theorem shw_ok : ∀ j : Nat, j ≤ 70 → (PyData.int (j : Int)).showable = true ∧ (PyData.int (j : Int)).shown.length ≤ sizeLine := by
  intro j hj
  have k : ∀ j : Fin 71, (PyData.int ((j.val : Nat) : Int)).showable = true ∧ (PyData.int ((j.val : Nat) : Int)).shown.length ≤ sizeLine := by decide +kernel
  exact k ⟨j, by omega⟩
/-- what is heard of an error -/
def tupT (j : Nat) : HO := .tup [.str "text", .str (shw 0), .str (shw (j : Int))]
def EHeard (BT : Addr) (QQ : Addr → Hp → Prop) : XK := fun cls d H' => ∃ (dd : Addr) (j : Nat), cls = .ref BT ∧ d = some dd ∧ H' dd = some (.xd (btF 0 (j : Int))) ∧ j ≤ 70 ∧
  ∀ (r : Addr) (G : Hp), Same H' G → H' r = none → G r = some (tupT j) → QQ r G
def THeard (BT : Addr) : (XK → Hp → VK → Prop) → Hp → VK → Prop := fun tl H Q => ∀ (G0 : Hp) (Qn : VK), Same H G0 → (∀ v H', (∀ r, H' r = none → Q (.ref r) (upd H' r (.lst [v]))) → Qn v H') →
  tl (EHeard BT fun r G => Q (.ref r) G) G0 Qn
theorem held_lst {cls : Value} {d : Option Addr} {a : Addr} {xs : List V} : HO.lst xs ≠ Held cls d a := fun z => by
  have z : HO.lst xs = HO.ext _ := z
  cases z
theorem five {σ : L2.St} (h : σ.length = 5) : ∃ x0 x1 x2 x3 x4, σ = [x0, x1, x2, x3, x4] := by
  match σ, h with
  | [x0, x1, x2, x3, x4], _ => exact ⟨x0, x1, x2, x3, x4, rfl⟩
theorem scHeard : FnScope ["_law_ask", "_law_caught", "_law_found", "error", "_law_some"] ["_law_ask"] (defScope sHeard) := ⟨rfl, rfl, rfl, by decide +kernel, rfl, by decide +kernel, by decide +kernel⟩
section
variable {X : Cx}
theorem heard_gives {BT FE : Addr} {q : Str} {g : Addr} {cdg : Value} (gd : X.A.guards = some []) {k : Nat} (hr : Room (k + 1) X.A) (T : Blt X.mg) (mv : X.mg "ValueError" = none) (mr : X.mg "repr" = none) (gF : X.mg "FairError" = some (.ref FE)) (gB : X.mg "BadText" = some (.ref BT)) (HB' : HeldC X.K BT)
    (nl : PySem.W.findIn X.K (.ref BT) "line" = some none) (nw : PySem.W.findIn X.K (.ref BT) "word" = some none) (teB : PySem.W.exmOne X.K (.ref BT) (.ref FE) = some true)
    (iBB : PySem.W.kitOne X.K (.ref BT) (.ref BT) = some true) (vB : PySem.W.kitOne X.K (.ref BT) (.type "ValueError") = some true) :
    GivesTo X ["_law_ask", "_law_caught", "_law_found", "error", "_law_some"] "_law_heard" (defScope sHeard) g cdg (defBody sHeard) "_law_ask" q (THeard BT) := by
  intro f c' s H Q tl act hc h
  have hu : (cxOf C8.CX0 X.prog X.w X.K X.mg X.base ["_law_ask", "_law_caught", "_law_found", "error", "_law_some"] "_law_heard" (defScope sHeard) g cdg X.A X.stack s H C8.E0).nox.A.units + 64 < cLine := Room.units (hr.deeper _)
  refine ⟨_, pss_cons (ps_asg (pe_tup (pa_cons pe_non (pa_cons pe_non pa_nil))) (pg_tup (by rfl) (pgs_cons (pg_name (i := 1) scHeard.nd rfl (.inl rfl)) (pgs_cons (pg_name (i := 2) scHeard.nd rfl (.inl rfl)) pgs_nil))))
    (pss_cons (ps_try_held (X := (cxOf C8.CX0 X.prog X.w X.K X.mg X.base ["_law_ask", "_law_caught", "_law_found", "error", "_law_some"] "_law_heard" (defScope sHeard) g cdg X.A X.stack s H C8.E0).nox) (c := .ref FE) (i := 3) (Wout := fun _ _ _ _ => False)
      (tb := fun W D σ H => ∃ Ech : XK, (∀ cls d σ' H', Ech cls d H' → W cls d σ' H') ∧ σ[0]? = some (some (.ref f)) ∧ H c' = some (CodeO c' q) ∧ tl Ech H fun v H' => D.nx (σ.set 2 (some v)) H')
      (ts := fun a cls d => tAsg (tVar 3) (gName 1)) rfl rfl rfl scHeard.nd rfl rfl ⟨rfl, by decide, .inl gF⟩ L2.takes0 (fun W pn xe tk => ?_) (fun a oe cls d pn _ _ => pss_one (ps_set (i := 1) scHeard.nd rfl (.inl rfl) (pv 3))))
    (pss_cons (ps_if (pt_cmpR op_isN (pv 1) pe_non (nomark _)) (pss_one (ps_ret (pe_lst (pa_cons (pv 2) pa_nil)))) pss_nil)
    (pss_cons (ps_set (i := 4) scHeard.nd rfl (.inl rfl) (pe_lst pa_nil))
    (pss_cons (ps_if (pt_val (pe_callB call_isHeld (by rfl) T.isi (by decide +kernel) (pa_cons (pv 1) (pa_cons (pe_glob (v := .ref BT) rfl gB rfl) pa_nil))))
      (pss_one (ps_expr (pe_bm PySem.F.plainAttrs_list PySem.F.slot_list_append PySem.F.type_list_append mt_append (pv 4) (pa_cons (pe_tup (pa_cons pe_str (pa_cons (pe_callB (call_reprV gd hu) (by rfl) mr (by decide +kernel) (pa_cons (pe_heldFld (pv 1)) pa_nil)) (pa_cons (pe_callB (call_reprV gd hu) (by rfl) mr (by decide +kernel) (pa_cons (pe_heldFld (pv 1)) pa_nil)) pa_nil)))) pa_nil)))) pss_nil)
    (pss_one (ps_ret (pe_ifExp (PW.pt (pw_and (pt_cmpR op_eq (pe_callB call_len_seq (by rfl) T.len PySem.boot_len (pa_cons (pv 4) pa_nil)) pe_int (nomark _))
      (pw_and1 (pt_val (pe_callB call_isHeld (by rfl) T.isi (by decide +kernel) (pa_cons (pv 1) (pa_cons (pe_bltn (v := .ty "ValueError") (by rfl) mv (by decide +kernel) rfl) pa_nil)))))))
      (pe_ix ix_list (pv 4) pe_int (fun _ _ => rfl)) pe_never))))))), ?_⟩
  · refine ⟨fun pins s' σ H' D I h' => ?_⟩
    obtain ⟨Ech, hW, h1, h2, h3⟩ := h'
    exact (pss_one (ps_set (i := 2) scHeard.nd rfl (.inl rfl) (act W pn xe Ech _ _ tk hW))).run pins s' σ H' D I ⟨h1, h2, h3⟩
  · refine ⟨(by show 2 ≤ sizeLine; decide), fun tp ntp => ⟨tp, _, rfl, SqT.of upd_same, rfl, _, _, rfl, _, _, rfl, rfl, ?_⟩⟩
    refine ⟨_, fun cls d σ' H' z hlen => ?_, rfl, same_new ntp _ _ hc, h _ _ (same_new ntp) fun v H' k => ⟨_, rfl, rfl, _, rfl, iteT ⟨_, rfl, (by show 1 ≤ sizeLine; decide), fun r nr => k r nr⟩⟩⟩
    obtain ⟨dd, j, rfl, rfl, ed, hj, fin⟩ := z
    obtain ⟨x0, x1, x2, x3, x4, rfl⟩ := five hlen
    refine ⟨true, teB, (fun z => by cases z), fun _ a na => ⟨_, rfl, fun _ => ?_⟩⟩
    have sA : Same H' (upd H' a (Held (.ref BT) (some dd) a)) := same_new na
    have hA : upd H' a (Held (.ref BT) (some dd) a) a = some (Held (.ref BT) (some dd) a) := upd_same
    have hD := sA _ _ ed
    generalize upd H' a (Held (.ref BT) (some dd) a) = HA at sA hA hD
    refine ⟨_, rfl, rfl, _, rfl, iteF ?_⟩
    refine ⟨(by show 0 ≤ sizeLine; decide), fun l nl2 => ?_⟩
    have hA1 := same_new (o := .lst []) nl2 _ _ hA
    have hD1 := same_new (o := .lst []) nl2 _ _ hD
    have sB := sA.trans (same_new (o := .lst []) nl2)
    have hl : upd HA l (.lst []) l = some (.lst []) := upd_same
    generalize upd HA l (.lst []) = HB at hA1 hD1 sB hl
    have nlH : H' l = none := Same.gone sA nl2
    obtain ⟨v1, v3⟩ := shw_ok 0 (by decide)
    obtain ⟨w1, w3⟩ := shw_ok j hj
    refine ⟨_, rfl, a, BT, dd, _, _, _, true, rfl, hA1, hD1, HB', .own BT, iBB, _, rfl, iteT ?_⟩
    refine ⟨_, rfl, .inl ⟨rfl, _, SqL.of hl⟩, _, rfl, a, BT, dd, _, .int 0, rfl, hA1, hD1, HB', nl, rfl, .int 0, .int 0, rfl, .plain (.int 0) rfl, v1, (by show 0 ≤ 32; decide), v3, ?_⟩
    refine ⟨_, rfl, a, BT, dd, _, .int (j : Int), rfl, hA1, hD1, HB', nw, rfl, .int (j : Int), .int (j : Int), rfl, .plain (.int _) rfl, w1, (by show 0 ≤ 32; decide), w3, (by show 3 ≤ sizeLine; decide), fun tq ntq => ?_⟩
    have ltq : l ≠ tq := ne_of_none hl ntq
    have hl3 : upd HB tq (tupT j) l = some (.lst []) := same_new ntq _ _ hl
    refine ⟨l, _, _, rfl, rfl, hl3, (by show 0 < sizeLine; decide), ?_⟩
    have hq : upd (upd HB tq (tupT j)) l (.lst [.ref tq]) tq = some (tupT j) := by rw [upd_ne ltq.symm]; exact upd_same
    have hA3 : upd (upd HB tq (tupT j)) l (.lst [.ref tq]) a = some (Held (.ref BT) (some dd) a) := by
      rw [upd_ne (fun z => by rw [z, hl] at hA1; exact held_lst (Option.some.inj hA1)), upd_ne (ne_of_none hA1 ntq)]; exact hA1
    have hD3 : upd (upd HB tq (tupT j)) l (.lst [.ref tq]) dd = some (.xd (btF 0 (j : Int))) := by
      rw [upd_ne (fun z => by rw [z, hl] at hD1; cases hD1), upd_ne (ne_of_none hD1 ntq)]; exact hD1
    have hL3 : upd (upd HB tq (tupT j)) l (.lst [.ref tq]) l = some (.lst [.ref tq]) := upd_same
    have hQ : Q (.ref tq) (upd (upd HB tq (tupT j)) l (.lst [.ref tq])) := by
      refine fin tq _ (fun b o e => ?_) (Same.gone sB ntq) hq
      rw [upd_ne (ne_of_none e nlH), upd_ne (ne_of_none (sB _ _ e) ntq)]; exact sB _ _ e
    refine ⟨_, rfl, l, _, rfl, .inl (SqL.of hL3), rfl, _, rfl, iteT ?_⟩
    exact ⟨_, rfl, a, BT, dd, _, _, _, true, rfl, hA3, hD3, HB', .ty _, vB, _, rfl, iteT ⟨_, rfl, l, _, 0, _, rfl, rfl, SqL.of hL3, atI_nat (j := 0) rfl, hQ⟩⟩
end
end Ev
namespace Ev
open PySem L2 PySem.Spec PyProof.Rows
abbrev sLText : Stmt := top 52
abbrev sLNum : Stmt := top 53
abbrev sLPr : Stmt := top 54
def optI : Option Int → V
  | none => .non
  | some i => .int i
theorem addS {a b : List Nat} {x y : Str} {H : Hp} {Q : VK} (hx : x = Sx a) (hy : y = Sx b) (h : a.length + b.length ≤ 1000) (k : Q (.str (Sx (a ++ b))) H) :
    ∃ i j, V.str x = .str i ∧ V.str y = .str j ∧ i.length + j.length ≤ sizeLine ∧ Q (.str (i ++ j)) H := by
  refine ⟨x, y, rfl, rfl, ?_, ?_⟩
  · rw [hx, hy, SX.S_len, SX.S_len, sizeLine_eq]
    omega
  · rw [hx, hy, SX.S_cat]
    exact k
def spLText : Sp := fun vs H Q _ => ∃ (l : Addr) (r : Row), vs = [.ref l] ∧ H l = some (.tup r.vs) ∧ r.fit ∧ ∀ H', Same H H' → Q (.str (Sx r.tx)) H'
def spLNum : Sp := fun vs H Q _ => ∃ (l : List Nat) (lo hi : Int), vs = [.str (Sx l), .int lo, .int hi] ∧ l.length ≤ 63 ∧ -6 ≤ lo ∧ lo ≤ hi ∧ hi ≤ 8 ∧ ∀ H', Same H H' → Q (optI (nW lo hi l)) H'
def spLPr : Sp := fun vs H Q _ => ∃ (l : List Nat) (m : Int), vs = [.str (Sx l), .int m] ∧ l.length ≤ 63 ∧ 1 ≤ m ∧ m ≤ 8 ∧ OutPr H Q (pW m l)
section
variable {P : Program} {w : World} {K : PySem.W.Frag} {mg : Str → Option Value} {base : Heap}
theorem scLText : FnScope ["_law_some", "_law_p", "_law_q", "_law_k", "_law_head"] ["_law_some"] (defScope sLText) := ⟨rfl, rfl, rfl, by decide +kernel, rfl, by decide +kernel, by decide +kernel⟩
theorem ok_ltext {f : Addr} {fd : FuncData} (F : Fun K "_law_text" "_law_text" sLText f fd) (T : Blt mg) (ms : mg "str" = none) : FnOk P w K mg base CX0 1 f fd ["_law_some"] spLText := by
  refine F.ok scLText (fun vs H Q E h => ?_) (fun cdv A outer s H vs Q E hr h => ?_)
  · obtain ⟨l, r, rfl, _⟩ := h
    rfl
  · obtain ⟨l, r, rfl, hl, hf, kk⟩ := h
    refine ⟨_, pss_cons (ps_asg (pe_slice sl_tupA (pv 0) po_none (po_some pe_int)) (pg_tup (by rfl) (pgs_cons (pg_name (i := 1) scLText.nd rfl (.inl rfl)) (pgs_cons (pg_name (i := 2) scLText.nd rfl (.inl rfl)) (pgs_cons (pg_name (i := 3) scLText.nd rfl (.inl rfl)) pgs_nil)))))
      (pss_cons (ps_set (i := 4) scLText.nd rfl (.inl rfl) (pe_op op_add_str (pe_op op_add_str (pe_op op_add_str (pe_op op_add_str (pe_callTy call_str_int (by rfl) ms (by decide +kernel) (pa_cons (pv 1) pa_nil)) pe_str) (pe_callTy call_str_int (by rfl) ms (by decide +kernel) (pa_cons (pv 2) pa_nil))) pe_str) (pe_callTy call_str_int (by rfl) ms (by decide +kernel) (pa_cons (pv 3) pa_nil))))
      (pss_cons (ps_if (pt_cmpR op_eq (pe_callB call_len_seq (by rfl) T.len PySem.boot_len (pa_cons (pv 0) pa_nil)) pe_int (nomark _)) (pss_one (ps_ret (pe_op op_add_str pe_str (pv 4)))) pss_nil)
      (pss_one (ps_ret (pe_op op_add_str (pe_op op_add_str (pe_op op_add_str (pe_op op_add_str (pe_op op_add_str (pe_op op_add_str (pe_op op_add_str pe_str (pv 4)) pe_str) (pe_callTy call_str_int (by rfl) ms (by decide +kernel) (pa_cons (pe_ix ix_tup (pv 0) pe_int (fun _ _ => rfl)) pa_nil))) pe_str)
        (pe_callTy call_str_int (by rfl) ms (by decide +kernel) (pa_cons (pe_ix ix_tup (pv 0) pe_int (fun _ _ => rfl)) pa_nil))) pe_str) (pe_callTy call_str_int (by rfl) ms (by decide +kernel) (pa_cons (pe_ix ix_tup (pv 0) pe_int (fun _ _ => rfl)) pa_nil))))))), ?_⟩
    obtain ⟨bp, bq, bk⟩ := fit_abs hf
    have lp := txc_len bp
    have lq := txc_len bq
    have lk := txc_len bk
    refine ⟨_, rfl, _, rfl, slice3 hl fun a H1 s1 ha => ⟨a, _, rfl, SqT.of ha, rfl, _, _, rfl, _, _, rfl, _, _, rfl, rfl, ?_⟩⟩
    have hl1 := s1 _ _ hl
    have cT : ∀ (a : List Nat) (i : Int), Sx a ++ tx i = Sx (a ++ txc i) := fun a i => by rw [tx_S, SX.S_cat]
    have cS : ∀ (a b : List Nat), Sx a ++ Sx b = Sx (a ++ b) := fun a b => SX.S_cat a b
    have zT : ∀ (a : List Nat) (i : Int), a.length + (txc i).length ≤ 1000 → (Sx a).length + (tx i).length ≤ sizeLine := fun a i h => by rw [tx_S, SX.S_len, SX.S_len, sizeLine_eq]; omega
    have zS : ∀ (a b : List Nat), a.length + b.length ≤ 1000 → (Sx a).length + (Sx b).length ≤ sizeLine := fun a b h => by rw [SX.S_len, SX.S_len, sizeLine_eq]; omega
    have e1 : tx r.p ++ Sx [47] = Sx (txc r.p ++ [47]) := by rw [tx_S, SX.S_cat]
    have z1 : (tx r.p).length + (Sx [47]).length ≤ sizeLine := by rw [tx_S]; exact zS _ _ (by simp; omega)
    refine ⟨_, rfl, r.p, rfl, tiny_log bp, tx r.p, Sx [47], rfl, rfl, z1, ?_⟩
    rw [e1]
    refine ⟨_, rfl, r.q, rfl, tiny_log bq, _, tx r.q, rfl, rfl, zT _ _ (by simp; omega), ?_⟩
    rw [cT]
    refine ⟨_, Sx [32], rfl, rfl, zS _ _ (by simp; omega), ?_⟩
    rw [cS]
    refine ⟨_, rfl, r.k, rfl, tiny_log bk, _, tx r.k, rfl, rfl, zT _ _ (by simp; omega), ?_⟩
    rw [cT]
    refine ⟨_, rfl, l, _, rfl, .inr (SqT.of hl1), rfl, _, rfl, ite2 (fun e => ?_) (fun e => ?_)⟩
    · cases r with
      | tn p q k t s c => exact absurd (V.int.inj (of_decide_eq_true e)) (show ¬ (((6 : Nat) : Int) = 3) by decide)
      | tr p q k =>
        refine ⟨_, rfl, Sx (wTry ++ [32]), _, rfl, rfl, zS _ _ (by simp [wTry]; omega), ?_⟩
        rw [cS]
        have e : (wTry ++ [32]) ++ (txc p ++ [47] ++ txc q ++ [32] ++ txc k) = (Row.tr p q k).tx := by simp [Row.tx, Row.ws, jz, TL.joinL, prW]
        show Q (.str (Sx ((wTry ++ [32]) ++ (txc p ++ [47] ++ txc q ++ [32] ++ txc k)))) H1
        rw [e]
        exact kk _ s1
    · cases r with
      | tr p q k => exact absurd (decide_eq_true (show V.int ((3 : Nat) : Int) = V.int 3 from rfl)) e
      | tn p q k t s c =>
        have bt : t.natAbs ≤ 99 := by have := hf.2.1; omega
        have bs : s.natAbs ≤ 99 := by have := hf.2.2.1; omega
        have bc : c.natAbs ≤ 99 := by have := hf.2.2.2; omega
        have lt := txc_len bt
        have ls := txc_len bs
        have lc := txc_len bc
        have lp : (txc p).length ≤ 3 := lp
        have lq : (txc q).length ≤ 3 := lq
        have lk : (txc k).length ≤ 3 := lk
        generalize hh : txc (Row.tn p q k t s c).p ++ [47] ++ txc (Row.tn p q k t s c).q ++ [32] ++ txc (Row.tn p q k t s c).k = hd
        have ld : hd.length ≤ 11 := by
          rw [← hh]
          show (txc p ++ [47] ++ txc q ++ [32] ++ txc k).length ≤ 11
          simp
          omega
        refine ⟨_, rfl, Sx (wTurn ++ [32]), _, rfl, rfl, zS _ _ (by simp [wTurn]; omega), ?_⟩
        rw [cS]
        refine ⟨_, Sx [32], rfl, rfl, zS _ _ (by simp [wTurn]; omega), ?_⟩
        rw [cS]
        refine ⟨_, rfl, l, _, 3, .int t, rfl, rfl, SqT.of hl1, atI_nat (j := 3) rfl, t, rfl, tiny_log bt, _, tx t, rfl, rfl, zT _ _ (by simp [wTurn]; omega), ?_⟩
        rw [cT]
        refine ⟨_, Sx [47], rfl, rfl, zS _ _ (by simp [wTurn]; omega), ?_⟩
        rw [cS]
        refine ⟨_, rfl, l, _, 4, .int s, rfl, rfl, SqT.of hl1, atI_nat (j := 4) rfl, s, rfl, tiny_log bs, _, tx s, rfl, rfl, zT _ _ (by simp [wTurn]; omega), ?_⟩
        rw [cT]
        refine ⟨_, Sx [32], rfl, rfl, zS _ _ (by simp [wTurn]; omega), ?_⟩
        rw [cS]
        refine ⟨_, rfl, l, _, 5, .int c, rfl, rfl, SqT.of hl1, atI_nat (j := 5) rfl, c, rfl, tiny_log bc, _, tx c, rfl, rfl, zT _ _ (by simp [wTurn]; omega), ?_⟩
        rw [cT]
        have e : wTurn ++ [32] ++ hd ++ [32] ++ txc t ++ [47] ++ txc s ++ [32] ++ txc c = (Row.tn p q k t s c).tx := by
          rw [← hh]
          simp [Row.tx, Row.ws, jz, TL.joinL, prW, Row.p, Row.q, Row.k]
        rw [e]
        exact kk _ s1
theorem scLNum : FnScope ["_law_word", "_law_least", "_law_most", "_law_some", "_law_number_here"] ["_law_word", "_law_least", "_law_most"] (defScope sLNum) := ⟨rfl, rfl, rfl, by decide +kernel, rfl, by decide +kernel, by decide +kernel⟩
theorem ok_lnum {f : Addr} {fd : FuncData} (F : Fun K "_law_number" "_law_number" sLNum f fd) (T : Blt mg) (ms : mg "str" = none) : FnOk P w K mg base CX0 1 f fd ["_law_word", "_law_least", "_law_most"] spLNum := by
  refine F.ok scLNum (fun vs H Q E h => ?_) (fun cdv A outer s H vs Q E hr h => ?_)
  · obtain ⟨l, lo, hi, rfl, _⟩ := h
    rfl
  · obtain ⟨l, lo, hi, rfl, hl, h1, h2, h3, kk⟩ := h
    refine ⟨_, pss_cons (ps_setLc (i := 3) (te := tCB (r := _) (tCons (tVar 4) tNil)) (own := [("_law_number_here", 4)]) (g := gName 4) (tt := tYes) (by rfl) scLNum.nd rfl rfl (sw_true rfl rfl rfl (by decide +kernel)) (pi_range2 rfl T.range (pa_cons (pv 1) (pa_cons (pe_op op_add (pv 2) pe_int) pa_nil))) (blkOk_by (own := [("_law_number_here", 4)]) (N := ["_law_word", "_law_least", "_law_most", "_law_some", "_law_number_here"]) (sc := defScope sLNum) (by decide +kernel))
        (fun _ _ _ _ _ => pg_name (i := 4) scLNum.nd rfl (.inl rfl)) (fun _ _ _ _ _ => pts_nil) (fun _ _ _ _ _ => pe_callTy call_str_int (by rfl) ms (by decide +kernel) (pa_cons (pv 4) pa_nil)))
      (pss_one (ps_ret (pe_ifExp (pt_cmpR op_in_seq (pv 0) (pv 3) (by rfl)) (pe_op op_add (pv 1) (pe_bm PySem.F.plainAttrs_list PySem.F.slot_list_index PySem.F.type_list_index mt_index (pv 3) (pa_cons (pv 0) pa_nil))) pe_non))), ?_⟩
    obtain ⟨n, en⟩ : ∃ n : Nat, hi + 1 - lo = (n : Int) := ⟨(hi + 1 - lo).toNat, by omega⟩
    refine ⟨_, rfl, _, rfl, _, _, rfl, rfl, lo, hi + 1, rfl, ⟨by omega, by omega, by omega, by omega⟩, fun D nD => ?_⟩
    rw [show (hi + 1 - lo).toNat = n by omega]
    have hrs : ∀ (i : Nat) (r : V), ((List.range n).map fun i : Nat => V.str (Sx (txc (lo + i))))[i]? = some r → i < n ∧ r = .str (Sx (txc (lo + i))) := fun i r h => by
      rw [List.getElem?_map] at h
      obtain ⟨x, h1, rfl⟩ := Option.map_eq_some_iff.mp h
      have hi : i < n := by have := (List.getElem?_eq_some_iff.mp h1).1; simpa using this
      rw [List.getElem?_range hi] at h1
      cases h1
      exact ⟨hi, rfl⟩
    refine lc_pureV (n := n) (walk_range (lo := lo) (n := n)) ((List.range n).map fun i : Nat => V.str (Sx (txc (lo + i)))) (by simp) (by omega) (fun _ _ => trivial) (fun i v H2 H' r hi2 hr bt _ y R Wk k => ?_) (fun H' bt hD => ?_)
    · obtain ⟨rfl, rfl⟩ := y
      obtain ⟨_, rfl⟩ := hrs i r hr
      have hb : (lo + (i : Int)).natAbs ≤ 99 := by omega
      refine ⟨rfl, _, rfl, lo + (i : Int), rfl, tiny_log hb, ?_⟩
      have e : V.str (Str.ofString (toString (lo + (i : Int)))) = V.str (Sx (txc (lo + (i : Int)))) := by rw [← tx_S]; rfl
      rw [e]
      exact k _ (Same.refl _)
    · have s1 : Same H H' := fun c o e => bt c o (ne_of_none e nD) e
      have fl : ((List.range n).map fun i : Nat => V.str (Sx (txc (lo + i)))).all flatV = true := by
        rw [List.all_eq_true]
        intro x hx
        obtain ⟨i, _, rfl⟩ := List.mem_map.mp hx
        rfl
      have ev : ∀ a b : List Nat, eqV (.str (Sx a)) (.str (Sx b)) = decide (a = b) := fun a b => by
        show (Sx a == Sx b) = _
        by_cases z : a = b
        · rw [z]; simp
        · have : ¬ Sx a = Sx b := fun q => z (S_inj q)
          rw [decide_eq_false z]
          simpa using this
      refine ⟨_, rfl, _, rfl, D, _, rfl, .inl (SqL.of hD), rfl, fl, _, rfl, ?_⟩
      have kk := kk _ s1
      unfold nW at kk
      by_cases hc : can l = true ∧ lo ≤ val l ∧ val l ≤ hi
      · rw [if_pos hc] at kk
        obtain ⟨c1, c2, c3⟩ := hc
        obtain ⟨j, ej⟩ : ∃ j : Nat, val l - lo = (j : Int) := ⟨(val l - lo).toNat, by omega⟩
        have hj : j < n := by omega
        have e : l = txc (lo + (j : Int)) := by rw [show lo + (j : Int) = val l by omega]; exact (txc_val c1).symm
        have at_ : ∀ m : Nat, m < n → ((List.range n).map fun i : Nat => V.str (Sx (txc (lo + i))))[m]? = some (V.str (Sx (txc (lo + (m : Int))))) := fun m hm => by rw [List.getElem?_map, List.getElem?_range hm]; rfl
        have iv : inV (.str (Sx l)) ((List.range n).map fun i : Nat => V.str (Sx (txc (lo + i)))) = true := by
          unfold inV
          rw [List.any_eq_true]
          exact ⟨_, List.mem_of_getElem? (at_ j hj), by rw [ev]; exact decide_eq_true e.symm⟩
        rw [if_neg (by decide), iv]
        refine iteT ⟨_, rfl, _, rfl, .inl ⟨rfl, _, SqL.of hD⟩, _, rfl, D, _, _, j, _, rfl, rfl, SqL.of hD, rfl, fl, at_ j hj, (by rw [ev]; exact decide_eq_true e.symm), fun m z' hm hz => ?_, _, _, rfl, rfl, ?_⟩
        · rw [at_ m (by omega)] at hz
          cases hz
          rw [ev]
          refine decide_eq_false fun q => ?_
          have := congrArg val (q.trans e)
          rw [val_txc, val_txc] at this
          omega
        · show Q (.int (lo + (j : Int))) H'
          rw [show lo + (j : Int) = val l by omega]
          exact kk
      · rw [if_neg hc] at kk
        have iv : inV (.str (Sx l)) ((List.range n).map fun i : Nat => V.str (Sx (txc (lo + i)))) = false := by
          cases z : inV (.str (Sx l)) ((List.range n).map fun i : Nat => V.str (Sx (txc (lo + i)))) with
          | false => rfl
          | true =>
            unfold inV at z
            obtain ⟨x, hx, ex⟩ := List.any_eq_true.mp z
            obtain ⟨i, hi2, rfl⟩ := List.mem_map.mp hx
            rw [ev] at ex
            have ex := of_decide_eq_true ex
            have hi3 : i < n := by simpa using hi2
            refine absurd ?_ hc
            rw [← ex]
            rw [val_txc]
            exact ⟨can_txc _, by omega, by omega⟩
        rw [if_neg (by decide), iv]
        exact iteF kk
theorem scLPr : FnScope ["_law_word", "_law_most", "_law_parts", "_law_found", "_law_part"] ["_law_word", "_law_most"] (defScope sLPr) := ⟨rfl, rfl, rfl, by decide +kernel, rfl, by decide +kernel, by decide +kernel⟩
theorem ok_lpr {f : Addr} {fd : FuncData} (F : Fun K "_law_pair" "_law_pair" sLPr f fd) (T : Blt mg) (D1 : Df P w K mg base 1 "_law_number" ["_law_word", "_law_least", "_law_most"] spLNum) : FnOk P w K mg base CX0 2 f fd ["_law_word", "_law_most"] spLPr := by
  obtain ⟨f1, fd1, G1, g1, k1, b1⟩ := D1.ex
  refine F.ok scLPr (fun vs H Q E h => ?_) (fun cdv A outer s H vs Q E hr h => ?_)
  · obtain ⟨l, m, rfl, _⟩ := h
    rfl
  · obtain ⟨l, m, rfl, hl, m1, m8, kk⟩ := h
    refine ⟨_, pss_cons (ps_set (i := 2) scLPr.nd rfl (.inl rfl) (pe_split (pv 0) pe_str))
      (pss_cons (ps_set (i := 3) scLPr.nd rfl (.inl rfl) (pe_callTy call_tuple_of (by rfl) T.tuple (by decide +kernel) (pa_cons (pe_lc (te := tCall spLNum [] E0 (tCons (tVar 4) (tCons (tC (.int 1)) (tCons (tVar 1) tNil)))) (own := [("_law_part", 4)]) (g := gName 4) (tt := tYes) (by rfl) scLPr.nd (pi_list (pv 2)) (blkOk_by (own := [("_law_part", 4)]) (N := ["_law_word", "_law_most", "_law_parts", "_law_found", "_law_part"]) (sc := defScope sLPr) (by decide +kernel))
        (fun _ _ _ _ _ => pg_name (i := 4) scLPr.nd rfl (.inl rfl)) (fun _ _ _ _ _ => pts_nil) (fun _ _ _ _ _ => pe_call G1 hr (by rfl) g1 k1 b1 .nil pass0 (pa_cons (pv 4) (pa_cons pe_int (pa_cons (pv 1) pa_nil))))) pa_nil)))
      (pss_one (ps_ret (pe_ifExp (PW.pt (pw_and (pt_cmpR op_eq (pe_callB call_len_seq (by rfl) T.len PySem.boot_len (pa_cons (pv 3) pa_nil)) pe_int (nomark _)) (pw_and1 (pt_cmpR op_notIn_seq pe_non (pv 3) (by rfl))))) (pv 3) pe_non)))), ?_⟩
    have sz : (Sx l).length + 2 ≤ sizeLine := by rw [SX.S_len, sizeLine_eq]; omega
    refine ⟨_, rfl, ⟨_, rfl⟩, _, _, rfl, rfl, by decide +kernel, sz, fun W nW' => ?_⟩
    have eS : (Txt.split (Sx l) (Str.ofString "/")).map V.str = (pcz 47 l).map (fun l => V.str (Sx l)) := split_pcz (by decide) l
    rw [eS]
    have hb := (pcz_bound 47 l).1
    have hlen := (pcz_bound 47 l).2
    have hW : upd H W (.lst ((pcz 47 l).map (fun l => V.str (Sx l)))) W = some (.lst ((pcz 47 l).map (fun l => V.str (Sx l)))) := upd_same
    have sW : Same H (upd H W (.lst ((pcz 47 l).map (fun l => V.str (Sx l))))) := same_new nW'
    generalize upd H W (.lst ((pcz 47 l).map (fun l => V.str (Sx l)))) = H1 at hW sW ⊢
    unfold pW at kk
    generalize pcz 47 l = hs at hb hlen hW kk
    refine ⟨_, rfl, W, rfl, ⟨_, SqL.of hW⟩, fun D nD => ?_⟩
    have WD := ne_of_none hW nD
    have wk : Walk (Itl K W) hs.length (fun H => SqL K H W (hs.map (fun l => V.str (Sx l)))) (YAt (hs.map (fun l => V.str (Sx l)))) := by
      have w := walk_list (K := K) (a := W) (xs := hs.map (fun l => V.str (Sx l)))
      rw [List.length_map] at w
      exact w
    refine lc_pureV (n := hs.length) wk (hs.map fun x => optI (nW 1 m x)) (by simp) (by omega) (fun H' h => SqL.of (h _ _ WD hW)) (fun i v H2 H' r hi hr' bt _ y R Wk k => ?_) (fun H' bt hD => ?_)
    · obtain ⟨rfl, hv⟩ := y
      rw [List.getElem?_map] at hv hr'
      obtain ⟨x, hx, rfl⟩ := Option.map_eq_some_iff.mp hv
      rw [hx] at hr'
      have er : optI (nW 1 m x) = r := Option.some.inj hr'
      subst er
      exact ⟨rfl, _, rfl, _, rfl, x, 1, m, rfl, by have := (hb x (List.mem_of_getElem? hx)).1; omega, by omega, m1, m8, fun H4 s4 => k _ s4⟩
    · have s1 : Same H H' := sW.trans fun c o e => bt c o (ne_of_none e nD) e
      have fl : ∀ x : List Nat, flatV (optI (nW 1 m x)) = true := fun x => by cases nW 1 m x <;> rfl
      refine ⟨D, _, rfl, .inl ⟨SqL.of hD, fun t nt => ?_⟩⟩
      have s2 := s1.trans (same_new (o := .tup (hs.map fun x => optI (nW 1 m x))) nt)
      have ht : upd H' t (.tup (hs.map fun x => optI (nW 1 m x))) t = some (.tup (hs.map fun x => optI (nW 1 m x))) := upd_same
      generalize upd H' t (.tup (hs.map fun x => optI (nW 1 m x))) = H2 at s2 ht ⊢
      refine ⟨_, rfl, t, _, rfl, .inr (SqT.of ht), rfl, _, rfl, ?_⟩
      rw [List.length_map]
      by_cases e : hs.length = 2
      · rw [show decide (V.int (hs.length : Int) = V.int 2) = true from decide_eq_true (by rw [e]; rfl)]
        match hs, e, ht, kk with
        | [a, b], _, ht, kk =>
          have kk : OutPr H Q (match nW 1 m a, nW 1 m b with | some x, some y => some (x, y) | _, _ => none) := kk
          refine iteT ⟨_, rfl, t, _, rfl, .inr (SqT.of ht), rfl, by simp [fl], _, rfl, ?_⟩
          rw [if_pos rfl]
          cases ha : nW 1 m a with
          | none =>
            rw [ha] at kk
            have iv : inV .non ([a, b].map fun x => optI (nW 1 m x)) = true := by simp [inV, ha, optI, eqV]
            rw [iv]
            exact iteF (kk _ s2)
          | some x =>
            cases hb' : nW 1 m b with
            | none =>
              rw [ha, hb'] at kk
              have iv : inV .non ([a, b].map fun x => optI (nW 1 m x)) = true := by simp [inV, hb', optI, eqV]
              rw [iv]
              exact iteF (kk _ s2)
            | some y =>
              rw [ha, hb'] at kk
              have iv : inV .non ([a, b].map fun x => optI (nW 1 m x)) = false := by simp [inV, ha, hb', optI, eqV]
              rw [iv]
              refine iteT ⟨_, rfl, kk t _ s2 ?_⟩
              rw [ht]
              simp [ha, hb', optI]
      · rw [show decide (V.int (hs.length : Int) = V.int 2) = false from decide_eq_false fun z => by injection z with z; omega]
        have kn : OutPr H Q none := by
          match hs, e, kk with
          | [], _, kk => exact kk
          | [_], _, kk => exact kk
          | _ :: _ :: _ :: _, _, kk => exact kk
        exact iteF (kn _ s2)
end
end Ev
namespace Ev
open PySem L2 PySem.Spec PyProof.Rows
abbrev sLDue : Stmt := top 55
def OutDu (H : Hp) (Q : VK) : Du → Prop
  | .bad n => ∀ (t : Addr) (H' : Hp), Same H H' → H' t = some (tupT n) → Q (.ref t) H'
  | .half _ => ∀ (t : Addr) (H' : Hp), Same H H' → H' t = some (tupT 1) → Q (.ref t) H'
  | .good r => ∀ (t a : Addr) (H' : Hp), Same H H' → H' t = some (.tup r.vs) → H' a = some (.lst [.ref t]) → Q (.ref a) H'
def spLDue : Sp := fun vs H Q _ => ∃ (L : List Nat) (d : Du), vs = [.str (Sx L)] ∧ L.length ≤ 63 ∧ DuAt L d ∧ OutDu H Q d
theorem wr_le {ws : List (List Nat)} {n : Nat} (h : Wr ws (some n)) : n ≤ 5 := by
  cases h with
  | head _ => omega
  | at_ m _ e _ h2 => rcases many_cases e with ⟨rfl, _⟩ | ⟨rfl, _⟩ <;> omega
  | long m e => rcases many_cases e with ⟨rfl, _⟩ | ⟨rfl, _⟩ <;> omega
theorem acc_len (ws : List (List Nat)) : ∀ i : Nat, okTo ws (i + 1 + 1) → (accL ws i).length ≤ 2 * i := by
  intro i
  induction i with
  | zero => intro _; exact Nat.le_refl _
  | succ i ih =>
    intro h
    have h2 := ih fun k a b => h k a (by omega)
    have h3 := h (i + 1) (by omega) (by omega)
    obtain ⟨v, e⟩ := Option.isSome_iff_exists.mp h3
    have : v.length ≤ 2 := by
      unfold slotS at e
      obtain ⟨l, _, e⟩ := Option.bind_eq_some_iff.mp e
      rcases (st_slot (i + 1) l).2 v e with ⟨p, q, _, rfl, _⟩ | ⟨k, _, rfl, _⟩ <;> simp
    show (accL ws i ++ (slotS ws (i + 1)).getD []).length ≤ _
    rw [e, List.length_append]
    show _ + v.length ≤ _
    omega
theorem shw0 : shw 0 = Str.ofString "0" := by decide +kernel
theorem shw1 : shw 1 = Str.ofString "1" := by decide +kernel
/-- (text, 0, a shown number) -/
abbrev nLDue : List Str := ["_law_text_so", "_law_words", "_law_some", "_law_many", "_law_at", "_law_told"]
section
variable {P : Program} {w : World} {K : PySem.W.Frag} {mg : Str → Option Value} {base : Heap}
theorem scLDue : FnScope nLDue ["_law_text_so"] (defScope sLDue) := ⟨rfl, rfl, rfl, by decide +kernel, rfl, by decide +kernel, by decide +kernel⟩
theorem ok_ldue {f : Addr} {fd : FuncData} (F : Fun K "_law_due" "_law_due" sLDue f fd) (T : Blt mg) (mr : mg "repr" = none) (D1 : Df P w K mg base 1 "_law_number" ["_law_word", "_law_least", "_law_most"] spLNum) (D2 : Df P w K mg base 2 "_law_pair" ["_law_word", "_law_most"] spLPr) : FnG P w K mg base 3 f fd ["_law_text_so"] spLDue := by
  obtain ⟨f1, fd1, G1, g1, k1, b1⟩ := D1.ex
  obtain ⟨f2, fd2, G2, g2, k2, b2⟩ := D2.ex
  refine fng_of F scLDue (fun vs H Q E h => ?_) (fun cdv A outer s H vs Q E hr gd h => ?_)
  · obtain ⟨L, d, rfl, _⟩ := h
    rfl
  · obtain ⟨L, d, rfl, lL, hd, kk⟩ := h
    have hr1 : Room 1 _ := hr.mono (by decide)
    have hu : (cxOf CX0 P w K mg base nLDue "_law_due" (defScope sLDue) f cdv A outer s H E).nox.A.units + 64 < cLine := Room.units hr
    have l63 : ∀ l ∈ pcz 32 L, l.length ≤ 63 := fun l hl => by have := ((pcz_bound 32 L).1 l hl).1; omega
    have lws : (pcz 32 L).length ≤ 64 := by have := (pcz_bound 32 L).2; omega
    obtain ⟨tR, hR, qR⟩ : ∃ t : TS, PSs (cxOf CX0 P w K mg base nLDue "_law_due" (defScope sLDue) f cdv A outer s H E).nox ((defBody sLDue).drop 4) t ∧ ∀ (G : Hp) (W S : Addr) (m : Nat) (x4 x5 : Option V), Same H G → G W = some (.lst ((pcz 32 L).map wz)) → manyOf (pcz 32 L) = some m → okTo (pcz 32 L) m → G S = some (.tup ((accL (pcz 32 L) (m - 1)).map V.int)) →
        t { nx := fun _ H' => Q .non H', rt := Q } [some (.str (Sx L)), some (.ref W), some (.ref S), some (.int (m : Int)), x4, x5] G := by
      refine ⟨_, (pss_cons (ps_if (pt_cmpR op_gt (pe_callB call_len_seq (by rfl) T.len PySem.boot_len (pa_cons (pv 1) pa_nil)) (pv 3) (nomark _)) (pss_one (ps_ret (pe_tup (pa_cons pe_str (pa_cons pe_str (pa_cons (pe_callB (call_reprV gd hu) (by rfl) mr (by decide +kernel) (pa_cons (pv 3) pa_nil)) pa_nil)))))) pss_nil)
        (pss_one (ps_ret (pe_ifExp (pt_cmpR op_lt (pe_op op_add (pe_ix ix_tup (pv 2) pe_int (fun _ _ => rfl)) (pe_ix ix_tup (pv 2) pe_int (fun _ _ => rfl))) (pe_op op_mul pe_int (pe_ix ix_tup (pv 2) pe_int (fun _ _ => rfl))) (nomark _)) (pe_tup (pa_cons pe_str (pa_cons pe_str (pa_cons pe_str pa_nil)))) (pe_lst (pa_cons (pv 2) pa_nil)))))), ?_⟩
      intro G W S m x4 x5 sG hW hm ok hS
      refine ⟨_, rfl, W, _, rfl, .inl (SqL.of hW), _, rfl, _, _, rfl, rfl, _, rfl, ?_⟩
      rw [List.length_map]
      have hm5 : m ≤ 5 := by rcases many_cases hm with ⟨rfl, _⟩ | ⟨rfl, _⟩ <;> decide
      by_cases z : m < (pcz 32 L).length
      · rw [show decide (((pcz 32 L).length : Int) > (m : Int)) = true from decide_eq_true (by omega)]
        have wr : Wr (pcz 32 L) (some m) := .long m hm ok z
        obtain ⟨v1, v3⟩ := shw_ok m (by omega)
        refine iteT ⟨_, rfl, .int (m : Int), .int (m : Int), rfl, .plain (.int _) rfl, v1, (by show 0 ≤ 32; decide), v3, (by show 3 ≤ sizeLine; decide), fun t nt => ?_⟩
        have ht : upd G t (.tup [.str (Str.ofString "text"), .str (Str.ofString "0"), .str (PyData.int (m : Int)).shown]) t = some (tupT m) := by
          rw [upd_same, ← shw0]
          rfl
        cases d with
        | bad n =>
          obtain rfl : m = n := Option.some.inj (wr_unique wr hd)
          exact kk t _ (sG.trans (same_new nt)) ht
        | half r =>
          have := wr_unique wr (show Wr (pcz 32 L) none by rw [hd.1, row_pcz]; exact (row_words hd.2.1).1)
          cases this
        | good r =>
          have := wr_unique wr (show Wr (pcz 32 L) none by rw [hd.1, row_pcz]; exact (row_words hd.2.1).1)
          cases this
      · rw [show decide (((pcz 32 L).length : Int) > (m : Int)) = false from decide_eq_false (by omega)]
        have wr : Wr (pcz 32 L) none := .no m hm ok (by omega)
        have hrow : ∃ r : Row, L = r.tx ∧ r.fit ∧ ((d = .half r ∧ ¬ 2 * r.q ≤ r.p + r.k) ∨ (d = .good r ∧ 2 * r.q ≤ r.p + r.k)) := by
          cases d with
          | bad n => have := wr_unique wr hd; cases this
          | half r => exact ⟨r, hd.1, hd.2.1, .inl ⟨rfl, hd.2.2⟩⟩
          | good r => exact ⟨r, hd.1, hd.2.1, .inr ⟨rfl, hd.2.2⟩⟩
        obtain ⟨r, eL, hf, hd2⟩ := hrow
        have eW : pcz 32 L = r.ws := by rw [eL, row_pcz]
        obtain ⟨_, e2, e3⟩ := row_words hf
        have em : m = if r.isT then 5 else 3 := by
          rw [eW, e2] at hm
          exact (Option.some.inj hm).symm
        have hS : G S = some (.tup r.vs) := by
          rw [hS, eW, em, e3, ← Row.vs_ns]
        have a0 : atI r.vs 0 = some (.int r.p) := by cases r <;> exact atI_nat (j := 0) rfl
        have a1 : atI r.vs 1 = some (.int r.q) := by cases r <;> exact atI_nat (j := 1) rfl
        have a2 : atI r.vs 2 = some (.int r.k) := by cases r <;> exact atI_nat (j := 2) rfl
        refine iteF ⟨_, rfl, S, _, _, _, rfl, rfl, SqT.of hS, a0, _, rfl, S, _, _, _, rfl, rfl, SqT.of hS, a2, _, _, rfl, rfl, _, rfl, S, _, _, _, rfl, rfl, SqT.of hS, a1, _, _, rfl, rfl, .inl ⟨by decide, by decide⟩, _, _, rfl, rfl, _, rfl, ?_⟩
        rcases hd2 with ⟨rfl, z2⟩ | ⟨rfl, z2⟩
        · rw [show decide (r.p + r.k < 2 * r.q) = true from decide_eq_true (by omega)]
          refine iteT ⟨(by show 3 ≤ sizeLine; decide), fun t nt => ?_⟩
          have ht : upd G t (.tup [.str (Str.ofString "text"), .str (Str.ofString "0"), .str (Str.ofString "1")]) t = some (tupT 1) := by
            rw [upd_same, ← shw0, ← shw1]
            rfl
          exact kk t _ (sG.trans (same_new nt)) ht
        · rw [show decide (r.p + r.k < 2 * r.q) = false from decide_eq_false (by omega)]
          refine iteF ⟨_, rfl, (by show 1 ≤ sizeLine; decide), fun a na => ?_⟩
          exact kk S a _ (sG.trans (same_new na)) (same_new na _ _ hS) upd_same
    obtain ⟨tF, hF, qF⟩ : ∃ t : TS, PSs (cxOf CX0 P w K mg base nLDue "_law_due" (defScope sLDue) f cdv A outer s H E).nox ((defBody sLDue).drop 3) t ∧ ∀ (G : Hp) (W S : Addr) (m : Nat), Same H G → G W = some (.lst ((pcz 32 L).map wz)) → manyOf (pcz 32 L) = some m → G S = some (.tup []) →
        t { nx := fun _ H' => Q .non H', rt := Q } [some (.str (Sx L)), some (.ref W), some (.ref S), some (.int (m : Int)), none, none] G := by
      refine ⟨_, (pss_cons (ps_for PassesOwn.never rfl (pi_range2 rfl T.range (pa_cons pe_int (pa_cons (pv 3) pa_nil))) (pg_name (i := 4) scLDue.nd rfl (.inl rfl))
        (pss_cons (ps_set (i := 5) scLDue.nd rfl (.inl rfl) pe_non)
        (pss_cons (ps_if (pt_cmpR op_lt (pv 4) (pe_callB call_len_seq (by rfl) T.len PySem.boot_len (pa_cons (pv 1) pa_nil)) (nomark _))
          (pss_one (ps_set (i := 5) scLDue.nd rfl (.inl rfl) (pe_ifExp (pt_cmpR op_in_seq (pv 4) (pe_tup (pa_cons pe_int (pa_cons pe_int pa_nil))) (by rfl))
            (pe_call G1 hr1 (by rfl) g1 k1 b1 .nil pass0 (pa_cons (pe_ix ix_list (pv 1) (pv 4) (fun _ _ => rfl)) (pa_cons (pe_un un_neg pe_int) (pa_cons pe_int pa_nil))))
            (pe_call G2 hr (by rfl) g2 k2 b2 .nil pass0 (pa_cons (pe_ix ix_list (pv 1) (pv 4) (fun _ _ => rfl)) (pa_cons (pe_ifExp (pt_cmpR op_eq (pv 4) pe_int (nomark _)) pe_int pe_int) pa_nil)))))) pss_nil)
        (pss_cons (ps_if (PW.pt (pw_or (pt_cmpR op_isN (pv 5) pe_non (nomark _)) (pw_or1 (PW.pt (pw_and (pt_cmpR op_eq (pv 4) pe_int (nomark _)) (pw_and1 (pt_cmpR op_lt (pe_ix ix_tup (pv 5) pe_int (fun _ _ => rfl)) (pe_ix ix_tup (pv 5) pe_int (fun _ _ => rfl)) (nomark _))))))))
          (pss_one (ps_ret (pe_tup (pa_cons pe_str (pa_cons pe_str (pa_cons (pe_callB (call_reprV gd hu) (by rfl) mr (by decide +kernel) (pa_cons (pv 4) pa_nil)) pa_nil)))))) pss_nil)
        (pss_one (ps_set (i := 2) scLDue.nd rfl (.inl rfl) (pe_op op_catA (pv 2) (pe_ifExp (pt_cmpR op_in_seq (pv 4) (pe_tup (pa_cons pe_int (pa_cons pe_int pa_nil))) (by rfl)) (pe_tup (pa_cons (pv 5) pa_nil)) (pv 5)))))))))
      hR), ?_⟩
      intro G W S m sG hW hm hS
      have hm5 : 3 ≤ m ∧ m ≤ 5 := by rcases many_cases hm with ⟨rfl, _⟩ | ⟨rfl, _⟩ <;> decide
      have bad : ∀ j : Nat, 1 ≤ j → j < m → okTo (pcz 32 L) j → slotS (pcz 32 L) j = none → ∀ (G : Hp) (t : Addr), Same H G → G t = none → Q (.ref t) (upd G t (.tup [.str (Str.ofString "text"), .str (Str.ofString "0"), .str (PyData.int (j : Int)).shown])) := by
        intro j h1 h2 h3 h4 G t sG nt
        have wr : Wr (pcz 32 L) (some j) := .at_ m j hm h1 h2 h3 h4
        have ht : upd G t (.tup [.str (Str.ofString "text"), .str (Str.ofString "0"), .str (PyData.int (j : Int)).shown]) t = some (tupT j) := by
          rw [upd_same, ← shw0]
          rfl
        cases d with
        | bad n =>
          obtain rfl : j = n := Option.some.inj (wr_unique wr hd)
          exact kk t _ (sG.trans (same_new nt)) ht
        | half r =>
          have := wr_unique wr (show Wr (pcz 32 L) none by rw [hd.1, row_pcz]; exact (row_words hd.2.1).1)
          cases this
        | good r =>
          have := wr_unique wr (show Wr (pcz 32 L) none by rw [hd.1, row_pcz]; exact (row_words hd.2.1).1)
          cases this
      have in24 : ∀ j : Nat, inV (.int (j : Int)) [.int 2, .int 4] = decide (j = 2 ∨ j = 4) := fun j => by
        show ((2 == (j : Int)) || ((4 == (j : Int)) || false)) = _
        by_cases z2 : j = 2
        · subst z2; rfl
        · by_cases z4 : j = 4
          · subst z4; rfl
          · rw [decide_eq_false (by omega)]
            have e2 : ((2 : Int) == (j : Int)) = false := by
              rw [beq_eq_false_iff_ne]; omega
            have e4 : ((4 : Int) == (j : Int)) = false := by
              rw [beq_eq_false_iff_ne]; omega
            rw [e2, e4]
            rfl
      refine ⟨_, rfl, 1, (m : Int), rfl, ⟨by decide, by decide, by omega, by omega⟩, ?_⟩
      rw [show ((m : Int) - 1).toNat = m - 1 by omega]
      refine for_it (walk_range (lo := 1) (n := m - 1)) (fun i σ G => okTo (pcz 32 L) (i + 1) ∧ Same H G ∧ ∃ (S : Addr) (x4 x5 : Option V), σ = [some (.str (Sx L)), some (.ref W), some (.ref S), some (.int (m : Int)), x4, x5] ∧ G W = some (.lst ((pcz 32 L).map wz)) ∧ G S = some (.tup ((accL (pcz 32 L) i).map V.int))) ⟨okTo_one _, sG, S, none, none, rfl, hW, hS⟩ (fun _ _ _ _ _ => trivial) (fun i v σ Gq Ga hi h y => ?_) (fun σ G2 h => ?_)
      · obtain ⟨rfl, rfl⟩ := y
        obtain ⟨hok, s2, S2, x4, x5, rfl, hW2, hS2⟩ := h
        have ec : (1 : Int) + (i : Int) = ((i + 1 : Nat) : Int) := by omega
        have hj : i + 1 < m := by omega
        generalize ej : i + 1 = j at ec hok hj
        have j1 : 1 ≤ j := by omega
        show gName 4 (.int (1 + (i : Int))) _ _ _
        rw [ec]
        refine ⟨_, rfl, _, rfl, W, _, rfl, .inl (SqL.of hW2), _, _, rfl, rfl, _, rfl, ?_⟩
        rw [List.length_map]
        obtain ⟨v1, v3⟩ := shw_ok j (by omega)
        by_cases z : j < (pcz 32 L).length
        · rw [show decide ((j : Int) < ((pcz 32 L).length : Int)) = true from decide_eq_true (by omega)]
          have e1 : (pcz 32 L)[j]? = some (pcz 32 L)[j] := List.getElem?_eq_getElem z
          have l1 := l63 _ (List.getElem_mem z)
          have es : slotS (pcz 32 L) j = slotO j (pcz 32 L)[j] := by unfold slotS; rw [e1]; rfl
          generalize (pcz 32 L)[j] = l at e1 l1 es
          have hix : atI ((pcz 32 L).map wz) (j : Int) = some (wz l) := atI_nat (j := j) (by rw [List.getElem?_map, e1]; rfl)
          refine iteT ⟨_, rfl, (by show 2 ≤ sizeLine; decide), fun T1 nT1 => ?_⟩
          have hT1 : upd Ga T1 (.tup [.int 2, .int 4]) T1 = some (.tup [.int 2, .int 4]) := upd_same
          have s3 := s2.trans (same_new (o := .tup [.int 2, .int 4]) nT1)
          have hW3 := same_new (o := .tup [.int 2, .int 4]) nT1 _ _ hW2
          have hS3 := same_new (o := .tup [.int 2, .int 4]) nT1 _ _ hS2
          generalize upd Ga T1 (.tup [.int 2, .int 4]) = G3 at hT1 s3 hW3 hS3 ⊢
          refine ⟨T1, _, rfl, .inr (SqT.of hT1), rfl, rfl, _, rfl, ?_⟩
          rw [if_neg (by decide), in24]
          by_cases z24 : j = 2 ∨ j = 4
          · rw [decide_eq_true z24]
            have eo : slotO j l = (nW (-6) 6 l).map fun z => [z] := by unfold slotO; rw [if_neg (by omega), if_neg (by omega)]
            refine iteT ⟨_, rfl, _, rfl, W, _, _, _, rfl, rfl, SqL.of hW3, hix, _, rfl, l, -6, 6, rfl, l1, by decide, by decide, by decide, fun G4 s4 => ?_⟩
            cases en : nW (-6) 6 l with
            | none =>
              have sl : slotS (pcz 32 L) j = none := by rw [es, eo, en]; rfl
              refine ⟨_, rfl, rfl, _, rfl, iteT (iteT ⟨_, rfl, .int (j : Int), .int (j : Int), rfl, .plain (.int _) rfl, v1, (by show 0 ≤ 32; decide), v3, (by show 3 ≤ sizeLine; decide), fun t nt => ?_⟩)⟩
              exact bad j j1 hj hok sl _ t (s3.trans s4) nt
            | some k =>
              have sl : slotS (pcz 32 L) j = some [k] := by rw [es, eo, en]; rfl
              refine ⟨_, rfl, rfl, _, rfl, iteF ⟨_, rfl, rfl, _, rfl, ?_⟩⟩
              rw [show decide (V.int (j : Int) = V.int 1) = false from decide_eq_false fun q => by injection q with q; omega]
              refine iteF (iteF ⟨_, rfl, _, rfl, (by show 2 ≤ sizeLine; decide), fun T2 nT2 => ?_⟩)
              have hT2 : upd G4 T2 (.tup [.int 2, .int 4]) T2 = some (.tup [.int 2, .int 4]) := upd_same
              have s5 := (s3.trans s4).trans (same_new (o := .tup [.int 2, .int 4]) nT2)
              have hW5 := same_new (o := .tup [.int 2, .int 4]) nT2 _ _ (s4 _ _ hW3)
              have hS5 := same_new (o := .tup [.int 2, .int 4]) nT2 _ _ (s4 _ _ hS3)
              generalize upd G4 T2 (.tup [.int 2, .int 4]) = G5 at hT2 s5 hW5 hS5 ⊢
              refine ⟨T2, _, rfl, .inr (SqT.of hT2), rfl, rfl, _, rfl, ?_⟩
              rw [if_neg (by decide), in24, decide_eq_true z24]
              refine iteT ⟨_, rfl, (by show 1 ≤ sizeLine; decide), fun T3 nT3 => ?_⟩
              have hT3 : upd G5 T3 (.tup [optI (some k)]) T3 = some (.tup [.int k]) := upd_same
              have s6 := s5.trans (same_new (o := .tup [optI (some k)]) nT3)
              have hW6 := same_new (o := .tup [optI (some k)]) nT3 _ _ hW5
              have hS6 := same_new (o := .tup [optI (some k)]) nT3 _ _ hS5
              generalize upd G5 T3 (.tup [optI (some k)]) = G6 at hT3 s6 hW6 hS6 ⊢
              have hacc : accL (pcz 32 L) j = accL (pcz 32 L) i ++ [k] := by
                rw [← ej]
                show accL (pcz 32 L) i ++ (slotS (pcz 32 L) (i + 1)).getD [] = _
                rw [ej, sl]
                rfl
              have hok2 : okTo (pcz 32 L) (j + 1) := okTo_succ hok (by rw [sl]; rfl)
              have hok3 : okTo (pcz 32 L) (i + 1 + 1) := by rw [ej]; exact hok2
              refine ⟨S2, T3, _, _, rfl, rfl, SqT.of hS6, SqT.of hT3, ?_, fun e0 => ?_, fun _ e0 => absurd e0 (List.cons_ne_nil _ _), fun _ _ p np => ?_⟩
              · have := acc_len (pcz 32 L) i hok3
                rw [List.length_map]
                exact Nat.le_trans (show _ + 1 ≤ 1000 by omega) (by decide)
              · refine ⟨hok2, s6, T3, _, _, rfl, hW6, ?_⟩
                rw [hacc]
                rw [show accL (pcz 32 L) i = [] from List.map_eq_nil_iff.mp e0]
                exact hT3
              · refine ⟨hok2, s6.trans (same_new np), p, _, _, rfl, same_new np _ _ hW6, ?_⟩
                rw [hacc, List.map_append]
                exact upd_same
          · rw [decide_eq_false z24]
            have z13 : j = 1 ∨ j = 3 := by omega
            obtain ⟨mx, emx, mx1, mx8⟩ : ∃ mx : Int, mx = (if V.int (j : Int) = V.int 1 then 6 else 8) ∧ 1 ≤ mx ∧ mx ≤ 8 := ⟨_, rfl, by split <;> decide, by split <;> decide⟩
            have eo : slotO j l = if j = 1 then (tW l).map fun z => [z.1, z.2] else (pW 8 l).map fun z => [z.1, z.2] := by
              unfold slotO
              rcases z13 with rfl | rfl
              · rfl
              · rfl
            -- what comes behind the call, for each answer
            have told : ∀ o : Option (Int × Int), o = pW mx l → (o = none → slotS (pcz 32 L) j = none) ∧ (∀ p q, o = some (p, q) → j = 1 → p < q → slotS (pcz 32 L) j = none) ∧ (∀ p q, o = some (p, q) → (j = 1 → ¬ p < q) → slotS (pcz 32 L) j = some [p, q]) := by
              intro o eo2
              rcases z13 with rfl | rfl
              · have em : mx = 6 := by rw [emx]; exact if_pos rfl
                rw [em] at eo2
                refine ⟨fun e => ?_, fun p q e _ lt => ?_, fun p q e ge => ?_⟩
                · rw [es, eo, if_pos rfl]
                  unfold tW
                  rw [← eo2, e]
                  rfl
                · rw [es, eo, if_pos rfl]
                  unfold tW
                  rw [← eo2, e]
                  show ((if q ≤ p then some (p, q) else none) : Option (Int × Int)).map _ = none
                  rw [if_neg (by omega)]
                  rfl
                · rw [es, eo, if_pos rfl]
                  unfold tW
                  rw [← eo2, e]
                  show ((if q ≤ p then some (p, q) else none) : Option (Int × Int)).map _ = _
                  rw [if_pos (by have := ge rfl; omega)]
                  rfl
              · have em : mx = 8 := by rw [emx]; exact if_neg (by decide)
                rw [em] at eo2
                refine ⟨fun e => ?_, fun p q e h => absurd h (by decide), fun p q e _ => ?_⟩
                · rw [es, eo, if_neg (by decide), ← eo2, e]
                  rfl
                · rw [es, eo, if_neg (by decide), ← eo2, e]
                  rfl
            refine iteF ⟨_, rfl, _, rfl, W, _, _, _, rfl, rfl, SqL.of hW3, hix, _, rfl, rfl, _, rfl, ?_⟩
            rcases z13 with rfl | rfl
            · -- the place 1
              have hmx : mx = 6 := by rw [emx]; exact if_pos rfl
              subst hmx
              refine iteT ⟨l, 6, rfl, l1, by decide, by decide, ?_⟩
              cases eo2 : pW 6 l with
              | none =>
                intro G4 s4
                have sl := (told none eo2.symm).1 rfl
                refine ⟨_, rfl, rfl, _, rfl, iteT (iteT ⟨_, rfl, .int ((1 : Nat) : Int), .int ((1 : Nat) : Int), rfl, .plain (.int _) rfl, v1, (by show 0 ≤ 32; decide), v3, (by show 3 ≤ sizeLine; decide), fun t nt => ?_⟩)⟩
                exact bad 1 j1 hj hok sl _ t (s3.trans s4) nt
              | some pq =>
                obtain ⟨p, q⟩ := pq
                intro tp G4 s4 htp
                have tl := told (some (p, q)) eo2.symm
                refine ⟨_, rfl, rfl, _, rfl, iteF ⟨_, rfl, rfl, _, rfl, iteT ⟨_, rfl, tp, _, _, _, rfl, rfl, SqT.of htp, atI_nat (j := 0) rfl, _, rfl, tp, _, _, _, rfl, rfl, SqT.of htp, atI_nat (j := 1) rfl, _, _, rfl, rfl, _, rfl, ?_⟩⟩⟩
                by_cases lt : p < q
                · rw [decide_eq_true lt]
                  have sl := tl.2.1 p q rfl rfl lt
                  refine iteT ⟨_, rfl, .int ((1 : Nat) : Int), .int ((1 : Nat) : Int), rfl, .plain (.int _) rfl, v1, (by show 0 ≤ 32; decide), v3, (by show 3 ≤ sizeLine; decide), fun t nt => ?_⟩
                  exact bad 1 j1 hj hok sl _ t (s3.trans s4) nt
                · rw [decide_eq_false lt]
                  have sl := tl.2.2 p q rfl (fun _ => lt)
                  refine iteF ⟨_, rfl, _, rfl, (by show 2 ≤ sizeLine; decide), fun T2 nT2 => ?_⟩
                  have hT2 : upd G4 T2 (.tup [.int 2, .int 4]) T2 = some (.tup [.int 2, .int 4]) := upd_same
                  have s5 := (s3.trans s4).trans (same_new (o := .tup [.int 2, .int 4]) nT2)
                  have hW5 := same_new (o := .tup [.int 2, .int 4]) nT2 _ _ (s4 _ _ hW3)
                  have hS5 := same_new (o := .tup [.int 2, .int 4]) nT2 _ _ (s4 _ _ hS3)
                  have hP5 := same_new (o := .tup [.int 2, .int 4]) nT2 _ _ htp
                  generalize upd G4 T2 (.tup [.int 2, .int 4]) = G5 at hT2 s5 hW5 hS5 hP5 ⊢
                  refine ⟨T2, _, rfl, .inr (SqT.of hT2), rfl, rfl, _, rfl, ?_⟩
                  rw [if_neg (by decide), in24, decide_eq_false z24]
                  have hacc : accL (pcz 32 L) 1 = accL (pcz 32 L) i ++ [p, q] := by
                    rw [← ej]
                    show accL (pcz 32 L) i ++ (slotS (pcz 32 L) (i + 1)).getD [] = _
                    rw [ej, sl]
                    rfl
                  have hok2 : okTo (pcz 32 L) (1 + 1) := okTo_succ hok (by rw [sl]; rfl)
                  have hok3 : okTo (pcz 32 L) (i + 1 + 1) := by rw [ej]; exact hok2
                  refine iteF ⟨_, rfl, S2, tp, _, _, rfl, rfl, SqT.of hS5, SqT.of hP5, ?_, fun e0 => ?_, fun _ e0 => absurd e0 (List.cons_ne_nil _ _), fun _ _ pp np => ?_⟩
                  · have := acc_len (pcz 32 L) i hok3
                    rw [List.length_map]
                    exact Nat.le_trans (show _ + 2 ≤ 1000 by omega) (by decide)
                  · refine ⟨hok2, s5, tp, _, _, rfl, hW5, ?_⟩
                    rw [hacc]
                    rw [show accL (pcz 32 L) i = [] from List.map_eq_nil_iff.mp e0]
                    exact hP5
                  · refine ⟨hok2, s5.trans (same_new np), pp, _, _, rfl, same_new np _ _ hW5, ?_⟩
                    rw [hacc, List.map_append]
                    exact upd_same
            · -- the place 3
              have hmx : mx = 8 := by rw [emx]; exact if_neg (by decide)
              subst hmx
              refine iteF ⟨l, 8, rfl, l1, by decide, by decide, ?_⟩
              cases eo2 : pW 8 l with
              | none =>
                intro G4 s4
                have sl := (told none eo2.symm).1 rfl
                refine ⟨_, rfl, rfl, _, rfl, iteT (iteT ⟨_, rfl, .int ((3 : Nat) : Int), .int ((3 : Nat) : Int), rfl, .plain (.int _) rfl, v1, (by show 0 ≤ 32; decide), v3, (by show 3 ≤ sizeLine; decide), fun t nt => ?_⟩)⟩
                exact bad 3 j1 hj hok sl _ t (s3.trans s4) nt
              | some pq =>
                obtain ⟨p, q⟩ := pq
                intro tp G4 s4 htp
                have tl := told (some (p, q)) eo2.symm
                have sl := tl.2.2 p q rfl (fun h => absurd h (by decide))
                refine ⟨_, rfl, rfl, _, rfl, iteF ⟨_, rfl, rfl, _, rfl, iteF ?_⟩⟩
                refine iteF ⟨_, rfl, _, rfl, (by show 2 ≤ sizeLine; decide), fun T2 nT2 => ?_⟩
                have hT2 : upd G4 T2 (.tup [.int 2, .int 4]) T2 = some (.tup [.int 2, .int 4]) := upd_same
                have s5 := (s3.trans s4).trans (same_new (o := .tup [.int 2, .int 4]) nT2)
                have hW5 := same_new (o := .tup [.int 2, .int 4]) nT2 _ _ (s4 _ _ hW3)
                have hS5 := same_new (o := .tup [.int 2, .int 4]) nT2 _ _ (s4 _ _ hS3)
                have hP5 := same_new (o := .tup [.int 2, .int 4]) nT2 _ _ htp
                generalize upd G4 T2 (.tup [.int 2, .int 4]) = G5 at hT2 s5 hW5 hS5 hP5 ⊢
                refine ⟨T2, _, rfl, .inr (SqT.of hT2), rfl, rfl, _, rfl, ?_⟩
                rw [if_neg (by decide), in24, decide_eq_false z24]
                have hacc : accL (pcz 32 L) 3 = accL (pcz 32 L) i ++ [p, q] := by
                  rw [← ej]
                  show accL (pcz 32 L) i ++ (slotS (pcz 32 L) (i + 1)).getD [] = _
                  rw [ej, sl]
                  rfl
                have hok2 : okTo (pcz 32 L) (3 + 1) := okTo_succ hok (by rw [sl]; rfl)
                have hok3 : okTo (pcz 32 L) (i + 1 + 1) := by rw [ej]; exact hok2
                refine iteF ⟨_, rfl, S2, tp, _, _, rfl, rfl, SqT.of hS5, SqT.of hP5, ?_, fun e0 => ?_, fun _ e0 => absurd e0 (List.cons_ne_nil _ _), fun _ _ pp np => ?_⟩
                · have := acc_len (pcz 32 L) i hok3
                  rw [List.length_map]
                  exact Nat.le_trans (show _ + 2 ≤ 1000 by omega) (by decide)
                · refine ⟨hok2, s5, tp, _, _, rfl, hW5, ?_⟩
                  rw [hacc]
                  rw [show accL (pcz 32 L) i = [] from List.map_eq_nil_iff.mp e0]
                  exact hP5
                · refine ⟨hok2, s5.trans (same_new np), pp, _, _, rfl, same_new np _ _ hW5, ?_⟩
                  rw [hacc, List.map_append]
                  exact upd_same
        · rw [show decide ((j : Int) < ((pcz 32 L).length : Int)) = false from decide_eq_false (by omega)]
          have sl : slotS (pcz 32 L) j = none := by
            unfold slotS
            rw [List.getElem?_eq_none (by omega)]
            rfl
          refine iteF ⟨_, rfl, rfl, _, rfl, iteT (iteT ⟨_, rfl, .int (j : Int), .int (j : Int), rfl, .plain (.int _) rfl, v1, (by show 0 ≤ 32; decide), v3, (by show 3 ≤ sizeLine; decide), fun t nt => ?_⟩)⟩
          exact bad j j1 hj hok sl _ t s2 nt
      · obtain ⟨hok, s2, S2, x4, x5, rfl, hW2, hS2⟩ := h
        rw [show m - 1 + 1 = m by omega] at hok
        exact qR G2 W S2 m x4 x5 s2 hW2 hm hok hS2
    refine ⟨_, pss_cons (ps_set (i := 1) scLDue.nd rfl (.inl rfl) (pe_split (pv 0) pe_str))
      (pss_cons (ps_if (pt_cmpR op_notIn_seq (pe_ix ix_list (pv 1) pe_int (fun _ _ => rfl)) (pe_tup (pa_cons pe_str (pa_cons pe_str pa_nil))) (by rfl)) (pss_one (ps_ret (pe_tup (pa_cons pe_str (pa_cons pe_str (pa_cons pe_str pa_nil)))))) pss_nil)
      (pss_cons (ps_par (i := 2) (j := 3) rfl scLDue.nd rfl rfl (by decide) rfl rfl (pa_cons (pe_tup pa_nil) (pa_cons (pe_ifExp (pt_cmpR op_eq (pe_ix ix_list (pv 1) pe_int (fun _ _ => rfl)) pe_str (nomark _)) pe_int pe_int) pa_nil)) rfl)
      hF)), ?_⟩
    have sz : (Sx L).length + 2 ≤ sizeLine := by rw [SX.S_len, sizeLine_eq]; omega
    refine ⟨_, rfl, ⟨_, rfl⟩, _, _, rfl, rfl, by decide +kernel, sz, fun W nW' => ?_⟩
    rw [show (Txt.split (Sx L) (Str.ofString " ")).map V.str = (pcz 32 L).map wz from split_pcz (by decide) L]
    have hW : upd H W (.lst ((pcz 32 L).map wz)) W = some (.lst ((pcz 32 L).map wz)) := upd_same
    have sW : Same H (upd H W (.lst ((pcz 32 L).map wz))) := same_new nW'
    generalize upd H W (.lst ((pcz 32 L).map wz)) = H1 at hW sW ⊢
    obtain ⟨w0, wr0, ew⟩ : ∃ w0 wr, pcz 32 L = w0 :: wr := by
      cases e : pcz 32 L with
      | nil => exact absurd e (pcz_ne 32 L)
      | cons x r => exact ⟨x, r, rfl⟩
    have h0 : (pcz 32 L)[0]? = some w0 := by rw [ew]; rfl
    have hix : atI ((pcz 32 L).map wz) 0 = some (wz w0) := atI_nat (j := 0) (by rw [List.getElem?_map, h0]; rfl)
    have ev : ∀ a b : List Nat, eqV (.str (Sx a)) (.str (Sx b)) = decide (a = b) := fun a b => by
      show (Sx a == Sx b) = _
      by_cases z : a = b
      · rw [z]; simp
      · have : ¬ Sx a = Sx b := fun q => z (S_inj q)
        rw [decide_eq_false z]
        simpa using this
    have iv : inV (wz w0) [.str (Str.ofString "turn"), .str (Str.ofString "try")] = decide (w0 = wTurn ∨ w0 = wTry) := by
      have e1 : eqV (.str (Str.ofString "turn")) (wz w0) = decide (wTurn = w0) := ev wTurn w0
      have e2 : eqV (.str (Str.ofString "try")) (wz w0) = decide (wTry = w0) := ev wTry w0
      show (eqV (.str (Str.ofString "turn")) (wz w0) || (eqV (.str (Str.ofString "try")) (wz w0) || false)) = _
      rw [e1, e2]
      by_cases z1 : w0 = wTurn
      · rw [decide_eq_true z1.symm, decide_eq_true (show w0 = wTurn ∨ w0 = wTry from .inl z1)]
        rfl
      · rw [decide_eq_false (fun q => z1 q.symm)]
        by_cases z2 : w0 = wTry
        · rw [decide_eq_true z2.symm, decide_eq_true (show w0 = wTurn ∨ w0 = wTry from .inr z2)]
          rfl
        · rw [decide_eq_false (fun q => z2 q.symm), decide_eq_false (show ¬ (w0 = wTurn ∨ w0 = wTry) from fun q => q.elim z1 z2)]
          rfl
    refine ⟨_, rfl, W, _, _, _, rfl, rfl, SqL.of hW, hix, (by show 2 ≤ sizeLine; decide), fun T1 nT1 => ?_⟩
    have hT1 : upd H1 T1 (.tup [.str (Str.ofString "turn"), .str (Str.ofString "try")]) T1 = some (.tup [.str (Str.ofString "turn"), .str (Str.ofString "try")]) := upd_same
    have s1 := sW.trans (same_new (o := .tup [.str (Str.ofString "turn"), .str (Str.ofString "try")]) nT1)
    have hW1 := same_new (o := .tup [.str (Str.ofString "turn"), .str (Str.ofString "try")]) nT1 _ _ hW
    generalize upd H1 T1 (.tup [.str (Str.ofString "turn"), .str (Str.ofString "try")]) = H2 at hT1 s1 hW1 ⊢
    refine ⟨T1, _, rfl, .inr (SqT.of hT1), rfl, rfl, _, rfl, ?_⟩
    rw [if_pos rfl, iv]
    by_cases hm0 : w0 = wTurn ∨ w0 = wTry
    · rw [decide_eq_true hm0]
      refine iteF ?_
      refine ⟨(by show 0 ≤ sizeLine; decide), fun S nS => ?_⟩
      have hS : upd H2 S (.tup []) S = some (.tup []) := upd_same
      have s2 := s1.trans (same_new (o := .tup []) nS)
      have hW2 := same_new (o := .tup []) nS _ _ hW1
      generalize upd H2 S (.tup []) = H3 at hS s2 hW2 ⊢
      refine ⟨_, rfl, W, _, _, _, rfl, rfl, SqL.of hW2, hix, rfl, _, rfl, ?_⟩
      by_cases z : w0 = wTurn
      · rw [show decide (wz w0 = V.str (Str.ofString "turn")) = true from decide_eq_true (by rw [z]; rfl)]
        refine iteT ⟨_, _, rfl, ?_⟩
        exact qF H3 W S 5 s2 hW2 (by unfold manyOf; rw [h0, if_pos (by rw [z])]) hS
      · have z2 : w0 = wTry := hm0.resolve_left z
        rw [show decide (wz w0 = V.str (Str.ofString "turn")) = false from decide_eq_false fun q => z (S_inj (b := wTurn) (V.str.inj q))]
        refine iteF ⟨_, _, rfl, ?_⟩
        exact qF H3 W S 3 s2 hW2 (by unfold manyOf; rw [h0, if_neg (fun q => z (Option.some.inj q)), if_pos (by rw [z2])]) hS
    · rw [decide_eq_false hm0]
      refine iteT ⟨(by show 3 ≤ sizeLine; decide), fun t nt => ?_⟩
      have wr : Wr (pcz 32 L) (some 0) := .head (by
        unfold manyOf
        rw [h0, if_neg (fun q => hm0 (.inl (Option.some.inj q))), if_neg (fun q => hm0 (.inr (Option.some.inj q)))])
      have ht : upd H2 t (.tup [.str (Str.ofString "text"), .str (Str.ofString "0"), .str (Str.ofString "0")]) t = some (tupT 0) := by
        rw [upd_same, ← shw0]
        rfl
      cases d with
      | bad n =>
        obtain rfl : 0 = n := Option.some.inj (wr_unique wr hd)
        exact kk t _ (s1.trans (same_new nt)) ht
      | half r =>
        have := wr_unique wr (show Wr (pcz 32 L) none by rw [hd.1, row_pcz]; exact (row_words hd.2.1).1)
        cases this
      | good r =>
        have := wr_unique wr (show Wr (pcz 32 L) none by rw [hd.1, row_pcz]; exact (row_words hd.2.1).1)
        cases this
end
end Ev
namespace Ev
open PySem L2 PySem.Spec PyProof.Rows
abbrev sBent : Stmt := top 56
def sumL (ws : List (List Nat)) : Nat := (ws.map List.length).sum
theorem sumL_app (a b : List (List Nat)) : sumL (a ++ b) = sumL a + sumL b := by unfold sumL; rw [List.map_append, List.sum_append]
theorem sumL_cut (ws : List (List Nat)) (j : Nat) : sumL (ws.take j) + sumL (ws.drop j) = sumL ws := by rw [← sumL_app, List.take_append_drop]
theorem sumL_rev (ws : List (List Nat)) : sumL ws.reverse = sumL ws := by unfold sumL; rw [List.map_reverse, List.sum_reverse]
theorem sumL_one (x : List Nat) : sumL [x] = x.length := by simp [sumL]
theorem jz_len (s : Nat) : ∀ ws : List (List Nat), ws ≠ [] → (jz s ws).length + 1 = sumL ws + ws.length := by
  intro ws
  induction ws with
  | nil => intro h; exact absurd rfl h
  | cons a r ih =>
    intro _
    cases r with
    | nil => simp [jz, TL.joinL, sumL]
    | cons b t =>
      have := ih (by simp)
      rw [jz_cons, List.length_append, List.length_cons]
      simp only [sumL, List.map_cons, List.sum_cons, List.length_cons] at this ⊢
      omega
theorem jz_le (s : Nat) (ws : List (List Nat)) : (jz s ws).length ≤ sumL ws + ws.length - 1 := by
  cases ws with
  | nil => simp [jz, TL.joinL]
  | cons a r => have := jz_len s (a :: r) (by simp); omega
theorem pcz_sum (s : Nat) (L : List Nat) : sumL (pcz s L) + (pcz s L).length = L.length + 1 := by
  have := jz_len s (pcz s L) (pcz_ne s L)
  rw [jz_pcz] at this
  exact this.symm
theorem cut_wto (ws : List (List Nat)) (j : Nat) : cutV (ws.map wz) none (some (j : Int)) = (ws.take j).map wz := by
  unfold cutV
  rw [HT.sIx_none, HT.sIx_nat, List.map_take]
  simp only [List.drop_zero, Nat.sub_zero]
  by_cases h : j ≤ (ws.map wz).length
  · rw [Nat.min_eq_left h]
  · rw [Nat.min_eq_right (by omega), List.take_of_length_le (Nat.le_refl _), List.take_of_length_le (by omega)]
theorem cut_wfrom (ws : List (List Nat)) (j : Nat) : cutV (ws.map wz) (some (j : Int)) none = (ws.drop j).map wz := by
  unfold cutV
  rw [HT.sIx_none, HT.sIx_nat, List.map_drop]
  by_cases h : j ≤ (ws.map wz).length
  · rw [Nat.min_eq_left h, ← List.length_drop, List.take_length]
  · rw [Nat.min_eq_right (by omega), List.drop_of_length_le (Nat.le_refl _), List.drop_of_length_le (by omega)]
    simp
theorem cut_wfrom1 (ws : List (List Nat)) (j : Nat) : cutV (ws.map wz) (some ((j : Int) + 1)) none = (ws.drop (j + 1)).map wz := cut_wfrom ws (j + 1)
theorem cut_wfrom2 (ws : List (List Nat)) (j : Nat) : cutV (ws.map wz) (some ((j : Int) + 2)) none = (ws.drop (j + 2)).map wz := cut_wfrom ws (j + 2)
theorem cut_wmid2 (ws : List (List Nat)) (j : Nat) : cutV (ws.map wz) (some (j : Int)) (some ((j : Int) + 2)) = ((ws.drop j).take 2).map wz := by
  have e : ((j : Int) + 2) = ((j + 2 : Nat) : Int) := rfl
  unfold cutV
  rw [e, HT.sIx_nat, HT.sIx_nat, List.map_take, List.map_drop]
  by_cases h : j + 2 ≤ (ws.map wz).length
  · rw [Nat.min_eq_left h, Nat.min_eq_left (by omega), show j + 2 - j = 2 by omega]
  · rw [Nat.min_eq_right (by omega)]
    by_cases h2 : j ≤ (ws.map wz).length
    · rw [Nat.min_eq_left h2, List.take_of_length_le (by rw [List.length_drop]; omega), List.take_of_length_le (by rw [List.length_drop]; omega)]
    · rw [Nat.min_eq_right (by omega), List.drop_of_length_le (Nat.le_refl _), List.drop_of_length_le (by omega)]
      simp
/-- a new list that a slice gives -/
theorem slH {K : PySem.W.Frag} {a : Addr} {ws us : List (List Nat)} {lo hi : Option Int} {H : Hp} {Q : VK} (h : H a = some (.lst (ws.map wz))) (e : cutV (ws.map wz) lo hi = us.map wz)
    (k : ∀ (S : Addr) (H' : Hp), H S = none → Same H H' → H' S = some (.lst (us.map wz)) → Q (.ref S) H') : rSlL K (.ref a) lo hi H Q :=
  ⟨a, _, rfl, SqL.of h, fun S nS => k S _ nS (same_new nS) (by rw [e]; exact upd_same)⟩
theorem catH {a b : Addr} {xs ys : List (List Nat)} {H : Hp} {Q : VK} (h1 : H a = some (.lst (xs.map wz))) (h2 : H b = some (.lst (ys.map wz))) (hl : xs.length + ys.length ≤ 1000)
    (k : ∀ (S : Addr) (H' : Hp), H S = none → Same H H' → H' S = some (.lst ((xs ++ ys).map wz)) → Q (.ref S) H') : rCat (.ref a) (.ref b) H Q := by
  refine ⟨a, b, _, _, rfl, rfl, h1, h2, ?_, fun S nS => k S _ nS (same_new nS) (by rw [List.map_append]; exact upd_same)⟩
  rw [List.length_map, List.length_map]
  exact Nat.le_trans hl (by decide)
def someW : List (List Nat) := [[], [45], [48], [45, 48], [54], [45, 54], [55], [45, 55], [48, 55], [51, 47, 49], [49, 47, 51], [51, 47, 48, 49], [57, 47, 49], [56, 47, 56], [54, 47, 54], [116, 117, 114, 110], [116, 114, 121]]
def someX : List (List Nat) := [[49, 47, 49], [51], [47], [51, 47, 49, 47, 49], [120], [49, 48]]
def signW : List (List Nat) := [[32], [10], [49], [45], [47]]
theorem someW_len : ∀ l ∈ someW ++ someX, l.length ≤ 5 := by decide
theorem signW_len : ∀ l ∈ signW, l.length ≤ 5 := by decide
def spBent : Sp := fun vs H Q _ => ∃ (p L0 : Addr) (L : List Nat) (b : Int), vs = [.ref p, .str (Sx L)] ∧ L.length ≤ 50 ∧ b ≤ 900000 ∧ Pen L0 H p b ∧
  ∀ (L' : List Nat) (H' : Hp), L'.length ≤ L.length + 6 → But p H H' → Pen L0 H' p (b + 5) → Q (.str (Sx L')) H'
theorem joinH {us : List (List Nat)} {H : Hp} {Q : VK} {K : PySem.W.Frag} {R : Addr} (hR : H R = some (.lst (us.map wz))) (hl : sumL us + us.length ≤ 1000) (k : Q (.str (Sx (jz 32 us))) H) :
    ∃ a p, ∃ ys : List Str, V.str (Str.ofString " ") = .str a ∧ [V.ref R] = [.ref p] ∧ (SqL K H p (ys.map V.str) ∨ SqT K H p (ys.map V.str)) ∧ (ys.map (·.length)).sum + ys.length * a.length ≤ 16777216 ∧ Q (.str (Txt.join a ys)) H := by
  refine ⟨_, R, us.map SX.S, rfl, rfl, .inl (SqL.of (by rw [hR, List.map_map]; rfl)), ?_, ?_⟩
  · rw [SX.lens, List.length_map]
    have e1 : (Str.ofString " ").length = 1 := by decide +kernel
    rw [e1]
    unfold sumL at hl
    show (us.map List.length).sum + _ ≤ _
    omega
  · have e : Txt.join (Str.ofString " ") (us.map SX.S) = Sx (jz 32 us) := SX.join_S [32] us
    rw [e]
    exact k
section
variable {P : Program} {w : World} {K : PySem.W.Frag} {mg : Str → Option Value} {base : Heap}
theorem scBent : FnScope ["_law_pen_here", "_law_text_so", "_law_words", "_law_at", "_law_way", "_law_some", "_law_odd", "_law_cut"] ["_law_pen_here", "_law_text_so"] (defScope sBent) := ⟨rfl, rfl, rfl, by decide +kernel, rfl, by decide +kernel, by decide +kernel⟩
theorem ok_bent {f : Addr} {fd : FuncData} (F : Fun K "_law_bent" "_law_bent" sBent f fd) (T : Blt mg) (D1 : Df P w K mg base 1 "_law_draw" ["_law_pen_here", "_law_many"] spDraw) (D2 : Df P w K mg base 2 "_law_pick" ["_law_pen_here", "_law_some"] spPick) : FnOk P w K mg base CX0 3 f fd ["_law_pen_here", "_law_text_so"] spBent := by
  obtain ⟨f1, fd1, G1, g1, k1, b1⟩ := D1.ex
  obtain ⟨f2, fd2, G2, g2, k2, b2⟩ := D2.ex
  refine F.ok scBent (fun vs H Q E h => ?_) (fun cdv A outer s H vs Q E hr h => ?_)
  · obtain ⟨p, L0, L, b, rfl, _⟩ := h
    rfl
  · obtain ⟨p, L0, L, b, rfl, hL, hb, hp, kk⟩ := h
    have hr1 : Room 1 _ := hr.mono (by decide)
    refine ⟨_, pss_cons (ps_set (i := 2) scBent.nd rfl (.inl rfl) (pe_split (pv 1) pe_str))
      (pss_cons (ps_par (i := 3) (j := 4) rfl scBent.nd rfl rfl (by decide) rfl rfl (pa_cons (pe_call G1 hr1 (by rfl) g1 k1 b1 .nil pass0 (pa_cons (pv 0) (pa_cons (pe_callB call_len_seq (by rfl) T.len PySem.boot_len (pa_cons (pv 2) pa_nil)) pa_nil))) (pa_cons (pe_call G1 hr1 (by rfl) g1 k1 b1 .nil pass0 (pa_cons (pv 0) (pa_cons pe_int pa_nil))) pa_nil)) rfl)
      (pss_cons (ps_set (i := 5) scBent.nd rfl (.inl rfl) (pe_lst (pa_cons pe_str (pa_cons pe_str (pa_cons pe_str (pa_cons pe_str (pa_cons pe_str (pa_cons pe_str (pa_cons pe_str (pa_cons pe_str (pa_cons pe_str (pa_cons pe_str (pa_cons pe_str (pa_cons pe_str (pa_cons pe_str (pa_cons pe_str (pa_cons pe_str (pa_cons pe_str (pa_cons pe_str pa_nil)))))))))))))))))))
      (pss_cons (ps_set (i := 6) scBent.nd rfl (.inl rfl) (pe_call G2 hr (by rfl) g2 k2 b2 .nil pass0 (pa_cons (pv 0) (pa_cons (pe_op op_cat (pv 5) (pe_lst (pa_cons pe_str (pa_cons pe_str (pa_cons pe_str (pa_cons pe_str (pa_cons pe_str (pa_cons pe_str pa_nil)))))))) pa_nil))))
      (pss_cons (ps_if (pt_cmpR op_lt (pv 4) pe_int (nomark _)) (pss_one (ps_ret (pe_join pe_str (pe_op op_cat (pe_op op_cat (pe_slice sl_list (pv 2) po_none (po_some (pv 3))) (pe_lst (pa_cons (pv 6) pa_nil))) (pe_slice sl_list (pv 2) (po_some (pe_op op_add (pv 3) pe_int)) po_none))))) pss_nil)
      (pss_cons (ps_if (pt_cmpR op_eq (pv 4) pe_int (nomark _)) (pss_one (ps_ret (pe_join pe_str (pe_op op_cat (pe_slice sl_list (pv 2) po_none (po_some (pv 3))) (pe_slice sl_list (pv 2) (po_some (pe_op op_add (pv 3) pe_int)) po_none))))) pss_nil)
      (pss_cons (ps_if (pt_cmpR op_eq (pv 4) pe_int (nomark _)) (pss_one (ps_ret (pe_join pe_str (pe_op op_cat (pe_op op_cat (pe_slice sl_list (pv 2) po_none (po_some (pv 3))) (pe_lst (pa_cons (pv 6) pa_nil))) (pe_slice sl_list (pv 2) (po_some (pv 3)) po_none))))) pss_nil)
      (pss_cons (ps_if (pt_cmpR op_eq (pv 4) pe_int (nomark _)) (pss_one (ps_ret (pe_join pe_str (pe_op op_cat (pe_op op_cat (pe_slice sl_list (pv 2) po_none (po_some (pv 3))) (pe_revL (pe_slice sl_list (pv 2) (po_some (pv 3)) (po_some (pe_op op_add (pv 3) pe_int))))) (pe_slice sl_list (pv 2) (po_some (pe_op op_add (pv 3) pe_int)) po_none))))) pss_nil)
      (pss_cons (ps_set (i := 7) scBent.nd rfl (.inl rfl) (pe_call G1 hr1 (by rfl) g1 k1 b1 .nil pass0 (pa_cons (pv 0) (pa_cons (pe_op op_add (pe_callB call_len_str (by rfl) T.len PySem.boot_len (pa_cons (pv 1) pa_nil)) pe_int) pa_nil))))
      (pss_one (ps_ret (pe_op op_add_str (pe_op op_add_str (pe_slice C8.sl_txt (pv 1) po_none (po_some (pv 7))) (pe_call G2 hr (by rfl) g2 k2 b2 .nil pass0 (pa_cons (pv 0) (pa_cons (pe_lst (pa_cons pe_str (pa_cons pe_str (pa_cons pe_str (pa_cons pe_str (pa_cons pe_str pa_nil)))))) pa_nil)))) (pe_slice C8.sl_txt (pv 1) (po_some (pv 7)) po_none)))))))))))), ?_⟩
    have sz : (Sx L).length + 2 ≤ sizeLine := by rw [SX.S_len, sizeLine_eq]; omega
    refine ⟨_, rfl, ⟨_, rfl⟩, _, _, rfl, rfl, by decide +kernel, sz, fun W nW' => ?_⟩
    rw [show (Txt.split (Sx L) (Str.ofString " ")).map V.str = (pcz 32 L).map wz from split_pcz (by decide) L]
    have hW : upd H W (.lst ((pcz 32 L).map wz)) W = some (.lst ((pcz 32 L).map wz)) := upd_same
    have sW : Same H (upd H W (.lst ((pcz 32 L).map wz))) := same_new nW'
    have hWp : W ≠ p := hp.ne nW'
    generalize upd H W (.lst ((pcz 32 L).map wz)) = H1 at hW sW ⊢
    have hsum := pcz_sum 32 L
    have hne := pcz_ne 32 L
    generalize pcz 32 L = ws at hW hsum hne
    have n1 : 1 ≤ ws.length := List.length_pos_iff.mpr hne
    refine ⟨_, rfl, _, rfl, W, _, rfl, .inl (SqL.of hW), p, L0, _, b, rfl, by rw [List.length_map]; omega, by rw [List.length_map]; omega, by omega, hp.keep sW, fun d1 H2 t2 p2 c0 c1 => ?_⟩
    obtain ⟨j, rfl⟩ := Int.eq_ofNat_of_zero_le c0
    have hW2 := t2 _ _ hWp hW
    refine ⟨_, rfl, p, L0, _, _, rfl, by decide, by decide, by omega, p2, fun d2 H3 t3 p3 e0 e1 => ⟨_, _, rfl, ?_⟩⟩
    have hW3 := t3 _ _ hWp hW2
    have bt3 : But p H H3 := (Same.but sW).trans (t2.trans t3)
    refine ⟨(by show 17 ≤ sizeLine; decide), fun l nl => ?_⟩
    rw [show [V.str (Str.ofString ""), V.str (Str.ofString "-"), V.str (Str.ofString "0"), V.str (Str.ofString "-0"), V.str (Str.ofString "6"), V.str (Str.ofString "-6"), V.str (Str.ofString "7"), V.str (Str.ofString "-7"), V.str (Str.ofString "07"), V.str (Str.ofString "3/1"), V.str (Str.ofString "1/3"), V.str (Str.ofString "3/01"), V.str (Str.ofString "9/1"), V.str (Str.ofString "8/8"), V.str (Str.ofString "6/6"), V.str (Str.ofString "turn"), V.str (Str.ofString "try")] = someW.map wz from rfl]
    have lp : l ≠ p := p3.ne nl
    have hl : upd H3 l (.lst (someW.map wz)) l = some (.lst (someW.map wz)) := upd_same
    have s4 : Same H3 (upd H3 l (.lst (someW.map wz))) := same_new nl
    generalize upd H3 l (.lst (someW.map wz)) = H4 at hl s4 ⊢
    refine ⟨_, rfl, _, rfl, (by show 6 ≤ sizeLine; decide), fun l2 nl2 => ?_⟩
    rw [show [V.str (Str.ofString "1/1"), V.str (Str.ofString "3"), V.str (Str.ofString "/"), V.str (Str.ofString "3/1/1"), V.str (Str.ofString "x"), V.str (Str.ofString "10")] = someX.map wz from rfl]
    have hl2 : upd H4 l2 (.lst (someX.map wz)) l2 = some (.lst (someX.map wz)) := upd_same
    have s5 : Same H4 (upd H4 l2 (.lst (someX.map wz))) := same_new nl2
    generalize upd H4 l2 (.lst (someX.map wz)) = H5 at hl2 s5 ⊢
    refine catH (s5 _ _ hl) hl2 (by decide) fun l3 H6 nl3 s6 hl3 => ?_
    have s36 := s4.trans (s5.trans s6)
    have p6 := p3.keep s36
    have l3p : l3 ≠ p := ((p3.keep s4).keep s5).ne nl3
    refine ⟨p, l3, L0, _, _, rfl, hl3, l3p, by rw [List.length_map]; decide, by rw [List.length_map]; decide, by omega, p6, fun dv H7 mem t7 p7 => ?_⟩
    obtain ⟨x, hx, rfl⟩ := List.mem_map.mp mem
    have hx5 := someW_len x hx
    have hW7 := t7 _ _ hWp (s36 _ _ hW3)
    have bt7 : But p H H7 := bt3.trans ((Same.but s36).trans t7)
    have p7 : Pen L0 H7 p (b + 3) := p7.mono (by omega)
    clear mem hx hl hl2 hl3 s4 s5 s6 s36 p6
    have cut := sumL_cut ws j
    have cutl : (ws.take j).length + (ws.drop j).length = ws.length := by rw [← List.length_append, List.take_append_drop]
    have fin : ∀ (us : List (List Nat)) (G : Hp) (R : Addr), Same H7 G → G R = some (.lst (us.map wz)) → sumL us + us.length ≤ sumL ws + ws.length + 6 → ∃ a p, ∃ ys : List Str, V.str (Str.ofString " ") = .str a ∧ [V.ref R] = [.ref p] ∧ (SqL K G p (ys.map V.str) ∨ SqT K G p (ys.map V.str)) ∧ (ys.map (·.length)).sum + ys.length * a.length ≤ 16777216 ∧ Q (.str (Txt.join a ys)) G := by
      intro us G R sG hR hl
      refine joinH hR (by omega) (kk _ _ ?_ (bt7.trans (Same.but sG)) ((p7.keep sG).mono (by omega)))
      have := jz_le 32 us
      omega
    have dj1 : sumL (ws.drop (j + 1)) ≤ sumL (ws.drop j) := by
      have a := sumL_cut (ws.drop j) 1
      rw [List.drop_drop] at a
      omega
    refine ⟨_, rfl, _, _, rfl, rfl, _, rfl, ite2 (fun _ => ?_) (fun _ => ?_)⟩
    · -- another word
      refine ⟨⟨_, rfl⟩, _, rfl, _, rfl, _, rfl, slH hW7 (cut_wto ws j) fun S G1 nS sS hS => ?_⟩
      refine ⟨_, rfl, (by show 1 ≤ sizeLine; decide), fun Y nY => ?_⟩
      have hY : upd G1 Y (.lst [wz x]) Y = some (.lst ([x].map wz)) := upd_same
      have sY : Same G1 (upd G1 Y (.lst [wz x])) := same_new nY
      generalize upd G1 Y (.lst [wz x]) = G2 at hY sY ⊢
      refine catH (sY _ _ hS) hY (by simp only [List.length_cons, List.length_nil]; omega) fun R1 G3 nR1 sR1 hR1 => ?_
      refine ⟨_, rfl, _, rfl, _, _, rfl, rfl, _, rfl, W, _, rfl, SqL.of (sR1 _ _ (sY _ _ (sS _ _ hW7))), fun U nU => ?_⟩
      rw [cut_wfrom1]
      have hU : upd G3 U (.lst ((ws.drop (j + 1)).map wz)) U = some (.lst ((ws.drop (j + 1)).map wz)) := upd_same
      have sU : Same G3 (upd G3 U (.lst ((ws.drop (j + 1)).map wz))) := same_new nU
      generalize upd G3 U (.lst ((ws.drop (j + 1)).map wz)) = G4 at hU sU ⊢
      refine catH (sU _ _ hR1) hU (by simp only [List.length_append, List.length_cons, List.length_nil, List.length_drop]; omega) fun R G5 nR sR hR => ?_
      refine fin _ G5 R (sS.trans (sY.trans (sR1.trans (sU.trans sR)))) hR ?_
      have := sumL_cut ws (j + 1)
      rw [sumL_app, sumL_app, sumL_one, List.length_append, List.length_append]
      simp only [List.length_cons, List.length_nil, List.length_drop, List.length_take] at *
      omega
    refine ⟨_, rfl, rfl, _, rfl, ite2 (fun _ => ?_) (fun _ => ?_)⟩
    · -- a word less
      refine ⟨⟨_, rfl⟩, _, rfl, _, rfl, _, rfl, slH hW7 (cut_wto ws j) fun S G1 nS sS hS => ?_⟩
      refine ⟨_, rfl, _, rfl, _, _, rfl, rfl, _, rfl, W, _, rfl, SqL.of (sS _ _ hW7), fun U nU => ?_⟩
      rw [cut_wfrom1]
      have hU : upd G1 U (.lst ((ws.drop (j + 1)).map wz)) U = some (.lst ((ws.drop (j + 1)).map wz)) := upd_same
      have sU : Same G1 (upd G1 U (.lst ((ws.drop (j + 1)).map wz))) := same_new nU
      generalize upd G1 U (.lst ((ws.drop (j + 1)).map wz)) = G4 at hU sU ⊢
      refine catH (sU _ _ hS) hU (by simp only [List.length_drop]; omega) fun R G5 nR sR hR => ?_
      refine fin _ G5 R (sS.trans (sU.trans sR)) hR ?_
      rw [sumL_app, List.length_append]
      simp only [List.length_drop, List.length_take] at *
      omega
    refine ⟨_, rfl, rfl, _, rfl, ite2 (fun _ => ?_) (fun _ => ?_)⟩
    · -- a word more
      refine ⟨⟨_, rfl⟩, _, rfl, _, rfl, _, rfl, slH hW7 (cut_wto ws j) fun S G1 nS sS hS => ?_⟩
      refine ⟨_, rfl, (by show 1 ≤ sizeLine; decide), fun Y nY => ?_⟩
      have hY : upd G1 Y (.lst [wz x]) Y = some (.lst ([x].map wz)) := upd_same
      have sY : Same G1 (upd G1 Y (.lst [wz x])) := same_new nY
      generalize upd G1 Y (.lst [wz x]) = G2 at hY sY ⊢
      refine catH (sY _ _ hS) hY (by simp only [List.length_cons, List.length_nil]; omega) fun R1 G3 nR1 sR1 hR1 => ?_
      refine ⟨_, rfl, _, rfl, _, rfl, W, _, rfl, SqL.of (sR1 _ _ (sY _ _ (sS _ _ hW7))), fun U nU => ?_⟩
      rw [cut_wfrom]
      have hU : upd G3 U (.lst ((ws.drop j).map wz)) U = some (.lst ((ws.drop j).map wz)) := upd_same
      have sU : Same G3 (upd G3 U (.lst ((ws.drop j).map wz))) := same_new nU
      generalize upd G3 U (.lst ((ws.drop j).map wz)) = G4 at hU sU ⊢
      refine catH (sU _ _ hR1) hU (by simp only [List.length_append, List.length_cons, List.length_nil, List.length_drop]; omega) fun R G5 nR sR hR => ?_
      refine fin _ G5 R (sS.trans (sY.trans (sR1.trans (sU.trans sR)))) hR ?_
      have := sumL_cut ws (j + 1)
      rw [sumL_app, sumL_app, sumL_one, List.length_append, List.length_append]
      simp only [List.length_cons, List.length_nil, List.length_drop, List.length_take] at *
      omega
    refine ⟨_, rfl, rfl, _, rfl, ite2 (fun _ => ?_) (fun _ => ?_)⟩
    · -- two words exchanged
      refine ⟨⟨_, rfl⟩, _, rfl, _, rfl, _, rfl, slH hW7 (cut_wto ws j) fun S G1 nS sS hS => ?_⟩
      refine ⟨_, rfl, _, rfl, _, rfl, _, rfl, _, _, rfl, rfl, _, rfl, slH (sS _ _ hW7) (cut_wmid2 ws j) fun Z G2 nZ sZ hZ => ?_⟩
      refine ⟨Z, _, rfl, SqL.of hZ, fun Y nY => ?_⟩
      rw [← List.map_reverse]
      have hY : upd G2 Y (.lst (((ws.drop j).take 2).reverse.map wz)) Y = some (.lst (((ws.drop j).take 2).reverse.map wz)) := upd_same
      have sY : Same G2 (upd G2 Y (.lst (((ws.drop j).take 2).reverse.map wz))) := same_new nY
      generalize upd G2 Y (.lst (((ws.drop j).take 2).reverse.map wz)) = G3 at hY sY ⊢
      have h2 : ((ws.drop j).take 2).length ≤ 2 := by rw [List.length_take]; omega
      refine catH (sY _ _ (sZ _ _ hS)) hY (by rw [List.length_reverse]; omega) fun R1 G4 nR1 sR1 hR1 => ?_
      refine ⟨_, rfl, _, rfl, _, _, rfl, rfl, _, rfl, W, _, rfl, SqL.of (sR1 _ _ (sY _ _ (sZ _ _ (sS _ _ hW7)))), fun U nU => ?_⟩
      rw [cut_wfrom2]
      have hU : upd G4 U (.lst ((ws.drop (j + 2)).map wz)) U = some (.lst ((ws.drop (j + 2)).map wz)) := upd_same
      have sU : Same G4 (upd G4 U (.lst ((ws.drop (j + 2)).map wz))) := same_new nU
      generalize upd G4 U (.lst ((ws.drop (j + 2)).map wz)) = G5 at hU sU ⊢
      refine catH (sU _ _ hR1) hU (by simp only [List.length_append, List.length_reverse, List.length_drop, List.length_take]; omega) fun R G6 nR sR hR => ?_
      refine fin _ G6 R (sS.trans (sZ.trans (sY.trans (sR1.trans (sU.trans sR))))) hR ?_
      have a := sumL_cut (ws.drop j) 2
      rw [List.drop_drop] at a
      rw [sumL_app, sumL_app, sumL_rev, List.length_append, List.length_append, List.length_reverse]
      simp only [List.length_drop, List.length_take] at *
      omega
    -- a sign put in
    have szL : (Sx L).length ≤ sizeLine := by rw [SX.S_len, sizeLine_eq]; omega
    refine ⟨_, rfl, _, rfl, _, rfl, szL, _, _, rfl, rfl, p, L0, _, _, rfl, by rw [SX.S_len]; omega, by rw [SX.S_len]; omega, by omega, p7, fun d4 H8 t8 p8 c2 c3 => ?_⟩
    obtain ⟨k, rfl⟩ := Int.eq_ofNat_of_zero_le c2
    refine ⟨_, rfl, _, rfl, _, rfl, _, rfl, szL, ?_⟩
    rw [show Txt.slice (Sx L) none (some ((k : Nat) : Int)) = Sx (L.take k) from SX.slice_to (a := L) (i := (k : Int)) (by omega)]
    refine ⟨_, rfl, (by show 5 ≤ sizeLine; decide), fun l4 nl4 => ?_⟩
    have hl4 : upd H8 l4 (.lst (signW.map wz)) l4 = some (.lst (signW.map wz)) := upd_same
    have s8 : Same H8 (upd H8 l4 (.lst (signW.map wz))) := same_new nl4
    have lp4 : l4 ≠ p := p8.ne nl4
    refine ⟨p, l4, L0, signW.map wz, _, rfl, hl4, lp4, by rw [List.length_map]; decide, by rw [List.length_map]; decide, by omega, p8.keep s8, fun dv H9 mem t9 p9 => ?_⟩
    obtain ⟨y, hy, rfl⟩ := List.mem_map.mp mem
    have hy5 := signW_len y hy
    refine ⟨_, _, rfl, rfl, ?_, ?_⟩
    · rw [SX.S_len, SX.S_len, sizeLine_eq, List.length_take]
      omega
    rw [SX.S_cat]
    refine ⟨_, rfl, _, rfl, _, rfl, _, rfl, szL, ?_⟩
    rw [show Txt.slice (Sx L) (some ((k : Nat) : Int)) none = Sx (L.drop k) from SX.slice_from (a := L) (i := (k : Int)) (by omega)]
    refine ⟨_, _, rfl, rfl, ?_, ?_⟩
    · rw [SX.S_len, SX.S_len, sizeLine_eq, List.length_append, List.length_take, List.length_drop]
      omega
    rw [SX.S_cat]
    refine kk _ _ ?_ (bt7.trans (t8.trans ((Same.but s8).trans t9))) (p9.mono (by omega))
    rw [List.length_append, List.length_append, List.length_take, List.length_drop]
    omega
end
end Ev
namespace Ev
open PySem L2 PySem.Spec PyProof.Rows LamX
theorem passX0 {P : Program} {w : World} {X : Cx} : Passes (L2.CX P w) X E0 := fun _ _ _ _ _ _ _ h => by
  obtain ⟨a, B, H', cls, d, _, _, _, _, _, _, _, z⟩ := h
  exact z.elim
/-- all is kept but the list at p and tables -/
def ExtP (p : Addr) (H H' : Hp) : Prop := ∀ b o, b ≠ p → H b = some o → (∀ ps : Array Value, o ≠ HO.tbl ps) → H' b = some o
theorem ExtP.refl (p : Addr) (H : Hp) : ExtP p H H := fun _ _ _ e _ => e
theorem ExtP.trans {p : Addr} {H H1 H2 : Hp} (a : ExtP p H H1) (b : ExtP p H1 H2) : ExtP p H H2 := fun c o n e t => b c o n (a c o n e t) t
theorem ExtN.p {p : Addr} {H H' : Hp} (h : ExtN H H') : ExtP p H H' := fun b o _ e t => h b o e t
theorem But.p {p : Addr} {H H' : Hp} (h : But p H H') : ExtP p H H' := fun b o n e _ => h b o n e
theorem Same.p {p : Addr} {H H' : Hp} (h : Same H H') : ExtP p H H' := fun b o _ e _ => h b o e
theorem Same.extN {H H' : Hp} (k : Same H H') : ExtN H H' := fun b o e _ => k b o e
theorem Tabs.but {T : List (Addr × Str)} {p : Addr} {H H' : Hp} {xs : List V} (t : Tabs T H) (hp : H p = some (.lst xs)) (k : But p H H') : Tabs T H' := by
  intro q hq
  obtain ⟨ps, h1, h2, h3⟩ := t q hq
  refine ⟨ps, k _ _ (fun z => by rw [z, hp] at h1; cases h1) h1, h2, fun pos cv hc => ?_⟩
  obtain ⟨c, e1, e2⟩ := h3 pos cv hc
  refine ⟨c, e1, k _ _ (fun z => ?_) e2⟩
  rw [z, hp] at e2
  have e3 : HO.lst xs = HO.ext _ := Option.some.inj e2
  cases e3
theorem ObjAt.ext {Ct Cn : Addr} {H H' : Hp} {r : Addr} {row : Row} (h : ObjAt Ct Cn H r row) (k : ExtN H H') : ObjAt Ct Cn H' r row := by
  cases row with
  | tr p q kk =>
    obtain ⟨dx, a, h1, h2⟩ := h
    exact ⟨dx, a, k _ _ h1 (fun _ z => by cases z), k _ _ h2 (fun _ z => by cases z)⟩
  | tn p q kk t s c =>
    obtain ⟨dx, a, b, h1, h2, h3⟩ := h
    exact ⟨dx, a, b, k _ _ h1 (fun _ z => by cases z), k _ _ h2 (fun _ z => by cases z), k _ _ h3 (fun _ z => by cases z)⟩
theorem Pen.ext {L : Addr} {H H' : Hp} {p : Addr} {B : Int} (h : Pen L H p B) (k : ExtN H H') : Pen L H' p B := by
  obtain ⟨ns, t, c, h1, h2, r⟩ := h
  exact ⟨ns, t, c, k _ _ h1 (fun _ z => by cases z), k _ _ h2 (fun _ z => by cases z), r⟩
/-- == and != of rules -/
def rRule (Ct Cn : Addr) (neg : Bool) : R2 := fun x y H Q => ∃ (a b : Addr) (r1 r2 : Row), x = .ref a ∧ y = .ref b ∧ ObjAt Ct Cn H a r1 ∧ ObjAt Ct Cn H b r2 ∧ Q (.bl (neg ^^ rowB r1 r2)) H
structure REq (P : Program) (w : World) (K : PySem.W.Frag) (mg : Str → Option Value) (base : Heap) (Ct Cn : Addr) : Prop where
  two : RTwo K Ct Cn
  t : ∃ f, FnR P w K mg base CX0 1 f (spEqR Ct Cn false) ∧ PySem.W.findIn K (.ref Ct) "__eq__" = some (some (.ref f)) ∧ PySem.W.isFn K (.ref f) = true
  n : ∃ f, FnR P w K mg base CX0 1 f (spEqR Ct Cn true) ∧ PySem.W.findIn K (.ref Cn) "__eq__" = some (some (.ref f)) ∧ PySem.W.isFn K (.ref f) = true
  tne : PySem.W.findIn K (.ref Ct) "__ne__" = some (some (.builtin "object.__ne__"))
  nne : PySem.W.findIn K (.ref Cn) "__ne__" = some (some (.builtin "object.__ne__"))
theorem obj_ty {K : PySem.W.Frag} {Ct Cn : Addr} {H : Hp} {a : Addr} {r : Row} (R : RTwo K Ct Cn) (h : ObjAt Ct Cn H a r) : (∃ dx fs, H a = some (.ins (r.cls Ct Cn) dx fs)) ∧ TyX K H (.ref a) (.ref (r.cls Ct Cn)) := by
  cases r with
  | tr p q k =>
    obtain ⟨dx, a, h1, h2⟩ := h
    exact ⟨⟨dx, _, h1⟩, tyIns R.t R.it h1⟩
  | tn p q k t s c =>
    obtain ⟨dx, a, b, h1, h2, h3⟩ := h
    exact ⟨⟨dx, _, h1⟩, tyIns R.n R.ins h1⟩
section
variable {X : Cx} {Ct Cn : Addr}
theorem rule_own {neg turn : Bool} {C : Addr} {a b : Addr} {r1 r2 : Row} {H : Hp} {Q : VK} (R : RTwo X.K Ct Cn) (h1 : ObjAt Ct Cn H a r1) (h2 : ObjAt Ct Cn H b r2) (hC : C = (r1.cls Ct Cn)) (hm : r1.isT = turn) (q : Q (.bl (neg ^^ rowB r1 r2)) H) :
    rOwnB X.K C (spEqR Ct Cn turn) E0 neg (.ref a) (.ref b) H Q := by
  obtain ⟨⟨dx, fs, e⟩, _⟩ := obj_ty R h1
  obtain ⟨_, ty⟩ := obj_ty R h2
  refine ⟨a, dx, fs, _, rfl, by rw [hC]; exact e, ty, ?_, a, b, r1, r2, rfl, h1, h2, hm, _, rfl, q⟩
  subst hC
  cases r1 <;> cases r2
  · exact nf_own
  · exact nf_sub R.sub2
  · exact nf_sub R.sub1
  · exact nf_own
theorem op_neR (R : REq X.prog X.w X.K X.mg X.base Ct Cn) (hr : Room 2 X.A) : OpR X (compareOp .NotEq) (rRule Ct Cn true) := by
  intro pins s σ H x y v u Q I rx ry h
  obtain ⟨a, b, r1, r2, rfl, rfl, h1, h2, q⟩ := h
  obtain ⟨f, Ft, ht, hft⟩ := R.t
  obtain ⟨g, Fn, hn, hfn⟩ := R.n
  cases r1 with
  | tr p' q' k' => exact op_neO (E := E0) ht R.tne R.two.it.hm hft Ft hr pass0 pins s σ H _ _ v u Q I rx ry (rule_own R.two h1 h2 rfl rfl q)
  | tn p' q' k' t' s' c' => exact op_neO (E := E0) hn R.nne R.two.ins.hm hfn Fn hr pass0 pins s σ H _ _ v u Q I rx ry (rule_own R.two h1 h2 rfl rfl q)
theorem op_eqR (R : REq X.prog X.w X.K X.mg X.base Ct Cn) (hr : Room 2 X.A) : OpR X (compareOp .Eq) (rRule Ct Cn false) := by
  intro pins s σ H x y v u Q I rx ry h
  obtain ⟨a, b, r1, r2, rfl, rfl, h1, h2, q⟩ := h
  obtain ⟨f, Ft, ht, hft⟩ := R.t
  obtain ⟨g, Fn, hn, hfn⟩ := R.n
  cases r1 with
  | tr p' q' k' => exact op_eqO (E := E0) ht hft Ft (hr.mono (by decide)) pass0 pins s σ H _ _ v u Q I rx ry (rule_own R.two h1 h2 rfl rfl q)
  | tn p' q' k' t' s' c' => exact op_eqO (E := E0) hn hfn Fn (hr.mono (by decide)) pass0 pins s σ H _ _ v u Q I rx ry (rule_own R.two h1 h2 rfl rfl q)
end

/-- str of rules -/
structure RStr (P : Program) (w : World) (K : PySem.W.Frag) (mg : Str → Option Value) (base : Heap) (Ct Cn : Addr) : Prop where
  t : ∃ f, FnR P w K mg base CX0 3 f (spStrR Ct Cn false) ∧ PySem.W.findIn K (.ref Ct) "__str__" = some (some (.ref f)) ∧ PySem.W.isFn K (.ref f) = true
  n : ∃ f, FnR P w K mg base CX0 3 f (spStrR Ct Cn true) ∧ PySem.W.findIn K (.ref Cn) "__str__" = some (some (.ref f)) ∧ PySem.W.isFn K (.ref f) = true
def rStrR (Ct Cn : Addr) : List V → Hp → VK → Prop := fun xs H Q => ∃ (a : Addr) (r : Row), xs = [.ref a] ∧ ObjAt Ct Cn H a r ∧ r.fit ∧ Q (.str (Sx r.tx)) H
section
variable {X : Cx} {Ct Cn : Addr}
theorem call_strR (R : RStr X.prog X.w X.K X.mg X.base Ct Cn) (hr : Room 5 X.A) : CallR X (.type "str") (rStrR Ct Cn) := by
  intro pins s σ H xs us Q I r h
  obtain ⟨a, row, rfl, ob, hf, q⟩ := h
  obtain ⟨f, Ft, ht, hft⟩ := R.t
  obtain ⟨g, Fn, hn, hfn⟩ := R.n
  cases row with
  | tr p' q' k' =>
    obtain ⟨dx, a2, h1, h2⟩ := id ob
    exact call_strO (E := E0) ht hft Ft hr pass0 pins s σ H _ us Q I r ⟨a, dx, _, rfl, h1, a, .tr p' q' k', rfl, ob, hf, rfl, ⟨_, rfl⟩, q⟩
  | tn p' q' k' t' s' c' =>
    obtain ⟨dx, a2, b2, h1, h2, h3⟩ := id ob
    exact call_strO (E := E0) hn hfn Fn hr pass0 pins s σ H _ us Q I r ⟨a, dx, _, rfl, h1, a, .tn p' q' k' t' s' c', rfl, ob, hf, rfl, ⟨_, rfl⟩, q⟩
end
theorem fit_ok {r : Row} (h : r.fit) (z : 2 * r.q ≤ r.p + r.k) : r.out = .ok := by
  cases r with
  | tr p q k => show outT _ _ = _; rw [fit_outT h]; exact halves_ok (r := .tr p q k) h z
  | tn p q k t s c => show outN _ _ _ _ = _; rw [fit_outN h]; exact halves_ok (r := .tn p q k t s c) h z
def tupD (n : Nat) : PyData := .tuple [.str "text", .str (shw 0), .str (shw (n : Int))]
theorem tup_sh : ∀ n : Nat, n ≤ 5 → SeqAt.shaped (tupD n) = true ∧ PyData.eqv (tupD n) (tupD n) = true := by
  intro n hn
  have k : ∀ n : Fin 6, SeqAt.shaped (tupD n.val) = true ∧ PyData.eqv (tupD n.val) (tupD n.val) = true := by decide +kernel
  exact k ⟨n, by omega⟩
theorem tup_dp {K : PySem.W.Frag} {H : Hp} {t : Addr} {n : Nat} (h : H t = some (tupT n)) : Dp K H (.ref t) (tupD n) := .tup (SqT.of h) (.cons (.str _) (.cons (.str _) (.cons (.str _) .nil)))
end Ev
namespace Ev
open PySem L2 PySem.Spec PyProof.Rows LamX
abbrev sRight : Stmt := top 57
abbrev sLaw17 : Stmt := top 58
theorem fnr_of {P : Program} {w : World} {K : PySem.W.Frag} {mg : Str → Option Value} {base : Heap} {CX : CXT} {k : Nat} {f : Addr} {fd : FuncData} {ps : List Str} {sp : Sp} (F : FnOk P w K mg base CX k f fd ps sp) (b : Binds K fd ps []) : FnR P w K mg base CX k f sp := by
  intro A above s H us vs Q E room env rv hs
  have hl : us.length = ps.length := rv.length.symm.trans (F.len _ _ _ _ hs)
  have bt := b s us (env.mod.kin.keeps fun b o e => (env.bs b o e).1) (by rw [List.append_nil]; exact hl)
  rw [List.append_nil] at bt
  exact F.run A above s H ⟨us, []⟩ us vs Q E room env bt rv hs
/-- how the law hears -/
structure HeardB (P : Program) (w : World) (K : PySem.W.Frag) (mg : Str → Option Value) (BT FE fh : Addr) (fdh : FuncData) : Prop where
  FH : Fun K "_law_heard" "_law_heard" sHeard fh fdh
  g : mg "_law_heard" = some (.ref fh)
  b : Binds K fdh ["_law_ask"] []
  mv : mg "ValueError" = none
  mr : mg "repr" = none
  gF : mg "FairError" = some (.ref FE)
  gB : mg "BadText" = some (.ref BT)
  hb : HeldC K BT
  nl : PySem.W.findIn K (.ref BT) "line" = some none
  nw : PySem.W.findIn K (.ref BT) "word" = some none
  te : PySem.W.exmOne K (.ref BT) (.ref FE) = some true
  vB : PySem.W.kitOne K (.ref BT) (.type "ValueError") = some true
/-- nothing by place -/
def g0 {α : Type} : List α → List α → List α
  | [], ws => ws
  | _, _ => []
/-- how the program reads -/
structure RdB (P : Program) (w : World) (K : PySem.W.Frag) (mg : Str → Option Value) (base : Heap) (Ct Cn BT CW : Addr) : Prop where
  gW : mg "WeightRule" = some (.ref CW)
  ex : ∃ (mc : Value) (p f : Addr) (fd : FuncData) (g : List Value → List Value → List Value), ClX.CRead K CW mc ∧ ClX.SMet K CW mc "read" p f ∧ FnOk P w K mg base (L2.CX P w) 8 f fd ["text"] (spRead K Ct Cn BT) ∧ Binds K fd ["text"] [] ∧ KBinds K fd ["text"] ["text"] g g0
def spRight (TL : List (Addr × Str)) : Sp := fun vs H Q _ => ∃ L : List Nat, vs = [.str (Sx L)] ∧ L.length ≤ 63 ∧ Tabs TL H ∧ ∀ H', ExtN H H' → Tabs TL H' → Q (.bl true) H'
abbrev nRight : List Str := ["_law_text_so", "_law_due_here", "_law_heard_here"]
theorem scRight : FnScope nRight ["_law_text_so"] (defScope sRight) := ⟨rfl, rfl, rfl, by decide +kernel, rfl, by decide +kernel, by decide +kernel⟩
section
variable {P : Program} {w : World} {K : PySem.W.Frag} {mg : Str → Option Value} {base : Heap}
theorem ok_right {f Ct Cn B N BT FE CW cc TT fh : Addr} {TL : List (Addr × Str)} {fd fdh : FuncData} {q : Str} (F : Fun K "_law_right" "_law_right" sRight f fd) (T : Blt mg) (ms : mg "str" = none) (hc : fd.code = .ref cc) (TB : TabB base mg cc TT) (hTL : (TT, q) ∈ TL) (hTL2 : ∀ p ∈ TL, p.1 = TT → p.2 = q)
    (hq : q = (envOfC "_law_right" (defScope sRight) 0 f (.ref cc)).qual ++ ("<lambda>" : Str)) (HH : HeardB P w K mg BT FE fh fdh) (RB : RdB P w K mg base Ct Cn BT CW) (RE : REq P w K mg base Ct Cn) (RS : RStr P w K mg base Ct Cn)
    {f1 : Addr} {fd1 : FuncData} (G1 : FnG P w K mg base 3 f1 fd1 ["_law_text_so"] spLDue) (g1 : mg "_law_due" = some (.ref f1)) (k1 : PySem.W.keepIn K (.ref f1) = true) (b1 : Binds K fd1 ["_law_text_so"] [])
    (D2 : DfX P w K mg base 8 "_law_rule" ["_law_some"] (spRule Ct Cn B N)) :
    FnG P w K mg base 11 f fd ["_law_text_so"] (spRight TL) := by
  obtain ⟨f2, fd2, G2, g2, k2, b2⟩ := D2.ex
  obtain ⟨FH, gh, bh, mv, mr, gF, gB, HB, nl, nw, te, vB⟩ := id HH
  obtain ⟨gW, mc, pR, fR, fdR, gR, cr, cm, GR, bR, _⟩ := id RB
  have kh := FH.kp
  obtain ⟨och, odh, kVh, doch, pmh, anh, cdvh, cth, oslh, rfl, lkh, hcdh⟩ := FH.ex
  refine fng_code F scRight (fun vs H Q E h => ?_) (fun cdv ecd A outer s H vs Q E hr gd h => ?_)
  · obtain ⟨L, rfl, _⟩ := h
    rfl
  · obtain ⟨L, rfl, lL, hT, kk⟩ := h
    obtain rfl : cdv = .ref cc := ecd.symm.trans hc
    have hq' : q = (cxOf CX0 P w K mg base nRight "_law_right" (defScope sRight) f (.ref cc) A outer s H E).nox.env.qual ++ ("<lambda>" : Str) := hq
    have lam : ∀ {params : Arguments} {body : Expr} {scope : Scope} {lpos pos p : Pos} {t : XK → TE}, LamS (defScope sRight) scope → defaultsOf params (cxOf CX0 P w K mg base nRight "_law_right" (defScope sRight) f (.ref cc) A outer s H E).env = ([], []) →
        (∀ (q : Str) (cl : List (Str × Addr)) (pm cv ctv : Value), bindArgs (PySem.W.kla_fn "<lambda>" q params body scope cl pm cv ctv) ⟨[], []⟩ = pure []) →
        (∀ (A' : Around) (outer' : List Env) (s' : Shared) (H' : Hp) (E' : XK) (f' c' : Addr), Room 8 (A'.deeper (lamEnv (cxOf CX0 P w K mg base nRight "_law_right" (defScope sRight) f (.ref cc) A outer s H E).nox scope s'.heap.objs.size f' c')) →
          PE (lamCx (cxOf CX0 P w K mg base nRight "_law_right" (defScope sRight) f (.ref cc) A outer s H E).nox A' outer' s' H' E' scope f' c') body (t E')) →
        PE (cxOf CX0 P w K mg base nRight "_law_right" (defScope sRight) f (.ref cc) A outer s H E).nox (.Call (.Name "_law_heard" p) [.Lambda params body scope lpos] [] pos) (tLam TL (THeard BT) t) := by
      intro params body scope lpos pos p t LS hdef hbind hbody
      subst hq'
      have h4 : Gl (cxOf CX0 P w K mg base nRight "_law_right" (defScope sRight) f (.ref cc) A outer s H E).nox "_law_heard" := by rfl
      refine pe_lamcall (X := (cxOf CX0 P w K mg base nRight "_law_right" (defScope sRight) f (.ref cc) A outer s H E).nox) (k := 8) (T := TL) (TT := THeard BT) (x := "_law_heard") (a := "_law_ask") (g := fh) (c := cc) (P := TT) (pg := defArgs sHeard) (bg := defBody sHeard) (sg := defScope sHeard)
        (Ng := ["_law_ask", "_law_caught", "_law_found", "error", "_law_some"]) h4 gh kh lkh hcdh bh scHeard ?_ ?_ ?_ ?_ ?_ ?_ ?_ ?_ ?_ ?_ ?_ ?_ ?_ ?_ ?_
      · rfl
      · exact .inl rfl
      · exact heard_gives gd hr T mv mr gF gB HB nl nw te kit_self vB
      · exact TB
      · rfl
      · exact hTL
      · exact hTL2
      · exact hr
      · exact LS
      · exact hdef
      · exact hbind
      · exact hbody
      · decide
      · decide
      · decide
    have hu : (cxOf CX0 P w K mg base nRight "_law_right" (defScope sRight) f (.ref cc) A outer s H E).nox.A.units + 64 < cLine := Room.units hr
    refine ⟨_, pss_cons (ps_par (i := 1) (j := 2) rfl scRight.nd rfl rfl (by decide) rfl rfl (pa_cons (pe_callG (E := E0) G1 (hr.mono (by decide)) gd (by rfl) g1 k1 b1 (pa_cons (pv 0) pa_nil)) (pa_cons (lam (t := fun E' => ClX.tSMeth CW (spRead K Ct Cn BT) E' (tC (.ref CW)) (tCons (tVar 0) tNil)) (lamS_by (by decide +kernel)) rfl (fun _ _ _ _ _ => rfl)
          (fun _ _ _ _ E' _ _ hrL => ClX.pe_smeth (E := E') (pe_glob (v := .ref CW) (by rfl) gW rfl) cr cm (fnr_of GR bR) hrL (passes_call (takes_of rfl rfl rfl rfl) (fun _ _ _ _ h => h)) (pa_cons (pv 0) pa_nil))) pa_nil)) (by rfl))
      (pss_cons (ps_if (pt_val (pe_callB call_isi (by rfl) T.isi (by decide +kernel) (pa_cons (pv 1) (pa_cons (pe_bltn (v := .ty "tuple") (by rfl) T.tuple (by decide +kernel) rfl) pa_nil)))) (pss_one (ps_ret (pe_cmpR (op_eqD hu) (pv 2) (pv 1) (nomark _)))) pss_nil)
      (pss_one (ps_ret (pe_and (pe_callB call_isi (by rfl) T.isi (by decide +kernel) (pa_cons (pv 2) (pa_cons (pe_bltn (v := .ty "list") (by rfl) T.list (by decide +kernel) rfl) pa_nil)))
        (pe_and (pe_cmpR (op_eqR RE (hr.mono (by decide))) (pe_ix ix_list (pv 2) pe_int (fun _ _ => rfl)) (pe_call G2 (hr.mono (by decide)) (by rfl) g2 k2 b2 .nil passX0 (pa_cons (pe_ix ix_list (pv 1) pe_int (fun _ _ => rfl)) pa_nil)) (nomark _))
          (pe_one (pe_cmpR op_eq (pe_callTy (call_strR RS (hr.mono (by decide))) (by rfl) ms (by decide +kernel) (pa_cons (pe_ix ix_list (pv 2) pe_int (fun _ _ => rfl)) pa_nil)) (pv 0) (nomark _)))))))), ?_⟩
    obtain ⟨d, hd⟩ := du_ex L
    refine ⟨_, rfl, L, d, rfl, lL, hd, ?_⟩
    have bad : ∀ n : Nat, n ≤ 5 → d = .bad n ∨ ((∃ r, d = .half r) ∧ n = 1) → ∀ (t : Addr) (G1 : Hp), Same H G1 → G1 t = some (tupT n) → ∀ Qc : VK, (∀ (r : Addr) (G : Hp), ExtN G1 G → Tabs TL G → G r = some (tupT n) → Qc (.ref r) G) →
        tLam TL (THeard BT) (fun E' => ClX.tSMeth CW (spRead K Ct Cn BT) E' (tC (.ref CW)) (tCons (tVar 0) tNil)) [some (.str (Sx L)), none, none] G1 Qc := by
      intro n hn hdn t G1 s1 ht Qc kc
      refine ⟨hT.ext s1, fun H1 e1 T1 G0 Qn s0 kq => ⟨rfl, _, rfl, _, rfl, .inr ⟨L, d, rfl, lL, hd, ?_⟩⟩⟩
      have tb : TellB BT 0 (n : Int) G0 (EHeard BT fun r G => Qc (.ref r) G) := fun dd H' sH nd hdd =>
        ⟨dd, n, rfl, rfl, hdd, by omega, fun r G sG nr hr => kc r G (e1.trans (Same.extN (s0.trans (sH.trans sG)))) (T1.ext (s0.trans (sH.trans sG))) hr⟩
      rcases hdn with rfl | ⟨⟨r, rfl⟩, rfl⟩
      · exact tb
      · exact tb
    have badr : ∀ n : Nat, n ≤ 5 → d = .bad n ∨ ((∃ r, d = .half r) ∧ n = 1) → ∀ (t : Addr) (G1 : Hp), Same H G1 → G1 t = some (tupT n) → ∀ (r : Addr) (G : Hp), ExtN G1 G → Tabs TL G → G r = some (tupT n) → G t = some (tupT n) ∧ ExtN H G := fun n _ _ t G1 s1 h r G e _ _ => ⟨e _ _ h (fun _ z => by cases z), (Same.extN s1).trans e⟩
    cases d with
    | bad n =>
      intro t G1 s1 ht
      have hn := wr_le hd
      refine bad n hn (.inl rfl) t G1 s1 ht _ fun r G e T1 hr => ⟨_, _, rfl, ?_⟩
      obtain ⟨ht2, eH⟩ := badr n hn (.inl rfl) t G1 s1 ht r G e T1 hr
      refine ⟨_, rfl, _, _, _, _, true, rfl, .ty _, .base (.tup ht2), kit_ty (by decide +kernel), _, rfl, iteT ⟨_, rfl, _, rfl, tupD n, tupD n, tup_dp hr, tup_dp ht2, (tup_sh n hn).1, (tup_sh n hn).1, ?_⟩⟩
      rw [(tup_sh n hn).2]
      exact kk G eH T1
    | half r0 =>
      intro t G1 s1 ht
      refine bad 1 (by decide) (.inr ⟨⟨r0, rfl⟩, rfl⟩) t G1 s1 ht _ fun r G e T1 hr => ⟨_, _, rfl, ?_⟩
      obtain ⟨ht2, eH⟩ := badr 1 (by decide) (.inr ⟨⟨r0, rfl⟩, rfl⟩) t G1 s1 ht r G e T1 hr
      refine ⟨_, rfl, _, _, _, _, true, rfl, .ty _, .base (.tup ht2), kit_ty (by decide +kernel), _, rfl, iteT ⟨_, rfl, _, rfl, tupD 1, tupD 1, tup_dp hr, tup_dp ht2, (tup_sh 1 (by decide)).1, (tup_sh 1 (by decide)).1, ?_⟩⟩
      rw [(tup_sh 1 (by decide)).2]
      exact kk G eH T1
    | good r =>
      intro t a G1 s1 ht ha
      obtain ⟨eL, hf, z⟩ := hd
      refine ⟨hT.ext s1, fun H1 e1 T1 G0 Qn s0 kq => ⟨rfl, _, rfl, _, rfl, .inr ⟨L, .good r, rfl, lL, ⟨eL, hf, z⟩, fun x H' sH ob => kq _ _ fun l nl => ⟨_, _, rfl, ?_⟩⟩⟩⟩
      have sT : Same H1 (upd H' l (.lst [.ref x])) := s0.trans (sH.trans (same_new nl))
      have eG : ExtN G1 (upd H' l (.lst [.ref x])) := e1.trans (Same.extN sT)
      have TG := T1.ext sT
      have hl : upd H' l (.lst [.ref x]) l = some (.lst [.ref x]) := upd_same
      have ob2 := ob.keep (same_new (o := .lst [.ref x]) nl)
      have ha2 := eG _ _ ha (fun _ z => by cases z)
      have ht2 := eG _ _ ht (fun _ z => by cases z)
      have eH : ExtN H (upd H' l (.lst [.ref x])) := (Same.extN s1).trans eG
      generalize upd H' l (.lst [.ref x]) = G at TG hl ob2 ha2 ht2 eH ⊢
      refine ⟨_, rfl, _, _, _, _, false, rfl, .ty _, .base (.lst ha2), kit_ty (by decide +kernel), _, rfl, iteF ?_⟩
      refine ⟨_, rfl, _, _, _, _, true, rfl, .ty _, .base (.lst hl), kit_ty (by decide +kernel), true, rfl, iteT ?_⟩
      refine ⟨_, rfl, l, _, _, _, rfl, rfl, SqL.of hl, atI_nat (j := 0) rfl, _, rfl, a, _, _, _, rfl, rfl, SqL.of ha2, atI_nat (j := 0) rfl, t, r, rfl, ht2, ?_⟩
      rw [fit_ok hf z]
      intro y G2 s2 ob3
      refine ⟨x, y, r, r, rfl, rfl, ob2.keep s2, ob3, ?_⟩
      rw [rowB_self]
      refine ⟨true, rfl, iteT ⟨_, rfl, l, _, _, _, rfl, rfl, SqL.of (s2 _ _ hl), atI_nat (j := 0) rfl, x, r, rfl, ob2.keep s2, hf, ?_⟩⟩
      refine ⟨_, rfl, rfl, ?_⟩
      rw [show decide (V.str (Sx r.tx) = V.str (Sx L)) = true from decide_eq_true (by rw [eL])]
      exact kk G2 (eH.trans (Same.extN s2)) (TG.ext s2)
end
end Ev
namespace Ev
open PySem L2 PySem.Spec PyProof.Rows LamX
def spPen (K : PySem.W.Frag) : Sp := fun vs H Q _ => ∃ (a : Addr) (ns : List Int), vs = [.ref a] ∧ SqL K H a (ns.map V.int) ∧ ns.length ≤ 63 ∧
  ∀ (p L : Addr) (H' : Hp), H p = none → Same H H' → Pen L H' p 0 → Q (.ref p) H'
theorem cut_ints (ns : List Int) (h : Int) : ∃ ms : List Int, cutV (ns.map V.int) none (some h) = ms.map V.int ∧ ms.length ≤ ns.length := by
  unfold cutV
  generalize HT.sIx (ns.map V.int).length 0 none = x
  generalize HT.sIx (ns.map V.int).length (ns.map V.int).length (some h) - x = y
  refine ⟨(ns.drop x).take y, ?_, ?_⟩
  · rw [List.map_take, List.map_drop]
  · rw [List.length_take, List.length_drop]; omega
def spLaw (K : PySem.W.Frag) (T1 T2 : Addr) : Sp := fun vs H Q _ => ∃ (a : Addr) (ns : List Int), vs = [.ref a] ∧ SqL K H a (ns.map V.int) ∧ ns.length ≤ 63 ∧ H T1 = some (.tbl #[]) ∧ H T2 = some (.tbl #[]) ∧ ∀ H', Q (.bl true) H'
abbrev nLaw : List Str := ["_law_script", "_law_pen_here", "_law_lap", "_law_some", "_law_text_so", "_law_again", "_law_bent_here", "_law_odd", "_law_fixed", "_law_told"]
theorem scLaw : FnScope nLaw ["_law_script"] (defScope sLaw17) := ⟨rfl, rfl, rfl, by decide +kernel, rfl, by decide +kernel, by decide +kernel⟩
abbrev restLaw (n : Nat) : List Stmt := (defBody sLaw17).drop n
theorem mk_try {Ct Cn B N : Addr} {H : Hp} {tp : Addr} {p q k : Int} {Q : VK} {E : XK} {x dx : Addr} (nx : H x = none) (ndx : H dx = none) (hp : H tp = some (.tup [.int p, .int q])) (ho : (Row.tr p q k).out = .ok) (kk : ∀ H', Same H H' → ObjAt Ct Cn H' x (.tr p q k) → Q .non H') :
    spTryInit Ct B N [.ref x, .ref tp, .int k] (upd (upd H dx (.own x)) x (.ins Ct dx [])) Q E := by
  have keep : Same H (upd (upd H dx (.own x)) x (.ins Ct dx [])) := fun b u e => by rw [upd_ne (ne_of_none e nx), upd_ne (ne_of_none e ndx)]; exact e
  refine ⟨x, dx, .ref tp, .int k, _, rfl, upd_same, (pairQ_int hp).keep keep, .inl ⟨k, rfl⟩, ?_⟩
  have ho : outT (some [.int p, .int q]) (.int k) = .ok := ho
  rw [ho]
  intro H2 t2 hx2
  have s3 : ∀ b u, H b = some u → H2 b = some u := fun b u e => t2 _ _ (ne_of_none e nx) (keep _ _ e)
  exact kk H2 s3 ⟨dx, tp, hx2, s3 _ _ hp⟩
theorem Tabs.but' {T : List (Addr × Str)} {p L : Addr} {H H' : Hp} {b : Int} (t : Tabs T H) (pn : Pen L H p b) (k : But p H H') : Tabs T H' := by
  obtain ⟨ys, hy⟩ := pn.some
  exact Tabs.but t hy k
theorem ExtP.tup {p t : Addr} {H H' : Hp} {xs : List V} {L : Addr} {b : Int} (x : ExtP p H H') (h : H t = some (.tup xs)) (pn : Pen L H p b) : H' t = some (.tup xs) := by
  obtain ⟨ys, hy⟩ := pn.some
  exact x _ _ (ne_of h hy (by intro z; cases z)) h (fun _ z => by cases z)
theorem But.tup {p t : Addr} {H H' : Hp} {xs : List V} {L : Addr} {b : Int} (x : But p H H') (h : H t = some (.tup xs)) (pn : Pen L H p b) : H' t = some (.tup xs) := by
  obtain ⟨ys, hy⟩ := pn.some
  exact x _ _ (ne_of h hy (by intro z; cases z)) h
def fixedW : List (List Nat) := [[], [116, 114, 121], [116, 114, 121, 32, 51, 47, 49], [116, 114, 121, 32, 51, 47, 49, 32, 48, 32], [116, 117, 114, 110, 32, 51, 47, 49, 32, 48, 32, 50, 47, 49], [116, 114, 121, 32, 49, 47, 49, 32, 48], [116, 114, 121, 32, 49, 47, 49, 32, 49], [116, 117, 114, 110, 32, 54, 47, 49, 32, 54, 32, 56, 47, 56, 32, 45, 54, 32, 48]]
theorem fixedW_len : ∀ l ∈ fixedW, l.length ≤ 63 := by decide
def told31 : Row := .tn 3 1 0 2 1 (-1)
theorem told31_fit : told31.fit := ⟨⟨by decide, by decide, by decide, by decide, by decide⟩, ⟨by decide, by decide⟩, ⟨by decide, by decide⟩, by decide, by decide⟩
theorem told31_tx : Sx told31.tx = Str.ofString "turn 3/1 0 2/1 -1" := by decide +kernel
def told11 : Row := .tr 1 1 1
theorem told11_fit : told11.fit := ⟨by decide, by decide, by decide, by decide, by decide⟩
theorem told11_tx : Sx told11.tx = Str.ofString "try 1/1 1" := by decide +kernel
section
variable {P : Program} {w : World} {K : PySem.W.Frag} {mg : Str → Option Value} {base : Heap}
theorem scPen : FnScope ["_law_script"] ["_law_script"] (defScope sPen) := ⟨rfl, rfl, rfl, by decide +kernel, rfl, by decide +kernel, by decide +kernel⟩
theorem ok_pen {f : Addr} {fd : FuncData} (F : Fun K "_law_pen" "_law_pen" sPen f fd) (T : Blt mg) : FnOk P w K mg base CX0 1 f fd ["_law_script"] (spPen K) := by
  refine F.ok scPen (fun vs H Q E h => ?_) (fun cdv A outer s H vs Q E hr h => ?_)
  · obtain ⟨a, ns, rfl, _⟩ := h
    rfl
  · obtain ⟨a, ns, rfl, hS, hlen, kk⟩ := h
    refine ⟨_, pss_one (ps_ret (pe_lst (pa_cons (pe_callTy call_list_of (by rfl) T.list (by decide +kernel) (pa_cons (pe_slice sl_list (pv 0) po_none (po_some pe_int)) pa_nil)) (pa_cons pe_int (pa_cons pe_int pa_nil))))), ?_⟩
    refine ⟨_, rfl, _, rfl, a, _, rfl, hS, fun l1 nl1 => ⟨l1, _, rfl, .inl (SqL.of upd_same), fun l2 nl2 => ⟨(by show 3 ≤ sizeLine; decide), fun p np => ?_⟩⟩⟩
    obtain ⟨ms, e1, e2⟩ := cut_ints ns 63
    rw [e1] at nl2 np ⊢
    have s1 : Same H (upd (upd H l1 (.lst (ms.map V.int))) l2 (.lst (ms.map V.int))) := (same_new nl1).trans (same_new nl2)
    have s2 := s1.trans (same_new (o := .lst [.ref l2, .int 0, .int 0]) np)
    refine kk p l2 _ ?_ s2 ⟨ms, 0, 0, upd_same, by rw [upd_ne (ne_of_none upd_same np)]; exact upd_same, ne_of_none upd_same np, by omega, by decide, by decide, by decide⟩
    cases z : H p with
    | none => rfl
    | some o => rw [s1 _ _ z] at np; cases np
/-- the law's last rows -/
theorem law_end {A : Around} {outer : List Env} {s : Shared} {H : Hp} {E : XK} {f Ct Cn B N BT CW fT : Addr} {fdT : FuncData} {cdv : Value} {TL : List (Addr × Str)} (hr : Room 11 (A.deeper (envOfC "law" (defScope sLaw17) s.heap.objs.size f cdv))) (gd : A.guards = some []) (T : Blt mg)
    (RB : RdB P w K mg base Ct Cn BT CW) (RE : REq P w K mg base Ct Cn) (RC : ∃ (mc : Value) (p fR : Addr), ClX.CRead K Ct mc ∧ ClX.SMet K Ct mc "read" p fR ∧ FnR P w K mg base (L2.CX P w) 8 fR (spRead K Ct Cn BT))
    {f6 : Addr} {fd6 : FuncData} (G6 : FnG P w K mg base 11 f6 fd6 ["_law_text_so"] (spRight TL)) (g6 : mg "_law_right" = some (.ref f6)) (k6 : PySem.W.keepIn K (.ref f6) = true) (b6 : Binds K fd6 ["_law_text_so"] [])
    (gT : mg "TryRule" = some (.ref Ct)) (gN : mg "TurnRule" = some (.ref Cn)) (MT : Mk K Ct fT) (GT : FnOk P w K mg base (L2.CX P w) 6 fT fdT ["self", "times", "plus"] (spTryInit Ct B N)) (bT : Binds K fdT ["self", "times", "plus"] []) :
    ∃ t : TS, PSs (cxOf CX0 P w K mg base nLaw "law" (defScope sLaw17) f cdv A outer s H E).nox (restLaw 2) t ∧ ∀ (D : Ends) (G : Hp) (v0 v1 v2 v3 v4 v5 v6 v7 v8 v9 : Option V), Tabs TL G → (∀ G', D.rt (.bl true) G') → t D [v0, v1, v2, v3, v4, v5, v6, v7, v8, v9] G := by
  obtain ⟨gW, mc, pR, fR, fdR, gR, cr, cm, GR, bR, kR⟩ := id RB
  obtain ⟨mc2, pR2, fR2, cr2, cm2, FR2⟩ := RC
  have hu : (cxOf CX0 P w K mg base nLaw "law" (defScope sLaw17) f cdv A outer s H E).nox.A.units + 64 < cLine := Room.units hr
  refine ⟨_, pss_cons (ps_set (i := 8) scLaw.nd rfl (.inl rfl) (pe_lst (pa_cons pe_str (pa_cons pe_str (pa_cons pe_str (pa_cons pe_str (pa_cons pe_str (pa_cons pe_str (pa_cons pe_str (pa_cons pe_str pa_nil))))))))))
    (pss_cons (ps_if (pt_cmpR (op_neD hu) (pe_lc (te := tVar 4) (own := [("_law_text_so", 4)]) (g := gName 4) (tt := tNot (tB (tCall (spRight TL) [] E0 (tCons (tVar 4) tNil)))) (by rfl) scLaw.nd (pi_list (pv 8)) (blkOk_by (own := [("_law_text_so", 4)]) (N := nLaw) (sc := defScope sLaw17) (by decide +kernel))
        (fun _ _ _ _ _ => pg_name (i := 4) scLaw.nd rfl (.inl rfl)) (fun _ _ _ _ _ => pts_one (pt_not (pt_val (pe_callG (E := E0) G6 hr gd (by rfl) g6 k6 b6 (pa_cons (pv 4) pa_nil))))) (fun _ _ _ _ _ => pv 4)) (pe_lst pa_nil) (nomark _)) (pss_one (ps_ret pe_bl)) pss_nil)
    (pss_cons (ps_set (i := 9) scLaw.nd rfl (.inl rfl) (ClX.pe_smeth (E := E0) (pe_glob (v := .ref Ct) (by rfl) gT rfl) cr2 cm2 FR2 (hr.mono (by decide)) passX0 (pa_cons pe_str pa_nil)))
    (pss_one (ps_ret (pe_and (pe_callB call_isi (by rfl) T.isi (by decide +kernel) (pa_cons (pv 9) (pa_cons (pe_glob (v := .ref Cn) rfl gN rfl) pa_nil)))
      (pe_one (pe_cmpR (op_eqR RE (hr.mono (by decide))) (ClX.pe_smethK0 (E := E0) (ps := ["text"]) (ks := ["text"]) (pe_glob (v := .ref CW) (by rfl) gW rfl) cr cm GR (hr.mono (by decide)) kR passX0 (pk_cons pe_str pk_nil))
        (pe_make MT GT (hr.mono (by decide)) (by rfl) gT bT .nil (E := E0) passX0 (pa_cons (pe_tup (pa_cons pe_int (pa_cons pe_int pa_nil))) (pa_cons pe_int pa_nil))) (nomark _)))))))), ?_⟩
  intro D G v0 v1 v2 v3 v4 v5 v6 v7 v8 v9 hT fin
  refine ⟨(by show 8 ≤ sizeLine; decide), fun l nl => ?_⟩
  rw [show [V.str (Str.ofString ""), V.str (Str.ofString "try"), V.str (Str.ofString "try 3/1"), V.str (Str.ofString "try 3/1 0 "), V.str (Str.ofString "turn 3/1 0 2/1"), V.str (Str.ofString "try 1/1 0"), V.str (Str.ofString "try 1/1 1"), V.str (Str.ofString "turn 6/1 6 8/8 -6 0")] = fixedW.map wz from rfl]
  have hl : upd G l (.lst (fixedW.map wz)) l = some (.lst (fixedW.map wz)) := upd_same
  have hT1 := hT.ext (same_new (o := .lst (fixedW.map wz)) nl)
  generalize upd G l (.lst (fixedW.map wz)) = G1 at hl hT1 ⊢
  refine ⟨_, rfl, l, rfl, ⟨_, SqL.of hl⟩, fun D0 nD => ?_⟩
  have lD := ne_of_none hl nD
  have wk : Walk (Itl K l) fixedW.length (fun H => SqL K H l (fixedW.map wz)) (YAt (fixedW.map wz)) := by
    have w := walk_list (K := K) (a := l) (xs := fixedW.map wz)
    rw [List.length_map] at w
    exact w
  refine lc_it (n := fixedW.length) wk (fun i H' => H' D0 = some (.lst []) ∧ H' l = some (.lst (fixedW.map wz)) ∧ Tabs TL H') ⟨upd_same, by rw [upd_ne lD]; exact hl, hT1.ext (same_new nD)⟩ (fun i H' _ h => SqL.of h.2.1) (fun i v H2 H' hi h y => ?_) (fun H' h => ?_)
  · obtain ⟨rfl, hv⟩ := y
    obtain ⟨h1, h2, h3⟩ := h
    rw [List.getElem?_map] at hv
    obtain ⟨x, hx, rfl⟩ := Option.map_eq_some_iff.mp hv
    exact ⟨rfl, _, rfl, x, rfl, fixedW_len x (List.mem_of_getElem? hx), h3, fun H4 e4 T4 => ⟨_, rfl, iteF ⟨e4 _ _ h1 (fun _ z => by cases z), e4 _ _ h2 (fun _ z => by cases z), T4⟩⟩⟩
  · obtain ⟨h1, h2, h3⟩ := h
    refine ⟨(by show 0 ≤ sizeLine; decide), fun D2 nD2 => ⟨.list [], .list [], .lst (SqL.of (same_new nD2 _ _ h1)) .nil, .lst (SqL.of upd_same) .nil, sh_ints [], sh_ints [], ?_⟩⟩
    rw [show PyData.eqv (.list []) (.list []) = true from eqv_nil []]
    refine ⟨_, rfl, iteF ?_⟩
    generalize upd H' D2 (.lst []) = G2
    refine ⟨rfl, _, rfl, .inr ⟨told31.tx, .good told31, by rw [told31_tx], by decide +kernel, ⟨rfl, told31_fit, by decide⟩, fun z G3 s3 ob => ?_⟩⟩
    obtain ⟨dx, a2, b2, o1, _, _⟩ := id ob
    refine ⟨_, rfl, _, _, _, _, true, rfl, .own Cn, tyIns RE.two.n RE.two.ins o1, kit_self, true, rfl, iteT ?_⟩
    refine ⟨rfl, _, rfl, .inr ⟨told11.tx, .good told11, by rw [told11_tx], by decide +kernel, ⟨rfl, told11_fit, by decide⟩, fun z2 G4 s4 ob2 => ?_⟩⟩
    refine ⟨(by show 2 ≤ sizeLine; decide), fun t1 n1 => fun x1 dx nx ndx nex => mk_try (Ct := Ct) (Cn := Cn) nx ndx (p := 1) (q := 1) (k := 1) upd_same (fit_ok (r := told11) told11_fit (by decide)) fun H1 s1 ob1 => ⟨rfl, ?_⟩⟩
    refine ⟨z2, x1, told11, .tr 1 1 1, rfl, rfl, (ob2.keep (same_new n1)).keep s1, ob1, ?_⟩
    rw [show rowB told11 (.tr 1 1 1) = true from rowB_self _]
    exact fin _
end
end Ev
namespace Ev
open PySem L2 PySem.Spec PyProof.Rows LamX
def loopBody : Stmt → List Stmt
  | .For _ _ b _ _ => b
  | _ => []
abbrev lapBody : List Stmt := loopBody ((defBody sLaw17).getD 1 (.Pass ⟨0, 0, 0, 0⟩))
section
variable {P : Program} {w : World} {K : PySem.W.Frag} {mg : Str → Option Value} {base : Heap}
/-- values that are no texts are heard -/
theorem law_odd {A : Around} {outer : List Env} {s : Shared} {H : Hp} {E : XK} {f Ct Cn BT CW FE cc TT fh : Addr} {fdh : FuncData} {TL : List (Addr × Str)} {q : Str} (hr : Room 11 (A.deeper (envOfC "law" (defScope sLaw17) s.heap.objs.size f (.ref cc)))) (gd : A.guards = some []) (T : Blt mg)
    (TB : TabB base mg cc TT) (hTL : (TT, q) ∈ TL) (hTL2 : ∀ p ∈ TL, p.1 = TT → p.2 = q) (hq : q = (envOfC "law" (defScope sLaw17) 0 f (.ref cc)).qual ++ ("<lambda>" : Str))
    (HH : HeardB P w K mg BT FE fh fdh) (RB : RdB P w K mg base Ct Cn BT CW) (D2 : Df P w K mg base 2 "_law_pick" ["_law_pen_here", "_law_some"] spPick) :
    ∃ t : TS, PSs (cxOf CX0 P w K mg base nLaw "law" (defScope sLaw17) f (.ref cc) A outer s H E).nox (lapBody.drop 5) t ∧ ∀ (D : Ends) (G : Hp) (p L : Addr) (b : Int) (v0 v2 v3 v4 v5 v6 v7 v8 v9 : Option V), Pen L G p b → b ≤ 900000 → Tabs TL G →
      (∀ (G' : Hp) (u : Option V), Pen L G' p (b + 1) → Tabs TL G' → ExtP p G G' → D.nx [v0, some (.ref p), v2, v3, v4, v5, v6, u, v8, v9] G') → t D [v0, some (.ref p), v2, v3, v4, v5, v6, v7, v8, v9] G := by
  obtain ⟨f2, fd2, G2, g2, k2, b2⟩ := D2.ex
  obtain ⟨FH, gh, bh, mv, mr, gF, gB, HB, nl, nw, te, vB⟩ := id HH
  obtain ⟨gW, mc, pR, fR, fdR, gR, cr, cm, GR, bR, _⟩ := id RB
  have kh := FH.kp
  obtain ⟨och, odh, kVh, doch, pmh, anh, cdvh, cth, oslh, rfl, lkh, hcdh⟩ := FH.ex
  have hu : (cxOf CX0 P w K mg base nLaw "law" (defScope sLaw17) f (.ref cc) A outer s H E).nox.A.units + 64 < cLine := Room.units hr
  have hq' : q = (cxOf CX0 P w K mg base nLaw "law" (defScope sLaw17) f (.ref cc) A outer s H E).nox.env.qual ++ ("<lambda>" : Str) := hq
  have lam : ∀ {params : Arguments} {body : Expr} {scope : Scope} {lpos pos p : Pos} {t : XK → TE}, LamS (defScope sLaw17) scope → defaultsOf params (cxOf CX0 P w K mg base nLaw "law" (defScope sLaw17) f (.ref cc) A outer s H E).env = ([], []) →
      (∀ (q : Str) (cl : List (Str × Addr)) (pm cv ctv : Value), bindArgs (PySem.W.kla_fn "<lambda>" q params body scope cl pm cv ctv) ⟨[], []⟩ = pure []) →
      (∀ (A' : Around) (outer' : List Env) (s' : Shared) (H' : Hp) (E' : XK) (f' c' : Addr), Room 8 (A'.deeper (lamEnv (cxOf CX0 P w K mg base nLaw "law" (defScope sLaw17) f (.ref cc) A outer s H E).nox scope s'.heap.objs.size f' c')) →
        PE (lamCx (cxOf CX0 P w K mg base nLaw "law" (defScope sLaw17) f (.ref cc) A outer s H E).nox A' outer' s' H' E' scope f' c') body (t E')) →
      PE (cxOf CX0 P w K mg base nLaw "law" (defScope sLaw17) f (.ref cc) A outer s H E).nox (.Call (.Name "_law_heard" p) [.Lambda params body scope lpos] [] pos) (tLam TL (THeard BT) t) := by
    intro params body scope lpos pos p t LS hdef hbind hbody
    subst hq'
    have h4 : Gl (cxOf CX0 P w K mg base nLaw "law" (defScope sLaw17) f (.ref cc) A outer s H E).nox "_law_heard" := by rfl
    refine pe_lamcall (X := (cxOf CX0 P w K mg base nLaw "law" (defScope sLaw17) f (.ref cc) A outer s H E).nox) (k := 8) (T := TL) (TT := THeard BT) (x := "_law_heard") (a := "_law_ask") (g := fh) (c := cc) (P := TT) (pg := defArgs sHeard) (bg := defBody sHeard) (sg := defScope sHeard)
      (Ng := ["_law_ask", "_law_caught", "_law_found", "error", "_law_some"]) h4 gh kh lkh hcdh bh scHeard ?_ ?_ ?_ ?_ ?_ ?_ ?_ ?_ ?_ ?_ ?_ ?_ ?_ ?_ ?_
    · rfl
    · exact .inl rfl
    · exact heard_gives (k := 9) gd (hr.mono (by decide)) T mv mr gF gB HB nl nw te kit_self vB
    · exact TB
    · rfl
    · exact hTL
    · exact hTL2
    · exact hr.mono (by decide)
    · exact LS
    · exact hdef
    · exact hbind
    · exact hbody
    · decide
    · decide
    · decide
  refine ⟨_, pss_cons (ps_set (i := 7) scLaw.nd rfl (.inr rfl) (pe_call G2 (hr.mono (by decide)) (by rfl) g2 k2 b2 .nil pass0 (pa_cons (pv 1) (pa_cons (pe_lst (pa_cons pe_non (pa_cons pe_int (pa_cons (pe_tup (pa_cons pe_str pa_nil)) (pa_cons (pe_lst (pa_cons pe_str pa_nil)) (pa_cons pe_dnewK (pa_cons pe_bl (pa_cons (pe_op op_pow pe_int pe_int) pa_nil)))))))) pa_nil))))
    (pss_one (ps_if (pt_cmpR (op_neD hu) (lam (t := fun E' => ClX.tSMeth CW (spRead K Ct Cn BT) E' (tC (.ref CW)) (tCons (tVar 7) tNil)) (lamS_by (by decide +kernel)) rfl (fun _ _ _ _ _ => rfl)
          (fun _ _ _ _ E' _ _ hrL => ClX.pe_smeth (E := E') (pe_glob (v := .ref CW) (by rfl) gW rfl) cr cm (fnr_of GR bR) hrL (passes_call (takes_of rfl rfl rfl rfl) (fun _ _ _ _ h => h)) (pa_cons (pv 7) pa_nil))) (pe_tup (pa_cons pe_str (pa_cons pe_str (pa_cons pe_str pa_nil)))) (nomark _)) (pss_one (ps_ret pe_bl)) pss_nil)), ?_⟩
  intro D G p L b v0 v2 v3 v4 v5 v6 v7 v8 v9 pn hb hT fin
  refine ⟨_, rfl, (by show 1 ≤ sizeLine; decide), fun t1 n1 => ⟨(by show 1 ≤ sizeLine; decide), fun l1 m1 => fun d1 o1 => ⟨_, _, rfl, rfl, ⟨by decide, by decide, by decide⟩, (by show 7 ≤ sizeLine; decide), fun l2 n2 => ?_⟩⟩⟩
  have e1 : upd G t1 (.tup [.str (Str.ofString "try")]) t1 = some (.tup [.str (Str.ofString "try")]) := upd_same
  have s1 := same_new (o := .tup [.str (Str.ofString "try")]) n1
  generalize upd G t1 (.tup [.str (Str.ofString "try")]) = G1 at e1 s1 m1 o1 n2 ⊢
  have e2 : upd G1 l1 (.lst [.str (Str.ofString "try 3/1 0")]) l1 = some (.lst [.str (Str.ofString "try 3/1 0")]) := upd_same
  have s2 := same_new (o := .lst [.str (Str.ofString "try 3/1 0")]) m1
  have l1p : l1 ≠ p := (pn.keep s1).ne m1
  generalize upd G1 l1 (.lst [.str (Str.ofString "try 3/1 0")]) = G3 at e2 s2 o1 n2 ⊢
  have e3 : upd G3 d1 (.dK []) d1 = some (.dK []) := upd_same
  have s3 := same_new (o := .dK []) o1
  generalize upd G3 d1 (.dK []) = G4 at e3 s3 n2 ⊢
  have s14 := s1.trans (s2.trans s3)
  have l2p : l2 ≠ p := (pn.keep s14).ne n2
  generalize exs : ([.non, .int 0, .ref t1, .ref l1, .ref d1, .bl true, (fun i j : Int => V.int (i ^ j.toNat)) 10 30] : List V) = xs
  have hxs : ∀ d ∈ xs, ∀ G' : Hp, But p G4 G' → NotStr K G' d := by
    intro d hd G' bt
    obtain ⟨ys, hy⟩ := (pn.keep s14).some
    rw [← exs] at hd
    simp only [List.mem_cons, List.not_mem_nil, or_false] at hd
    have ht : G' t1 = some (.tup [.str (Str.ofString "try")]) := bt.tup (s3 _ _ (s2 _ _ e1)) (pn.keep s14)
    have hl : G' l1 = some (.lst [.str (Str.ofString "try 3/1 0")]) := bt _ _ l1p (s3 _ _ e2)
    have hd1 : G' d1 = some (.dK []) := bt _ _ (ne_of e3 hy (by intro z; cases z)) e3
    rcases hd with rfl | rfl | rfl | rfl | rfl | rfl | rfl
    · exact ⟨_, fun _ _ => .base .non, kit_ty (by decide +kernel)⟩
    · exact ⟨_, fun _ _ => .base (.int _), kit_ty (by decide +kernel)⟩
    · exact ⟨_, fun _ k => .base (.tup (k _ _ ht fun _ z => by cases z)), kit_ty (by decide +kernel)⟩
    · exact ⟨_, fun _ k => .base (.lst (k _ _ hl fun _ z => by cases z)), kit_ty (by decide +kernel)⟩
    · exact ⟨_, fun _ k => .base (.dK (k _ _ hd1 fun _ z => by cases z)), kit_ty (by decide +kernel)⟩
    · exact ⟨_, fun _ _ => .base (.bl _), kit_ty (by decide +kernel)⟩
    · exact ⟨_, fun _ _ => .base (.int _), kit_ty (by decide +kernel)⟩
  have hx1 : 1 ≤ xs.length ∧ xs.length ≤ 1000 := by rw [← exs]; exact ⟨by simp, by simp⟩
  clear exs e1 e2 e3
  have e5 : upd G4 l2 (.lst xs) l2 = some (.lst xs) := upd_same
  have s5 := same_new (o := .lst xs) n2
  refine ⟨p, l2, L, xs, b, rfl, e5, l2p, hx1.1, hx1.2, by omega, (pn.keep s14).keep s5, fun d H6 mem t6 p6 => ?_⟩
  have nd := hxs d mem H6 ((Same.but s5).trans t6)
  have b6 : But p G H6 := (Same.but s14).trans ((Same.but s5).trans t6)
  have T6 : Tabs TL H6 := Tabs.but' hT pn b6
  clear hxs e5 s5 t6 s14 s1 s2 s3
  refine ⟨T6, fun H7 e7 T7 G0 Qn s0 kq => ⟨rfl, _, rfl, _, rfl, .inl ⟨?_, ?_⟩⟩⟩
  · obtain ⟨u, ty, ki⟩ := nd
    exact ⟨u, fun H' k => ty H' (e7.trans ((Same.extN s0).trans k)), ki⟩
  · intro dd H8 s8 ndd hdd
    refine ⟨dd, 0, rfl, rfl, hdd, by decide, fun r G9 s9 nr hr2 => ?_⟩
    have s79 : Same H7 G9 := s0.trans (s8.trans s9)
    refine ⟨(by show 3 ≤ sizeLine; decide), fun tq ntq => ?_⟩
    have hq0 : upd G9 tq (.tup [.str (Str.ofString "text"), .str (Str.ofString "0"), .str (Str.ofString "0")]) tq = some (tupT 0) := by
      rw [upd_same, ← shw0]
      rfl
    have sq := same_new (o := .tup [.str (Str.ofString "text"), .str (Str.ofString "0"), .str (Str.ofString "0")]) ntq
    have hr3 := sq _ _ hr2
    generalize upd G9 tq (.tup [.str (Str.ofString "text"), .str (Str.ofString "0"), .str (Str.ofString "0")]) = G10 at hq0 sq hr3 ⊢
    refine ⟨tupD 0, tupD 0, tup_dp hr3, tup_dp hq0, (tup_sh 0 (by decide)).1, (tup_sh 0 (by decide)).1, ?_⟩
    rw [(tup_sh 0 (by decide)).2]
    refine ⟨_, rfl, iteF ?_⟩
    have e610 : ExtN H6 G10 := e7.trans (Same.extN (s79.trans sq))
    exact fin G10 _ (p6.ext e610) (T7.ext (s79.trans sq)) ((Ev.But.p b6).trans (ExtN.p e610))
end
end Ev
namespace Ev
open PySem L2 PySem.Spec PyProof.Rows LamX
theorem row_len {r : Row} (h : r.fit) : r.tx.length ≤ 40 := by
  obtain ⟨hp, hq, hk⟩ := fit_abs h
  have l1 := prW_len hp hq
  have l2 := txc_len hk
  have := jz_le 32 r.ws
  unfold Row.tx
  cases r with
  | tr p q k =>
    have l1 : (prW p q).length ≤ 7 := l1
    have l2 : (txc k).length ≤ 3 := l2
    simp only [Row.ws, sumL, List.map_cons, List.map_nil, List.sum_cons, List.sum_nil, List.length_cons, List.length_nil, wTry] at this ⊢
    omega
  | tn p q k t s c =>
    have l1 : (prW p q).length ≤ 7 := l1
    have l2 : (txc k).length ≤ 3 := l2
    have ht : t.natAbs ≤ 99 := by have := h.2.1; omega
    have hs : s.natAbs ≤ 99 := by have := h.2.2.1; omega
    have hc : c.natAbs ≤ 99 := by have := h.2.2.2; omega
    have l3 := prW_len ht hs
    have l4 := txc_len hc
    simp only [Row.ws, sumL, List.map_cons, List.map_nil, List.sum_cons, List.sum_nil, List.length_cons, List.length_nil, wTurn] at this ⊢
    omega
theorem sh_lt (ns : List Int) : SeqAt.shaped (.list [.tuple (ns.map PyData.int)]) = true := by
  have h := sh_intsT ns
  unfold SeqAt.shaped at h ⊢
  rw [Bool.and_eq_true] at h ⊢
  obtain ⟨h1, h2⟩ := h
  have hd : ∀ ns : List Int, PyData.depthAll (ns.map PyData.int) ≤ 1 := by
    intro ns
    induction ns with
    | nil => simp [PyData.depthAll]
    | cons n r ih => simp [PyData.depthAll, PyData.depth]; omega
  refine ⟨?_, decide_eq_true ?_⟩
  · simp only [PyData.canLay0, PyData.canLayAll0] at h1 ⊢
    simp [h1]
  · have := hd ns
    simp [PyData.depth, PyData.depthAll]
    omega
theorem eqv_lt (ns : List Int) : PyData.eqv (.list [.tuple (ns.map PyData.int)]) (.list [.tuple (ns.map PyData.int)]) = true := by
  have e := eqv_tupI ns ns
  simp only [PyData.eqv, PyData.eqvAll] at e ⊢
  simp [e]
section
variable {P : Program} {w : World} {K : PySem.W.Frag} {mg : Str → Option Value} {base : Heap}
theorem ok_law {f Ct Cn B N BT CW FE fh T1 T2 cc fT : Addr} {fd fdh fdT : FuncData} {q1 q2 : Str} (F : Fun K "law" "law" sLaw17 f fd) (T : Blt mg) (ms : mg "str" = none) (hc : fd.code = .ref cc) (TB : TabB base mg cc T2) (TT : T1 ≠ T2)
    (hq : q2 = (envOfC "law" (defScope sLaw17) 0 f (.ref cc)).qual ++ ("<lambda>" : Str)) (HH : HeardB P w K mg BT FE fh fdh) (RB : RdB P w K mg base Ct Cn BT CW) (RE : REq P w K mg base Ct Cn) (RS : RStr P w K mg base Ct Cn)
    (RC : ∃ (mc : Value) (p fR : Addr), ClX.CRead K Ct mc ∧ ClX.SMet K Ct mc "read" p fR ∧ FnR P w K mg base (L2.CX P w) 8 fR (spRead K Ct Cn BT))
    (D1 : Df P w K mg base 1 "_law_pen" ["_law_script"] (spPen K)) (D2 : Df P w K mg base 1 "_law_draw" ["_law_pen_here", "_law_many"] spDraw) (D3 : Df P w K mg base 2 "_law_pick" ["_law_pen_here", "_law_some"] spPick) (D4 : Df P w K mg base 3 "_law_numbers" ["_law_pen_here"] spNums)
    (D5 : DfX P w K mg base 8 "_law_rule" ["_law_some"] (spRule Ct Cn B N)) (D6 : Df P w K mg base 1 "_law_text" ["_law_some"] spLText) (D7 : Df P w K mg base 3 "_law_bent" ["_law_pen_here", "_law_text_so"] spBent)
    {f8 : Addr} {fd8 : FuncData} (G8 : FnG P w K mg base 3 f8 fd8 ["_law_text_so"] spLDue) (g8 : mg "_law_due" = some (.ref f8)) (k8 : PySem.W.keepIn K (.ref f8) = true) (b8 : Binds K fd8 ["_law_text_so"] [])
    {f9 : Addr} {fd9 : FuncData} (G9 : FnG P w K mg base 11 f9 fd9 ["_law_text_so"] (spRight [(T1, q1), (T2, q2)])) (g9 : mg "_law_right" = some (.ref f9)) (k9 : PySem.W.keepIn K (.ref f9) = true) (b9 : Binds K fd9 ["_law_text_so"] [])
    (gT : mg "TryRule" = some (.ref Ct)) (gN : mg "TurnRule" = some (.ref Cn)) (MT : Mk K Ct fT) (GT : FnOk P w K mg base (L2.CX P w) 6 fT fdT ["self", "times", "plus"] (spTryInit Ct B N)) (bT : Binds K fdT ["self", "times", "plus"] []) :
    FnG P w K mg base 12 f fd ["_law_script"] (spLaw K T1 T2) := by
  obtain ⟨f1, fd1, G1, g1, k1, b1⟩ := D1.ex
  obtain ⟨f2, fd2, G2, g2, k2, b2⟩ := D2.ex
  obtain ⟨f4, fd4, G4, g4, k4, b4⟩ := D4.ex
  obtain ⟨f5, fd5, G5, g5, k5, b5⟩ := D5.ex
  obtain ⟨f6, fd6, G6, g6, k6, b6⟩ := D6.ex
  obtain ⟨f7, fd7, G7, g7, k7, b7⟩ := D7.ex
  refine fng_code F scLaw (fun vs H Q E h => ?_) (fun cdv ecd A outer s H vs Q E hr gd h => ?_)
  · obtain ⟨a, ns, rfl, _⟩ := h
    rfl
  · obtain ⟨a, ns, rfl, hS, hlen, hT1, hT2, kk⟩ := h
    obtain rfl : cdv = .ref cc := ecd.symm.trans hc
    have hr1 : Room 1 _ := hr.mono (by decide)
    have hr3 : Room 3 _ := hr.mono (by decide)
    have hr8 : Room 8 _ := hr.mono (by decide)
    have hu : (cxOf CX0 P w K mg base nLaw "law" (defScope sLaw17) f (.ref cc) A outer s H E).nox.A.units + 64 < cLine := Room.units hr
    obtain ⟨tE, hE, qE⟩ := law_end (H := H) (E := E) (s := s) (outer := outer) hr gd T RB RE RC G9 g9 k9 b9 gT gN MT GT bT
    obtain ⟨tO, hO, qO⟩ := law_odd (TL := [(T1, q1), (T2, q2)]) (H := H) (E := E) (s := s) (outer := outer) hr gd T TB (by simp) (fun z hz e => by
      simp only [List.mem_cons, List.not_mem_nil, or_false] at hz
      rcases hz with rfl | rfl
      · exact absurd e TT
      · rfl) hq HH RB D3
    obtain ⟨tL, hL, qL⟩ : ∃ t : TS, PSs (cxOf CX0 P w K mg base nLaw "law" (defScope sLaw17) f (.ref cc) A outer s H E).nox (lapBody.drop 2) t ∧ ∀ (D : Ends) (G : Hp) (p L l : Addr) (b : Int) (r : Row) (v0 v2 v4 v5 v6 v7 v8 v9 : Option V), r.fit → 2 * r.q ≤ r.p + r.k → G l = some (.tup r.vs) → Pen L G p b → b ≤ 800000 → Tabs [(T1, q1), (T2, q2)] G →
        (∀ (G' : Hp) (u4 u5 u6 u7 : Option V), Pen L G' p (b + 50) → Tabs [(T1, q1), (T2, q2)] G' → D.nx [v0, some (.ref p), v2, some (.ref l), u4, u5, u6, u7, v8, v9] G') → t D [v0, some (.ref p), v2, some (.ref l), v4, v5, v6, v7, v8, v9] G := by
      refine ⟨_, (pss_cons (ps_set (i := 4) scLaw.nd rfl (.inl rfl) (pe_call G6 hr1 (by rfl) g6 k6 b6 .nil pass0 (pa_cons (pv 3) pa_nil)))
        (pss_cons (ps_if (PW.pt (pw_or (pt_cmpR op_ne (pe_callTy (call_strR RS (hr.mono (by decide))) (by rfl) ms (by decide +kernel) (pa_cons (pe_call G5 hr8 (by rfl) g5 k5 b5 .nil (E := E0) passX0 (pa_cons (pv 3) pa_nil)) pa_nil)) (pv 4) (nomark _))
          (pw_or (pt_cmpR (op_neD hu) (pe_callG (E := E0) G8 hr3 gd (by rfl) g8 k8 b8 (pa_cons (pv 4) pa_nil)) (pe_lst (pa_cons (pv 3) pa_nil)) (nomark _))
          (pw_or1 (pt_not (pt_val (pe_callG (E := E0) G9 hr gd (by rfl) g9 k9 b9 (pa_cons (pv 4) pa_nil)))))))) (pss_one (ps_ret pe_bl)) pss_nil)
        (pss_cons (ps_for PassesOwn.never rfl (pi_range1 rfl T.range (pa_cons pe_int pa_nil)) (pg_name (i := 5) scLaw.nd rfl (.inl rfl))
          (pss_cons (ps_set (i := 6) scLaw.nd rfl (.inl rfl) (pe_call G7 hr3 (by rfl) g7 k7 b7 .nil pass0 (pa_cons (pv 1) (pa_cons (pv 4) pa_nil))))
          (pss_one (ps_if (PW.pt (pw_or (pt_not (pt_val (pe_callG (E := E0) G9 hr gd (by rfl) g9 k9 b9 (pa_cons (pv 6) pa_nil))))
            (pw_or1 (pt_not (pt_val (pe_callG (E := E0) G9 hr gd (by rfl) g9 k9 b9 (pa_cons (pe_call G7 hr3 (by rfl) g7 k7 b7 .nil pass0 (pa_cons (pv 1) (pa_cons (pv 6) pa_nil))) pa_nil))))))) (pss_one (ps_ret pe_bl)) pss_nil))))
        hO))), ?_⟩
      intro D G p L l b r v0 v2 v4 v5 v6 v7 v8 v9 hf z hl pn hb hT fin
      have l40 := row_len hf
      refine ⟨_, rfl, l, r, rfl, hl, hf, fun G1 s1 => ?_⟩
      refine ⟨_, rfl, l, r, rfl, s1 _ _ hl, ?_⟩
      rw [fit_ok hf z]
      intro x G2 s2 ob
      have s12 := s1.trans s2
      refine ⟨x, r, rfl, ob, hf, _, rfl, rfl, _, rfl, ?_⟩
      rw [show decide (V.str (Sx r.tx) = V.str (Sx r.tx)) = true from decide_eq_true rfl]
      refine iteF ⟨_, rfl, r.tx, .good r, rfl, by omega, ⟨rfl, hf, z⟩, fun t a' G3 s3 ht ha' => ?_⟩
      have s13 := s12.trans s3
      refine ⟨_, rfl, (by show 1 ≤ sizeLine; decide), fun l2 nl2 => ?_⟩
      have e2 : upd G3 l2 (.lst [.ref l]) l2 = some (.lst [.ref l]) := upd_same
      have sn := same_new (o := .lst [.ref l]) nl2
      have hl3 := sn _ _ (s13 _ _ hl)
      have ht3 := sn _ _ ht
      have ha3 := sn _ _ ha'
      have s14 := s13.trans sn
      generalize upd G3 l2 (.lst [.ref l]) = G4 at e2 hl3 ht3 ha3 s14 ⊢
      rw [Row.vs_ns] at hl3 ht3
      refine ⟨.list [.tuple (r.ns.map PyData.int)], .list [.tuple (r.ns.map PyData.int)], .lst (SqL.of ha3) (.cons (.tup (SqT.of ht3) (dpInts _)) .nil), .lst (SqL.of e2) (.cons (.tup (SqT.of hl3) (dpInts _)) .nil), sh_lt _, sh_lt _, ?_⟩
      rw [eqv_lt]
      refine ⟨_, rfl, iteF ⟨_, rfl, r.tx, rfl, by omega, hT.ext s14, fun G5 e5 T5 => ⟨_, rfl, iteF ?_⟩⟩⟩
      have p5 := (pn.keep s14).ext e5
      refine ⟨3, rfl, by decide, by decide, for_range (n := 3) (fun i σ G' => (∃ u5 u6 : Option V, σ = [v0, some (.ref p), v2, some (.ref l), some (.str (Sx r.tx)), u5, u6, v7, v8, v9]) ∧ Pen L G' p (b + 10 * (i : Int)) ∧ Tabs [(T1, q1), (T2, q2)] G') ⟨⟨v5, v6, rfl⟩, p5.mono (by omega), T5⟩ ?_ ?_⟩
      · rintro i σ G6 hi ⟨⟨u5, u6, rfl⟩, p6, T6⟩
        refine ⟨_, rfl, _, rfl, p, L, r.tx, _, rfl, by omega, by omega, p6, fun L' G7 hL' t7 p7 => ?_⟩
        have T7 := Tabs.but' T6 p6 t7
        refine ⟨_, rfl, L', rfl, by omega, T7, fun G8 e8 T8 => ⟨_, rfl, ?_⟩⟩
        refine iteF ⟨_, rfl, _, rfl, p, L, L', _, rfl, by omega, by omega, p7.ext e8, fun L2 G9 hL2 t9 p9 => ?_⟩
        have T9 := Tabs.but' T8 (p7.ext e8) t9
        refine ⟨L2, rfl, by omega, T9, fun G10 e10 T10 => ⟨_, rfl, iteF ?_⟩⟩
        exact ⟨⟨_, _, rfl⟩, (p9.ext e10).mono (by omega), T10⟩
      · rintro σ G6 ⟨⟨u5, u6, rfl⟩, p6, T6⟩
        exact qO D G6 p L _ _ _ _ _ _ _ _ _ _ p6 (by omega) T6 fun G' u p7 T7 _ => fin G' _ _ _ _ (p7.mono (by omega)) T7
    refine ⟨_, pss_cons (ps_set (i := 1) scLaw.nd rfl (.inl rfl) (pe_call G1 hr1 (by rfl) g1 k1 b1 .nil pass0 (pa_cons (pv 0) pa_nil)))
      (pss_cons (ps_for PassesOwn.never rfl (pi_range1 rfl T.range (pa_cons pe_int pa_nil)) (pg_name (i := 2) scLaw.nd rfl (.inl rfl))
        (pss_cons (ps_set (i := 3) scLaw.nd rfl (.inl rfl) (pe_call G4 hr3 (by rfl) g4 k4 b4 .nil pass0 (pa_cons (pv 1) pa_nil)))
        (pss_cons (ps_set (i := 3) scLaw.nd rfl (.inl rfl) (pe_ifExp (pt_cmpR op_eq (pe_call G2 hr1 (by rfl) g2 k2 b2 .nil pass0 (pa_cons (pv 1) (pa_cons pe_int pa_nil))) pe_int (nomark _)) (pv 3) (pe_slice sl_tupA (pv 3) po_none (po_some pe_int))))
        hL)))
      hE), ?_⟩
    refine ⟨_, rfl, a, ns, rfl, hS, hlen, fun p L H1 np s1 pn0 => ?_⟩
    have tb0 : Tabs [(T1, q1), (T2, q2)] H1 := fun z hz => by
      simp only [List.mem_cons, List.not_mem_nil, or_false] at hz
      rcases hz with rfl | rfl
      · exact TabS.nil (s1 _ _ hT1)
      · exact TabS.nil (s1 _ _ hT2)
    refine ⟨8, rfl, by decide, by decide, for_range (n := 8) (fun i σ H2 => (∃ v2 v3 v4 v5 v6 v7 : Option V, σ = [some (.ref a), some (.ref p), v2, v3, v4, v5, v6, v7, none, none]) ∧ Pen L H2 p (60 * (i : Int)) ∧ Tabs [(T1, q1), (T2, q2)] H2) ⟨⟨none, none, none, none, none, none, rfl⟩, pn0.mono (by decide), tb0⟩ ?_ ?_⟩
    · rintro i σ H2 hi ⟨⟨v2, v3, v4, v5, v6, v7, rfl⟩, pn, tb⟩
      refine ⟨_, rfl, p, L, _, rfl, by omega, pn, fun l p' q k t s c H5 okn okt nl hl t5 p5 => ?_⟩
      refine ⟨_, rfl, p, L, _, _, rfl, by decide, by decide, by omega, p5, fun d H6 t6 p6 d0 d1 => ⟨rfl, _, rfl, ?_⟩⟩
      obtain ⟨a1, a2, a3, a4, a5, a6⟩ := id okn
      have hl6 := t6.tup hl p5
      have T6 := Tabs.but' (Tabs.but' tb pn t5) p5 t6
      clear tb t5 t6 p5 hl nl
      by_cases hd : d = 0
      · rw [show decide (V.int d = V.int 0) = true from decide_eq_true (by rw [hd])]
        refine iteT ⟨_, rfl, ?_⟩
        exact qL _ H6 p L l _ (.tn p' q k t s c) _ _ _ _ _ _ _ _ ⟨⟨a1, a2, a3, a4, a5⟩, okt⟩ a6 hl6 p6 (by omega) T6 fun G' u4 u5 u6 u7 p7 T7 => ⟨⟨_, _, _, _, _, _, rfl⟩, p7.mono (by omega), T7⟩
      · rw [show decide (V.int d = V.int 0) = false from decide_eq_false fun e => hd (V.int.inj e)]
        refine iteF ⟨_, rfl, _, rfl, slice3 (row := .tn p' q k t s c) hl6 fun l2 H7 s7 h7 => ?_⟩
        exact qL _ H7 p L l2 _ (.tr p' q k) _ _ _ _ _ _ _ _ ⟨a1, a2, a3, a4, a5⟩ a6 h7 (p6.keep s7) (by omega) (T6.ext s7) fun G' u4 u5 u6 u7 p8 T8 => ⟨⟨_, _, _, _, _, _, rfl⟩, p8.mono (by omega), T8⟩
    · rintro σ H2 ⟨⟨v2, v3, v4, v5, v6, v7, rfl⟩, pn, tb⟩
      exact qE _ H2 _ _ _ _ _ _ _ _ _ _ tb fun G' => kk G'
end
end Ev
namespace Ev
open PySem L2 PySem.Spec PyProof.Rows LamX
/-- the table of a code object -/
def tabAt (K : PySem.W.Frag) (c : Addr) : Addr := match K.lookup c with
  | some ⟨_, _, .fields vs, _⟩ => (match (vs[11]? : Option Value) with | some (.ref T) => T | _ => 0)
  | _ => 0
/-! The law's own call, where two other defs make lambdas: the tables of both code objects are told of. -/
section
variable {P : Program} {w : World} {K : PySem.W.Frag} {mg mb : Str → Option Value}
theorem law_callT2 {k : Nat} {fa a c c2 T T2 : Addr} {fd : FuncData} {x : Str} {sp : Sp} {s : Shared} {vs : List Value} {ns : List Int}
    (inK : K.In s.heap) (ns1 : s.heap.Ns mainGlobals mg) (ns2 : s.heap.Ns builtinsNs mb) (blt : ∀ x : Str, x ≠ "__name__" → mb x = bootBuiltins x)
    (noLim : s.heap.NoLimit) (hg : s.gens = #[]) (hT : s.heap.get? T = some { cls := .none, data := .fields #[] }) (nT : K.lookup T = none) (hc : PySem.W.CodeHd s.heap c T)
    (hT2 : s.heap.get? T2 = some { cls := .none, data := .fields #[] }) (nT2 : K.lookup T2 = none) (hc2 : PySem.W.CodeHd s.heap c2 T2) (TT : T ≠ T2)
    (hbm : ∃ (bm : Addr) (ob : Obj), mg "__builtins__" = some (.ref bm) ∧ bm ≠ builtinsNs ∧ s.heap.get? bm = some ob ∧ ob.cls = .type "module" ∧ ob.dict = some builtinsNs ∧ ob.data = .plain)
    (ha : s.heap.get? a = some { cls := .type "list", data := .seq vs.toArray }) (hi : IntsAre vs ns) (hl : ns.length ≤ sizeLine) (hr : Room k callerA)
    (F : ∀ base : Heap, K.In base → base.Ns mainGlobals mg → TabB base mg c T → TabB base mg c2 T2 → FnG P w K mg base k fa fd [x] sp)
    (bt : ∀ (s : Shared) (u : Value), BindsTo s fd ⟨[u], []⟩ [(x, u)])
    (hsp : ∀ H : Hp, H T = some (.tbl #[]) → H T2 = some (.tbl #[]) → SqL K H a (ns.map V.int) → sp [.ref a] H (fun v _ => v = .bl true) fun _ _ _ => False) :
    codeAny (model P w) callerA (.call (.ref fa) ⟨[.ref a], []⟩)
      (fun r s' => r = .ok (.ret (.bool true)) ∧ OldK s.heap s'.heap ∧ s'.os = s.os ∧ AllBare s'.gens) s := by
  have rv := vals_ints hi
  have lv := hi.length
  have aT : a ≠ T := fun z => by
    rw [z, hT] at ha
    cases ha
  have aT2 : a ≠ T2 := fun z => by
    rw [z, hT2] at ha
    cases ha
  have key : ∀ H : Hp, H T = some (.tbl #[]) → H T2 = some (.tbl #[]) → (∀ b u, H b = some u → b ≠ T → b ≠ T2 → b = a ∧ K.lookup a = none ∧ u = .frz { cls := .type "list", data := .seq vs.toArray } (.lst (ns.map V.int))) →
      SqL K H a (ns.map V.int) → codeAny (model P w) callerA (.call (.ref fa) ⟨[.ref a], []⟩)
        (fun r s' => r = .ok (.ret (.bool true)) ∧ OldK s.heap s'.heap ∧ s'.os = s.os ∧ AllBare s'.gens) s := by
    intro H eT eT2 only sq
    have ok : HOk P w H s.heap := by
      intro b u e
      by_cases zb : b = T
      · subst zb
        rw [eT] at e
        cases e
        exact hT
      · by_cases zb2 : b = T2
        · subst zb2
          rw [eT2] at e
          cases e
          exact hT2
        · obtain ⟨rfl, _, rfl⟩ := only b u e zb zb2
          exact ⟨ha, by rw [List.length_map]; exact hl, vs, _, rv, ha⟩
    have plain : ∀ {b : Addr} {o : Obj}, s.heap.get? b = some o → (∀ vs n, o.data ≠ .seq vs n) → o.data ≠ .fields #[] → H b = none := by
      intro b o e d1 d2
      cases q : H b with
      | none => rfl
      | some u =>
        by_cases zb : b = T
        · subst zb
          rw [hT] at e
          cases e
          exact absurd rfl d2
        · by_cases zb2 : b = T2
          · subst zb2
            rw [hT2] at e
            cases e
            exact absurd rfl d2
          · obtain ⟨rfl, _, _⟩ := only b u q zb zb2
            rw [ha] at e
            cases e
            exact absurd rfl (d1 _ _)
    have names : ∀ {b : Addr} {m : Str → Option Value}, s.heap.Ns b m → (hidT s.heap H).Ns b m := by
      rintro b m ⟨o, es, n, e, d, r⟩
      exact ⟨o, es, n, hidT_get e (plain e (fun _ _ z => by rw [d] at z; cases z) fun z => by rw [d] at z; cases z), d, r⟩
    have inB : K.In (hidT s.heap H) := by
      intro b o e
      refine hidT_get (inK b o e) ?_
      cases q : H b with
      | none => rfl
      | some u =>
        by_cases zb : b = T
        · rw [zb, nT] at e
          cases e
        · by_cases zb2 : b = T2
          · rw [zb2, nT2] at e
            cases e
          · obtain ⟨rfl, n, _⟩ := only b u q zb zb2
            rw [n] at e
            cases e
    have tab : ∀ {c T : Addr}, PySem.W.CodeHd s.heap c T → s.heap.get? T = some { cls := .none, data := .fields #[] } → TabB (hidT s.heap H) mg c T := by
      intro c T hc hT
      obtain ⟨bm, ob, b1, b2, b3, b4, b5, b6⟩ := hbm
      refine ⟨?_, ⟨bm, ob, b1, b2, fun q => ?_, fun q => ?_, hidT_get b3 (plain b3 (fun _ _ z => by rw [b6] at z; cases z) fun z => by rw [b6] at z; cases z), b4, b5, b6⟩, fun z => ?_⟩
      · obtain ⟨o, us, file, tf, flags, tg, inF, text, tt, e1, r1, r2, r3, rest⟩ := hc
        refine ⟨o, us, file, tf, flags, tg, inF, text, tt, hidT_get e1 (plain e1 (fun _ _ z => by rw [r2] at z; cases z) fun z => ?_), r1, r2, r3, rest⟩
        rw [r2] at z
        cases z
        simp at r3
      · obtain ⟨o, es, n, e, d, _⟩ := ns1
        rw [q, e] at b3
        cases b3
        rw [d] at b6
        cases b6
      · rw [q, hT] at b3
        cases b3
        cases b6
      · obtain ⟨o, es, n, e, d, _⟩ := ns1
        rw [z, hT] at e
        cases e
        cases d
    obtain ⟨mc, l1, l2⟩ := noLim
    have md : Mod K mg (hidT s.heap H) := ⟨inB, names ns1, ⟨mb, names ns2, blt⟩, ⟨mc, names l1, l2⟩⟩
    have env : Env0 P w K mg (hidT s.heap H) callerA [] s H :=
      ⟨rfl, md, fun b o e => of_hidT e, Nat.le_of_eq (hidT_size _ _), trivial, (fun b hb => by cases hb), ok, .of_eq hg⟩
    have go := (F _ inB (names ns1) (tab hc hT) (tab hc2 hT2)).goes callerA [] s H ⟨[.ref a], []⟩ [.ref a] [.ref a] _ _ hr rfl env (bt s (.ref a)) (.cons rfl .nil) (hsp H eT eT2 sq)
    refine codeAny_mono go fun r s2 h2 => ?_
    cases r with
    | error e => exact False.elim h2
    | ok fl =>
      cases fl with
      | next => exact False.elim h2
      | brk => exact False.elim h2
      | cont => exact False.elim h2
      | ret u =>
        obtain ⟨v, H2, os, bare, un, ok2, rr, q⟩ := h2
        obtain rfl : v = V.bl true := q
        obtain rfl : u = Value.bool true := rr
        have others : ∀ b o, b ≠ T → b ≠ T2 → s.heap.get? b = some o → s2.heap.get? b = some o := by
          intro b o nb nb2 e
          cases q : H b with
          | none => exact un.keep b o e q (by intro z; cases z) (by simp)
          | some u =>
            obtain ⟨rfl, _, rfl⟩ := only b u q nb nb2
            obtain ⟨e1, _⟩ := ok b _ q
            obtain ⟨e2, _⟩ := ok2 b _ (un.frzs b _ _ q)
            rw [e] at e1
            cases e1
            exact e2
        obtain ⟨more, eM⟩ := un.tbls T #[] eT
        have grown : s2.heap.get? T = some { cls := .none, data := .fields (#[] ++ more) } := ok2 T _ eM
        obtain ⟨more2, eM2⟩ := un.tbls T2 #[] eT2
        have grown2 : s2.heap.get? T2 = some { cls := .none, data := .fields (#[] ++ more2) } := ok2 T2 _ eM2
        refine ⟨rfl, ⟨fun b o e => ?_, fun b o e => ?_⟩, os, bare⟩
        · by_cases nb : b = T
          · subst nb
            rw [hT] at e
            cases e
            exact .inr (.inl ⟨(hc.tab hT).isCodeTable, rfl, #[], more, rfl, grown⟩)
          · by_cases nb2 : b = T2
            · subst nb2
              rw [hT2] at e
              cases e
              exact .inr (.inl ⟨(hc2.tab hT2).isCodeTable, rfl, #[], more2, rfl, grown2⟩)
            · exact .inl (others b o nb nb2 e)
        · by_cases nb : b = T
          · subst nb
            exact ⟨_, grown⟩
          · by_cases nb2 : b = T2
            · subst nb2
              exact ⟨_, grown2⟩
            · exact ⟨o, others b o nb nb2 e⟩
  cases hk : K.lookup a with
  | none =>
    refine key (fun b => if b = T then some (.tbl #[]) else if b = T2 then some (.tbl #[]) else if b = a then some (.frz { cls := .type "list", data := .seq vs.toArray } (.lst (ns.map V.int))) else none) (if_pos rfl) ((if_neg TT.symm).trans (if_pos rfl)) (fun b u e nb nb2 => ?_)
      (.inl (.inr ⟨_, (if_neg aT).trans ((if_neg aT2).trans (if_pos rfl))⟩))
    rw [if_neg nb, if_neg nb2] at e
    by_cases z : b = a
    · rw [if_pos z] at e
      cases e
      exact ⟨z, hk, rfl⟩
    · rw [if_neg z] at e
      cases e
  | some o =>
    have e := inK a o hk
    rw [ha] at e
    cases e
    refine key (fun b => if b = T then some (.tbl #[]) else if b = T2 then some (.tbl #[]) else none) (if_pos rfl) ((if_neg TT.symm).trans (if_pos rfl)) (fun b u e nb nb2 => by rw [if_neg nb, if_neg nb2] at e; cases e) (.inr ⟨_, vs.toArray, _, hk, rfl, rfl, rfl, ?_, by simpa using rv⟩)
    rw [List.size_toArray, lv]
    exact hl
end
/-- the law's call, the tables of two other defs' code objects told -/
theorem walk_ofGT2 {l : PySem.W.OpenLaw} {n k : Nat} {q : Program} {loose : List Str} {XP : (Str → Option Value) → Heap → Prop} {YP : World → Heap → Prop}
    {d : DefRec} {x xr xs : Str} (hn : l.most = some n) (hn2 : n ≤ sizeLine) (hdf : d.params.defaults = []) (hr : Room k callerA) (hrec : ((recsOf q).any fun e => e.name == xr) = true) (hrec2 : ((recsOf q).any fun e => e.name == xs) = true)
    (F : ∀ (w : World) (mg : Str → Option Value) (fa : Addr) (h : Heap), YP w h → h.Ns mainGlobals mg → mg d.name = some (.ref fa) →
      ∃ (K : PySem.W.Frag) (fd fdr fds : FuncData) (sp : Sp) (fr c T fs c2 T2 : Addr) (o o2 : Obj), K.In h ∧ (∀ (s : Shared) (u : Value), BindsTo s fd ⟨[u], []⟩ [(x, u)]) ∧
        (mg xr = some (.ref fr) ∧ K.lookup fr = some o ∧ o.data = .func fdr ∧ fdr.code = .ref c ∧ PySem.W.codeHdIn K c T = true ∧ K.lookup T = none) ∧
        (mg xs = some (.ref fs) ∧ K.lookup fs = some o2 ∧ o2.data = .func fds ∧ fds.code = .ref c2 ∧ PySem.W.codeHdIn K c2 T2 = true ∧ K.lookup T2 = none) ∧ T ≠ T2 ∧
        (∀ (H : Hp) (a : Addr) (ns : List Int), ns.length ≤ n → H T = some (.tbl #[]) → H T2 = some (.tbl #[]) → SqL K H a (ns.map V.int) → sp [.ref a] H (fun v _ => v = .bl true) fun _ _ _ => False) ∧
        ∀ base : Heap, K.In base → base.Ns mainGlobals mg → TabB base mg c T → TabB base mg c2 T2 → FnG l.prog w K mg base k fa fd [x] sp) :
    PySem.W.WalkO q loose XP YP l.row.toRowW d [] (fun f vs => PySem.call f vs) := by
  refine Att.attach_callB hn hdf fun w s0 s1 mg mb fa o pm cd doc a vs ns G Y h1 h2 h3 h4 h5 h6 h7 hbits h8 => ?_
  obtain ⟨K, fd, fdr, fds, sp, fr, c, T, fs, c2, T2, o1, o2, inK, bt, ⟨k0, k1, k2, k3, kc, kT⟩, ⟨m0, m1, m2, m3, mc, mT⟩, TT, hsp, hF⟩ := F w mg fa _ Y G.T.g h4
  have get : ∀ {xr : Str} {fr c T : Addr} {o1 : Obj} {fdr : FuncData}, ((recsOf q).any fun e => e.name == xr) = true → mg xr = some (.ref fr) → K.lookup fr = some o1 → o1.data = .func fdr → fdr.code = .ref c → PySem.W.CodeHd s1.heap c T → s1.heap.get? T = some { cls := .none, data := .fields #[] } := by
    intro xr fr c T o1 fdr hrec k0 k1 k2 k3 hc
    obtain ⟨dL, hm, e1⟩ := List.any_eq_true.mp hrec
    obtain ⟨a2, o2, fd2, c2, P2, g1, g2, g3, g4, g5, g6⟩ := G.T.tab dL hm
    rw [beq_iff_eq.mp e1, k0] at g1
    cases g1
    rw [inK _ _ k1] at g2
    cases g2
    rw [k2] at g3
    cases g3
    rw [k3] at g4
    cases g4
    obtain ⟨⟨oc, vc, e1, _, e3, e4⟩, hP⟩ := g6
    obtain ⟨oc', vs', file, tf, flags, tg, inF, text, tt, f1, f2, f3, f4, _⟩ := id hc
    rw [f1] at e1
    cases e1
    rw [f3] at e3
    cases e3
    rw [f4] at e4
    cases e4
    exact hP
  have hc := PySem.W.codeHd_of_K inK kc
  have hc2 := PySem.W.codeHd_of_K inK mc
  exact law_callT2 inK G.T.g G.T.b G.T.builtins G.T.nolimit h8 (get hrec k0 k1 k2 k3 hc) kT hc (get hrec2 m0 m1 m2 m3 hc2) mT hc2 TT G.T.bmain h5 h6 (Nat.le_trans h7 hn2) hr hF bt (fun H eT eT2 sq => hsp H a ns h7 eT eT2 sq)
theorem kit_bty {K : PySem.W.Frag} {t : Value} (h : PySem.W.subIn K t (.type "ValueError") = some true) : PySem.W.kitOne K t (.type "ValueError") = some true := by
  unfold PySem.W.kitOne
  split
  · rfl
  · unfold PySem.W.kitCls
    simp only
    rw [if_pos (by decide +kernel)]
    exact h
theorem walk_ofGTK2 {l : PySem.W.OpenLaw} {n k : Nat} {q : Program} {loose : List Str} {XP : (Str → Option Value) → Heap → Prop} {YP : World → Heap → Prop}
    {d : DefRec} {K : Params → PySem.W.Frag} {x xr xs : Str} (hn : l.most = some n) (hn2 : n ≤ sizeLine) (hdf : d.params.defaults = []) (hr : Room k callerA) (hrec : ((recsOf q).any fun e => e.name == xr) = true) (hrec2 : ((recsOf q).any fun e => e.name == xs) = true)
    (hY : ∀ (w : World) (h : Heap), YP w h → (K w.params).In h)
    (F : ∀ (w : World) (mg : Str → Option Value) (fa : Addr) (h : Heap), (K w.params).In h → h.Ns mainGlobals mg → mg d.name = some (.ref fa) →
      ∃ (fd fdr fds : FuncData) (sp : Sp) (fr c T fs c2 T2 : Addr) (o o2 : Obj), (∀ (s : Shared) (u : Value), BindsTo s fd ⟨[u], []⟩ [(x, u)]) ∧
        (mg xr = some (.ref fr) ∧ (K w.params).lookup fr = some o ∧ o.data = .func fdr ∧ fdr.code = .ref c ∧ PySem.W.codeHdIn (K w.params) c T = true ∧ (K w.params).lookup T = none) ∧
        (mg xs = some (.ref fs) ∧ (K w.params).lookup fs = some o2 ∧ o2.data = .func fds ∧ fds.code = .ref c2 ∧ PySem.W.codeHdIn (K w.params) c2 T2 = true ∧ (K w.params).lookup T2 = none) ∧ T ≠ T2 ∧
        (∀ (H : Hp) (a : Addr) (ns : List Int), ns.length ≤ n → H T = some (.tbl #[]) → H T2 = some (.tbl #[]) → SqL (K w.params) H a (ns.map V.int) → sp [.ref a] H (fun v _ => v = .bl true) fun _ _ _ => False) ∧
        ∀ base : Heap, (K w.params).In base → base.Ns mainGlobals mg → TabB base mg c T → TabB base mg c2 T2 → FnG l.prog w (K w.params) mg base k fa fd [x] sp) :
    PySem.W.WalkO q loose XP YP l.row.toRowW d [] (fun f vs => PySem.call f vs) :=
  walk_ofGT2 hn hn2 hdf hr hrec hrec2 fun w mg fa h Y ns hm => by
    obtain ⟨fd, fdr, fds, sp, fr, c, T, fs, c2, T2, o, o2, r⟩ := F w mg fa h (hY w h Y) ns hm
    exact ⟨K w.params, fd, fdr, fds, sp, fr, c, T, fs, c2, T2, o, o2, hY w h Y, r⟩
theorem kit_clsB {K : PySem.W.Frag} {t : Value} {C : Addr} {b : Bool} (h1 : PySem.W.isClsIn K C = true) (h2 : PySem.W.typeIn K (.ref C) = some (.type "type")) (h3 : PySem.W.subIn K t (.ref C) = some b) : PySem.W.kitCls K t (.ref C) = some b := by
  have h1 : (PySem.W.clsIn K C).isSome = true := h1
  unfold PySem.W.kitCls
  simp only [h1, h2, h3]
  cases b <;> decide
theorem kit_own {K : PySem.W.Frag} {t : Value} {C : Addr} (h1 : PySem.W.isClsIn K C = true) (h2 : PySem.W.typeIn K (.ref C) = some (.type "type")) (h3 : PySem.W.subIn K t (.ref C) = some true) : PySem.W.kitOne K t (.ref C) = some true := by
  unfold PySem.W.kitOne
  split
  · rfl
  · exact kit_clsB h1 h2 h3
theorem kit_not {K : PySem.W.Frag} {D C : Addr} (h1 : PySem.W.isClsIn K C = true) (h2 : PySem.W.typeIn K (.ref C) = some (.type "type")) (h3 : PySem.W.subIn K (.ref D) (.ref C) = some false) (h4 : PySem.W.subIn K (.ref C) (.ref C) = some true) : PySem.W.kitOne K (.ref D) (.ref C) = some false := by
  unfold PySem.W.kitOne
  split
  · rename_i z
    by_cases e : D = C
    · rw [e, h4] at h3
      cases h3
    · have n : ((Value.ref D) == (Value.ref C)) = false := by simp [e]
      rw [n] at z
      cases z
  · exact kit_clsB h1 h2 h3
theorem exm_own {K : PySem.W.Frag} {t : Value} {C : Addr} (h1 : PySem.W.isClsIn K C = true) (h2 : PySem.W.typeIn K (.ref C) = some (.type "type")) (h3 : PySem.W.subIn K t (.ref C) = some true) (h4 : PySem.W.subIn K (.ref C) (.type "BaseException") = some true) : PySem.W.exmOne K t (.ref C) = some true := by
  unfold PySem.W.exmOne
  rw [h4, if_pos (by decide)]
  exact kit_clsB h1 h2 h3
theorem wd_look {K : PySem.W.Frag} {D A B : Addr} {c : Value} {od : Option Addr} {h1 h2 : Int} {t1 t2 : Tok} {n : Nat} {sl : Array (Option Value)} (lD : K.lookup D = some ⟨c, od, .dict #[⟨h1, .str "turn" t1, .ref A⟩, ⟨h2, .str "try" t2, .ref B⟩] n, sl⟩) (z : Str) :
    PySem.W.nsIn K D z = some (if z = "turn" then some (.ref A) else if z = "try" then some (.ref B) else none) := by
  unfold PySem.W.nsIn
  rw [lD]
  simp only [List.find?, Value.isStr]
  by_cases z1 : z = "turn"
  · subst z1
    simp
  · have e1 : (("turn" : Str) == z) = false := by rw [beq_eq_false_iff_ne]; exact fun q => z1 q.symm
    by_cases z2 : z = "try"
    · subst z2
      simp [e1, z1]
    · have e2 : (("try" : Str) == z) = false := by rw [beq_eq_false_iff_ne]; exact fun q => z2 q.symm
      simp [e1, e2, z1, z2, DictEntry.refKey]
theorem sqT_K {K : PySem.W.Frag} {H : Hp} {a : Addr} {od : Option Addr} {us : List Value} {n : Nat} {sl : Array (Option Value)} {xs : List V} (h : K.lookup a = some ⟨.type "tuple", od, .seq us.toArray n, sl⟩) (hl : xs.length ≤ 1000) (r : Vals xs us) : SqT K H a xs := by
  have hl2 : us.length ≤ 1000 := by rw [← r.length]; exact hl
  exact .inr ⟨_, us.toArray, n, h, rfl, rfl, by rw [List.size_toArray]; exact Nat.le_trans hl2 (by decide), by simpa using r⟩
theorem kb_one {K : PySem.W.Frag} {x qual : Str} {st : Stmt} {f : Addr} {fd : FuncData} (F : Fun K x qual st f fd)
    (h : ∀ (kV doc pm : Value) (an : Option Addr) (cdv ct b : Value), bindArgs (PySem.W.fnOf x qual (defArgs st) (defBody st) (defScope st) .none kV doc pm an cdv ct) ⟨[], (["text"] : List Str).zip [b]⟩ = pure ((["text"] : List Str).zip [b])) : KBinds K fd ["text"] ["text"] g0 g0 := by
  obtain ⟨oc, od, kV, doc, pm, an, cdv, ct, osl, rfl, lk, hcd⟩ := F.ex
  refine ⟨fun s us ws _ hl => ?_, fun rv rz => ?_⟩
  · match us, ws, hl with
    | [], [b], _ => exact .of_eq (h _ _ _ _ _ _ _)
    | _ :: _, _, hl => cases hl
  · cases rv with
    | nil => exact rz
    | cons _ _ => exact .nil
set_option maxHeartbeats 4000000 in
theorem all_mk {l : PySem.W.OpenLaw} {w : World} {K : PySem.W.Frag} {h : Heap} {mg : Str → Option Value} {f0 f1 f2 f3 f4 f5 f6 f7 f8 f9 f10 f11 f12 f13 f14 f15 f16 f17 f18 f19 f20 f21 f22 f23 f24 f25 f26 f27 f28 f29 cR1 f30 cL Ct Cn CW CB CN BT FE T50 f50 T53 KD f53 f55 f56 f57 f58 f59 f60 f61 pR f62 D D1 D2 fa : Addr} {od0 an0 od1 an1 od2 an2 od3 an3 od4 an4 od5 an5 od6 an6 od7 an7 od8 an8 od9 an9 od10 an10 od11 an11 od12 an12 od13 an13 od14 an14 od15 an15 od16 an16 od17 an17 od18 an18 od19 an19 od20 an20 od21 an21 od22 an22 od23 an23 od24 an24 od25 an25 od26 an26 od27 an27 od28 an28 od29 an29 od30 an30 td50 od50 an50 td53 od53 an53 od55 an55 od56 an56 od57 an57 od58 an58 od59 an59 od60 an60 od61 an61 od62 an62 odD1 odD2 : Option Addr} {sl0 sl1 sl2 sl3 sl4 sl5 sl6 sl7 sl8 sl9 sl10 sl11 sl12 sl13 sl14 sl15 sl16 sl17 sl18 sl19 sl20 sl21 sl22 sl23 sl24 sl25 sl26 sl27 sl28 sl29 sl30 ts50 sl50 ts53 sl53 sl55 sl56 sl57 sl58 sl59 sl60 sl61 sl62 slD1 slD2 : Array (Option Value)} {oc0 dc0 pm0 ct0 kV0 cd0 oc1 dc1 pm1 ct1 kV1 cd1 oc2 dc2 pm2 ct2 kV2 cd2 oc3 dc3 pm3 ct3 kV3 cd3 oc4 dc4 pm4 ct4 kV4 cd4 oc5 dc5 pm5 ct5 kV5 cd5 oc6 dc6 pm6 ct6 kV6 cd6 oc7 dc7 pm7 ct7 kV7 cd7 oc8 dc8 pm8 ct8 kV8 cd8 oc9 dc9 pm9 ct9 kV9 cd9 oc10 dc10 pm10 ct10 kV10 cd10 oc11 dc11 pm11 ct11 kV11 cd11 oc12 dc12 pm12 ct12 kV12 cd12 oc13 dc13 pm13 ct13 kV13 cd13 oc14 dc14 pm14 ct14 kV14 cd14 oc15 dc15 pm15 ct15 kV15 cd15 oc16 dc16 pm16 ct16 kV16 cd16 oc17 dc17 pm17 ct17 kV17 cd17 oc18 dc18 pm18 ct18 kV18 cd18 oc19 dc19 pm19 ct19 kV19 cd19 oc20 dc20 pm20 ct20 kV20 cd20 oc21 dc21 pm21 ct21 kV21 cd21 oc22 dc22 pm22 ct22 kV22 cd22 oc23 dc23 pm23 ct23 kV23 cd23 oc24 dc24 pm24 ct24 kV24 cd24 oc25 dc25 pm25 ct25 kV25 cd25 oc26 dc26 pm26 ct26 kV26 cd26 oc27 dc27 pm27 ct27 kV27 cd27 oc28 dc28 pm28 ct28 kV28 cd28 oc29 dc29 pm29 ct29 kV29 oc30 dc30 pm30 ct30 kV30 tc50 oc50 dc50 pm50 ct50 kV50 cd50 tc53 oc53 dc53 pm53 ct53 cd53 oc55 dc55 pm55 ct55 kV55 cd55 oc56 dc56 pm56 ct56 kV56 cd56 oc57 dc57 pm57 ct57 kV57 cd57 oc58 dc58 pm58 ct58 kV58 cd58 oc59 dc59 pm59 ct59 kV59 cd59 oc60 dc60 pm60 ct60 kV60 cd60 oc61 dc61 pm61 ct61 kV61 cd61 oc62 dc62 pm62 ct62 kV62 cd62 : Value} {restR : List Value} {tt50 tt53 tkd tW tP tT tI tL tk1 tk2 u1 u2 u3 u4 u5 u6 : Tok} {hh1 hh2 : Int} {tn50 tn53 nD nD1 nD2 : Nat} {nmCB qCB nsCB bsCB bmCB snCB subCB abCB colCB ddCB k0CB k1CB k2CB k3CB k5CB nmCN qCN nsCN bsCN bmCN snCN subCN abCN colCN ddCN k0CN k1CN k2CN k3CN k5CN nmBT qBT nsBT bsBT bmBT snBT subBT abBT colBT ddBT k0BT k1BT k2BT k3BT k5BT : _} (X : K.In h) (G : h.Ns mainGlobals mg) (hfa : mg "law" = some (.ref fa))
    (a0 : PySem.W.nsIn K mainGlobals "is_integer" = some (some (.ref f0)))
    (l0 : K.lookup f0 = some ⟨oc0, od0, .func (PySem.W.fnOf "is_integer" "is_integer" (defArgs sIsInt) (defBody sIsInt) (defScope sIsInt) .none kV0 dc0 pm0 an0 cd0 ct0), sl0⟩)
    (c0 : PySem.W.codeIn K cd0 "is_integer" = true)
    (k0 : PySem.W.keepIn K (.ref f0) = true)
    (a1 : PySem.W.nsIn K mainGlobals "is_within" = some (some (.ref f1)))
    (l1 : K.lookup f1 = some ⟨oc1, od1, .func (PySem.W.fnOf "is_within" "is_within" (defArgs sWithin) (defBody sWithin) (defScope sWithin) .none kV1 dc1 pm1 an1 cd1 ct1), sl1⟩)
    (c1 : PySem.W.codeIn K cd1 "is_within" = true)
    (k1 : PySem.W.keepIn K (.ref f1) = true)
    (a2 : PySem.W.nsIn K mainGlobals "is_pair" = some (some (.ref f2)))
    (l2 : K.lookup f2 = some ⟨oc2, od2, .func (PySem.W.fnOf "is_pair" "is_pair" (defArgs sPair) (defBody sPair) (defScope sPair) .none kV2 dc2 pm2 an2 cd2 ct2), sl2⟩)
    (c2 : PySem.W.codeIn K cd2 "is_pair" = true)
    (k2 : PySem.W.keepIn K (.ref f2) = true)
    (a3 : PySem.W.nsIn K mainGlobals "is_times" = some (some (.ref f3)))
    (l3 : K.lookup f3 = some ⟨oc3, od3, .func (PySem.W.fnOf "is_times" "is_times" (defArgs sTimes) (defBody sTimes) (defScope sTimes) .none kV3 dc3 pm3 an3 cd3 ct3), sl3⟩)
    (c3 : PySem.W.codeIn K cd3 "is_times" = true)
    (k3 : PySem.W.keepIn K (.ref f3) = true)
    (a4 : PySem.W.nsIn K mainGlobals "is_plus" = some (some (.ref f4)))
    (l4 : K.lookup f4 = some ⟨oc4, od4, .func (PySem.W.fnOf "is_plus" "is_plus" (defArgs sPlus) (defBody sPlus) (defScope sPlus) .none kV4 dc4 pm4 an4 cd4 ct4), sl4⟩)
    (c4 : PySem.W.codeIn K cd4 "is_plus" = true)
    (k4 : PySem.W.keepIn K (.ref f4) = true)
    (a5 : PySem.W.nsIn K mainGlobals "is_turn" = some (some (.ref f5)))
    (l5 : K.lookup f5 = some ⟨oc5, od5, .func (PySem.W.fnOf "is_turn" "is_turn" (defArgs sTurn) (defBody sTurn) (defScope sTurn) .none kV5 dc5 pm5 an5 cd5 ct5), sl5⟩)
    (c5 : PySem.W.codeIn K cd5 "is_turn" = true)
    (k5 : PySem.W.keepIn K (.ref f5) = true)
    (a6 : PySem.W.nsIn K mainGlobals "need_times" = some (some (.ref f6)))
    (l6 : K.lookup f6 = some ⟨oc6, od6, .func (PySem.W.fnOf "need_times" "need_times" (defArgs sNeedT) (defBody sNeedT) (defScope sNeedT) .none kV6 dc6 pm6 an6 cd6 ct6), sl6⟩)
    (c6 : PySem.W.codeIn K cd6 "need_times" = true)
    (k6 : PySem.W.keepIn K (.ref f6) = true)
    (a7 : PySem.W.nsIn K mainGlobals "has_halves" = some (some (.ref f7)))
    (l7 : K.lookup f7 = some ⟨oc7, od7, .func (PySem.W.fnOf "has_halves" "has_halves" (defArgs sHalves) (defBody sHalves) (defScope sHalves) .none kV7 dc7 pm7 an7 cd7 ct7), sl7⟩)
    (c7 : PySem.W.codeIn K cd7 "has_halves" = true)
    (k7 : PySem.W.keepIn K (.ref f7) = true)
    (a8 : PySem.W.nsIn K mainGlobals "need_halves" = some (some (.ref f8)))
    (l8 : K.lookup f8 = some ⟨oc8, od8, .func (PySem.W.fnOf "need_halves" "need_halves" (defArgs sNeedH) (defBody sNeedH) (defScope sNeedH) .none kV8 dc8 pm8 an8 cd8 ct8), sl8⟩)
    (c8 : PySem.W.codeIn K cd8 "need_halves" = true)
    (k8 : PySem.W.keepIn K (.ref f8) = true)
    (a9 : PySem.W.nsIn K mainGlobals "kept" = some (some (.ref f9)))
    (l9 : K.lookup f9 = some ⟨oc9, od9, .func (PySem.W.fnOf "kept" "kept" (defArgs sKept) (defBody sKept) (defScope sKept) .none kV9 dc9 pm9 an9 cd9 ct9), sl9⟩)
    (c9 : PySem.W.codeIn K cd9 "kept" = true)
    (k9 : PySem.W.keepIn K (.ref f9) = true)
    (a10 : PySem.W.nsIn K mainGlobals "parts_of" = some (some (.ref f10)))
    (l10 : K.lookup f10 = some ⟨oc10, od10, .func (PySem.W.fnOf "parts_of" "parts_of" (defArgs sParts) (defBody sParts) (defScope sParts) .none kV10 dc10 pm10 an10 cd10 ct10), sl10⟩)
    (c10 : PySem.W.codeIn K cd10 "parts_of" = true)
    (k10 : PySem.W.keepIn K (.ref f10) = true)
    (a11 : PySem.W.nsIn K mainGlobals "number_word" = some (some (.ref f11)))
    (l11 : K.lookup f11 = some ⟨oc11, od11, .func (PySem.W.fnOf "number_word" "number_word" (defArgs sNumW) (defBody sNumW) (defScope sNumW) .none kV11 dc11 pm11 an11 cd11 ct11), sl11⟩)
    (c11 : PySem.W.codeIn K cd11 "number_word" = true)
    (k11 : PySem.W.keepIn K (.ref f11) = true)
    (a12 : PySem.W.nsIn K mainGlobals "pair_word" = some (some (.ref f12)))
    (l12 : K.lookup f12 = some ⟨oc12, od12, .func (PySem.W.fnOf "pair_word" "pair_word" (defArgs sPairW) (defBody sPairW) (defScope sPairW) .none kV12 dc12 pm12 an12 cd12 ct12), sl12⟩)
    (c12 : PySem.W.codeIn K cd12 "pair_word" = true)
    (k12 : PySem.W.keepIn K (.ref f12) = true)
    (a13 : PySem.W.nsIn K mainGlobals "read_number" = some (some (.ref f13)))
    (l13 : K.lookup f13 = some ⟨oc13, od13, .func (PySem.W.fnOf "read_number" "read_number" (defArgs sReadN) (defBody sReadN) (defScope sReadN) .none kV13 dc13 pm13 an13 cd13 ct13), sl13⟩)
    (c13 : PySem.W.codeIn K cd13 "read_number" = true)
    (k13 : PySem.W.keepIn K (.ref f13) = true)
    (a14 : PySem.W.nsIn K mainGlobals "read_pair" = some (some (.ref f14)))
    (l14 : K.lookup f14 = some ⟨oc14, od14, .func (PySem.W.fnOf "read_pair" "read_pair" (defArgs sReadP) (defBody sReadP) (defScope sReadP) .none kV14 dc14 pm14 an14 cd14 ct14), sl14⟩)
    (c14 : PySem.W.codeIn K cd14 "read_pair" = true)
    (k14 : PySem.W.keepIn K (.ref f14) = true)
    (a15 : PySem.W.nsIn K mainGlobals "wrong_rule_word" = some (some (.ref f15)))
    (l15 : K.lookup f15 = some ⟨oc15, od15, .func (PySem.W.fnOf "wrong_rule_word" "wrong_rule_word" (defArgs sWrong) (defBody sWrong) (defScope sWrong) .none kV15 dc15 pm15 an15 cd15 ct15), sl15⟩)
    (c15 : PySem.W.codeIn K cd15 "wrong_rule_word" = true)
    (k15 : PySem.W.keepIn K (.ref f15) = true)
    (a16 : PySem.W.nsIn K mainGlobals "word_value" = some (some (.ref f16)))
    (l16 : K.lookup f16 = some ⟨oc16, od16, .func (PySem.W.fnOf "word_value" "word_value" (defArgs sWordV) (defBody sWordV) (defScope sWordV) .none kV16 dc16 pm16 an16 cd16 ct16), sl16⟩)
    (c16 : PySem.W.codeIn K cd16 "word_value" = true)
    (k16 : PySem.W.keepIn K (.ref f16) = true)
    (a17 : PySem.W.nsIn K mainGlobals "can_stand" = some (some (.ref f17)))
    (l17 : K.lookup f17 = some ⟨oc17, od17, .func (PySem.W.fnOf "can_stand" "can_stand" (defArgs sCan) (defBody sCan) (defScope sCan) .none kV17 dc17 pm17 an17 cd17 ct17), sl17⟩)
    (c17 : PySem.W.codeIn K cd17 "can_stand" = true)
    (k17 : PySem.W.keepIn K (.ref f17) = true)
    (a18 : PySem.W.nsIn K mainGlobals "_law_pen" = some (some (.ref f18)))
    (l18 : K.lookup f18 = some ⟨oc18, od18, .func (PySem.W.fnOf "_law_pen" "_law_pen" (defArgs sPen) (defBody sPen) (defScope sPen) .none kV18 dc18 pm18 an18 cd18 ct18), sl18⟩)
    (c18 : PySem.W.codeIn K cd18 "_law_pen" = true)
    (k18 : PySem.W.keepIn K (.ref f18) = true)
    (a19 : PySem.W.nsIn K mainGlobals "_law_draw" = some (some (.ref f19)))
    (l19 : K.lookup f19 = some ⟨oc19, od19, .func (PySem.W.fnOf "_law_draw" "_law_draw" (defArgs sDraw) (defBody sDraw) (defScope sDraw) .none kV19 dc19 pm19 an19 cd19 ct19), sl19⟩)
    (c19 : PySem.W.codeIn K cd19 "_law_draw" = true)
    (k19 : PySem.W.keepIn K (.ref f19) = true)
    (a20 : PySem.W.nsIn K mainGlobals "_law_pick" = some (some (.ref f20)))
    (l20 : K.lookup f20 = some ⟨oc20, od20, .func (PySem.W.fnOf "_law_pick" "_law_pick" (defArgs sPick) (defBody sPick) (defScope sPick) .none kV20 dc20 pm20 an20 cd20 ct20), sl20⟩)
    (c20 : PySem.W.codeIn K cd20 "_law_pick" = true)
    (k20 : PySem.W.keepIn K (.ref f20) = true)
    (a21 : PySem.W.nsIn K mainGlobals "_law_numbers" = some (some (.ref f21)))
    (l21 : K.lookup f21 = some ⟨oc21, od21, .func (PySem.W.fnOf "_law_numbers" "_law_numbers" (defArgs sNums) (defBody sNums) (defScope sNums) .none kV21 dc21 pm21 an21 cd21 ct21), sl21⟩)
    (c21 : PySem.W.codeIn K cd21 "_law_numbers" = true)
    (k21 : PySem.W.keepIn K (.ref f21) = true)
    (a22 : PySem.W.nsIn K mainGlobals "_law_rule" = some (some (.ref f22)))
    (l22 : K.lookup f22 = some ⟨oc22, od22, .func (PySem.W.fnOf "_law_rule" "_law_rule" (defArgs sRule) (defBody sRule) (defScope sRule) .none kV22 dc22 pm22 an22 cd22 ct22), sl22⟩)
    (c22 : PySem.W.codeIn K cd22 "_law_rule" = true)
    (k22 : PySem.W.keepIn K (.ref f22) = true)
    (a23 : PySem.W.nsIn K mainGlobals "_law_heard" = some (some (.ref f23)))
    (l23 : K.lookup f23 = some ⟨oc23, od23, .func (PySem.W.fnOf "_law_heard" "_law_heard" (defArgs sHeard) (defBody sHeard) (defScope sHeard) .none kV23 dc23 pm23 an23 cd23 ct23), sl23⟩)
    (c23 : PySem.W.codeIn K cd23 "_law_heard" = true)
    (k23 : PySem.W.keepIn K (.ref f23) = true)
    (a24 : PySem.W.nsIn K mainGlobals "_law_text" = some (some (.ref f24)))
    (l24 : K.lookup f24 = some ⟨oc24, od24, .func (PySem.W.fnOf "_law_text" "_law_text" (defArgs sLText) (defBody sLText) (defScope sLText) .none kV24 dc24 pm24 an24 cd24 ct24), sl24⟩)
    (c24 : PySem.W.codeIn K cd24 "_law_text" = true)
    (k24 : PySem.W.keepIn K (.ref f24) = true)
    (a25 : PySem.W.nsIn K mainGlobals "_law_number" = some (some (.ref f25)))
    (l25 : K.lookup f25 = some ⟨oc25, od25, .func (PySem.W.fnOf "_law_number" "_law_number" (defArgs sLNum) (defBody sLNum) (defScope sLNum) .none kV25 dc25 pm25 an25 cd25 ct25), sl25⟩)
    (c25 : PySem.W.codeIn K cd25 "_law_number" = true)
    (k25 : PySem.W.keepIn K (.ref f25) = true)
    (a26 : PySem.W.nsIn K mainGlobals "_law_pair" = some (some (.ref f26)))
    (l26 : K.lookup f26 = some ⟨oc26, od26, .func (PySem.W.fnOf "_law_pair" "_law_pair" (defArgs sLPr) (defBody sLPr) (defScope sLPr) .none kV26 dc26 pm26 an26 cd26 ct26), sl26⟩)
    (c26 : PySem.W.codeIn K cd26 "_law_pair" = true)
    (k26 : PySem.W.keepIn K (.ref f26) = true)
    (a27 : PySem.W.nsIn K mainGlobals "_law_due" = some (some (.ref f27)))
    (l27 : K.lookup f27 = some ⟨oc27, od27, .func (PySem.W.fnOf "_law_due" "_law_due" (defArgs sLDue) (defBody sLDue) (defScope sLDue) .none kV27 dc27 pm27 an27 cd27 ct27), sl27⟩)
    (c27 : PySem.W.codeIn K cd27 "_law_due" = true)
    (k27 : PySem.W.keepIn K (.ref f27) = true)
    (a28 : PySem.W.nsIn K mainGlobals "_law_bent" = some (some (.ref f28)))
    (l28 : K.lookup f28 = some ⟨oc28, od28, .func (PySem.W.fnOf "_law_bent" "_law_bent" (defArgs sBent) (defBody sBent) (defScope sBent) .none kV28 dc28 pm28 an28 cd28 ct28), sl28⟩)
    (c28 : PySem.W.codeIn K cd28 "_law_bent" = true)
    (k28 : PySem.W.keepIn K (.ref f28) = true)
    (a29 : PySem.W.nsIn K mainGlobals "_law_right" = some (some (.ref f29)))
    (l29 : K.lookup f29 = some ⟨oc29, od29, .func (PySem.W.fnOf "_law_right" "_law_right" (defArgs sRight) (defBody sRight) (defScope sRight) .none kV29 dc29 pm29 an29 (.ref cR1) ct29), sl29⟩)
    (c29 : PySem.W.codeIn K (.ref cR1) "_law_right" = true)
    (k29 : PySem.W.keepIn K (.ref f29) = true)
    (a30 : PySem.W.nsIn K mainGlobals "law" = some (some (.ref f30)))
    (l30 : K.lookup f30 = some ⟨oc30, od30, .func (PySem.W.fnOf "law" "law" (defArgs sLaw17) (defBody sLaw17) (defScope sLaw17) .none kV30 dc30 pm30 an30 (.ref cL) ct30), sl30⟩)
    (c30 : PySem.W.codeIn K (.ref cL) "law" = true)
    (k30 : PySem.W.keepIn K (.ref f30) = true)
    (aCt : PySem.W.nsIn K mainGlobals "TryRule" = some (some (.ref Ct)))
    (aCn : PySem.W.nsIn K mainGlobals "TurnRule" = some (some (.ref Cn)))
    (aCW : PySem.W.nsIn K mainGlobals "WeightRule" = some (some (.ref CW)))
    (aCB : PySem.W.nsIn K mainGlobals "BadRule" = some (some (.ref CB)))
    (aCN : PySem.W.nsIn K mainGlobals "NoHalves" = some (some (.ref CN)))
    (aBT : PySem.W.nsIn K mainGlobals "BadText" = some (some (.ref BT)))
    (aFE : PySem.W.nsIn K mainGlobals "FairError" = some (some (.ref FE)))
    (pgCt : PySem.W.plainGet K Ct Str.empty = true)
    (hdCt : PySem.W.hasDictIn K Ct = true)
    (poCt : PySem.W.plainOver K Ct = true)
    (saCt : PySem.W.findIn K (.ref Ct) "__setattr__" = some (some (.builtin "object.__setattr__")))
    (mkCt : PySem.W.makesIn K Ct = true)
    (kcCt : PySem.W.keepIn K (.ref Ct) = true)
    (n0Ct : PySem.W.findIn K (.ref Ct) "times" = some none)
    (n1Ct : PySem.W.findIn K (.ref Ct) "plus" = some none)
    (n2Ct : PySem.W.findIn K (.ref Ct) "turn" = some none)
    (n3Ct : PySem.W.findIn K (.ref Ct) "turn_plus" = some none)
    (hcCt : PySem.W.findIn K (.ref Ct) "__class__" = some (some (.builtin "object.__class__")))
    (moCt : PySem.W.mroIn K Ct (.type "object") = some true)
    (ssCt : PySem.W.subIn K (.ref Ct) (.ref Ct) = some true)
    (neCt : PySem.W.findIn K (.ref Ct) "__ne__" = some (some (.builtin "object.__ne__")))
    (pgCn : PySem.W.plainGet K Cn Str.empty = true)
    (hdCn : PySem.W.hasDictIn K Cn = true)
    (poCn : PySem.W.plainOver K Cn = true)
    (saCn : PySem.W.findIn K (.ref Cn) "__setattr__" = some (some (.builtin "object.__setattr__")))
    (mkCn : PySem.W.makesIn K Cn = true)
    (kcCn : PySem.W.keepIn K (.ref Cn) = true)
    (n0Cn : PySem.W.findIn K (.ref Cn) "times" = some none)
    (n1Cn : PySem.W.findIn K (.ref Cn) "plus" = some none)
    (n2Cn : PySem.W.findIn K (.ref Cn) "turn" = some none)
    (n3Cn : PySem.W.findIn K (.ref Cn) "turn_plus" = some none)
    (hcCn : PySem.W.findIn K (.ref Cn) "__class__" = some (some (.builtin "object.__class__")))
    (moCn : PySem.W.mroIn K Cn (.type "object") = some true)
    (ssCn : PySem.W.subIn K (.ref Cn) (.ref Cn) = some true)
    (neCn : PySem.W.findIn K (.ref Cn) "__ne__" = some (some (.builtin "object.__ne__")))
    (sTN : PySem.W.subIn K (.ref Ct) (.ref Cn) = some false)
    (sNT : PySem.W.subIn K (.ref Cn) (.ref Ct) = some false)
    (icCt : PySem.W.isClsIn K Ct = true)
    (icCn : PySem.W.isClsIn K Cn = true)
    (icCB : PySem.W.isClsIn K CB = true)
    (icCN : PySem.W.isClsIn K CN = true)
    (icBT : PySem.W.isClsIn K BT = true)
    (icFE : PySem.W.isClsIn K FE = true)
    (ttCt : PySem.W.typeIn K (.ref Ct) = some (.type "type"))
    (ttCn : PySem.W.typeIn K (.ref Cn) = some (.type "type"))
    (ttCB : PySem.W.typeIn K (.ref CB) = some (.type "type"))
    (ttCN : PySem.W.typeIn K (.ref CN) = some (.type "type"))
    (ttBT : PySem.W.typeIn K (.ref BT) = some (.type "type"))
    (ttFE : PySem.W.typeIn K (.ref FE) = some (.type "type"))
    (suBF : PySem.W.subIn K (.ref BT) (.ref FE) = some true)
    (suFX : PySem.W.subIn K (.ref FE) (.type "BaseException") = some true)
    (suBV : PySem.W.subIn K (.ref BT) (.type "ValueError") = some true)
    (hdCB : PySem.W.hasDictIn K CB = true)
    (saCB : PySem.W.findIn K (.ref CB) "__setattr__" = some (some (.builtin "object.__setattr__")))
    (exCB : PySem.W.subIn K (.ref CB) (.type "BaseException") = some true)
    (keCB : PySem.W.keepIn K (.ref CB) = true)
    (noCBpart : PySem.W.findIn K (.ref CB) "part" = some none)
    (lxCB : K.lookup CB = some (excClassObj nmCB qCB CB nsCB bsCB bmCB true snCB subCB abCB colCB ddCB k0CB k1CB k2CB k3CB k5CB "ValueError.__new__"))
    (rxCB : PySem.HandSPX.refsVE bmCB = true)
    (hdCN : PySem.W.hasDictIn K CN = true)
    (saCN : PySem.W.findIn K (.ref CN) "__setattr__" = some (some (.builtin "object.__setattr__")))
    (exCN : PySem.W.subIn K (.ref CN) (.type "BaseException") = some true)
    (keCN : PySem.W.keepIn K (.ref CN) = true)
    (noCNweight : PySem.W.findIn K (.ref CN) "weight" = some none)
    (lxCN : K.lookup CN = some (excClassObj nmCN qCN CN nsCN bsCN bmCN true snCN subCN abCN colCN ddCN k0CN k1CN k2CN k3CN k5CN "ValueError.__new__"))
    (rxCN : PySem.HandSPX.refsVE bmCN = true)
    (hdBT : PySem.W.hasDictIn K BT = true)
    (saBT : PySem.W.findIn K (.ref BT) "__setattr__" = some (some (.builtin "object.__setattr__")))
    (exBT : PySem.W.subIn K (.ref BT) (.type "BaseException") = some true)
    (keBT : PySem.W.keepIn K (.ref BT) = true)
    (noBTline : PySem.W.findIn K (.ref BT) "line" = some none)
    (noBTword : PySem.W.findIn K (.ref BT) "word" = some none)
    (lxBT : K.lookup BT = some (excClassObj nmBT qBT BT nsBT bsBT bmBT true snBT subBT abBT colBT ddBT k0BT k1BT k2BT k3BT k5BT "ValueError.__new__"))
    (rxBT : PySem.HandSPX.refsVE bmBT = true)
    (gaBT : PySem.W.findIn K (.ref BT) "__getattribute__" = some (some (.builtin "BaseException.__getattribute__")))
    (ggBT : PySem.W.findIn K (.ref BT) "__getattr__" = some none)
    (hcBT : PySem.W.findIn K (.ref BT) "__class__" = some (some (.builtin "object.__class__")))
    (moBT : PySem.W.mroIn K BT (.type "object") = some true)
    (hdcR1 : PySem.W.codeHdIn K cR1 (tabAt K cR1) = true)
    (nocR1 : K.lookup (tabAt K cR1) = none)
    (hdcL : PySem.W.codeHdIn K cL (tabAt K cL) = true)
    (nocL : K.lookup (tabAt K cL) = none)
    (neqT : (tabAt K cR1 == tabAt K cL) = false)
    (ikn : PySem.W.specialIn K (.builtin "object.__class__") "__get__" = some (some (.builtin "getset_descriptor.__get__")))
    (ikt : PySem.W.takesIn K (.builtin "object.__class__") = some true)
    (m50 : PySem.W.findIn K (.ref Ct) "__init__" = some (some (.ref f50)))
    (i50 : PySem.W.isFn K (.ref f50) = true)
    (l50 : K.lookup f50 = some ⟨oc50, od50, .func (PySem.W.fnOf "__init__" "TryRule.__init__" (defArgs sTryInit) (defBody sTryInit) (defScope sTryInit) (.ref T50) kV50 dc50 pm50 an50 cd50 ct50), sl50⟩)
    (c50 : PySem.W.codeIn K cd50 "TryRule.__init__" = true)
    (k50 : PySem.W.keepIn K (.ref f50) = true)
    (t50 : K.lookup T50 = some ⟨tc50, td50, .seq #[Value.int 0 tt50] tn50, ts50⟩)
    (m53 : PySem.W.findIn K (.ref Cn) "__init__" = some (some (.ref f53)))
    (i53 : PySem.W.isFn K (.ref f53) = true)
    (l53 : K.lookup f53 = some ⟨oc53, od53, .func (PySem.W.fnOf "__init__" "TurnRule.__init__" (defArgs sTurnInit) (defBody sTurnInit) (defScope sTurnInit) (.ref T53) (.ref KD) dc53 pm53 an53 cd53 ct53), sl53⟩)
    (c53 : PySem.W.codeIn K cd53 "TurnRule.__init__" = true)
    (k53 : PySem.W.keepIn K (.ref f53) = true)
    (t53 : K.lookup T53 = some ⟨tc53, td53, .seq #[Value.int 0 tt53] tn53, ts53⟩)
    (m55 : PySem.W.findIn K (.ref Ct) "__eq__" = some (some (.ref f55)))
    (i55 : PySem.W.isFn K (.ref f55) = true)
    (l55 : K.lookup f55 = some ⟨oc55, od55, .func (PySem.W.fnOf "__eq__" "TryRule.__eq__" (defArgs sTryEq) (defBody sTryEq) (defScope sTryEq) .none kV55 dc55 pm55 an55 cd55 ct55), sl55⟩)
    (c55 : PySem.W.codeIn K cd55 "TryRule.__eq__" = true)
    (k55 : PySem.W.keepIn K (.ref f55) = true)
    (m56 : PySem.W.findIn K (.ref Cn) "__eq__" = some (some (.ref f56)))
    (i56 : PySem.W.isFn K (.ref f56) = true)
    (l56 : K.lookup f56 = some ⟨oc56, od56, .func (PySem.W.fnOf "__eq__" "TurnRule.__eq__" (defArgs sTurnEq) (defBody sTurnEq) (defScope sTurnEq) .none kV56 dc56 pm56 an56 cd56 ct56), sl56⟩)
    (c56 : PySem.W.codeIn K cd56 "TurnRule.__eq__" = true)
    (k56 : PySem.W.keepIn K (.ref f56) = true)
    (m57 : PySem.W.findIn K (.ref CB) "__init__" = some (some (.ref f57)))
    (i57 : PySem.W.isFn K (.ref f57) = true)
    (l57 : K.lookup f57 = some ⟨oc57, od57, .func (PySem.W.fnOf "__init__" "BadRule.__init__" (defArgs sBRInit) (defBody sBRInit) (defScope sBRInit) .none kV57 dc57 pm57 an57 cd57 ct57), sl57⟩)
    (c57 : PySem.W.codeIn K cd57 "BadRule.__init__" = true)
    (k57 : PySem.W.keepIn K (.ref f57) = true)
    (m58 : PySem.W.findIn K (.ref CN) "__init__" = some (some (.ref f58)))
    (i58 : PySem.W.isFn K (.ref f58) = true)
    (l58 : K.lookup f58 = some ⟨oc58, od58, .func (PySem.W.fnOf "__init__" "NoHalves.__init__" (defArgs sNHInit) (defBody sNHInit) (defScope sNHInit) .none kV58 dc58 pm58 an58 cd58 ct58), sl58⟩)
    (c58 : PySem.W.codeIn K cd58 "NoHalves.__init__" = true)
    (k58 : PySem.W.keepIn K (.ref f58) = true)
    (m59 : PySem.W.findIn K (.ref Ct) "__str__" = some (some (.ref f59)))
    (i59 : PySem.W.isFn K (.ref f59) = true)
    (l59 : K.lookup f59 = some ⟨oc59, od59, .func (PySem.W.fnOf "__str__" "TryRule.__str__" (defArgs sTryStr) (defBody sTryStr) (defScope sTryStr) .none kV59 dc59 pm59 an59 cd59 ct59), sl59⟩)
    (c59 : PySem.W.codeIn K cd59 "TryRule.__str__" = true)
    (k59 : PySem.W.keepIn K (.ref f59) = true)
    (m60 : PySem.W.findIn K (.ref Cn) "__str__" = some (some (.ref f60)))
    (i60 : PySem.W.isFn K (.ref f60) = true)
    (l60 : K.lookup f60 = some ⟨oc60, od60, .func (PySem.W.fnOf "__str__" "TurnRule.__str__" (defArgs sTurnStr) (defBody sTurnStr) (defScope sTurnStr) .none kV60 dc60 pm60 an60 cd60 ct60), sl60⟩)
    (c60 : PySem.W.codeIn K cd60 "TurnRule.__str__" = true)
    (k60 : PySem.W.keepIn K (.ref f60) = true)
    (m61 : PySem.W.findIn K (.ref BT) "__init__" = some (some (.ref f61)))
    (i61 : PySem.W.isFn K (.ref f61) = true)
    (l61 : K.lookup f61 = some ⟨oc61, od61, .func (PySem.W.fnOf "__init__" "BadText.__init__" (defArgs sBText) (defBody sBText) (defScope sBText) .none kV61 dc61 pm61 an61 cd61 ct61), sl61⟩)
    (c61 : PySem.W.codeIn K cd61 "BadText.__init__" = true)
    (k61 : PySem.W.keepIn K (.ref f61) = true)
    (kd53 : PySem.W.nsIn K KD "turn_plus" = some (some (.int 0 tkd)))
    (ty57 : PySem.W.typeIn K (.ref f57) = some (.type "function"))
    (ty58 : PySem.W.typeIn K (.ref f58) = some (.type "function"))
    (ty61 : PySem.W.typeIn K (.ref f61) = some (.type "function"))
    (rdCW : PySem.W.readsIn K CW (.type "type") = true)
    (gtCW : PySem.W.specialIn K (.ref CW) "__getattribute__" = some (some (.builtin "type.__getattribute__")))
    (rdCt : PySem.W.readsIn K Ct (.type "type") = true)
    (gtCt : PySem.W.specialIn K (.ref Ct) "__getattribute__" = some (some (.builtin "type.__getattribute__")))
    (fcCW : PySem.W.findCls K (.ref CW) (.type "type") "read" = some (.get (.builtin "staticmethod.__get__") (.ref pR) .none (.ref CW)))
    (fcCt : PySem.W.findCls K (.ref Ct) (.type "type") "read" = some (.get (.builtin "staticmethod.__get__") (.ref pR) .none (.ref Ct)))
    (rcR : PySem.W.recIn K pR "staticmethod" = some (.ref f62 :: restR))
    (l62 : K.lookup f62 = some ⟨oc62, od62, .func (PySem.W.fnOf "read" "WeightRule.read" (defArgs sRead) (defBody sRead) (defScope sRead) .none kV62 dc62 pm62 an62 cd62 ct62), sl62⟩)
    (c62 : PySem.W.codeIn K cd62 "WeightRule.read" = true)
    (k62 : PySem.W.keepIn K (.ref f62) = true)
    (cvW : PySem.W.findCls K (.ref CW) (.type "type") "MOST" = some (.val (.int 6 tW)))
    (hgP : PySem.W.nsIn K mainGlobals "MOST_PLUS" = some (some (.int 6 tP)))
    (hgT : PySem.W.nsIn K mainGlobals "MOST_TURN" = some (some (.int 8 tT)))
    (hgI : PySem.W.nsIn K mainGlobals "PIECE" = some (some (.int 10000000000000000000000000000000000000000000000000000000000000000 tI)))
    (hgL : PySem.W.nsIn K mainGlobals "PIECE_LENGTH" = some (some (.int 64 tL)))
    (aD : PySem.W.nsIn K mainGlobals "WORDS" = some (some (.ref D)))
    (lD : K.lookup D = some ⟨.type "dict", none, .dict #[⟨hh1, .str "turn" tk1, .ref D1⟩, ⟨hh2, .str "try" tk2, .ref D2⟩] nD, #[]⟩)
    (hk1 : hh1 = PyData.keyHash w.params "turn")
    (hk2 : hh2 = PyData.keyHash w.params "try")
    (lowD : (D == sysModules) = false)
    (lD1 : K.lookup D1 = some ⟨.type "tuple", odD1, .seq #[.str "times" u1, .str "plus" u2, .str "turn" u3, .str "plus" u4] nD1, slD1⟩)
    (lD2 : K.lookup D2 = some ⟨.type "tuple", odD2, .seq #[.str "times" u5, .str "plus" u6] nD2, slD2⟩)
    (zint : PySem.W.nsIn K mainGlobals "int" = some none)
    (zlen : PySem.W.nsIn K mainGlobals "len" = some none)
    (zabs : PySem.W.nsIn K mainGlobals "abs" = some none)
    (zlist : PySem.W.nsIn K mainGlobals "list" = some none)
    (zmin : PySem.W.nsIn K mainGlobals "min" = some none)
    (zmax : PySem.W.nsIn K mainGlobals "max" = some none)
    (zisinstance : PySem.W.nsIn K mainGlobals "isinstance" = some none)
    (zbool : PySem.W.nsIn K mainGlobals "bool" = some none)
    (ztuple : PySem.W.nsIn K mainGlobals "tuple" = some none)
    (zall : PySem.W.nsIn K mainGlobals "all" = some none)
    (zrange : PySem.W.nsIn K mainGlobals "range" = some none)
    (zrepr : PySem.W.nsIn K mainGlobals "repr" = some none)
    (zany : PySem.W.nsIn K mainGlobals "any" = some none)
    (zdict : PySem.W.nsIn K mainGlobals "dict" = some none)
    (zValueError : PySem.W.nsIn K mainGlobals "ValueError" = some none)
    (zstr : PySem.W.nsIn K mainGlobals "str" = some none)
    (zenumerate : PySem.W.nsIn K mainGlobals "enumerate" = some none) :
    ∃ (fd fdr fds : FuncData) (sp : Sp) (fr c T fs c2 T2 : Addr) (o o2 : Obj), (∀ (s : Shared) (u : Value), BindsTo s fd ⟨[u], []⟩ [("_law_script", u)]) ∧
      (mg "_law_right" = some (.ref fr) ∧ K.lookup fr = some o ∧ o.data = .func fdr ∧ fdr.code = .ref c ∧ PySem.W.codeHdIn K c T = true ∧ K.lookup T = none) ∧
      (mg "law" = some (.ref fs) ∧ K.lookup fs = some o2 ∧ o2.data = .func fds ∧ fds.code = .ref c2 ∧ PySem.W.codeHdIn K c2 T2 = true ∧ K.lookup T2 = none) ∧ T ≠ T2 ∧
      (∀ (H : Hp) (a : Addr) (ns : List Int), ns.length ≤ 63 → H T = some (.tbl #[]) → H T2 = some (.tbl #[]) → SqL K H a (ns.map V.int) → sp [.ref a] H (fun v _ => v = .bl true) fun _ _ _ => False) ∧
      ∀ base : Heap, K.In base → base.Ns mainGlobals mg → TabB base mg c T → TabB base mg c2 T2 → FnG l.prog w K mg base 12 fa fd ["_law_script"] sp := by
  have e := hfa.symm.trans (PySem.W.mg_of X G a30)
  cases e
  have F0 := fun_mk (st := sIsInt) l0 c0 k0
  have b0 := F0.binds (ps := ["value"]) fun _ _ _ _ _ _ us hl => match us, hl with | [_], _ => rfl
  have F1 := fun_mk (st := sWithin) l1 c1 k1
  have b1 := F1.binds (ps := ["value", "least", "most"]) fun _ _ _ _ _ _ us hl => match us, hl with | [_, _, _], _ => rfl
  have F2 := fun_mk (st := sPair) l2 c2 k2
  have b2 := F2.binds (ps := ["value", "most"]) fun _ _ _ _ _ _ us hl => match us, hl with | [_, _], _ => rfl
  have F3 := fun_mk (st := sTimes) l3 c3 k3
  have b3 := F3.binds (ps := ["value"]) fun _ _ _ _ _ _ us hl => match us, hl with | [_], _ => rfl
  have F4 := fun_mk (st := sPlus) l4 c4 k4
  have b4 := F4.binds (ps := ["value"]) fun _ _ _ _ _ _ us hl => match us, hl with | [_], _ => rfl
  have F5 := fun_mk (st := sTurn) l5 c5 k5
  have b5 := F5.binds (ps := ["value"]) fun _ _ _ _ _ _ us hl => match us, hl with | [_], _ => rfl
  have F6 := fun_mk (st := sNeedT) l6 c6 k6
  have b6 := F6.binds (ps := ["times", "plus"]) fun _ _ _ _ _ _ us hl => match us, hl with | [_, _], _ => rfl
  have F7 := fun_mk (st := sHalves) l7 c7 k7
  have b7 := F7.binds (ps := ["times", "plus"]) fun _ _ _ _ _ _ us hl => match us, hl with | [_, _], _ => rfl
  have F8 := fun_mk (st := sNeedH) l8 c8 k8
  have b8 := F8.binds (ps := ["times", "plus"]) fun _ _ _ _ _ _ us hl => match us, hl with | [_, _], _ => rfl
  have F9 := fun_mk (st := sKept) l9 c9 k9
  have b9 := F9.binds (ps := ["value"]) fun _ _ _ _ _ _ us hl => match us, hl with | [_], _ => rfl
  have F10 := fun_mk (st := sParts) l10 c10 k10
  have b10 := F10.binds (ps := ["value"]) fun _ _ _ _ _ _ us hl => match us, hl with | [_], _ => rfl
  have F11 := fun_mk (st := sNumW) l11 c11 k11
  have b11 := F11.binds (ps := ["number"]) fun _ _ _ _ _ _ us hl => match us, hl with | [_], _ => rfl
  have F12 := fun_mk (st := sPairW) l12 c12 k12
  have b12 := F12.binds (ps := ["pair"]) fun _ _ _ _ _ _ us hl => match us, hl with | [_], _ => rfl
  have F13 := fun_mk (st := sReadN) l13 c13 k13
  have b13 := F13.binds (ps := ["word"]) fun _ _ _ _ _ _ us hl => match us, hl with | [_], _ => rfl
  have F14 := fun_mk (st := sReadP) l14 c14 k14
  have b14 := F14.binds (ps := ["word"]) fun _ _ _ _ _ _ us hl => match us, hl with | [_], _ => rfl
  have F15 := fun_mk (st := sWrong) l15 c15 k15
  have b15 := F15.binds (ps := ["words"]) fun _ _ _ _ _ _ us hl => match us, hl with | [_], _ => rfl
  have F16 := fun_mk (st := sWordV) l16 c16 k16
  have b16 := F16.binds (ps := ["word"]) fun _ _ _ _ _ _ us hl => match us, hl with | [_], _ => rfl
  have F17 := fun_mk (st := sCan) l17 c17 k17
  have b17 := F17.binds (ps := ["kind", "value"]) fun _ _ _ _ _ _ us hl => match us, hl with | [_, _], _ => rfl
  have F18 := fun_mk (st := sPen) l18 c18 k18
  have b18 := F18.binds (ps := ["_law_script"]) fun _ _ _ _ _ _ us hl => match us, hl with | [_], _ => rfl
  have F19 := fun_mk (st := sDraw) l19 c19 k19
  have b19 := F19.binds (ps := ["_law_pen_here", "_law_many"]) fun _ _ _ _ _ _ us hl => match us, hl with | [_, _], _ => rfl
  have F20 := fun_mk (st := sPick) l20 c20 k20
  have b20 := F20.binds (ps := ["_law_pen_here", "_law_some"]) fun _ _ _ _ _ _ us hl => match us, hl with | [_, _], _ => rfl
  have F21 := fun_mk (st := sNums) l21 c21 k21
  have b21 := F21.binds (ps := ["_law_pen_here"]) fun _ _ _ _ _ _ us hl => match us, hl with | [_], _ => rfl
  have F22 := fun_mk (st := sRule) l22 c22 k22
  have b22 := F22.binds (ps := ["_law_some"]) fun _ _ _ _ _ _ us hl => match us, hl with | [_], _ => rfl
  have F23 := fun_mk (st := sHeard) l23 c23 k23
  have b23 := F23.binds (ps := ["_law_ask"]) fun _ _ _ _ _ _ us hl => match us, hl with | [_], _ => rfl
  have F24 := fun_mk (st := sLText) l24 c24 k24
  have b24 := F24.binds (ps := ["_law_some"]) fun _ _ _ _ _ _ us hl => match us, hl with | [_], _ => rfl
  have F25 := fun_mk (st := sLNum) l25 c25 k25
  have b25 := F25.binds (ps := ["_law_word", "_law_least", "_law_most"]) fun _ _ _ _ _ _ us hl => match us, hl with | [_, _, _], _ => rfl
  have F26 := fun_mk (st := sLPr) l26 c26 k26
  have b26 := F26.binds (ps := ["_law_word", "_law_most"]) fun _ _ _ _ _ _ us hl => match us, hl with | [_, _], _ => rfl
  have F27 := fun_mk (st := sLDue) l27 c27 k27
  have b27 := F27.binds (ps := ["_law_text_so"]) fun _ _ _ _ _ _ us hl => match us, hl with | [_], _ => rfl
  have F28 := fun_mk (st := sBent) l28 c28 k28
  have b28 := F28.binds (ps := ["_law_pen_here", "_law_text_so"]) fun _ _ _ _ _ _ us hl => match us, hl with | [_, _], _ => rfl
  have F29 := fun_mk (st := sRight) l29 c29 k29
  have b29 := F29.binds (ps := ["_law_text_so"]) fun _ _ _ _ _ _ us hl => match us, hl with | [_], _ => rfl
  have F30 := fun_mk (st := sLaw17) l30 c30 k30
  have b30 := F30.binds (ps := ["_law_script"]) fun _ _ _ _ _ _ us hl => match us, hl with | [_], _ => rfl
  have F55 := fun_mk (st := sTryEq) l55 c55 k55
  have b55 := F55.binds (ps := ["self", "other"]) fun _ _ _ _ _ _ us hl => match us, hl with | [_, _], _ => rfl
  have F56 := fun_mk (st := sTurnEq) l56 c56 k56
  have b56 := F56.binds (ps := ["self", "other"]) fun _ _ _ _ _ _ us hl => match us, hl with | [_, _], _ => rfl
  have F57 := fun_mk (st := sBRInit) l57 c57 k57
  have b57 := F57.binds (ps := ["self", "part"]) fun _ _ _ _ _ _ us hl => match us, hl with | [_, _], _ => rfl
  have F58 := fun_mk (st := sNHInit) l58 c58 k58
  have b58 := F58.binds (ps := ["self", "weight"]) fun _ _ _ _ _ _ us hl => match us, hl with | [_, _], _ => rfl
  have F59 := fun_mk (st := sTryStr) l59 c59 k59
  have b59 := F59.binds (ps := ["self"]) fun _ _ _ _ _ _ us hl => match us, hl with | [_], _ => rfl
  have F60 := fun_mk (st := sTurnStr) l60 c60 k60
  have b60 := F60.binds (ps := ["self"]) fun _ _ _ _ _ _ us hl => match us, hl with | [_], _ => rfl
  have F61 := fun_mk (st := sBText) l61 c61 k61
  have b61 := F61.binds (ps := ["self", "line", "word"]) fun _ _ _ _ _ _ us hl => match us, hl with | [_, _, _], _ => rfl
  have F62 := fun_mk (st := sRead) l62 c62 k62
  have b62 := F62.binds (ps := ["text"]) fun _ _ _ _ _ _ us hl => match us, hl with | [_], _ => rfl
  have T : Blt mg := ⟨PySem.W.mg_none_of X G zint, PySem.W.mg_none_of X G zlen, PySem.W.mg_none_of X G zabs, PySem.W.mg_none_of X G zlist, PySem.W.mg_none_of X G zmin, PySem.W.mg_none_of X G zmax, PySem.W.mg_none_of X G zisinstance, PySem.W.mg_none_of X G zbool, PySem.W.mg_none_of X G ztuple, PySem.W.mg_none_of X G zall, PySem.W.mg_none_of X G zrange, PySem.W.mg_none_of X G zrepr⟩
  have RT : RCls K Ct := ⟨⟨pgCt, hdCt, poCt, saCt⟩, n0Ct, n1Ct, n2Ct, n3Ct⟩
  have RN : RCls K Cn := ⟨⟨pgCn, hdCn, poCn, saCn⟩, n0Cn, n1Cn, n2Cn, n3Cn⟩
  have IT : InsT K Ct := ⟨hcCt, ikn, ikt, moCt, icCt, ttCt⟩
  have IN : InsT K Cn := ⟨hcCn, ikn, ikt, moCn, icCn, ttCn⟩
  have R2 : RTwo K Ct Cn := ⟨RT, RN, IT, IN, kit_not icCn ttCn sTN ssCn, kit_not icCt ttCt sNT ssCt, sTN, sNT⟩
  have WD : WDict K w mg D D1 D2 := ⟨PySem.W.mg_of X G aD, ⟨_, _, ⟨lD, ⟨⟨_, _, rfl, hk1⟩, ⟨_, _, rfl, hk2⟩, trivial⟩, lowD⟩⟩, fun z => wd_look lD z, fun _ => sqT_K lD1 (by decide) (.cons ⟨_, rfl⟩ (.cons ⟨_, rfl⟩ (.cons ⟨_, rfl⟩ (.cons ⟨_, rfl⟩ .nil)))), fun _ => sqT_K lD2 (by decide) (.cons ⟨_, rfl⟩ (.cons ⟨_, rfl⟩ .nil))⟩
  have D50 : FunD K "__init__" "TryRule.__init__" (defArgs sTryInit) (defBody sTryInit) (defScope sTryInit) [.int 0] [] f50 _ := ⟨⟨_, _, _, _, _, _, _, _, _, _, rfl, l50, c50, .inr ⟨by simp, T50, _, [Value.int 0 tt50], tn50, rfl, t50, rfl, .cons ⟨_, rfl⟩ .nil⟩, .inl rfl⟩, k50⟩
  have D53 : FunD K "__init__" "TurnRule.__init__" (defArgs sTurnInit) (defBody sTurnInit) (defScope sTurnInit) [.int 0] [("turn_plus", .int 0)] f53 _ := ⟨⟨_, _, _, _, _, _, _, _, _, _, rfl, l53, c53, .inr ⟨by simp, T53, _, [Value.int 0 tt53], tn53, rfl, t53, rfl, .cons ⟨_, rfl⟩ .nil⟩, .inr ⟨KD, rfl, fun z hz => by rw [List.mem_singleton.mp hz]; exact ⟨_, kd53, ⟨_, rfl⟩⟩⟩⟩, k53⟩
  obtain ⟨ds50, v50, b50⟩ := FunD.binds1 (ps := ["self", "times", "plus"]) D50 3 1 (by simp) rfl (fun _ _ _ _ _ _ _ us its h1 h2 => match us, its, h1, h2 with | [_, _, _], [_], _, _ => ⟨_, rfl, rfl⟩)
  cases v50
  obtain ⟨its53, b53⟩ := FunD.kbindsD (ps := ["self", "times", "plus", "turn", "turn_plus"]) D53 3 ["turn", "turn_plus"] (fun us _ ws => us ++ ws) (by simp) (fun r1 _ r2 => r1.append r2)
    (fun _ _ _ _ _ _ _ us its ws h1 h2 h3 => match us, its, ws, h1, h2, h3 with | [_, _, _], [_], [_, _], _, _, _ => ⟨_, rfl, rfl⟩)
  have TT : tabAt K cR1 ≠ tabAt K cL := fun e => by rw [e] at neqT; simp at neqT
  refine ⟨PySem.W.fnOf "law" "law" (defArgs sLaw17) (defBody sLaw17) (defScope sLaw17) .none kV30 dc30 pm30 an30 (.ref cL) ct30, PySem.W.fnOf "_law_right" "_law_right" (defArgs sRight) (defBody sRight) (defScope sRight) .none kV29 dc29 pm29 an29 (.ref cR1) ct29, PySem.W.fnOf "law" "law" (defArgs sLaw17) (defBody sLaw17) (defScope sLaw17) .none kV30 dc30 pm30 an30 (.ref cL) ct30, spLaw K (tabAt K cR1) (tabAt K cL), f29, cR1, tabAt K cR1, f30, cL, tabAt K cL, _, _, fun s v => .of_eq rfl, ⟨PySem.W.mg_of X G a29, l29, rfl, rfl, hdcR1, nocR1⟩, ⟨PySem.W.mg_of X G a30, l30, rfl, rfl, hdcL, nocL⟩, TT, fun H a ns hl hT hT2 hS => ⟨a, ns, rfl, hS, hl, hT, hT2, fun _ => rfl⟩, fun base _ _ TB TB2 => ?_⟩
  have d0 : Df l.prog w K mg base 1 "is_integer" ["value"] _ := ⟨f0, _, ok_isInt F0 T, PySem.W.mg_of X G a0, F0.kp, b0⟩
  have d1 : Df l.prog w K mg base 2 "is_within" ["value", "least", "most"] _ := ⟨f1, _, ok_within F1 d0, PySem.W.mg_of X G a1, F1.kp, b1⟩
  have d2 : Df l.prog w K mg base 3 "is_pair" ["value", "most"] _ := ⟨f2, _, ok_pair F2 T d1, PySem.W.mg_of X G a2, F2.kp, b2⟩
  have d3 : Df l.prog w K mg base 4 "is_times" ["value"] _ := ⟨f3, _, ok_times F3 d2 (PySem.W.mg_of X G aCW) ⟨rdCW, gtCW⟩ ⟨cvW, ⟨_, rfl⟩⟩, PySem.W.mg_of X G a3, F3.kp, b3⟩
  have d4 : Df l.prog w K mg base 3 "is_plus" ["value"] _ := ⟨f4, _, ok_plus F4 d1 (PySem.W.mg_of X G hgP), PySem.W.mg_of X G a4, F4.kp, b4⟩
  have d5 : Df l.prog w K mg base 4 "is_turn" ["value"] _ := ⟨f5, _, ok_turn F5 d2 (PySem.W.mg_of X G hgT), PySem.W.mg_of X G a5, F5.kp, b5⟩
  have d10 : Df l.prog w K mg base 1 "parts_of" ["value"] _ := ⟨f10, _, ok_parts F10 T (PySem.W.mg_none_of X G zdict), PySem.W.mg_of X G a10, F10.kp, b10⟩
  have d9 : Df l.prog w K mg base 2 "kept" ["value"] _ := ⟨f9, _, ok_kept F9 T (PySem.W.mg_none_of X G zdict) (PySem.W.mg_none_of X G zany) d10, PySem.W.mg_of X G a9, F9.kp, b9⟩
  have oB : OexC K CB := ⟨⟨_, _, _, _, _, _, _, _, _, _, _, _, _, _, _, lxCB, rxCB⟩, saCB, exCB, ttCB, keCB⟩
  have oN : OexC K CN := ⟨⟨_, _, _, _, _, _, _, _, _, _, _, _, _, _, _, lxCN, rxCN⟩, saCN, exCN, ttCN, keCN⟩
  have oT : OexC K BT := ⟨⟨_, _, _, _, _, _, _, _, _, _, _, _, _, _, _, lxBT, rxBT⟩, saBT, exBT, ttBT, keBT⟩
  have G57 := ok_br (P := l.prog) (w := w) (mg := mg) (base := base) F57 oB noCBpart d9
  have G58 := ok_nh (P := l.prog) (w := w) (mg := mg) (base := base) F58 oN noCNweight d9
  have G61 := ok_bText (P := l.prog) (w := w) (mg := mg) (base := base) F61 oT noBTline noBTword d9
  have EB : ErrC l.prog w K mg base "BadRule" "part" CB := ⟨oB, PySem.W.mg_of X G aCB, _, _, m57, ty57, G57, b57⟩
  have EN : ErrC l.prog w K mg base "NoHalves" "weight" CN := ⟨oN, PySem.W.mg_of X G aCN, _, _, m58, ty58, G58, b58⟩
  have BX : BTx l.prog w K mg base BT := ⟨oT, PySem.W.mg_of X G aBT, ⟨f61, _, m61, ty61, G61, b61⟩⟩
  have d7 : Df l.prog w K mg base 1 "has_halves" ["times", "plus"] _ := ⟨f7, _, ok_halves F7, PySem.W.mg_of X G a7, F7.kp, b7⟩
  have d6 : DfX l.prog w K mg base 5 "need_times" ["times", "plus"] _ := ⟨f6, _, ok_needT F6 d3 d4 EB, PySem.W.mg_of X G a6, F6.kp, b6⟩
  have d8 : DfX l.prog w K mg base 5 "need_halves" ["times", "plus"] _ := ⟨f8, _, ok_needH F8 d7 EN, PySem.W.mg_of X G a8, F8.kp, b8⟩
  have d11 : Df l.prog w K mg base 1 "number_word" ["number"] _ := ⟨f11, _, ok_numW F11 (PySem.W.mg_none_of X G zstr) (PySem.W.mg_of X G hgI), PySem.W.mg_of X G a11, F11.kp, b11⟩
  have d12 : Df l.prog w K mg base 2 "pair_word" ["pair"] _ := ⟨f12, _, ok_pairW F12 d11, PySem.W.mg_of X G a12, F12.kp, b12⟩
  have d13 : Df l.prog w K mg base 1 "read_number" ["word"] _ := ⟨f13, _, ok_readN F13 T (PySem.W.mg_of X G hgL) (PySem.W.mg_of X G hgI), PySem.W.mg_of X G a13, F13.kp, b13⟩
  have d14 : Df l.prog w K mg base 2 "read_pair" ["word"] _ := ⟨f14, _, ok_readP F14 T d13, PySem.W.mg_of X G a14, F14.kp, b14⟩
  have d16 : Df l.prog w K mg base 3 "word_value" ["word"] _ := ⟨f16, _, ok_wordV F16 d13 d14, PySem.W.mg_of X G a16, F16.kp, b16⟩
  have d17 : Df l.prog w K mg base 5 "can_stand" ["kind", "value"] _ := ⟨f17, _, ok_can F17 d3 d5 d4, PySem.W.mg_of X G a17, F17.kp, b17⟩
  have d15 : Df l.prog w K mg base 6 "wrong_rule_word" ["words"] _ := ⟨f15, _, ok_wrong F15 T (PySem.W.mg_none_of X G zenumerate) WD d16 d17 d7, PySem.W.mg_of X G a15, F15.kp, b15⟩
  have GT0 := ok_tryInit (P := l.prog) (w := w) (mg := mg) (base := base) D50 RT d6 d8
  have GN0 := ok_turnInit (P := l.prog) (w := w) (mg := mg) (base := base) D53 RN d6 d8 d5 d4 EB
  have MTT : Mk K Ct f50 := ⟨mkCt, m50, i50, kcCt⟩
  have MTN : Mk K Cn f53 := ⟨mkCn, m53, i53, kcCn⟩
  have GE1 := ok_tryEq (P := l.prog) (w := w) (mg := mg) (base := base) F55 T R2 (PySem.W.mg_of X G aCt)
  have GE2 := ok_turnEq (P := l.prog) (w := w) (mg := mg) (base := base) F56 T R2 (PySem.W.mg_of X G aCn)
  have RE : REq l.prog w K mg base Ct Cn := ⟨R2, ⟨f55, fnr_of GE1 b55, m55, i55⟩, ⟨f56, fnr_of GE2 b56, m56, i56⟩, neCt, neCn⟩
  have GS1 := ok_tryStr (P := l.prog) (w := w) (mg := mg) (base := base) F59 R2 d12
  have GS2 := ok_turnStr (P := l.prog) (w := w) (mg := mg) (base := base) F60 R2 d12
  have RS : RStr l.prog w K mg base Ct Cn := ⟨⟨f59, fnr_of GS1 b59, m59, i59⟩, ⟨f60, fnr_of GS2 b60, m60, i60⟩⟩
  have GRd := ok_read (P := l.prog) (w := w) (mg := mg) (base := base) F62 T (PySem.W.mg_none_of X G zstr) (PySem.W.mg_of X G aCt) (PySem.W.mg_of X G aCn) MTT MTN GT0 b50 GN0 b53 d15 d16 BX
  have RB : RdB l.prog w K mg base Ct Cn BT CW := ⟨PySem.W.mg_of X G aCW, _, pR, f62, _, _, ⟨rdCW, gtCW⟩, ⟨fcCW, ⟨_, rcR⟩, k62⟩, GRd, b62, kb_one F62 (fun _ _ _ _ _ _ _ => rfl)⟩
  have RC : ∃ (mc : Value) (p fR : Addr), ClX.CRead K Ct mc ∧ ClX.SMet K Ct mc "read" p fR ∧ FnR l.prog w K mg base (L2.CX l.prog w) 8 fR (spRead K Ct Cn BT) := ⟨_, pR, f62, ⟨rdCt, gtCt⟩, ⟨fcCt, ⟨_, rcR⟩, k62⟩, fnr_of GRd b62⟩
  have d18 : Df l.prog w K mg base 1 "_law_pen" ["_law_script"] _ := ⟨f18, _, ok_pen F18 T, PySem.W.mg_of X G a18, F18.kp, b18⟩
  have d19 : Df l.prog w K mg base 1 "_law_draw" ["_law_pen_here", "_law_many"] _ := ⟨f19, _, ok_draw F19 T, PySem.W.mg_of X G a19, F19.kp, b19⟩
  have d20 : Df l.prog w K mg base 2 "_law_pick" ["_law_pen_here", "_law_some"] _ := ⟨f20, _, ok_pick F20 T d19, PySem.W.mg_of X G a20, F20.kp, b20⟩
  have d21 : Df l.prog w K mg base 3 "_law_numbers" ["_law_pen_here"] _ := ⟨f21, _, ok_nums F21 T d19 d20, PySem.W.mg_of X G a21, F21.kp, b21⟩
  have d22 : DfX l.prog w K mg base 8 "_law_rule" ["_law_some"] _ := ⟨f22, _, ok_rule F22 T (PySem.W.mg_of X G aCt) (PySem.W.mg_of X G aCn) MTT MTN GT0 b50 GN0 b53, PySem.W.mg_of X G a22, F22.kp, b22⟩
  have d24 : Df l.prog w K mg base 1 "_law_text" ["_law_some"] _ := ⟨f24, _, ok_ltext F24 T (PySem.W.mg_none_of X G zstr), PySem.W.mg_of X G a24, F24.kp, b24⟩
  have d25 : Df l.prog w K mg base 1 "_law_number" ["_law_word", "_law_least", "_law_most"] _ := ⟨f25, _, ok_lnum F25 T (PySem.W.mg_none_of X G zstr), PySem.W.mg_of X G a25, F25.kp, b25⟩
  have d26 : Df l.prog w K mg base 2 "_law_pair" ["_law_word", "_law_most"] _ := ⟨f26, _, ok_lpr F26 T d25, PySem.W.mg_of X G a26, F26.kp, b26⟩
  have d28 : Df l.prog w K mg base 3 "_law_bent" ["_law_pen_here", "_law_text_so"] _ := ⟨f28, _, ok_bent F28 T d19 d20, PySem.W.mg_of X G a28, F28.kp, b28⟩
  have GDu := ok_ldue (P := l.prog) (w := w) (mg := mg) (base := base) F27 T (PySem.W.mg_none_of X G zrepr) d25 d26
  have HB : HeldC K BT := ⟨icBT, gaBT, ggBT, exBT, hdBT, hcBT, ikn, ikt, moBT⟩
  have HH : HeardB l.prog w K mg BT FE f23 _ := ⟨F23, PySem.W.mg_of X G a23, b23, PySem.W.mg_none_of X G zValueError, PySem.W.mg_none_of X G zrepr, PySem.W.mg_of X G aFE, PySem.W.mg_of X G aBT, HB, noBTline, noBTword, exm_own icFE ttFE suBF suFX, kit_bty suBV⟩
  have GRi := ok_right (P := l.prog) (w := w) (mg := mg) (base := base) (TT := tabAt K cR1) (TL := [(tabAt K cR1, (envOfC "_law_right" (defScope sRight) 0 f29 (.ref cR1)).qual ++ ("<lambda>" : Str)), (tabAt K cL, (envOfC "law" (defScope sLaw17) 0 f30 (.ref cL)).qual ++ ("<lambda>" : Str))]) F29 T (PySem.W.mg_none_of X G zstr) rfl TB (List.mem_cons_self ..)
    (fun p hp e => by
      rcases List.mem_cons.mp hp with rfl | hp
      · rfl
      · rw [List.mem_singleton.mp hp] at e
        exact absurd e.symm TT) rfl HH RB RE RS GDu (PySem.W.mg_of X G a27) F27.kp b27 d22
  exact ok_law F30 T (PySem.W.mg_none_of X G zstr) rfl TB2 TT rfl HH RB RE RS RC d18 d19 d20 d21 d22 d24 d28 GDu (PySem.W.mg_of X G a27) F27.kp b27 GRi (PySem.W.mg_of X G a29) F29.kp b29 (PySem.W.mg_of X G aCt) (PySem.W.mg_of X G aCn) MTT GT0 b50
end Ev
open PySem PySem.W PyProof.Rows
set_option maxRecDepth 100000 in
set_option maxHeartbeats 0 in
theorem PySem.Challenge.cw_evenrules_k17_rules_written_and_read_holds : PySem.Challenge.rw_evenrules_k17_rules_written_and_read.Holds := by
  exact hd (by
    k_fill
    refine Ev.walk_ofGTK2 (l := PySem.Challenge.rw_evenrules_k17_rules_written_and_read) (n := 63) (k := 12) (x := "_law_script") (xr := "_law_right") (xs := "law") rfl (by decide) rfl ⟨rfl, by decide, by decide⟩ (by kernel_rfl) (by kernel_rfl) (fun w h Y => PySem.W.km_in_of Y) ?F
    case F =>
      intro w mg fa h KX G hmg
      refine' Ev.all_mk KX G hmg ?a0 ?l0 ?c0 ?k0 ?a1 ?l1 ?c1 ?k1 ?a2 ?l2 ?c2 ?k2 ?a3 ?l3 ?c3 ?k3 ?a4 ?l4 ?c4 ?k4 ?a5 ?l5 ?c5 ?k5 ?a6 ?l6 ?c6 ?k6 ?a7 ?l7 ?c7 ?k7 ?a8 ?l8 ?c8 ?k8 ?a9 ?l9 ?c9 ?k9 ?a10 ?l10 ?c10 ?k10 ?a11 ?l11 ?c11 ?k11 ?a12 ?l12 ?c12 ?k12 ?a13 ?l13 ?c13 ?k13 ?a14 ?l14 ?c14 ?k14 ?a15 ?l15 ?c15 ?k15 ?a16 ?l16 ?c16 ?k16 ?a17 ?l17 ?c17 ?k17 ?a18 ?l18 ?c18 ?k18 ?a19 ?l19 ?c19 ?k19 ?a20 ?l20 ?c20 ?k20 ?a21 ?l21 ?c21 ?k21 ?a22 ?l22 ?c22 ?k22 ?a23 ?l23 ?c23 ?k23 ?a24 ?l24 ?c24 ?k24 ?a25 ?l25 ?c25 ?k25 ?a26 ?l26 ?c26 ?k26 ?a27 ?l27 ?c27 ?k27 ?a28 ?l28 ?c28 ?k28 ?a29 ?l29 ?c29 ?k29 ?a30 ?l30 ?c30 ?k30 ?aCt ?aCn ?aCW ?aCB ?aCN ?aBT ?aFE ?pgCt ?hdCt ?poCt ?saCt ?mkCt ?kcCt ?n0Ct ?n1Ct ?n2Ct ?n3Ct ?hcCt ?moCt ?ssCt ?neCt ?pgCn ?hdCn ?poCn ?saCn ?mkCn ?kcCn ?n0Cn ?n1Cn ?n2Cn ?n3Cn ?hcCn ?moCn ?ssCn ?neCn ?sTN ?sNT ?icCt ?icCn ?icCB ?icCN ?icBT ?icFE ?ttCt ?ttCn ?ttCB ?ttCN ?ttBT ?ttFE ?suBF ?suFX ?suBV ?hdCB ?saCB ?exCB ?keCB ?noCBpart ?lxCB ?rxCB ?hdCN ?saCN ?exCN ?keCN ?noCNweight ?lxCN ?rxCN ?hdBT ?saBT ?exBT ?keBT ?noBTline ?noBTword ?lxBT ?rxBT ?gaBT ?ggBT ?hcBT ?moBT ?hdcR1 ?nocR1 ?hdcL ?nocL ?neqT ?ikn ?ikt ?m50 ?i50 ?l50 ?c50 ?k50 ?t50 ?m53 ?i53 ?l53 ?c53 ?k53 ?t53 ?m55 ?i55 ?l55 ?c55 ?k55 ?m56 ?i56 ?l56 ?c56 ?k56 ?m57 ?i57 ?l57 ?c57 ?k57 ?m58 ?i58 ?l58 ?c58 ?k58 ?m59 ?i59 ?l59 ?c59 ?k59 ?m60 ?i60 ?l60 ?c60 ?k60 ?m61 ?i61 ?l61 ?c61 ?k61 ?kd53 ?ty57 ?ty58 ?ty61 ?rdCW ?gtCW ?rdCt ?gtCt ?fcCW ?fcCt ?rcR ?l62 ?c62 ?k62 ?cvW ?hgP ?hgT ?hgI ?hgL ?aD ?lD ?hk1 ?hk2 ?lowD ?lD1 ?lD2 ?zint ?zlen ?zabs ?zlist ?zmin ?zmax ?zisinstance ?zbool ?ztuple ?zall ?zrange ?zrepr ?zany ?zdict ?zValueError ?zstr ?zenumerate
      (case a0 => k_is)
      (case l0 => k_is)
      (case c0 => k_is)
      (case k0 => k_is)
      (case a1 => k_is)
      (case l1 => k_is)
      (case c1 => k_is)
      (case k1 => k_is)
      (case a2 => k_is)
      (case l2 => k_is)
      (case c2 => k_is)
      (case k2 => k_is)
      (case a3 => k_is)
      (case l3 => k_is)
      (case c3 => k_is)
      (case k3 => k_is)
      (case a4 => k_is)
      (case l4 => k_is)
      (case c4 => k_is)
      (case k4 => k_is)
      (case a5 => k_is)
      (case l5 => k_is)
      (case c5 => k_is)
      (case k5 => k_is)
      (case a6 => k_is)
      (case l6 => k_is)
      (case c6 => k_is)
      (case k6 => k_is)
      (case a7 => k_is)
      (case l7 => k_is)
      (case c7 => k_is)
      (case k7 => k_is)
      (case a8 => k_is)
      (case l8 => k_is)
      (case c8 => k_is)
      (case k8 => k_is)
      (case a9 => k_is)
      (case l9 => k_is)
      (case c9 => k_is)
      (case k9 => k_is)
      (case a10 => k_is)
      (case l10 => k_is)
      (case c10 => k_is)
      (case k10 => k_is)
      (case a11 => k_is)
      (case l11 => k_is)
      (case c11 => k_is)
      (case k11 => k_is)
      (case a12 => k_is)
      (case l12 => k_is)
      (case c12 => k_is)
      (case k12 => k_is)
      (case a13 => k_is)
      (case l13 => k_is)
      (case c13 => k_is)
      (case k13 => k_is)
      (case a14 => k_is)
      (case l14 => k_is)
      (case c14 => k_is)
      (case k14 => k_is)
      (case a15 => k_is)
      (case l15 => k_is)
      (case c15 => k_is)
      (case k15 => k_is)
      (case a16 => k_is)
      (case l16 => k_is)
      (case c16 => k_is)
      (case k16 => k_is)
      (case a17 => k_is)
      (case l17 => k_is)
      (case c17 => k_is)
      (case k17 => k_is)
      (case a18 => k_is)
      (case l18 => k_is)
      (case c18 => k_is)
      (case k18 => k_is)
      (case a19 => k_is)
      (case l19 => k_is)
      (case c19 => k_is)
      (case k19 => k_is)
      (case a20 => k_is)
      (case l20 => k_is)
      (case c20 => k_is)
      (case k20 => k_is)
      (case a21 => k_is)
      (case l21 => k_is)
      (case c21 => k_is)
      (case k21 => k_is)
      (case a22 => k_is)
      (case l22 => k_is)
      (case c22 => k_is)
      (case k22 => k_is)
      (case a23 => k_is)
      (case l23 => k_is)
      (case c23 => k_is)
      (case k23 => k_is)
      (case a24 => k_is)
      (case l24 => k_is)
      (case c24 => k_is)
      (case k24 => k_is)
      (case a25 => k_is)
      (case l25 => k_is)
      (case c25 => k_is)
      (case k25 => k_is)
      (case a26 => k_is)
      (case l26 => k_is)
      (case c26 => k_is)
      (case k26 => k_is)
      (case a27 => k_is)
      (case l27 => k_is)
      (case c27 => k_is)
      (case k27 => k_is)
      (case a28 => k_is)
      (case l28 => k_is)
      (case c28 => k_is)
      (case k28 => k_is)
      (case a29 => k_is)
      (case l29 => k_is)
      (case c29 => k_is)
      (case k29 => k_is)
      (case a30 => k_is)
      (case l30 => k_is)
      (case c30 => k_is)
      (case k30 => k_is)
      (case aCt => k_is)
      (case aCn => k_is)
      (case aCW => k_is)
      (case aCB => k_is)
      (case aCN => k_is)
      (case aBT => k_is)
      (case aFE => k_is)
      (case pgCt => k_is)
      (case hdCt => k_is)
      (case poCt => k_is)
      (case saCt => k_is)
      (case mkCt => k_is)
      (case kcCt => k_is)
      (case n0Ct => k_is)
      (case n1Ct => k_is)
      (case n2Ct => k_is)
      (case n3Ct => k_is)
      (case hcCt => k_is)
      (case moCt => k_is)
      (case ssCt => k_is)
      (case neCt => k_is)
      (case pgCn => k_is)
      (case hdCn => k_is)
      (case poCn => k_is)
      (case saCn => k_is)
      (case mkCn => k_is)
      (case kcCn => k_is)
      (case n0Cn => k_is)
      (case n1Cn => k_is)
      (case n2Cn => k_is)
      (case n3Cn => k_is)
      (case hcCn => k_is)
      (case moCn => k_is)
      (case ssCn => k_is)
      (case neCn => k_is)
      (case sTN => k_is)
      (case sNT => k_is)
      (case icCt => k_is)
      (case icCn => k_is)
      (case icCB => k_is)
      (case icCN => k_is)
      (case icBT => k_is)
      (case icFE => k_is)
      (case ttCt => k_is)
      (case ttCn => k_is)
      (case ttCB => k_is)
      (case ttCN => k_is)
      (case ttBT => k_is)
      (case ttFE => k_is)
      (case suBF => k_is)
      (case suFX => k_is)
      (case suBV => k_is)
      (case hdCB => k_is)
      (case saCB => k_is)
      (case exCB => k_is)
      (case keCB => k_is)
      (case noCBpart => k_is)
      (case lxCB => k_is)
      (case rxCB => decide +kernel)
      (case hdCN => k_is)
      (case saCN => k_is)
      (case exCN => k_is)
      (case keCN => k_is)
      (case noCNweight => k_is)
      (case lxCN => k_is)
      (case rxCN => decide +kernel)
      (case hdBT => k_is)
      (case saBT => k_is)
      (case exBT => k_is)
      (case keBT => k_is)
      (case noBTline => k_is)
      (case noBTword => k_is)
      (case lxBT => k_is)
      (case rxBT => decide +kernel)
      (case gaBT => k_is)
      (case ggBT => k_is)
      (case hcBT => k_is)
      (case moBT => k_is)
      (case hdcR1 => kernel_rfl)
      (case nocR1 => kernel_rfl)
      (case hdcL => kernel_rfl)
      (case nocL => kernel_rfl)
      (case neqT => kernel_rfl)
      (case ikn => k_is)
      (case ikt => k_is)
      (case m50 => k_is)
      (case i50 => k_is)
      (case l50 => k_is)
      (case c50 => k_is)
      (case k50 => k_is)
      (case t50 => k_is)
      (case m53 => k_is)
      (case i53 => k_is)
      (case l53 => k_is)
      (case c53 => k_is)
      (case k53 => k_is)
      (case t53 => k_is)
      (case m55 => k_is)
      (case i55 => k_is)
      (case l55 => k_is)
      (case c55 => k_is)
      (case k55 => k_is)
      (case m56 => k_is)
      (case i56 => k_is)
      (case l56 => k_is)
      (case c56 => k_is)
      (case k56 => k_is)
      (case m57 => k_is)
      (case i57 => k_is)
      (case l57 => k_is)
      (case c57 => k_is)
      (case k57 => k_is)
      (case m58 => k_is)
      (case i58 => k_is)
      (case l58 => k_is)
      (case c58 => k_is)
      (case k58 => k_is)
      (case m59 => k_is)
      (case i59 => k_is)
      (case l59 => k_is)
      (case c59 => k_is)
      (case k59 => k_is)
      (case m60 => k_is)
      (case i60 => k_is)
      (case l60 => k_is)
      (case c60 => k_is)
      (case k60 => k_is)
      (case m61 => k_is)
      (case i61 => k_is)
      (case l61 => k_is)
      (case c61 => k_is)
      (case k61 => k_is)
      (case kd53 => k_is)
      (case ty57 => k_is)
      (case ty58 => k_is)
      (case ty61 => k_is)
      (case rdCW => first | k_is | kernel_rfl | decide +kernel)
      (case gtCW => first | k_is | kernel_rfl | decide +kernel)
      (case rdCt => first | k_is | kernel_rfl | decide +kernel)
      (case gtCt => first | k_is | kernel_rfl | decide +kernel)
      (case fcCW => first | k_is | kernel_rfl | decide +kernel)
      (case fcCt => first | k_is | kernel_rfl | decide +kernel)
      (case rcR => first | k_is | kernel_rfl | rfl)
      (case l62 => k_is)
      (case c62 => k_is)
      (case k62 => k_is)
      (case cvW => k_is)
      (case hgP => k_is)
      (case hgT => k_is)
      (case hgI => k_is)
      (case hgL => k_is)
      (case aD => k_is)
      (case lD => k_is)
      (case hk1 => rfl)
      (case hk2 => rfl)
      (case lowD => kernel_rfl)
      (case lD1 => k_is)
      (case lD2 => k_is)
      (case zint => k_is)
      (case zlen => k_is)
      (case zabs => k_is)
      (case zlist => k_is)
      (case zmin => k_is)
      (case zmax => k_is)
      (case zisinstance => k_is)
      (case zbool => k_is)
      (case ztuple => k_is)
      (case zall => k_is)
      (case zrange => k_is)
      (case zrepr => k_is)
      (case zany => k_is)
      (case zdict => k_is)
      (case zValueError => k_is)
      (case zstr => k_is)
      (case zenumerate => k_is))
