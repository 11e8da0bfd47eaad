import PyProof.Rows.All
import Wide.All
import OpenK.AllK
import Wide.FinOn
import HandS.ForMost
import HandS.Wide
import HandS.Codes
import HandS.IsInst
import HandS.Defaults
import HandS.MakeKw
import HandS.MakeKwOnly
import HandS.ClsMeth
import HandS.TupAny
import HandS.Style
import HandS.More
import HandS.SlotsOwn
import PyProof.InstNe
import HandS.Zip
import HandS.Walk
import KE.GoesZip
import KE.GoesMore
import HandS.Conv
import HandS.Star
import KE.DataEq
import HandS.OwnEq
import PyProof.NeKinds
import HandS.Text
import HandS.StrMore
import PyProof.Rows.StrAscii
import KE.KCallOwn
import HandS.FStr
import KE.KExcIs
import HandS.ForExc
import HandS.ExcInit
import HandS.Lambda
import HandS.EndTab
import HandS.Iter
import PySem.Challenge.RW_evenrules_k06_texts_of_tests
open PySem PySem.W PyProof.Rows
set_option Elab.async false
set_option linter.all false
set_option maxRecDepth 100000 in
set_option maxHeartbeats 0 in
open_top hd for PySem.Challenge.rw_evenrules_k06_texts_of_tests
set_option maxRecDepth 100000
set_option maxHeartbeats 4000000
namespace Ev
open PySem L2
def top (i : Nat) : Stmt := PySem.Challenge.pw_evenrules_k06_texts_of_tests.main.body.getD i (.Pass ⟨0, 0, 0, 0⟩)
abbrev sDraw : Stmt := top 30
/-- all that was tracked is as it was, but at p -/
def But (p : Addr) (H H' : Hp) : Prop := ∀ b o, b ≠ p → H b = some o → H' b = some o
theorem But.refl (p : Addr) (H : Hp) : But p H H := fun _ _ _ e => e
theorem But.trans {p : Addr} {H H1 H2 : Hp} (a : But p H H1) (b : But p H1 H2) : But p H H2 := fun c o n e => b c o n (a c o n e)
theorem Same.but {p : Addr} {H H' : Hp} (a : Same H H') : But p H H' := fun c o _ e => a c o e
theorem But.upd_new {p q : Addr} {H : Hp} {o : HO} (h : H q = none) : But p H (upd H q o) := fun b u _ e => by
  rw [upd_ne (ne_of_none e h)]; exact e
theorem But.upd_at {p : Addr} {H : Hp} {o : HO} : But p H (upd H p o) := fun b u n e => by
  rw [upd_ne n]; exact e
/-- the pen: a list of a list of ints, how often it was asked, and a rest -/
def Pen (L : Addr) (H : Hp) (p : Addr) (B : Int) : Prop := ∃ (ns : List Int) (turn carry : Int),
  H p = some (.lst [.ref L, .int turn, .int carry]) ∧ H L = some (.lst (ns.map V.int)) ∧ L ≠ p ∧ ns.length ≤ 63 ∧ 0 ≤ turn ∧ turn ≤ B ∧ 0 ≤ carry
theorem Pen.keep {L : Addr} {H H' : Hp} {p : Addr} {B : Int} (h : Pen L H p B) (k : Same H H') : Pen L H' p B := by
  obtain ⟨ns, t, c, h1, h2, h3, h4, h5, h6, h7⟩ := h
  exact ⟨ns, t, c, k _ _ h1, k _ _ h2, h3, h4, h5, h6, h7⟩
theorem Pen.mono {L : Addr} {H : Hp} {p : Addr} {B B' : Int} (h : Pen L H p B) (k : B ≤ B') : Pen L H p B' := by
  obtain ⟨ns, t, c, h1, h2, h3, h4, h5, h6, h7⟩ := h
  exact ⟨ns, t, c, h1, h2, h3, h4, h5, by omega, h7⟩
def spDraw : Sp := fun vs H Q _ => ∃ (p L : Addr) (m B : Int), vs = [.ref p, .int m] ∧ 1 ≤ m ∧ m ≤ 10000000000000 ∧ B ≤ 1000000 ∧ Pen L H p B ∧
  ∀ (d : Int) (H' : Hp), But p H H' → Pen L H' p (B + 1) → 0 ≤ d → d < m → Q (.int d) H'
theorem dpInts {K : PySem.W.Frag} {H : Hp} : ∀ ns : List Int, DpAll K H (ns.map V.int) (ns.map PyData.int)
  | [] => .nil
  | n :: r => .cons (.int n) (dpInts r)
theorem sh_ints (ns : List Int) : SeqAt.shaped (.list (ns.map PyData.int)) = true := by
  have h1 : ∀ ns : List Int, PyData.canLayAll0 (ns.map PyData.int) = true := by
    intro ns
    induction ns with
    | nil => rfl
    | cons n r ih => simp [PyData.canLayAll0, PyData.canLay0, ih]
  have h2 : ∀ ns : List Int, PyData.depthAll (ns.map PyData.int) ≤ 1 := by
    intro ns
    induction ns with
    | nil => simp [PyData.depthAll]
    | cons n r ih => simp [PyData.depthAll, PyData.depth]; omega
  unfold SeqAt.shaped
  rw [Bool.and_eq_true]
  refine ⟨by simp [PyData.canLay0, h1], decide_eq_true ?_⟩
  have := h2 ns
  simp [PyData.depth]; omega
theorem eqv_nil (ns : List Int) : PyData.eqv (.list (ns.map PyData.int)) (.list []) = ns.isEmpty := by
  cases ns <;> simp [PyData.eqv, PyData.eqvAll]
section
variable {P : Program} {w : World} {K : PySem.W.Frag} {mg : Str → Option Value} {base : Heap}
/-- built-ins that the program does not cover -/
structure Blt (mg : Str → Option Value) : Prop where
  int : mg "int" = none
  len : mg "len" = none
  abs : mg "abs" = none
  list : mg "list" = none
  min : mg "min" = none
  max : mg "max" = none
  isi : mg "isinstance" = none
  bool : mg "bool" = none
  tuple : mg "tuple" = none
  all : mg "all" = none
  range : mg "range" = none
  repr : mg "repr" = none
theorem scD : FnScope ["_law_pen_here", "_law_top_so", "_law_digit", "_law_at", "_law_cell", "_law_great", "_law_mixed"] ["_law_pen_here", "_law_top_so"] (defScope sDraw) := ⟨rfl, rfl, rfl, by decide +kernel, rfl, by decide +kernel, by decide +kernel⟩
theorem fmod_lo (a : Int) {m : Int} (h : 1 ≤ m) : 0 ≤ a.fmod m := by rw [Int.fmod_eq_emod_of_nonneg a (by omega)]; exact Int.emod_nonneg a (by omega)
theorem fmod_hi (a : Int) {m : Int} (h : 1 ≤ m) : a.fmod m < m := by rw [Int.fmod_eq_emod_of_nonneg a (by omega)]; exact Int.emod_lt_of_pos a (by omega)
theorem fdiv_lo {a m : Int} (h : 1 ≤ m) (h0 : 0 ≤ a) : 0 ≤ a.fdiv m := by rw [Int.fdiv_eq_ediv_of_nonneg a (by omega)]; exact Int.ediv_nonneg h0 (by omega)
theorem cell_at {ns : List Int} (h : ns ≠ []) (t : Int) : ∃ c : Int, atI (ns.map V.int) (t.fmod (((ns.map V.int).length : Nat) : Int)) = some (V.int c) := by
  rw [List.length_map]
  have l : 0 < ns.length := List.length_pos_iff.mpr h
  have h1 : 0 ≤ t.fmod (ns.length : Int) := fmod_lo t (by omega)
  have h2 : t.fmod (ns.length : Int) < ns.length := fmod_hi t (by omega)
  generalize t.fmod (ns.length : Int) = i at h1 h2
  obtain ⟨j, rfl⟩ := Int.eq_ofNat_of_zero_le h1
  have hj : j < ns.length := by omega
  exact ⟨ns[j], atI_nat (by rw [List.getElem?_map, List.getElem?_eq_getElem hj]; rfl)⟩
theorem mul_le_of {a b A B : Int} (a0 : 0 ≤ a) (b0 : 0 ≤ b) (ha : a ≤ A) (hb : b ≤ B) : 0 ≤ a * b ∧ a * b ≤ A * B :=
  ⟨Int.mul_nonneg a0 b0, Int.mul_le_mul ha hb b0 (by omega)⟩
theorem bound1 (c : Int) {M C D t : Int} (hM : 1 ≤ M) (hM2 : M ≤ 4294967296) (hC : 0 ≤ C ∧ C ≤ 1000000) (hD : 0 ≤ D ∧ D ≤ 1000000) (h0 : 0 ≤ t) (h1 : t ≤ 1000000) : (c.fmod M + C * t + D).natAbs < 2 ^ 64 := by
  have a1 := fmod_lo c hM
  have a2 := fmod_hi c hM
  have ⟨a3, a4⟩ := mul_le_of hC.1 h0 hC.2 h1
  omega
theorem bound2 {x C5 C6 C7 t : Int} (hx : 0 ≤ x ∧ x < 4294967296) (h5 : 0 ≤ C5 ∧ C5 ≤ 1000000) (h6 : 0 ≤ C6 ∧ C6 ≤ 1000000) (h7 : 0 ≤ C7 ∧ C7 ≤ 1000000) (h0 : 0 ≤ t) (h1 : t ≤ 1000000) :
    (x * (2 * t + C5) + C6 * t * t + C7).natAbs < 2 ^ 64 := by
  have ⟨a1, a2⟩ := mul_le_of (b := 2 * t + C5) (A := 4294967296) (B := 3000000) hx.1 (by omega) (by omega) (by omega)
  have ⟨a3, a4⟩ := mul_le_of h6.1 h0 h6.2 h1
  have ⟨a5, a6⟩ := mul_le_of a3 h0 a4 h1
  omega
theorem great_nn {c e : Int} (h : e ≤ (if c < 0 then -c else c)) (b : Bool) : 0 ≤ 2 * ((if c < 0 then -c else c) - e) + (if b = true then 1 else 0) := by
  cases b
  · rw [if_neg Bool.false_ne_true]; omega
  · rw [if_pos rfl]; omega
theorem lt64 {x : Int} (h : 0 ≤ x ∧ x < 4294967296) : -(2 ^ 64) < x ∧ x < 2 ^ 64 := ⟨by omega, by omega⟩
theorem nz {M : Int} (h : 0 < M) : M ≠ 0 := by omega
theorem divW {i m : Int} (h : 1 ≤ m) (h2 : m ≤ 10000000000000) : CDivW i m := wide_div (b := 44) (by omega) (by omega) (by decide) (by decide)
theorem ediv_lo {a m : Int} (h : 1 ≤ m) (h0 : 0 ≤ a) : 0 ≤ a / m := Int.ediv_nonneg h0 (by omega)
theorem ok_draw {f : Addr} {fd : FuncData} (F : Fun K "_law_draw" "_law_draw" sDraw f fd) (T : Blt mg) : FnOk P w K mg base CX0 1 f fd ["_law_pen_here", "_law_top_so"] spDraw := by
  refine F.ok scD (fun vs H Q E h => ?_) (fun cdv A outer s H vs Q E hr h => ?_)
  · obtain ⟨p, L, m, B, rfl, _⟩ := h
    rfl
  · obtain ⟨p, L, m, B, rfl, hm, hm2, hB, ⟨ns, tn, ca, hp, hL, Lp, hlen, t0, tB, c0⟩, k⟩ := h
    have hu := hu_of hr
    refine ⟨_, pss_cons (ps_if (pt_cmpR op_gt (pe_ix ix_list (pv 0) pe_int (fun _ _ => rfl)) pe_int (nomark _))
        (pss_cons (ps_set (i := 2) scD.nd rfl (.inl rfl) (pe_op op_modN (pe_callTy call_int1 (by rfl) T.int (by decide +kernel) (pa_cons (pe_ix ix_list (pv 0) pe_int (fun _ _ => rfl)) pa_nil)) (pv 1)))
        (pss_cons (ps_asg (pe_op op_fdivW (pe_callTy call_int1 (by rfl) T.int (by decide +kernel) (pa_cons (pe_ix ix_list (pv 0) pe_int (fun _ _ => rfl)) pa_nil)) (pv 1)) (pg_sub (pv 0) pe_int set_list))
        (pss_one (ps_ret (pv 2))))) pss_nil)
      (pss_cons (ps_set (i := 3) scD.nd rfl (.inl rfl) (pe_ix ix_list (pv 0) pe_int (fun _ _ => rfl)))
      (pss_cons (ps_asg (pe_op op_add (pv 3) pe_int) (pg_sub (pv 0) pe_int set_list))
      (pss_cons (ps_set (i := 4) scD.nd rfl (.inl rfl) (pe_op op_add (pe_op op_mul pe_int (pv 3)) pe_int))
      (pss_cons (ps_if (pt_cmpR (op_neD hr.units) (pe_ix ix_list (pv 0) pe_int (fun _ _ => rfl)) (pe_lst pa_nil) (nomark _))
        (pss_one (ps_set (i := 4) scD.nd rfl (.inl rfl) (pe_ix ix_list (pe_ix ix_list (pv 0) pe_int (fun _ _ => rfl))
          (pe_op op_modN (pe_callTy call_int1 (by rfl) T.int (by decide +kernel) (pa_cons (pv 3) pa_nil)) (pe_callB call_len_seq (by rfl) T.len PySem.boot_len (pa_cons (pe_ix ix_list (pv 0) pe_int (fun _ _ => rfl)) pa_nil))) (fun _ _ => rfl)))) pss_nil)
      (pss_cons (ps_if (PW.pt (pw_and (pt_cmpR op_lt (pv 3) (pe_callB call_len_seq (by rfl) T.len PySem.boot_len (pa_cons (pe_ix ix_list (pv 0) pe_int (fun _ _ => rfl)) pa_nil)) (nomark _))
          (pw_and1 (pt_cmpR op_ge (pe_callB call_abs (by rfl) T.abs (by decide +kernel) (pa_cons (pv 4) pa_nil)) (pe_op op_pow pe_int pe_int) (nomark _)))))
        (pss_cons (ps_set (i := 5) scD.nd rfl (.inl rfl) (pe_op op_add (pe_op op_mul pe_int (pe_op op_sub (pe_callB call_abs (by rfl) T.abs (by decide +kernel) (pa_cons (pv 4) pa_nil)) (pe_op op_pow pe_int pe_int)))
            (pe_callTy call_int1 (by rfl) T.int (by decide +kernel) (pa_cons (pe_cmpR op_lt (pv 4) pe_int (nomark _)) pa_nil))))
        (pss_cons (ps_asg (pe_op op_fdivW (pe_callTy call_int1 (by rfl) T.int (by decide +kernel) (pa_cons (pv 5) pa_nil)) (pv 1)) (pg_sub (pv 0) pe_int set_list))
        (pss_one (ps_ret (pe_op op_modN (pe_callTy call_int1 (by rfl) T.int (by decide +kernel) (pa_cons (pv 5) pa_nil)) (pv 1)))))) pss_nil)
      (pss_cons (ps_set (i := 6) scD.nd rfl (.inl rfl) (pe_op op_modN (pe_callTy call_int1 (by rfl) T.int (by decide +kernel) (pa_cons (pe_op op_pow (pe_op op_add (pe_op op_add
          (pe_op op_modN (pe_callTy call_int1 (by rfl) T.int (by decide +kernel) (pa_cons (pv 4) pa_nil)) pe_int) (pe_op op_mul pe_int (pv 3))) pe_int) pe_int) pa_nil)) pe_int))
      (pss_cons (ps_set (i := 6) scD.nd rfl (.inl rfl) (pe_op op_modN (pe_callTy call_int1 (by rfl) T.int (by decide +kernel) (pa_cons (pe_op op_pow (pe_op op_add (pe_op op_add
          (pe_op op_mul (pv 6) (pe_op op_add (pe_op op_mul pe_int (pv 3)) pe_int)) (pe_op op_mul (pe_op op_mul pe_int (pv 3)) (pv 3))) pe_int) pe_int) pa_nil)) pe_int))
      (pss_one (ps_ret (pe_op op_modN (pe_callTy call_int1 (by rfl) T.int (by decide +kernel) (pa_cons (pe_op op_fdivN (pv 6) pe_int) pa_nil)) (pv 1))))))))))), ?_⟩
    have i2 : ∀ {a b c : V}, atI [a, b, c] 2 = some c := fun {a b c} => atI_nat (j := 2) rfl
    have i1 : ∀ {a b c : V}, atI [a, b, c] 1 = some b := fun {a b c} => atI_nat (j := 1) rfl
    have i0 : ∀ {a b c : V}, atI [a, b, c] 0 = some a := fun {a b c} => atI_nat (j := 0) rfl
    -- if pen[2] > 0
    refine ⟨_, rfl, p, _, 2, _, rfl, rfl, SqL.of hp, i2, _, _, rfl, rfl, _, rfl, ite2 (fun e => ?_) (fun e => ?_)⟩
    · -- digit
      refine ⟨_, rfl, p, _, 2, _, rfl, rfl, SqL.of hp, i2, .inl ⟨_, rfl, _, rfl, _, _, rfl, rfl, (by omega), ?_⟩⟩
      refine ⟨_, rfl, p, _, 2, _, rfl, rfl, SqL.of hp, i2, .inl ⟨_, rfl, _, rfl, _, _, rfl, rfl, divW hm hm2, _, rfl, p, _, _, 2, rfl, rfl, hp, rfl, ?_⟩⟩
      refine ⟨_, rfl, ?_⟩
      exact k _ _ But.upd_at ⟨ns, tn, _, upd_same, by rw [upd_ne Lp]; exact hL, Lp, hlen, t0, by omega, ediv_lo hm c0⟩ (fmod_lo _ hm) (fmod_hi _ hm)
    · -- turn
      refine ⟨_, rfl, p, _, 1, _, rfl, rfl, SqL.of hp, i1, ?_⟩
      refine ⟨_, rfl, _, _, rfl, rfl, _, rfl, p, _, _, 1, rfl, rfl, hp, rfl, ?_⟩
      have hp1 : upd H p (.lst ([V.ref L, V.int tn, V.int ca].set 1 (V.int (tn + 1)))) p = some (.lst [.ref L, .int (tn + 1), .int ca]) := upd_same
      have hL1 : upd H p (.lst ([V.ref L, V.int tn, V.int ca].set 1 (V.int (tn + 1)))) L = some (.lst (ns.map V.int)) := by rw [upd_ne Lp]; exact hL
      have b1 : But p H (upd H p (.lst ([V.ref L, V.int tn, V.int ca].set 1 (V.int (tn + 1))))) := But.upd_at
      generalize upd H p (.lst ([V.ref L, V.int tn, V.int ca].set 1 (V.int (tn + 1)))) = H1 at hp1 hL1 b1 ⊢
      -- cell = c * turn + c'
      refine ⟨_, rfl, _, _, rfl, rfl, .inl ⟨by decide, by decide⟩, _, _, rfl, rfl, ?_⟩
      -- if pen[0] != []
      refine ⟨_, rfl, p, _, 0, _, rfl, rfl, SqL.of hp1, i0, by decide, fun l hl => ?_⟩
      have n1 : p ≠ l := ne_of_none hp1 hl
      have n2 : L ≠ l := ne_of_none hL1 hl
      have hp2 : upd H1 l (.lst []) p = some (.lst [.ref L, .int (tn + 1), .int ca]) := by rw [upd_ne n1]; exact hp1
      have hL2 : upd H1 l (.lst []) L = some (.lst (ns.map V.int)) := by rw [upd_ne n2]; exact hL1
      have hl2 : upd H1 l (.lst []) l = some (.lst []) := upd_same
      have b2 : But p H (upd H1 l (.lst [])) := b1.trans (But.upd_new hl)
      clear b1 hp1 hL1
      generalize upd H1 l (.lst []) = H2 at hp2 hL2 hl2 b2
      refine ⟨_, _, .lst (SqL.of hL2) (dpInts ns), .lst (SqL.of hl2) .nil, sh_ints ns, sh_ints [], _, rfl, ?_⟩
      rw [eqv_nil]
      -- the rest, for any cell
      have hcell : ∀ c : Int, ∃ j : Int, (if c < 0 then -c else c) = j ∧ 0 ≤ j := fun c => by
        by_cases z : c < 0
        · exact ⟨_, rfl, by rw [if_pos z]; omega⟩
        · exact ⟨_, rfl, by rw [if_neg z]; omega⟩
      have fin : ∀ H' : Hp, H' p = some (.lst [.ref L, .int (tn + 1), .int ca]) → H' L = some (.lst (ns.map V.int)) → But p H H' → Pen L H' p (B + 1) := fun H' e1 e2 _ =>
        ⟨ns, tn + 1, ca, e1, e2, Lp, hlen, by omega, by omega, c0⟩
      have ht : tn ≤ 1000000 := by omega
      have hm6 : 0 ≤ 76705 * tn ∧ 76705 * tn ≤ 76705 * 1000000 := mul_le_of (by decide) t0 (Int.le_refl _) ht
      have hq : ∀ {x m : Int}, 1 ≤ m → m ≤ 4294967296 → 0 ≤ x.fmod m ∧ x.fmod m < 4294967296 := fun {x m} h1 h2 => ⟨fmod_lo x h1, by have := fmod_hi x h1; omega⟩
      cases hn : ns with
      | nil =>
        refine iteF ?_
        refine ⟨_, rfl, _, rfl, p, _, 0, _, rfl, rfl, SqL.of hp2, i0, L, _, rfl, .inl (SqL.of hL2), _, _, rfl, rfl, _, rfl, ite2 (fun e1 => ?_) (fun e1 => ?_)⟩
        · refine ⟨_, rfl, _, rfl, _, _, rfl, rfl, ⟨by decide, by decide, by decide⟩, _, _, rfl, rfl, _, rfl, ite2 (fun e2 => ?_) (fun e2 => ?_)⟩
          · refine ⟨_, rfl, _, rfl, _, _, rfl, rfl, ⟨by decide, by decide, by decide⟩, _, _, rfl, rfl, _, _, rfl, rfl, .inl ⟨by decide, by decide⟩, _, rfl, _, _, rfl, rfl, .inr ⟨_, rfl, _, _, rfl, rfl, ?_⟩⟩
            refine ⟨_, rfl, .inl ⟨_, rfl, _, rfl, _, _, rfl, rfl, divW hm hm2, _, rfl, p, _, _, 2, rfl, rfl, hp2, rfl, ?_⟩⟩
            refine ⟨_, rfl, .inl ⟨_, rfl, _, rfl, _, _, rfl, rfl, (by omega), ?_⟩⟩
            refine k _ _ (b2.trans But.upd_at) ⟨_, tn + 1, _, upd_same, by rw [upd_ne Lp]; exact hL2, Lp, hlen, by omega, by omega, ediv_lo hm ?_⟩ (fmod_lo _ hm) (fmod_hi _ hm)
            have e3 := of_decide_eq_true e2
            exact great_nn e3 _
          · skip
            refine ⟨_, rfl, .inl ⟨_, rfl, _, _, rfl, rfl, nz (by decide), _, rfl, _, _, rfl, rfl, .inl ⟨by decide, by decide⟩, _, _, rfl, rfl, _, _, rfl, rfl, _, _, rfl, rfl, ⟨by decide, by decide, bound1 _ (by decide) (by decide) (by decide) (by decide) t0 ht⟩, .inl ⟨_, rfl, _, _, rfl, rfl, nz (by decide), ?_⟩⟩⟩
            refine ⟨_, rfl, _, rfl, _, _, rfl, rfl, .inl ⟨by decide, by decide⟩, _, _, rfl, rfl, _, _, rfl, rfl, .inl ?_, _, rfl, _, _, rfl, rfl, .inl ⟨by decide, by decide⟩, _, rfl, _, _, rfl, rfl, .inl ?_, _, _, rfl, rfl, _, _, rfl, rfl, _, _, rfl, rfl, ⟨by decide, by decide, ?_⟩, .inl ⟨_, rfl, _, _, rfl, rfl, nz (by decide), ?_⟩⟩
            · exact lt64 (hq (by decide) (by decide))
            · exact ⟨by omega, by omega⟩
            · exact bound2 (hq (by decide) (by decide)) (by decide) (by decide) (by decide) t0 ht
            · refine ⟨_, rfl, _, _, rfl, rfl, ⟨by decide, by decide⟩, .inl ⟨_, rfl, _, rfl, _, _, rfl, rfl, (by omega), ?_⟩⟩
              exact k _ _ b2 (fin _ hp2 hL2 b2) (fmod_lo _ hm) (fmod_hi _ hm)
        · skip
          refine ⟨_, rfl, .inl ⟨_, rfl, _, _, rfl, rfl, nz (by decide), _, rfl, _, _, rfl, rfl, .inl ⟨by decide, by decide⟩, _, _, rfl, rfl, _, _, rfl, rfl, _, _, rfl, rfl, ⟨by decide, by decide, bound1 _ (by decide) (by decide) (by decide) (by decide) t0 ht⟩, .inl ⟨_, rfl, _, _, rfl, rfl, nz (by decide), ?_⟩⟩⟩
          refine ⟨_, rfl, _, rfl, _, _, rfl, rfl, .inl ⟨by decide, by decide⟩, _, _, rfl, rfl, _, _, rfl, rfl, .inl ?_, _, rfl, _, _, rfl, rfl, .inl ⟨by decide, by decide⟩, _, rfl, _, _, rfl, rfl, .inl ?_, _, _, rfl, rfl, _, _, rfl, rfl, _, _, rfl, rfl, ⟨by decide, by decide, ?_⟩, .inl ⟨_, rfl, _, _, rfl, rfl, nz (by decide), ?_⟩⟩
          · exact lt64 (hq (by decide) (by decide))
          · exact ⟨by omega, by omega⟩
          · exact bound2 (hq (by decide) (by decide)) (by decide) (by decide) (by decide) t0 ht
          · refine ⟨_, rfl, _, _, rfl, rfl, ⟨by decide, by decide⟩, .inl ⟨_, rfl, _, rfl, _, _, rfl, rfl, (by omega), ?_⟩⟩
            exact k _ _ b2 (fin _ hp2 hL2 b2) (fmod_lo _ hm) (fmod_hi _ hm)
      | cons n0 nr =>
        refine iteT ?_
        obtain ⟨c, hc⟩ := cell_at (ns := ns) (by rw [hn]; exact List.cons_ne_nil _ _) tn
        refine ⟨_, rfl, p, _, 0, _, rfl, rfl, SqL.of hp2, i0, _, rfl, .inl ⟨_, rfl, _, rfl, p, _, 0, _, rfl, rfl, SqL.of hp2, i0, L, _, rfl, .inl (SqL.of hL2), _, _, rfl, rfl, (by rw [List.length_map, hn, List.length_cons]; omega), L, _, _, _, rfl, rfl, SqL.of hL2, hc, ?_⟩⟩
        refine ⟨_, rfl, _, rfl, p, _, 0, _, rfl, rfl, SqL.of hp2, i0, L, _, rfl, .inl (SqL.of hL2), _, _, rfl, rfl, _, rfl, ite2 (fun e1 => ?_) (fun e1 => ?_)⟩
        · refine ⟨_, rfl, _, rfl, _, _, rfl, rfl, ⟨by decide, by decide, by decide⟩, _, _, rfl, rfl, _, rfl, ite2 (fun e2 => ?_) (fun e2 => ?_)⟩
          · refine ⟨_, rfl, _, rfl, _, _, rfl, rfl, ⟨by decide, by decide, by decide⟩, _, _, rfl, rfl, _, _, rfl, rfl, .inl ⟨by decide, by decide⟩, _, rfl, _, _, rfl, rfl, .inr ⟨_, rfl, _, _, rfl, rfl, ?_⟩⟩
            refine ⟨_, rfl, .inl ⟨_, rfl, _, rfl, _, _, rfl, rfl, divW hm hm2, _, rfl, p, _, _, 2, rfl, rfl, hp2, rfl, ?_⟩⟩
            refine ⟨_, rfl, .inl ⟨_, rfl, _, rfl, _, _, rfl, rfl, (by omega), ?_⟩⟩
            refine k _ _ (b2.trans But.upd_at) ⟨_, tn + 1, _, upd_same, by rw [upd_ne Lp]; exact hL2, Lp, hlen, by omega, by omega, ediv_lo hm ?_⟩ (fmod_lo _ hm) (fmod_hi _ hm)
            have e3 := of_decide_eq_true e2
            exact great_nn e3 _
          · skip
            refine ⟨_, rfl, .inl ⟨_, rfl, _, _, rfl, rfl, nz (by decide), _, rfl, _, _, rfl, rfl, .inl ⟨by decide, by decide⟩, _, _, rfl, rfl, _, _, rfl, rfl, _, _, rfl, rfl, ⟨by decide, by decide, bound1 _ (by decide) (by decide) (by decide) (by decide) t0 ht⟩, .inl ⟨_, rfl, _, _, rfl, rfl, nz (by decide), ?_⟩⟩⟩
            refine ⟨_, rfl, _, rfl, _, _, rfl, rfl, .inl ⟨by decide, by decide⟩, _, _, rfl, rfl, _, _, rfl, rfl, .inl ?_, _, rfl, _, _, rfl, rfl, .inl ⟨by decide, by decide⟩, _, rfl, _, _, rfl, rfl, .inl ?_, _, _, rfl, rfl, _, _, rfl, rfl, _, _, rfl, rfl, ⟨by decide, by decide, ?_⟩, .inl ⟨_, rfl, _, _, rfl, rfl, nz (by decide), ?_⟩⟩
            · exact lt64 (hq (by decide) (by decide))
            · exact ⟨by omega, by omega⟩
            · exact bound2 (hq (by decide) (by decide)) (by decide) (by decide) (by decide) t0 ht
            · refine ⟨_, rfl, _, _, rfl, rfl, ⟨by decide, by decide⟩, .inl ⟨_, rfl, _, rfl, _, _, rfl, rfl, (by omega), ?_⟩⟩
              exact k _ _ b2 (fin _ hp2 hL2 b2) (fmod_lo _ hm) (fmod_hi _ hm)
        · skip
          refine ⟨_, rfl, .inl ⟨_, rfl, _, _, rfl, rfl, nz (by decide), _, rfl, _, _, rfl, rfl, .inl ⟨by decide, by decide⟩, _, _, rfl, rfl, _, _, rfl, rfl, _, _, rfl, rfl, ⟨by decide, by decide, bound1 _ (by decide) (by decide) (by decide) (by decide) t0 ht⟩, .inl ⟨_, rfl, _, _, rfl, rfl, nz (by decide), ?_⟩⟩⟩
          refine ⟨_, rfl, _, rfl, _, _, rfl, rfl, .inl ⟨by decide, by decide⟩, _, _, rfl, rfl, _, _, rfl, rfl, .inl ?_, _, rfl, _, _, rfl, rfl, .inl ⟨by decide, by decide⟩, _, rfl, _, _, rfl, rfl, .inl ?_, _, _, rfl, rfl, _, _, rfl, rfl, _, _, rfl, rfl, ⟨by decide, by decide, ?_⟩, .inl ⟨_, rfl, _, _, rfl, rfl, nz (by decide), ?_⟩⟩
          · exact lt64 (hq (by decide) (by decide))
          · exact ⟨by omega, by omega⟩
          · exact bound2 (hq (by decide) (by decide)) (by decide) (by decide) (by decide) t0 ht
          · refine ⟨_, rfl, _, _, rfl, rfl, ⟨by decide, by decide⟩, .inl ⟨_, rfl, _, rfl, _, _, rfl, rfl, (by omega), ?_⟩⟩
            exact k _ _ b2 (fin _ hp2 hL2 b2) (fmod_lo _ hm) (fmod_hi _ hm)
end
end Ev
namespace Ev
open PySem L2 PySem.Spec PyProof.Rows
/-! == and != by an own __eq__, both answers, beside values of other types. -/
section
variable {prog : Program} {w : World} {A : Around} {E : Value → Shared → Prop} {s : Shared} {K : PySem.W.Frag} {x C f : Addr} {ox : Obj} {od : Option Obj} {y : Value}
theorem neEntry {Q : Fin → Shared → Prop} (room : A.units < cLine) (X : K.In s.heap) (I : PySem.W.InstAt s.heap x ox C od) (he : PySem.W.findIn K (.ref C) "__eq__" = some (some (.ref f))) (hf : PySem.W.isFn K (.ref f) = true)
    (h : wpAny (model prog w) A (call (.ref f) [.ref x, y]) (fun v s' => ∃ b, v = .bool b ∧ Q (.done (.ret (.bool (!b)))) s') E s) : wpAny (model prog w) A (Builtin.«object.__ne__» ⟨[.ref x, y], []⟩) Q E s := by
  have asked : wpAny (model prog w) A (callSpecialIfBound? (.ref x) (Str.ofString "__eq__") [y]) (fun r s' => ∃ b, r = some (.bool b) ∧ Q (.done (.ret (.bool (!b)))) s') E s := by
    refine PySem.W.ifBound_K X I he hf (wpAny_mono h (fun v s' hv => ?_) fun _ _ z => z)
    obtain ⟨b, rfl, q⟩ := hv
    exact ⟨b, rfl, q⟩
  unfold Builtin.«object.__ne__»
  repeat (first
    | (with_reducible refine wpAny_cRoomFor room ?_)
    | (refine wpAny_bind (m := callSpecialIfBound? (.ref x) (Str.ofString "__eq__") [y]) (wpAny_mono asked (fun r s' hr => ?_) fun _ _ z => z)
       obtain ⟨b, rfl, q⟩ := hr)
    | exact q
    | (exact wpAny_truthy_bool q)
    | wp_step)
theorem neCall {Q : Value → Shared → Prop} (room : A.in1.units < cLine) (X : K.In s.heap) (I : PySem.W.InstAt s.heap x ox C od) (hm : PySem.W.mroIn K C (.type "object") = some true) (he : PySem.W.findIn K (.ref C) "__eq__" = some (some (.ref f))) (hf : PySem.W.isFn K (.ref f) = true)
    (h : wpAny (model prog w) A.in1 (call (.ref f) [.ref x, y]) (fun v s' => ∃ b, v = .bool b ∧ Q (.bool (!b)) s') E s) : wpAny (model prog w) A (call (.builtin "object.__ne__") [.ref x, y]) Q E s :=
  wpAny_call (codeAny_call_builtin F.cmp_object.ne.plain F.cmpEntry_ne (PySem.W.check_slot F.cmpKind_ne F.cmpSplit_ne (I.type.andThen (PySem.W.looks_mroIn X hm)) (F.cmpArgs_ne _ _)
    (neEntry room X I he hf h)))
theorem neBound {Q : Option Value → Shared → Prop} {M : Model} (X : K.In s.heap) (I : PySem.W.InstAt s.heap x ox C od) (hn : PySem.W.findIn K (.ref C) "__ne__" = some (some (.builtin "object.__ne__")))
    (h : wpAny M A (call (.builtin "object.__ne__") [.ref x, y]) (fun v => Q (some v)) E s) : wpAny M A (callSpecialIfBound? (.ref x) "__ne__" [y]) Q E s := by
  have last : wpAny M A (call (.builtin "object.__ne__") ([.ref x] ++ [y]) >>= fun v => pure (some v)) Q E s := by
    refine wpAny_bind (wpAny_mono h (fun v s' z => ?_) fun _ _ z => z)
    exact wpAny_pure z
  simp only [callSpecialIfBound?, bindSpecialIfBound?]
  refine wpAny_holding (wpAny_bind (wpAny_bind (wpAny_bind (I.type.here ?_))))
  refine (PySem.W.looks_findIn X hn).here (wpAny_bind (wpAny_askSetting (wpAny_ite ?_)))
  have bd := F.cmp_object.ne.bind (.ref x)
  split
  · refine wpAny_bind (wpAny_of_eq bd ?_)
    exact wpAny_pure (by exact last)
  · refine wpAny_tryCatch (wpAny_bind (wpAny_of_eq bd ?_))
    exact wpAny_pure (by exact last)
theorem neRich {Q : Value → Shared → Prop} {tb : Value} (room : A.units + 1 < cLine) (X : K.In s.heap) (I : PySem.W.InstAt s.heap x ox C od) (hb : PySem.W.Looks (model prog w) s.heap (typeOf y) tb) (nf : PySem.W.notFirst K C tb = true)
    (hm : PySem.W.mroIn K C (.type "object") = some true) (hn : PySem.W.findIn K (.ref C) "__ne__" = some (some (.builtin "object.__ne__"))) (he : PySem.W.findIn K (.ref C) "__eq__" = some (some (.ref f))) (hf : PySem.W.isFn K (.ref f) = true)
    (h : wpAny (model prog w) A.in1 (call (.ref f) [.ref x, y]) (fun v s' => ∃ b, v = .bool b ∧ Q (.bool (!b)) s') E s) : wpAny (model prog w) A (richCompare .NotEq (.ref x) y) Q E s := by
  have one : wpAny (model prog w) A (tryCompare (.ref x) "__ne__" y) (fun r s' => ∃ b, r = some (.bool b) ∧ Q (.bool b) s') E s := by
    unfold tryCompare
    refine wpAny_bind (neBound X I hn (neCall (show A.in1.units < cLine from room) X I hm he hf (wpAny_mono h (fun v s' z => ?_) fun _ _ z => z)))
    obtain ⟨b, rfl, q⟩ := z
    exact ⟨b, rfl, wpAny_pure ⟨_, rfl, q⟩⟩
  unfold richCompare
  simp only [oneThing_ref]
  rw [cmpInfo_NotEq]
  refine wpAny_holding (wpAny_bind (wpAny_cRoomFor (Nat.lt_of_succ_lt room) ?_))
  refine wpAny_bind (I.type.here ?_)
  refine wpAny_bind (hb.here ?_)
  split
  · rename_i q
    have sub : PySem.W.subIn K tb (.ref C) = some false := by
      rcases Bool.or_eq_true_iff.mp nf with z | z
      · rw [beq_iff_eq.mp z] at q
        simp at q
      · exact beq_iff_eq.mp z
    refine wpAny_bind ((PySem.W.looks_subIn X sub).here ?_)
    simp only [Bool.false_eq_true, if_false]
    refine wpAny_bind (wpAny_mono one (fun r s' z => ?_) fun _ _ z => z)
    obtain ⟨b, rfl, q2⟩ := z
    exact wpAny_pure q2
  · refine wpAny_bind (wpAny_pure ?_)
    simp only [Bool.false_eq_true, if_false]
    refine wpAny_bind (wpAny_mono one (fun r s' z => ?_) fun _ _ z => z)
    obtain ⟨b, rfl, q2⟩ := z
    exact wpAny_pure q2
end
/-- which types come behind an own class -/
theorem nf_own {K : PySem.W.Frag} {C : Addr} : PySem.W.notFirst K C (.ref C) = true := by
  unfold PySem.W.notFirst
  simp
theorem nf_sub {K : PySem.W.Frag} {C : Addr} {t : Value} (h : PySem.W.subIn K t (.ref C) = some false) : PySem.W.notFirst K C t = true := by
  unfold PySem.W.notFirst
  rw [h]
  simp
theorem nf_ty {K : PySem.W.Frag} {C : Addr} {T : String} {l : List String} (h : fastBuiltinMro T = some (l.map Value.type)) : PySem.W.notFirst K C (.type T) = true := by
  refine nf_sub ?_
  show (fastBuiltinMro T).map (·.contains (.ref C)) = some false
  rw [h]
  have z : (l.map Value.type).contains (.ref C) = false := by
    rw [Bool.eq_false_iff]
    intro z
    have m := List.contains_iff_mem.mp z
    simp at m
  exact congrArg some z
section
variable {X : Cx} {CX : CXT} {C g : Addr} {n : Nat} {sp : Sp} {E : XK}
/-- what an own == promises for such values: a truth -/
def rOwnB (K : PySem.W.Frag) (C : Addr) (sp : Sp) (E : XK) (neg : Bool) : R2 := fun x y H Q => ∃ (a dx : Addr) (fs : List (Str × V)) (t : Value), x = .ref a ∧ H a = some (.ins C dx fs) ∧ TyX K H y t ∧ PySem.W.notFirst K C t = true ∧ sp [x, y] H (fun z H' => ∃ b, z = .bl b ∧ Q (.bl (neg ^^ b)) H') E
theorem op_eqO (he : PySem.W.findIn X.K (.ref C) "__eq__" = some (some (.ref g))) (hf : PySem.W.isFn X.K (.ref g) = true) (F : FnR X.prog X.w X.K X.mg X.base CX n g sp) (hr : Room n X.A) (hx : Passes CX X E) : OpR X (compareOp .Eq) (rOwnB X.K C sp E false) := by
  intro pins s σ H x y v u Q I rx ry h
  obtain ⟨a, dx, fs, t, rfl, ha, ty, nf, q⟩ := h
  cases (show v = Value.ref a from rx)
  obtain ⟨mA, J, _⟩ := ins_get I.hok ha
  obtain ⟨od, J, _⟩ := J.look
  obtain ⟨m, hF⟩ := I.fr
  obtain ⟨P, Z, hP, _⟩ := kit_of I ry ty
  show wpAny _ _ (richCompare .Eq (.ref a) u) _ _ s
  refine PySem.W.cmp_K (op := .Eq) hr.units0 hF I.ok.mod.kin J (Z.ty _ _ I.kIn hP) nf he hf ?_
  refine wpAny_mono (wpAny_call (SlX.run_at (us := [.ref a, u]) (ws := [.ref a, y]) F hr I.env0 hx I (.cons rfl (.cons ry .nil)) q)) (fun w' s' z => ?_) fun _ _ z => z
  obtain ⟨z', H', I', rz, b, rfl, q'⟩ := z
  cases (show w' = Value.bool b from rz)
  have q' : Q (.bl b) H' := by simpa using q'
  exact ⟨.bl b, H', I', rfl, q'⟩
theorem op_neO (he : PySem.W.findIn X.K (.ref C) "__eq__" = some (some (.ref g))) (hn : PySem.W.findIn X.K (.ref C) "__ne__" = some (some (.builtin "object.__ne__"))) (hm : PySem.W.mroIn X.K C (.type "object") = some true) (hf : PySem.W.isFn X.K (.ref g) = true)
    (F : FnR X.prog X.w X.K X.mg X.base CX n g sp) (hr : Room (n + 1) X.A) (hx : Passes CX X E) : OpR X (compareOp .NotEq) (rOwnB X.K C sp E true) := by
  intro pins s σ H x y v u Q I rx ry h
  obtain ⟨a, dx, fs, t, rfl, ha, ty, nf, q⟩ := h
  cases (show v = Value.ref a from rx)
  obtain ⟨mA, J, _⟩ := ins_get I.hok ha
  obtain ⟨od, J, _⟩ := J.look
  obtain ⟨P, Z, hP, _⟩ := kit_of I ry ty
  have hr1 : Room n X.A.in1 := hr.in1
  show wpAny _ _ (richCompare .NotEq (.ref a) u) _ _ s
  refine neRich (by have := hr1.units0; exact this) I.kIn J (Z.ty _ _ I.kIn hP) nf hm hn he hf ?_
  refine wpAny_mono (wpAny_call (SlX.run_at (us := [.ref a, u]) (ws := [.ref a, y]) F hr1 I.env0.in1 hx I (.cons rfl (.cons ry .nil)) q)) (fun w' s' z => ?_) fun _ _ z => z
  obtain ⟨z', H', I', rz, b, rfl, q'⟩ := z
  cases (show w' = Value.bool b from rz)
  have q' : Q (.bl (!b)) H' := by simpa using q'
  exact ⟨b, rfl, .bl (!b), H', I', rfl, q'⟩
end
end Ev
namespace Ev
open PySem L2 PySem.Spec PyProof.Rows
/-! zip of a tuple and a list. -/
def ItM (K : PySem.W.Frag) (a b : Addr) : It where
  go i H := ∃ us ws : List V, SqT K H a us ∧ SqL K H b ws ∧ i < us.length ∧ i < ws.length
  yld i H v H' := ∃ T x y, v = .ref T ∧ H T = none ∧ H' = upd H T (.tup [x, y]) ∧ (∀ us, SqT K H a us → us[i]? = some x) ∧ ∀ ws, SqL K H b ws → ws[i]? = some y
  stop i H := ∃ us ws : List V, SqT K H a us ∧ SqL K H b ws ∧ i ≤ us.length ∧ i ≤ ws.length ∧ (i = us.length ∨ i = ws.length)
theorem sep_of {I a b : Addr} (ha : a < I) (hb : b < I) : ZipSep2 (I + 4) (I + 2) (I + 3) I (I + 1) [I, a] [I + 1, b] := by
  have e : ∀ k : Nat, a ≠ I + k ∧ b ≠ I + k := fun k => ⟨Nat.ne_of_lt (Nat.lt_of_lt_of_le ha (Nat.le_add_right I k)), Nat.ne_of_lt (Nat.lt_of_lt_of_le hb (Nat.le_add_right I k))⟩
  have n : ∀ k l : Nat, k ≠ l → (I + k : Nat) ≠ I + l := fun k l h z => h (Nat.add_left_cancel z)
  have n0 : ∀ k : Nat, 0 ≠ k → (I : Nat) ≠ I + k := fun k h => n 0 k h
  refine ⟨n 2 4 (by decide), n 3 4 (by decide), n 2 3 (by decide), (n0 2 (by decide)).symm, List.mem_cons_self, ?_, ?_, n 2 1 (by decide), List.mem_cons_self, ?_, ?_, ?_, ?_⟩
  · intro z
    rcases List.mem_cons.mp z with z | z
    · exact n0 4 (by decide) z.symm
    · exact (e 4).1 (List.mem_singleton.mp z).symm
  · intro z
    rcases List.mem_cons.mp z with z | z
    · exact n0 3 (by decide) z.symm
    · exact (e 3).1 (List.mem_singleton.mp z).symm
  · intro z
    rcases List.mem_cons.mp z with z | z
    · exact n 4 1 (by decide) z
    · exact (e 4).2 (List.mem_singleton.mp z).symm
  · intro z
    rcases List.mem_cons.mp z with z | z
    · exact n 3 1 (by decide) z
    · exact (e 3).2 (List.mem_singleton.mp z).symm
  · intro z
    rcases List.mem_cons.mp z with z | z
    · exact n0 1 (by decide) z
    · exact (e 0).2 (List.mem_singleton.mp z).symm
  · intro z
    rcases List.mem_cons.mp z with z | z
    · exact n0 1 (by decide) z.symm
    · exact (e 1).1 (List.mem_singleton.mp z).symm
/-- the five cells of such a zip -/
def cellsM (I : Addr) : List Addr := [I + 4, I + 2, I + 3, I, I + 1]
theorem cellsM_of {I c : Addr} (h : c ∈ cellsM I) : c = I + 4 ∨ c = I + 2 ∨ c = I + 3 ∨ c = I ∨ c = I + 1 := by simpa [cellsM] using h
theorem cells_ge {I c : Addr} (h : c ∈ cellsM I) : I ≤ c := by
  rcases cellsM_of h with z | z | z | z | z <;> rw [z]
  · exact Nat.le_add_right I 4
  · exact Nat.le_add_right I 2
  · exact Nat.le_add_right I 3
  · exact Nat.le_refl I
  · exact Nat.le_add_right I 1
def tnM (I a b : Addr) (i : Nat) (h : Heap) : Prop := IsZip h (I + 4) (I + 2) (I + 3) .none ∧ IsTupOf2 h (I + 2) (.ref I) (.ref (I + 1)) ∧ (∃ x y, IsTupOf2 h (I + 3) x y) ∧ h.IsTupleIter I a i ∧ h.IsListIter (I + 1) b i
theorem turnM {P : Program} {w : World} {K : PySem.W.Frag} {elts : List Expr} {kk : Nat} {tpos : Pos} {I a b : Addr} (ha : a < I) (hb : b < I) : Turn P w K (.Tuple elts kk tpos) (ItM K a b) (cellsM I) (I + 4) (tnM I a b) where
  mem := by simp [cellsM]
  obj := by
    rintro i h ⟨q1, q2, ⟨x, y, q3⟩, ⟨o1, p1, _, d1⟩, ⟨o2, p2, _, d2⟩⟩ c hc
    rcases cellsM_of hc with rfl | rfl | rfl | rfl | rfl
    · exact ⟨_, q1, fun v z => by cases z⟩
    · exact ⟨_, q2, fun v z => by cases z⟩
    · exact ⟨_, q3, fun v z => by cases z⟩
    · exact ⟨o1, p1, fun v z => by rw [d1] at z; cases z⟩
    · exact ⟨o2, p2, fun v z => by rw [d2] at z; cases z⟩
  keep := by
    rintro i h h' ⟨q1, q2, ⟨x, y, q3⟩, q4, q5⟩ k
    refine ⟨k _ (by simp [cellsM]) _ q1, k _ (by simp [cellsM]) _ q2, ⟨x, y, k _ (by simp [cellsM]) _ q3⟩, q4.at fun o z => ?_, q5.at fun o z => ?_⟩
    · exact k _ (by simp [cellsM]) o z
    · exact k _ (by simp [cellsM]) o z
  item := by
    rintro X rfl rfl rfl hc i pins s σ H E J hf ⟨q1, q2, ⟨x0, y0, q3⟩, q4, q5⟩ ⟨us, ws, ku, kw, lu, lw⟩
    obtain ⟨its, rv, p, _⟩ := J.tuple ku
    obtain ⟨its2, rv2, p2, _⟩ := J.list kw
    obtain ⟨u, hu, ru⟩ := rv.get (List.getElem?_eq_getElem lu)
    obtain ⟨u2, hu2, ru2⟩ := rv2.get (List.getElem?_eq_getElem lw)
    have l1 := rv.length
    have l2 := rv2.length
    have hd : X.A.in1.handled = none := J.ok.hd hc
    refine wpAny_pyNext_zipD2_item (sep_of ha hb) (Draws.tuple hd I a (Nat.ne_of_lt ha) its.toArray) (Draws.list hd (I + 1) b (Nat.ne_of_lt (Nat.lt_succ_of_lt hb)) its2.toArray) q1 q2 q3 ⟨q4, p⟩ ⟨q5, p2.isList⟩ (by simp; omega) (by simp; omega) fun x1 x2 h' tk y1 y2 r1 r2 r3 r4 r5 r6 hk => ?_
    obtain rfl : u = x1 := by
      have e : its[i]? = some x1 := by simpa using y1
      rw [hu] at e
      exact Option.some.inj e
    obtain rfl : u2 = x2 := by
      have e : its2[i]? = some x2 := by simpa using y2
      rw [hu2] at e
      exact Option.some.inj e
    refine ⟨_, rfl, wpAny_letOwnedTupleGo_zip (s := { s with heap := h', toks := tk }) r1 fun h2 z2 sb => ?_⟩
    have zl : I + 4 < s.heap.objs.size := Heap.lt_size q1
    have fresh : H s.heap.objs.size = none := J.hok.fresh (Nat.le_refl _)
    have at2 : ∀ c o, c ≠ I + 4 → h'.get? c = some o → h2.get? c = some o := fun c o n e => (sb.2 c n).trans e
    have nT : s.heap.objs.size ≠ I + 4 := Nat.ne_of_gt zl
    have hT := at2 _ _ nT r5
    have kept : ∀ c o, c ∉ cellsM I → s.heap.get? c = some o → h2.get? c = some o := fun c o n e => by
      have m : c ≠ I + 4 ∧ c ≠ I + 3 ∧ c ≠ I ∧ c ≠ I + 1 := ⟨fun z => n (by simp [cellsM, z]), fun z => n (by simp [cellsM, z]), fun z => n (by simp [cellsM, z]), fun z => n (by simp [cellsM, z])⟩
      exact at2 c o m.1 (hk c o m.1 m.2.1 m.2.2.1 m.2.2.2 e)
    have S := sep_of ha hb
    have J1 := J.turnedNew (t' := tk) (ob := .tup [us[i], ws[i]]) (ch := cellsM I) kept hf (Nat.le_refl _) ⟨by show 2 ≤ sizeLine; decide, [u, u2], .cons ru (.cons ru2 .nil), ⟨_, hT, rfl, _, rfl⟩⟩
    refine ⟨.ref s.heap.objs.size, _, J1, rfl, ⟨_, _, _, rfl, fresh, rfl, fun l hl => ?_, fun l hl => ?_⟩, ⟨z2, ?_, ⟨_, _, at2 _ _ S.TOz r2⟩, ?_, ?_⟩, fun c hcm => ?_⟩
    · rw [J.tuple_inj hl ku]; exact List.getElem?_eq_getElem lu
    · rw [J.list_inj hl kw]; exact List.getElem?_eq_getElem lw
    · exact at2 _ _ S.TIz (hk _ _ S.TIz S.TITO S.TIi1 S.TIi2 q2)
    · exact r3.1.at fun o z => at2 _ o S.zi1.symm z
    · exact r4.1.at fun o z => at2 _ o S.zi2.symm z
    · have lt : c < s.heap.objs.size := by
        rcases cellsM_of hcm with rfl | rfl | rfl | rfl | rfl
        · exact zl
        · exact Heap.lt_size q2
        · exact Heap.lt_size q3
        · obtain ⟨_, z, _⟩ := q4; exact Heap.lt_size z
        · obtain ⟨_, z, _⟩ := q5; exact Heap.lt_size z
      rw [upd_ne (Nat.ne_of_lt lt)]
      exact (hf c hcm).1
  done := by
    rintro X rfl rfl rfl hc i pins s σ H E J hf ⟨q1, q2, ⟨x0, y0, q3⟩, q4, q5⟩ ⟨us, ws, ku, kw, lu, lw, le⟩
    obtain ⟨its, rv, p, _⟩ := J.tuple ku
    obtain ⟨its2, rv2, p2, _⟩ := J.list kw
    have l1 := rv.length
    have l2 := rv2.length
    have hd : X.A.in1.handled = none := J.ok.hd hc
    refine wpAny_pyNext_zipD2_end (sep_of ha hb) (Draws.tuple hd I a (Nat.ne_of_lt ha) its.toArray) (Draws.list hd (I + 1) b (Nat.ne_of_lt (Nat.lt_succ_of_lt hb)) its2.toArray) q1 q2 q3 ⟨q4, p⟩ ⟨q5, p2.isList⟩ (by simp; omega) (by simp; omega) (by simp; omega) fun h' tk hk => ⟨rfl, ?_⟩
    refine J.turnedL (t' := tk) (ch := cellsM I) (fun c o n e => ?_) hf
    have m : c ≠ I + 4 ∧ c ≠ I + 3 ∧ c ≠ I ∧ c ≠ I + 1 := ⟨fun z => n (by simp [cellsM, z]), fun z => n (by simp [cellsM, z]), fun z => n (by simp [cellsM, z]), fun z => n (by simp [cellsM, z])⟩
    exact hk c o m.1 m.2.1 m.2.2.1 m.2.2.2 e
  self := fun A i s Q E st h => wpAny_pyIter_zip st.1 h
def iZipM (K : PySem.W.Frag) (ta : TA) : TI := fun σ H R => ta σ H fun vs H1 => ∃ a b us ws, vs = [.ref a, .ref b] ∧ SqT K H1 a us ∧ SqL K H1 b ws ∧ R (ItM K a b) H1
theorem pi_zipM {X : Cx} {e e2 : Expr} {ta : TA} {p pos tpos : Pos} {elts : List Expr} {kk : Nat} (hg : Gl X "zip") (hm : X.mg "zip" = none) (ha : PA X [e, e2] ta)
    (hs : starEach [e, e2] X.env = (false, eval e X.env) :: starEach [e2] X.env := by rfl) (hpl : (backTo pos (starEach [e2] X.env)).any (·.1) = false := by rfl) :
    PI X (.Tuple elts kk tpos) (.Call (.Name "zip" p) [e, e2] [] pos) (iZipM X.K ta) := by
  constructor
  intro pins s σ H R I h
  refine Call_ (ld_blt I hg hm PyProof.Rows.boot_zip (PyProof.Rows.callWith_type1 (thn (ha.run pos pins s σ H _ I h) fun us s1 hh => ?_) hs hpl))
  obtain ⟨vs, H1, I1, r1, a, b, xs, ys, rfl, ka, kb, q⟩ := hh
  obtain ⟨w1, w2, rfl, e1, e2⟩ := vals2 r1
  obtain rfl : w1 = Value.ref a := e1
  obtain rfl : w2 = Value.ref b := e2
  obtain ⟨its, rv, p1, _⟩ := I1.tuple ka
  obtain ⟨its2, rv2, p2, _⟩ := I1.list kb
  have la : a < s1.heap.objs.size := by obtain ⟨_, z, _⟩ := id p1; exact Heap.lt_size z
  refine zip_begins2 (begins_tuple a its.toArray) (begins_list b its2.toArray) p1 p2.isList fun h' g1 g2 g3 g4 g5 g6 hk => ?_
  refine wpAny_pyIter_zip g1 ?_
  refine ⟨_, cellsM s1.heap.objs.size, tnM s1.heap.objs.size a b, ItM X.K a b, H1, rfl, I1.kept (t' := s1.toks) hk, turnM la p2.lt, ⟨g1, g2, ⟨_, _, g3⟩, ⟨_, g4, rfl, rfl⟩, ⟨_, g5, rfl, rfl⟩⟩, fun c hc => ?_, q⟩
  exact (I1.fpOk (cells_ge hc) (I1.hok.fresh (cells_ge hc)))
end Ev
namespace Ev
open PySem L2 PySem.Spec PyProof.Rows
abbrev sIsInt : Stmt := top 14
abbrev sTInit : Stmt := inClass (top 23) 0
abbrev sTLen : Stmt := inClass (top 23) 1
abbrev sAmount : Stmt := inClass (top 23) 2
abbrev sTCall : Stmt := inClass (top 23) 3
abbrev sTEq : Stmt := inClass (top 23) 10
abbrev sIsL : Stmt := top 24
abbrev sAreP : Stmt := top 25
abbrev sPen : Stmt := top 29
abbrev sPick : Stmt := top 31
abbrev sSmall : Stmt := top 32
abbrev sNum : Stmt := top 33
abbrev sTAdd : Stmt := inClass (top 23) 4
abbrev sTMul : Stmt := inClass (top 23) 5
abbrev sTRmul : Stmt := inClass (top 23) 6
abbrev sTNeg : Stmt := inClass (top 23) 7
abbrev sTInv : Stmt := inClass (top 23) 8
abbrev sTight : Stmt := inClass (top 23) 9
abbrev sTStr : Stmt := inClass (top 23) 11
abbrev sWord : Stmt := top 18
abbrev sWords : Stmt := top 19
abbrev sScaled : Stmt := top 26
abbrev sRead : Stmt := inClass (top 23) 12
abbrev sReadN : Stmt := top 20
abbrev sFirst : Stmt := top 27
abbrev sIsNum : Stmt := top 34
abbrev sDue : Stmt := top 35
abbrev sHeard : Stmt := top 36
abbrev sRight : Stmt := top 37
abbrev sBent : Stmt := top 38
abbrev sLaw : Stmt := top 39
theorem same_new {H : Hp} {q : Addr} {o : HO} (n : H q = none) : Same H (upd H q o) := fun b u e => by rw [upd_ne (ne_of_none e n)]; exact e
theorem Same.gone {H H' : Hp} {p : Addr} (k : Same H H') (n : H' p = none) : H p = none := by
  cases z : H p with
  | none => rfl
  | some o => rw [k _ _ z] at n; cases n
section
variable {X : Cx}
theorem pe_never {e : Expr} : PE X e (fun _ _ _ => False) := ⟨fun _ _ _ _ _ _ h => h.elim⟩
theorem pe_or {e : Expr} {t t' : TE} (h : PE X e t) (h' : PE X e t') : PE X e (fun σ H Q => t σ H Q ∨ t' σ H Q) :=
  ⟨fun pins s σ H Q I q => q.elim (h.run pins s σ H Q I) (h'.run pins s σ H Q I)⟩
theorem pi_or {tg e : Expr} {t t' : TI} (h : PI X tg e t) (h' : PI X tg e t') : PI X tg e (fun σ H R => t σ H R ∨ t' σ H R) :=
  ⟨fun pins s σ H R I q => q.elim (h.run pins s σ H R I) (h'.run pins s σ H R I)⟩
theorem pe_imp {e : Expr} {t t' : TE} (h : PE X e t) (k : ∀ σ H Q, t' σ H Q → t σ H Q) : PE X e t' := ⟨fun pins s σ H Q I q => h.run pins s σ H Q I (k σ H Q q)⟩
end
theorem fnr_of {P : Program} {w : World} {K : PySem.W.Frag} {mg : Str → Option Value} {base : Heap} {CX : CXT} {k : Nat} {f : Addr} {fd : FuncData} {ps : List Str} {sp : Sp} (F : FnOk P w K mg base CX k f fd ps sp) (b : Binds K fd ps []) : FnR P w K mg base CX k f sp := by
  intro A above s H us vs Q E room env rv hs
  have hl : us.length = ps.length := rv.length.symm.trans (F.len _ _ _ _ hs)
  have bt := b s us (env.mod.kin.keeps fun b o e => (env.bs b o e).1) (by rw [List.append_nil]; exact hl)
  rw [List.append_nil] at bt
  exact F.run A above s H ⟨us, []⟩ us vs Q E room env bt rv hs
/-- a def that stands under its name -/
structure Df (P : Program) (w : World) (K : PySem.W.Frag) (mg : Str → Option Value) (base : Heap) (k : Nat) (x : Str) (ps : List Str) (sp : Sp) : Prop where
  ex : ∃ (f : Addr) (fd : FuncData), FnOk P w K mg base CX0 k f fd ps sp ∧ mg x = some (.ref f) ∧ PySem.W.keepIn K (.ref f) = true ∧ Binds K fd ps []
/-- a list or a tuple of ints -/
def Ints (H : Hp) (a : Addr) (ns : List Int) : Prop := H a = some (.lst (ns.map V.int)) ∨ H a = some (.tup (ns.map V.int))
theorem Ints.keep {H H' : Hp} {a : Addr} {ns : List Int} (h : Ints H a ns) (k : Same H H') : Ints H' a ns := h.imp (k _ _) (k _ _)
def testF (t : Addr) (b : Int) : List (Str × V) := [("parts", .ref t), ("bound", .int b)]
/-- a test: its parts and its bound -/
def TestAt (C : Addr) (H : Hp) (x : Addr) (ps : List Int) (b : Int) : Prop := ∃ dx t, H x = some (.ins C dx (testF t b)) ∧ H t = some (.tup (ps.map V.int))
theorem TestAt.keep {C : Addr} {H H' : Hp} {x : Addr} {ps : List Int} {b : Int} (h : TestAt C H x ps b) (k : Same H H') : TestAt C H' x ps b := by
  obtain ⟨dx, t, h1, h2⟩ := h
  exact ⟨dx, t, k _ _ h1, k _ _ h2⟩
def Sm (n : Int) : Prop := n.natAbs < 2 ^ 140
def AllSm (ns : List Int) : Prop := ∀ n ∈ ns, Sm n
def sumI (ps ns : List Int) : Int := (List.zipWith (fun a b => a * b) ps ns).sum
def spIsInt : Sp := fun vs H Q _ => ∃ i : Int, vs = [.int i] ∧ Q (.bl true) H
def spIsL : Sp := fun vs H Q _ => ∃ (a : Addr) (ns : List Int), vs = [.ref a] ∧ Ints H a ns ∧ ns.length ≤ 1000 ∧ ∀ H', Same H H' → Q (.bl true) H'
def spAreP : Sp := fun vs H Q _ => ∃ (a : Addr) (ns : List Int), vs = [.ref a] ∧ Ints H a ns ∧ 1 ≤ ns.length ∧ ns.length ≤ 5 ∧ ∀ H', Same H H' → Q (.bl true) H'
def spTInit (C : Addr) : Sp := fun vs H Q _ => ∃ (x dx a : Addr) (ns : List Int) (b : Int), vs = [.ref x, .ref a, .int b] ∧ H x = some (.ins C dx []) ∧ Ints H a ns ∧ 1 ≤ ns.length ∧ ns.length ≤ 5 ∧
  ∀ H' t, But x H H' → H' x = some (.ins C dx (testF t b)) → H' t = some (.tup (ns.map V.int)) → Q .non H'
def spTLen (C : Addr) : Sp := fun vs H Q _ => ∃ (x : Addr) (ps : List Int) (b : Int), vs = [.ref x] ∧ TestAt C H x ps b ∧ ps.length ≤ 1000 ∧ Q (.int ps.length) H
def spAmount (C : Addr) : Sp := fun vs H Q _ => ∃ (x a : Addr) (ps ns : List Int) (b : Int), vs = [.ref x, .ref a] ∧ TestAt C H x ps b ∧ Ints H a ns ∧ ps.length = ns.length ∧ ps.length ≤ 1000 ∧ AllSm ps ∧ AllSm ns ∧ ∀ H', Same H H' → Q (.int (sumI ps ns)) H'
def spTCall (C : Addr) : Sp := fun vs H Q _ => ∃ (x a : Addr) (ps ns : List Int) (b : Int), vs = [.ref x, .ref a] ∧ TestAt C H x ps b ∧ Ints H a ns ∧ ps.length = ns.length ∧ ps.length ≤ 1000 ∧ AllSm ps ∧ AllSm ns ∧ ∀ H', Same H H' → Q (.bl (decide (b ≤ sumI ps ns))) H'
theorem lk_hit {k : Str} {v : V} {l : List (Str × V)} : List.lookup k ((k, v) :: l) = some v := by simp [List.lookup]
theorem lk_miss {k k' : Str} {v : V} {l : List (Str × V)} (h : ¬ k = k') : List.lookup k ((k', v) :: l) = List.lookup k l := by
  have : (k == k') = false := by simpa using h
  simp [List.lookup, this]
theorem test_parts (t : Addr) (b : Int) : (testF t b).lookup ("parts" : Str) = some (.ref t) := lk_hit
theorem test_bound (t : Addr) (b : Int) : (testF t b).lookup ("bound" : Str) = some (.int b) := (lk_miss (by decide +kernel)).trans lk_hit
theorem put_test (t : Addr) (b : Int) : putF "bound" (.int b) (putF "parts" (.ref t) []) = testF t b := by
  show (if ("parts" : Str) = "bound" then _ else _) = _
  rw [if_neg (by decide +kernel)]
  rfl
def kk2 (C x dx t : Addr) (b : Int) (H2 : Hp) (Q : VK) : Prop := Q .non (upd (upd H2 x (.ins C dx (putF "parts" (.ref t) []))) x (.ins C dx (putF "bound" (.int b) (putF "parts" (.ref t) []))))
/-- the class of tests -/
structure TCls (K : PySem.W.Frag) (C : Addr) : Prop where
  cl : Cls K C
  n1 : NoAttr K C "parts"
  n2 : NoAttr K C "bound"
theorem walk_M {K : PySem.W.Frag} {a b : Addr} {xs ys : List V} {n : Nat} (hn : n = xs.length) (hl : xs.length = ys.length) : Walk (ItM K a b) n (fun H => SqT K H a xs ∧ SqL K H b ys) (YPair (fun i => xs[i]?) (fun i => ys[i]?)) := by
  subst hn
  refine ⟨fun i H hi q => ⟨xs, ys, q.1, q.2, hi, by omega⟩, fun H q => ⟨xs, ys, q.1, q.2, Nat.le_refl _, by omega, .inl rfl⟩, fun i H v H' hi q y => ?_⟩
  obtain ⟨T, x, z, h1, h2, h3, h4, h5⟩ := y
  exact ⟨T, x, z, h1, h2, h3, h4 xs q.1, h5 ys q.2⟩
theorem walk_TT {K : PySem.W.Frag} {a b : Addr} {xs ys : List V} {n : Nat} (hn : n = xs.length) (hl : xs.length = ys.length) : Walk (RZ.ItzT K a b) n (fun H => SqT K H a xs ∧ SqT K H b ys) (YPair (fun i => xs[i]?) (fun i => ys[i]?)) := by
  subst hn
  refine ⟨fun i H hi q => ⟨xs, ys, _, _, q.1, q.2, List.getElem?_eq_getElem hi, List.getElem?_eq_getElem (by omega)⟩, fun H q => ⟨xs, ys, q.1, q.2, .inl (Nat.le_refl _)⟩, fun i H v H' hi q y => ?_⟩
  obtain ⟨T, x, z, h1, h2, h3, h4, h5⟩ := y
  exact ⟨T, x, z, h1, h2, h3, h4 xs q.1, h5 ys q.2⟩
theorem int_at {ns : List Int} {i : Nat} {x : V} (h : (ns.map V.int)[i]? = some x) : ∃ n, ns[i]? = some n ∧ x = .int n := by
  rw [List.getElem?_map] at h
  cases z : ns[i]? with
  | none => rw [z] at h; cases h
  | some n => rw [z] at h; exact ⟨n, rfl, (Option.some.inj h).symm⟩
theorem zip_at {ps ns : List Int} {i : Nat} {p n : Int} (h1 : ps[i]? = some p) (h2 : ns[i]? = some n) : (List.zipWith (fun a b => a * b) ps ns)[i]? = some (p * n) := by
  rw [List.getElem?_zipWith, h1, h2]
theorem mulW {p n : Int} (h1 : Sm p) (h2 : Sm n) : CMulW p n := wide_mul h1 h2 (by decide) (by decide) (by decide)
section
variable {P : Program} {w : World} {K : PySem.W.Frag} {mg : Str → Option Value} {base : Heap}
theorem scIsInt : FnScope ["value"] ["value"] (defScope sIsInt) := ⟨rfl, rfl, rfl, by decide +kernel, rfl, by decide +kernel, by decide +kernel⟩
theorem ok_isInt {f : Addr} {fd : FuncData} (F : Fun K "is_integer" "is_integer" sIsInt f fd) (T : Blt mg) : FnOk P w K mg base CX0 1 f fd ["value"] spIsInt := by
  refine F.ok scIsInt (fun vs H Q E h => ?_) (fun cdv A outer s H vs Q E hr h => ?_)
  · obtain ⟨i, rfl, _⟩ := h
    rfl
  · obtain ⟨i, rfl, k⟩ := h
    refine ⟨_, pss_one (ps_ret (pe_and (pe_callB call_isi (by rfl) T.isi (by decide +kernel) (pa_cons (pv 0) (pa_cons (pe_bltn (v := .ty "int") (by rfl) T.int (by decide +kernel) rfl) pa_nil)))
      (pe_one (pe_not (pe_callB call_isi (by rfl) T.isi (by decide +kernel) (pa_cons (pv 0) (pa_cons (pe_bltn (v := .ty "bool") (by rfl) T.bool (by decide +kernel) rfl) pa_nil))))))), ?_⟩
    exact ⟨_, rfl, _, _, _, _, true, rfl, .ty _, .base (.int i), kit_ty (by decide +kernel), true, rfl, iteT ⟨_, rfl, _, _, _, _, false, rfl, .ty _, .base (.int i), kit_ty (by decide +kernel), _, rfl, k⟩⟩
theorem kit_any2 {T a b : String} {r1 r2 : Bool} (h1 : kitB T a = some r1) (h2 : kitB T b = some r2) : PySem.W.kitAny K (.type T) [.type a, .type b] = some (r1 || r2) := by
  refine kitAny_cons (kit_ty h1) (fun e => ?_) (fun e => by rw [e]; rfl)
  refine kitAny_cons (kit_ty h2) (fun e2 => ?_) (fun e2 => by rw [e, e2]; rfl)
  rw [e, e2]
  exact kitAny_nil
theorem scIsL : FnScope ["value", "item"] ["value"] (defScope sIsL) := ⟨rfl, rfl, rfl, by decide +kernel, rfl, by decide +kernel, by decide +kernel⟩
theorem all_true (n : Nat) : (List.replicate n true).all id = true := by
  induction n with
  | zero => rfl
  | succ n ih => rw [List.replicate_succ, List.all_cons, ih]; rfl
theorem ok_isL {f : Addr} {fd : FuncData} (F : Fun K "is_list_of_integers" "is_list_of_integers" sIsL f fd) (T : Blt mg) (D : Df P w K mg base 1 "is_integer" ["value"] spIsInt) : FnOk P w K mg base CX0 2 f fd ["value"] spIsL := by
  refine F.ok scIsL (fun vs H Q E h => ?_) (fun cdv A outer s H vs Q E hr h => ?_)
  · obtain ⟨a, ns, rfl, _⟩ := h
    rfl
  · obtain ⟨a, ns, rfl, ha, hn, k⟩ := h
    refine ⟨_, pss_cons (ps_if (pt_not (pt_val (pe_callB call_isiT (by rfl) T.isi (by decide +kernel) (pa_cons (pv 0) (pa_cons (pe_tup (pa_cons (pe_bltn (v := .ty "list") (by rfl) T.list (by decide +kernel) rfl) (pa_cons (pe_bltn (v := .ty "tuple") (by rfl) T.tuple (by decide +kernel) rfl) pa_nil))) pa_nil))))) (pss_one ps_never) pss_nil)
      (pss_cons (ps_for PassesOwn.never rfl (pi_or (pi_list (pv 0)) (pi_tup (pv 0))) (pg_name (i := 1) scIsL.nd rfl (.inl rfl))
        (pss_one (ps_if (PW.pt (pw_or (pt_not (pt_val (pe_callB call_isi (by rfl) T.isi (by decide +kernel) (pa_cons (pv 1) (pa_cons (pe_bltn (v := .ty "int") (by rfl) T.int (by decide +kernel) rfl) pa_nil))))) (pw_or1 (pt_val (pe_callB call_isi (by rfl) T.isi (by decide +kernel) (pa_cons (pv 1) (pa_cons (pe_bltn (v := .ty "bool") (by rfl) T.bool (by decide +kernel) rfl) pa_nil))))))) (pss_one ps_never) pss_nil)))
      (pss_one (ps_ret pe_bl))), ?_⟩
    have turn : ∀ {x : V} {i : Nat}, (ns.map V.int)[i]? = some x → ∃ n, V.int n = x := fun {x i} hx => by
      rw [List.getElem?_map] at hx
      cases z : ns[i]? with
      | none => rw [z] at hx; cases hx
      | some n => rw [z] at hx; exact ⟨n, Option.some.inj hx⟩
    rcases ha with ha | ha
    · refine ⟨_, rfl, (by show 2 ≤ sizeLine; decide), fun tp ntp => ⟨.ref a, tp, _, _, _, true, rfl, upd_same, .cons (.ty _) (.cons (.ty _) .nil), .base (.lst (same_new ntp _ _ ha)), kit_any2 (r1 := true) (r2 := false) (by decide +kernel) (by decide +kernel), _, rfl, iteF ?_⟩⟩
      have s1 := same_new (o := .tup [.ty "list", .ty "tuple"]) ntp
      have h1 := s1 _ _ ha
      generalize upd H tp (.tup [.ty "list", .ty "tuple"]) = H1 at s1 h1 ⊢
      refine .inl ⟨_, rfl, a, rfl, ⟨_, SqL.of h1⟩, ?_⟩
      have wk : Walk (Itl K a) ns.length (fun H => SqL K H a (ns.map V.int)) (YAt (ns.map V.int)) := by
        have w := walk_list (K := K) (a := a) (xs := ns.map V.int)
        rw [List.length_map] at w
        exact w
      refine for_it wk (fun i σ H' => H' = H1 ∧ ∃ z, σ = [some (.ref a), z]) ⟨rfl, _, rfl⟩ (fun i σ H' _ h => by rw [h.1]; exact SqL.of h1) (fun i v σ H2 H3 hi h y => ?_) (fun σ H' h => ?_)
      · obtain ⟨rfl, z, rfl⟩ := h
        obtain ⟨rfl, hx⟩ := y
        obtain ⟨n, rfl⟩ := turn hx
        exact ⟨_, rfl, _, _, _, _, true, rfl, .ty _, .base (.int n), kit_ty (by decide +kernel), _, rfl, iteF ⟨_, rfl, _, _, _, _, false, rfl, .ty _, .base (.int n), kit_ty (by decide +kernel), _, rfl, iteF ⟨rfl, _, rfl⟩⟩⟩
      · obtain ⟨rfl, z, rfl⟩ := h
        exact k _ s1
    · refine ⟨_, rfl, (by show 2 ≤ sizeLine; decide), fun tp ntp => ⟨.ref a, tp, _, _, _, true, rfl, upd_same, .cons (.ty _) (.cons (.ty _) .nil), .base (.tup (same_new ntp _ _ ha)), kit_any2 (r1 := false) (r2 := true) (by decide +kernel) (by decide +kernel), _, rfl, iteF ?_⟩⟩
      have s1 := same_new (o := .tup [.ty "list", .ty "tuple"]) ntp
      have h1 := s1 _ _ ha
      generalize upd H tp (.tup [.ty "list", .ty "tuple"]) = H1 at s1 h1 ⊢
      refine .inr ⟨_, rfl, a, rfl, ⟨_, SqT.of h1⟩, ?_⟩
      have wk : Walk (Itt K a) ns.length (fun H => SqT K H a (ns.map V.int)) (YAt (ns.map V.int)) := by
        have w := walk_tup (K := K) (a := a) (xs := ns.map V.int)
        rw [List.length_map] at w
        exact w
      refine for_it wk (fun i σ H' => H' = H1 ∧ ∃ z, σ = [some (.ref a), z]) ⟨rfl, _, rfl⟩ (fun i σ H' _ h => by rw [h.1]; exact SqT.of h1) (fun i v σ H2 H3 hi h y => ?_) (fun σ H' h => ?_)
      · obtain ⟨rfl, z, rfl⟩ := h
        obtain ⟨rfl, hx⟩ := y
        obtain ⟨n, rfl⟩ := turn hx
        exact ⟨_, rfl, _, _, _, _, true, rfl, .ty _, .base (.int n), kit_ty (by decide +kernel), _, rfl, iteF ⟨_, rfl, _, _, _, _, false, rfl, .ty _, .base (.int n), kit_ty (by decide +kernel), _, rfl, iteF ⟨rfl, _, rfl⟩⟩⟩
      · obtain ⟨rfl, z, rfl⟩ := h
        exact k _ s1
theorem Ints.sq {H : Hp} {a : Addr} {ns : List Int} (h : Ints H a ns) : SqL K H a (ns.map V.int) ∨ SqT K H a (ns.map V.int) := h.imp SqL.of SqT.of
theorem scAreP : FnScope ["value"] ["value"] (defScope sAreP) := ⟨rfl, rfl, rfl, by decide +kernel, rfl, by decide +kernel, by decide +kernel⟩
theorem ok_areP {f : Addr} {fd : FuncData} (F : Fun K "are_parts" "are_parts" sAreP f fd) (T : Blt mg) (D : Df P w K mg base 2 "is_list_of_integers" ["value"] spIsL) {t : Tok} (gM : mg "MOST_PARTS" = some (.int 5 t)) : FnOk P w K mg base CX0 3 f fd ["value"] spAreP := by
  obtain ⟨f1, fd1, G1, g1, k1, b1⟩ := D.ex
  refine F.ok scAreP (fun vs H Q E h => ?_) (fun cdv A outer s H vs Q E hr h => ?_)
  · obtain ⟨a, ns, rfl, _⟩ := h
    rfl
  · obtain ⟨a, ns, rfl, ha, n1, n5, k⟩ := h
    refine ⟨_, pss_one (ps_ret (pe_and (pe_call G1 hr (by rfl) g1 k1 b1 .nil pass0 (pa_cons (pv 0) pa_nil)) (pe_one (pe_chain op_le op_le pe_int (pe_callB call_len_seq (by rfl) T.len PySem.boot_len (pa_cons (pv 0) pa_nil)) (pe_glob (v := .int 5) rfl gM ⟨_, rfl⟩))))), ?_⟩
    refine ⟨_, rfl, a, ns, rfl, ha, by omega, fun H1 s1 => ⟨_, rfl, iteT ?_⟩⟩
    have h1 := ha.keep s1
    refine ⟨_, rfl, a, _, rfl, h1.sq, _, _, rfl, rfl, _, rfl, ?_⟩
    rw [List.length_map, decide_eq_true (show (1 : Int) ≤ (ns.length : Int) by omega)]
    refine iteT ⟨_, _, rfl, rfl, ?_⟩
    have k2 := k H1 s1
    show Q (.bl (decide ((ns.length : Int) ≤ 5))) H1
    rw [decide_eq_true (show (ns.length : Int) ≤ 5 by omega)]
    exact k2
theorem scTInit : FnScope ["self", "parts", "bound"] ["self", "parts", "bound"] (defScope sTInit) := ⟨rfl, rfl, rfl, by decide +kernel, rfl, by decide +kernel, by decide +kernel⟩
theorem ok_tInit {f C : Addr} {fd : FuncData} (F : Fun K "__init__" "Test.__init__" sTInit f fd) (T : Blt mg) (TC : TCls K C) (D1 : Df P w K mg base 3 "are_parts" ["value"] spAreP) (D2 : Df P w K mg base 1 "is_integer" ["value"] spIsInt) : FnOk P w K mg base CX0 4 f fd ["self", "parts", "bound"] (spTInit C) := by
  obtain ⟨f1, fd1, G1, g1, k1, b1⟩ := D1.ex
  obtain ⟨f2, fd2, G2, g2, k2, b2⟩ := D2.ex
  refine F.ok scTInit (fun vs H Q E h => ?_) (fun cdv A outer s H vs Q E hr h => ?_)
  · obtain ⟨x, dx, a, ns, b, rfl, _⟩ := h
    rfl
  · obtain ⟨x, dx, a, ns, b, rfl, hx, ha, n1, n5, kk⟩ := h
    refine ⟨_, PSs.nox (pss_cons (ps_if (pt_not (pt_val (pe_call G1 hr (by rfl) g1 k1 b1 .nil pass0 (pa_cons (pv 1) pa_nil)))) (pss_one ps_never) pss_nil)
      (pss_cons (ps_if (pt_not (pt_val (pe_call G2 (hr.mono (by decide)) (by rfl) g2 k2 b2 .nil pass0 (pa_cons (pv 2) pa_nil)))) (pss_one ps_never) pss_nil)
      (pss_cons (ps_fld (pv 0) (pe_callTy call_tuple_of (by rfl) T.tuple (by decide +kernel) (pa_cons (pv 1) pa_nil)) rfl) (pss_one (ps_fld (pv 0) (pv 2) rfl))))), ?_⟩
    refine ⟨_, rfl, a, ns, rfl, ha, n1, n5, fun H1 s1 => ⟨true, rfl, iteF ?_⟩⟩
    refine ⟨_, rfl, b, rfl, true, rfl, iteF ?_⟩
    have hx1 := s1 _ _ hx
    have tail : ∀ (t : Addr) (H2 : Hp), Same H1 H2 → H2 t = some (.tup (ns.map V.int)) → H2 x = some (.ins C dx []) → kk2 C x dx t b H2 Q := fun t H2 s2 ht hx2 => by
      have tx : t ≠ x := ne_of ht hx2 (by intro z; cases z)
      refine kk _ t (fun c o n e => ?_) ?_ ?_
      · rw [upd_ne n, upd_ne n]; exact s2 _ _ (s1 _ _ e)
      · rw [upd_same, put_test]
      · rw [upd_ne tx, upd_ne tx]; exact ht
    rcases ha.keep s1 with h1 | h1
    · refine ⟨_, rfl, a, _, rfl, .inl ⟨SqL.of h1, fun l nl => ?_⟩⟩
      have hx2 := same_new (o := .tup (ns.map V.int)) nl _ _ hx1
      exact ⟨_, rfl, x, C, dx, _, rfl, hx2, TC.cl, TC.n1, (by show 0 < 1000; decide), _, rfl, _, rfl, x, C, dx, _, rfl, upd_same, TC.cl, TC.n2, (by show 1 < 1000; decide), tail l _ (same_new nl) upd_same hx2⟩
    · exact ⟨_, rfl, a, _, rfl, .inr ⟨SqT.of h1, _, rfl, x, C, dx, _, rfl, hx1, TC.cl, TC.n1, (by show 0 < 1000; decide), _, rfl, _, rfl, x, C, dx, _, rfl, upd_same, TC.cl, TC.n2, (by show 1 < 1000; decide), tail a _ (Same.refl _) h1 hx1⟩⟩
theorem scTLen : FnScope ["self"] ["self"] (defScope sTLen) := ⟨rfl, rfl, rfl, by decide +kernel, rfl, by decide +kernel, by decide +kernel⟩
theorem ok_tLen {f C : Addr} {fd : FuncData} (F : Fun K "__len__" "Test.__len__" sTLen f fd) (T : Blt mg) (TC : TCls K C) : FnOk P w K mg base CX0 1 f fd ["self"] (spTLen C) := by
  refine F.ok scTLen (fun vs H Q E h => ?_) (fun cdv A outer s H vs Q E hr h => ?_)
  · obtain ⟨x, ps, b, rfl, _⟩ := h
    rfl
  · obtain ⟨x, ps, b, rfl, ⟨dx, t, hx, ht⟩, n1, kk⟩ := h
    refine ⟨_, pss_one (ps_ret (pe_callB call_len_seq (by rfl) T.len PySem.boot_len (pa_cons (pe_fld (pv 0) rfl) pa_nil))), ?_⟩
    refine ⟨_, rfl, x, C, dx, _, _, rfl, hx, TC.cl, TC.n1, test_parts t b, t, _, rfl, .inr (SqT.of ht), ?_⟩
    rw [List.length_map]
    exact kk
theorem scAmount : FnScope ["self", "numbers", "total", "part", "number"] ["self", "numbers"] (defScope sAmount) := ⟨rfl, rfl, rfl, by decide +kernel, rfl, by decide +kernel, by decide +kernel⟩
theorem ok_amount {f C : Addr} {fd : FuncData} (F : Fun K "amount" "Test.amount" sAmount f fd) (T : Blt mg) (msum : mg "sum" = none) (mzip : mg "zip" = none) (TC : TCls K C) (D1 : Df P w K mg base 2 "is_list_of_integers" ["value"] spIsL) : FnOk P w K mg base CX0 3 f fd ["self", "numbers"] (spAmount C) := by
  refine F.ok scAmount (fun vs H Q E h => ?_) (fun cdv A outer s H vs Q E hr h => ?_)
  · obtain ⟨x, a, ps, ns, b, rfl, _⟩ := h
    rfl
  · obtain ⟨x, a, ps, ns, b, rfl, tt, ha, hl, n1, sp1, sp2, kk⟩ := h
    refine ⟨_, (pss_cons (ps_if (PW.pt (pw_or (pt_not (pt_val (pe_callB call_isiT (by rfl) T.isi (by decide +kernel) (pa_cons (pv 1) (pa_cons (pe_tup (pa_cons (pe_bltn (v := .ty "list") (by rfl) T.list (by decide +kernel) rfl) (pa_cons (pe_bltn (v := .ty "tuple") (by rfl) T.tuple (by decide +kernel) rfl) pa_nil))) pa_nil)))))
        (pw_or1 (pt_cmpR op_ne (pe_callB call_len_seq (by rfl) T.len PySem.boot_len (pa_cons (pv 1) pa_nil)) (pe_callB call_len_seq (by rfl) T.len PySem.boot_len (pa_cons (pe_fld (pv 0) rfl) pa_nil)) (nomark _))))) (pss_one ps_never) pss_nil)
      (pss_cons (ps_set (i := 2) scAmount.nd rfl (.inl rfl) pe_int)
      (pss_cons (ps_for PassesOwn.never rfl (pi_or (pi_zipM rfl mzip (pa_cons (pe_fld (pv 0) rfl) (pa_cons (pv 1) pa_nil))) (RZ.pi_zipA rfl mzip (pa_cons (pe_fld (pv 0) rfl) (pa_cons (pv 1) pa_nil)))) (pg_tup (by rfl) (pgs_cons (pg_name (i := 3) scAmount.nd rfl (.inl rfl)) (pgs_cons (pg_name (i := 4) scAmount.nd rfl (.inl rfl)) pgs_nil)))
        (pss_cons (ps_if (PW.pt (pw_or (pt_not (pt_val (pe_callB call_isi (by rfl) T.isi (by decide +kernel) (pa_cons (pv 4) (pa_cons (pe_bltn (v := .ty "int") (by rfl) T.int (by decide +kernel) rfl) pa_nil))))) (pw_or1 (pt_val (pe_callB call_isi (by rfl) T.isi (by decide +kernel) (pa_cons (pv 4) (pa_cons (pe_bltn (v := .ty "bool") (by rfl) T.bool (by decide +kernel) rfl) pa_nil))))))) (pss_one ps_never) pss_nil)
        (pss_one (ps_set (i := 2) scAmount.nd rfl (.inl rfl) (pe_op op_add (pv 2) (pe_op op_mulW (pv 3) (pv 4)))))))
      (pss_one (ps_ret (pv 2)))))), ?_⟩
    obtain ⟨dx, t, hx, ht⟩ := id tt
    refine ⟨_, rfl, (by show 2 ≤ sizeLine; decide), fun tp ntp => ?_⟩
    have s1 := same_new (o := .tup [.ty "list", .ty "tuple"]) ntp
    have hT1 : upd H tp (.tup [.ty "list", .ty "tuple"]) tp = some (.tup [.ty "list", .ty "tuple"]) := upd_same
    generalize upd H tp (.tup [.ty "list", .ty "tuple"]) = H1 at s1 hT1 ⊢
    have h1 := ha.keep s1
    have hx1 := s1 _ _ hx
    have ht1 := s1 _ _ ht
    have isi : ∃ u : Value, TyX K H1 (.ref a) u ∧ PySem.W.kitAny K u [.type "list", .type "tuple"] = some true := by
      rcases h1 with h1 | h1
      · exact ⟨_, .base (.lst h1), kit_any2 (r1 := true) (r2 := false) (by decide +kernel) (by decide +kernel)⟩
      · exact ⟨_, .base (.tup h1), kit_any2 (r1 := false) (r2 := true) (by decide +kernel) (by decide +kernel)⟩
    obtain ⟨u, ty, ki⟩ := isi
    refine ⟨.ref a, tp, _, _, _, true, rfl, hT1, .cons (.ty _) (.cons (.ty _) .nil), ty, ki, _, rfl, iteF ?_⟩
    refine ⟨_, rfl, a, _, rfl, h1.sq, _, rfl, x, C, dx, _, _, rfl, hx1, TC.cl, TC.n1, test_parts t b, t, _, rfl, .inr (SqT.of ht1), rfl, _, rfl, ?_⟩
    rw [List.length_map, List.length_map, hl]
    refine ite2 (fun e => absurd e (by simp)) (fun _ => ?_)
    have hz : (List.zipWith (fun a b => a * b) ps ns).length = ps.length := by rw [List.length_zipWith]; omega
    have sumS : ∀ {L : List Int} {i : Nat} {z : Int}, L[i]? = some z → (L.take (i + 1)).sum = (L.take i).sum + z := fun {L i z} h => by
      rw [List.take_add_one, h, List.sum_append]
      simp
    have turn : ∀ (i : Nat) (H2 H3 : Hp) (v : V) (x3 x4 : Option V), i < ps.length → Same H1 H2 → YPair (fun i => (ps.map V.int)[i]?) (fun i => (ns.map V.int)[i]?) i H2 v H3 →
        ∃ (T' : Addr) (p n : Int), v = .ref T' ∧ SqT K H3 T' [.int p, .int n] ∧ Same H1 H3 ∧ CMulW p n ∧ ((List.zipWith (fun a b => a * b) ps ns).take i).sum + p * n = ((List.zipWith (fun a b => a * b) ps ns).take (i + 1)).sum := by
      intro i H2 H3 v x3 x4 hi s2 y
      obtain ⟨T', u, z, rfl, nT, rfl, h4, h5⟩ := y
      obtain ⟨p, hp, rfl⟩ := int_at h4
      obtain ⟨n, hn, rfl⟩ := int_at h5
      exact ⟨T', p, n, rfl, SqT.of upd_same, s2.trans (same_new nT), mulW (sp1 p (List.mem_of_getElem? hp)) (sp2 n (List.mem_of_getElem? hn)), (sumS (zip_at hp hn)).symm⟩
    rcases h1 with h1 | h1
    · refine .inl ⟨_, rfl, x, C, dx, _, _, rfl, hx1, TC.cl, TC.n1, test_parts t b, _, rfl, t, a, _, _, rfl, SqT.of ht1, SqL.of h1, ?_⟩
      refine for_it (walk_M (xs := ps.map V.int) (ys := ns.map V.int) (n := ps.length) (by simp) (by simpa using hl)) (fun i σ G => Same H1 G ∧ ∃ x3 x4, σ = [some (.ref x), some (.ref a), some (.int (((List.zipWith (fun a b => a * b) ps ns).take i).sum)), x3, x4]) ⟨Same.refl _, none, none, rfl⟩
        (fun i σ G _ h => ⟨SqT.of (h.1 _ _ ht1), SqL.of (h.1 _ _ h1)⟩) (fun i v σ G2 G3 hi h y => ?_) (fun σ G h => ?_)
      · obtain ⟨s2, x3, x4, rfl⟩ := h
        obtain ⟨T', p, n, rfl, hT, s3, hm, es⟩ := turn i G2 G3 v x3 x4 hi s2 y
        refine ⟨T', _, rfl, hT, rfl, _, _, rfl, _, _, rfl, rfl, ?_⟩
        refine ⟨_, rfl, _, _, _, _, true, rfl, .ty _, .base (.int n), kit_ty (by decide +kernel), _, rfl, iteF ⟨_, rfl, _, _, _, _, false, rfl, .ty _, .base (.int n), kit_ty (by decide +kernel), _, rfl, iteF ?_⟩⟩
        refine ⟨_, rfl, _, rfl, _, rfl, p, n, rfl, rfl, hm, _, _, rfl, rfl, s3, some (.int p), some (.int n), ?_⟩
        rw [← es]
        rfl
      · obtain ⟨s2, x3, x4, rfl⟩ := h
        refine ⟨_, rfl, ?_⟩
        rw [show ps.length = (List.zipWith (fun a b => a * b) ps ns).length from hz.symm, List.take_length]
        exact kk G (s1.trans s2)
    · refine .inr ⟨_, rfl, x, C, dx, _, _, rfl, hx1, TC.cl, TC.n1, test_parts t b, _, rfl, t, a, _, _, rfl, .inr ⟨SqT.of ht1, SqT.of h1, ?_⟩⟩
      refine for_it (walk_TT (xs := ps.map V.int) (ys := ns.map V.int) (n := ps.length) (by simp) (by simpa using hl)) (fun i σ G => Same H1 G ∧ ∃ x3 x4, σ = [some (.ref x), some (.ref a), some (.int (((List.zipWith (fun a b => a * b) ps ns).take i).sum)), x3, x4]) ⟨Same.refl _, none, none, rfl⟩
        (fun i σ G _ h => ⟨SqT.of (h.1 _ _ ht1), SqT.of (h.1 _ _ h1)⟩) (fun i v σ G2 G3 hi h y => ?_) (fun σ G h => ?_)
      · obtain ⟨s2, x3, x4, rfl⟩ := h
        obtain ⟨T', p, n, rfl, hT, s3, hm, es⟩ := turn i G2 G3 v x3 x4 hi s2 y
        refine ⟨T', _, rfl, hT, rfl, _, _, rfl, _, _, rfl, rfl, ?_⟩
        refine ⟨_, rfl, _, _, _, _, true, rfl, .ty _, .base (.int n), kit_ty (by decide +kernel), _, rfl, iteF ⟨_, rfl, _, _, _, _, false, rfl, .ty _, .base (.int n), kit_ty (by decide +kernel), _, rfl, iteF ?_⟩⟩
        refine ⟨_, rfl, _, rfl, _, rfl, p, n, rfl, rfl, hm, _, _, rfl, rfl, s3, some (.int p), some (.int n), ?_⟩
        rw [← es]
        rfl
      · obtain ⟨s2, x3, x4, rfl⟩ := h
        refine ⟨_, rfl, ?_⟩
        rw [show ps.length = (List.zipWith (fun a b => a * b) ps ns).length from hz.symm, List.take_length]
        exact kk G (s1.trans s2)
end
end Ev
namespace Ev
open PySem L2 PySem.Spec PyProof.Rows
def eqT (ps : List Int) (b : Int) (qs : List Int) (c : Int) : Bool := decide (ps = qs) && decide (V.int b = V.int c)
theorem sh_intsT (ns : List Int) : SeqAt.shaped (.tuple (ns.map PyData.int)) = true := by
  have h := sh_ints ns
  unfold SeqAt.shaped at h ⊢
  simpa [PyData.canLay0, PyData.depth] using h
theorem eqv_tupI (ps qs : List Int) : PyData.eqv (.tuple (ps.map PyData.int)) (.tuple (qs.map PyData.int)) = decide (ps = qs) := by
  have h : ∀ ps qs : List Int, PyData.eqvAll (ps.map PyData.int) (qs.map PyData.int) = decide (ps = qs) := by
    intro ps
    induction ps with
    | nil => intro qs; cases qs <;> simp [PyData.eqvAll]
    | cons a r ih =>
      intro qs
      cases qs with
      | nil => simp [PyData.eqvAll]
      | cons c t =>
        simp only [List.map_cons, PyData.eqvAll, ih t, PyData.eqv]
        by_cases e1 : a = c <;> by_cases e2 : r = t <;> simp [e1, e2]
  simp only [PyData.eqv, h]
/-- an instance's kind -/
structure InsT (K : PySem.W.Frag) (C : Addr) : Prop where
  ha : PySem.W.findIn K (.ref C) "__class__" = some (some (.builtin "object.__class__"))
  hn : PySem.W.specialIn K (.builtin "object.__class__") "__get__" = some (some (.builtin "getset_descriptor.__get__"))
  htk : PySem.W.takesIn K (.builtin "object.__class__") = some true
  hm : PySem.W.mroIn K C (.type "object") = some true
  ic : PySem.W.isClsIn K C = true
  tt : PySem.W.typeIn K (.ref C) = some (.type "type")
theorem tyTest {K : PySem.W.Frag} {C : Addr} {H : Hp} {x : Addr} {ps : List Int} {b : Int} (TC : TCls K C) (IT : InsT K C) (h : TestAt C H x ps b) : TyX K H (.ref x) (.ref C) := by
  obtain ⟨dx, t, h1, h2⟩ := h
  exact .base (.ins h1 TC.cl IT.ha IT.hn IT.htk IT.hm)
/-- a value of a built-in type, no test -/
def NoTest (H : Hp) (y : V) : Prop := ∃ (T : String) (l : List String), (∀ (K : PySem.W.Frag) (H' : Hp), Same H H' → TyX K H' y (.type T)) ∧ fastBuiltinMro T = some (l.map Value.type)
theorem noTest_lst {H : Hp} {a : Addr} {xs : List V} (h : H a = some (.lst xs)) : NoTest H (.ref a) := ⟨"list", ["list", "object"], fun _ _ k => .base (.lst (k _ _ h)), by decide +kernel⟩
theorem noTest_tup {H : Hp} {a : Addr} {xs : List V} (h : H a = some (.tup xs)) : NoTest H (.ref a) := ⟨"tuple", ["tuple", "object"], fun _ _ k => .base (.tup (k _ _ h)), by decide +kernel⟩
theorem noTest_non (H : Hp) : NoTest H .non := ⟨"NoneType", ["NoneType", "object"], fun _ _ _ => .base .non, by decide +kernel⟩
theorem noTest_int (H : Hp) (i : Int) : NoTest H (.int i) := ⟨"int", ["int", "object"], fun _ _ _ => .base (.int i), by decide +kernel⟩
theorem NoTest.keep {H H' : Hp} {y : V} (h : NoTest H y) (k : Same H H') : NoTest H' y := by
  obtain ⟨T, l, h1, h2⟩ := h
  exact ⟨T, l, fun K G q => h1 K G (k.trans q), h2⟩
theorem sub_no {K : PySem.W.Frag} {C : Addr} {T : String} {l : List String} (h : fastBuiltinMro T = some (l.map Value.type)) : PySem.W.subIn K (.type T) (.ref C) = some false := by
  show (fastBuiltinMro T).map (·.contains (.ref C)) = some false
  rw [h]
  have z : (l.map Value.type).contains (.ref C) = false := by
    rw [Bool.eq_false_iff]
    intro z
    have m := List.contains_iff_mem.mp z
    simp at m
  exact congrArg some z
theorem kit_no {K : PySem.W.Frag} {C : Addr} {T : String} {l : List String} (IT : InsT K C) (h : fastBuiltinMro T = some (l.map Value.type)) : PySem.W.kitOne K (.type T) (.ref C) = some false := by
  have h1 : (PySem.W.clsIn K C).isSome = true := IT.ic
  unfold PySem.W.kitOne
  rw [show ((Value.type T) == (Value.ref C)) = false from by simp, if_neg Bool.false_ne_true]
  unfold PySem.W.kitCls
  simp only [h1, IT.tt, sub_no h]
  decide
theorem kit_self {K : PySem.W.Frag} {C : Addr} : PySem.W.kitOne K (.ref C) (.ref C) = some true := by
  unfold PySem.W.kitOne
  rw [if_pos (by simp)]
def spTEq (C : Addr) : Sp := fun vs H Q _ => ∃ (x : Addr) (y : V) (ps : List Int) (b : Int), vs = [.ref x, y] ∧ TestAt C H x ps b ∧
  ((∃ z qs c, y = .ref z ∧ TestAt C H z qs c ∧ Q (.bl (eqT ps b qs c)) H) ∨ (NoTest H y ∧ Q (.bl false) H))
section
variable {P : Program} {w : World} {K : PySem.W.Frag} {mg : Str → Option Value} {base : Heap}
theorem scTCall : FnScope ["self", "numbers"] ["self", "numbers"] (defScope sTCall) := ⟨rfl, rfl, rfl, by decide +kernel, rfl, by decide +kernel, by decide +kernel⟩
theorem ok_tCall {f fA C : Addr} {fd fdA : FuncData} (F : Fun K "__call__" "Test.__call__" sTCall f fd) (TC : TCls K C) (GA : FnOk P w K mg base CX0 3 fA fdA ["self", "numbers"] (spAmount C)) (bA : Binds K fdA ["self", "numbers"] []) (mA : Meth K C "amount" fA) : FnOk P w K mg base CX0 4 f fd ["self", "numbers"] (spTCall C) := by
  refine F.ok scTCall (fun vs H Q E h => ?_) (fun cdv A outer s H vs Q E hr h => ?_)
  · obtain ⟨x, a, ps, ns, b, rfl, _⟩ := h
    rfl
  · obtain ⟨x, a, ps, ns, b, rfl, tt, ha, hl, n1, sp1, sp2, kk⟩ := h
    obtain ⟨dx, t, hx, ht⟩ := id tt
    refine ⟨_, pss_one (ps_ret (pe_cmpR op_ge (pe_meth (pv 0) TC.cl mA GA hr bA .nil pass0 (pa_cons (pv 1) pa_nil)) (pe_fld (pv 0) rfl) (nomark _))), ?_⟩
    refine ⟨_, rfl, x, dx, _, rfl, hx, ?_, _, rfl, x, a, ps, ns, b, rfl, tt, ha, hl, n1, sp1, sp2, fun H1 s1 => ?_⟩
    · exact (lk_miss (by decide +kernel)).trans ((lk_miss (by decide +kernel)).trans rfl)
    · exact ⟨_, rfl, x, C, dx, _, _, rfl, s1 _ _ hx, TC.cl, TC.n2, test_bound t b, _, _, rfl, rfl, kk H1 s1⟩
theorem scTEq : FnScope ["self", "other"] ["self", "other"] (defScope sTEq) := ⟨rfl, rfl, rfl, by decide +kernel, rfl, by decide +kernel, by decide +kernel⟩
theorem ok_tEq {f C : Addr} {fd : FuncData} (F : Fun K "__eq__" "Test.__eq__" sTEq f fd) (T : Blt mg) (TC : TCls K C) (IT : InsT K C) (gC : mg "Test" = some (.ref C)) : FnOk P w K mg base CX0 1 f fd ["self", "other"] (spTEq C) := by
  refine F.ok scTEq (fun vs H Q E h => ?_) (fun cdv A outer s H vs Q E hr h => ?_)
  · obtain ⟨x, y, ps, b, rfl, _⟩ := h
    rfl
  · obtain ⟨x, y, ps, b, rfl, tt, h⟩ := h
    obtain ⟨dx, t, hx, ht⟩ := id tt
    refine ⟨_, pss_one (ps_ret (pe_and (pe_callB call_isi (by rfl) T.isi (by decide +kernel) (pa_cons (pv 1) (pa_cons (pe_glob (v := .ref C) rfl gC rfl) pa_nil)))
      (pe_and (pe_cmpR (op_eqD (Room.units hr)) (pe_fld (pv 0) rfl) (pe_fld (pv 1) rfl) (nomark _)) (pe_one (pe_cmpR op_eq (pe_fld (pv 0) rfl) (pe_fld (pv 1) rfl) (nomark _)))))), ?_⟩
    rcases h with ⟨z, qs, c, rfl, tz, k⟩ | ⟨⟨T', l, ty, mro⟩, k⟩
    · obtain ⟨dz, t2, hz, ht2⟩ := id tz
      refine ⟨_, rfl, _, _, _, _, true, rfl, .own C, tyTest TC IT tz, kit_self, true, rfl, iteT ?_⟩
      refine ⟨_, rfl, x, C, dx, _, _, rfl, hx, TC.cl, TC.n1, test_parts t b, _, rfl, z, C, dz, _, _, rfl, hz, TC.cl, TC.n1, test_parts t2 c, _, _, .tup (SqT.of ht) (dpInts ps), .tup (SqT.of ht2) (dpInts qs), sh_intsT ps, sh_intsT qs, _, rfl, ?_⟩
      rw [eqv_tupI]
      unfold eqT at k
      by_cases e : ps = qs
      · rw [decide_eq_true e] at k ⊢
        refine iteT ⟨_, rfl, x, C, dx, _, _, rfl, hx, TC.cl, TC.n2, test_bound t b, _, rfl, z, C, dz, _, _, rfl, hz, TC.cl, TC.n2, test_bound t2 c, rfl, ?_⟩
        simpa using k
      · rw [decide_eq_false e] at k ⊢
        exact iteF (by simpa using k)
    · exact ⟨_, rfl, _, _, _, _, false, rfl, .own C, ty _ _ (Same.refl H), kit_no IT mro, _, rfl, iteF k⟩
end
end Ev
namespace Ev
open PySem L2 PySem.Spec PyProof.Rows
/-! Promises of defs that are called while no repr is under way (so what they make can be shown). -/
structure FnG (P : Program) (w : World) (K : PySem.W.Frag) (mg : Str → Option Value) (base : Heap) (k : Nat) (f : Addr)
    (fd : FuncData) (ps : List Str) (sp : Sp) : Prop where
  many : ∀ vs H Q E, sp vs H Q E → vs.length = ps.length
  goes : ∀ (A : Around) (above : List Env) (s : Shared) (H : Hp) (args : Args) (us : List Value) (vs : List V) (Q : VK)
    (E : XK), Room k A → A.guards = some [] → Env0 P w K mg base A above s H → BindsTo s fd args (ps.zip us) → Vals vs us →
    sp vs H Q E → codeAny (model P w) A (.call (.ref f) args) (CR CX0 above P w H s Q E) s
theorem FnG.of {P : Program} {w : World} {K : PySem.W.Frag} {mg : Str → Option Value} {base : Heap} {k : Nat} {f : Addr}
    {fd : FuncData} {ps : List Str} {sp : Sp} (F : FnOk P w K mg base CX0 k f fd ps sp) : FnG P w K mg base k f fd ps sp :=
  ⟨F.len, fun A above s H args us vs Q E hr _ => F.run A above s H args us vs Q E hr⟩
section
variable {P : Program} {w : World} {K : PySem.W.Frag} {mg : Str → Option Value} {base : Heap}
/-- a def by its body, where no repr is under way -/
theorem fng_code {x qual : Str} {st : Stmt} {f : Addr} {fd : FuncData} {N ps : List Str} {k : Nat} {sp : Sp} (F : Fun K x qual st f fd)
    (S : FnScope N ps (defScope st)) (many : ∀ vs H Q E, sp vs H Q E → vs.length = ps.length)
    (body : ∀ (cdv : Value), fd.code = cdv → ∀ (A : Around) (above : List Env) (s : Shared) (H : Hp) (vs : List V) (Q : VK) (E : XK),
      Room k (A.deeper (envOfC qual (defScope st) s.heap.objs.size f cdv)) → A.guards = some [] → sp vs H Q E →
      ∃ t, PSs (cxOf CX0 P w K mg base N qual (defScope st) f cdv A above s H E).nox (defBody st) t ∧
        t { nx := fun _ H' => Q .non H', rt := Q } (start N vs) H) : FnG P w K mg base (k + 1) f fd ps sp := by
  obtain ⟨oc, od, kV, doc, pm, an, cdv, ct, osl, rfl, lk, hcd⟩ := F.ex
  constructor
  · exact many
  · intro A above s H args us vs Q E room gd env bt rv hs
    have inK : K.In s.heap := env.mod.kin.keeps fun b o e => (env.bs b o e).1
    have noLim : s.heap.NoLimit := env.mod.nolimit.keeps fun b o e => (env.bs b o e).1
    have kinds : ∀ y ∈ ps.zip us, (defScope st).names.lookup y.1 = some .local ∨
        ((defScope st).names.lookup y.1 = some .cell ∧ ((cellsFrom (s.heap.objs.size + 1) (defScope st).names []).lookup y.1).isSome = true) := by
      rintro ⟨n, v⟩ hy
      cases S.par n (List.of_mem_zip hy).1 with
      | inl q => exact .inl q
      | inr q => exact .inr ⟨q, PySem.W.cellsFrom_some _ _ _ (.inl q)⟩
    refine codeAny_call_function room.depth (inK _ _ lk) rfl S.co S.gen rfl (PySem.W.codeRec_of inK hcd) (bt _ _ _ _ ?_)
    refine wpAny_newFunctionEnv_cells S.kind kinds fun e2 he s2 x => ?_
    subst he
    refine ⟨noLim.keeps x.toInCall.keep, codeAny_func ?_⟩
    obtain ⟨t, ht, hq⟩ := body cdv rfl A above s H vs Q E (room.deeper _) gd hs
    have inv := inv_start (CX := CX0) (E := E) S room.hd env (many _ _ _ _ hs) rv x
    refine wpAny_mono (ht.nox.run [] s2 (start N vs) H _ inv hq) (fun fl s3 h3 => ?_) fun e s3 h3 => h3
    cases fl with
    | ret u =>
      obtain ⟨v, σ3, H3, J, rr, q⟩ := h3
      exact ⟨v, H3, J.os, J.bare, J.base, J.hok, rr, q⟩
    | next =>
      obtain ⟨σ3, H3, J, q⟩ := h3
      exact ⟨.non, H3, J.os, J.bare, J.base, J.hok, rfl, q⟩
    | brk =>
      obtain ⟨_, _, _, z⟩ := h3
      exact False.elim z
    | cont =>
      obtain ⟨_, _, _, z⟩ := h3
      exact False.elim z
theorem fng_of {x qual : Str} {st : Stmt} {f : Addr} {fd : FuncData} {N ps : List Str} {k : Nat} {sp : Sp} (F : Fun K x qual st f fd)
    (S : FnScope N ps (defScope st)) (many : ∀ vs H Q E, sp vs H Q E → vs.length = ps.length)
    (body : ∀ (cdv : Value) (A : Around) (above : List Env) (s : Shared) (H : Hp) (vs : List V) (Q : VK) (E : XK),
      Room k (A.deeper (envOfC qual (defScope st) s.heap.objs.size f cdv)) → A.guards = some [] → sp vs H Q E →
      ∃ t, PSs (cxOf CX0 P w K mg base N qual (defScope st) f cdv A above s H E).nox (defBody st) t ∧
        t { nx := fun _ H' => Q .non H', rt := Q } (start N vs) H) : FnG P w K mg base (k + 1) f fd ps sp :=
  fng_code F S many fun cdv _ => body cdv
end
section
variable {X : Cx}
/-- f(e, ..) of such a def -/
theorem pe_callG {k : Nat} {f : Addr} {fd : FuncData} {ps : List Str} {sp : Sp} {E : XK} {x : Str} {p pos : Pos} {e : Expr} {es : List Expr} {t : TA}
    (F : FnG X.prog X.w X.K X.mg X.base k f fd ps sp) (room : Room k X.A) (gd : X.A.guards = some []) (hg : Gl X x)
    (hm : X.mg x = some (.ref f)) (kp : PySem.W.keepIn X.K (.ref f) = true) (hb : Binds X.K fd ps []) (ha : PA X (e :: es) t)
    (hdb : (x == ("__debug__" : Str)) = false := by decide)
    (he : starEach (e :: es) X.env = (false, eval e X.env) :: starEach es X.env := by rfl)
    (hpl : (backTo pos (starEach es X.env)).any (·.1) = false := by rfl) :
    PE X (.Call (.Name x p) (e :: es) [] pos) (tCall sp [] E t) := by
  constructor
  intro pins s σ H Q I h
  refine wpAny_Call_Name_kw (ld_glob I hg hm ?_ hdb)
  refine PySem.W.callWith_K (h₀ := X.base) I.ok.mod.kin kp (thn (ha.run pos pins s σ H _ I h) fun us s1 d => ?_) he hpl
  obtain ⟨vs, H1, I1, rv, q⟩ := d
  refine ⟨I1.kIn, ?_⟩
  have q : sp vs H1 Q E := by
    have q' : sp (vs ++ []) H1 Q E := q
    rw [List.append_nil] at q'
    exact q'
  have hl : us.length = ps.length := rv.length.symm.trans (F.many _ _ _ _ q)
  have bt := hb s1 us I1.kIn (by rw [List.append_nil]; exact hl)
  rw [List.append_nil] at bt
  refine wpAny_call (codeAny_mono (F.goes X.A X.stack s1 H1 ⟨us, []⟩ us vs Q E room gd I1.env0 bt rv q) fun r s2 h2 => ?_)
  cases r with
  | error e => exact False.elim h2
  | ok fl =>
    cases fl with
    | ret u => exact I1.after h2
    | next => exact False.elim h2
    | brk => exact False.elim h2
    | cont => exact False.elim h2
/-- repr of data, where none is under way -/
def rRepr (K : PySem.W.Frag) : List V → Hp → VK → Prop := fun xs H Q => ∃ (a : Addr) (d : PyData), xs = [.ref a] ∧ Dp K H (.ref a) d ∧
  d.showable = true ∧ d.hasDict = false ∧ d.depth ≤ 32 ∧ d.shown.length ≤ sizeLine ∧ Q (.str d.shown) H
theorem call_repr (gd : X.A.guards = some []) (hu : X.A.units + 64 < cLine) : CallR X (.builtin "repr") (rRepr X.K) := by
  intro pins s σ H xs us Q I r h
  obtain ⟨a, d, rfl, hd, h1, h2, h3, h4, q⟩ := h
  cases r with
  | cons r1 r2 =>
    cases r2
    cases r1
    obtain ⟨as, rd⟩ := Dp.reads I d (.ref a) (.ref a) hd rfl
    exact repr_of_reads' rd h1 (fun z => by rw [h2] at z; cases z) gd (by omega) (fun _ _ e => e)
      (fun h' u tk hk => ⟨.str d.shown, H, I.kept hk, ⟨u, rfl⟩, q⟩) h4
end
/-! ### the law's own call -/
section
variable {P : Program} {w : World} {K : PySem.W.Frag} {mg mb : Str → Option Value}
theorem law_callG {k : Nat} {fa a : Addr} {fd : FuncData} {x : Str} {sp : Sp} {s : Shared} {vs : List Value} {ns : List Int}
    (inK : K.In s.heap) (ns1 : s.heap.Ns mainGlobals mg) (ns2 : s.heap.Ns builtinsNs mb) (blt : ∀ x : Str, x ≠ "__name__" → mb x = bootBuiltins x)
    (noLim : s.heap.NoLimit) (hg : s.gens = #[]) (ha : s.heap.get? a = some { cls := .type "list", data := .seq vs.toArray })
    (hi : IntsAre vs ns) (hl : ns.length ≤ sizeLine) (hr : Room k callerA)
    (F : ∀ base : Heap, K.In base → base.Ns mainGlobals mg → FnG P w K mg base k fa fd [x] sp)
    (bt : ∀ (s : Shared) (u : Value), BindsTo s fd ⟨[u], []⟩ [(x, u)])
    (hsp : ∀ H : Hp, SqL K H a (ns.map V.int) → sp [.ref a] H (fun v _ => v = .bl true) fun _ _ _ => False) :
    codeAny (model P w) callerA (.call (.ref fa) ⟨[.ref a], []⟩)
      (fun r s' => r = .ok (.ret (.bool true)) ∧ OldK s.heap s'.heap ∧ s'.os = s.os ∧ AllBare s'.gens) s := by
  have rv := vals_ints hi
  have lv := hi.length
  have key : ∀ H : Hp, (∀ b u, H b = some u → b = a ∧ K.lookup a = none ∧ u = .frz { cls := .type "list", data := .seq vs.toArray } (.lst (ns.map V.int))) →
      SqL K H a (ns.map V.int) → codeAny (model P w) callerA (.call (.ref fa) ⟨[.ref a], []⟩)
        (fun r s' => r = .ok (.ret (.bool true)) ∧ OldK s.heap s'.heap ∧ s'.os = s.os ∧ AllBare s'.gens) s := by
    intro H only sq
    have ok : HOk P w H s.heap := by
      intro b u e
      obtain ⟨rfl, _, rfl⟩ := only b u e
      exact ⟨ha, by rw [List.length_map]; exact hl, vs, _, rv, ha⟩
    have plain : ∀ {b : Addr} {o : Obj} {es : Array DictEntry} {n : Nat}, s.heap.get? b = some o → o.data = .dict es n → H b = none := by
      intro b o es n e d
      cases q : H b with
      | none => rfl
      | some u =>
        obtain ⟨rfl, _, _⟩ := only b u q
        rw [ha] at e
        cases e
        exact nomatch d
    have names : ∀ {b : Addr} {m : Str → Option Value}, s.heap.Ns b m → (hidT s.heap H).Ns b m := by
      rintro b m ⟨o, es, n, e, d, r⟩
      exact ⟨o, es, n, hidT_get e (plain e d), d, r⟩
    have inB : K.In (hidT s.heap H) := by
      intro b o e
      refine hidT_get (inK b o e) ?_
      cases q : H b with
      | none => rfl
      | some u =>
        obtain ⟨rfl, n, _⟩ := only b u q
        rw [n] at e
        cases e
    obtain ⟨mc, l1, l2⟩ := noLim
    have md : Mod K mg (hidT s.heap H) := ⟨inB, names ns1, ⟨mb, names ns2, blt⟩, ⟨mc, names l1, l2⟩⟩
    have env : Env0 P w K mg (hidT s.heap H) callerA [] s H :=
      ⟨rfl, md, fun b o e => of_hidT e, Nat.le_of_eq (hidT_size _ _), trivial, (fun b hb => by cases hb), ok, .of_eq hg⟩
    have go := (F _ inB (names ns1)).goes callerA [] s H ⟨[.ref a], []⟩ [.ref a] [.ref a] _ _ hr rfl env (bt s (.ref a)) (.cons rfl .nil) (hsp H sq)
    refine codeAny_mono go fun r s2 h2 => ?_
    cases r with
    | error e => exact False.elim h2
    | ok fl =>
      cases fl with
      | next => exact False.elim h2
      | brk => exact False.elim h2
      | cont => exact False.elim h2
      | ret u =>
        obtain ⟨v, H2, os, bare, un, ok2, rr, q⟩ := h2
        obtain rfl : v = V.bl true := q
        obtain rfl : u = Value.bool true := rr
        refine ⟨rfl, OldK.of_keep fun b o e => ?_, os, bare⟩
        cases q : H b with
        | none => exact un.keep b o e q (by intro z; cases z) (by simp)
        | some u =>
          obtain ⟨rfl, _, rfl⟩ := only b u q
          obtain ⟨e1, _⟩ := ok b _ q
          obtain ⟨e2, _⟩ := ok2 b _ (un.frzs b _ _ q)
          rw [e] at e1
          cases e1
          exact e2
  cases hk : K.lookup a with
  | none =>
    refine key (fun b => if b = a then some (.frz { cls := .type "list", data := .seq vs.toArray } (.lst (ns.map V.int))) else none) (fun b u e => ?_) (.inl (.inr ⟨_, if_pos rfl⟩))
    by_cases z : b = a
    · rw [if_pos z] at e
      cases e
      exact ⟨z, hk, rfl⟩
    · rw [if_neg z] at e
      cases e
  | some o =>
    have e := inK a o hk
    rw [ha] at e
    cases e
    refine key (fun _ => none) (fun b u e => by cases e) (.inr ⟨_, vs.toArray, _, hk, rfl, rfl, rfl, ?_, by simpa using rv⟩)
    rw [List.size_toArray, lv]
    exact hl
end
theorem walk_ofG {l : PySem.W.OpenLaw} {n k : Nat} {q : Program} {loose : List Str} {XP : (Str → Option Value) → Heap → Prop} {YP : World → Heap → Prop}
    {d : DefRec} {K : Params → PySem.W.Frag} {sp : World → Sp} {x : Str} (hn : l.most = some n) (hn2 : n ≤ sizeLine) (hdf : d.params.defaults = [])
    (hr : Room k callerA) (hY : ∀ (w : World) (h : Heap), YP w h → (K w.params).In h)
    (F : ∀ (w : World) (mg : Str → Option Value) (fa : Addr) (h : Heap), (K w.params).In h → h.Ns mainGlobals mg → mg d.name = some (.ref fa) →
      ∃ fd : FuncData, (∀ (s : Shared) (u : Value), BindsTo s fd ⟨[u], []⟩ [(x, u)]) ∧
        ∀ base : Heap, (K w.params).In base → base.Ns mainGlobals mg → FnG l.prog w (K w.params) mg base k fa fd [x] (sp w))
    (hsp : ∀ (w : World) (H : Hp) (a : Addr) (ns : List Int), ns.length ≤ n → SqL (K w.params) H a (ns.map V.int) → sp w [.ref a] H (fun v _ => v = .bl true) fun _ _ _ => False) :
    PySem.W.WalkO q loose XP YP l.row.toRowW d [] (fun f vs => PySem.call f vs) := by
  refine Att.attach_call hn hdf fun w s0 s1 mg mb fa o pm cd doc a vs ns G Y h1 h2 h3 h4 h5 h6 h7 h8 => ?_
  obtain ⟨fd, bt, hF⟩ := F w mg fa _ (hY w _ Y) G.T.g h4
  exact law_callG (hY w _ Y) G.T.g G.T.b G.T.builtins G.T.nolimit h8 h5 h6 (Nat.le_trans h7 hn2) hr hF bt (fun H sq => hsp w H a ns h7 sq)
end Ev
namespace Ev
open PySem L2 PySem.Spec PyProof.Rows
theorem walk_ofGE {l : PySem.W.OpenLaw} {n k : Nat} {q : Program} {loose : List Str} {XP : (Str → Option Value) → Heap → Prop} {YP : World → Heap → Prop}
    {d : DefRec} {x : Str} (hn : l.most = some n) (hn2 : n ≤ sizeLine) (hdf : d.params.defaults = []) (hr : Room k callerA)
    (F : ∀ (w : World) (mg : Str → Option Value) (fa : Addr) (h : Heap), YP w h → h.Ns mainGlobals mg → mg d.name = some (.ref fa) →
      ∃ (K : PySem.W.Frag) (fd : FuncData) (sp : Sp), K.In h ∧ (∀ (s : Shared) (u : Value), BindsTo s fd ⟨[u], []⟩ [(x, u)]) ∧
        (∀ (H : Hp) (a : Addr) (ns : List Int), ns.length ≤ n → SqL K H a (ns.map V.int) → sp [.ref a] H (fun v _ => v = .bl true) fun _ _ _ => False) ∧
        ∀ base : Heap, K.In base → base.Ns mainGlobals mg → FnG l.prog w K mg base k fa fd [x] sp) :
    PySem.W.WalkO q loose XP YP l.row.toRowW d [] (fun f vs => PySem.call f vs) := by
  refine Att.attach_call hn hdf fun w s0 s1 mg mb fa o pm cd doc a vs ns G Y h1 h2 h3 h4 h5 h6 h7 h8 => ?_
  obtain ⟨K, fd, sp, inK, bt, hsp, hF⟩ := F w mg fa _ Y G.T.g h4
  exact law_callG inK G.T.g G.T.b G.T.builtins G.T.nolimit h8 h5 h6 (Nat.le_trans h7 hn2) hr hF bt (fun H sq => hsp H a ns h7 sq)
end Ev
namespace Ev
open PySem L2 PySem.Spec PyProof.Rows
theorem Pen.new {L : Addr} {H : Hp} {p q : Addr} {B : Int} {o : HO} (h : Pen L H p B) (n : H q = none) : Pen L (upd H q o) p B := h.keep (fun b u e => by rw [upd_ne (ne_of_none e n)]; exact e)
theorem Pen.some {L : Addr} {H : Hp} {p : Addr} {B : Int} (h : Pen L H p B) : ∃ xs, H p = some (.lst xs) := by
  obtain ⟨ns, t, c, h1, _⟩ := h
  exact ⟨_, h1⟩
theorem Pen.ne {L : Addr} {H : Hp} {p q : Addr} {B : Int} (h : Pen L H p B) (n : H q = none) : q ≠ p := by
  obtain ⟨xs, e⟩ := h.some
  exact (ne_of_none e n).symm
theorem But.free {L p a : Addr} {H H' : Hp} {B : Int} (t : But p H H') (h : Pen L H' p B) (n : H' a = none) : H a = none := by
  cases e : H a with
  | none => rfl
  | some o =>
    have := t a o (h.ne n) e
    rw [n] at this
    cases this
def spPick : Sp := fun vs H Q _ => ∃ (p l L : Addr) (xs : List V) (B : Int), vs = [.ref p, .ref l] ∧ H l = some (.lst xs) ∧ l ≠ p ∧ 1 ≤ xs.length ∧ xs.length ≤ 1000 ∧ B ≤ 1000000 ∧ Pen L H p B ∧
  ∀ (d : V) (H' : Hp), d ∈ xs → But p H H' → Pen L H' p (B + 1) → Q d H'
/-- a drawn number -/
def Nn (n : Int) : Prop := n.natAbs ≤ 10 ^ 40 + 9
theorem Nn.sm {n : Int} (h : Nn n) : Sm n := Nat.lt_of_le_of_lt h (by decide)
def AllN (ns : List Int) : Prop := ∀ n ∈ ns, Nn n
theorem AllN.sm {ns : List Int} (h : AllN ns) : AllSm ns := fun n m => (h n m).sm
def spSmall : Sp := fun vs H Q _ => ∃ (p L : Addr) (m B : Int), vs = [.ref p, .int m] ∧ 0 ≤ m ∧ m ≤ 1000000000000 ∧ B ≤ 1000000 ∧ Pen L H p B ∧ ∀ (d : Int) (H' : Hp), -m ≤ d → d ≤ m → But p H H' → Pen L H' p (B + 1) → Q (.int d) H'
def spNum : Sp := fun vs H Q _ => ∃ (p L : Addr) (B : Int), vs = [.ref p] ∧ B ≤ 900000 ∧ Pen L H p B ∧ ∀ (d : Int) (H' : Hp), Nn d → But p H H' → Pen L H' p (B + 3) → Q (.int d) H'
section
variable {P : Program} {w : World} {K : PySem.W.Frag} {mg : Str → Option Value} {base : Heap}
theorem scPick : FnScope ["_law_pen_here", "_law_some"] ["_law_pen_here", "_law_some"] (defScope sPick) := ⟨rfl, rfl, rfl, by decide +kernel, rfl, by decide +kernel, by decide +kernel⟩
theorem ok_pick {f : Addr} {fd : FuncData} (F : Fun K "_law_pick" "_law_pick" sPick f fd) (T : Blt mg) (D : Df P w K mg base 1 "_law_draw" ["_law_pen_here", "_law_top_so"] spDraw) : FnOk P w K mg base CX0 2 f fd ["_law_pen_here", "_law_some"] spPick := by
  obtain ⟨f1, fd1, G1, g1, k1, b1⟩ := D.ex
  refine F.ok scPick (fun vs H Q E h => ?_) (fun cdv A outer s H vs Q E hr h => ?_)
  · obtain ⟨p, l, L, xs, B, rfl, _⟩ := h
    rfl
  · obtain ⟨p, l, L, xs, B, rfl, hl, hne, x1, x2, hB, hp, kk⟩ := h
    refine ⟨_, pss_one (ps_ret (pe_ix ix_list (pv 1) (pe_call G1 hr (by rfl) g1 k1 b1 .nil pass0 (pa_cons (pv 0) (pa_cons (pe_callB call_len_seq (by rfl) T.len PySem.boot_len (pa_cons (pv 1) pa_nil)) pa_nil))) (fun _ _ => rfl))), ?_⟩
    refine ⟨_, rfl, _, rfl, _, rfl, l, _, rfl, .inl (SqL.of hl), p, L, _, B, rfl, by omega, by omega, hB, hp, fun d H1 bt pn d0 d1 => ?_⟩
    obtain ⟨j, rfl⟩ := Int.eq_ofNat_of_zero_le d0
    have hj : j < xs.length := by omega
    refine ⟨l, xs, _, xs[j], rfl, rfl, SqL.of (bt _ _ hne hl), atI_nat (List.getElem?_eq_getElem hj), ?_⟩
    exact kk _ _ (List.getElem_mem hj) bt pn
theorem scSmall : FnScope ["_law_pen_here", "_law_most_so"] ["_law_pen_here", "_law_most_so"] (defScope sSmall) := ⟨rfl, rfl, rfl, by decide +kernel, rfl, by decide +kernel, by decide +kernel⟩
theorem ok_small {f : Addr} {fd : FuncData} (F : Fun K "_law_small" "_law_small" sSmall f fd) (D : Df P w K mg base 1 "_law_draw" ["_law_pen_here", "_law_top_so"] spDraw) : FnOk P w K mg base CX0 2 f fd ["_law_pen_here", "_law_most_so"] spSmall := by
  obtain ⟨f1, fd1, G1, g1, k1, b1⟩ := D.ex
  refine F.ok scSmall (fun vs H Q E h => ?_) (fun cdv A outer s H vs Q E hr h => ?_)
  · obtain ⟨p, L, m, B, rfl, _⟩ := h
    rfl
  · obtain ⟨p, L, m, B, rfl, m0, m1, hB, hp, kk⟩ := h
    refine ⟨_, pss_one (ps_ret (pe_op op_sub (pe_call G1 hr (by rfl) g1 k1 b1 .nil pass0 (pa_cons (pv 0) (pa_cons (pe_op op_add (pe_op op_mul pe_int (pv 1)) pe_int) pa_nil))) (pv 1))), ?_⟩
    refine ⟨_, rfl, _, rfl, _, _, rfl, rfl, .inl ⟨by decide, by decide⟩, _, _, rfl, rfl, p, L, _, _, rfl, by omega, by omega, hB, hp, fun d H1 t1 p1 lo hi => ?_⟩
    exact ⟨_, rfl, _, _, rfl, rfl, kk _ _ (by omega) (by omega) t1 p1⟩
theorem scNum : FnScope ["_law_pen_here", "_law_near", "_law_far"] ["_law_pen_here"] (defScope sNum) := ⟨rfl, rfl, rfl, by decide +kernel, rfl, by decide +kernel, by decide +kernel⟩
theorem ok_num {f : Addr} {fd : FuncData} (F : Fun K "_law_number" "_law_number" sNum f fd) (D1 : Df P w K mg base 2 "_law_small" ["_law_pen_here", "_law_most_so"] spSmall) (D2 : Df P w K mg base 2 "_law_pick" ["_law_pen_here", "_law_some"] spPick) : FnOk P w K mg base CX0 3 f fd ["_law_pen_here"] spNum := by
  obtain ⟨f1, fd1, G1, g1, k1, b1⟩ := D1.ex
  obtain ⟨f2, fd2, G2, g2, k2, b2⟩ := D2.ex
  refine F.ok scNum (fun vs H Q E h => ?_) (fun cdv A outer s H vs Q E hr h => ?_)
  · obtain ⟨p, L, B, rfl, _⟩ := h
    rfl
  · obtain ⟨p, L, B, rfl, hB, hp, kk⟩ := h
    refine ⟨_, pss_cons (ps_set (i := 1) scNum.nd rfl (.inl rfl) (pe_call G1 hr (by rfl) g1 k1 b1 .nil pass0 (pa_cons (pv 0) (pa_cons pe_int pa_nil))))
      (pss_cons (ps_set (i := 2) scNum.nd rfl (.inl rfl) (pe_call G1 hr (by rfl) g1 k1 b1 .nil pass0 (pa_cons (pv 0) (pa_cons (pe_op op_pow pe_int pe_int) pa_nil))))
      (pss_one (ps_ret (pe_call G2 hr (by rfl) g2 k2 b2 .nil pass0 (pa_cons (pv 0) (pa_cons (pe_lst (pa_cons (pv 1) (pa_cons (pv 1) (pa_cons pe_int (pa_cons pe_int (pa_cons (pe_un un_neg pe_int) (pa_cons (pv 2) (pa_cons (pe_op op_add (pe_op op_pow pe_int pe_int) (pv 1)) (pa_cons (pe_op op_sub (pv 1) (pe_op op_pow pe_int pe_int)) pa_nil))))))))) pa_nil)))))), ?_⟩
    refine ⟨_, rfl, p, L, _, _, rfl, by decide, by decide, by omega, hp, fun ne H1 a1 a2 t1 p1 => ?_⟩
    refine ⟨_, rfl, _, _, rfl, rfl, ⟨by decide, by decide, by decide⟩, p, L, _, _, rfl, by decide, by decide, by omega, p1, fun fa H2 c1 c2 t2 p2 => ?_⟩
    refine ⟨_, rfl, _, rfl, _, rfl, _, rfl, _, rfl, _, _, rfl, rfl, ⟨by decide, by decide, by decide⟩, _, rfl, _, _, rfl, rfl, _, rfl, _, _, rfl, rfl, ⟨by decide, by decide, by decide⟩, _, _, rfl, rfl, (by show 8 ≤ sizeLine; decide), fun l nl => ?_⟩
    refine ⟨p, l, L, _, _, rfl, upd_same, p2.ne nl, (by show 1 ≤ 8; decide), (by show 8 ≤ 1000; decide), by omega, p2.new nl, fun dv H3 mem t3 p3 => ?_⟩
    have bt := (t1.trans t2).trans ((Same.but (same_new nl)).trans t3)
    have e12 : (10 : Int) ^ Int.toNat 12 = 1000000000000 := by decide
    have e25 : (10 : Int) ^ Int.toNat 25 = 10000000000000000000000000 := by decide
    have e40 : (10 : Int) ^ Int.toNat 40 = 10000000000000000000000000000000000000000 := by decide
    have n40 : (10 : Nat) ^ 40 = 10000000000000000000000000000000000000000 := by decide
    rw [e12] at c1 c2
    obtain ⟨d, rfl, hd⟩ : ∃ d : Int, dv = .int d ∧ Nn d := by
      simp only [List.mem_cons, List.not_mem_nil, or_false] at mem
      unfold Nn
      rcases mem with rfl | rfl | rfl | rfl | rfl | rfl | rfl | rfl
      · exact ⟨_, rfl, by omega⟩
      · exact ⟨_, rfl, by omega⟩
      · exact ⟨_, rfl, by decide⟩
      · exact ⟨_, rfl, by decide⟩
      · exact ⟨_, rfl, by decide⟩
      · exact ⟨_, rfl, by omega⟩
      · exact ⟨_, rfl, by rw [e40]; omega⟩
      · exact ⟨_, rfl, by rw [e25]; omega⟩
    exact kk _ _ hd bt (p3.mono (by omega))
theorem sum_take {l : List Int} {i : Nat} {x : Int} (h : l[i]? = some x) : (l.take (i + 1)).sum = (l.take i).sum + x := by
  rw [List.take_add_one, h, List.sum_append]
  simp
end
end Ev
/-! != of two lists whose items are alike by an == of their own. -/
namespace NeL
open PySem.SeqAt GQ
open AutoSeq1 (wpAny_loadPart')
open MeetsSeq MeetsSeq2 MeetsSeq3 SeqRoads2
section
variable {prog : Program} {w : World} {A : Around} {R : Result → Shared → Prop}
theorem lap (l b : Addr) (N : Nat) (J : Nat → Shared → Prop) (hl : ListI prog w A (fun e s' => R (.error e) s') l b N J) (fin : ∀ s, J N s → R (.ok (.ret (.bool false))) s) (k : Nat) :
    ∀ i : Nat, N - i = k → i ≤ N → ∀ s, J i s → wpAny (model prog w) A.in1 (Builtin.«list.__eq__.loop» ⟨[.ref l, .ref b, rawInt i, rawInt 3], []⟩) (FinOf prog w A R) (fun e s' => R (.error e) s') s := by
  induction k with
  | zero =>
    intro i hk hi s h
    obtain ⟨us, ws, n, m, g1, g2, z1, z2, _⟩ := hl _ _ h
    have ei : i = N := by omega
    have q : R (.ok (.ret (.bool false))) s := fin s (ei ▸ h)
    obtain ⟨hp, g, d, tk, os⟩ := s
    wp_walk using wpAny_loadPart' g1, wpAny_loadPart' g2
    have o1 : us[((i : Nat) : Int).toNat]? = none := by simp; omega
    have o2 : ws[((i : Nat) : Int).toNat]? = none := by simp; omega
    rw [o1, o2]
    wp_walk using wpAny_loadPart' g1, wpAny_loadPart' g2
    show R (.ok (.ret (.bool (us.size != ws.size)))) _
    rw [z1, z2]
    simpa using q
  | succ k ih =>
    intro i hk hi s h
    obtain ⟨us, ws, n, m, g1, g2, z1, z2, turn⟩ := hl _ _ h
    have l1 : i < us.size := by omega
    have l2 : i < ws.size := by omega
    have ht := turn l1 l2
    obtain ⟨hp, g, d, tk, os⟩ := s
    wp_walk using wpAny_loadPart' g1, wpAny_loadPart' g2
    have o1 : us[((i : Nat) : Int).toNat]? = some us[i] := by simp [l1]
    have o2 : ws[((i : Nat) : Int).toNat]? = some ws[i] := by simp [l2]
    have c1 : ((i : Int) + 1) = ((i + 1 : Nat) : Int) := by omega
    rw [o1, o2]
    refine wpAny_bind (wpAny_mono ht (fun r s2 z => ?_) fun _ _ x => x)
    obtain ⟨rfl, z⟩ := z
    have next := ih (i + 1) (by omega) (by omega) s2 z
    obtain ⟨hp2, gs2, dr2, tk2, os2⟩ := s2
    wp_walk
    rw [c1]
    refine ⟨plainId_quiet plain_eq_loop _, codeAny_builtin entry_eq_loop ?_⟩
    rw [Around.under_plainId plain_eq_loop _]
    exact next
theorem body (l b : Addr) (N : Nat) (J : Nat → Shared → Prop) (hl : ListI prog w A (fun e s' => R (.error e) s') l b N J) (fin : ∀ s, J N s → R (.ok (.ret (.bool false))) s) {s : Shared} (h : J 0 s) :
    wpAny (model prog w) A.in1 (Builtin.«list.__ne__» ⟨[.ref l, .ref b], []⟩) (FinOf prog w A R) (fun e s' => R (.error e) s') s := by
  obtain ⟨us, ws, n, m, g1, g2, z1, z2, _⟩ := hl _ _ h
  have next := lap (A := A) (R := R) l b N J hl fin _ 0 rfl (Nat.zero_le _) s h
  obtain ⟨hp, g, d, tk, os⟩ := s
  have sub := AutoSeq1.sub_list_list
  have same : ¬ (us.size != ws.size) = true := by simp [z1, z2]
  wp_walk using wpAny_loadPart' g1, wpAny_loadPart' g2
  refine ⟨plainId_quiet plain_eq_loop _, codeAny_builtin entry_eq_loop ?_⟩
  rw [Around.under_plainId plain_eq_loop _]
  exact next
theorem rc {E : Value → Shared → Prop} {s : Shared} {l b : Addr} {N : Nat} {Q : Value → Shared → Prop} (hu : A.units < cLine) (J : Nat → Shared → Prop) (hl : ListI prog w A E l b N J) (fin : ∀ s, J N s → Q (.bool false) s) (h : J 0 s) :
    wpAny (model prog w) A (richCompare .NotEq (.ref l) (.ref b)) Q E s := by
  obtain ⟨us, ws, n, m, g1, g2, _, _, _⟩ := hl _ _ h
  refine wpAny_richCompare_same_room (op := .NotEq) ⟨_, g1, rfl⟩ ⟨_, g2, rfl⟩ F.slot_list_ne (call_here F.slot_list_ne ⟨_, g1, rfl⟩ F.entry_list_ne (F.args_list_ne_2 _ _) ?_) hu
  exact body (R := wants (fun v s' => v ≠ .notImplemented ∧ Q v s') E) l b N J hl (fun s' q => ⟨(fun x => nomatch x), fin s' q⟩) h
end
end NeL
namespace Ev
open PySem L2 PySem.Spec PyProof.Rows
section
variable {X : Cx} {n : Nat} {D : Eqv}
/-- xs != ys, all items alike -/
def rNeL (D : Eqv) : R2 := fun x y H Q => DList D x y H ∧ ∀ H', Ext H H' → Q (.bl false) H'
theorem op_neL (hD : Mon D) (h : EqG X n D) (hr : Room (n + 1) X.A) : OpR X (compareOp .NotEq) (rNeL D) := by
  intro pins s σ H x y v u Q I rx ry hq
  obtain ⟨⟨a, b, xs, ys, rfl, rfl, ha, hb, p⟩, q⟩ := hq
  cases rx
  cases ry
  have sb : Sub X (n + 1) X.A := ⟨hr, rfl⟩
  show wpAny (model X.prog X.w) X.A (richCompare .NotEq (.ref a) (.ref b)) (EP X pins σ Q) X.xe s
  refine NeL.rc (N := xs.length) sb.room.units0 (fun _ s' => LoopI X pins σ H s') (fun i s' z => ?_) (fun s' z => ?_) ⟨H, I, Ext.rfl'⟩
  · obtain ⟨H1, I1, e1⟩ := id z
    obtain ⟨_, its, k, r, e⟩ := I1.hok a _ (e1 _ _ ha)
    obtain ⟨_, its2, k2, r2, e2⟩ := I1.hok b _ (e1 _ _ hb)
    refine ⟨its.toArray, its2.toArray, k, k2, e, e2, by rw [List.size_toArray, ← r.length], by rw [List.size_toArray, ← r2.length, ← p.1], fun h1 h2 => ?_⟩
    exact turnG hD h sb p r r2 i h1 h2 s' z
  · obtain ⟨H1, I1, e1⟩ := z
    exact ⟨.bl false, H1, I1, rfl, q H1 e1⟩
end
end Ev
namespace Ev
open PySem L2 PySem.Spec PyProof.Rows
/-! Words that write integers: texts by their codes. -/
abbrev Sx (l : List Nat) : Str := SX.S l
def tx (i : Int) : Str := Str.ofString (toString i)
/-- a digit -/
def dig (c : Nat) : Bool := decide (48 ≤ c) && decide (c ≤ 57)
/-- the codes behind a sign -/
def dg (l : List Nat) : List Nat := if l.head? = some 45 then l.tail else l
def allD (l : List Nat) : Bool := !l.isEmpty && l.all dig
/-- the words that str writes of an integer -/
def can (l : List Nat) : Bool := allD (dg l) && !(decide ((dg l).head? = some 48) && decide (l ≠ [48]))
def val (l : List Nat) : Int := if l.head? = some 45 then -((NumText.digitsVal (dg l) : Nat) : Int) else ((NumText.digitsVal (dg l) : Nat) : Int)
theorem allD_iff {l : List Nat} : allD l = true ↔ l ≠ [] ∧ NumText.AllDigits l := by
  unfold allD NumText.AllDigits dig
  cases l with
  | nil => simp
  | cons a r => simp
theorem ascii_S (l : List Nat) : Txt.isascii (Sx l) = l.all (fun c => decide (c < 128)) := by
  unfold Txt.isascii
  simp [Sx, SX.S]
theorem isdigit_S (l : List Nat) : Txt.isdigit (Sx l) = (!l.isEmpty && l.all Unicode.isDigit) := by
  unfold Txt.isdigit
  cases l with
  | nil => simp [Sx, SX.S, Str.length]
  | cons a r => simp [Sx, SX.S, Str.length]
theorem uni_dig {c : Nat} (h : c < 128) : Unicode.isDigit c = dig c := by
  have : ∀ c : Fin 128, Unicode.isDigit c = dig c := by decide +kernel
  exact this ⟨c, h⟩
theorem dig_lt {c : Nat} (h : dig c = true) : c < 128 := by
  unfold dig at h
  simp at h
  omega
theorem digits_S (l : List Nat) : (Txt.isascii (Sx l) && Txt.isdigit (Sx l)) = allD l := by
  rw [ascii_S, isdigit_S]
  unfold allD
  cases h : l.all dig with
  | true =>
    have h' := List.all_eq_true.mp h
    have a : l.all (fun c => decide (c < 128)) = true := List.all_eq_true.mpr fun c hc => decide_eq_true (dig_lt (h' c hc))
    have b : l.all Unicode.isDigit = true := List.all_eq_true.mpr fun c hc => by rw [uni_dig (dig_lt (h' c hc))]; exact h' c hc
    rw [a, b]
    simp
  | false =>
    cases a : l.all (fun c => decide (c < 128)) with
    | false => simp
    | true =>
      have a' := List.all_eq_true.mp a
      have b : l.all Unicode.isDigit = false := by
        cases z : l.all Unicode.isDigit with
        | false => rfl
        | true =>
          have z' := List.all_eq_true.mp z
          rw [List.all_eq_true.mpr fun c hc => by rw [← uni_dig (of_decide_eq_true (a' c hc))]; exact z' c hc] at h
          cases h
      rw [b]
      simp
theorem starts_S (l : List Nat) (c : Nat) : Txt.startswith (Sx l) (Sx [c]) = decide (l.head? = some c) := by
  unfold Txt.startswith
  rw [StrLaws.subAt_eq]
  cases l with
  | nil => simp [Sx, SX.S, Str.length]
  | cons a r =>
    by_cases h : a = c
    · simp [Sx, SX.S, Str.length, h]
    · simp [Sx, SX.S, Str.length, h]
theorem rev_ind {P : List Nat → Prop} (h0 : P []) (h1 : ∀ d c, P d → P (d ++ [c])) (d : List Nat) : P d := by
  have key : ∀ l : List Nat, P l.reverse := by
    intro l
    induction l with
    | nil => exact h0
    | cons a r ih => rw [List.reverse_cons]; exact h1 _ _ ih
  have := key d.reverse
  rwa [List.reverse_reverse] at this
theorem numL_head : ∀ n : Nat, (TL.numL n).head? = some 48 → n = 0 := by
  intro n
  induction n using Nat.strongRecOn with
  | _ n ih =>
    intro h
    by_cases z : n < 10
    · rw [TL.numL_lt z] at h
      have : 48 + n = 48 := Option.some.inj h
      omega
    · rw [TL.numL_step (by omega)] at h
      have ne := TL.numL_ne (n / 10)
      have h2 : (TL.numL (n / 10)).head? = some 48 := by
        cases e : TL.numL (n / 10) with
        | nil => exact absurd e ne
        | cons a r => rw [e] at h; exact h
      have := ih (n / 10) (by omega) h2
      omega
/-- a row of digits without a nought ahead is what str writes -/
theorem val_snoc (d : List Nat) (c : Nat) : NumText.digitsVal (d ++ [c]) = NumText.digitsVal d * 10 + (c - 48) := by
  unfold NumText.digitsVal
  rw [List.foldl_append]
  rfl
theorem val_pos : ∀ d : List Nat, NumText.AllDigits d → d ≠ [] → d.head? ≠ some 48 → 1 ≤ NumText.digitsVal d := by
  intro d
  refine rev_ind (P := fun d => NumText.AllDigits d → d ≠ [] → d.head? ≠ some 48 → 1 ≤ NumText.digitsVal d) (fun _ h => absurd rfl h) (fun d c ih => ?_) d
  · intro ha _ hh
    rw [val_snoc]
    by_cases e : d = []
    · subst e
      have := ha c (by simp)
      have h2 : c ≠ 48 := fun z => hh (by rw [z]; rfl)
      simp [NumText.digitsVal]
      omega
    · have := ih (fun x hx => ha x (by simp [hx])) e (fun z => hh (by
        cases d with
        | nil => exact absurd rfl e
        | cons a r => exact z))
      omega
theorem numL_back : ∀ d : List Nat, NumText.AllDigits d → d ≠ [] → d.head? ≠ some 48 → TL.numL (NumText.digitsVal d) = d := by
  intro d
  refine rev_ind (P := fun d => NumText.AllDigits d → d ≠ [] → d.head? ≠ some 48 → TL.numL (NumText.digitsVal d) = d) (fun _ h => absurd rfl h) (fun d c ih => ?_) d
  · intro ha _ hh
    have hc := ha c (by simp)
    by_cases e : d = []
    · subst e
      rw [val_snoc]
      have : NumText.digitsVal [] * 10 + (c - 48) < 10 := by simp [NumText.digitsVal]; omega
      rw [TL.numL_lt this]
      simp [NumText.digitsVal]
      omega
    · have hd : d.head? ≠ some 48 := fun z => hh (by
        cases d with
        | nil => exact absurd rfl e
        | cons a r => exact z)
      have had : NumText.AllDigits d := fun x hx => ha x (by simp [hx])
      have p := val_pos d had e hd
      rw [val_snoc, TL.numL_step (by omega)]
      have e1 : (NumText.digitsVal d * 10 + (c - 48)) / 10 = NumText.digitsVal d := by omega
      have e2 : 48 + (NumText.digitsVal d * 10 + (c - 48)) % 10 = c := by omega
      rw [e1, e2, ih had e hd]
theorem ofS_cat (a b : String) : Str.ofString (a ++ b) = Str.ofString a ++ Str.ofString b := by
  rw [Str.ofString_eq_toList, Str.ofString_eq_toList, Str.ofString_eq_toList, String.toList_append, List.map_append]
  exact (SX.S_cat _ _).symm
/-- the codes of the text of an integer -/
def txc (i : Int) : List Nat := if i < 0 then 45 :: TL.numL i.natAbs else TL.numL i.natAbs
theorem numL_no45 (n : Nat) : (TL.numL n).head? ≠ some 45 := fun h => by
  have : 45 ∈ TL.numL n := List.mem_of_head? h
  have := TL.numL_digits n 45 this
  omega
theorem dg_nat (n : Nat) : dg (TL.numL n) = TL.numL n := by
  unfold dg
  rw [if_neg (numL_no45 n)]
theorem val_txc (i : Int) : val (txc i) = i := by
  unfold txc
  by_cases h : i < 0
  · rw [if_pos h]
    unfold val dg
    simp only [List.head?_cons, if_true, List.tail_cons]
    rw [TL.numL_val]
    omega
  · rw [if_neg h]
    unfold val
    rw [if_neg (numL_no45 _), dg_nat, TL.numL_val]
    omega
theorem allD_num (n : Nat) : allD (TL.numL n) = true := allD_iff.mpr ⟨TL.numL_ne n, TL.numL_digits n⟩
theorem can_txc (i : Int) : can (txc i) = true := by
  unfold txc
  by_cases h : i < 0
  · rw [if_pos h]
    unfold can
    have e : dg (45 :: TL.numL i.natAbs) = TL.numL i.natAbs := by unfold dg; simp
    rw [e, allD_num]
    have hh : (TL.numL i.natAbs).head? ≠ some 48 := fun z => by
      have := numL_head _ z
      omega
    simp [hh]
  · rw [if_neg h]
    unfold can
    rw [dg_nat, allD_num]
    by_cases hh : (TL.numL i.natAbs).head? = some 48
    · have := numL_head _ hh
      rw [this, TL.numL_lt (by decide)]
      simp
    · simp [hh]
theorem txc_val {l : List Nat} (h : can l = true) : txc (val l) = l := by
  unfold can at h
  rw [Bool.and_eq_true] at h
  obtain ⟨h1, h2⟩ := h
  obtain ⟨ne, ad⟩ := allD_iff.mp h1
  have h2 : ¬ ((dg l).head? = some 48 ∧ l ≠ [48]) := by
    intro z
    rw [decide_eq_true z.1, decide_eq_true z.2] at h2
    cases h2
  by_cases s : l.head? = some 45
  · have e : l = 45 :: dg l := by
      cases l with
      | nil => cases s
      | cons a r =>
        have : a = 45 := Option.some.inj s
        subst this
        unfold dg
        simp
    have hh : (dg l).head? ≠ some 48 := fun z => h2 ⟨z, fun q => by rw [q] at s; cases s⟩
    have p := val_pos _ ad ne hh
    have b := numL_back _ ad ne hh
    unfold val
    rw [if_pos s]
    unfold txc
    rw [if_pos (by omega), Int.natAbs_neg, Int.natAbs_natCast, b]
    exact e.symm
  · have e : dg l = l := by unfold dg; rw [if_neg s]
    unfold val
    rw [if_neg s]
    unfold txc
    rw [if_neg (by omega), Int.natAbs_natCast]
    rw [e] at ad ne h2 ⊢
    by_cases z : l = [48]
    · rw [z]; decide +kernel
    · exact numL_back _ ad ne fun q => h2 ⟨q, z⟩
/-- the law's own look: str of what int reads is the word -/
theorem can_iff {l : List Nat} (h : allD (dg l) = true) : (txc (val l) = l) ↔ can l = true :=
  ⟨fun e => by rw [← e]; exact can_txc _, txc_val⟩
theorem tx_S (i : Int) : tx i = Sx (txc i) := by
  unfold tx txc
  cases i with
  | ofNat n => 
    rw [if_neg (by show ¬ ((n : Int) < 0); omega)]
    exact SX.num_S n
  | negSucc m =>
    rw [if_pos (by omega)]
    have e : toString (Int.negSucc m) = "-" ++ toString ((m + 1 : Nat) : Int) := rfl
    rw [e]
    have e2 : Str.ofString ("-" ++ toString ((m + 1 : Nat) : Int)) = Str.ofString "-" ++ Str.ofString (toString ((m + 1 : Nat) : Int)) := by
      exact ofS_cat _ _
    rw [e2, SX.num_S]
    show SX.S [45] ++ SX.S _ = _
    rw [SX.S_cat]
    rfl
end Ev
namespace Ev
open PySem L2 PySem.Spec PyProof.Rows
def spReadN : Sp := fun vs H Q _ => ∃ l : List Nat, vs = [.str (Sx l)] ∧ l.length ≤ 63 ∧ Q (if can l = true then .int (val l) else .non) H
theorem intText_S {d : List Nat} (h : allD d = true) (hl : d.length ≤ 600) : PySem.intText? (Sx d) = some ((NumText.digitsVal d : Nat) : Int) := by
  obtain ⟨ne, ad⟩ := allD_iff.mp h
  exact PySem.intText_digits (x := Sx d) ad ne (by show d.toArray.size ≤ 4300; simp; omega)
theorem dg_len (l : List Nat) : (dg l).length ≤ l.length := by
  unfold dg
  by_cases h : l.head? = some 45
  · rw [if_pos h, List.length_tail]; omega
  · rw [if_neg h]; exact Nat.le_refl _
theorem dig_slice (l : List Nat) (h : l.head? = some 45) : Txt.slice (Sx l) (some 1) none = Sx (dg l) := by
  have e := SX.slice_from (a := l) (i := 1) (by decide)
  have e2 : l.drop (Int.toNat 1) = dg l := by
    unfold dg
    rw [if_pos h]
    cases l <;> rfl
  rw [e2] at e
  exact e
theorem S_inj {a b : List Nat} (h : Sx a = Sx b) : a = b := by
  have := congrArg (fun z : Str => z.cps.toList) h
  simpa [Sx, SX.S] using this
section
variable {P : Program} {w : World} {K : PySem.W.Frag} {mg : Str → Option Value} {base : Heap}
theorem scReadN : FnScope ["word", "digits", "first", "number", "start"] ["word"] (defScope sReadN) := ⟨rfl, rfl, rfl, by decide +kernel, rfl, by decide +kernel, by decide +kernel⟩
theorem ok_readN {f : Addr} {fd : FuncData} (F : Fun K "read_number" "read_number" sReadN f fd) (T : Blt mg) {t1 t2 : Tok} (gL : mg "PIECE_LENGTH" = some (.int 64 t1)) (gP : mg "PIECE" = some (.int (10 ^ 64) t2)) : FnOk P w K mg base CX0 1 f fd ["word"] spReadN := by
  refine F.ok scReadN (fun vs H Q E h => ?_) (fun cdv A outer s H vs Q E hr h => ?_)
  · obtain ⟨l, rfl, _⟩ := h
    rfl
  · obtain ⟨l, rfl, hl, k⟩ := h
    have st : ∀ (m : List Nat) (c : Nat), Txt.startswith (Sx m) (Sx [c]) = decide (m.head? = some c) := starts_S
    have sz : ∀ m : List Nat, m.length ≤ 63 → (Sx m).length ≤ sizeLine := fun m hm => by
      show m.toArray.size ≤ _
      rw [sizeLine_eq]; simp; omega
    have dl := dg_len l
    have ln : ∀ m : List Nat, (Sx m).length = m.length := fun m => by show m.toArray.size = _; simp
    obtain ⟨tT, hT, qT⟩ : ∃ t : TS, PSs (cxOf CX0 P w K mg base ["word", "digits", "first", "number", "start"] "read_number" (defScope sReadN) f cdv A outer s H E).nox ((defBody sReadN).drop 3) t ∧ ∀ (D : Ends) (G : Hp), allD (dg l) = true → D.rt (.int (val l)) G → t D [some (.str (Sx l)), some (.str (Sx (dg l))), none, none, none] G := by
      refine ⟨_, pss_cons (ps_set (i := 2) scReadN.nd rfl (.inl rfl) (pe_op op_mod (pe_callB call_len_str (by rfl) T.len PySem.boot_len (pa_cons (pv 1) pa_nil)) (C8.pe_gc (v := .int 64) (by rfl) ⟨_, gL, ⟨_, rfl⟩⟩)))
        (pss_cons (ps_set (i := 3) scReadN.nd rfl (.inl rfl) (pe_ifExp (pt_cmpR op_gt (pv 2) pe_int (nomark _)) (pe_callTy call_int_str (by rfl) T.int (by decide +kernel) (pa_cons (pe_slice C8.sl_txt (pv 1) po_none (po_some (pv 2))) pa_nil)) pe_int))
        (pss_cons (ps_for PassesOwn.never rfl (pi_range3 rfl T.range (pa_cons (pv 2) (pa_cons (pe_callB call_len_str (by rfl) T.len PySem.boot_len (pa_cons (pv 1) pa_nil)) (pa_cons (C8.pe_gc (v := .int 64) (by rfl) ⟨_, gL, ⟨_, rfl⟩⟩) pa_nil)))) (pg_name (i := 4) scReadN.nd rfl (.inl rfl))
          (pss_one (ps_set (i := 3) scReadN.nd rfl (.inl rfl) (pe_op op_add (pe_op op_mul (pv 3) (C8.pe_gc (v := .int (10 ^ 64)) (by rfl) ⟨_, gP, ⟨_, rfl⟩⟩)) (pe_callTy call_int_str (by rfl) T.int (by decide +kernel) (pa_cons (pe_slice C8.sl_txt (pv 1) (po_some (pv 4)) (po_some (pe_op op_add (pv 4) (C8.pe_gc (v := .int 64) (by rfl) ⟨_, gL, ⟨_, rfl⟩⟩)))) pa_nil))))))
        (pss_one (ps_ret (pe_ifExp (pt_val (pe_m1 PySem.F.slot_str_startswith PySem.F.type_str_startswith mt_startswith (pv 0) pe_str)) (pe_un un_neg (pv 3)) (pv 3)))))), ?_⟩
      intro D G hd q
      obtain ⟨ne, ad⟩ := allD_iff.mp hd
      have dp : 0 < (dg l).length := List.length_pos_iff.mpr ne
      have d63 : (dg l).length ≤ 63 := by omega
      have em : (((Sx (dg l)).length : Nat) : Int) % 64 = ((dg l).length : Int) := by rw [ln]; omega
      refine ⟨_, rfl, _, rfl, sz _ d63, _, _, rfl, rfl, (by omega : (0 : Int) < 64), ?_⟩
      show gName 2 (.int ((((Sx (dg l)).length : Nat) : Int) % 64)) _ G _
      rw [em]
      refine ⟨_, rfl, _, _, rfl, rfl, _, rfl, ?_⟩
      rw [decide_eq_true (by omega : (0 : Int) < ((dg l).length : Int))]
      refine iteT ⟨_, rfl, _, rfl, _, rfl, _, rfl, sz _ d63, ?_⟩
      have sl : Txt.slice (Sx (dg l)) none (some ((dg l).length : Int)) = Sx (dg l) := by
        have e := SX.slice_to (a := dg l) (i := ((dg l).length : Int)) (by omega)
        rw [Int.toNat_natCast, List.take_length] at e
        exact e
      rw [sl]
      refine ⟨_, _, rfl, intText_S hd (by omega), by rw [ln]; omega, ?_⟩
      refine ⟨_, rfl, _, rfl, _, rfl, sz _ d63, ?_⟩
      have rg : ∀ k : Fin 64, RgC (k.val : Int) (k.val : Int) 64 0 := fun k => ⟨by decide, by decide, by revert k; decide +kernel, by revert k; decide +kernel⟩
      rw [ln]
      refine ⟨_, _, _, 0, rfl, rg ⟨(dg l).length, by omega⟩, ?_⟩
      refine for_rangeC (lo := ((dg l).length : Int)) (c := 64) (n := 0) (fun i σ H5 => σ = [some (.str (Sx l)), some (.str (Sx (dg l))), some (.int ((dg l).length : Int)), some (.int ((NumText.digitsVal (dg l) : Nat) : Int)), none] ∧ H5 = G) ⟨rfl, rfl⟩ (fun i σ H5 h _ => absurd h (Nat.not_lt_zero _)) ?_
      rintro σ H5 ⟨rfl, rfl⟩
      refine ⟨_, rfl, ⟨_, rfl⟩, _, _, rfl, rfl, _, rfl, ?_⟩
      rw [show Txt.startswith (Sx l) (Str.ofString "-") = decide (l.head? = some 45) from st l 45]
      unfold val at q
      by_cases h : l.head? = some 45
      · rw [if_pos h] at q
        rw [decide_eq_true h]
        exact iteT ⟨_, rfl, _, rfl, q⟩
      · rw [if_neg h] at q
        rw [decide_eq_false h]
        exact iteF ⟨_, rfl, q⟩
    obtain ⟨tR, hR, qR⟩ : ∃ t : TS, PSs (cxOf CX0 P w K mg base ["word", "digits", "first", "number", "start"] "read_number" (defScope sReadN) f cdv A outer s H E).nox ((defBody sReadN).drop 1) t ∧ ∀ (D : Ends) (G : Hp) (m : List Nat), m = dg l → D.rt (if can l = true then .int (val l) else .non) G → t D [some (.str (Sx l)), some (.str (Sx m)), none, none, none] G := by
      refine ⟨_, (pss_cons (ps_if (PW.pt (pw_or (pt_not (pt_val (pe_m0 PySem.F.slot_str_isascii PySem.F.type_str_isascii mt_isascii (pv 1)))) (pw_or1 (pt_not (pt_val (pe_m0 PySem.F.slot_str_isdigit PySem.F.type_str_isdigit mt_isdigit (pv 1))))))) (pss_one (ps_ret pe_non)) pss_nil)
      (pss_cons (ps_if (PW.pt (pw_and (pt_val (pe_m1 PySem.F.slot_str_startswith PySem.F.type_str_startswith mt_startswith (pv 1) pe_str)) (pw_and1 (pt_cmpR op_ne (pv 0) pe_str (nomark _))))) (pss_one (ps_ret pe_non)) pss_nil)
      hT)), ?_⟩
      rintro D G m rfl q
      have ds := digits_S (dg l)
      refine ⟨_, rfl, ⟨_, rfl⟩, _, rfl, rfl, trivial, _, rfl, ?_⟩
      cases ha : Txt.isascii (Sx (dg l)) with
      | false =>
        rw [ha, Bool.false_and] at ds
        have c0 : can l = false := by unfold can; rw [← ds]; rfl
        rw [c0] at q
        exact iteT q
      | true =>
        rw [ha, Bool.true_and] at ds
        refine iteF ⟨_, rfl, ⟨_, rfl⟩, _, rfl, rfl, trivial, _, rfl, ?_⟩
        rw [ds]
        cases hd : allD (dg l) with
        | false =>
          have c0 : can l = false := by unfold can; rw [hd]; rfl
          rw [c0] at q
          exact iteT q
        | true =>
          obtain ⟨ne, ad⟩ := allD_iff.mp hd
          refine iteF ⟨_, rfl, ⟨_, rfl⟩, _, _, rfl, rfl, _, rfl, ?_⟩
          rw [show Txt.startswith (Sx (dg l)) (Str.ofString "0") = decide ((dg l).head? = some 48) from st (dg l) 48]
          have go : can l = true → (tL : TS) → True := fun _ _ => trivial
          clear go
          by_cases h0 : (dg l).head? = some 48
          · rw [decide_eq_true h0]
            refine iteT ⟨_, rfl, rfl, ?_⟩
            by_cases h1 : l = [48]
            · have hc : can l = true := by rw [h1]; decide +kernel
              rw [hc] at q
              have e : V.str (Sx l) = V.str (Str.ofString "0") := by rw [h1]; rfl
              refine ⟨_, rfl, ?_⟩
              rw [decide_eq_true e]
              exact iteF (qT _ G hd q)
            · have hc : can l = false := by unfold can; rw [hd, decide_eq_true h0, decide_eq_true h1]; rfl
              rw [hc] at q
              have e : ¬ V.str (Sx l) = V.str (Str.ofString "0") := fun z => h1 (S_inj (V.str.inj z))
              refine ⟨_, rfl, ?_⟩
              rw [decide_eq_false e]
              exact iteT q
          · rw [decide_eq_false h0]
            refine iteF ?_
            have hc : can l = true := by unfold can; rw [hd, decide_eq_false h0]; rfl
            rw [hc] at q
            exact qT _ G hd q
    refine ⟨_, pss_cons (ps_set (i := 1) scReadN.nd rfl (.inl rfl) (pe_ifExp (pt_val (pe_m1 PySem.F.slot_str_startswith PySem.F.type_str_startswith mt_startswith (pv 0) pe_str)) (pe_slice C8.sl_txt (pv 0) (po_some pe_int) po_none) (pv 0))) hR, ?_⟩
    refine ⟨_, rfl, ⟨_, rfl⟩, _, _, rfl, rfl, _, rfl, ?_⟩
    rw [show Txt.startswith (Sx l) (Str.ofString "-") = decide (l.head? = some 45) from st l 45]
    by_cases h : l.head? = some 45
    · rw [decide_eq_true h]
      refine iteT ⟨_, rfl, _, rfl, _, rfl, sz l hl, ?_⟩
      rw [dig_slice l h]
      exact qR _ H _ rfl k
    · rw [decide_eq_false h]
      refine iteF ⟨_, rfl, ?_⟩
      have e : dg l = l := by unfold dg; rw [if_neg h]
      exact qR _ H _ e.symm k
end
end Ev
namespace Ev
open PySem L2 PySem.Spec PyProof.Rows
abbrev wv (l : List Nat) : V := .str (Sx l)
/-- the numbers of the first words -/
def firsts (ws : List (List Nat)) : List Int := ((ws.take 5).takeWhile can).map val
def spFirst : Sp := fun vs H Q _ => ∃ (a : Addr) (ws : List (List Nat)), vs = [.ref a] ∧ H a = some (.lst (ws.map wv)) ∧ (∀ l ∈ ws, l.length ≤ 63) ∧
  ∀ H' r, Same H H' → H r = none → H' r = some (.lst ((firsts ws).map V.int)) → Q (.ref r) H'
theorem cut_to (xs : List V) (k : Nat) : cutV xs none (some (k : Int)) = xs.take k := by
  unfold cutV
  rw [HT.sIx_nat, HT.sIx_none, List.drop_zero, Nat.sub_zero]
  by_cases h : k ≤ xs.length
  · rw [Nat.min_eq_left h]
  · rw [Nat.min_eq_right (by omega), List.take_length, List.take_of_length_le (by omega)]
theorem cut_from (xs : List V) (k : Nat) : cutV xs (some (k : Int)) none = xs.drop k := by
  unfold cutV
  rw [HT.sIx_nat, HT.sIx_none]
  by_cases h : k ≤ xs.length
  · rw [Nat.min_eq_left h]
    exact List.take_of_length_le (by rw [List.length_drop]; exact Nat.le_refl _)
  · rw [Nat.min_eq_right (by omega), List.drop_length, List.drop_of_length_le (by omega), List.take_nil]
theorem cut_mid (xs : List V) (k m : Nat) (h : k ≤ m) : cutV xs (some (k : Int)) (some (m : Int)) = (xs.drop k).take (m - k) := by
  unfold cutV
  rw [HT.sIx_nat, HT.sIx_nat]
  by_cases h1 : k ≤ xs.length
  · rw [Nat.min_eq_left h1]
    by_cases h2 : m ≤ xs.length
    · rw [Nat.min_eq_left h2]
    · rw [Nat.min_eq_right (by omega), List.take_of_length_le (by rw [List.length_drop]; omega), List.take_of_length_le (by rw [List.length_drop]; omega)]
  · rw [Nat.min_eq_right (show xs.length ≤ k by omega), Nat.min_eq_right (show xs.length ≤ m by omega), List.drop_length, List.drop_of_length_le (show xs.length ≤ k by omega), List.take_nil, List.take_nil]
theorem firsts_stop {ws : List (List Nat)} {i : Nat} {l : List Nat} (h : (ws.take 5)[i]? = some l) (a : ((ws.take 5).take i).all can = true) (c : can l = false) : firsts ws = ((ws.take 5).take i).map val := by
  unfold firsts
  generalize ws.take 5 = us at *
  induction us generalizing i with
  | nil => simp at h
  | cons b r ih =>
    cases i with
    | zero =>
      cases h
      simp [List.takeWhile_cons, c]
    | succ i =>
      rw [List.take_succ_cons, List.all_cons, Bool.and_eq_true] at a
      rw [List.takeWhile_cons, if_pos a.1, List.take_succ_cons, List.map_cons, List.map_cons, ih (by simpa using h) a.2]
theorem firsts_all {ws : List (List Nat)} (a : (ws.take 5).all can = true) : firsts ws = (ws.take 5).map val := by
  unfold firsts
  generalize ws.take 5 = us at *
  induction us with
  | nil => rfl
  | cons b r ih =>
    rw [List.all_cons, Bool.and_eq_true] at a
    rw [List.takeWhile_cons, if_pos a.1, List.map_cons, List.map_cons, ih a.2]
section
variable {P : Program} {w : World} {K : PySem.W.Frag} {mg : Str → Option Value} {base : Heap}
theorem scFirst : FnScope ["words", "numbers", "word", "number"] ["words"] (defScope sFirst) := ⟨rfl, rfl, rfl, by decide +kernel, rfl, by decide +kernel, by decide +kernel⟩
theorem ok_first {f : Addr} {fd : FuncData} (F : Fun K "first_numbers" "first_numbers" sFirst f fd) (T : Blt mg) {t1 : Tok} (gM : mg "MOST_PARTS" = some (.int 5 t1)) (D1 : Df P w K mg base 1 "read_number" ["word"] spReadN) : FnOk P w K mg base CX0 2 f fd ["words"] spFirst := by
  obtain ⟨f1, fd1, G1, g1, k1, b1⟩ := D1.ex
  refine F.ok scFirst (fun vs H Q E h => ?_) (fun cdv A outer s H vs Q E hr h => ?_)
  · obtain ⟨a, ws, rfl, _⟩ := h
    rfl
  · obtain ⟨a, ws, rfl, ha, hw, kk⟩ := h
    refine ⟨_, pss_cons (ps_set (i := 1) scFirst.nd rfl (.inl rfl) (pe_lst pa_nil))
      (pss_cons (ps_for PassesOwn.never rfl (pi_list (pe_slice sl_list (pv 0) po_none (po_some (C8.pe_gc (v := .int 5) (by rfl) ⟨_, gM, ⟨_, rfl⟩⟩)))) (pg_name (i := 2) scFirst.nd rfl (.inl rfl))
        (pss_cons (ps_set (i := 3) scFirst.nd rfl (.inl rfl) (pe_call G1 hr (by rfl) g1 k1 b1 .nil pass0 (pa_cons (pv 2) pa_nil)))
        (pss_cons (ps_if (pt_cmpR op_isN (pv 3) pe_non (nomark _)) (pss_one (ps_ret (pv 1))) pss_nil)
        (pss_one (ps_expr (pe_bm PySem.F.plainAttrs_list PySem.F.slot_list_append PySem.F.type_list_append mt_append (pv 1) (pa_cons (pv 3) pa_nil)))))))
      (pss_one (ps_ret (pv 1)))), ?_⟩
    refine ⟨by decide, fun D nD => ?_⟩
    have aD := ne_of_none ha nD
    have ha1 : upd H D (.lst []) a = some (.lst (ws.map wv)) := by rw [upd_ne aD]; exact ha
    refine ⟨_, rfl, _, rfl, _, _, rfl, SqL.of ha1, fun S nS => ?_⟩
    have c5 : cutV (ws.map wv) none (some (5 : Int)) = (ws.take 5).map wv := by
      rw [show (some (5 : Int)) = some ((5 : Nat) : Int) from rfl, cut_to, List.map_take]
    rw [c5]
    have DS : D ≠ S := ne_of_none (upd_same (H := H) (a := D) (o := .lst [])) nS
    have SH : H S = none := by rw [upd_ne (Ne.symm DS)] at nS; exact nS
    generalize e1 : upd (upd H D (.lst [])) S (.lst ((ws.take 5).map wv)) = H1
    have h1D : H1 D = some (.lst []) := by rw [← e1, upd_ne DS, upd_same]
    have h1S : H1 S = some (.lst ((ws.take 5).map wv)) := by rw [← e1, upd_same]
    have s1 : ∀ G, But D H1 G → Same H G := fun G b c o e => b c o (ne_of_none e nD) (by rw [← e1, upd_ne (ne_of_none e SH), upd_ne (ne_of_none e nD)]; exact e)
    clear e1
    refine ⟨S, rfl, ⟨_, SqL.of h1S⟩, ?_⟩
    refine for_list (xs := (ws.take 5).map wv) (fun i σ G => (∃ v2 v3, σ = [some (.ref a), some (.ref D), v2, v3]) ∧ ((ws.take 5).take i).all can = true ∧ G D = some (.lst ((((ws.take 5).take i).map val).map V.int)) ∧ But D H1 G) ⟨⟨none, none, rfl⟩, rfl, h1D, But.refl _ _⟩ (fun i σ G _ h => SqL.of (h.2.2.2 _ _ (Ne.symm DS) h1S)) ?_ ?_
    · rintro i x σ G hx ⟨⟨v2, v3, rfl⟩, ac, gD, bt⟩
      rw [List.getElem?_map] at hx
      obtain ⟨l, hl, rfl⟩ := Option.map_eq_some_iff.mp hx
      have l63 : l.length ≤ 63 := hw l (List.mem_of_mem_take (List.mem_of_getElem? hl))
      refine ⟨_, rfl, l, rfl, l63, ?_⟩
      by_cases c : can l = true
      · rw [if_pos c]
        refine ⟨_, rfl, rfl, _, rfl, iteF ?_⟩
        have il : i < (ws.take 5).length := (List.getElem?_eq_some_iff.mp hl).1
        have tk : (ws.take 5).take (i + 1) = (ws.take 5).take i ++ [l] := by
          generalize ws.take 5 = us at hl
          rw [List.take_add_one, hl]
          rfl
        refine ⟨_, rfl, .inl ⟨rfl, _, SqL.of gD⟩, _, rfl, D, _, _, rfl, rfl, gD, ?_, ⟨_, _, rfl⟩, ?_, ?_, ?_⟩
        · rw [List.length_map, List.length_map, List.length_take]
          exact Nat.lt_of_le_of_lt (Nat.min_le_left _ _) (Nat.lt_of_lt_of_le (show i < 1000 by rw [List.length_take] at il; omega) (by decide))
        · rw [tk, List.all_append, ac]
          simp [c]
        · rw [upd_same, tk]
          simp
        · exact bt.trans But.upd_at
      · have c : can l = false := by simpa using c
        rw [if_neg (by simp [c])]
        refine ⟨_, rfl, rfl, _, rfl, iteT ⟨_, rfl, ?_⟩⟩
        refine kk G D (s1 G bt) nD ?_
        rw [firsts_stop hl ac c]
        exact gD
    · rintro σ G ⟨⟨v2, v3, rfl⟩, ac, gD, bt⟩
      rw [List.length_map, List.take_length] at ac gD
      refine ⟨_, rfl, kk G D (s1 G bt) nD ?_⟩
      rw [firsts_all ac]
      exact gD
end
end Ev
namespace Ev
open PySem L2 PySem.Spec PyProof.Rows
section
variable {X : Cx} {CX : CXT} {C g : Addr} {n : Nat} {sp : Sp} {E : XK}
/-- str of an instance with its own __str__ -/
def rStrO (C : Addr) (sp : Sp) (E : XK) : List V → Hp → VK → Prop := fun xs H Q => ∃ (a dx : Addr) (fs : List (Str × V)), xs = [.ref a] ∧ H a = some (.ins C dx fs) ∧ sp [.ref a] H (fun z H' => (∃ y : Str, z = .str y) ∧ Q z H') E
theorem call_strO (hf : PySem.W.findIn X.K (.ref C) "__str__" = some (some (.ref g))) (hk : PySem.W.isFn X.K (.ref g) = true) (F : FnR X.prog X.w X.K X.mg X.base CX n g sp) (hr : Room (n + 2) X.A) (hx : Passes CX X E) : CallR X (.type "str") (rStrO C sp E) := by
  intro pins s σ H xs us Q I r h
  obtain ⟨a, dx, fs, rfl, ha, q⟩ := h
  obtain ⟨u, rfl, rx⟩ : ∃ u, us = [u] ∧ u = Value.ref a := by
    cases r with
    | cons r1 r2 => cases r2; exact ⟨_, rfl, r1⟩
  subst rx
  obtain ⟨mA, J, _⟩ := ins_get I.hok ha
  obtain ⟨od, J, _⟩ := J.look
  have hr1 : Room (n + 1) X.A.in1 := hr.in1
  have hr2 : Room n X.A.in1.in1 := hr1.in1
  refine PySem.W.kso_call hr2.units0 I.kIn J hf hk ?_
  refine wpAny_mono (wpAny_call (SlX.run_at (us := [.ref a]) (ws := [.ref a]) F hr2 I.env0.in1.in1 hx I (.cons rfl .nil) q)) (fun w' s' z => ?_) fun _ _ z => z
  obtain ⟨z', H', I', rz, ⟨y, rfl⟩, q'⟩ := z
  obtain ⟨tk, rfl⟩ : ∃ tk, w' = Value.str y tk := rz
  exact ⟨.str y, H', I', ⟨tk, rfl⟩, q'⟩
end
theorem lc_pureV {J : It} {n : Nat} {G : Hp → Prop} {Y : Nat → Hp → V → Hp → Prop} (W : Walk J n G Y) {g : TG} {tt : TT} {te : TE} {vs : List Nat} {σ : L2.St} {H1 : Hp} {D : Addr} {Qd : Hp → Prop} (rs : List V) (hn : rs.length = n) (hb : n ≤ 1000)
    (hG : ∀ H, But D H1 H → G H)
    (step : ∀ (i : Nat) (x : V) (H H' : Hp) (r : V), i < n → rs[i]? = some r → But D H1 H → (∃ acc, H D = some (.lst acc)) → Y i H x H' → ∀ (R : VK) (Wk : Hp → Prop), (∀ H4, Same H H4 → R r H4) →
      g x (wipe σ vs) H' fun σ2 H2 => wipe σ2 vs = wipe σ vs ∧ tt σ2 H2 fun b H3 => if b = true then te σ2 H3 R else Wk H3)
    (fin : ∀ H, But D H1 H → H D = some (.lst rs) → Qd H) :
    ∃ W : Nat → Nat → Hp → Prop, (∃ m, W 0 m (upd H1 D (HO.lst []))) ∧ ∀ (i m : Nat) (H : Hp), W i m H → J.stop i H ∧ Qd H ∨ J.go i H ∧ ∃ Nx : Hp → Prop, (∀ (H' : Hp), Nx H' → ∃ m', m' < m ∧ W (i + 1) m' H') ∧
      ∀ (x : V) (H' : Hp), J.yld i H x H' → g x (wipe σ vs) H' fun σ2 H2 => wipe σ2 vs = wipe σ vs ∧ tt σ2 H2 fun b H3 =>
        if b = true then te σ2 H3 fun y H4 => ∃ acc, H4 D = some (HO.lst acc) ∧ acc.length < sizeLine ∧ Nx (upd H4 D (HO.lst (acc ++ [y]))) else Nx H3 := by
  refine lc_it W (fun i H => H D = some (.lst (rs.take i)) ∧ But D H1 H) ⟨upd_same, But.upd_at⟩ (fun i H _ h => hG H h.2) (fun i x H H' hi h y => ?_) (fun H h => ?_)
  · obtain ⟨e1, e2⟩ := h
    have hr : rs[i]? = some rs[i] := List.getElem?_eq_getElem (by omega)
    refine step i x H H' rs[i] hi hr e2 ⟨_, e1⟩ y _ _ fun H4 s4 => ⟨_, s4 _ _ e1, ?_, ?_, ?_⟩
    · rw [List.length_take]
      exact Nat.lt_of_le_of_lt (Nat.min_le_left _ _) (Nat.lt_of_lt_of_le (show i < 1000 by omega) (by decide))
    · rw [List.take_add_one, hr]
      exact upd_same
    · exact fun c o nc ec => by rw [upd_ne nc]; exact s4 _ _ (e2 c o nc ec)
  · obtain ⟨e1, e2⟩ := h
    rw [← hn, List.take_length] at e1
    exact fin H e2 e1
theorem pss_nev {X : Cx} {ss : List Stmt} : PSs X ss (fun _ _ _ => False) := ⟨fun _ _ _ _ _ _ h => h.elim⟩
/-- words with single spaces between -/
def jn (ws : List (List Nat)) : List Nat := TL.joinL [32] ws
/-- the words of a test -/
def wT (ps : List Int) (b : Int) : List (List Nat) := ps.map txc ++ [[62, 61], txc b]
theorem numL_len : ∀ (k n : Nat), n < 10 ^ (k + 1) → (TL.numL n).length ≤ k + 1 := by
  intro k
  induction k with
  | zero => intro n h; rw [TL.numL_lt (by simpa using h)]; simp
  | succ k ih =>
    intro n h
    by_cases z : n < 10
    · rw [TL.numL_lt z]; simp
    · rw [TL.numL_step (by omega), List.length_append]
      have := ih (n / 10) (by rw [Nat.pow_succ] at h; omega)
      simp
      omega
/-- a number of at most 63 figures -/
def Mn (n : Int) : Prop := n.natAbs < 10 ^ 63
def AllM (ns : List Int) : Prop := ∀ n ∈ ns, Mn n
theorem Nn.m {n : Int} (h : Nn n) : Mn n := Nat.lt_of_le_of_lt h (by decide)
theorem AllN.m {ns : List Int} (h : AllN ns) : AllM ns := fun n m => (h n m).m
theorem txc_len42 {n : Int} (h : Nn n) : (txc n).length ≤ 42 := by
  have a := numL_len 40 n.natAbs (Nat.lt_of_le_of_lt h (by decide))
  unfold txc
  by_cases z : n < 0
  · rw [if_pos z]; simp; omega
  · rw [if_neg z]; omega
theorem txc_len {n : Int} (h : Mn n) : (txc n).length ≤ 64 := by
  have a := numL_len 62 n.natAbs h
  unfold txc
  by_cases z : n < 0
  · rw [if_pos z]; simp; omega
  · rw [if_neg z]; omega
theorem nn_log {n : Int} (h : Mn n) : n.natAbs.log2 < 1920 := by
  by_cases z : n.natAbs = 0
  · rw [z]; decide
  · exact (Nat.log2_lt z).mpr (Nat.lt_of_lt_of_le h (by decide +kernel))
theorem jn_len : ∀ ws : List (List Nat), (∀ l ∈ ws, l.length ≤ 64) → (jn ws).length ≤ 65 * ws.length := by
  intro ws
  induction ws with
  | nil => intro _; simp [jn, TL.joinL]
  | cons a r ih =>
    intro h
    have h1 := h a List.mem_cons_self
    cases r with
    | nil => simp [jn, TL.joinL]; omega
    | cons c t =>
      have h2 := ih fun l m => h l (List.mem_cons_of_mem _ m)
      simp only [jn, TL.joinL, List.length_append, List.length_cons, List.length_nil] at h2 ⊢
      omega
theorem jn_app : ∀ (xs : List (List Nat)) (t : List Nat), xs ≠ [] → jn (xs ++ [[62, 61], t]) = jn xs ++ ([32, 62, 61, 32] ++ t) := by
  intro xs
  induction xs with
  | nil => intro t h; exact absurd rfl h
  | cons a r ih =>
    intro t _
    cases r with
    | nil => simp [jn, TL.joinL]
    | cons c q =>
      have := ih t (by simp)
      simp only [jn, List.cons_append, TL.joinL] at this ⊢
      rw [this]
      simp [List.append_assoc]
def spWord : Sp := fun vs H Q _ => ∃ i : Int, vs = [.int i] ∧ Mn i ∧ Q (.str (Sx (txc i))) H
def spWords : Sp := fun vs H Q _ => ∃ (t : Addr) (ps : List Int), vs = [.ref t] ∧ H t = some (.tup (ps.map V.int)) ∧ ps.length ≤ 5 ∧ AllM ps ∧ ∀ H', Same H H' → Q (.str (Sx (jn (ps.map txc)))) H'
def spTStr (C : Addr) : Sp := fun vs H Q _ => ∃ (x : Addr) (ps : List Int) (b : Int), vs = [.ref x] ∧ TestAt C H x ps b ∧ 1 ≤ ps.length ∧ ps.length ≤ 5 ∧ AllM ps ∧ Mn b ∧ ∀ H', Same H H' → Q (.str (Sx (jn (wT ps b)))) H'
section
variable {P : Program} {w : World} {K : PySem.W.Frag} {mg : Str → Option Value} {base : Heap}
theorem scWord : FnScope ["number", "rest", "pieces", "low", "digits"] ["number"] (defScope sWord) := ⟨rfl, rfl, rfl, by decide +kernel, rfl, by decide +kernel, by decide +kernel⟩
theorem ok_word {f : Addr} {fd : FuncData} (F : Fun K "number_word" "number_word" sWord f fd) (mstr : mg "str" = none) {t : Tok} (gP : mg "PIECE" = some (.int (10 ^ 64) t)) : FnOk P w K mg base CX0 1 f fd ["number"] spWord := by
  refine F.ok scWord (fun vs H Q E h => ?_) (fun cdv A outer s H vs Q E hr h => ?_)
  · obtain ⟨i, rfl, _⟩ := h
    rfl
  · obtain ⟨i, rfl, hi, kk⟩ := h
    refine ⟨_, pss_cons (ps_if (pt_chain op_lt op_lt (pe_un un_neg (pe_glob (v := .int (10 ^ 64)) rfl gP ⟨_, rfl⟩)) (pv 0) (pe_glob (v := .int (10 ^ 64)) rfl gP ⟨_, rfl⟩)) (pss_one (ps_ret (pe_callTy call_str_int (by rfl) mstr (by decide +kernel) (pa_cons (pv 0) pa_nil)))) pss_nil) pss_nev, ?_⟩
    have e64 : (10 : Int) ^ 64 = 10000000000000000000000000000000000000000000000000000000000000000 := by decide
    have n63 : (10 : Nat) ^ 63 = 1000000000000000000000000000000000000000000000000000000000000000 := by decide
    have hi' : i.natAbs < 10 ^ 63 := hi
    have q1 : decide (-(10 : Int) ^ 64 < i) = true := decide_eq_true (by rw [e64]; omega)
    have q2 : decide (i < (10 : Int) ^ 64) = true := decide_eq_true (by rw [e64]; omega)
    refine ⟨_, rfl, _, rfl, _, _, rfl, rfl, _, rfl, ?_⟩
    rw [q1]
    refine iteT ⟨_, _, rfl, rfl, _, rfl, ?_⟩
    rw [q2]
    refine iteT ⟨_, rfl, i, rfl, nn_log hi, ?_⟩
    rw [← tx_S] at kk
    exact kk
theorem scWords : FnScope ["numbers", "number"] ["numbers"] (defScope sWords) := ⟨rfl, rfl, rfl, by decide +kernel, rfl, by decide +kernel, by decide +kernel⟩
theorem ok_words {f : Addr} {fd : FuncData} (F : Fun K "number_words" "number_words" sWords f fd) (D : Df P w K mg base 1 "number_word" ["number"] spWord) : FnOk P w K mg base CX0 2 f fd ["numbers"] spWords := by
  obtain ⟨f1, fd1, G1, g1, k1, b1⟩ := D.ex
  refine F.ok scWords (fun vs H Q E h => ?_) (fun cdv A outer s H vs Q E hr h => ?_)
  · obtain ⟨t, ps, rfl, _⟩ := h
    rfl
  · obtain ⟨t, ps, rfl, ht, n5, hs, kk⟩ := h
    refine ⟨_, pss_one (ps_ret (pe_join pe_str (pe_lc (own := [("number", 1)]) (g := gName 1) (tt := tYes) (te := tCall spWord [] E0 (tCons (tVar 1) tNil)) (by rfl) scWords.nd (pi_tup (pv 0)) (blkOk_by (own := [("number", 1)]) (N := ["numbers", "number"]) (sc := defScope sWords) (by decide +kernel))
        (fun _ _ _ _ _ => pg_name (i := 1) scWords.nd rfl (.inl rfl)) (fun _ _ _ _ _ => pts_nil) (fun _ _ _ _ _ => pe_call G1 hr (by rfl) g1 k1 b1 .nil pass0 (pa_cons (pv 1) pa_nil))))), ?_⟩
    refine ⟨⟨_, rfl⟩, _, rfl, t, rfl, ⟨_, SqT.of ht⟩, fun D nD => ?_⟩
    have tD := ne_of_none ht nD
    refine lc_pureV (n := ps.length) ((walk_tup (xs := ps.map V.int) |> fun w => by simpa using w)) (((ps.map txc).map SX.S).map V.str) (by simp) (by omega) (fun H' h => SqT.of (h _ _ tD ht)) (fun i v H2 H' r hi hr bt _ y R Wk k => ?_) (fun H' bt hD => ?_)
    · obtain ⟨rfl, hv⟩ := y
      obtain ⟨m, hn, rfl⟩ := int_at hv
      have er : r = .str (Sx (txc m)) := by
        rw [List.getElem?_map, List.getElem?_map, List.getElem?_map, hn] at hr
        exact (Option.some.inj hr).symm
      subst er
      exact ⟨rfl, _, rfl, m, rfl, hs m (List.mem_of_getElem? hn), k _ (Same.refl _)⟩
    · have s1 : Same H H' := fun c o e => bt c o (ne_of_none e nD) e
      have kk := kk _ s1
      refine ⟨_, D, (ps.map txc).map SX.S, rfl, rfl, .inl (SqL.of hD), ?_, ?_⟩
      · rw [SX.lens]
        have key : ∀ l : List Int, AllM l → ((l.map txc).map (·.length)).sum ≤ l.length * 64 := by
          intro l
          induction l with
          | nil => intro _; simp
          | cons z r ih =>
            intro h
            have h1 := txc_len (h z List.mem_cons_self)
            have h2 := ih fun q m => h q (List.mem_cons_of_mem _ m)
            simp only [List.map_cons, List.sum_cons, List.length_cons] at h2 ⊢
            omega
        have := key ps hs
        have e1 : (Str.ofString " ").length = 1 := by decide +kernel
        rw [e1, List.length_map, List.length_map]
        omega
      · have e : Txt.join (Str.ofString " ") ((ps.map txc).map SX.S) = Sx (jn (ps.map txc)) := SX.join_S [32] (ps.map txc)
        rw [e]
        exact kk
theorem scTStr : FnScope ["self"] ["self"] (defScope sTStr) := ⟨rfl, rfl, rfl, by decide +kernel, rfl, by decide +kernel, by decide +kernel⟩
theorem S_size (l : List Nat) {n : Nat} (h : l.length ≤ n) (hn : n ≤ 100000) : (Sx l).length ≤ sizeLine := by
  rw [SX.S_len, sizeLine_eq]
  omega
theorem ok_tStr {f C : Addr} {fd : FuncData} (F : Fun K "__str__" "Test.__str__" sTStr f fd) (TC : TCls K C) (D1 : Df P w K mg base 1 "number_word" ["number"] spWord) (D2 : Df P w K mg base 2 "number_words" ["numbers"] spWords) : FnOk P w K mg base CX0 3 f fd ["self"] (spTStr C) := by
  obtain ⟨f1, fd1, G1, g1, k1, b1⟩ := D1.ex
  obtain ⟨f2, fd2, G2, g2, k2, b2⟩ := D2.ex
  refine F.ok scTStr (fun vs H Q E h => ?_) (fun cdv A outer s H vs Q E hr h => ?_)
  · obtain ⟨x, ps, b, rfl, _⟩ := h
    rfl
  · obtain ⟨x, ps, b, rfl, tt, n1, n5, hs, hb, kk⟩ := h
    obtain ⟨dx, t, hx, ht⟩ := id tt
    have hr1 : Room 1 _ := hr.mono (by decide)
    refine ⟨_, pss_one (ps_ret (pe_joined (PJ.cons (pe_fmt (pe_call G2 hr (by rfl) g2 k2 b2 .nil pass0 (pa_cons (pe_fld (pv 0) rfl) pa_nil))) (PJ.cons pe_str (PJ.cons (pe_fmt (pe_call G1 hr1 (by rfl) g1 k1 b1 .nil pass0 (pa_cons (pe_fld (pv 0) rfl) pa_nil))) PJ.nil))))), ?_⟩
    have lb := txc_len hb
    have ll := jn_len (ps.map txc) fun l m => by
      obtain ⟨z, hz, rfl⟩ := List.mem_map.mp m
      exact txc_len (hs z hz)
    rw [List.length_map] at ll
    have hne : ps.map txc ≠ [] := fun z => by
      have := congrArg List.length z
      rw [List.length_map, List.length_nil] at this
      omega
    have e1 : Str.empty ++ Sx (jn (ps.map txc)) = Sx (jn (ps.map txc)) := SX.S_cat [] _
    have e2 : Sx (jn (ps.map txc)) ++ Str.ofString " >= " = Sx (jn (ps.map txc) ++ [32, 62, 61, 32]) := SX.S_cat _ _
    have e3 : Sx (jn (ps.map txc) ++ [32, 62, 61, 32]) ++ Sx (txc b) = Sx (jn (wT ps b)) := by
      rw [SX.S_cat]
      unfold wT
      rw [jn_app _ _ hne, List.append_assoc]
    refine ⟨_, rfl, x, C, dx, _, _, rfl, hx, TC.cl, TC.n1, test_parts t b, t, ps, rfl, ht, n5, hs, fun H1 s1 => .inl ⟨_, rfl, S_size _ ll (by omega), _, rfl, ?_, ?_⟩⟩
    · rw [e1]
      exact S_size _ ll (by omega)
    rw [e1]
    refine ⟨_, rfl, ?_, _, rfl, x, C, dx, _, _, rfl, s1 _ _ hx, TC.cl, TC.n2, test_bound t b, b, rfl, hb, .inl ⟨_, rfl, S_size _ lb (by omega), _, rfl, ?_, ?_⟩⟩
    · rw [e2]
      exact S_size (n := 65 * ps.length + 4) _ (by rw [List.length_append]; simp; omega) (by omega)
    · rw [e2, e3]
      exact S_size (n := 65 * ps.length + 4 + 64) _ (by unfold wT; rw [jn_app _ _ hne, List.length_append]; simp; omega) (by omega)
    · rw [e2, e3]
      exact kk _ s1
end
end Ev
namespace Ev
open PySem L2 PySem.Spec PyProof.Rows
/-! An error that was caught stays in a local behind its suite: its object is told of from then on. -/
def Held (cls : Value) (d : Option Addr) (a : Addr) : HO := .ext fun h => ∃ oe : Obj, h.get? a = some oe ∧ Zc cls d oe ∧ ∃ vs : Array Value, oe.data = .fields vs
theorem held_ok {P : Program} {w : World} {H : Hp} {h : Heap} {a : Addr} {cls : Value} {d : Option Addr} {oe : Obj}
    (e : h.get? a = some oe) (z : Zc cls d oe) (f : ∃ vs : Array Value, oe.data = .fields vs) : ObjOk P w H h a (Held cls d a) :=
  ⟨⟨oe, e, z, f⟩, ⟨oe, e⟩, fun _ _ t k => by obtain ⟨o, q, r⟩ := t; exact ⟨o, k _ q, r⟩⟩
section
variable {X : Cx} {pins : List (Addr × Obj)} {σ : L2.St} {H : Hp} {s : Shared} {a : Addr} {cls : Value} {d : Option Addr} {oe : Obj}
theorem inv_hold (I : Inv X pins σ H s) (e : s.heap.get? a = some oe) (z : Zc cls d oe) (f : ∃ vs : Array Value, oe.data = .fields vs) (n : H a = none)
    (n0 : X.s_0.heap.get? a = none) (nL : a ≠ X.env.locals) (np : ∀ p ∈ X.pn ++ pins, p.1 ≠ a) : Inv X pins σ (upd H a (Held cls d a)) s := by
  have other : ∀ {b : Addr} {o : HO}, H b = some o → upd H a (Held cls d a) b = some o := fun {b o} q => by rw [upd_ne (ne_of_none q n)]; exact q
  constructor
  · exact I.ok
  · exact I.os
  · exact I.bare
  · constructor
    · exact I.base.keep
    · exact I.base.slot
    · intro b o q1 q2 q3
      have nb : b ≠ a := fun t => by rw [t, n0] at q1; cases q1
      rw [upd_ne nb]; exact I.base.free b o q1 q2 q3
    · exact I.base.there
    · exact fun b xs q => other (I.base.tups b xs q)
    · exact fun b o u q => other (I.base.frzs b o u q)
    · intro b ps q
      obtain ⟨more, t⟩ := I.base.tbls b ps q
      exact ⟨more, other t⟩
  · exact I.loc
  · exact I.cell
  · rw [upd_ne nL.symm]; exact I.free
  · intro x c q
    have nb : c ≠ a := fun t => by
      obtain ⟨v, o, q1, q2⟩ := I.cell x c q
      obtain ⟨vs, q3⟩ := f
      rw [t, e] at q1; cases q1
      rw [q3] at q2; cases q2
    rw [upd_ne nb]; exact I.freeC x c q
  · intro p hp
    obtain ⟨q1, q2, q3⟩ := I.pin p hp
    exact ⟨q1, by rw [upd_ne (np p hp)]; exact q2, q3⟩
  · intro b o q
    by_cases nb : b = a
    · subst nb
      rw [upd_same] at q
      cases q
      exact held_ok e z f
    · rw [upd_ne nb] at q
      exact (I.hok b o q).stay (fun _ _ _ t => t) (fun _ t => other t) (fun _ _ t => other t)
  · exact I.len
end
/-- what the clause wishes: the suite reads the error in slot i; behind it the error is told of, slot i is empty -/
def wHeld (K : PySem.W.Frag) (c : Value) (i : Nat) (ts : Addr → Value → Option Addr → TS) (Wout : WX) (n : Nat) (D : Ends) : WX := fun cls d σ H => σ.length = n →
  ∃ b, PySem.W.exmOne K cls c = some b ∧ (b = false → Wout cls d σ H) ∧ (b = true → ∀ a, H a = none →
    ts a cls d { nx := fun τ G => G a = none → D.nx (τ.set i none) (upd G a (Held cls d a)), rt := fun v G => D.rt v G, bk := fun τ G => D.bk (τ.set i none) G, ct := fun τ G => D.ct (τ.set i none) G } (σ.set i (some (.ref a))) H)
section
variable {X : Cx} {x n : Str} {c : Value} {i : Nat} {body suite : List Stmt} {b₀ : Stmt} {np pos pos' : Pos} {tb : WX → TS} {ts : Addr → Value → Option Addr → TS} {Wout : WX}
theorem ps_try_held (hs : X.stack = X.env :: X.outer) (hf : X.env.frame = some X.env.locals) (hex : X.ex = []) (hN : X.N.Nodup) (hi : X.N[i]? = some n) (hln : X.env.kindOf n = some .local) (hc : Names X x c) (tk : Takes X Wout)
    (hb : ∀ (W : WX) (pn : List (Addr × Obj)) (xe : Value → Shared → Prop), Takes (X.tr pn xe) W → PSs (X.tr pn xe) body (tb W))
    (hsu : ∀ (a : Addr) (oe : Obj) (cls : Value) (d : Option Addr) (pn : List (Addr × Obj)), Zc cls d oe → (∃ vs, oe.data = .fields vs) → PSs (X.suite a ((a, oe) :: pn)) (b₀ :: suite) (ts a cls d)) :
    PS X (.Try body [.ExceptHandler (some (.Name x np)) (some n) (b₀ :: suite) pos'] [] [] pos) (fun D σ H => tb (wHeld X.K c i ts Wout X.N.length D) D σ H) := by
  constructor
  intro pins s σ H D I h
  have ok := I.ok
  have frames : X.A.frames = some (X.env :: X.outer) := by rw [ok.frames, hs]
  have isLoc : Loc X.env.scope n := .inl hln
  let hands : List ExceptHandler := [.ExceptHandler (some (.Name x np)) (some n) (b₀ :: suite) pos']
  let land : Value → Shared → Prop := fun e s1 => wpAny (model X.prog X.w) X.A (noteFrame e X.env) (fun _ s2 => wpAny (model X.prog X.w) X.A (setFlight e none)
    (fun _ s3 => wpAny (model X.prog X.w) X.A (handleBy e X.env hands) (SP X pins D) X.xe s3) X.xe s2) X.xe s1
  have caught : Takes (X.tr (X.pn ++ pins) land) (wHeld X.K c i ts Wout X.N.length D) := by
    rintro u s' ⟨a, B, sI, pins', σ', H', cls, d, rfl, J', nb, up, sky, na, os, ag, wish⟩
    obtain ⟨b, hb1, hno, hyes⟩ := wish J'.len
    have J : Inv X pins σ' H' sI := J'.ofTry ok
    have sky2 : Sky B (X.env :: X.outer) a (Zc cls d) X.env.locals s'.heap := by rw [← hs]; exact sky
    refine Sky.land Zc.steady frames hf sky2 fun h3 fl3 up3 => ?_
    have J3 : Inv X pins σ' H' { s' with heap := h3 } := J.landed nb fl3.1 (up.trans up3) os ag
    obtain ⟨oe3, vs3, he3, hz3, hd3⟩ := fl3.there
    have nfr : a ∉ frs (X.env :: X.outer) := by
      intro hm
      obtain ⟨_, o2, e2, nf⟩ := fl3.2.2.1.mem hm
      rw [he3] at e2; cases e2
      exact nf _ hd3
    have nfr2 : a ∉ frs X.stack := by rw [hs]; exact nfr
    have nL : a ≠ X.env.locals := fun z => nfr (List.mem_filterMap.mpr ⟨_, List.mem_cons_self, by rw [hf, z]⟩)
    have nF : a ∉ X.fs := by
      intro hm
      obtain ⟨e, he, q⟩ := List.mem_filterMap.mp hm
      exact nfr (List.mem_filterMap.mpr ⟨e, List.mem_cons_of_mem _ he, q⟩)
    have nI : sI.heap.get? a = none := by
      cases q : sI.heap.get? a with
      | none => rfl
      | some o =>
        have z := nb a o q nfr2
        rw [fl3.2.1] at z; cases z
    have n0 : X.s_0.heap.get? a = none := by
      cases q : X.s_0.heap.get? a with
      | none => rfl
      | some o =>
        obtain ⟨o2, z⟩ := J.base.there a o q (by rw [hex]; simp)
        rw [nI] at z; cases z
    have npin : ∀ p ∈ X.pn ++ pins, p.1 ≠ a := fun p hp z => by
      have q := (J.pin p hp).1
      rw [z, nI] at q; cases q
    have S3 := J3.suite he3 hd3 na nL nF
    refine wpAny_handleBy_cons (codeAny_handlers_test ?_) (fun q => nomatch q)
    have LT : PySem.W.Looks (model X.prog X.w) h3 (typeOf (.ref a)) cls := by
      intro A Q E s k q
      exact wpAny_typeOf_ref (k _ _ he3) (by rw [hz3.1]; exact q)
    have LM := PySem.W.exm_one (M := model X.prog X.w) J3.kIn LT hb1
    have named : ∀ {Q E : Value → Shared → Prop}, Q c { s' with heap := h3 } → wpAny (model X.prog X.w) (X.A.mark (some (.ref a))) (eval (.Name x np) X.env) Q E { s' with heap := h3 } := by
      intro Q E q
      obtain ⟨g1, g2, g3⟩ := hc
      rcases g3 with m | ⟨m, v, nn⟩
      · exact ld_glob (X := X.suite a ((a, oe3) :: (X.pn ++ pins))) S3 g1 m q g2
      · exact ld_blt (X := X.suite a ((a, oe3) :: (X.pn ++ pins))) S3 g1 m v q nn g2
    refine named (LM.here ?_)
    cases b with
    | false =>
      refine wpAny_handleBy_nil (e := .ref a) (env := X.env) ?_
      obtain ⟨k1, k2, k3, oe, vs, T, oT, ts', he, hz, hd, h1, hr⟩ := id fl3
      unfold PySem.passOn
      refine wpAny_bind (wpAny_field he hd h1 ?_)
      rw [if_neg (by simp : ¬ ((Value.ref T == Value.none) = true))]
      have on : wpAny (model X.prog X.w) X.A (setFlight (.ref a) X.env.frame) (fun _ s4 => wpAny (model X.prog X.w) X.A (throw (.ref a) : Sem Flow) (SP X pins D) X.xe s4) X.xe { s' with heap := h3 } := by
        rw [hf]
        refine HandSPX.setFlight_upZ fl3 fun h4 hh4 up4 => ?_
        refine wpAny_throw (tk _ _ ⟨a, B, sI, pins, σ', H', cls, d, rfl, J, nb, (up.trans up3).trans up4, ?_, na, os, ag, hno rfl⟩)
        rw [hs]; exact .inr (.inr hh4)
      first
        | exact wpAny_bind (wpAny_pure (wpAny_bind on))
        | exact wpAny_bind on
    | true =>
      refine codeAny_handlers_suite_as (HandSPX.lands_againZ fl3 fun h4 fl4 up4 => ?_)
      have J4 : Inv X pins σ' H' { s' with heap := h4 } := J.landed nb fl4.1 ((up.trans up3).trans up4) os ag
      obtain ⟨oe4, vs4, he4, hz4, hd4⟩ := fl4.there
      refine store_ok (X := X.suite a ((a, oe4) :: (X.pn ++ pins))) (v := .ref a) (J4.suite he4 hd4 na nL nF) hN hi isLoc rfl (fun s5 S5 => ?_) (.inr hln)
      have suite := (hsu a oe4 cls d (X.pn ++ pins) hz4 ⟨_, hd4⟩).run [] s5 _ H' _ S5 (hyes rfl a na)
      refine wpAny_mono suite (fun f s6 hsp => ?_) (fun _ _ z => False.elim z)
      have gone : ∀ {τ : L2.St} {G : Hp} {Q : Shared → Prop}, Inv X pins τ G s6 → (∀ s7, Inv X pins (τ.set i none) G s7 → Q s7) →
          wpAny (model X.prog X.w) X.A (do bindName X.env n .none; unbindBehindTheSuite X.env n pos') (fun _ s7 => Q s7) X.xe s6 := by
        intro τ G Q S6 hq
        exact gone_ok S6 hN hi hln hq
      cases f with
      | next =>
        obtain ⟨τ, G, S6, q6⟩ := hsp
        obtain ⟨p1, p2, _⟩ := S6.pin (a, oe4) (List.mem_append_left _ List.mem_cons_self)
        exact gone (inv_hold (S6.unsuite ok) p1 hz4 ⟨_, hd4⟩ p2 n0 nL npin) fun s7 J7 => ⟨_, _, J7, q6 p2⟩
      | brk =>
        obtain ⟨τ, G, S6, q6⟩ := hsp
        exact gone (S6.unsuite ok) fun s7 J7 => ⟨_, _, J7, q6⟩
      | cont =>
        obtain ⟨τ, G, S6, q6⟩ := hsp
        exact gone (S6.unsuite ok) fun s7 J7 => ⟨_, _, J7, q6⟩
      | ret u =>
        obtain ⟨v, τ, G, S6, r6, q6⟩ := hsp
        exact gone (S6.unsuite ok) fun s7 J7 => ⟨_, _, _, J7, r6, q6⟩
  refine wpAny_Try_except (wpAny_mono ((hb _ (X.pn ++ pins) land caught).run [] s σ H D (I.toTry _) h) (fun f s1 hsp => ?_) (fun e s1 he => he))
  cases f with
  | next =>
    obtain ⟨τ, G, J, q⟩ := hsp
    exact wpAny_execs_nil ⟨τ, G, J.ofTry ok, q⟩
  | brk =>
    obtain ⟨τ, G, J, q⟩ := hsp
    exact ⟨τ, G, J.ofTry ok, q⟩
  | cont =>
    obtain ⟨τ, G, J, q⟩ := hsp
    exact ⟨τ, G, J.ofTry ok, q⟩
  | ret u =>
    obtain ⟨v, τ, G, J, r, q⟩ := hsp
    exact ⟨v, τ, G, J.ofTry ok, r, q⟩
end
/-- what the class of such an error says -/
structure HeldC (K : PySem.W.Frag) (C : Addr) : Prop where
  cl : (PySem.W.clsIn K C).isSome = true
  ga : PySem.W.findIn K (.ref C) "__getattribute__" = some (some (.builtin "BaseException.__getattribute__"))
  gg : PySem.W.findIn K (.ref C) "__getattr__" = some none
  ex : PySem.W.subIn K (.ref C) (.type "BaseException") = some true
  hd : PySem.W.hasDictIn K C = true
  ca : PySem.W.findIn K (.ref C) "__class__" = some (some (.builtin "object.__class__"))
  sp : PySem.W.specialIn K (.builtin "object.__class__") "__get__" = some (some (.builtin "getset_descriptor.__get__"))
  tk : PySem.W.takesIn K (.builtin "object.__class__") = some true
  mo : PySem.W.mroIn K C (.type "object") = some true
section
variable {X : Cx}
theorem held_at {pins : List (Addr × Obj)} {σ : L2.St} {H : Hp} {s : Shared} {a : Addr} {cls : Value} {d : Option Addr} (I : Inv X pins σ H s) (e : H a = some (Held cls d a)) :
    ∃ oe : Obj, s.heap.get? a = some oe ∧ Zc cls d oe ∧ ∃ vs : Array Value, oe.data = .fields vs := by
  have x : ObjOk X.prog X.w H s.heap a (.ext fun h => ∃ oe : Obj, h.get? a = some oe ∧ Zc cls d oe ∧ ∃ vs : Array Value, oe.data = .fields vs) := I.hok a _ e
  exact x.1
theorem held_inst {pins : List (Addr × Obj)} {σ : L2.St} {H : Hp} {s : Shared} {a C dd : Addr} {fs : List (Str × V)} (I : Inv X pins σ H s) (e : H a = some (Held (.ref C) (some dd) a)) (ed : H dd = some (.xd fs)) :
    ∃ (oe od : Obj) (mA : Str → Option Value), PySem.W.InstAt s.heap a oe C (some od) ∧ (∀ f, RelO (fs.lookup f) (mA f)) ∧ ∀ n, PySem.W.lookIn n od = some (mA n) := by
  obtain ⟨oe, he, hz, vs, hd⟩ := held_at I e
  obtain ⟨mA, hns, hr⟩ := (show ObjOk X.prog X.w H s.heap dd (.xd fs) from I.hok dd _ ed)
  obtain ⟨od, ho, hl⟩ := lookIn_ns hns
  exact ⟨oe, od, mA, ⟨he, hz.1, by unfold PySem.W.notCls; rw [hd] <;> rfl, by rw [hz.2]; exact ho⟩, hr, hl⟩
/-- isinstance(e, c), e such an error -/
def rIsHeld (K : PySem.W.Frag) : List V → Hp → VK → Prop := fun xs H Q => ∃ (a C dd : Addr) (fs : List (Str × V)) (c : V) (u : Value) (b : Bool),
  xs = [.ref a, c] ∧ H a = some (Held (.ref C) (some dd) a) ∧ H dd = some (.xd fs) ∧ HeldC K C ∧ ClsV c u ∧ PySem.W.kitOne K (.ref C) u = some b ∧ Q (.bl b) H
theorem call_isHeld : CallR X (.builtin "isinstance") (rIsHeld X.K) := by
  intro pins s σ H xs us Q I r h
  obtain ⟨a, C, dd, fs, c, u, b, rfl, ea, ed, T, k, e, q⟩ := h
  obtain ⟨u1, u2, rfl, r1, r2⟩ := vals2 r
  have e2 := k.eq r2
  subst e2
  cases r1
  obtain ⟨oe, od, mA, J, _, _⟩ := held_inst I ea ed
  exact PySem.W.kia_one (PySem.W.kitx_exc T.cl T.ga T.gg T.ex T.ca T.sp T.tk T.mo) I.kIn J e (fun z => nomatch z) fun tk => ⟨.bl b, H, I.tok tk, rfl, q⟩
/-- e.n, e such an error -/
def tHeldFld (K : PySem.W.Frag) (n : Str) (te : TE) : TE := fun σ H Q => te σ H fun x H1 => ∃ (a C dd : Addr) (fs : List (Str × V)) (v : V),
  x = .ref a ∧ H1 a = some (Held (.ref C) (some dd) a) ∧ H1 dd = some (.xd fs) ∧ HeldC K C ∧ PySem.W.findIn K (.ref C) n = some none ∧ fs.lookup n = some v ∧ Q v H1
theorem pe_heldFld {e : Expr} {te : TE} {pos : Pos} {n : Str} (he : PE X e te) (hb : attributeBase e n X.env (eval e X.env) = eval e X.env := by rfl) : PE X (.Attribute e n pos) (tHeldFld X.K n te) := by
  constructor
  intro pins s σ H Q I h
  refine attr_of hb (thn (he.run pins s σ H _ I h) fun u s1 hh => ?_)
  obtain ⟨x, H1, I1, rx, a, C, dd, fs, v, rfl, ea, ed, T, hno, l, q⟩ := hh
  obtain rfl : u = Value.ref a := rx
  obtain ⟨oe, od, mA, J, hr, hl⟩ := held_inst I1 ea ed
  obtain ⟨u, hu, ru⟩ := RelO.some_of (v := v) (o := mA n) (by rw [← l]; exact hr n)
  exact HandSPX.exc_get I1.kIn J T.ga T.gg T.ex (PySem.W.findObj_own T.hd hno rfl (by rw [hl, hu])) (handed_of ru) ⟨v, H1, I1.tok _, ru, q⟩
end
end Ev
namespace Ev
open PySem L2 PySem.Spec PyProof.Rows
abbrev sKept : Stmt := top 2
abbrev sParts : Stmt := top 5
section
variable {X : Cx}
end
/-- v is a value of the built-in type T, one that holds nothing -/
structure Flat (v : V) (T : String) : Prop where
  ty : ∀ (K : PySem.W.Frag) (H : Hp), TyX K H v (.type T)
  l : kitB T "list" = some false
  t : kitB T "tuple" = some false
  d : kitB T "dict" = some false
theorem flat_int (i : Int) : Flat (.int i) "int" := ⟨fun _ _ => .base (.int i), by decide +kernel, by decide +kernel, by decide +kernel⟩
theorem flat_str (x : Str) : Flat (.str x) "str" := ⟨fun _ _ => .base (.str x), by decide +kernel, by decide +kernel, by decide +kernel⟩
theorem kit2 {K : PySem.W.Frag} {T a b : String} (h1 : kitB T a = some false) (h2 : kitB T b = some false) : PySem.W.kitAny K (.type T) [.type a, .type b] = some false :=
  kitAny_cons (kit_ty h1) (fun _ => kitAny_cons (kit_ty h2) (fun _ => kitAny_nil) (fun z => by cases z)) (fun z => by cases z)
def spParts : Sp := fun vs H Q _ => ∃ (v : V) (T : String), vs = [v] ∧ Flat v T ∧ ∀ (p : Addr) (H' : Hp), H p = none → Same H H' → H' p = some (.lst []) → Q (.ref p) H'
def spKept : Sp := fun vs H Q _ => ∃ (v : V) (T : String), vs = [v] ∧ Flat v T ∧ ∀ (H' : Hp), Same H H' → Q v H'
section
variable {P : Program} {w : World} {K : PySem.W.Frag} {mg : Str → Option Value} {base : Heap}
theorem scParts : FnScope ["value"] ["value"] (defScope sParts) := ⟨rfl, rfl, rfl, by decide +kernel, rfl, by decide +kernel, by decide +kernel⟩
theorem ok_parts {f : Addr} {fd : FuncData} (F : Fun K "parts_of" "parts_of" sParts f fd) (T : Blt mg) (md : mg "dict" = none) : FnOk P w K mg base CX0 1 f fd ["value"] spParts := by
  refine F.ok scParts (fun vs H Q E h => ?_) (fun cdv A outer s H vs Q E hr h => ?_)
  · obtain ⟨v, TT, rfl, _⟩ := h
    rfl
  · obtain ⟨v, TT, rfl, fl, kk⟩ := h
    refine ⟨_, pss_cons (ps_if (pt_val (pe_callB call_isiT (by rfl) T.isi (by decide +kernel) (pa_cons (pv 0) (pa_cons (pe_tup (pa_cons (pe_bltn (v := .ty "list") (by rfl) T.list (by decide +kernel) rfl) (pa_cons (pe_bltn (v := .ty "tuple") (by rfl) T.tuple (by decide +kernel) rfl) pa_nil))) pa_nil)))) (pss_one ps_never) pss_nil)
      (pss_one (ps_ret (pe_ifExp (pt_val (pe_callB call_isi (by rfl) T.isi (by decide +kernel) (pa_cons (pv 0) (pa_cons (pe_bltn (v := .ty "dict") (by rfl) md (by decide +kernel) rfl) pa_nil)))) pe_never (pe_lst pa_nil)))), ?_⟩
    refine ⟨_, rfl, (by show 2 ≤ sizeLine; decide), fun tp ntp => ⟨v, tp, _, _, _, false, rfl, upd_same, .cons (.ty _) (.cons (.ty _) .nil), fl.ty _ _, kit2 fl.l fl.t, _, rfl, iteF ?_⟩⟩
    refine ⟨_, rfl, v, _, _, _, false, rfl, .ty _, fl.ty _ _, kit_ty fl.d, _, rfl, iteF ⟨(by show 0 ≤ sizeLine; decide), fun p np => ?_⟩⟩
    refine kk p _ ?_ (fun b o e => ?_) upd_same
    · cases e : H p with
      | none => rfl
      | some o => rw [upd_ne (ne_of_none e ntp), e] at np; cases np
    · have e1 : upd H tp (.tup [.ty "list", .ty "tuple"]) b = some o := by rw [upd_ne (ne_of_none e ntp)]; exact e
      rw [upd_ne (ne_of_none e1 np)]; exact e1
theorem kit3 {K : PySem.W.Frag} {T a b c : String} (h1 : kitB T a = some false) (h2 : kitB T b = some false) (h3 : kitB T c = some false) : PySem.W.kitAny K (.type T) [.type a, .type b, .type c] = some false :=
  kitAny_cons (kit_ty h1) (fun _ => kitAny_cons (kit_ty h2) (fun _ => kitAny_cons (kit_ty h3) (fun _ => kitAny_nil) (fun z => by cases z)) (fun z => by cases z)) (fun z => by cases z)
theorem scKept : FnScope ["value"] ["value"] (defScope sKept) := ⟨rfl, rfl, rfl, by decide +kernel, rfl, by decide +kernel, by decide +kernel⟩
theorem ok_kept {f : Addr} {fd : FuncData} (F : Fun K "kept" "kept" sKept f fd) (T : Blt mg) (md : mg "dict" = none) (ma : mg "any" = none) (D : Df P w K mg base 1 "parts_of" ["value"] spParts) : FnOk P w K mg base CX0 2 f fd ["value"] spKept := by
  refine F.ok scKept (fun vs H Q E h => ?_) (fun cdv A outer s H vs Q E hr h => ?_)
  · obtain ⟨v, TT, rfl, _⟩ := h
    rfl
  · obtain ⟨v, TT, rfl, fl, kk⟩ := h
    refine ⟨_, pss_cons (ps_if (pt_not (pt_val (pe_callB call_isiT (by rfl) T.isi (by decide +kernel) (pa_cons (pv 0) (pa_cons (pe_tup (pa_cons (pe_bltn (v := .ty "list") (by rfl) T.list (by decide +kernel) rfl) (pa_cons (pe_bltn (v := .ty "tuple") (by rfl) T.tuple (by decide +kernel) rfl) (pa_cons (pe_bltn (v := .ty "dict") (by rfl) md (by decide +kernel) rfl) pa_nil)))) pa_nil))))) (pss_one (ps_ret (pv 0))) pss_nil)
      (pss_cons ps_never (pss_one ps_never)), ?_⟩
    refine ⟨_, rfl, (by show 3 ≤ sizeLine; decide), fun tp ntp => ⟨v, tp, _, _, _, false, rfl, upd_same, .cons (.ty _) (.cons (.ty _) (.cons (.ty _) .nil)), fl.ty _ _, kit3 fl.l fl.t fl.d, _, rfl, iteT ⟨_, rfl, ?_⟩⟩⟩
    exact kk _ (fun b u e => by rw [upd_ne (ne_of_none e ntp)]; exact e)
end
end Ev
namespace Ev
open PySem L2 PySem.Spec PyProof.Rows
abbrev sBText : Stmt := inClass (top 12) 0
def btF (i j : Int) : List (Str × V) := [("word", .int j), ("line", .int i)]
/-- BadText of line and word is told -/
def TellB (C : Addr) (i j : Int) (H : Hp) (E : XK) : Prop := ∀ (d : Addr) (H' : Hp), Same H H' → H d = none → H' d = some (.xd (btF i j)) → E (.ref C) (some d) H'
theorem TellB.on {C : Addr} {i j : Int} {H H1 : Hp} {E : XK} (h : TellB C i j H E) (s : Same H H1) : TellB C i j H1 E := fun d H' s1 n e => h d H' (s.trans s1) (Same.gone s n) e
def spBText (C : Addr) : Sp := fun vs H Q _ => ∃ (a : Addr) (i j : Int), vs = [.ref a, .int i, .int j] ∧ H a = some (exo a C none) ∧
  ∀ (d : Addr) (H' : Hp), H d = none → H' a = some (exo a C (some d)) → H' d = some (exd d (btF i j)) → (∀ b o, b ≠ a → H b = some o → H' b = some o) → Q .non H'
structure BTx (P : Program) (w : World) (K : PySem.W.Frag) (mg : Str → Option Value) (base : Heap) (C : Addr) : Prop where
  cl : OexC K C
  g : mg "BadText" = some (.ref C)
  ex : ∃ (f : Addr) (fd : FuncData), PySem.W.findIn K (.ref C) "__init__" = some (some (.ref f)) ∧ PySem.W.typeIn K (.ref f) = some (.type "function") ∧ FnOk P w K mg base CX0 3 f fd ["self", "line", "word"] (spBText C) ∧ Binds K fd ["self", "line", "word"] []
theorem raised2 {C : Addr} {H : Hp} {i j : Int} {E : XK} (k : TellB C i j H E) (a' : Addr) (na : H a' = none) :
    spBText C [.ref a', .int i, .int j] (upd H a' (exo a' C none)) (fun v' H2 => v' = .non ∧ ∃ (d : Addr) (fs : List (Str × V)), H2 a' = some (exo a' C (some d)) ∧ H2 d = some (exd d fs) ∧ H d = none ∧ E (.ref C) (some d) (upd (del H2 a') d (.xd fs))) (fun _ _ _ => False) := by
  refine ⟨a', i, j, rfl, upd_same, fun d H' nd ha' hd bt => ⟨rfl, d, _, ha', hd, ?_, ?_⟩⟩
  · have dne : d ≠ a' := fun z => by rw [z, upd_same] at nd; cases nd
    rw [upd_ne dne] at nd
    exact nd
  · have dne : d ≠ a' := fun z => by rw [z, upd_same] at nd; cases nd
    rw [upd_ne dne] at nd
    refine k d _ (fun b o e => ?_) nd upd_same
    rw [upd_ne (ne_of_none e nd), del_ne (ne_of_none e na)]
    exact bt b o (ne_of_none e na) (by rw [upd_ne (ne_of_none e na)]; exact e)
section
variable {P : Program} {w : World} {K : PySem.W.Frag} {mg : Str → Option Value} {base : Heap}
theorem scBText : FnScope ["self", "line", "word"] ["self", "line", "word"] (defScope sBText) := ⟨rfl, rfl, rfl, by decide +kernel, rfl, by decide +kernel, by decide +kernel⟩
theorem ok_bText {f C : Addr} {fd : FuncData} (F : Fun K "__init__" "BadText.__init__" sBText f fd) (T : OexC K C) (no : PySem.W.findIn K (.ref C) "line" = some none) (no2 : PySem.W.findIn K (.ref C) "word" = some none) (D : Df P w K mg base 2 "kept" ["value"] spKept) : FnOk P w K mg base CX0 3 f fd ["self", "line", "word"] (spBText C) := by
  obtain ⟨f1, fd1, G1, g1, k1, b1⟩ := D.ex
  refine F.ok scBText (fun vs H Q E h => ?_) (fun cdv A outer s H vs Q E hr h => ?_)
  · obtain ⟨a, i, j, rfl, _⟩ := h
    rfl
  · obtain ⟨a, i, j, rfl, ha, kk⟩ := h
    refine ⟨_, pss_cons (ps_ost (pv 0) (pe_call G1 hr (by rfl) g1 k1 b1 .nil pass0 (pa_cons (pv 1) pa_nil))) (pss_one (ps_ost (pv 0) (pe_call G1 hr (by rfl) g1 k1 b1 .nil pass0 (pa_cons (pv 2) pa_nil)))), ?_⟩
    refine ⟨_, rfl, .int i, "int", rfl, flat_int i, fun H1 s1 => ⟨_, rfl, a, C, rfl, T, no, .inl ⟨s1 _ _ ha, fun dx nx ne => ?_⟩⟩⟩
    have z1 : ∀ b o, b ≠ a → H1 b = some o → upd (upd H1 dx (exd dx [("line", .int i)])) a (exo a C (some dx)) b = some o := fun b o nb e => by rw [upd_ne nb, upd_ne (ne_of_none e nx)]; exact e
    have z2 : upd (upd H1 dx (exd dx [("line", .int i)])) a (exo a C (some dx)) a = some (exo a C (some dx)) := upd_same
    have z4 : upd (upd H1 dx (exd dx [("line", .int i)])) a (exo a C (some dx)) dx = some (exd dx [("line", .int i)]) := by rw [upd_ne ne]; exact upd_same
    generalize upd (upd H1 dx (exd dx [("line", .int i)])) a (exo a C (some dx)) = H2 at z1 z2 z4 ⊢
    refine ⟨_, rfl, .int j, "int", rfl, flat_int j, fun H3 s3 => ⟨_, rfl, a, C, rfl, T, no2, .inr ⟨dx, _, s3 _ _ z2, s3 _ _ z4, (by show 1 ≤ 900; decide), ?_⟩⟩⟩
    have y2 := s3 _ _ z2
    refine kk dx _ (Same.gone s1 nx) (by rw [upd_ne ne.symm]; exact y2) upd_same fun b o nb q => ?_
    rw [upd_ne (ne_of_none (s1 _ _ q) nx)]
    exact s3 _ _ (z1 _ _ nb (s1 _ _ q))
end
/-! ### a class in a local, called -/
section
variable {X : Cx} {CX : CXT} {k i : Nat} {f C : Addr} {fd : FuncData} {ps : List Str} {sp : Sp} {dvs : List V} {ds : List Value} {E : XK} {x : Str} {p pos : Pos} {e : Expr} {es : List Expr} {t : TA}
def tMakeL (i : Nat) (C : Addr) (sp : Sp) (dvs : List V) (E : XK) (t : TA) : TE := fun σ H Q => σ[i]? = some (some (.ref C)) ∧ tMake C sp dvs E t σ H Q
theorem pe_makeL (M : Mk X.K C f) (F : FnOk X.prog X.w X.K X.mg X.base CX k f fd ps sp) (hr : Room (k + 1) X.A) (hN : X.N[i]? = some x) (hv : Vis X.env.scope x) (hb : Binds X.K fd ps ds) (hd : Vals dvs ds) (hx : Passes CX X E)
    (ha : PA X (e :: es) t) (hdb : (x == ("__debug__" : Str)) = false := by decide) (hcd : (x == ("__classdict__" : Str)) = false := by decide) (he : starEach (e :: es) X.env = (false, eval e X.env) :: starEach es X.env := by rfl) (hpl : (backTo pos (starEach es X.env)).any (·.1) = false := by rfl) :
    PE X (.Call (.Name x p) (e :: es) [] pos) (tMakeL i C sp dvs E t) := by
  refine ⟨fun pins s σ H Q I h => ?_⟩
  obtain ⟨hs, ht⟩ := h
  refine wpAny_Call_Name_kw (thn ((pe_var (pos := p) hN hv hdb hcd).run pins s σ H (fun v H1 => v = .ref C ∧ H1 = H) I ⟨.ref C, hs, rfl, rfl⟩) fun u s1 ⟨v, H1, I1, r1, q1⟩ => ?_)
  obtain ⟨rfl, rfl⟩ := q1
  cases r1
  refine PySem.W.callWith_K (h₀ := X.base) I.ok.mod.kin M.kp (thn (ha.run pos pins s1 σ _ _ I1 ht) fun us s2 ⟨vs, H2, I2, r, q⟩ => ⟨I2.kIn, ?_⟩) he hpl
  exact run_make M F hr hb hd hx I2 r q
end
end Ev
namespace Ev
open PySem L2 PySem.Spec PyProof.Rows
theorem lc_pure {J : It} {n : Nat} {G : Hp → Prop} {Y : Nat → Hp → V → Hp → Prop} (W : Walk J n G Y) {g : TG} {tt : TT} {te : TE} {vs : List Nat} {σ : L2.St} {H1 : Hp} {D : Addr} {Qd : Hp → Prop} (rs : List Int) (hn : rs.length = n) (hb : n ≤ 1000)
    (hG : ∀ H, But D H1 H → G H)
    (step : ∀ (i : Nat) (x : V) (H H' : Hp) (r : Int), i < n → rs[i]? = some r → But D H1 H → (∃ acc, H D = some (.lst acc)) → Y i H x H' → ∀ (R : VK) (Wk : Hp → Prop), (∀ H4, Same H H4 → R (.int r) H4) →
      g x (wipe σ vs) H' fun σ2 H2 => wipe σ2 vs = wipe σ vs ∧ tt σ2 H2 fun b H3 => if b = true then te σ2 H3 R else Wk H3)
    (fin : ∀ H, But D H1 H → H D = some (.lst (rs.map V.int)) → Qd H) :
    ∃ W : Nat → Nat → Hp → Prop, (∃ m, W 0 m (upd H1 D (HO.lst []))) ∧ ∀ (i m : Nat) (H : Hp), W i m H → J.stop i H ∧ Qd H ∨ J.go i H ∧ ∃ Nx : Hp → Prop, (∀ (H' : Hp), Nx H' → ∃ m', m' < m ∧ W (i + 1) m' H') ∧
      ∀ (x : V) (H' : Hp), J.yld i H x H' → g x (wipe σ vs) H' fun σ2 H2 => wipe σ2 vs = wipe σ vs ∧ tt σ2 H2 fun b H3 =>
        if b = true then te σ2 H3 fun y H4 => ∃ acc, H4 D = some (HO.lst acc) ∧ acc.length < sizeLine ∧ Nx (upd H4 D (HO.lst (acc ++ [y]))) else Nx H3 := by
  refine lc_it W (fun i H => H D = some (.lst ((rs.take i).map V.int)) ∧ But D H1 H) ⟨upd_same, But.upd_at⟩ (fun i H _ h => hG H h.2) (fun i x H H' hi h y => ?_) (fun H h => ?_)
  · obtain ⟨e1, e2⟩ := h
    have hr : rs[i]? = some rs[i] := List.getElem?_eq_getElem (by omega)
    refine step i x H H' rs[i] hi hr e2 ⟨_, e1⟩ y _ _ fun H4 s4 => ⟨_, s4 _ _ e1, ?_, ?_, ?_⟩
    · rw [List.length_map, List.length_take]
      exact Nat.lt_of_le_of_lt (Nat.min_le_left _ _) (Nat.lt_of_lt_of_le (show i < 1000 by omega) (by decide))
    · rw [List.take_add_one, hr, List.map_append]
      exact upd_same
    · exact fun c o nc ec => by rw [upd_ne nc]; exact s4 _ _ (e2 c o nc ec)
  · obtain ⟨e1, e2⟩ := h
    rw [← hn, List.take_length] at e1
    exact fin H e2 e1
/-- an instance is made -/
theorem mk_of {C a : Addr} {H1 : Hp} {ns : List Int} {b : Int} {QQ : Addr → Hp → Prop} {E : XK} (h : Ints H1 a ns) (n1 : 1 ≤ ns.length) (n5 : ns.length ≤ 5) (k : ∀ (x : Addr) (H2 : Hp), Same H1 H2 → TestAt C H2 x ns b → QQ x H2) :
    ∀ x dx, H1 x = none → H1 dx = none → dx ≠ x → spTInit C [.ref x, .ref a, .int b] (upd (upd H1 dx (.own x)) x (.ins C dx [])) (fun v H2 => v = .non ∧ QQ x H2) E := by
  intro x dx nx ndx nd
  have s1 : Same H1 (upd (upd H1 dx (.own x)) x (.ins C dx [])) := fun c o e => by rw [upd_ne (ne_of_none e nx), upd_ne (ne_of_none e ndx)]; exact e
  refine ⟨x, dx, a, ns, b, rfl, upd_same, h.keep s1, n1, n5, fun H2 t bt hx ht => ⟨rfl, ?_⟩⟩
  exact k x H2 (fun c o e => bt c o (ne_of_none e nx) (s1 c o e)) ⟨dx, t, hx, ht⟩
/-- how tests are made -/
structure TMk (P : Program) (w : World) (K : PySem.W.Frag) (mg : Str → Option Value) (base : Heap) (C : Addr) : Prop where
  cl : TCls K C
  it : InsT K C
  g : mg "Test" = some (.ref C)
  mkr : ∃ (f : Addr) (fd : FuncData), Mk K C f ∧ FnOk P w K mg base CX0 4 f fd ["self", "parts", "bound"] (spTInit C) ∧ Binds K fd ["self", "parts", "bound"] []
def gives (C : Addr) (H : Hp) (ps : List Int) (b : Int) (Q : VK) : Prop := ∀ (z : Addr) (H' : Hp), Same H H' → TestAt C H' z ps b → Q (.ref z) H'
def spNeg (C : Addr) : Sp := fun vs H Q _ => ∃ (x : Addr) (ps : List Int) (b : Int), vs = [.ref x] ∧ TestAt C H x ps b ∧ 1 ≤ ps.length ∧ ps.length ≤ 5 ∧ gives C H (ps.map fun p => -p) (-b) Q
def spInv (C : Addr) : Sp := fun vs H Q _ => ∃ (x : Addr) (ps : List Int) (b : Int), vs = [.ref x] ∧ TestAt C H x ps b ∧ 1 ≤ ps.length ∧ ps.length ≤ 5 ∧ gives C H (ps.map fun p => -p) (1 - b) Q
def spScaled (C : Addr) : Sp := fun vs H Q _ => ∃ (x : Addr) (ps : List Int) (b n : Int), vs = [.ref x, .int n] ∧ TestAt C H x ps b ∧ 1 ≤ ps.length ∧ ps.length ≤ 5 ∧ AllSm ps ∧ Sm b ∧ 0 ≤ n ∧ Sm n ∧ gives C H (ps.map fun p => p * n) (b * n) Q
def spAdd (C : Addr) : Sp := fun vs H Q _ => ∃ (x y : Addr) (ps qs : List Int) (b c : Int), vs = [.ref x, .ref y] ∧ TestAt C H x ps b ∧ TestAt C H y qs c ∧ ps.length = qs.length ∧ 1 ≤ ps.length ∧ ps.length ≤ 5 ∧ gives C H (List.zipWith (fun p q => p + q) ps qs) (b + c) Q
theorem map_at {ns : List Int} {i : Nat} {r : Int} {f : Int → Int} (h : (ns.map f)[i]? = some r) : ∃ n, ns[i]? = some n ∧ r = f n := by
  rw [List.getElem?_map] at h
  cases z : ns[i]? with
  | none => rw [z] at h; cases h
  | some n => rw [z] at h; exact ⟨n, rfl, (Option.some.inj h).symm⟩
section
variable {P : Program} {w : World} {K : PySem.W.Frag} {mg : Str → Option Value} {base : Heap}
theorem scTNeg : FnScope ["self", "part"] ["self"] (defScope sTNeg) := ⟨rfl, rfl, rfl, by decide +kernel, rfl, by decide +kernel, by decide +kernel⟩
theorem ok_tNeg {f C : Addr} {fd : FuncData} (F : Fun K "__neg__" "Test.__neg__" sTNeg f fd) (TM : TMk P w K mg base C) : FnOk P w K mg base CX0 6 f fd ["self"] (spNeg C) := by
  obtain ⟨TC, IT, gC, ⟨fm, fdm, MM, GM, bM⟩⟩ := TM
  refine F.ok scTNeg (fun vs H Q E h => ?_) (fun cdv A outer s H vs Q E hr h => ?_)
  · obtain ⟨x, ps, b, rfl, _⟩ := h
    rfl
  · obtain ⟨x, ps, b, rfl, tt, n1, n5, kk⟩ := h
    obtain ⟨dx, t, hx, ht⟩ := id tt
    refine ⟨_, pss_one (ps_ret (pe_make MM GM hr (by rfl) gC bM .nil pass0 (pa_cons (pe_lc (own := [("part", 1)]) (g := gName 1) (tt := tYes) (te := tUn (rU fun i => V.int (-i)) (tVar 1)) (by rfl) scTNeg.nd (pi_tup (pe_fld (pv 0) rfl)) (blkOk_by (own := [("part", 1)]) (N := ["self", "part"]) (sc := defScope sTNeg) (by decide +kernel))
        (fun _ _ _ _ _ => pg_name (i := 1) scTNeg.nd rfl (.inl rfl)) (fun _ _ _ _ _ => pts_nil) (fun _ _ _ _ _ => pe_un un_neg (pv 1))) (pa_cons (pe_un un_neg (pe_fld (pv 0) rfl)) pa_nil)))), ?_⟩
    refine ⟨_, rfl, x, C, dx, _, _, rfl, hx, TC.cl, TC.n1, test_parts t b, t, rfl, ⟨_, SqT.of ht⟩, fun D nD => ?_⟩
    have tD := ne_of_none ht nD
    refine lc_pure (n := ps.length) ((walk_tup (xs := ps.map V.int) |> fun w => by simpa using w)) (ps.map fun p => -p) (List.length_map _) (by omega) (fun H' h => SqT.of (h _ _ tD ht)) (fun i v H2 H' r hi hr bt _ y R Wk k => ?_) (fun H' bt hD => ?_)
    · obtain ⟨rfl, hv⟩ := y
      obtain ⟨n, hn, rfl⟩ := int_at hv
      obtain ⟨n', hn', rfl⟩ := map_at hr
      cases hn.symm.trans hn'
      exact ⟨rfl, _, rfl, n, rfl, k _ (Same.refl _)⟩
    · have s1 : Same H H' := fun c o e => bt c o (ne_of_none e nD) e
      exact ⟨_, rfl, x, C, dx, _, _, rfl, s1 _ _ hx, TC.cl, TC.n2, test_bound t b, b, rfl, mk_of (.inl hD) (by simpa using n1) (by simpa using n5) fun z H2 e2 tz => kk z H2 (s1.trans e2) tz⟩
end
end Ev
namespace Ev
open PySem L2 PySem.Spec PyProof.Rows
/-- the index of the first word that cannot stand -/
def dueW (ws : List (List Nat)) : Option Nat :=
  if (firsts ws).length = 0 then some 0 else if ws[(firsts ws).length]? ≠ some [62, 61] then some (firsts ws).length
  else if (firsts (ws.drop ((firsts ws).length + 1))).length = 0 then some ((firsts ws).length + 1)
  else if (firsts ws).length + 2 < ws.length then some ((firsts ws).length + 2) else none
/-- the number of the last word -/
def lastW (ws : List (List Nat)) : Int := (firsts (ws.drop ((firsts ws).length + 1))).headD 0
def NotStr (K : PySem.W.Frag) (H : Hp) (v : V) : Prop := ∃ u : Value, (∀ H', Same H H' → TyX K H' v u) ∧ PySem.W.kitOne K u (.type "str") = some false
def pcs (L : List Nat) : List (List Nat) := TL.spl [32] 0 [] L
def OutR (C BT : Addr) (H : Hp) (Q : VK) (E : XK) (ws : List (List Nat)) : Option Nat → Prop
  | some k => TellB BT 0 (k : Int) H E
  | none => ∀ (z : Addr) (H' : Hp), Same H H' → TestAt C H' z (firsts ws) (lastW ws) → Q (.ref z) H'
def spRead (K : PySem.W.Frag) (C BT : Addr) : Sp := fun vs H Q E => ∃ v : V, vs = [.ref C, v] ∧ ((NotStr K H v ∧ TellB BT 0 0 H E) ∨
  ∃ L : List Nat, v = .str (Sx L) ∧ L.length ≤ 90000 ∧ (∀ l ∈ pcs L, l.length ≤ 63 ∧ ∀ c ∈ l, c < 1114112) ∧ OutR C BT H Q E (pcs L) (dueW (pcs L)))
def pw (l : List Nat) : PyData := .str (Sx l)
theorem dpWs {K : PySem.W.Frag} {H : Hp} : ∀ ws : List (List Nat), DpAll K H (ws.map wv) (ws.map pw)
  | [] => .nil
  | l :: r => .cons (.str (Sx l)) (dpWs r)
theorem sh_ws (ws : List (List Nat)) (hw : ∀ l ∈ ws, ∀ c ∈ l, c < 1114112) : SeqAt.shaped (.list (ws.map pw)) = true := by
  have h1 : ∀ ws : List (List Nat), (∀ l ∈ ws, ∀ c ∈ l, c < 1114112) → PyData.canLayAll0 (ws.map pw) = true := by
    intro ws
    induction ws with
    | nil => intro _; rfl
    | cons n r ih =>
      intro h
      have e : PyData.strOk (Sx n) = true := by
        unfold PyData.strOk
        have := h n List.mem_cons_self
        simp [Sx, SX.S]
        exact this
      simp [PyData.canLayAll0, PyData.canLay0, pw, ih (fun l m => h l (List.mem_cons_of_mem _ m)), e]
  have h2 : ∀ ws : List (List Nat), PyData.depthAll (ws.map pw) ≤ 1 := by
    intro ws
    induction ws with
    | nil => simp [PyData.depthAll]
    | cons n r ih => simp [PyData.depthAll, PyData.depth, pw] at ih ⊢; omega
  have h2 := h2 ws
  unfold SeqAt.shaped
  rw [Bool.and_eq_true]
  refine ⟨by simp [PyData.canLay0, h1 ws hw], ?_⟩
  simp [PyData.depth]
  omega
theorem eqv_ws (us ws : List (List Nat)) : PyData.eqv (.list (us.map pw)) (.list (ws.map pw)) = decide (us = ws) := by
  have h : ∀ us ws : List (List Nat), PyData.eqvAll (us.map pw) (ws.map pw) = decide (us = ws) := by
    intro us
    induction us with
    | nil => intro ws; cases ws <;> simp [PyData.eqvAll]
    | cons a r ih =>
      intro ws
      cases ws with
      | nil => simp [PyData.eqvAll]
      | cons c t =>
        have e : PyData.eqv (pw a) (pw c) = decide (a = c) := by
          show PyData.eqv (.str (Sx a)) (.str (Sx c)) = _
          simp only [PyData.eqv]
          by_cases z : a = c
          · subst z; simp
          · have : ¬ Sx a = Sx c := fun q => z (S_inj q)
            simp [z, this]
        simp only [List.map_cons, PyData.eqvAll, ih t, e]
        by_cases e1 : a = c <;> by_cases e2 : r = t <;> simp [e1, e2]
  simp only [PyData.eqv, h]
theorem take1 {α : Type} (ws : List α) (m : Nat) : (ws.drop m).take 1 = ws[m]?.toList := by
  rw [List.take_one, List.head?_drop]
theorem firsts_le (ws : List (List Nat)) : (firsts ws).length ≤ 5 := by
  unfold firsts
  rw [List.length_map]
  have : ((ws.take 5).takeWhile can).length ≤ (ws.take 5).length := List.Sublist.length_le (List.takeWhile_sublist _)
  rw [List.length_take] at this
  omega
section
variable {P : Program} {w : World} {K : PySem.W.Frag} {mg : Str → Option Value} {base : Heap}
theorem scRead : FnScope ["cls", "text", "words", "parts", "many", "bounds"] ["cls", "text"] (defScope sRead) := ⟨rfl, rfl, rfl, by decide +kernel, rfl, by decide +kernel, by decide +kernel⟩
theorem ok_read {f C BT : Addr} {fd : FuncData} (F : Fun K "read" "Test.read" sRead f fd) (T : Blt mg) (ms : mg "str" = none) (D1 : Df P w K mg base 2 "first_numbers" ["words"] spFirst) (TM : TMk P w K mg base C) (EB : BTx P w K mg base BT) : FnOk P w K mg base (L2.CX P w) 6 f fd ["cls", "text"] (spRead K C BT) := by
  obtain ⟨f1, fd1, G1, g1, k1, b1⟩ := D1.ex
  obtain ⟨TC, gC, fi, fdi, iC, tI, GI, bI⟩ := id EB
  obtain ⟨fm, fdm, MM, GM, bM⟩ := TM.mkr
  refine F.okX scRead (fun vs H Q E h => ?_) (fun cdv A outer s H vs Q E hr h => ?_)
  · obtain ⟨v, rfl, _⟩ := h
    rfl
  · obtain ⟨v, rfl, h⟩ := h
    refine ⟨_, pss_cons (ps_if (pt_not (pt_val (pe_callB call_isi (by rfl) T.isi (by decide +kernel) (pa_cons (pv 1) (pa_cons (pe_bltn (v := .ty "str") (by rfl) ms (by decide +kernel) rfl) pa_nil)))))
        (pss_one (ps_raise rfl (takes_of rfl rfl rfl rfl) (pmk_oex TC iC tI GI (hr.mono (by decide)) bI .nil pass0 (by rfl) gC (pa_cons pe_int (pa_cons pe_int pa_nil))))) pss_nil)
      (pss_cons (ps_set (i := 2) scRead.nd rfl (.inl rfl) (pe_split (pv 1) pe_str))
      (pss_cons (ps_set (i := 3) scRead.nd rfl (.inl rfl) (pe_call G1 (hr.mono (by decide)) (by rfl) g1 k1 b1 .nil pass0 (pa_cons (pv 2) pa_nil)))
      (pss_cons (ps_set (i := 4) scRead.nd rfl (.inl rfl) (pe_callB call_len_seq (by rfl) T.len PySem.boot_len (pa_cons (pv 3) pa_nil)))
      (pss_cons (ps_if (pt_cmpR op_eq (pv 4) pe_int (nomark _)) (pss_one (ps_raise rfl (takes_of rfl rfl rfl rfl) (pmk_oex TC iC tI GI (hr.mono (by decide)) bI .nil pass0 (by rfl) gC (pa_cons pe_int (pa_cons pe_int pa_nil))))) pss_nil)
      (pss_cons (ps_if (pt_cmpR (op_neD (Room.units hr)) (pe_slice sl_list (pv 2) (po_some (pv 4)) (po_some (pe_op op_add (pv 4) pe_int))) (pe_lst (pa_cons pe_str pa_nil)) (nomark _))
        (pss_one (ps_raise rfl (takes_of rfl rfl rfl rfl) (pmk_oex TC iC tI GI (hr.mono (by decide)) bI .nil pass0 (by rfl) gC (pa_cons pe_int (pa_cons (pv 4) pa_nil))))) pss_nil)
      (pss_cons (ps_set (i := 5) scRead.nd rfl (.inl rfl) (pe_call G1 (hr.mono (by decide)) (by rfl) g1 k1 b1 .nil pass0 (pa_cons (pe_slice sl_list (pv 2) (po_some (pe_op op_add (pv 4) pe_int)) po_none) pa_nil)))
      (pss_cons (ps_if (pt_cmpR op_eq (pe_callB call_len_seq (by rfl) T.len PySem.boot_len (pa_cons (pv 5) pa_nil)) pe_int (nomark _)) (pss_one (ps_raise rfl (takes_of rfl rfl rfl rfl) (pmk_oex TC iC tI GI (hr.mono (by decide)) bI .nil pass0 (by rfl) gC (pa_cons pe_int (pa_cons (pe_op op_add (pv 4) pe_int) pa_nil))))) pss_nil)
      (pss_cons (ps_if (pt_cmpR op_gt (pe_callB call_len_seq (by rfl) T.len PySem.boot_len (pa_cons (pv 2) pa_nil)) (pe_op op_add (pv 4) pe_int) (nomark _)) (pss_one (ps_raise rfl (takes_of rfl rfl rfl rfl) (pmk_oex TC iC tI GI (hr.mono (by decide)) bI .nil pass0 (by rfl) gC (pa_cons pe_int (pa_cons (pe_op op_add (pv 4) pe_int) pa_nil))))) pss_nil)
      (pss_one (ps_ret (pe_makeL (i := 0) MM GM hr rfl (.inl rfl) bM .nil pass0 (pa_cons (pv 3) (pa_cons (pe_ix ix_list (pv 5) pe_int (fun _ _ => rfl)) pa_nil))))))))))))), ?_⟩
    rcases h with ⟨⟨u, ty, ki⟩, tb⟩ | ⟨L, rfl, lL, l63, h⟩
    · exact ⟨_, rfl, v, _, _, _, false, rfl, .ty _, ty _ (Same.refl H), ki, _, rfl, iteT ⟨by decide, fun a' na => raised2 tb a' na⟩⟩
    · refine ⟨_, rfl, _, _, _, _, true, rfl, .ty _, .base (.str _), kit_ty (by decide +kernel), _, rfl, iteF ?_⟩
      refine ⟨_, rfl, ⟨_, rfl⟩, _, _, rfl, rfl, by decide +kernel, ?_, fun W nW => ?_⟩
      · rw [SX.S_len, sizeLine_eq]
        omega
      have eS : (Txt.split (Sx L) (Str.ofString " ")).map V.str = (pcs L).map wv := by
        have e := SX.split_S (a := L) (b := [32]) (by decide) (by decide)
        show (Txt.split (SX.S L) (SX.S [32])).map V.str = _
        rw [e, List.map_map]
        rfl
      rw [eS]
      have hW : upd H W (.lst ((pcs L).map wv)) W = some (.lst ((pcs L).map wv)) := upd_same
      have sW : Same H (upd H W (.lst ((pcs L).map wv))) := same_new nW
      generalize upd H W (.lst ((pcs L).map wv)) = H1 at hW sW ⊢
      unfold dueW at h
      generalize pcs L = ws at h hW l63
      refine ⟨_, rfl, W, ws, rfl, hW, fun l hl => (l63 l hl).1, fun H2 p s2 np hp => ?_⟩
      refine ⟨_, rfl, p, _, rfl, .inl (SqL.of hp), ?_⟩
      rw [List.length_map]
      generalize em : (firsts ws).length = m at h
      refine ⟨_, rfl, rfl, _, rfl, ite2 (fun e => ?_) (fun e => ?_)⟩
      · have e : (m : Int) = 0 := by simpa using e
        rw [if_pos (by omega)] at h
        exact ⟨by decide, fun a' na => raised2 (TellB.on h (sW.trans s2)) a' na⟩
      · have e : ¬ (m : Int) = 0 := by simpa using e
        have e0 : ¬ m = 0 := by omega
        rw [if_neg e0] at h
        have hW2 := s2 _ _ hW
        refine ⟨_, rfl, _, rfl, _, rfl, _, rfl, _, _, rfl, rfl, _, rfl, W, _, rfl, SqL.of hW2, fun S nS => ?_⟩
        have ec : cutV (ws.map wv) (some (m : Int)) (some ((m : Int) + 1)) = ((ws.drop m).take 1).map wv := by
          rw [show (m : Int) + 1 = ((m + 1 : Nat) : Int) from by omega, cut_mid _ _ _ (by omega), ← List.map_drop, ← List.map_take, show m + 1 - m = 1 from by omega]
        rw [ec]
        have hS : upd H2 S (.lst (((ws.drop m).take 1).map wv)) S = some (.lst (((ws.drop m).take 1).map wv)) := upd_same
        have sS : Same H2 (upd H2 S (.lst (((ws.drop m).take 1).map wv))) := same_new nS
        generalize upd H2 S (.lst (((ws.drop m).take 1).map wv)) = H3 at hS sS ⊢
        refine ⟨by decide, fun Z nZ => ?_⟩
        have hZ : upd H3 Z (.lst [.str (Str.ofString ">=")]) Z = some (.lst [.str (Str.ofString ">=")]) := upd_same
        have sZ : Same H3 (upd H3 Z (.lst [.str (Str.ofString ">=")])) := same_new nZ
        have hS4 := sZ _ _ hS
        generalize upd H3 Z (.lst [.str (Str.ofString ">=")]) = H4 at hZ sZ hS4 ⊢
        refine ⟨_, _, .lst (SqL.of hS4) (dpWs _), .lst (SqL.of hZ) (dpWs [[62, 61]]), sh_ws _ (fun l hl => (l63 l (List.mem_of_mem_drop (List.mem_of_mem_take hl))).2), sh_ws [[62, 61]] (by decide), _, rfl, ?_⟩
        rw [eqv_ws, take1]
        have s4 : Same H H4 := sW.trans (s2.trans (sS.trans sZ))
        by_cases ew : ws[m]? = some [62, 61]
        · rw [if_neg (fun z => z ew)] at h
          rw [ew]
          refine iteF ?_
          have hW4 := sZ _ _ (sS _ _ hW2)
          refine ⟨_, rfl, _, rfl, _, _, rfl, rfl, _, rfl, W, _, rfl, SqL.of hW4, fun U nU => ?_⟩
          have ed : cutV (ws.map wv) (some ((m : Int) + 1)) none = (ws.drop (m + 1)).map wv := by
            rw [show (m : Int) + 1 = ((m + 1 : Nat) : Int) from by omega, cut_from, List.map_drop]
          rw [ed]
          have hU : upd H4 U (.lst ((ws.drop (m + 1)).map wv)) U = some (.lst ((ws.drop (m + 1)).map wv)) := upd_same
          have sU : Same H4 (upd H4 U (.lst ((ws.drop (m + 1)).map wv))) := same_new nU
          generalize upd H4 U (.lst ((ws.drop (m + 1)).map wv)) = H5 at hU sU ⊢
          refine ⟨U, _, rfl, hU, fun l hl => (l63 l (List.mem_of_mem_drop hl)).1, fun H6 q s6 nq hq => ?_⟩
          have sA : Same H H6 := s4.trans (sU.trans s6)
          refine ⟨_, rfl, q, _, rfl, .inl (SqL.of hq), rfl, ?_⟩
          rw [List.length_map]
          refine ⟨_, rfl, ite2 (fun z => ?_) (fun z => ?_)⟩
          · have z : ((firsts (ws.drop (m + 1))).length : Int) = 0 := by simpa using z
            rw [if_pos (by omega)] at h
            have h : TellB BT 0 ((m : Int) + 1) H E := h
            exact ⟨_, rfl, _, _, rfl, rfl, (by show 2 ≤ 1000; decide), fun a' na => raised2 (TellB.on h sA) a' na⟩
          · have z : ¬ ((firsts (ws.drop (m + 1))).length : Int) = 0 := by simpa using z
            rw [if_neg (by omega)] at h
            have hW6 := s6 _ _ (sU _ _ hW4)
            refine ⟨_, rfl, W, _, rfl, .inl (SqL.of hW6), _, rfl, _, _, rfl, rfl, _, _, rfl, rfl, _, rfl, ?_⟩
            rw [List.length_map]
            refine ite2 (fun y => ?_) (fun y => ?_)
            · have y : (m : Int) + 2 < (ws.length : Int) := of_decide_eq_true y
              rw [if_pos (by omega)] at h
              have h : TellB BT 0 ((m : Int) + 2) H E := h
              exact ⟨_, rfl, _, _, rfl, rfl, (by show 2 ≤ 1000; decide), fun a' na => raised2 (TellB.on h sA) a' na⟩
            · have y : ¬ (m : Int) + 2 < (ws.length : Int) := fun q => y (decide_eq_true q)
              rw [if_neg (by omega)] at h
              have hp6 := s6 _ _ (sU _ _ (sZ _ _ (sS _ _ hp)))
              have n5 : (firsts ws).length ≤ 5 := firsts_le ws
              have eh : (firsts (ws.drop (m + 1)))[0]? = some ((firsts (ws.drop (m + 1))).headD 0) := by
                cases e : firsts (ws.drop (m + 1)) with
                | nil => rw [e] at z; exact absurd rfl z
                | cons a r => rfl
              have h : ∀ (z : Addr) (H' : Hp), Same H H' → TestAt C H' z (firsts ws) (lastW ws) → Q (.ref z) H' := h
              unfold lastW at h
              rw [em] at h
              refine ⟨rfl, _, rfl, _, rfl, q, _, 0, _, rfl, rfl, SqL.of hq, atI_nat (j := 0) (by rw [List.getElem?_map, eh]; rfl), ?_⟩
              exact mk_of (.inl hp6) (by omega) n5 fun z H7 s7 tz => h z H7 (sA.trans s7) tz
        · rw [if_pos ew] at h
          have nw : ¬ ws[m]?.toList = [[62, 61]] := fun z => ew (by
            cases q : ws[m]? with
            | none => rw [q] at z; cases z
            | some l => rw [q] at z; injection z with z1 _; rw [z1])
          rw [decide_eq_false nw]
          exact iteT ⟨_, rfl, (by show 2 ≤ 1000; decide), fun a' na => raised2 (TellB.on h s4) a' na⟩
end
end Ev
namespace Ev
open PySem L2 PySem.Spec PyProof.Rows
def OutH (C : Addr) (H : Hp) (Q : VK) (ws : List (List Nat)) : Option Nat → Prop
  | some k => ∀ (r : Addr) (G : Hp), Same H G → H r = none → G r = some (.tup [.int 0, .int (k : Int)]) → Q (.ref r) G
  | none => ∀ (z r : Addr) (G : Hp), Same H G → TestAt C G z (firsts ws) (lastW ws) → G r = some (.lst [.ref z]) → Q (.ref r) G
def okT (L : List Nat) : Prop := L.length ≤ 90000 ∧ ∀ l ∈ pcs L, l.length ≤ 63 ∧ ∀ c ∈ l, c < 1114112
def spHeard (K : PySem.W.Frag) (C : Addr) : Sp := fun vs H Q _ => ∃ v : V, vs = [v] ∧ ((NotStr K H v ∧ OutH C H Q [] (some 0)) ∨ ∃ L : List Nat, v = .str (Sx L) ∧ okT L ∧ OutH C H Q (pcs L) (dueW (pcs L)))
/-- what is told in the clause -/
def EchH (BT : Addr) (Q : VK) : XK := fun cls d H' => cls = .ref BT ∧ ∃ (dd : Addr) (j : Int), d = some dd ∧ H' dd = some (.xd (btF 0 j)) ∧ ∀ (r : Addr) (G : Hp), Same H' G → H' r = none → G r = some (.tup [.int 0, .int j]) → Q (.ref r) G
theorem tell_of {BT : Addr} {H : Hp} {Q : VK} {k : Nat} (h : ∀ (r : Addr) (G : Hp), Same H G → H r = none → G r = some (.tup [.int 0, .int (k : Int)]) → Q (.ref r) G) : TellB BT 0 (k : Int) H (EchH BT Q) :=
  fun d H' s n e => ⟨rfl, d, (k : Int), rfl, e, fun r G s2 nr er => h r G (s.trans s2) (Same.gone s nr) er⟩
/-- one by place, one by its name -/
def gRd {α : Type} : List α → List α → List α
  | [a], [b] => [a, b]
  | _, _ => []
theorem gRd_len {us ws : List Value} (h : (gRd us ws).length = 2) : ∃ a b, us = [a] ∧ ws = [b] := by
  match us, ws, h with
  | [a], [b], _ => exact ⟨a, b, rfl, rfl⟩
  | [], ws, h => cases ws <;> cases h
  | [_], [], h => cases h
  | [_], _ :: _ :: _, h => cases h
  | _ :: _ :: _, ws, h => cases ws <;> cases h
theorem gRd_rel {vs : List V} {us : List Value} {zs : List V} {ws : List Value} (r : Vals vs us) (rz : Vals zs ws) : Vals (gRd vs zs) (gRd us ws) := by
  cases r with
  | nil => cases rz <;> exact .nil
  | cons a r2 =>
    cases r2 with
    | nil =>
      cases rz with
      | nil => exact .nil
      | cons b rz2 =>
        cases rz2 with
        | nil => exact .cons a (.cons b .nil)
        | cons c rz3 => exact .nil
    | cons b r3 => cases rz <;> exact .nil
/-- how Test.read is found -/
structure RdM (P : Program) (w : World) (K : PySem.W.Frag) (mg : Str → Option Value) (base : Heap) (C BT : Addr) : Prop where
  g : mg "Test" = some (.ref C)
  ex : ∃ (mc : Value) (p f : Addr) (fd : FuncData), ClX.CRead K C mc ∧ ClX.CMet K C mc "read" p f ∧ FnOk P w K mg base (L2.CX P w) 6 f fd ["cls", "text"] (spRead K C BT) ∧ Binds K fd ["cls", "text"] [] ∧ KBinds K fd ["cls", "text"] ["text"] gRd gRd
/-- how BadText is caught and looked at -/
structure HBT (K : PySem.W.Frag) (mg : Str → Option Value) (BT FE : Addr) : Prop where
  gF : mg "FairError" = some (.ref FE)
  gB : mg "BadText" = some (.ref BT)
  hc : HeldC K BT
  nl : PySem.W.findIn K (.ref BT) "line" = some none
  nw : PySem.W.findIn K (.ref BT) "word" = some none
  te : PySem.W.exmOne K (.ref BT) (.ref FE) = some true
theorem three {σ : L2.St} (h : σ.length = 3) : ∃ x0 x1 x2, σ = [x0, x1, x2] := by
  match σ, h with
  | [x0, x1, x2], _ => exact ⟨x0, x1, x2, rfl⟩
section
variable {P : Program} {w : World} {K : PySem.W.Frag} {mg : Str → Option Value} {base : Heap}
theorem scHeard : FnScope ["_law_value_so", "_law_caught", "error"] ["_law_value_so"] (defScope sHeard) := ⟨rfl, rfl, rfl, by decide +kernel, rfl, by decide +kernel, by decide +kernel⟩
theorem ok_heard {f C BT FE : Addr} {fd : FuncData} (F : Fun K "_law_heard" "_law_heard" sHeard f fd) (T : Blt mg) (R : RdM P w K mg base C BT) (HB : HBT K mg BT FE) : FnOk P w K mg base CX0 7 f fd ["_law_value_so"] (spHeard K C) := by
  obtain ⟨gC, mc, p, fr, fdr, cr, cm, GR, bR, _⟩ := R
  obtain ⟨gF, gB, hc, nl, nw, te⟩ := HB
  refine F.ok scHeard (fun vs H Q E h => ?_) (fun cdv A outer s H vs Q E hr h => ?_)
  · obtain ⟨v, rfl, _⟩ := h
    rfl
  · obtain ⟨v, rfl, h⟩ := h
    refine ⟨_, pss_cons (ps_set (i := 1) scHeard.nd rfl (.inl rfl) pe_non)
      (pss_cons (ps_try_held (c := .ref FE) (i := 2) (Wout := fun _ _ _ _ => False)
        (tb := fun W D σ H => ∃ Ech : XK, (∀ cls d σ' H', Ech cls d H' → W cls d σ' H') ∧ tRet (tLst (tCons (ClX.tCMeth C (spRead K C BT) Ech (tC (.ref C)) (tCons (tVar 0) tNil)) tNil)) D σ H)
        (ts := fun a cls d => tAsg (tVar 2) (gName 1)) rfl rfl rfl scHeard.nd rfl rfl ⟨rfl, by decide, .inl gF⟩ L2.takes0 (fun W pn xe tk => ?_) (fun a oe cls d pn _ _ => pss_one (ps_set (i := 1) scHeard.nd rfl (.inl rfl) (pv 2))))
      (pss_one (ps_ret (pe_ifExp (pt_val (pe_callB call_isHeld (by rfl) T.isi (by decide +kernel) (pa_cons (pv 1) (pa_cons (pe_glob (v := .ref BT) rfl gB rfl) pa_nil))))
        (pe_tup (pa_cons (pe_heldFld (pv 1)) (pa_cons (pe_heldFld (pv 1)) pa_nil))) pe_never)))), ?_⟩
    · refine ⟨fun pins s' σ H' D I h' => ?_⟩
      obtain ⟨Ech, hW, h1⟩ := h'
      exact (pss_one (ps_ret (pe_lst (pa_cons (ClX.pe_cmeth (E := Ech) (pe_glob (v := .ref C) (by rfl) gC rfl) cr cm (fnr_of GR bR) hr (passes_call tk hW) (pa_cons (pv 0) pa_nil)) pa_nil)))).run pins s' σ H' D I h1
    · refine ⟨EchH BT Q, fun cls d σ' H' z hlen => ?_, rfl, _, rfl, v, rfl, ?_⟩
      · obtain ⟨rfl, dd, j, rfl, ed, fin⟩ := z
        obtain ⟨x0, x1, x2, rfl⟩ := three hlen
        refine ⟨true, te, (fun z => by cases z), fun _ a na => ⟨_, rfl, fun _ => ?_⟩⟩
        have sA : Same H' (upd H' a (Held (.ref BT) (some dd) a)) := same_new na
        have hA : upd H' a (Held (.ref BT) (some dd) a) a = some (Held (.ref BT) (some dd) a) := upd_same
        have hD := sA _ _ ed
        generalize upd H' a (Held (.ref BT) (some dd) a) = HA at sA hA hD
        refine ⟨_, rfl, a, BT, dd, _, _, _, true, rfl, hA, hD, hc, .own BT, kit_self, _, rfl, iteT ?_⟩
        refine ⟨_, rfl, a, BT, dd, _, _, rfl, hA, hD, hc, nl, rfl, _, rfl, a, BT, dd, _, _, rfl, hA, hD, hc, nw, rfl, (by show 2 ≤ sizeLine; decide), fun tq ntq => ?_⟩
        exact fin tq _ (sA.trans (same_new ntq)) (Same.gone sA ntq) upd_same
      · rcases h with ⟨ns, k⟩ | ⟨L, rfl, ⟨lL, l63⟩, k⟩
        · exact .inl ⟨ns, tell_of (k := 0) k⟩
        · refine .inr ⟨L, rfl, lL, l63, ?_⟩
          cases e : dueW (pcs L) with
          | some n =>
            rw [e] at k
            exact tell_of k
          | none =>
            rw [e] at k
            intro z H1 s1 tz
            refine ⟨(by show 1 ≤ sizeLine; decide), fun r nr => ?_⟩
            exact k z r _ (s1.trans (same_new nr)) (tz.keep (same_new nr)) upd_same
end
end Ev
namespace Ev
open PySem L2 PySem.Spec PyProof.Rows
def okw (l : List Nat) : Prop := l.length ≤ 63 ∧ ∀ c ∈ l, c < 1114112
def spIsNum : Sp := fun vs H Q _ => ∃ l : List Nat, vs = [wv l] ∧ okw l ∧ ∀ H', Same H H' → Q (.bl (can l)) H'
/-- the signs that are no digits -/
def odd (l : List Nat) : List (List Nat) := (l.filter fun c => !dig c).map fun c => [c]
theorem odd_nil {l : List Nat} : odd l = [] ↔ l.all dig = true := by
  unfold odd
  rw [List.map_eq_nil_iff, List.filter_eq_nil_iff, List.all_eq_true]
  simp
theorem odd_app (a : List Nat) (c : Nat) : odd (a ++ [c]) = odd a ++ (if dig c = true then [] else [[c]]) := by
  unfold odd
  rw [List.filter_append, List.map_append]
  cases h : dig c <;> simp [h]
theorem dg_mem {l : List Nat} {c : Nat} (h : c ∈ dg l) : c ∈ l := by
  unfold dg at h
  by_cases z : l.head? = some 45
  · rw [if_pos z] at h; exact List.mem_of_mem_tail h
  · rw [if_neg z] at h; exact h
theorem dig_mem (c : Nat) : decide (c ∈ (Str.ofString "0123456789").cps.toList) = dig c := by
  have e : (Str.ofString "0123456789").cps.toList = [48, 49, 50, 51, 52, 53, 54, 55, 56, 57] := by decide +kernel
  rw [e]
  unfold dig
  by_cases h : 48 ≤ c ∧ c ≤ 57
  · have : c ∈ [48, 49, 50, 51, 52, 53, 54, 55, 56, 57] := by simp; omega
    rw [decide_eq_true this]; simp [h]
  · have : ¬ c ∈ [48, 49, 50, 51, 52, 53, 54, 55, 56, 57] := by simp; omega
    rw [decide_eq_false this]
    have : ¬ (48 ≤ c) ∨ ¬ (c ≤ 57) := by omega
    rcases this with z | z <;> simp [z]
theorem intText_any {l : List Nat} (h : allD (dg l) = true) (hl : l.length ≤ 63) : PySem.intText? (Sx l) = some (val l) := by
  obtain ⟨ne, ad⟩ := allD_iff.mp h
  by_cases s : l.head? = some 45
  · have e : l = 45 :: dg l := by
      cases l with
      | nil => cases s
      | cons a r =>
        have : a = 45 := Option.some.inj s
        subst this
        unfold dg
        simp
    unfold val
    rw [if_pos s]
    exact PySem.intText_neg (x := Sx l) (cs := dg l) e ad ne (by show l.toArray.size ≤ 4300; simp; omega)
  · have e : dg l = l := by unfold dg; rw [if_neg s]
    unfold val
    rw [if_neg s]
    rw [e] at h ⊢
    exact intText_S h (by omega)
theorem val_lt (d : List Nat) : NumText.AllDigits d → NumText.digitsVal d < 10 ^ d.length := by
  refine rev_ind (P := fun d => NumText.AllDigits d → NumText.digitsVal d < 10 ^ d.length) (fun _ => by decide) (fun d c ih => ?_) d
  intro h
  have h1 := ih fun x m => h x (by simp [m])
  have h2 := h c (by simp)
  rw [val_snoc, List.length_append, List.length_singleton, Nat.pow_succ]
  omega
theorem val_log {l : List Nat} (h : allD (dg l) = true) (hl : l.length ≤ 63) : (val l).natAbs.log2 < 1920 := by
  have h1 := val_lt (dg l) (allD_iff.mp h).2
  have h2 : (10 : Nat) ^ (dg l).length ≤ 10 ^ 63 := Nat.pow_le_pow_right (by decide) (by have := dg_len l; omega)
  have h3 : (val l).natAbs = NumText.digitsVal (dg l) := by
    unfold val
    by_cases s : l.head? = some 45
    · rw [if_pos s]; omega
    · rw [if_neg s]; omega
  rw [h3]
  by_cases z : NumText.digitsVal (dg l) = 0
  · rw [z]; decide
  · exact (Nat.log2_lt z).mpr (Nat.lt_of_lt_of_le h1 (Nat.le_trans h2 (by decide +kernel)))
theorem head_take (l : List Nat) : (Sx (l.take 1) = Str.ofString "-") ↔ l.head? = some 45 := by
  constructor
  · intro h
    have h : l.take 1 = [45] := S_inj h
    cases l with
    | nil => cases h
    | cons a r => injection h with h1 _; rw [h1]; rfl
  · intro h
    cases l with
    | nil => cases h
    | cons a r =>
      have : a = 45 := Option.some.inj h
      subst this
      rfl
section
variable {P : Program} {w : World} {K : PySem.W.Frag} {mg : Str → Option Value} {base : Heap}
theorem scIsNum : FnScope ["_law_word", "_law_signs", "_law_sign"] ["_law_word"] (defScope sIsNum) := ⟨rfl, rfl, rfl, by decide +kernel, rfl, by decide +kernel, by decide +kernel⟩
theorem ok_isNum {f : Addr} {fd : FuncData} (F : Fun K "_law_is_number" "_law_is_number" sIsNum f fd) (T : Blt mg) (ms : mg "str" = none) : FnOk P w K mg base CX0 1 f fd ["_law_word"] spIsNum := by
  refine F.ok scIsNum (fun vs H Q E h => ?_) (fun cdv A outer s H vs Q E hr h => ?_)
  · obtain ⟨l, rfl, _⟩ := h
    rfl
  · obtain ⟨l, rfl, hl, kk⟩ := h
    have sz : (Sx l).length ≤ sizeLine := S_size l hl.1 (by decide)
    obtain ⟨tR, hR, qR⟩ : ∃ t : TS, PSs (cxOf CX0 P w K mg base ["_law_word", "_law_signs", "_law_sign"] "_law_is_number" (defScope sIsNum) f cdv A outer s H E).nox ((defBody sIsNum).drop 1) t ∧ ∀ (D : Ends) (m : List Nat), m = dg l → (∀ H', Same H H' → D.rt (.bl (can l)) H') → t D [some (wv l), some (.str (Sx m)), none] H := by
      refine ⟨_, (pss_cons (ps_if (PW.pt (pw_or (pt_cmpR op_eq (pv 1) pe_str (nomark _)) (pw_or1 (pt_cmpR (op_neD (Room.units hr)) (pe_lc (own := [("_law_sign", 2)]) (g := gName 2) (by rfl) scIsNum.nd (pi_str (pv 1)) (blkOk_by (own := [("_law_sign", 2)]) (N := ["_law_word", "_law_signs", "_law_sign"]) (sc := defScope sIsNum) (by decide +kernel))
          (fun _ _ _ _ _ => pg_name (i := 2) scIsNum.nd rfl (.inl rfl)) (fun _ _ _ _ _ => pts_one (pt_cmpR op_notIn_sign (pv 2) pe_str (by rfl))) (fun _ _ _ _ _ => pv 2)) (pe_lst pa_nil) (nomark _))))) (pss_one (ps_ret pe_bl)) pss_nil)
        (pss_one (ps_ret (pe_cmpR op_eq (pe_callTy call_str_int (by rfl) ms (by decide +kernel) (pa_cons (pe_callTy call_int_str (by rfl) T.int (by decide +kernel) (pa_cons (pv 0) pa_nil)) pa_nil)) (pv 0) (nomark _))))), ?_⟩
      rintro D m rfl q
      refine ⟨_, rfl, rfl, _, rfl, ?_⟩
      by_cases e0 : dg l = []
      · have ee : V.str (Sx (dg l)) = V.str (Str.ofString "") := by rw [e0]; rfl
        rw [decide_eq_true ee]
        have c0 : can l = false := by unfold can allD; rw [e0]; rfl
        rw [c0] at q
        exact iteT (q H (Same.refl H))
      · have ee : ¬ V.str (Sx (dg l)) = V.str (Str.ofString "") := fun z => e0 (S_inj (b := []) (V.str.inj z))
        rw [decide_eq_false ee]
        refine iteF ⟨_, rfl, _, rfl, fun D1 nD => ?_⟩
        refine lc_it walk_str (fun i H' => H' D1 = some (.lst ((odd ((dg l).take i)).map wv)) ∧ But D1 H H') ⟨upd_same, But.upd_at⟩ (fun _ _ _ _ => trivial) (fun i v H1 H' hi ⟨e1, e2⟩ y => ?_) (fun H' ⟨e1, e2⟩ => ?_)
        · obtain ⟨rfl, c, hc, rfl⟩ := y
          have hc : (dg l)[i]? = some c := by simpa [Sx, SX.S] using hc
          have hi : i < (dg l).length := by simpa [Sx, SX.S] using hi
          have tk : (dg l).take (i + 1) = (dg l).take i ++ [c] := by rw [List.take_add_one, hc]; rfl
          refine ⟨rfl, _, rfl, c, _, rfl, rfl, _, rfl, ?_⟩
          rw [dig_mem, tk, odd_app]
          cases hd : dig c with
          | true =>
            refine iteF ?_
            rw [if_pos rfl, List.append_nil]
            exact ⟨e1, e2⟩
          | false =>
            refine iteT ⟨_, rfl, _, e1, ?_, ?_, e2.trans But.upd_at⟩
            · have h1 : (odd ((dg l).take i)).length ≤ ((dg l).take i).length := by unfold odd; rw [List.length_map]; exact List.length_filter_le _ _
              rw [List.length_map]
              rw [List.length_take] at h1
              have := dg_len l
              have := hl.1
              exact Nat.lt_of_lt_of_le (show _ < 1000 by omega) (by decide)
            · rw [if_neg (by simp), List.map_append]
              exact upd_same
        · have sS : Same H H' := fun c o e => e2 c o (ne_of_none e nD) e
          rw [show (Sx (dg l)).cps.size = (dg l).length from by simp [Sx, SX.S], List.take_length] at e1
          refine ⟨by decide, fun Z nZ => ?_⟩
          have hZ : upd H' Z (.lst []) Z = some (.lst []) := upd_same
          have sZ : Same H' (upd H' Z (.lst [])) := same_new nZ
          generalize upd H' Z (.lst []) = H2 at hZ sZ ⊢
          have cod : ∀ x ∈ odd (dg l), ∀ c ∈ x, c < 1114112 := by
            intro x hx c hc
            unfold odd at hx
            obtain ⟨c', hc', rfl⟩ := List.mem_map.mp hx
            have : c = c' := by simpa using hc
            subst this
            exact hl.2 c (dg_mem (List.mem_filter.mp hc').1)
          refine ⟨_, _, .lst (SqL.of (sZ _ _ e1)) (dpWs _), .lst (SqL.of hZ) (dpWs []), sh_ws _ cod, sh_ws [] (by decide), _, rfl, ?_⟩
          rw [eqv_ws]
          by_cases ho : odd (dg l) = []
          · rw [decide_eq_true ho]
            have had : allD (dg l) = true := by
              unfold allD
              rw [odd_nil.mp ho]
              cases e : dg l with
              | nil => exact absurd e e0
              | cons a r => rfl
            refine iteF ⟨_, rfl, _, _, rfl, intText_any had hl.1, (by rw [SX.S_len]; have := hl.1; omega), _, rfl, val_log had hl.1, _, rfl, rfl, ?_⟩
            have q := q H2 (sS.trans sZ)
            have et : Str.ofString (toString (val l)) = Sx (txc (val l)) := tx_S (val l)
            rw [et]
            have ed : decide (V.str (Sx (txc (val l))) = V.str (Sx l)) = can l := by
              cases hc : can l with
              | true => exact decide_eq_true (by rw [txc_val hc])
              | false =>
                refine decide_eq_false fun z => ?_
                have := (can_iff had).mp (S_inj (V.str.inj z))
                rw [hc] at this
                cases this
            rw [ed]
            exact q
          · rw [decide_eq_false ho]
            have c0 : can l = false := by
              unfold can allD
              cases e : (dg l).all dig with
              | true => exact absurd (odd_nil.mpr e) ho
              | false => simp
            have q := q H2 (sS.trans sZ)
            rw [c0] at q
            exact iteT q
    refine ⟨_, pss_cons (ps_set (i := 1) scIsNum.nd rfl (.inl rfl) (pe_ifExp (pt_cmpR op_eq (pe_slice C8.sl_txt (pv 0) po_none (po_some pe_int)) pe_str (nomark _)) (pe_slice C8.sl_txt (pv 0) (po_some pe_int) po_none) (pv 0))) hR, ?_⟩
    refine ⟨_, rfl, _, rfl, _, rfl, sz, rfl, _, rfl, ?_⟩
    have e1 : Txt.slice (Sx l) none (some 1) = Sx (l.take 1) := SX.slice_to (a := l) (i := 1) (by decide)
    rw [e1]
    by_cases h : l.head? = some 45
    · have z : V.str (Sx (l.take 1)) = V.str (Str.ofString "-") := by rw [(head_take l).mpr h]
      rw [decide_eq_true z]
      refine iteT ⟨_, rfl, _, rfl, _, rfl, sz, ?_⟩
      rw [dig_slice l h]
      exact qR _ _ rfl kk
    · have z : ¬ V.str (Sx (l.take 1)) = V.str (Str.ofString "-") := fun q => h ((head_take l).mp (V.str.inj q))
      rw [decide_eq_false z]
      refine iteF ⟨_, rfl, ?_⟩
      have e : dg l = l := by unfold dg; rw [if_neg h]
      exact qR _ l e.symm kk
end
end Ev
namespace Ev
open PySem L2 PySem.Spec PyProof.Rows
def dueV (ws : List (List Nat)) : V := match dueW ws with
  | some k => .int (k : Int)
  | none => .non
def spDue : Sp := fun vs H Q _ => ∃ (a : Addr) (ws : List (List Nat)), vs = [.ref a] ∧ H a = some (.lst (ws.map wv)) ∧ (∀ l ∈ ws, okw l) ∧ ws.length ≤ 900 ∧ ∀ H', Same H H' → Q (dueV ws) H'
theorem firsts_zero {ws : List (List Nat)} : (firsts ws).length = 0 ↔ ∀ l, ws[0]? = some l → can l = false := by
  unfold firsts
  rw [List.length_map]
  cases ws with
  | nil => simp
  | cons a r =>
    rw [List.take_succ_cons, List.takeWhile_cons]
    cases h : can a <;> simp [h]
theorem firsts_len {ws : List (List Nat)} {i : Nat} (h5 : i ≤ 5) (hl : i ≤ ws.length) (a : ((ws.take 5).take i).all can = true) (e : i = 5 ∨ i = ws.length ∨ ∃ l, ws[i]? = some l ∧ can l = false) : (firsts ws).length = i := by
  have hf : i = (ws.take 5).length → (firsts ws).length = i := fun e => by
    rw [e, List.take_length] at a
    rw [firsts_all a, List.length_map]
    exact e.symm
  rcases e with e | e | ⟨l, e, c⟩
  · by_cases z : 5 ≤ ws.length
    · exact hf (by rw [List.length_take]; omega)
    · omega
  · exact hf (by rw [List.length_take]; omega)
  · by_cases z : i = 5
    · have : i < ws.length := (List.getElem?_eq_some_iff.mp e).1
      exact hf (by rw [List.length_take]; omega)
    · have e2 : (ws.take 5)[i]? = some l := by rw [List.getElem?_take_of_lt (by omega)]; exact e
      rw [firsts_stop e2 a c, List.length_map, List.length_take, List.length_take]
      have : i < ws.length := (List.getElem?_eq_some_iff.mp e).1
      omega
section
variable {P : Program} {w : World} {K : PySem.W.Frag} {mg : Str → Option Value} {base : Heap}
theorem scDue : FnScope ["_law_words", "_law_at"] ["_law_words"] (defScope sDue) := ⟨rfl, rfl, rfl, by decide +kernel, rfl, by decide +kernel, by decide +kernel⟩
theorem ok_due {f : Addr} {fd : FuncData} (F : Fun K "_law_due" "_law_due" sDue f fd) (T : Blt mg) (D1 : Df P w K mg base 1 "_law_is_number" ["_law_word"] spIsNum) : FnOk P w K mg base CX0 2 f fd ["_law_words"] spDue := by
  obtain ⟨f1, fd1, G1, g1, k1, b1⟩ := D1.ex
  refine F.ok scDue (fun vs H Q E h => ?_) (fun cdv A outer s H vs Q E hr h => ?_)
  · obtain ⟨a, ws, rfl, _⟩ := h
    rfl
  · obtain ⟨a, ws, rfl, ha, hw, h9, kk⟩ := h
    obtain ⟨tR, hR, qR⟩ : ∃ t : TS, PSs (cxOf CX0 P w K mg base ["_law_words", "_law_at"] "_law_due" (defScope sDue) f cdv A outer s H E).nox ((defBody sDue).drop 2) t ∧ ∀ (D : Ends) (G : Hp) (i : Nat), Same H G → (firsts ws).length = i → i ≤ ws.length → (∀ H', Same H H' → D.rt (dueV ws) H') → t D [some (.ref a), some (.int (i : Int))] G := by
      refine ⟨_, (pss_cons (ps_if (PW.pt (pw_or (pt_cmpR op_eq (pv 1) pe_int (nomark _)) (pw_or (pt_cmpR op_eq (pv 1) (pe_callB call_len_seq (by rfl) T.len PySem.boot_len (pa_cons (pv 0) pa_nil)) (nomark _)) (pw_or1 (pt_cmpR op_ne (pe_ix ix_list (pv 0) (pv 1) (fun _ _ => rfl)) pe_str (nomark _))))))
        (pss_one (ps_ret (pv 1))) pss_nil)
      (pss_cons (ps_if (PW.pt (pw_or (pt_cmpR op_eq (pe_op op_add (pv 1) pe_int) (pe_callB call_len_seq (by rfl) T.len PySem.boot_len (pa_cons (pv 0) pa_nil)) (nomark _)) (pw_or1 (pt_not (pt_val (pe_call G1 hr (by rfl) g1 k1 b1 .nil pass0 (pa_cons (pe_ix ix_list (pv 0) (pe_op op_add (pv 1) pe_int) (fun _ _ => rfl)) pa_nil)))))))
        (pss_one (ps_ret (pe_op op_add (pv 1) pe_int))) pss_nil)
      (pss_one (ps_ret (pe_ifExp (pt_cmpR op_eq (pe_callB call_len_seq (by rfl) T.len PySem.boot_len (pa_cons (pv 0) pa_nil)) (pe_op op_add (pv 1) pe_int) (nomark _)) pe_non (pe_op op_add (pv 1) pe_int)))))), ?_⟩
      intro D G i sG em il q
      have hG := sG _ _ ha
      unfold dueV dueW at q
      rw [em] at q
      refine ⟨_, rfl, rfl, _, rfl, ?_⟩
      by_cases z0 : i = 0
      · rw [if_pos z0] at q
        subst z0
        rw [show decide (V.int ((0 : Nat) : Int) = V.int 0) = true from rfl]
        exact iteT (iteT ⟨_, rfl, q G sG⟩)
      · rw [if_neg z0] at q
        rw [show decide (V.int (i : Int) = V.int 0) = false from decide_eq_false fun z => by injection z with z; omega]
        refine iteF ⟨_, rfl, _, rfl, a, _, rfl, .inl (SqL.of hG), rfl, _, rfl, ?_⟩
        rw [List.length_map]
        by_cases z1 : i = ws.length
        · have e : ws[i]? = none := List.getElem?_eq_none (by omega)
          rw [if_pos (by rw [e]; simp)] at q
          rw [show decide (V.int (i : Int) = V.int (ws.length : Int)) = true from decide_eq_true (by rw [z1])]
          exact iteT (iteT ⟨_, rfl, q G sG⟩)
        · rw [show decide (V.int (i : Int) = V.int (ws.length : Int)) = false from decide_eq_false fun z => by injection z with z; omega]
          have hi : i < ws.length := by omega
          have e : ws[i]? = some ws[i] := List.getElem?_eq_getElem hi
          refine iteF ⟨_, rfl, _, rfl, a, _, _, _, rfl, rfl, SqL.of hG, atI_nat (j := i) (by rw [List.getElem?_map, e]; rfl), rfl, _, rfl, ?_⟩
          by_cases z2 : ws[i] = [62, 61]
          · rw [show decide (wv ws[i] = V.str (Str.ofString ">=")) = true from decide_eq_true (by rw [z2]; rfl)]
            rw [if_neg (by rw [e, z2]; simp)] at q
            refine iteF ?_
            refine ⟨_, rfl, _, _, rfl, rfl, _, rfl, a, _, rfl, .inl (SqL.of hG), rfl, _, rfl, ?_⟩
            rw [List.length_map]
            by_cases z3 : i + 1 = ws.length
            · have ez : (firsts (ws.drop (i + 1))).length = 0 := firsts_zero.mpr fun l hl => by
                rw [List.drop_of_length_le (by omega)] at hl
                cases hl
              rw [if_pos ez] at q
              rw [show decide (V.int ((i : Int) + 1) = V.int (ws.length : Int)) = true from decide_eq_true (by rw [← z3]; rfl)]
              exact iteT (iteT ⟨_, rfl, _, _, rfl, rfl, q G sG⟩)
            · rw [show decide (V.int ((i : Int) + 1) = V.int (ws.length : Int)) = false from decide_eq_false fun z => by injection z with z; omega]
              have hi1 : i + 1 < ws.length := by omega
              have e1 : ws[i + 1]? = some ws[i + 1] := List.getElem?_eq_getElem hi1
              refine iteF ⟨_, rfl, _, rfl, _, _, rfl, rfl, a, _, _, _, rfl, rfl, SqL.of hG, atI_nat (j := i + 1) (by rw [List.getElem?_map, e1]; rfl), ws[i + 1], rfl, hw _ (List.getElem_mem hi1), fun G2 s2 => ⟨_, rfl, ?_⟩⟩
              have e0 : (ws.drop (i + 1))[0]? = some ws[i + 1] := by rw [List.getElem?_drop]; exact e1
              cases c : can ws[i + 1] with
              | false =>
                have ez : (firsts (ws.drop (i + 1))).length = 0 := firsts_zero.mpr fun l hl => by
                  rw [e0] at hl
                  cases hl
                  exact c
                rw [if_pos ez] at q
                exact iteT ⟨_, rfl, _, _, rfl, rfl, q G2 (sG.trans s2)⟩
              | true =>
                have ez : ¬ (firsts (ws.drop (i + 1))).length = 0 := fun z => by
                  have := firsts_zero.mp z _ e0
                  rw [c] at this
                  cases this
                rw [if_neg ez] at q
                have q := q G2 (sG.trans s2)
                refine iteF ⟨_, rfl, a, _, rfl, .inl (SqL.of (s2 _ _ hG)), _, rfl, _, _, rfl, rfl, rfl, _, rfl, ?_⟩
                rw [List.length_map]
                by_cases z4 : i + 2 < ws.length
                · rw [if_pos z4] at q
                  rw [show decide (V.int (ws.length : Int) = V.int ((i : Int) + 2)) = false from decide_eq_false fun z => by injection z with z; omega]
                  exact iteF ⟨_, rfl, _, _, rfl, rfl, q⟩
                · rw [if_neg z4] at q
                  have z5 : ws.length = i + 2 := by omega
                  rw [show decide (V.int (ws.length : Int) = V.int ((i : Int) + 2)) = true from decide_eq_true (by rw [z5]; rfl)]
                  exact iteT q
          · rw [show decide (wv ws[i] = V.str (Str.ofString ">=")) = false from decide_eq_false fun z => z2 (S_inj (b := [62, 61]) (V.str.inj z))]
            rw [if_pos (by rw [e]; simpa using z2)] at q
            exact iteT ⟨_, rfl, q G sG⟩
    refine ⟨_, pss_cons (ps_set (i := 1) scDue.nd rfl (.inl rfl) pe_int)
      (pss_cons (ps_while PassesOwn.never (PW.pt (pw_and (pt_cmpR op_lt (pv 1) (pe_callB call_len_seq (by rfl) T.len PySem.boot_len (pa_cons (pv 0) pa_nil)) (nomark _)) (pw_and (pt_cmpR op_lt (pv 1) pe_int (nomark _))
          (pw_and1 (pt_val (pe_call G1 hr (by rfl) g1 k1 b1 .nil pass0 (pa_cons (pe_ix ix_list (pv 0) (pv 1) (fun _ _ => rfl)) pa_nil)))))))
        (pss_one (ps_set (i := 1) scDue.nd rfl (.inl rfl) (pe_op op_add (pv 1) pe_int)))) hR), ?_⟩
    refine ⟨fun n σ G => ∃ i : Nat, n = 5 - i ∧ i ≤ 5 ∧ i ≤ ws.length ∧ σ = [some (.ref a), some (.int (i : Int))] ∧ ((ws.take 5).take i).all can = true ∧ Same H G, ⟨5, 0, rfl, by decide, Nat.zero_le _, rfl, rfl, Same.refl H⟩, ?_⟩
    rintro n σ G ⟨i, rfl, i5, il, rfl, ac, sG⟩
    have hG := sG _ _ ha
    refine ⟨_, rfl, _, rfl, a, _, rfl, .inl (SqL.of hG), _, _, rfl, rfl, _, rfl, ?_⟩
    rw [List.length_map]
    by_cases z1 : i < ws.length
    · rw [decide_eq_true (show (i : Int) < (ws.length : Int) by omega)]
      refine iteT ⟨_, rfl, _, _, rfl, rfl, _, rfl, ?_⟩
      by_cases z2 : i < 5
      · rw [decide_eq_true (show (i : Int) < 5 by omega)]
        have e : ws[i]? = some ws[i] := List.getElem?_eq_getElem z1
        refine iteT ⟨_, rfl, _, rfl, a, _, _, _, rfl, rfl, SqL.of hG, atI_nat (j := i) (by rw [List.getElem?_map, e]; rfl), ws[i], rfl, hw _ (List.getElem_mem z1), fun G2 s2 => ⟨_, rfl, ?_⟩⟩
        cases c : can ws[i] with
        | true =>
          refine iteT ⟨_, fun σ' H' N => ⟨5 - (i + 1), by omega, N⟩, ?_⟩
          refine ⟨_, rfl, _, _, rfl, rfl, i + 1, rfl, by omega, by omega, rfl, ?_, sG.trans s2⟩
          have e2 : (ws.take 5)[i]? = some ws[i] := by rw [List.getElem?_take_of_lt (by omega)]; exact e
          have tk : (ws.take 5).take (i + 1) = (ws.take 5).take i ++ [ws[i]] := by
            generalize ws.take 5 = us at e2
            rw [List.take_add_one, e2]
            rfl
          rw [tk, List.all_append, ac]
          simp [c]
        | false =>
          exact iteF (qR _ G2 i (sG.trans s2) (firsts_len i5 il ac (.inr (.inr ⟨_, e, c⟩))) il kk)
      · rw [decide_eq_false (show ¬ (i : Int) < 5 by omega)]
        exact iteF (iteF (qR _ G i sG (firsts_len i5 il ac (.inl (by omega))) il kk))
    · rw [decide_eq_false (show ¬ (i : Int) < (ws.length : Int) by omega)]
      exact iteF (iteF (qR _ G i sG (firsts_len i5 il ac (.inr (.inl (by omega)))) il kk))
end
end Ev
namespace Ev
open PySem L2 PySem.Spec PyProof.Rows
theorem pre32 (c : Nat) (r : List Nat) : TL.pre [32] (c :: r) = decide (c = 32) := by
  unfold TL.pre
  by_cases h : c = 32
  · subst h; simp
  · simp [h]
theorem spl_sep : ∀ (a acc r : List Nat), TL.spl [32] 0 acc (a ++ 32 :: r) = TL.spl [32] 0 acc a ++ TL.spl [32] 0 [] r := by
  intro a
  induction a with
  | nil =>
    intro acc r
    rw [List.nil_append, TL.spl_hit (by rw [pre32]; simp), TL.spl_nil]
    rfl
  | cons c a ih =>
    intro acc r
    by_cases h : c = 32
    · rw [List.cons_append, TL.spl_hit (by rw [pre32, h]; simp), TL.spl_hit (by rw [pre32, h]; simp)]
      show acc :: TL.spl [32] 0 [] (a ++ 32 :: r) = _
      rw [ih]
      rfl
    · rw [List.cons_append, TL.spl_miss (by rw [pre32]; simp [h]), TL.spl_miss (by rw [pre32]; simp [h]), ih]
theorem pcs_jn : ∀ ws : List (List Nat), ws ≠ [] → pcs (jn ws) = ws.flatMap pcs := by
  intro ws
  induction ws with
  | nil => intro h; exact absurd rfl h
  | cons a r ih =>
    intro _
    cases r with
    | nil => simp [jn, TL.joinL]
    | cons c t =>
      have e : jn (a :: c :: t) = a ++ 32 :: jn (c :: t) := rfl
      have := ih (by simp)
      rw [e, List.flatMap_cons, ← this]
      exact spl_sep a [] _
theorem spl_bound : ∀ (a acc : List Nat), (∀ p ∈ TL.spl [32] 0 acc a, p.length ≤ acc.length + a.length ∧ ∀ c ∈ p, c ∈ acc ∨ c ∈ a) ∧ (TL.spl [32] 0 acc a).length ≤ a.length + 1 := by
  intro a
  induction a with
  | nil =>
    intro acc
    rw [TL.spl_nil]
    simp
  | cons c a ih =>
    intro acc
    by_cases h : c = 32
    · rw [TL.spl_hit (by rw [pre32, h]; simp)]
      show (∀ p ∈ acc :: TL.spl [32] 0 [] a, _) ∧ (acc :: TL.spl [32] 0 [] a).length ≤ _
      obtain ⟨h1, h2⟩ := ih []
      refine ⟨fun p hp => ?_, by simp; omega⟩
      rcases List.mem_cons.mp hp with rfl | hp
      · exact ⟨by simp, fun x hx => .inl hx⟩
      · obtain ⟨z1, z2⟩ := h1 p hp
        refine ⟨by simp at z1 ⊢; omega, fun x hx => .inr ?_⟩
        rcases z2 x hx with z | z
        · cases z
        · exact List.mem_cons_of_mem _ z
    · rw [TL.spl_miss (by rw [pre32]; simp [h])]
      obtain ⟨h1, h2⟩ := ih (acc ++ [c])
      refine ⟨fun p hp => ?_, by simp; omega⟩
      obtain ⟨z1, z2⟩ := h1 p hp
      refine ⟨by simp at z1 ⊢; omega, fun x hx => ?_⟩
      rcases z2 x hx with z | z
      · rcases List.mem_append.mp z with z | z
        · exact .inl z
        · have : x = c := by simpa using z
          exact .inr (by rw [this]; exact List.mem_cons_self)
      · exact .inr (List.mem_cons_of_mem _ z)
theorem pcs_bound (l : List Nat) : (∀ p ∈ pcs l, p.length ≤ l.length ∧ ∀ c ∈ p, c ∈ l) ∧ (pcs l).length ≤ l.length + 1 := by
  obtain ⟨h1, h2⟩ := spl_bound l []
  refine ⟨fun p hp => ?_, h2⟩
  obtain ⟨z1, z2⟩ := h1 p hp
  exact ⟨by simpa using z1, fun c hc => (z2 c hc).elim (fun z => by cases z) id⟩
theorem jn_spl : ∀ (a acc : List Nat), jn (TL.spl [32] 0 acc a) = acc ++ a := by
  intro a
  induction a with
  | nil =>
    intro acc
    rw [TL.spl_nil]
    simp [jn, TL.joinL]
  | cons c a ih =>
    intro acc
    by_cases h : c = 32
    · subst h
      rw [TL.spl_hit (by rw [pre32]; simp)]
      show jn (acc :: TL.spl [32] 0 [] a) = _
      have i2 := ih []
      cases e : TL.spl [32] 0 [] a with
      | nil =>
        have := congrArg List.length i2
        cases a with
        | nil => rw [TL.spl_nil] at e; cases e
        | cons x y =>
          rw [e] at this
          simp [jn, TL.joinL] at this
      | cons x y =>
        rw [e] at i2
        show acc ++ 32 :: jn (x :: y) = _
        rw [i2]
        rfl
    · rw [TL.spl_miss (by rw [pre32]; simp [h]), ih]
      simp
theorem jn_pcs (L : List Nat) : jn (pcs L) = L := jn_spl L []
/-- words of at most 42 signs -/
def sw (l : List Nat) : Prop := l.length ≤ 42 ∧ ∀ c ∈ l, c < 1114112
theorem pcs_words {ws : List (List Nat)} (h : ∀ l ∈ ws, sw l) (n : ws.length ≤ 14) : okT (jn ws) ∧ (pcs (jn ws)).length ≤ 900 ∧ ∀ p ∈ pcs (jn ws), okw p := by
  have lj := jn_len ws fun l m => Nat.le_trans (h l m).1 (by decide)
  by_cases e : ws = []
  · subst e
    have z : pcs (jn []) = [[]] := rfl
    refine ⟨⟨by simp [jn, TL.joinL], fun l m => ?_⟩, by rw [z]; decide, fun l m => ?_⟩
    all_goals
      rw [z] at m
      have : l = [] := by simpa using m
      subst this
      exact ⟨by decide, fun c hc => by cases hc⟩
  · have b : ∀ p ∈ pcs (jn ws), okw p := fun p m => by
      rw [pcs_jn ws e] at m
      obtain ⟨l, hl, hp⟩ := List.mem_flatMap.mp m
      obtain ⟨z1, z2⟩ := (pcs_bound l).1 p hp
      exact ⟨by have := (h l hl).1; omega, fun c hc => (h l hl).2 c (z2 c hc)⟩
    refine ⟨⟨by omega, b⟩, ?_, b⟩
    have key : ∀ us : List (List Nat), (∀ l ∈ us, sw l) → (us.flatMap pcs).length ≤ 43 * us.length := by
      intro us
      induction us with
      | nil => intro _; simp
      | cons a r ih =>
        intro hu
        have i1 := ih fun l m => hu l (List.mem_cons_of_mem _ m)
        have i2 := (pcs_bound a).2
        have i3 := (hu a List.mem_cons_self).1
        rw [List.flatMap_cons, List.length_append, List.length_cons]
        omega
    have := key ws h
    rw [pcs_jn ws e]
    omega
/-- a row of words that is read -/
structure Good (ps : List (List Nat)) (m : Nat) (lw : List Nat) : Prop where
  m1 : 1 ≤ m
  m5 : m ≤ 5
  fl : (firsts ps).length = m
  len : ps.length = m + 2
  mid : ps[m]? = some [62, 61]
  last : ps[m + 1]? = some lw
  cw : can lw = true
  lv : lastW ps = val lw
  all : (ps.take m).all can = true
  fv : firsts ps = (ps.take m).map val
theorem good_of {ps : List (List Nat)} (h : dueW ps = none) : ∃ m lw, Good ps m lw := by
  unfold dueW at h
  by_cases z0 : (firsts ps).length = 0
  · rw [if_pos z0] at h; cases h
  · rw [if_neg z0] at h
    by_cases z1 : ps[(firsts ps).length]? ≠ some [62, 61]
    · rw [if_pos z1] at h; cases h
    · rw [if_neg z1] at h
      by_cases z2 : (firsts (ps.drop ((firsts ps).length + 1))).length = 0
      · rw [if_pos z2] at h; cases h
      · rw [if_neg z2] at h
        by_cases z3 : (firsts ps).length + 2 < ps.length
        · rw [if_pos z3] at h; cases h
        · have z1 : ps[(firsts ps).length]? = some [62, 61] := Decidable.byContradiction z1
          have n5 := firsts_le ps
          have tw : firsts ps = (ps.take (firsts ps).length).map val ∧ (ps.take (firsts ps).length).all can = true := by
            have p : (ps.take 5).takeWhile can <+: ps := (List.takeWhile_prefix _).trans (List.take_prefix 5 ps)
            have e := List.prefix_iff_eq_take.mp p
            have l : ((ps.take 5).takeWhile can).length = (firsts ps).length := by unfold firsts; rw [List.length_map]
            rw [l] at e
            refine ⟨?_, ?_⟩
            · rw [← e]; rfl
            · rw [← e]; exact List.all_takeWhile
          cases e : ps[(firsts ps).length + 1]? with
          | none =>
            exact absurd (firsts_zero.mpr fun l hl => by rw [List.getElem?_drop] at hl; rw [show (firsts ps).length + 1 + 0 = (firsts ps).length + 1 from rfl, e] at hl; cases hl) z2
          | some lw =>
            have e0 : (ps.drop ((firsts ps).length + 1))[0]? = some lw := by rw [List.getElem?_drop]; exact e
            have c : Ev.can lw = true := by
              cases c : Ev.can lw with
              | true => rfl
              | false => exact absurd (firsts_zero.mpr fun l hl => by rw [e0] at hl; cases hl; exact c) z2
            have hlt : (firsts ps).length + 1 < ps.length := (List.getElem?_eq_some_iff.mp e).1
            have lv : lastW ps = val lw := by
              unfold lastW
              cases d : ps.drop ((firsts ps).length + 1) with
              | nil => rw [d] at e0; cases e0
              | cons x y =>
                rw [d] at e0
                have : x = lw := Option.some.inj e0
                subst this
                unfold firsts
                rw [List.take_succ_cons, List.takeWhile_cons, if_pos c]
                rfl
            exact ⟨_, lw, ⟨by omega, n5, rfl, by omega, z1, e, c, lv, tw.2, tw.1⟩⟩
theorem good_wT {ps : List (List Nat)} {m : Nat} {lw : List Nat} (g : Good ps m lw) : wT (firsts ps) (lastW ps) = ps := by
  unfold wT
  rw [g.fv, g.lv, txc_val g.cw, List.map_map]
  have e : (ps.take m).map (txc ∘ val) = ps.take m := by
    have key : ∀ us : List (List Nat), us.all can = true → us.map (txc ∘ val) = us := by
      intro us
      induction us with
      | nil => intro _; rfl
      | cons a r ih =>
        intro h
        rw [List.all_cons, Bool.and_eq_true] at h
        rw [List.map_cons, ih h.2]
        show txc (val a) :: r = a :: r
        rw [txc_val h.1]
    exact key _ g.all
  rw [e]
  have d1 : ps.drop m = [[62, 61], lw] := by
    have l1 : m < ps.length := by have := g.len; omega
    have l2 : m + 1 < ps.length := by have := g.len; omega
    rw [List.drop_eq_getElem_cons l1, List.drop_eq_getElem_cons l2, List.drop_of_length_le (by have := g.len; omega)]
    have a1 := g.mid
    have a2 := g.last
    rw [List.getElem?_eq_getElem l1] at a1
    rw [List.getElem?_eq_getElem l2] at a2
    rw [Option.some.inj a1, Option.some.inj a2]
  rw [← d1, List.take_append_drop]
theorem val_m {l : List Nat} (h : can l = true) (hl : l.length ≤ 63) : Mn (val l) := by
  have ha : allD (dg l) = true := by
    unfold can at h
    exact (Bool.and_eq_true _ _ ▸ h).1
  have h1 := val_lt (dg l) (allD_iff.mp ha).2
  have h2 : (10 : Nat) ^ (dg l).length ≤ 10 ^ 63 := Nat.pow_le_pow_right (by decide) (by have := dg_len l; omega)
  have h3 : (val l).natAbs = NumText.digitsVal (dg l) := by
    unfold val
    by_cases s : l.head? = some 45
    · rw [if_pos s]; omega
    · rw [if_neg s]; omega
  unfold Mn
  omega
end Ev
namespace Ev
open PySem L2 PySem.Spec PyProof.Rows
/-- the class of tests, with what its methods promise -/
structure TMeth (P : Program) (w : World) (K : PySem.W.Frag) (mg : Str → Option Value) (base : Heap) (C : Addr) : Prop where
  mak : TMk P w K mg base C
  eq : ∃ (f : Addr) (fd : FuncData), FnOk P w K mg base CX0 1 f fd ["self", "other"] (spTEq C) ∧ Binds K fd ["self", "other"] [] ∧ PySem.W.findIn K (.ref C) "__eq__" = some (some (.ref f)) ∧ PySem.W.isFn K (.ref f) = true
  ne : PySem.W.findIn K (.ref C) "__ne__" = some (some (.builtin "object.__ne__"))
  st : ∃ (f : Addr), FnR P w K mg base CX0 3 f (spTStr C) ∧ PySem.W.findIn K (.ref C) "__str__" = some (some (.ref f)) ∧ PySem.W.isFn K (.ref f) = true
theorem eqT_self (ps : List Int) (b : Int) : eqT ps b ps b = true := by simp [eqT]
theorem TestAt.but {C l x : Addr} {H H' : Hp} {ps : List Int} {b : Int} {xs : List V} (h : TestAt C H x ps b) (hl : H l = some (.lst xs)) (k : But l H H') : TestAt C H' x ps b := by
  obtain ⟨dx, t, h1, h2⟩ := h
  exact ⟨dx, t, k _ _ (ne_of h1 hl (by intro z; cases z)) h1, k _ _ (ne_of h2 hl (by intro z; cases z)) h2⟩
section
variable {K : PySem.W.Frag} {C : Addr} {H : Hp} {x : Addr} {ps : List Int} {b : Int} {E : XK} {neg : Bool} {Q : VK}
theorem own_test {z : Addr} {qs : List Int} {c : Int} (TC : TCls K C) (IT : InsT K C) (h : TestAt C H x ps b) (hz : TestAt C H z qs c) (k : Q (.bl (neg ^^ eqT ps b qs c)) H) : rOwnB K C (spTEq C) E neg (.ref x) (.ref z) H Q := by
  obtain ⟨dx, t, hx, ht⟩ := id h
  exact ⟨x, dx, _, _, rfl, hx, tyTest TC IT hz, nf_own, x, .ref z, ps, b, rfl, h, .inl ⟨z, qs, c, rfl, hz, _, rfl, k⟩⟩
/-- like tests -/
theorem own_like {z : Addr} {qs : List Int} {c : Int} (TC : TCls K C) (IT : InsT K C) (h : TestAt C H x ps b) (hz : TestAt C H z qs c) (e1 : ps = qs) (e2 : b = c) (k : Q (.bl (!neg)) H) : rOwnB K C (spTEq C) E neg (.ref x) (.ref z) H Q := by
  subst e1 e2
  refine own_test TC IT h hz ?_
  rw [eqT_self, Bool.xor_true]
  exact k
theorem own_str (h : TestAt C H x ps b) (n1 : 1 ≤ ps.length) (n5 : ps.length ≤ 5) (m : AllM ps) (mb : Mn b) (k : ∀ H', Same H H' → Q (.str (Sx (jn (wT ps b)))) H') : rStrO C (spTStr C) E [.ref x] H Q := by
  obtain ⟨dx, t, hx, ht⟩ := id h
  exact ⟨x, dx, _, rfl, hx, x, ps, b, rfl, h, n1, n5, m, mb, fun H' s => ⟨⟨_, rfl⟩, k H' s⟩⟩
end
end Ev
namespace Ev
open PySem L2 PySem.Spec PyProof.Rows
def spRight : Sp := fun vs H Q _ => ∃ (a : Addr) (ws : List (List Nat)), vs = [.ref a] ∧ H a = some (.lst (ws.map wv)) ∧ (∀ l ∈ ws, sw l) ∧ ws.length ≤ 14 ∧ ∀ H', Same H H' → Q (.bl true) H'
theorem can_allD {l : List Nat} (h : can l = true) : allD (dg l) = true := by
  unfold can at h
  exact (Bool.and_eq_true _ _ ▸ h).1
section
variable {P : Program} {w : World} {K : PySem.W.Frag} {mg : Str → Option Value} {base : Heap}
theorem scRight : FnScope ["_law_words", "_law_text_so", "_law_parted", "_law_wrong", "_law_heard_here", "_law_many", "_law_due_here", "_law_word"] ["_law_words"] (defScope sRight) := ⟨rfl, rfl, rfl, by decide +kernel, rfl, by decide +kernel, by decide +kernel⟩
theorem ok_right {f C : Addr} {fd : FuncData} (F : Fun K "_law_read_right" "_law_read_right" sRight f fd) (T : Blt mg) (mstr : mg "str" = none) (ml : mg "list" = none) (TM : TMeth P w K mg base C) (D1 : Df P w K mg base 2 "_law_due" ["_law_words"] spDue) (D2 : Df P w K mg base 7 "_law_heard" ["_law_value_so"] (spHeard K C)) : FnOk P w K mg base CX0 8 f fd ["_law_words"] spRight := by
  obtain ⟨f1, fd1, G1, g1, k1, b1⟩ := D1.ex
  obtain ⟨f2, fd2, G2, g2, k2, b2⟩ := D2.ex
  obtain ⟨TK, ⟨fe, fde, GE, bE, heq, hef⟩, hne, ⟨fs, RS, hs, hsf⟩⟩ := TM
  obtain ⟨TC, IT, gC, ⟨fm, fdm, MM, GM, bM⟩⟩ := TK
  have RE := fnr_of GE bE
  refine F.ok scRight (fun vs H Q E h => ?_) (fun cdv A outer s H vs Q E hr h => ?_)
  · obtain ⟨a, ws, rfl, _⟩ := h
    rfl
  · obtain ⟨a, ws, rfl, ha, hw, h14, kk⟩ := h
    have hr1 : Room 1 _ := hr.mono (by decide)
    have hr2 : Room 2 _ := hr.mono (by decide)
    have hr5 : Room 5 _ := hr.mono (by decide)
    refine ⟨_, pss_cons (ps_set (i := 1) scRight.nd rfl (.inl rfl) (pe_join pe_str (pv 0)))
      (pss_cons (ps_set (i := 2) scRight.nd rfl (.inl rfl) (pe_split (pv 1) pe_str))
      (pss_cons (ps_par (i := 3) (j := 4) rfl scRight.nd rfl rfl (by decide) rfl rfl (pa_cons (pe_call G1 hr2 (by rfl) g1 k1 b1 .nil pass0 (pa_cons (pv 2) pa_nil)) (pa_cons (pe_call G2 hr (by rfl) g2 k2 b2 .nil pass0 (pa_cons (pv 1) pa_nil)) pa_nil)) (by rfl))
      (pss_cons (ps_if (pt_cmpR op_notN (pv 3) pe_non (nomark _)) (pss_one (ps_ret (pe_cmpR (op_eqD (Room.units hr)) (pv 4) (pe_tup (pa_cons pe_int (pa_cons (pv 3) pa_nil))) (nomark _)))) pss_nil)
      (pss_cons (ps_set (i := 5) scRight.nd rfl (.inl rfl) (pe_op op_sub (pe_callB call_len_seq (by rfl) T.len PySem.boot_len (pa_cons (pv 2) pa_nil)) pe_int))
      (pss_cons (ps_set (i := 6) scRight.nd rfl (.inl rfl) (pe_make MM GM hr5 (by rfl) gC bM .nil pass0 (pa_cons (pe_lc (own := [("_law_word", 7)]) (g := gName 7) (tt := tYes) (te := tCB (fun xs H Q => ∃ a n, xs = [.str a] ∧ PySem.intText? a = some n ∧ a.length ≤ 640 ∧ Q (.int n) H) (tCons (tVar 7) tNil)) (by rfl) scRight.nd (pi_list (pe_slice sl_list (pv 2) po_none (po_some (pv 5))))
          (blkOk_by (own := [("_law_word", 7)]) (N := ["_law_words", "_law_text_so", "_law_parted", "_law_wrong", "_law_heard_here", "_law_many", "_law_due_here", "_law_word"]) (sc := defScope sRight) (by decide +kernel))
          (fun _ _ _ _ _ => pg_name (i := 7) scRight.nd rfl (.inl rfl)) (fun _ _ _ _ _ => pts_nil) (fun _ _ _ _ _ => pe_callTy call_int_str (by rfl) T.int (by decide +kernel) (pa_cons (pv 7) pa_nil)))
          (pa_cons (pe_callTy call_int_str (by rfl) T.int (by decide +kernel) (pa_cons (pe_ix ix_list (pv 2) (pe_op op_add (pv 5) pe_int) (fun _ _ => rfl)) pa_nil)) pa_nil))))
      (pss_one (ps_ret (pe_and (pe_callB call_isi (by rfl) T.isi (by decide +kernel) (pa_cons (pv 4) (pa_cons (pe_bltn (v := .ty "list") (by rfl) ml (by decide +kernel) rfl) pa_nil)))
        (pe_and (pe_cmpR (op_eqO (E := E0) heq hef RE hr1 pass0) (pe_ix ix_list (pv 4) pe_int (fun _ _ => rfl)) (pv 6) (nomark _))
          (pe_one (pe_cmpR op_eq (pe_callTy (call_strO (E := E0) hs hsf RS hr5 pass0) (by rfl) mstr (by decide +kernel) (pa_cons (pe_ix ix_list (pv 4) pe_int (fun _ _ => rfl)) pa_nil)) (pv 1) (nomark _)))))))))))), ?_⟩
    obtain ⟨ot, n9, ok9⟩ := pcs_words hw h14
    refine ⟨⟨_, rfl⟩, _, rfl, _, a, ws.map SX.S, rfl, rfl, .inl (SqL.of (by rw [List.map_map]; exact ha)), ?_, ?_⟩
    · rw [SX.lens, List.length_map, show (Str.ofString " ").length = 1 from by decide +kernel]
      have key : ∀ us : List (List Nat), (∀ l ∈ us, sw l) → (us.map (·.length)).sum ≤ us.length * 42 := by
        intro us
        induction us with
        | nil => intro _; simp
        | cons x r ih =>
          intro h
          have i1 := ih fun l m => h l (List.mem_cons_of_mem _ m)
          have i2 := (h x List.mem_cons_self).1
          simp only [List.map_cons, List.sum_cons, List.length_cons] at i1 ⊢
          omega
      have := key ws hw
      omega
    have ej : Txt.join (Str.ofString " ") (ws.map SX.S) = Sx (jn ws) := SX.join_S [32] ws
    rw [ej]
    have eL := jn_pcs (jn ws)
    generalize jn ws = L at ot n9 ok9 eL ⊢
    refine ⟨_, rfl, ⟨_, rfl⟩, _, _, rfl, rfl, by decide +kernel, ?_, fun W nW => ?_⟩
    · rw [SX.S_len, sizeLine_eq]
      have := ot.1
      omega
    have eS : (Txt.split (Sx L) (Str.ofString " ")).map V.str = (pcs L).map wv := by
      have e := SX.split_S (a := L) (b := [32]) (by decide) (by decide)
      show (Txt.split (SX.S L) (SX.S [32])).map V.str = _
      rw [e, List.map_map]
      rfl
    rw [eS]
    have hW : upd H W (.lst ((pcs L).map wv)) W = some (.lst ((pcs L).map wv)) := upd_same
    have sW : Same H (upd H W (.lst ((pcs L).map wv))) := same_new nW
    generalize upd H W (.lst ((pcs L).map wv)) = H1 at hW sW ⊢
    refine ⟨_, rfl, W, pcs L, rfl, hW, ok9, n9, fun H2 s2 => ⟨_, rfl, _, rfl, .inr ⟨L, rfl, ot, ?_⟩⟩⟩
    have sB : Same H H2 := sW.trans s2
    have hW2 := s2 _ _ hW
    clear ot
    unfold dueV
    generalize pcs L = ps at hW2 ok9 n9 eL ⊢
    cases e : dueW ps with
    | some k =>
      intro r G sG nr er
      refine ⟨_, _, rfl, _, rfl, rfl, _, rfl, iteT ⟨_, rfl, _, rfl, (by show 2 ≤ sizeLine; decide), fun Z nZ => ?_⟩⟩
      refine ⟨_, _, .tup (SqT.of (same_new nZ _ _ er)) (dpInts [0, (k : Int)]), .tup (SqT.of upd_same) (dpInts [0, (k : Int)]), sh_intsT _, sh_intsT _, ?_⟩
      rw [eqv_tupI, decide_eq_true rfl]
      exact kk _ (sB.trans (sG.trans (same_new nZ)))
    | none =>
      intro z r G sG tz er
      obtain ⟨m, lw, g⟩ := good_of e
      have hG := sG _ _ hW2
      have o63 : ∀ l ∈ ps, l.length ≤ 63 := fun l hl => (ok9 l hl).1
      have hlw : lw ∈ ps := List.mem_of_getElem? g.last
      have alw : allD (dg lw) = true := can_allD g.cw
      refine ⟨_, _, rfl, _, rfl, rfl, _, rfl, iteF ?_⟩
      refine ⟨_, rfl, W, _, rfl, .inl (SqL.of hG), _, _, rfl, rfl, ?_⟩
      rw [List.length_map, g.len]
      show gName 5 (.int (((m + 2 : Nat) : Int) - 2)) _ G _
      rw [show ((m + 2 : Nat) : Int) - 2 = (m : Int) from by omega]
      refine ⟨_, rfl, _, rfl, _, rfl, W, _, rfl, SqL.of hG, fun S nS => ?_⟩
      rw [cut_to, ← List.map_take]
      have hS : upd G S (.lst ((ps.take m).map wv)) S = some (.lst ((ps.take m).map wv)) := upd_same
      have sS : Same G (upd G S (.lst ((ps.take m).map wv))) := same_new nS
      generalize upd G S (.lst ((ps.take m).map wv)) = H3 at hS sS ⊢
      refine ⟨S, rfl, ⟨_, SqL.of hS⟩, fun D nD => ?_⟩
      have lm : (ps.take m).length = m := by rw [List.length_take, g.len]; omega
      have SD := ne_of_none hS nD
      have wk : Walk (Itl K S) m (fun H => SqL K H S ((ps.take m).map wv)) (YAt ((ps.take m).map wv)) := by
        have w := walk_list (K := K) (a := S) (xs := (ps.take m).map wv)
        rw [List.length_map, lm] at w
        exact w
      refine lc_pure (n := m) wk (firsts ps) g.fl (by have := g.m5; omega) (fun H' h => SqL.of (h _ _ SD hS)) (fun i v H4 H' x hi hx bt _ y R Wk k => ?_) (fun H' bt hD => ?_)
      · obtain ⟨rfl, hv⟩ := y
        rw [List.getElem?_map] at hv
        obtain ⟨l, hl, rfl⟩ := Option.map_eq_some_iff.mp hv
        have mem := List.mem_of_getElem? hl
        have cl := List.all_eq_true.mp g.all l mem
        have e2 : x = val l := by
          rw [g.fv, List.getElem?_map, hl] at hx
          exact (Option.some.inj hx).symm
        subst e2
        have ll := o63 _ (List.mem_of_mem_take mem)
        exact ⟨rfl, _, rfl, _, _, rfl, intText_any (can_allD cl) ll, (by rw [SX.S_len]; omega), k _ (Same.refl _)⟩
      · have s3 : Same H3 H' := fun c o e => bt c o (ne_of_none e nD) e
        have sA : Same G H' := sS.trans s3
        refine ⟨_, rfl, _, rfl, _, _, rfl, rfl, W, _, _, _, rfl, rfl, SqL.of (sA _ _ hG), atI_nat (j := m + 1) (by rw [List.getElem?_map, g.last]; rfl), _, _, rfl, intText_any alw (o63 _ hlw), (by rw [SX.S_len]; have := o63 _ hlw; omega), ?_⟩
        refine mk_of (.inl hD) (by rw [g.fl]; exact g.m1) (by rw [g.fl]; exact g.m5) fun y H4 s4 ty => ?_
        have sC : Same G H4 := sA.trans s4
        have er4 := sC _ _ er
        have tz4 := tz.keep sC
        refine ⟨_, rfl, _, _, _, _, true, rfl, .ty _, .base (.lst er4), kit_ty (by decide +kernel), true, rfl, iteT ?_⟩
        refine ⟨_, rfl, r, _, 0, _, rfl, rfl, SqL.of er4, atI_nat (j := 0) rfl, _, rfl, own_like TC IT tz4 ty rfl g.lv ⟨true, rfl, iteT ?_⟩⟩
        have am : AllM (firsts ps) := by
          intro n hn
          rw [g.fv] at hn
          obtain ⟨l, hl, rfl⟩ := List.mem_map.mp hn
          exact val_m (List.all_eq_true.mp g.all l hl) (o63 _ (List.mem_of_mem_take hl))
        refine ⟨_, rfl, r, _, 0, _, rfl, rfl, SqL.of er4, atI_nat (j := 0) rfl, own_str tz4 (by rw [g.fl]; exact g.m1) (by rw [g.fl]; exact g.m5) am (by rw [g.lv]; exact val_m g.cw (o63 _ hlw)) fun H5 s5 => ⟨_, rfl, rfl, ?_⟩⟩
        rw [good_wT g, eL, decide_eq_true rfl]
        exact kk _ (sB.trans (sG.trans (sC.trans s5)))
end
end Ev
namespace Ev
open PySem L2 PySem.Spec PyProof.Rows
def spBent : Sp := fun vs H Q _ => ∃ (p a L : Addr) (ws : List (List Nat)) (n : Nat) (B : Int), vs = [.ref p, .ref a] ∧ H a = some (.lst (ws.map wv)) ∧ (∀ l ∈ ws, sw l) ∧ ws.length ≤ n ∧ n ≤ 13 ∧ a ≠ p ∧ B ≤ 900000 ∧ Pen L H p B ∧
  ∀ (r : Addr) (us : List (List Nat)) (H' : Hp), But p H H' → Pen L H' p (B + 3) → H' r = some (.lst (us.map wv)) → r ≠ p → (∀ l ∈ us, sw l) → us.length ≤ n + 1 → Q (.ref r) H'
/-- the words that are put in -/
def someW : List (List Nat) := [[], [62, 61], [62], [61], [48], [45, 48], [48, 48], [45, 49], [43, 49], [49, 46], [120], [45, 45, 49], [45], [48, 48, 55], [49, 48], [49, 10], [49, 32, 50], [49, 95, 48]]
theorem someW_sw : ∀ l ∈ someW, sw l := by
  unfold sw
  decide
theorem cut_wto (ws : List (List Nat)) (j : Nat) : cutV (ws.map wv) none (some (j : Int)) = (ws.take j).map wv := by rw [cut_to, List.map_take]
theorem cut_wfrom (ws : List (List Nat)) (j : Nat) : cutV (ws.map wv) (some (j : Int)) none = (ws.drop j).map wv := by rw [cut_from, List.map_drop]
theorem cut_wfrom1 (ws : List (List Nat)) (j : Nat) : cutV (ws.map wv) (some ((j : Int) + 1)) none = (ws.drop (j + 1)).map wv := cut_wfrom ws (j + 1)
theorem cut_wfrom2 (ws : List (List Nat)) (j : Nat) : cutV (ws.map wv) (some ((j : Int) + 2)) none = (ws.drop (j + 2)).map wv := cut_wfrom ws (j + 2)
theorem cut_wmid1 (ws : List (List Nat)) (j : Nat) : cutV (ws.map wv) (some (j : Int)) (some ((j : Int) + 1)) = ((ws.drop j).take 1).map wv := by
  have e := cut_mid (ws.map wv) j (j + 1) (by omega)
  rw [← List.map_drop, ← List.map_take, show j + 1 - j = 1 from by omega] at e
  exact e
theorem cut_wmid2 (ws : List (List Nat)) (j : Nat) : cutV (ws.map wv) (some (j : Int)) (some ((j : Int) + 2)) = ((ws.drop j).take 2).map wv := by
  have e := cut_mid (ws.map wv) j (j + 2) (by omega)
  rw [← List.map_drop, ← List.map_take, show j + 2 - j = 2 from by omega] at e
  exact e
theorem le_size {n : Nat} (h : n ≤ 1000) : n ≤ sizeLine := Nat.le_trans h (by decide)
section
variable {P : Program} {w : World} {K : PySem.W.Frag} {mg : Str → Option Value} {base : Heap}
theorem scBent : FnScope ["_law_pen_here", "_law_words", "_law_some", "_law_way", "_law_at"] ["_law_pen_here", "_law_words"] (defScope sBent) := ⟨rfl, rfl, rfl, by decide +kernel, rfl, by decide +kernel, by decide +kernel⟩
theorem ok_bent {f : Addr} {fd : FuncData} (F : Fun K "_law_bent" "_law_bent" sBent f fd) (T : Blt mg) (D1 : Df P w K mg base 1 "_law_draw" ["_law_pen_here", "_law_top_so"] spDraw) (D2 : Df P w K mg base 2 "_law_pick" ["_law_pen_here", "_law_some"] spPick) : FnOk P w K mg base CX0 3 f fd ["_law_pen_here", "_law_words"] spBent := by
  obtain ⟨f1, fd1, G1, g1, k1, b1⟩ := D1.ex
  obtain ⟨f2, fd2, G2, g2, k2, b2⟩ := D2.ex
  refine F.ok scBent (fun vs H Q E h => ?_) (fun cdv A outer s H vs Q E hr h => ?_)
  · obtain ⟨p, a, L, ws, n, B, rfl, _⟩ := h
    rfl
  · obtain ⟨p, a, L, ws, n, B, rfl, ha, hw, hn, n13, hap, hB, hp, kk⟩ := h
    have hr1 : Room 1 _ := hr.mono (by decide)
    refine ⟨_, pss_cons (ps_set (i := 2) scBent.nd rfl (.inl rfl) (pe_lst (pa_cons pe_str (pa_cons pe_str (pa_cons pe_str (pa_cons pe_str (pa_cons pe_str (pa_cons pe_str (pa_cons pe_str (pa_cons pe_str (pa_cons pe_str (pa_cons pe_str (pa_cons pe_str (pa_cons pe_str (pa_cons pe_str (pa_cons pe_str (pa_cons pe_str (pa_cons pe_str (pa_cons pe_str (pa_cons pe_str pa_nil))))))))))))))))))))
      (pss_cons (ps_par (i := 3) (j := 4) rfl scBent.nd rfl rfl (by decide) rfl rfl (pa_cons (pe_call G1 hr1 (by rfl) g1 k1 b1 .nil pass0 (pa_cons (pv 0) (pa_cons pe_int pa_nil))) (pa_cons (pe_call G1 hr1 (by rfl) g1 k1 b1 .nil pass0 (pa_cons (pv 0) (pa_cons (pe_op op_add (pe_callB call_len_seq (by rfl) T.len PySem.boot_len (pa_cons (pv 1) pa_nil)) pe_int) pa_nil))) pa_nil)) (by rfl))
      (pss_cons (ps_if (pt_cmpR op_eq (pv 3) pe_int (nomark _)) (pss_one (ps_ret (pe_op op_cat (pe_slice sl_list (pv 1) po_none (po_some (pv 4))) (pe_slice sl_list (pv 1) (po_some (pe_op op_add (pv 4) pe_int)) po_none)))) pss_nil)
      (pss_cons (ps_if (pt_cmpR op_eq (pv 3) pe_int (nomark _)) (pss_one (ps_ret (pe_op op_cat (pe_op op_cat (pe_slice sl_list (pv 1) po_none (po_some (pv 4))) (pe_lst (pa_cons (pe_call G2 hr (by rfl) g2 k2 b2 .nil pass0 (pa_cons (pv 0) (pa_cons (pv 2) pa_nil))) pa_nil))) (pe_slice sl_list (pv 1) (po_some (pv 4)) po_none)))) pss_nil)
      (pss_cons (ps_if (pt_cmpR op_eq (pv 3) pe_int (nomark _)) (pss_one (ps_ret (pe_op op_cat (pe_op op_cat (pe_slice sl_list (pv 1) po_none (po_some (pv 4))) (pe_lst (pa_cons (pe_call G2 hr (by rfl) g2 k2 b2 .nil pass0 (pa_cons (pv 0) (pa_cons (pv 2) pa_nil))) pa_nil))) (pe_slice sl_list (pv 1) (po_some (pe_op op_add (pv 4) pe_int)) po_none)))) pss_nil)
      (pss_cons (ps_if (pt_cmpR op_eq (pv 3) pe_int (nomark _)) (pss_one (ps_ret (pe_op op_cat (pe_op op_cat (pe_slice sl_list (pv 1) po_none (po_some (pv 4))) (pe_slice sl_list (pv 1) (po_some (pv 4)) (po_some (pe_op op_add (pv 4) pe_int)))) (pe_slice sl_list (pv 1) (po_some (pv 4)) po_none)))) pss_nil)
      (pss_one (ps_ret (pe_op op_cat (pe_op op_cat (pe_slice sl_list (pv 1) po_none (po_some (pv 4))) (pe_revL (pe_slice sl_list (pv 1) (po_some (pv 4)) (po_some (pe_op op_add (pv 4) pe_int))))) (pe_slice sl_list (pv 1) (po_some (pe_op op_add (pv 4) pe_int)) po_none))))))))), ?_⟩
    refine ⟨(by show 18 ≤ sizeLine; decide), fun l nl => ?_⟩
    have el : [V.str (Str.ofString ""), V.str (Str.ofString ">="), V.str (Str.ofString ">"), V.str (Str.ofString "="), V.str (Str.ofString "0"), V.str (Str.ofString "-0"), V.str (Str.ofString "00"), V.str (Str.ofString "-1"), V.str (Str.ofString "+1"), V.str (Str.ofString "1."), V.str (Str.ofString "x"), V.str (Str.ofString "--1"), V.str (Str.ofString "-"), V.str (Str.ofString "007"), V.str (Str.ofString "10"), V.str (Str.ofString "1\n"), V.str (Str.ofString "1 2"), V.str (Str.ofString "1_0")] = someW.map wv := by rfl
    rw [el]
    have lp : l ≠ p := hp.ne nl
    have hl1 : upd H l (.lst (someW.map wv)) l = some (.lst (someW.map wv)) := upd_same
    have s1 : Same H (upd H l (.lst (someW.map wv))) := same_new nl
    generalize upd H l (.lst (someW.map wv)) = H1 at hl1 s1 ⊢
    have ha1 := s1 _ _ ha
    refine ⟨_, rfl, p, L, _, B, rfl, by decide, by decide, by omega, hp.keep s1, fun d1 H2 t2 p2 _ _ => ?_⟩
    have ha2 := t2 _ _ hap ha1
    refine ⟨_, rfl, _, rfl, a, _, rfl, .inl (SqL.of ha2), _, _, rfl, rfl, p, L, _, _, rfl, by omega, by rw [List.length_map]; omega, by omega, p2, fun d2 H3 t3 p3 e0 e1 => ?_⟩
    have ha3 := t3 _ _ hap ha2
    have hl3 := t3 _ _ lp (t2 _ _ lp hl1)
    have bt3 : But p H H3 := (Same.but s1).trans (t2.trans t3)
    rw [List.length_map] at e1
    obtain ⟨j, rfl⟩ := Int.eq_ofNat_of_zero_le e0
    have ej : j ≤ ws.length := by omega
    clear e0 e1
    refine ⟨_, _, rfl, _, rfl, rfl, _, rfl, ite2 (fun _ => ?_) (fun _ => ?_)⟩
    · refine ⟨_, rfl, _, rfl, _, rfl, a, _, rfl, SqL.of ha3, fun S nS => ?_⟩
      rw [cut_wto]
      have hS : upd H3 S (.lst ((ws.take j).map wv)) S = some (.lst ((ws.take j).map wv)) := upd_same
      have sS : Same H3 (upd H3 S (.lst ((ws.take j).map wv))) := same_new nS
      generalize upd H3 S (.lst ((ws.take j).map wv)) = H4 at hS sS ⊢
      have ha4 := sS _ _ ha3
      refine ⟨_, rfl, _, rfl, _, _, rfl, rfl, _, rfl, a, _, rfl, SqL.of ha4, fun U nU => ?_⟩
      rw [cut_wfrom1]
      have hU : upd H4 U (.lst ((ws.drop (j + 1)).map wv)) U = some (.lst ((ws.drop (j + 1)).map wv)) := upd_same
      have sU : Same H4 (upd H4 U (.lst ((ws.drop (j + 1)).map wv))) := same_new nU
      generalize upd H4 U (.lst ((ws.drop (j + 1)).map wv)) = H5 at hU sU ⊢
      refine ⟨S, U, _, _, rfl, rfl, sU _ _ hS, hU, (le_size (by simp only [List.length_map, List.length_take, List.length_drop, List.length_append, List.length_reverse, List.length_cons, List.length_nil]; omega)), fun R nR => ?_⟩
      have sA : Same H3 H5 := sS.trans sU
      refine kk R (ws.take j ++ ws.drop (j + 1)) _ ((bt3.trans (Same.but sA)).trans (Same.but (same_new nR))) (((p3.keep sA).keep (same_new nR)).mono (by omega)) (by rw [List.map_append]; exact upd_same) ((p3.keep sA).ne nR) (fun x m => ?_) (by simp only [List.length_take, List.length_drop, List.length_append, List.length_reverse, List.length_cons, List.length_nil]; omega)
      rcases List.mem_append.mp m with m | m
      · exact hw x (List.mem_of_mem_take m)
      · exact hw x (List.mem_of_mem_drop m)
    refine ⟨_, rfl, rfl, _, rfl, ite2 (fun _ => ?_) (fun _ => ?_)⟩
    · refine ⟨_, rfl, _, rfl, _, rfl, a, _, rfl, SqL.of ha3, fun S nS => ?_⟩
      rw [cut_wto]
      have hS : upd H3 S (.lst ((ws.take j).map wv)) S = some (.lst ((ws.take j).map wv)) := upd_same
      have sS : Same H3 (upd H3 S (.lst ((ws.take j).map wv))) := same_new nS
      generalize upd H3 S (.lst ((ws.take j).map wv)) = H4 at hS sS ⊢
      refine ⟨_, rfl, _, rfl, p, l, L, _, _, rfl, sS _ _ hl3, lp, (by show 1 ≤ 18; decide), (by show 18 ≤ 1000; decide), by omega, p3.keep sS, fun dv H5 mem t5 p5 => ⟨(by show 1 ≤ sizeLine; decide), fun Y nY => ?_⟩⟩
      obtain ⟨x, hx, rfl⟩ := List.mem_map.mp mem
      have Sp : S ≠ p := p3.ne nS
      have hY : upd H5 Y (.lst [wv x]) Y = some (.lst [wv x]) := upd_same
      have sY : Same H5 (upd H5 Y (.lst [wv x])) := same_new nY
      generalize upd H5 Y (.lst [wv x]) = H6 at hY sY ⊢
      have hS6 := sY _ _ (t5 _ _ Sp hS)
      have ha6 := sY _ _ (t5 _ _ hap (sS _ _ ha3))
      have p6 := p5.keep sY
      have bt6 : But p H H6 := bt3.trans ((Same.but sS).trans (t5.trans (Same.but sY)))
      refine ⟨S, Y, _, _, rfl, rfl, hS6, hY, (le_size (by simp only [List.length_map, List.length_take, List.length_drop, List.length_append, List.length_reverse, List.length_cons, List.length_nil]; omega)), fun R1 nR1 => ?_⟩
      have hR1 : upd H6 R1 (.lst ((ws.take j).map wv ++ [wv x])) R1 = some (.lst ((ws.take j).map wv ++ [wv x])) := upd_same
      have sR1 : Same H6 (upd H6 R1 (.lst ((ws.take j).map wv ++ [wv x]))) := same_new nR1
      generalize upd H6 R1 (.lst ((ws.take j).map wv ++ [wv x])) = H7 at hR1 sR1 ⊢
      have ha7 := sR1 _ _ ha6
      refine ⟨_, rfl, _, rfl, _, rfl, a, _, rfl, SqL.of ha7, fun U nU => ?_⟩
      rw [cut_wfrom]
      have hU : upd H7 U (.lst ((ws.drop j).map wv)) U = some (.lst ((ws.drop j).map wv)) := upd_same
      have sU : Same H7 (upd H7 U (.lst ((ws.drop j).map wv))) := same_new nU
      generalize upd H7 U (.lst ((ws.drop j).map wv)) = H8 at hU sU ⊢
      refine ⟨R1, U, _, _, rfl, rfl, sU _ _ hR1, hU, (le_size (by simp only [List.length_map, List.length_take, List.length_drop, List.length_append, List.length_reverse, List.length_cons, List.length_nil]; omega)), fun R nR => ?_⟩
      have sA : Same H6 H8 := sR1.trans sU
      refine kk R (ws.take j ++ [x] ++ ws.drop j) _ ((bt6.trans (Same.but sA)).trans (Same.but (same_new nR))) (((p6.keep sA).keep (same_new nR)).mono (by omega)) (by rw [List.map_append, List.map_append]; exact upd_same) ((p6.keep sA).ne nR) (fun y m => ?_) (by simp only [List.length_take, List.length_drop, List.length_append, List.length_reverse, List.length_cons, List.length_nil]; omega)
      rcases List.mem_append.mp m with m | m
      · rcases List.mem_append.mp m with m | m
        · exact hw y (List.mem_of_mem_take m)
        · have : y = x := by simpa using m
          rw [this]
          exact someW_sw x hx
      · exact hw y (List.mem_of_mem_drop m)
    refine ⟨_, rfl, rfl, _, rfl, ite2 (fun _ => ?_) (fun _ => ?_)⟩
    · refine ⟨_, rfl, _, rfl, _, rfl, a, _, rfl, SqL.of ha3, fun S nS => ?_⟩
      rw [cut_wto]
      have hS : upd H3 S (.lst ((ws.take j).map wv)) S = some (.lst ((ws.take j).map wv)) := upd_same
      have sS : Same H3 (upd H3 S (.lst ((ws.take j).map wv))) := same_new nS
      generalize upd H3 S (.lst ((ws.take j).map wv)) = H4 at hS sS ⊢
      refine ⟨_, rfl, _, rfl, p, l, L, _, _, rfl, sS _ _ hl3, lp, (by show 1 ≤ 18; decide), (by show 18 ≤ 1000; decide), by omega, p3.keep sS, fun dv H5 mem t5 p5 => ⟨(by show 1 ≤ sizeLine; decide), fun Y nY => ?_⟩⟩
      obtain ⟨x, hx, rfl⟩ := List.mem_map.mp mem
      have Sp : S ≠ p := p3.ne nS
      have hY : upd H5 Y (.lst [wv x]) Y = some (.lst [wv x]) := upd_same
      have sY : Same H5 (upd H5 Y (.lst [wv x])) := same_new nY
      generalize upd H5 Y (.lst [wv x]) = H6 at hY sY ⊢
      have hS6 := sY _ _ (t5 _ _ Sp hS)
      have ha6 := sY _ _ (t5 _ _ hap (sS _ _ ha3))
      have p6 := p5.keep sY
      have bt6 : But p H H6 := bt3.trans ((Same.but sS).trans (t5.trans (Same.but sY)))
      refine ⟨S, Y, _, _, rfl, rfl, hS6, hY, (le_size (by simp only [List.length_map, List.length_take, List.length_drop, List.length_append, List.length_reverse, List.length_cons, List.length_nil]; omega)), fun R1 nR1 => ?_⟩
      have hR1 : upd H6 R1 (.lst ((ws.take j).map wv ++ [wv x])) R1 = some (.lst ((ws.take j).map wv ++ [wv x])) := upd_same
      have sR1 : Same H6 (upd H6 R1 (.lst ((ws.take j).map wv ++ [wv x]))) := same_new nR1
      generalize upd H6 R1 (.lst ((ws.take j).map wv ++ [wv x])) = H7 at hR1 sR1 ⊢
      have ha7 := sR1 _ _ ha6
      refine ⟨_, rfl, _, rfl, _, _, rfl, rfl, _, rfl, a, _, rfl, SqL.of ha7, fun U nU => ?_⟩
      rw [cut_wfrom1]
      have hU : upd H7 U (.lst ((ws.drop (j + 1)).map wv)) U = some (.lst ((ws.drop (j + 1)).map wv)) := upd_same
      have sU : Same H7 (upd H7 U (.lst ((ws.drop (j + 1)).map wv))) := same_new nU
      generalize upd H7 U (.lst ((ws.drop (j + 1)).map wv)) = H8 at hU sU ⊢
      refine ⟨R1, U, _, _, rfl, rfl, sU _ _ hR1, hU, (le_size (by simp only [List.length_map, List.length_take, List.length_drop, List.length_append, List.length_reverse, List.length_cons, List.length_nil]; omega)), fun R nR => ?_⟩
      have sA : Same H6 H8 := sR1.trans sU
      refine kk R (ws.take j ++ [x] ++ ws.drop (j + 1)) _ ((bt6.trans (Same.but sA)).trans (Same.but (same_new nR))) (((p6.keep sA).keep (same_new nR)).mono (by omega)) (by rw [List.map_append, List.map_append]; exact upd_same) ((p6.keep sA).ne nR) (fun y m => ?_) (by simp only [List.length_take, List.length_drop, List.length_append, List.length_reverse, List.length_cons, List.length_nil]; omega)
      rcases List.mem_append.mp m with m | m
      · rcases List.mem_append.mp m with m | m
        · exact hw y (List.mem_of_mem_take m)
        · have : y = x := by simpa using m
          rw [this]
          exact someW_sw x hx
      · exact hw y (List.mem_of_mem_drop m)
    refine ⟨_, rfl, rfl, _, rfl, ite2 (fun _ => ?_) (fun _ => ?_)⟩
    · refine ⟨_, rfl, _, rfl, _, rfl, a, _, rfl, SqL.of ha3, fun S nS => ?_⟩
      rw [cut_wto]
      have hS : upd H3 S (.lst ((ws.take j).map wv)) S = some (.lst ((ws.take j).map wv)) := upd_same
      have sS : Same H3 (upd H3 S (.lst ((ws.take j).map wv))) := same_new nS
      generalize upd H3 S (.lst ((ws.take j).map wv)) = H4 at hS sS ⊢
      have ha4 := sS _ _ ha3
      refine ⟨_, rfl, _, rfl, _, rfl, _, rfl, _, _, rfl, rfl, _, rfl, a, _, rfl, SqL.of ha4, fun Y nY => ?_⟩
      rw [cut_wmid1]
      have hY : upd H4 Y (.lst (((ws.drop j).take 1).map wv)) Y = some (.lst (((ws.drop j).take 1).map wv)) := upd_same
      have sY : Same H4 (upd H4 Y (.lst (((ws.drop j).take 1).map wv))) := same_new nY
      generalize upd H4 Y (.lst (((ws.drop j).take 1).map wv)) = H5 at hY sY ⊢
      refine ⟨S, Y, _, _, rfl, rfl, sY _ _ hS, hY, (le_size (by simp only [List.length_map, List.length_take, List.length_drop, List.length_append, List.length_reverse, List.length_cons, List.length_nil]; omega)), fun R1 nR1 => ?_⟩
      have hR1 : upd H5 R1 (.lst ((ws.take j).map wv ++ ((ws.drop j).take 1).map wv)) R1 = some (.lst ((ws.take j).map wv ++ ((ws.drop j).take 1).map wv)) := upd_same
      have sR1 : Same H5 (upd H5 R1 (.lst ((ws.take j).map wv ++ ((ws.drop j).take 1).map wv))) := same_new nR1
      generalize upd H5 R1 (.lst ((ws.take j).map wv ++ ((ws.drop j).take 1).map wv)) = H7 at hR1 sR1 ⊢
      have ha7 := sR1 _ _ (sY _ _ ha4)
      refine ⟨_, rfl, _, rfl, _, rfl, a, _, rfl, SqL.of ha7, fun U nU => ?_⟩
      rw [cut_wfrom]
      have hU : upd H7 U (.lst ((ws.drop j).map wv)) U = some (.lst ((ws.drop j).map wv)) := upd_same
      have sU : Same H7 (upd H7 U (.lst ((ws.drop j).map wv))) := same_new nU
      generalize upd H7 U (.lst ((ws.drop j).map wv)) = H8 at hU sU ⊢
      refine ⟨R1, U, _, _, rfl, rfl, sU _ _ hR1, hU, (le_size (by simp only [List.length_map, List.length_take, List.length_drop, List.length_append, List.length_reverse, List.length_cons, List.length_nil]; omega)), fun R nR => ?_⟩
      have sA : Same H3 H8 := sS.trans (sY.trans (sR1.trans sU))
      refine kk R (ws.take j ++ (ws.drop j).take 1 ++ ws.drop j) _ ((bt3.trans (Same.but sA)).trans (Same.but (same_new nR))) (((p3.keep sA).keep (same_new nR)).mono (by omega)) (by rw [List.map_append, List.map_append]; exact upd_same) ((p3.keep sA).ne nR) (fun y m => ?_) (by simp only [List.length_take, List.length_drop, List.length_append, List.length_reverse, List.length_cons, List.length_nil]; omega)
      rcases List.mem_append.mp m with m | m
      · rcases List.mem_append.mp m with m | m
        · exact hw y (List.mem_of_mem_take m)
        · exact hw y (List.mem_of_mem_drop (List.mem_of_mem_take m))
      · exact hw y (List.mem_of_mem_drop m)
    refine ⟨_, rfl, _, rfl, _, rfl, a, _, rfl, SqL.of ha3, fun S nS => ?_⟩
    rw [cut_wto]
    have hS : upd H3 S (.lst ((ws.take j).map wv)) S = some (.lst ((ws.take j).map wv)) := upd_same
    have sS : Same H3 (upd H3 S (.lst ((ws.take j).map wv))) := same_new nS
    generalize upd H3 S (.lst ((ws.take j).map wv)) = H4 at hS sS ⊢
    have ha4 := sS _ _ ha3
    refine ⟨_, rfl, _, rfl, _, rfl, _, rfl, _, _, rfl, rfl, _, rfl, a, _, rfl, SqL.of ha4, fun Z nZ => ?_⟩
    rw [cut_wmid2]
    have hZ : upd H4 Z (.lst (((ws.drop j).take 2).map wv)) Z = some (.lst (((ws.drop j).take 2).map wv)) := upd_same
    have sZ : Same H4 (upd H4 Z (.lst (((ws.drop j).take 2).map wv))) := same_new nZ
    generalize upd H4 Z (.lst (((ws.drop j).take 2).map wv)) = H5 at hZ sZ ⊢
    refine ⟨Z, _, rfl, SqL.of hZ, fun Y nY => ?_⟩
    rw [← List.map_reverse]
    have hY : upd H5 Y (.lst (((ws.drop j).take 2).reverse.map wv)) Y = some (.lst (((ws.drop j).take 2).reverse.map wv)) := upd_same
    have sY : Same H5 (upd H5 Y (.lst (((ws.drop j).take 2).reverse.map wv))) := same_new nY
    generalize upd H5 Y (.lst (((ws.drop j).take 2).reverse.map wv)) = H6 at hY sY ⊢
    refine ⟨S, Y, _, _, rfl, rfl, sY _ _ (sZ _ _ hS), hY, (le_size (by simp only [List.length_map, List.length_take, List.length_drop, List.length_append, List.length_reverse, List.length_cons, List.length_nil]; omega)), fun R1 nR1 => ?_⟩
    have hR1 : upd H6 R1 (.lst ((ws.take j).map wv ++ ((ws.drop j).take 2).reverse.map wv)) R1 = some (.lst ((ws.take j).map wv ++ ((ws.drop j).take 2).reverse.map wv)) := upd_same
    have sR1 : Same H6 (upd H6 R1 (.lst ((ws.take j).map wv ++ ((ws.drop j).take 2).reverse.map wv))) := same_new nR1
    generalize upd H6 R1 (.lst ((ws.take j).map wv ++ ((ws.drop j).take 2).reverse.map wv)) = H7 at hR1 sR1 ⊢
    have ha7 := sR1 _ _ (sY _ _ (sZ _ _ ha4))
    refine ⟨_, rfl, _, rfl, _, _, rfl, rfl, _, rfl, a, _, rfl, SqL.of ha7, fun U nU => ?_⟩
    rw [cut_wfrom2]
    have hU : upd H7 U (.lst ((ws.drop (j + 2)).map wv)) U = some (.lst ((ws.drop (j + 2)).map wv)) := upd_same
    have sU : Same H7 (upd H7 U (.lst ((ws.drop (j + 2)).map wv))) := same_new nU
    generalize upd H7 U (.lst ((ws.drop (j + 2)).map wv)) = H8 at hU sU ⊢
    refine ⟨R1, U, _, _, rfl, rfl, sU _ _ hR1, hU, (le_size (by simp only [List.length_map, List.length_take, List.length_drop, List.length_append, List.length_reverse, List.length_cons, List.length_nil]; omega)), fun R nR => ?_⟩
    have sA : Same H3 H8 := sS.trans (sZ.trans (sY.trans (sR1.trans sU)))
    refine kk R (ws.take j ++ ((ws.drop j).take 2).reverse ++ ws.drop (j + 2)) _ ((bt3.trans (Same.but sA)).trans (Same.but (same_new nR))) (((p3.keep sA).keep (same_new nR)).mono (by omega)) (by rw [List.map_append, List.map_append]; exact upd_same) ((p3.keep sA).ne nR) (fun y m => ?_) (by simp only [List.length_take, List.length_drop, List.length_append, List.length_reverse, List.length_cons, List.length_nil]; omega)
    rcases List.mem_append.mp m with m | m
    · rcases List.mem_append.mp m with m | m
      · exact hw y (List.mem_of_mem_take m)
      · exact hw y (List.mem_of_mem_drop (List.mem_of_mem_take (List.mem_reverse.mp m)))
    · exact hw y (List.mem_of_mem_drop m)
end
end Ev
namespace ClX
open PySem PySem.Spec PyProof.Rows L2
section
variable {X : Cx} {CX : CXT} {k : Nat} {C p f : Addr} {fd : FuncData} {ps ks : List Str} {mc : Value} {sp : Sp} {E : XK} {o : Expr} {m : Str} {pos apos : Pos} {ta : TE} {tk : TA} {kws : List Keyword} {g : List Value → List Value → List Value} {gV : List V → List V → List V} {pl : Sem Bool}
/-- C.m(k = v, ..), m a classmethod: keywords alone -/
def tCMethK (C : Addr) (sp : Sp) (gV : List V → List V → List V) (E : XK) (ta : TE) (tk : TA) : TE := fun σ H Q => ta σ H fun x H1 => x = .ref C ∧ tk σ H1 fun zs H2 => sp (gV [.ref C] zs) H2 Q E
theorem run_cmK {pins : List (Addr × Obj)} {σ : L2.St} {H : Hp} {s : Shared} {q : Addr} {Q : VK} {ws : List Value} {zs : List V} (F : FnOk X.prog X.w X.K X.mg X.base CX k f fd ps sp) (hr : Room k X.A) (hb : KBinds X.K fd ps ks g gV) (hx : Passes CX X E) (I : Inv X ((q, PySem.W.methodObj (.ref f) (.ref C)) :: pins) σ H s)
    (rz : Vals zs ws) (h : sp (gV [.ref C] zs) H Q E) : wpAny (model X.prog X.w) X.A (call (.ref q) [] (ks.zip ws)) (EP X pins σ Q) X.xe s := by
  have r2 := hb.rel (vs := [.ref C]) (us := [.ref C]) (.cons rfl .nil) rz
  have hl : (g [.ref C] ws).length = ps.length := by rw [← r2.length]; exact F.len _ _ _ _ h
  have z : wpAny (model X.prog X.w) X.A (call (.ref q) [] (ks.zip ws)) (EP X ((q, PySem.W.methodObj (.ref f) (.ref C)) :: pins) σ Q) X.xe s := by
    refine wpAny_call (PySem.W.method_call (pin_at I) (codeAny_mono (F.run X.A X.stack s H ⟨[.ref C], ks.zip ws⟩ (g [.ref C] ws) (gV [.ref C] zs) Q E hr I.env0 (hb.to s [.ref C] ws I.kIn hl) r2 h) fun r s' hq => ?_))
    cases r with
    | error e => exact hx _ σ H s e s' I hq
    | ok fl =>
      cases fl with
      | ret u => exact I.after hq
      | next => exact False.elim hq
      | brk => exact False.elim hq
      | cont => exact False.elim hq
  exact thn z fun _ _ y => unpinE y
theorem pe_cmethK0 (he : PE X o ta) (r : CRead X.K C mc) (c : CMet X.K C mc m p f) (F : FnOk X.prog X.w X.K X.mg X.base CX k f fd ps sp) (hr : Room k X.A) (hb : KBinds X.K fd ps ks g gV) (hx : Passes CX X E) (hkw : PK X kws tk)
    (hall : (backToKw pos (keywordEach kws X.env)).all (·.1.isSome) = true := by rfl) (hks : (backToKw pos (keywordEach kws X.env)).filterMap (·.1) = ks := by rfl)
    (hpl : ((backTo pos (starEach [] X.env)).any (·.1) || (backToKw pos (keywordEach kws X.env)).any (·.1.isNone)) = false := by rfl)
    (ht : eval (.Call (.Attribute o m apos) [] kws pos) X.env = (do
      let ov ← eval o X.env
      standAt apos.atName
      let (f, first) ← holding [ov] (getMethod ov m pl)
      callWith pos f first (backTo pos (starEach [] X.env)) (backToKw pos (keywordEach kws X.env))) := by rfl) :
    PE X (.Call (.Attribute o m apos) [] kws pos) (tCMethK C sp gV E ta tk) := by
  refine ⟨fun pins s σ H Q I h => ?_⟩
  refine PySem.W.methodCall_KW (pl := pl) (thn (he.run pins s σ H _ I h) fun u s1 ⟨x, H1, I1, rx, ex, q⟩ => ?_) ht
  subst ex
  obtain rfl : u = Value.ref C := rx
  refine getmethcm_ok I1 r c fun s2 I2 => ?_
  refine PySem.W.callWith_of (P := PySem.W.MethP X.K s1.heap.objs.size f (.ref C)) hpl (PySem.W.keeps_M c.fi) (PyProof.Rows.evalArgs_kw2_nil hall ?_)
  refine thn (hkw.run pos _ s2 σ H1 _ I2 q) fun ws s3 ⟨zs, H2, I3, rz, q2⟩ => ⟨⟨pin_at I3, I3.kIn⟩, ?_⟩
  rw [hks]
  exact run_cmK F hr hb hx I3 rz q2
end
end ClX
namespace Ev
open PySem L2 PySem.Spec PyProof.Rows
abbrev nLaw : List Str := ["_law_script", "_law_pen_here", "_law_lap", "_law_many", "_law_some", "_law_far", "_law_k", "_law_made", "_law_words", "_law_part", "_law_again", "_law_odd", "_law_six"]
theorem scLaw : FnScope nLaw ["_law_script"] (defScope sLaw) := ⟨rfl, rfl, rfl, by decide +kernel, rfl, by decide +kernel, by decide +kernel⟩
/-- the rows of the end -/
def sixW : List (List (List Nat)) := [[[49], [49], [49], [49], [49], [49], [62, 61], [50]], [[49], [49], [49], [49], [49], [62, 61], [50]], [[49], [49], [49], [49], [49]], [[49], [49], [49], [49], [62, 61]], [[62, 61], [50]], [[]]]
theorem sixW_ok : ∀ ws ∈ sixW, (∀ l ∈ ws, sw l) ∧ ws.length ≤ 14 := by
  unfold sw
  decide
/-- a fresh list -/
def MkL (t : TE) (xs : List V) : Prop := ∀ (σ : L2.St) (H : Hp) (Q : VK), (∀ (r : Addr) (H' : Hp), Same H H' → H' r = some (.lst xs) → Q (.ref r) H') → t σ H Q
theorem mk1 (a : V) : MkL (tLst (tCons (tC a) tNil)) [a] := fun σ H Q h => ⟨(by show 1 ≤ sizeLine; decide), fun r n => h r _ (same_new n) upd_same⟩
theorem mk2 (a b : V) : MkL (tLst (tCons (tC a) (tCons (tC b) tNil))) [a, b] := fun σ H Q h => ⟨(by show 2 ≤ sizeLine; decide), fun r n => h r _ (same_new n) upd_same⟩
theorem mkRep {t : TE} {xs : List V} (h : MkL t xs) (k : Nat) (hk : xs.length * k ≤ 1000) (k1 : k ≤ 1000) : MkL (tOp rRep t (tC (.int (k : Int)))) (List.replicate k xs).flatten := fun σ H Q q =>
  h σ H _ fun r H' s e => ⟨r, (k : Int), xs, rfl, rfl, e, by omega, by omega, by rw [Int.toNat_natCast]; exact le_size hk, fun p n => q p _ (s.trans (same_new n)) (by rw [Int.toNat_natCast]; exact upd_same)⟩
theorem mkCat {t u : TE} {xs ys : List V} (h : MkL t xs) (h2 : MkL u ys) (hk : xs.length + ys.length ≤ 1000) : MkL (tOp rCat t u) (xs ++ ys) := fun σ H Q q =>
  h σ H _ fun r H' s e => h2 σ H' _ fun r2 H2 s2 e2 => ⟨r, r2, xs, ys, rfl, rfl, s2 _ _ e, e2, le_size hk, fun p n => q p _ (s.trans (s2.trans (same_new n))) upd_same⟩
section
variable {P : Program} {w : World} {K : PySem.W.Frag} {mg : Str → Option Value} {base : Heap} {f C : Addr} {cdv : Value} {A : Around} {outer : List Env} {s : Shared} {H : Hp} {E : XK}
theorem law_end (T : Blt mg) (hr : Room 8 (A.deeper (envOfC "law" (defScope sLaw) s.heap.objs.size f cdv))) (D1 : Df P w K mg base 8 "_law_read_right" ["_law_words"] spRight) :
    ∃ t : TS, PSs (cxOf CX0 P w K mg base nLaw "law" (defScope sLaw) f cdv A outer s H E).nox ((defBody sLaw).drop 2) t ∧ ∀ (D : Ends) (G : Hp) (v0 v1 v2 v3 v4 v5 v6 v7 v8 v9 v10 v11 v12 : Option V),
      (∀ G', D.rt (.bl true) G') → t D [v0, v1, v2, v3, v4, v5, v6, v7, v8, v9, v10, v11, v12] G := by
  obtain ⟨f1, fd1, G1, g1, k1, b1⟩ := D1.ex
  refine ⟨_, (pss_cons (ps_set (i := 12) scLaw.nd rfl (.inl rfl) (pe_lst (pa_cons (pe_op op_cat (pe_op op_rep (pe_lst (pa_cons pe_str pa_nil)) pe_int) (pe_lst (pa_cons pe_str (pa_cons pe_str pa_nil)))) (pa_cons (pe_op op_cat (pe_op op_rep (pe_lst (pa_cons pe_str pa_nil)) pe_int) (pe_lst (pa_cons pe_str (pa_cons pe_str pa_nil))))
      (pa_cons (pe_op op_rep (pe_lst (pa_cons pe_str pa_nil)) pe_int) (pa_cons (pe_op op_cat (pe_op op_rep (pe_lst (pa_cons pe_str pa_nil)) pe_int) (pe_lst (pa_cons pe_str pa_nil))) (pa_cons (pe_lst (pa_cons pe_str (pa_cons pe_str pa_nil))) (pa_cons (pe_lst (pa_cons pe_str pa_nil)) pa_nil))))))))
    (pss_one (ps_ret (pe_cmpR (op_eqD (Room.units hr)) (pe_lc (own := [("_law_some", 4)]) (g := gName 4) (by rfl) scLaw.nd (pi_list (pv 12)) (blkOk_by (own := [("_law_some", 4)]) (N := nLaw) (sc := defScope sLaw) (by decide +kernel))
      (fun _ _ _ _ _ => pg_name (i := 4) scLaw.nd rfl (.inl rfl)) (fun _ _ _ _ _ => pts_one (pt_not (pt_val (pe_call G1 hr (by rfl) g1 k1 b1 .nil pass0 (pa_cons (pv 4) pa_nil))))) (fun _ _ _ _ _ => pv 4)) (pe_lst pa_nil) (nomark _))))), ?_⟩
  intro D G v0 v1 v2 v3 v4 v5 v6 v7 v8 v9 v10 v11 v12 fin
  refine (mkCat (mkRep (mk1 (.str (Str.ofString "1"))) 6 (by decide) (by decide)) (mk2 (.str (Str.ofString ">=")) (.str (Str.ofString "2"))) (by decide)) _ _ _ fun r1 H1 s1 e1 => ?_
  refine (mkCat (mkRep (mk1 (.str (Str.ofString "1"))) 5 (by decide) (by decide)) (mk2 (.str (Str.ofString ">=")) (.str (Str.ofString "2"))) (by decide)) _ _ _ fun r2 H2 s2 e2 => ?_
  refine (mkRep (mk1 (.str (Str.ofString "1"))) 5 (by decide) (by decide)) _ _ _ fun r3 H3 s3 e3 => ?_
  refine (mkCat (mkRep (mk1 (.str (Str.ofString "1"))) 4 (by decide) (by decide)) (mk1 (.str (Str.ofString ">="))) (by decide)) _ _ _ fun r4 H4 s4 e4 => ?_
  refine (mk2 (.str (Str.ofString ">=")) (.str (Str.ofString "2"))) _ _ _ fun r5 H5 s5 e5 => ?_
  refine (mk1 (.str (Str.ofString ""))) _ _ _ fun r6 H6 s6 e6 => ?_
  refine ⟨(by show 6 ≤ sizeLine; decide), fun l nl => ?_⟩
  have sl : Same H6 (upd H6 l (.lst [.ref r1, .ref r2, .ref r3, .ref r4, .ref r5, .ref r6])) := same_new nl
  have hl : upd H6 l (.lst [.ref r1, .ref r2, .ref r3, .ref r4, .ref r5, .ref r6]) l = some (.lst [.ref r1, .ref r2, .ref r3, .ref r4, .ref r5, .ref r6]) := upd_same
  generalize upd H6 l (.lst [.ref r1, .ref r2, .ref r3, .ref r4, .ref r5, .ref r6]) = H7 at sl hl ⊢
  have z6 := sl _ _ e6
  have z5 := sl _ _ (s6 _ _ e5)
  have z4 := sl _ _ (s6 _ _ (s5 _ _ e4))
  have z3 := sl _ _ (s6 _ _ (s5 _ _ (s4 _ _ e3)))
  have z2 := sl _ _ (s6 _ _ (s5 _ _ (s4 _ _ (s3 _ _ e2))))
  have z1 := sl _ _ (s6 _ _ (s5 _ _ (s4 _ _ (s3 _ _ (s2 _ _ e1)))))
  have rows : ∀ (i : Nat) (v : V), [V.ref r1, V.ref r2, V.ref r3, V.ref r4, V.ref r5, V.ref r6][i]? = some v → ∃ r ws, v = .ref r ∧ H7 r = some (.lst (ws.map wv)) ∧ ws ∈ sixW := by
    intro i v hv
    have m := List.mem_of_getElem? hv
    simp only [List.mem_cons, List.not_mem_nil, or_false] at m
    rcases m with rfl | rfl | rfl | rfl | rfl | rfl
    · exact ⟨r1, [[49], [49], [49], [49], [49], [49], [62, 61], [50]], rfl, z1, by decide⟩
    · exact ⟨r2, [[49], [49], [49], [49], [49], [62, 61], [50]], rfl, z2, by decide⟩
    · exact ⟨r3, [[49], [49], [49], [49], [49]], rfl, z3, by decide⟩
    · exact ⟨r4, [[49], [49], [49], [49], [62, 61]], rfl, z4, by decide⟩
    · exact ⟨r5, [[62, 61], [50]], rfl, z5, by decide⟩
    · exact ⟨r6, [[]], rfl, z6, by decide⟩
  refine ⟨_, rfl, l, rfl, ⟨_, SqL.of hl⟩, fun D1 nD => ?_⟩
  have lD := ne_of_none hl nD
  refine lc_it (n := 6) (walk_list (K := K) (a := l) (xs := [.ref r1, .ref r2, .ref r3, .ref r4, .ref r5, .ref r6])) (fun i H' => H' D1 = some (.lst []) ∧ But D1 H7 H') ⟨upd_same, But.upd_at⟩ (fun i H' _ h => SqL.of (h.2 _ _ lD hl)) (fun i v Ha Hb hi ⟨a1, a2⟩ y => ?_) (fun H' ⟨a1, a2⟩ => ?_)
  · obtain ⟨rfl, hv⟩ := y
    obtain ⟨r, ws, rfl, er, mem⟩ := rows i _ hv
    obtain ⟨o1, o2⟩ := sixW_ok ws mem
    refine ⟨rfl, _, rfl, r, ws, rfl, a2 _ _ (ne_of_none er nD) er, o1, o2, fun Hc sc => ⟨true, rfl, iteF ⟨sc _ _ a1, a2.trans (Same.but sc)⟩⟩⟩
  · refine ⟨(by show 0 ≤ sizeLine; decide), fun Z nZ => ⟨_, _, .lst (SqL.of (same_new nZ _ _ a1)) .nil, .lst (SqL.of upd_same) .nil, by decide, by decide, ?_⟩⟩
    exact fin _
end
end Ev
namespace Ev
open PySem L2 PySem.Spec PyProof.Rows
def loopBody : Stmt → List Stmt
  | .For (body := b) .. => b
  | _ => []
abbrev lapBody : List Stmt := loopBody ((defBody sLaw).getD 1 (.Pass ⟨0, 0, 0, 0⟩))
section
variable {P : Program} {w : World} {K : PySem.W.Frag} {mg : Str → Option Value} {base : Heap} {f C : Addr} {cdv : Value} {A : Around} {outer : List Env} {s : Shared} {H : Hp} {E : XK}
theorem notStr_ty {H : Hp} {v : V} {T : String} (h : ∀ H', Same H H' → TyX K H' v (.type T)) (k : kitB T "str" = some false) : NotStr K H v := ⟨.type T, h, kit_ty k⟩
theorem law_odd (T : Blt mg) (TC : TCls K C) (IT : InsT K C) (kC : PySem.W.kitOne K (.ref C) (.type "str") = some false) (hr : Room 8 (A.deeper (envOfC "law" (defScope sLaw) s.heap.objs.size f cdv))) (D1 : Df P w K mg base 2 "_law_pick" ["_law_pen_here", "_law_some"] spPick) (D2 : Df P w K mg base 7 "_law_heard" ["_law_value_so"] (spHeard K C)) :
    ∃ t : TS, PSs (cxOf CX0 P w K mg base nLaw "law" (defScope sLaw) f cdv A outer s H E).nox (lapBody.drop 5) t ∧ ∀ (D : Ends) (G : Hp) (p L x : Addr) (B b : Int) (ps : List Int) (v0 v2 v3 v4 v5 v6 v8 v9 v10 v11 v12 : Option V),
      Pen L G p B → B ≤ 900000 → TestAt C G x ps b → (∀ v G', But p G G' → Pen L G' p (B + 1) → D.nx [v0, some (.ref p), v2, v3, v4, v5, v6, some (.ref x), v8, v9, v10, v, v12] G') →
      t D [v0, some (.ref p), v2, v3, v4, v5, v6, some (.ref x), v8, v9, v10, v11, v12] G := by
  obtain ⟨f1, fd1, G1, g1, k1, b1⟩ := D1.ex
  obtain ⟨f2, fd2, G2, g2, k2, b2⟩ := D2.ex
  have hr2 : Room 2 _ := hr.mono (by decide)
  have hr7 : Room 7 _ := hr.mono (by decide)
  refine ⟨_, (pss_cons (ps_set (i := 11) scLaw.nd rfl (.inl rfl) (pe_call G1 hr2 (by rfl) g1 k1 b1 .nil pass0 (pa_cons (pv 1) (pa_cons (pe_lst (pa_cons pe_non (pa_cons pe_int (pa_cons pe_bl (pa_cons (pv 7) (pa_cons (pe_lst (pa_cons pe_str (pa_cons pe_str (pa_cons pe_str pa_nil)))) (pa_cons (pe_tup (pa_cons pe_str pa_nil)) (pa_cons pe_dnewK (pa_cons (pe_op op_pow pe_int pe_int) pa_nil))))))))) pa_nil))))
    (pss_one (ps_if (pt_cmpR (op_neD (Room.units hr)) (pe_call G2 hr7 (by rfl) g2 k2 b2 .nil pass0 (pa_cons (pv 11) pa_nil)) (pe_tup (pa_cons pe_int (pa_cons pe_int pa_nil))) (nomark _)) (pss_one (ps_ret pe_bl)) pss_nil))), ?_⟩
  intro D G p L x B b ps v0 v2 v3 v4 v5 v6 v8 v9 v10 v11 v12 hp hB tx fin
  refine ⟨_, rfl, _, rfl, (by show 3 ≤ sizeLine; decide), fun a1 n1 => ⟨(by show 1 ≤ sizeLine; decide), fun a2 n2 => fun a3 n3 => ?_⟩⟩
  have s1 := same_new (o := .lst [.str (Str.ofString "1"), .str (Str.ofString ">="), .str (Str.ofString "2")]) n1
  have s2 := same_new (o := .tup [.str (Str.ofString "1 >= 2")]) n2
  have s3 := same_new (o := .dK []) n3
  have z3 : upd (upd (upd G a1 (.lst [.str (Str.ofString "1"), .str (Str.ofString ">="), .str (Str.ofString "2")])) a2 (.tup [.str (Str.ofString "1 >= 2")])) a3 (.dK []) a3 = some (.dK []) := upd_same
  have z2 := s3 _ _ (upd_same : upd (upd G a1 (.lst [.str (Str.ofString "1"), .str (Str.ofString ">="), .str (Str.ofString "2")])) a2 (.tup [.str (Str.ofString "1 >= 2")]) a2 = _)
  have z1 := s3 _ _ (s2 _ _ (upd_same : upd G a1 (.lst [.str (Str.ofString "1"), .str (Str.ofString ">="), .str (Str.ofString "2")]) a1 = _))
  have sA := s1.trans (s2.trans s3)
  generalize upd (upd (upd G a1 (.lst [.str (Str.ofString "1"), .str (Str.ofString ">="), .str (Str.ofString "2")])) a2 (.tup [.str (Str.ofString "1 >= 2")])) a3 (.dK []) = G3 at z1 z2 z3 sA ⊢
  have na1 : a1 ≠ p := hp.ne n1
  clear s1 s2 s3 n1 n2 n3
  have e30 : (10 : Int) ^ Int.toNat 30 = 1000000000000000000000000000000 := by decide
  refine ⟨_, _, rfl, rfl, ⟨by decide, by decide, by decide⟩, (by show 8 ≤ sizeLine; decide), fun l nl => ?_⟩
  have p3 := hp.keep sA
  refine ⟨p, l, L, _, B, rfl, upd_same, p3.ne nl, (by show 1 ≤ 8; decide), (by show 8 ≤ 1000; decide), by omega, p3.new nl, fun d H4 mem bt pn => ?_⟩
  have sN := same_new (o := .lst [.non, .int 0, .bl true, .ref x, .ref a1, .ref a2, .ref a3, .int ((10 : Int) ^ Int.toNat 30)]) nl
  have bG : But p G H4 := (Same.but sA).trans ((Same.but sN).trans bt)
  obtain ⟨xs, ep⟩ := hp.some
  have ep3 := sA _ _ ep
  have notp : ∀ {a : Addr} {o : HO}, G3 a = some o → (∀ ys, o ≠ .lst ys) → a ≠ p := fun e h z => by
    rw [z, ep3] at e
    exact h _ (Option.some.inj e).symm
  have ns : NotStr K H4 d := by
    simp only [List.mem_cons, List.not_mem_nil, or_false] at mem
    rcases mem with rfl | rfl | rfl | rfl | rfl | rfl | rfl | rfl
    · exact notStr_ty (fun _ _ => .base .non) (by decide +kernel)
    · exact notStr_ty (fun _ _ => .base (.int _)) (by decide +kernel)
    · exact notStr_ty (fun _ _ => .base (.bl _)) (by decide +kernel)
    · exact ⟨.ref C, fun H' k => tyTest TC IT ((tx.but ep bG).keep k), kC⟩
    · exact notStr_ty (fun _ k => .base (.lst (k _ _ (bt _ _ na1 (sN _ _ z1))))) (by decide +kernel)
    · exact notStr_ty (fun _ k => .base (.tup (k _ _ (bt _ _ (notp z2 (by intro ys z; cases z)) (sN _ _ z2))))) (by decide +kernel)
    · exact notStr_ty (fun _ k => .base (.dK (k _ _ (bt _ _ (notp z3 (by intro ys z; cases z)) (sN _ _ z3))))) (by decide +kernel)
    · exact notStr_ty (fun _ _ => .base (.int _)) (by decide +kernel)
  refine ⟨_, rfl, d, rfl, .inl ⟨ns, fun r G5 s5 nr er => ?_⟩⟩
  refine ⟨(by show 2 ≤ sizeLine; decide), fun Z nZ => ?_⟩
  refine ⟨_, _, .tup (SqT.of (same_new nZ _ _ er)) (dpInts [0, 0]), .tup (SqT.of upd_same) (dpInts [0, 0]), sh_intsT _, sh_intsT _, _, rfl, ?_⟩
  rw [eqv_tupI, decide_eq_true rfl]
  have sZ := s5.trans (same_new (o := .tup [.int 0, .int 0]) nZ)
  exact iteF (fin _ _ (bG.trans (Same.but sZ)) (pn.keep sZ))
end
end Ev
namespace Ev
open PySem L2 PySem.Spec PyProof.Rows
section
variable {P : Program} {w : World} {K : PySem.W.Frag} {mg : Str → Option Value} {base : Heap} {f C : Addr} {cdv : Value} {A : Around} {outer : List Env} {s : Shared} {H : Hp} {E : XK}
theorem law_again (T : Blt mg) (TC : TCls K C) (IT : InsT K C) (kC : PySem.W.kitOne K (.ref C) (.type "str") = some false) (hr : Room 8 (A.deeper (envOfC "law" (defScope sLaw) s.heap.objs.size f cdv))) (D1 : Df P w K mg base 2 "_law_pick" ["_law_pen_here", "_law_some"] spPick) (D2 : Df P w K mg base 7 "_law_heard" ["_law_value_so"] (spHeard K C))
    (D3 : Df P w K mg base 3 "_law_bent" ["_law_pen_here", "_law_words"] spBent) (D4 : Df P w K mg base 8 "_law_read_right" ["_law_words"] spRight) :
    ∃ t : TS, PSs (cxOf CX0 P w K mg base nLaw "law" (defScope sLaw) f cdv A outer s H E).nox (lapBody.drop 4) t ∧ ∀ (D : Ends) (G : Hp) (p L x a : Addr) (B b : Int) (ps : List Int) (ws : List (List Nat)) (v0 v2 v3 v4 v5 v6 v9 v10 v11 v12 : Option V),
      Pen L G p B → B ≤ 800000 → TestAt C G x ps b → G a = some (.lst (ws.map wv)) → a ≠ p → (∀ l ∈ ws, sw l) → ws.length ≤ 7 → (∀ u8 u10 u11 G', Pen L G' p (B + 13) → D.nx [v0, some (.ref p), v2, v3, v4, v5, v6, some (.ref x), u8, v9, u10, u11, v12] G') →
      t D [v0, some (.ref p), v2, v3, v4, v5, v6, some (.ref x), some (.ref a), v9, v10, v11, v12] G := by
  obtain ⟨f3, fd3, G3, g3, k3, b3⟩ := D3.ex
  obtain ⟨f4, fd4, G4, g4, k4, b4⟩ := D4.ex
  have hr3 : Room 3 _ := hr.mono (by decide)
  obtain ⟨tO, hO, qO⟩ := law_odd (outer := outer) (H := H) (E := E) T TC IT kC hr D1 D2
  refine ⟨_, pss_cons (ps_for PassesOwn.never rfl (pi_range1 rfl T.range (pa_cons pe_int pa_nil)) (pg_name (i := 10) scLaw.nd rfl (.inl rfl))
    (pss_cons (ps_set (i := 8) scLaw.nd rfl (.inl rfl) (pe_call G3 hr3 (by rfl) g3 k3 b3 .nil pass0 (pa_cons (pv 1) (pa_cons (pv 8) pa_nil))))
    (pss_one (ps_if (pt_not (pt_val (pe_call G4 hr (by rfl) g4 k4 b4 .nil pass0 (pa_cons (pv 8) pa_nil)))) (pss_one (ps_ret pe_bl)) pss_nil)))) hO, ?_⟩
  intro D G p L x a B b ps ws v0 v2 v3 v4 v5 v6 v9 v10 v11 v12 hp hB tx ha hap hw hn fin
  refine ⟨4, rfl, by decide, by decide, ?_⟩
  refine for_range (n := 4) (fun i σ G' => (∃ (u8 : Addr) (u10 : Option V) (us : List (List Nat)), σ = [v0, some (.ref p), v2, v3, v4, v5, v6, some (.ref x), some (.ref u8), v9, u10, v11, v12] ∧ G' u8 = some (.lst (us.map wv)) ∧ u8 ≠ p ∧ (∀ l ∈ us, sw l) ∧ us.length ≤ 7 + i) ∧ Pen L G' p (B + 3 * (i : Int)) ∧ TestAt C G' x ps b)
    ⟨⟨a, v10, ws, rfl, ha, hap, hw, by omega⟩, by simpa using hp, tx⟩ ?_ ?_
  · rintro i σ G1 hi ⟨⟨u8, u10, us, rfl, hu, hup, hsw, hl⟩, pn, tx1⟩
    obtain ⟨xs, ep⟩ := pn.some
    refine ⟨_, rfl, _, rfl, p, u8, L, us, 7 + i, _, rfl, hu, hsw, hl, by omega, hup, by omega, pn, fun r us' G2 bt pn2 hr2 rp sw2 l2 => ?_⟩
    refine ⟨_, rfl, r, us', rfl, hr2, sw2, by omega, fun G3 s3 => ⟨true, rfl, iteF ?_⟩⟩
    exact ⟨⟨r, _, us', rfl, s3 _ _ hr2, rp, sw2, by omega⟩, (pn2.keep s3).mono (by omega), (tx1.but ep bt).keep s3⟩
  · rintro σ G1 ⟨⟨u8, u10, us, rfl, _, _, _, _⟩, pn, tx1⟩
    refine qO D G1 p L x _ b ps _ _ _ _ _ _ _ _ _ _ _ pn (by omega) tx1 fun v G2 bt pn2 => ?_
    exact fin _ _ _ _ (pn2.mono (by omega))
end
end Ev
namespace Ev
open PySem L2 PySem.Spec PyProof.Rows
theorem passX0 {P : Program} {w : World} {X : Cx} : Passes (L2.CX P w) X E0 := fun _ _ _ _ _ _ _ h => by
  obtain ⟨a, B, H', cls, d, _, _, _, _, _, _, _, z⟩ := h
  exact z.elim
theorem firsts_take (ws : List (List Nat)) : firsts ws = (ws.take (firsts ws).length).map val := by
  have p : (ws.take 5).takeWhile can <+: ws := (List.takeWhile_prefix _).trans (List.take_prefix 5 ws)
  have e := List.prefix_iff_eq_take.mp p
  have l : ((ws.take 5).takeWhile can).length = (firsts ws).length := by unfold firsts; rw [List.length_map]
  rw [l] at e
  rw [← e]
  rfl
theorem wT_take (ps : List Int) (b : Int) : (wT ps b).take ps.length = ps.map txc := by
  unfold wT
  rw [List.take_append_of_le_length (by simp)]
  exact List.take_of_length_le (by simp)
theorem wT_len (ps : List Int) (b : Int) : (wT ps b).length = ps.length + 2 := by simp [wT]
theorem wT_mid (ps : List Int) (b : Int) : (wT ps b)[ps.length]? = some [62, 61] := by
  unfold wT
  rw [List.getElem?_append_right (by simp)]
  simp
theorem wT_firsts {ps : List Int} {b : Int} (n5 : ps.length ≤ 5) : firsts (wT ps b) = ps := by
  have a : (((wT ps b).take 5).take ps.length).all can = true := by
    rw [List.take_take, Nat.min_eq_left n5, wT_take, List.all_eq_true]
    intro l hl
    obtain ⟨z, _, rfl⟩ := List.mem_map.mp hl
    exact can_txc z
  have l := firsts_len n5 (by rw [wT_len]; omega) a (.inr (.inr ⟨_, wT_mid ps b, by decide⟩))
  rw [firsts_take, l, wT_take, List.map_map]
  have : ∀ qs : List Int, qs.map (val ∘ txc) = qs := by
    intro qs
    induction qs with
    | nil => rfl
    | cons z r ih =>
      rw [List.map_cons, ih]
      show val (txc z) :: r = _
      rw [val_txc]
  exact this ps
theorem wT_drop (ps : List Int) (b : Int) : (wT ps b).drop (ps.length + 1) = [txc b] := by
  unfold wT
  rw [List.drop_append, List.drop_of_length_le (by simp)]
  simp
theorem wT_lastF (ps : List Int) (b : Int) : firsts ((wT ps b).drop (ps.length + 1)) = [b] := by
  rw [wT_drop]
  unfold firsts
  rw [List.take_of_length_le (by simp), List.takeWhile_cons, if_pos (can_txc b)]
  show [val (txc b)] = [b]
  rw [val_txc]
theorem wT_last {ps : List Int} {b : Int} (n5 : ps.length ≤ 5) : lastW (wT ps b) = b := by
  unfold lastW
  rw [wT_firsts n5, wT_lastF]
  rfl
theorem wT_due {ps : List Int} {b : Int} (n1 : 1 ≤ ps.length) (n5 : ps.length ≤ 5) : dueW (wT ps b) = none := by
  unfold dueW
  rw [wT_firsts n5, if_neg (by omega), if_neg (by rw [wT_mid]; simp), wT_lastF, if_neg (by simp), if_neg (by rw [wT_len]; omega)]
theorem txc_no32 (n : Int) : 32 ∉ txc n := by
  unfold txc
  intro h
  by_cases z : n < 0
  · rw [if_pos z] at h
    rcases List.mem_cons.mp h with h | h
    · cases h
    · have := TL.numL_digits _ _ h; omega
  · rw [if_neg z] at h
    have := TL.numL_digits _ _ h; omega
theorem wT_pcs (ps : List Int) (b : Int) : pcs (jn (wT ps b)) = wT ps b := by
  refine SX.spl_join (c := 32) (sep := []) (by simp [wT]) fun l hl => ?_
  unfold wT at hl
  rcases List.mem_append.mp hl with h | h
  · obtain ⟨z, _, rfl⟩ := List.mem_map.mp h
    exact txc_no32 z
  · simp only [List.mem_cons, List.not_mem_nil, or_false] at h
    rcases h with rfl | rfl
    · decide
    · exact txc_no32 b
theorem txc_sw {n : Int} (h : Nn n) : sw (txc n) := by
  refine ⟨txc_len42 h, fun c hc => ?_⟩
  unfold txc at hc
  by_cases z : n < 0
  · rw [if_pos z] at hc
    rcases List.mem_cons.mp hc with h | h
    · omega
    · have := TL.numL_digits _ _ h; omega
  · rw [if_neg z] at hc
    have := TL.numL_digits _ _ hc; omega
theorem wT_sw {ps : List Int} {b : Int} (h : AllN ps) (hb : Nn b) : ∀ l ∈ wT ps b, sw l := by
  intro l hl
  unfold wT at hl
  rcases List.mem_append.mp hl with q | q
  · obtain ⟨z, hz, rfl⟩ := List.mem_map.mp q
    exact txc_sw (h z hz)
  · simp only [List.mem_cons, List.not_mem_nil, or_false] at q
    rcases q with rfl | rfl
    · exact ⟨by decide, by decide⟩
    · exact txc_sw hb
/-- two tests alike -/
def RT (C : Addr) : Addr → Addr → Hp → Prop := fun a b H => ∃ ps bd, TestAt C H a ps bd ∧ TestAt C H b ps bd
theorem eq_imp {C : Addr} {vs : List V} {H : Hp} {Q : VK} {E : XK} (h : spEq (RT C) vs H Q E) : spTEq C vs H Q E := by
  obtain ⟨a, b, rfl, ⟨ps, bd, ta, tb⟩, k⟩ := h
  exact ⟨a, .ref b, ps, bd, rfl, ta, .inl ⟨b, ps, bd, rfl, tb, by rw [eqT_self]; exact k H Ext.rfl'⟩⟩
end Ev
namespace Ev
open PySem L2 PySem.Spec PyProof.Rows
section
variable {P : Program} {w : World} {K : PySem.W.Frag} {mg : Str → Option Value} {base : Heap} {f C BT : Addr} {cdv : Value} {A : Around} {outer : List Env} {s : Shared} {H : Hp} {E : XK}
theorem law_cmp (T : Blt mg) (mstr : mg "str" = none) (TM : TMeth P w K mg base C) (R : RdM P w K mg base C BT) (kC : PySem.W.kitOne K (.ref C) (.type "str") = some false) (hr : Room 8 (A.deeper (envOfC "law" (defScope sLaw) s.heap.objs.size f cdv))) (D1 : Df P w K mg base 2 "_law_pick" ["_law_pen_here", "_law_some"] spPick) (D2 : Df P w K mg base 7 "_law_heard" ["_law_value_so"] (spHeard K C))
    (D3 : Df P w K mg base 3 "_law_bent" ["_law_pen_here", "_law_words"] spBent) (D4 : Df P w K mg base 8 "_law_read_right" ["_law_words"] spRight) :
    ∃ t : TS, PSs (cxOf CX0 P w K mg base nLaw "law" (defScope sLaw) f cdv A outer s H E).nox (lapBody.drop 3) t ∧ ∀ (D : Ends) (G : Hp) (p L x a : Addr) (B b : Int) (ps : List Int) (v0 v2 v3 v4 v5 v6 v9 v10 v11 v12 : Option V),
      Pen L G p B → B ≤ 800000 → TestAt C G x ps b → 1 ≤ ps.length → ps.length ≤ 5 → AllN ps → Nn b → G a = some (.lst ((wT ps b).map wv)) → a ≠ p → (∀ u8 u10 u11 G', Pen L G' p (B + 13) → D.nx [v0, some (.ref p), v2, v3, v4, v5, v6, some (.ref x), u8, v9, u10, u11, v12] G') →
      t D [v0, some (.ref p), v2, v3, v4, v5, v6, some (.ref x), some (.ref a), v9, v10, v11, v12] G := by
  obtain ⟨f2, fd2, G2, g2, k2, b2⟩ := D2.ex
  obtain ⟨TK, ⟨fe, fde, GE, bE, heq, hef⟩, hne, ⟨fs, RS, hs, hsf⟩⟩ := TM
  obtain ⟨TC, IT, gC, ⟨fm, fdm, MM, GM, bM⟩⟩ := TK
  obtain ⟨gC, mc, pr, fr, fdr, cr, cm, GR, bR, kR⟩ := R
  have RE := fnr_of GE bE
  have hr1 : Room 1 _ := hr.mono (by decide)
  have hr2 : Room 2 _ := hr.mono (by decide)
  have hr5 : Room 5 _ := hr.mono (by decide)
  have hr6 : Room 6 _ := hr.mono (by decide)
  have hr7 : Room 7 _ := hr.mono (by decide)
  obtain ⟨tO, hO, qO⟩ := law_again (outer := outer) (H := H) (E := E) T TC IT kC hr D1 D2 D3 D4
  have EQ : EqG (cxOf CX0 P w K mg base nLaw "law" (defScope sLaw) f cdv A outer s H E).nox 1 (DIns C (RT C)) := eqG_ins (E := E0) (GE.imp fun vs H Q E h => eq_imp h) heq hef bE pass0
  have MN : Mon (DIns C (RT C)) := mon_ins fun a b H H' e r => by
    obtain ⟨ps, bd, ta, tb⟩ := r
    exact ⟨ps, bd, ta.keep e, tb.keep e⟩
  refine ⟨_, pss_cons (ps_if (PW.pt (pw_or (pt_cmpR op_ne (pe_callTy (call_strO (E := E0) hs hsf RS hr5 pass0) (by rfl) mstr (by decide +kernel) (pa_cons (pv 7) pa_nil)) (pe_join pe_str (pv 8)) (nomark _))
    (pw_or (pt_cmpR (op_neL MN EQ hr2) (pe_call G2 hr7 (by rfl) g2 k2 b2 .nil pass0 (pa_cons (pe_callTy (call_strO (E := E0) hs hsf RS hr5 pass0) (by rfl) mstr (by decide +kernel) (pa_cons (pv 7) pa_nil)) pa_nil)) (pe_lst (pa_cons (pv 7) pa_nil)) (nomark _))
    (pw_or1 (pt_cmpR (op_neO (E := E0) heq hne IT.hm hef RE hr2 pass0) (ClX.pe_cmethK0 (E := E0) (pe_glob (v := .ref C) (by rfl) gC rfl) cr cm GR hr6 kR passX0 (pk_cons (pe_callTy (call_strO (E := E0) hs hsf RS hr5 pass0) (by rfl) mstr (by decide +kernel) (pa_cons (pv 7) pa_nil)) pk_nil)) (pv 7) (nomark _)))))) (pss_one (ps_ret pe_bl)) pss_nil) hO, ?_⟩
  intro D G p L x a B b ps v0 v2 v3 v4 v5 v6 v9 v10 v11 v12 hp hB tx n1 n5 hn hb ha hap fin
  obtain ⟨ot, _, _⟩ := pcs_words (wT_sw hn hb) (by rw [wT_len]; omega)
  have ej : Txt.join (Str.ofString " ") ((wT ps b).map SX.S) = Sx (jn (wT ps b)) := SX.join_S [32] (wT ps b)
  refine ⟨_, rfl, own_str tx n1 n5 hn.m hb.m fun H1 s1 => ?_⟩
  refine ⟨⟨_, rfl⟩, _, rfl, _, a, (wT ps b).map SX.S, rfl, rfl, .inl (SqL.of (by rw [List.map_map]; exact s1 _ _ ha)), ?_, ?_⟩
  · rw [SX.lens, List.length_map, show (Str.ofString " ").length = 1 from by decide +kernel]
    have key : ∀ us : List (List Nat), (∀ l ∈ us, sw l) → (us.map (·.length)).sum ≤ us.length * 42 := by
      intro us
      induction us with
      | nil => intro _; simp
      | cons x r ih =>
        intro h
        have i1 := ih fun l m => h l (List.mem_cons_of_mem _ m)
        have i2 := (h x List.mem_cons_self).1
        simp only [List.map_cons, List.sum_cons, List.length_cons] at i1 ⊢
        omega
    have := key _ (wT_sw hn hb)
    have := wT_len ps b
    omega
  rw [ej]
  refine ⟨rfl, _, rfl, ?_⟩
  rw [show decide (V.str (Sx (jn (wT ps b))) = V.str (Sx (jn (wT ps b)))) = true from decide_eq_true rfl]
  refine iteF ?_
  refine ⟨_, rfl, own_str (tx.keep s1) n1 n5 hn.m hb.m fun H2 s2 => ⟨_, rfl, .inr ⟨_, rfl, ot, ?_⟩⟩⟩
  rw [wT_pcs, wT_due n1 n5]
  intro z r G3 s3 tz er
  rw [wT_firsts n5, wT_last n5] at tz
  have sA : Same G G3 := s1.trans (s2.trans s3)
  refine ⟨_, rfl, (by show 1 ≤ sizeLine; decide), fun q nq => ?_⟩
  have sQ := same_new (o := .lst [.ref x]) nq
  have tx4 := (tx.keep sA).keep sQ
  have tz4 := tz.keep sQ
  refine ⟨⟨r, q, _, _, rfl, rfl, sQ _ _ er, upd_same, Prs.cons ?_ Prs.nil⟩, fun H5 e5 => ⟨_, rfl, iteF ?_⟩⟩
  · obtain ⟨dz, tzz, hz, _⟩ := id tz4
    obtain ⟨dx, txx, hx, _⟩ := id tx4
    exact ⟨z, x, dz, dx, _, _, rfl, rfl, hz, hx, ps, b, tz4, tx4⟩
  have sB : Same G H5 := sA.trans (sQ.trans e5)
  refine ⟨rfl, _, rfl, own_str (tx.keep sB) n1 n5 hn.m hb.m fun H6 s6 => ⟨_, rfl, .inr ⟨_, rfl, ot.1, ot.2, ?_⟩⟩⟩
  rw [wT_pcs, wT_due n1 n5]
  intro z2 H7 s7 tz2
  rw [wT_firsts n5, wT_last n5] at tz2
  have sC : Same G H7 := sB.trans (s6.trans s7)
  refine ⟨_, rfl, own_like TC IT tz2 (tx.keep sC) rfl rfl ⟨_, rfl, iteF ?_⟩⟩
  exact qO D H7 p L x a B b ps (wT ps b) _ _ _ _ _ _ _ _ _ _ (hp.keep sC) hB (tx.keep sC) (sC _ _ ha) hap (wT_sw hn hb) (by rw [wT_len]; omega) fin
end
end Ev
namespace Ev
open PySem L2 PySem.Spec PyProof.Rows
def spPen (K : PySem.W.Frag) : Sp := fun vs H Q _ => ∃ (a : Addr) (ns : List Int), vs = [.ref a] ∧ SqL K H a (ns.map V.int) ∧ ns.length ≤ 63 ∧
  ∀ (p L : Addr) (H' : Hp), H p = none → Same H H' → Pen L H' p 0 → Q (.ref p) H'
theorem cut_ints (ns : List Int) (h : Int) : ∃ ms : List Int, cutV (ns.map V.int) none (some h) = ms.map V.int ∧ ms.length ≤ ns.length := by
  unfold cutV
  generalize HT.sIx (ns.map V.int).length 0 none = x
  generalize HT.sIx (ns.map V.int).length (ns.map V.int).length (some h) - x = y
  refine ⟨(ns.drop x).take y, ?_, ?_⟩
  · rw [List.map_take, List.map_drop]
  · rw [List.length_take, List.length_drop]; omega
def spLaw (K : PySem.W.Frag) : Sp := fun vs H Q _ => ∃ (a : Addr) (ns : List Int), vs = [.ref a] ∧ SqL K H a (ns.map V.int) ∧ ns.length ≤ 63 ∧ ∀ H', Q (.bl true) H'
theorem Pen.put {L D p : Addr} {H : Hp} {B : Int} {o : HO} (h : Pen L H p B) (n1 : D ≠ p) (n2 : L ≠ D) : Pen L (upd H D o) p B := by
  obtain ⟨ns, t, c, h1, h2, r⟩ := h
  exact ⟨ns, t, c, by rw [upd_ne n1.symm]; exact h1, by rw [upd_ne n2]; exact h2, r⟩
section
variable {P : Program} {w : World} {K : PySem.W.Frag} {mg : Str → Option Value} {base : Heap}
theorem scPen : FnScope ["_law_script"] ["_law_script"] (defScope sPen) := ⟨rfl, rfl, rfl, by decide +kernel, rfl, by decide +kernel, by decide +kernel⟩
theorem ok_pen {f : Addr} {fd : FuncData} (F : Fun K "_law_pen" "_law_pen" sPen f fd) (T : Blt mg) : FnOk P w K mg base CX0 1 f fd ["_law_script"] (spPen K) := by
  refine F.ok scPen (fun vs H Q E h => ?_) (fun cdv A outer s H vs Q E hr h => ?_)
  · obtain ⟨a, ns, rfl, _⟩ := h
    rfl
  · obtain ⟨a, ns, rfl, hS, hlen, kk⟩ := h
    refine ⟨_, pss_one (ps_ret (pe_lst (pa_cons (pe_callTy call_list_of (by rfl) T.list (by decide +kernel) (pa_cons (pe_slice sl_list (pv 0) po_none (po_some pe_int)) pa_nil)) (pa_cons pe_int (pa_cons pe_int pa_nil))))), ?_⟩
    refine ⟨_, rfl, _, rfl, a, _, rfl, hS, fun l1 nl1 => ⟨l1, _, rfl, .inl (SqL.of upd_same), fun l2 nl2 => ⟨(by show 3 ≤ sizeLine; decide), fun p np => ?_⟩⟩⟩
    obtain ⟨ms, e1, e2⟩ := cut_ints ns 63
    rw [e1] at nl2 np ⊢
    have s1 : Same H (upd (upd H l1 (.lst (ms.map V.int))) l2 (.lst (ms.map V.int))) := (same_new nl1).trans (same_new nl2)
    have s2 := s1.trans (same_new (o := .lst [.ref l2, .int 0, .int 0]) np)
    refine kk p l2 _ ?_ s2 ⟨ms, 0, 0, upd_same, by rw [upd_ne (ne_of_none upd_same np)]; exact upd_same, ne_of_none upd_same np, by omega, by decide, by decide, by decide⟩
    cases z : H p with
    | none => rfl
    | some o => rw [s1 _ _ z] at np; cases np
theorem ok_law {f C BT : Addr} {fd : FuncData} (F : Fun K "law" "law" sLaw f fd) (T : Blt mg) (mstr : mg "str" = none) (TM : TMeth P w K mg base C) (R : RdM P w K mg base C BT) (kC : PySem.W.kitOne K (.ref C) (.type "str") = some false) (D0 : Df P w K mg base 1 "_law_pen" ["_law_script"] (spPen K)) (D5 : Df P w K mg base 1 "_law_draw" ["_law_pen_here", "_law_top_so"] spDraw) (D6 : Df P w K mg base 3 "_law_number" ["_law_pen_here"] spNum)
    (D1 : Df P w K mg base 2 "_law_pick" ["_law_pen_here", "_law_some"] spPick) (D2 : Df P w K mg base 7 "_law_heard" ["_law_value_so"] (spHeard K C)) (D3 : Df P w K mg base 3 "_law_bent" ["_law_pen_here", "_law_words"] spBent) (D4 : Df P w K mg base 8 "_law_read_right" ["_law_words"] spRight) : FnOk P w K mg base CX0 9 f fd ["_law_script"] (spLaw K) := by
  obtain ⟨f0, fd0, G0, g0, k0, b0⟩ := D0.ex
  obtain ⟨f5, fd5, G5, g5, k5, b5⟩ := D5.ex
  obtain ⟨f6, fd6, G6, g6, k6, b6⟩ := D6.ex
  obtain ⟨TK, _, _, ⟨fs, RS, hs, hsf⟩⟩ := id TM
  obtain ⟨TC, IT, gC, ⟨fm, fdm, MM, GM, bM⟩⟩ := TK
  refine F.ok scLaw (fun vs H Q E h => ?_) (fun cdv A outer s H vs Q E hr h => ?_)
  · obtain ⟨a, ns, rfl, _⟩ := h
    rfl
  · obtain ⟨a, ns, rfl, hS, hlen, kk⟩ := h
    have hr1 : Room 1 _ := hr.mono (by decide)
    have hr3 : Room 3 _ := hr.mono (by decide)
    have hr5 : Room 5 _ := hr.mono (by decide)
    obtain ⟨tE, hE, qE⟩ := law_end (outer := outer) (H := H) (E := E) T hr D4
    obtain ⟨tO, hO, qO⟩ := law_cmp (outer := outer) (H := H) (E := E) T mstr TM R kC hr D1 D2 D3 D4
    refine ⟨_, pss_cons (ps_set (i := 1) scLaw.nd rfl (.inr rfl) (pe_call G0 hr1 (by rfl) g0 k0 b0 .nil pass0 (pa_cons (pv 0) pa_nil)))
      (pss_cons (ps_for PassesOwn.never rfl (pi_range1 rfl T.range (pa_cons pe_int pa_nil)) (pg_name (i := 2) scLaw.nd rfl (.inl rfl))
        (pss_cons (ps_set (i := 3) scLaw.nd rfl (.inl rfl) (pe_op op_add pe_int (pe_call G5 hr1 (by rfl) g5 k5 b5 .nil pass0 (pa_cons (pv 1) (pa_cons pe_int pa_nil)))))
        (pss_cons (ps_par (i := 4) (j := 5) rfl scLaw.nd rfl rfl (by decide) rfl rfl (pa_cons (pe_lc (own := [("_law_k", 6)]) (g := gName 6) (tt := tYes) (te := tCall spNum [] E0 (tCons (tVar 1) tNil)) (by rfl) scLaw.nd (pi_range1 rfl T.range (pa_cons (pv 3) pa_nil)) (blkOk_by (own := [("_law_k", 6)]) (N := nLaw) (sc := defScope sLaw) (by decide +kernel))
            (fun _ _ _ _ _ => pg_name (i := 6) scLaw.nd rfl (.inl rfl)) (fun _ _ _ _ _ => pts_nil) (fun _ _ _ _ _ => pe_call G6 hr3 (by rfl) g6 k6 b6 .nil pass0 (pa_cons (pv 1) pa_nil))) (pa_cons (pe_call G6 hr3 (by rfl) g6 k6 b6 .nil pass0 (pa_cons (pv 1) pa_nil)) pa_nil)) (by rfl))
        (pss_cons (ps_par (i := 7) (j := 8) rfl scLaw.nd rfl rfl (by decide) rfl rfl (pa_cons (pe_make MM GM hr5 (by rfl) gC bM .nil pass0 (pa_cons (pv 4) (pa_cons (pv 5) pa_nil)))
            (pa_cons (pe_op op_cat (pe_lc (own := [("_law_part", 9)]) (g := gName 9) (tt := tYes) (te := tCB (fun xs H Q => ∃ i, xs = [V.int i] ∧ i.natAbs.log2 < 1920 ∧ Q (V.str (Str.ofString (toString i))) H) (tCons (tVar 9) tNil)) (by rfl) scLaw.nd (pi_list (pv 4)) (blkOk_by (own := [("_law_part", 9)]) (N := nLaw) (sc := defScope sLaw) (by decide +kernel))
              (fun _ _ _ _ _ => pg_name (i := 9) scLaw.nd rfl (.inl rfl)) (fun _ _ _ _ _ => pts_nil) (fun _ _ _ _ _ => pe_callTy call_str_int (by rfl) mstr (by decide +kernel) (pa_cons (pv 9) pa_nil))) (pe_lst (pa_cons pe_str (pa_cons (pe_callTy call_str_int (by rfl) mstr (by decide +kernel) (pa_cons (pv 5) pa_nil)) pa_nil)))) pa_nil)) (by rfl)) hO)))) hE), ?_⟩
    refine ⟨_, rfl, a, ns, rfl, hS, hlen, fun p L H1 np s1 pn0 => ⟨10, rfl, by decide, by decide, ?_⟩⟩
    refine for_range (n := 10) (fun i σ G => (∃ v2 v3 v4 v5 v6 v7 v8 v9 v10 v11 v12 : Option V, σ = [some (.ref a), some (.ref p), v2, v3, v4, v5, v6, v7, v8, v9, v10, v11, v12]) ∧ Pen L G p (100 * (i : Int)))
      ⟨⟨_, _, _, _, _, _, _, _, _, _, _, rfl⟩, by simpa using pn0⟩ ?_ ?_
    · rintro i σ G hi ⟨⟨v2, v3, v4, v5, v6, v7, v8, v9, v10, v11, v12, rfl⟩, pn⟩
      refine ⟨_, rfl, p, L, _, _, rfl, by decide, by decide, by omega, pn, fun d G1 t1 p1 d0 d1 => ⟨_, _, rfl, rfl, ?_⟩⟩
      obtain ⟨j, rfl⟩ := Int.eq_ofNat_of_zero_le d0
      have hj : j ≤ 4 := by omega
      refine ⟨_, rfl, _, rfl, by omega, by omega, fun D nD => ?_⟩
      have Dp := p1.ne nD
      have LD : L ≠ D := by
        obtain ⟨_, _, _, _, h2, _⟩ := p1
        exact ne_of_none h2 nD
      rw [show ((1 : Int) + (j : Int)).toNat = j + 1 from by omega]
      refine lc_it (n := j + 1) walk_range (fun i' H' => ∃ cs : List Int, cs.length = i' ∧ AllN cs ∧ H' D = some (.lst (cs.map V.int)) ∧ Pen L H' p (100 * (i : Int) + 1 + 3 * i')) ⟨[], rfl, fun z m => (nomatch m), upd_same, (p1.new nD).mono (by omega)⟩ (fun _ _ _ _ => trivial) (fun i' v H3 H' hi' h y => ?_) (fun G2 h => ?_)
      · obtain ⟨rfl, rfl⟩ := y
        obtain ⟨cs, e1, e2, e3, e4⟩ := h
        refine ⟨rfl, _, rfl, p, L, _, rfl, by omega, e4, fun n H4 hn bt pn4 => ?_⟩
        refine ⟨_, bt _ _ Dp e3, by rw [List.length_map]; exact Nat.lt_of_lt_of_le (show _ < 1000 by omega) (by decide), cs ++ [n], by simp [e1], ?_, ?_, ?_⟩
        · intro z m
          rcases List.mem_append.mp m with m | m
          · exact e2 z m
          · have : z = n := by simpa using m
            rw [this]; exact hn
        · rw [upd_same]; simp
        · exact (pn4.put Dp LD).mono (by omega)
      · obtain ⟨cs, e1, e2, e3, e4⟩ := h
        refine ⟨_, rfl, p, L, _, rfl, by omega, e4, fun far G3 hfar bt p3 => ⟨_, _, rfl, ?_⟩⟩
        have e3' := bt _ _ Dp e3
        refine ⟨_, rfl, _, rfl, mk_of (ns := cs) (.inl e3') (by omega) (by omega) fun x G4 s4 tx => ?_⟩
        have e34 := s4 _ _ e3'
        refine ⟨_, rfl, D, rfl, ⟨_, SqL.of e34⟩, fun U nU => ?_⟩
        have DU := ne_of_none e34 nU
        have wk : Walk (Itl K D) cs.length (fun H => SqL K H D (cs.map V.int)) (YAt (cs.map V.int)) := by
          have w := walk_list (K := K) (a := D) (xs := cs.map V.int)
          rw [List.length_map] at w
          exact w
        refine lc_pureV (n := cs.length) wk ((cs.map txc).map wv) (by simp) (by omega) (fun H' h => SqL.of (h _ _ DU e34)) (fun i' v H5 H' r hi' hr bt' _ y R Wk k => ?_) (fun G5 bt5 hU => ?_)
        · obtain ⟨rfl, hv⟩ := y
          obtain ⟨m, hm, rfl⟩ := int_at hv
          have er : r = wv (txc m) := by
            rw [List.getElem?_map, List.getElem?_map, hm] at hr
            exact (Option.some.inj hr).symm
          subst er
          refine ⟨rfl, _, rfl, m, rfl, nn_log (e2 m (List.mem_of_getElem? hm)).m, ?_⟩
          have et : Str.ofString (toString m) = Sx (txc m) := tx_S m
          rw [et]
          exact k _ (Same.refl _)
        · have s5 : Same G4 G5 := fun c o e => bt5 c o (ne_of_none e nU) e
          refine ⟨_, rfl, far, rfl, nn_log hfar.m, (by show 2 ≤ sizeLine; decide), fun Z nZ => ?_⟩
          have et : Str.ofString (toString far) = Sx (txc far) := tx_S far
          rw [et]
          have hZ : upd G5 Z (.lst [V.str (Str.ofString ">="), V.str (Sx (txc far))]) Z = some (.lst [V.str (Str.ofString ">="), V.str (Sx (txc far))]) := upd_same
          have sZ := same_new (o := .lst [V.str (Str.ofString ">="), V.str (Sx (txc far))]) nZ
          refine ⟨U, Z, _, _, rfl, rfl, sZ _ _ hU, hZ, le_size (by simp; omega), fun W nW => ⟨_, _, rfl, ?_⟩⟩
          have sW := same_new (o := .lst ((cs.map txc).map wv ++ [V.str (Str.ofString ">="), V.str (Sx (txc far))])) nW
          have sA := s4.trans (s5.trans (sZ.trans sW))
          have pA := p3.keep sA
          refine qO _ _ p L x W _ far cs _ _ _ _ _ _ _ _ _ _ pA (by omega) (tx.keep (s5.trans (sZ.trans sW))) (by omega) (by omega) e2 hfar ?_ ((p3.keep (s4.trans (s5.trans sZ))).ne nW) fun u8 u10 u11 G' pn' => ?_
          · unfold wT
            rw [List.map_append]
            exact upd_same
          · exact ⟨⟨_, _, _, _, _, _, _, _, _, _, _, rfl⟩, pn'.mono (by omega)⟩
    · rintro σ G ⟨⟨v2, v3, v4, v5, v6, v7, v8, v9, v10, v11, v12, rfl⟩, pn⟩
      exact qE _ G _ _ _ _ _ _ _ _ _ _ _ _ _ fun G' => kk G'
end
end Ev
namespace Ev
open PySem L2 PySem.Spec PyProof.Rows
theorem kit_clsB {K : PySem.W.Frag} {t : Value} {C : Addr} {b : Bool} (h1 : PySem.W.isClsIn K C = true) (h2 : PySem.W.typeIn K (.ref C) = some (.type "type")) (h3 : PySem.W.subIn K t (.ref C) = some b) : PySem.W.kitCls K t (.ref C) = some b := by
  have h1 : (PySem.W.clsIn K C).isSome = true := h1
  unfold PySem.W.kitCls
  simp only [h1, h2, h3]
  cases b <;> decide
theorem exm_own {K : PySem.W.Frag} {t : Value} {C : Addr} (h1 : PySem.W.isClsIn K C = true) (h2 : PySem.W.typeIn K (.ref C) = some (.type "type")) (h3 : PySem.W.subIn K t (.ref C) = some true) (h4 : PySem.W.subIn K (.ref C) (.type "BaseException") = some true) : PySem.W.exmOne K t (.ref C) = some true := by
  unfold PySem.W.exmOne
  rw [h4, if_pos (by decide)]
  exact kit_clsB h1 h2 h3
theorem kb_read {K : PySem.W.Frag} {x qual : Str} {st : Stmt} {f : Addr} {fd : FuncData} (F : Fun K x qual st f fd)
    (h : ∀ (kV doc pm : Value) (an : Option Addr) (cdv ct a b : Value), bindArgs (PySem.W.fnOf x qual (defArgs st) (defBody st) (defScope st) .none kV doc pm an cdv ct) ⟨[a], (["text"] : List Str).zip [b]⟩ = pure ((["cls", "text"] : List Str).zip [a, b])) : KBinds K fd ["cls", "text"] ["text"] gRd gRd := by
  obtain ⟨oc, od, kV, doc, pm, an, cdv, ct, osl, rfl, lk, hcd⟩ := F.ex
  refine ⟨fun s us ws _ hl => ?_, gRd_rel⟩
  obtain ⟨a, b, rfl, rfl⟩ := gRd_len hl
  exact .of_eq (h _ _ _ _ _ _ _ _)
set_option maxHeartbeats 4000000 in
theorem all_mk {l : PySem.W.OpenLaw} {w : World} {K : PySem.W.Frag} {h : Heap} {mg : Str → Option Value} {f0 f1 f2 f3 f4 f5 f6 f7 f8 f9 f10 f11 f12 f13 f14 f15 f16 f17 f18 f19 C f30 f33 f40 pR f41 BT FE f42 fa : Addr} {od0 an0 od1 an1 od2 an2 od3 an3 od4 an4 od5 an5 od6 an6 od7 an7 od8 an8 od9 an9 od10 an10 od11 an11 od12 an12 od13 an13 od14 an14 od15 an15 od16 an16 od17 an17 od18 an18 od19 an19 od30 an30 od33 an33 od40 an40 od41 an41 od42 an42 : Option Addr} {sl0 sl1 sl2 sl3 sl4 sl5 sl6 sl7 sl8 sl9 sl10 sl11 sl12 sl13 sl14 sl15 sl16 sl17 sl18 sl19 sl30 sl33 sl40 sl41 sl42 : Array (Option Value)} {oc0 kV0 dc0 pm0 cd0 ct0 oc1 kV1 dc1 pm1 cd1 ct1 oc2 kV2 dc2 pm2 cd2 ct2 oc3 kV3 dc3 pm3 cd3 ct3 oc4 kV4 dc4 pm4 cd4 ct4 oc5 kV5 dc5 pm5 cd5 ct5 oc6 kV6 dc6 pm6 cd6 ct6 oc7 kV7 dc7 pm7 cd7 ct7 oc8 kV8 dc8 pm8 cd8 ct8 oc9 kV9 dc9 pm9 cd9 ct9 oc10 kV10 dc10 pm10 cd10 ct10 oc11 kV11 dc11 pm11 cd11 ct11 oc12 kV12 dc12 pm12 cd12 ct12 oc13 kV13 dc13 pm13 cd13 ct13 oc14 kV14 dc14 pm14 cd14 ct14 oc15 kV15 dc15 pm15 cd15 ct15 oc16 kV16 dc16 pm16 cd16 ct16 oc17 kV17 dc17 pm17 cd17 ct17 oc18 kV18 dc18 pm18 cd18 ct18 oc19 kV19 dc19 pm19 cd19 ct19 oc30 kV30 dc30 pm30 cd30 ct30 oc33 kV33 dc33 pm33 cd33 ct33 oc40 kV40 dc40 pm40 cd40 ct40 oc41 kV41 dc41 pm41 cd41 ct41 oc42 kV42 dc42 pm42 cd42 ct42 : Value} {restR : List Value} {tM tP tQ : Tok} {nmBT qBT nsBT bsBT bmBT snBT subBT abBT colBT ddBT k0BT k1BT k2BT k3BT k5BT : _} (X : K.In h) (G : h.Ns mainGlobals mg) (hfa : mg "law" = some (.ref fa))
    (a0 : PySem.W.nsIn K mainGlobals "is_integer" = some (some (.ref f0)))
    (l0 : K.lookup f0 = some ⟨oc0, od0, .func (PySem.W.fnOf "is_integer" "is_integer" (defArgs sIsInt) (defBody sIsInt) (defScope sIsInt) .none kV0 dc0 pm0 an0 cd0 ct0), sl0⟩)
    (c0 : PySem.W.codeIn K cd0 "is_integer" = true)
    (k0 : PySem.W.keepIn K (.ref f0) = true)
    (a1 : PySem.W.nsIn K mainGlobals "is_list_of_integers" = some (some (.ref f1)))
    (l1 : K.lookup f1 = some ⟨oc1, od1, .func (PySem.W.fnOf "is_list_of_integers" "is_list_of_integers" (defArgs sIsL) (defBody sIsL) (defScope sIsL) .none kV1 dc1 pm1 an1 cd1 ct1), sl1⟩)
    (c1 : PySem.W.codeIn K cd1 "is_list_of_integers" = true)
    (k1 : PySem.W.keepIn K (.ref f1) = true)
    (a2 : PySem.W.nsIn K mainGlobals "are_parts" = some (some (.ref f2)))
    (l2 : K.lookup f2 = some ⟨oc2, od2, .func (PySem.W.fnOf "are_parts" "are_parts" (defArgs sAreP) (defBody sAreP) (defScope sAreP) .none kV2 dc2 pm2 an2 cd2 ct2), sl2⟩)
    (c2 : PySem.W.codeIn K cd2 "are_parts" = true)
    (k2 : PySem.W.keepIn K (.ref f2) = true)
    (a3 : PySem.W.nsIn K mainGlobals "number_word" = some (some (.ref f3)))
    (l3 : K.lookup f3 = some ⟨oc3, od3, .func (PySem.W.fnOf "number_word" "number_word" (defArgs sWord) (defBody sWord) (defScope sWord) .none kV3 dc3 pm3 an3 cd3 ct3), sl3⟩)
    (c3 : PySem.W.codeIn K cd3 "number_word" = true)
    (k3 : PySem.W.keepIn K (.ref f3) = true)
    (a4 : PySem.W.nsIn K mainGlobals "number_words" = some (some (.ref f4)))
    (l4 : K.lookup f4 = some ⟨oc4, od4, .func (PySem.W.fnOf "number_words" "number_words" (defArgs sWords) (defBody sWords) (defScope sWords) .none kV4 dc4 pm4 an4 cd4 ct4), sl4⟩)
    (c4 : PySem.W.codeIn K cd4 "number_words" = true)
    (k4 : PySem.W.keepIn K (.ref f4) = true)
    (a5 : PySem.W.nsIn K mainGlobals "read_number" = some (some (.ref f5)))
    (l5 : K.lookup f5 = some ⟨oc5, od5, .func (PySem.W.fnOf "read_number" "read_number" (defArgs sReadN) (defBody sReadN) (defScope sReadN) .none kV5 dc5 pm5 an5 cd5 ct5), sl5⟩)
    (c5 : PySem.W.codeIn K cd5 "read_number" = true)
    (k5 : PySem.W.keepIn K (.ref f5) = true)
    (a6 : PySem.W.nsIn K mainGlobals "first_numbers" = some (some (.ref f6)))
    (l6 : K.lookup f6 = some ⟨oc6, od6, .func (PySem.W.fnOf "first_numbers" "first_numbers" (defArgs sFirst) (defBody sFirst) (defScope sFirst) .none kV6 dc6 pm6 an6 cd6 ct6), sl6⟩)
    (c6 : PySem.W.codeIn K cd6 "first_numbers" = true)
    (k6 : PySem.W.keepIn K (.ref f6) = true)
    (a7 : PySem.W.nsIn K mainGlobals "kept" = some (some (.ref f7)))
    (l7 : K.lookup f7 = some ⟨oc7, od7, .func (PySem.W.fnOf "kept" "kept" (defArgs sKept) (defBody sKept) (defScope sKept) .none kV7 dc7 pm7 an7 cd7 ct7), sl7⟩)
    (c7 : PySem.W.codeIn K cd7 "kept" = true)
    (k7 : PySem.W.keepIn K (.ref f7) = true)
    (a8 : PySem.W.nsIn K mainGlobals "parts_of" = some (some (.ref f8)))
    (l8 : K.lookup f8 = some ⟨oc8, od8, .func (PySem.W.fnOf "parts_of" "parts_of" (defArgs sParts) (defBody sParts) (defScope sParts) .none kV8 dc8 pm8 an8 cd8 ct8), sl8⟩)
    (c8 : PySem.W.codeIn K cd8 "parts_of" = true)
    (k8 : PySem.W.keepIn K (.ref f8) = true)
    (a9 : PySem.W.nsIn K mainGlobals "_law_pen" = some (some (.ref f9)))
    (l9 : K.lookup f9 = some ⟨oc9, od9, .func (PySem.W.fnOf "_law_pen" "_law_pen" (defArgs sPen) (defBody sPen) (defScope sPen) .none kV9 dc9 pm9 an9 cd9 ct9), sl9⟩)
    (c9 : PySem.W.codeIn K cd9 "_law_pen" = true)
    (k9 : PySem.W.keepIn K (.ref f9) = true)
    (a10 : PySem.W.nsIn K mainGlobals "_law_draw" = some (some (.ref f10)))
    (l10 : K.lookup f10 = some ⟨oc10, od10, .func (PySem.W.fnOf "_law_draw" "_law_draw" (defArgs sDraw) (defBody sDraw) (defScope sDraw) .none kV10 dc10 pm10 an10 cd10 ct10), sl10⟩)
    (c10 : PySem.W.codeIn K cd10 "_law_draw" = true)
    (k10 : PySem.W.keepIn K (.ref f10) = true)
    (a11 : PySem.W.nsIn K mainGlobals "_law_pick" = some (some (.ref f11)))
    (l11 : K.lookup f11 = some ⟨oc11, od11, .func (PySem.W.fnOf "_law_pick" "_law_pick" (defArgs sPick) (defBody sPick) (defScope sPick) .none kV11 dc11 pm11 an11 cd11 ct11), sl11⟩)
    (c11 : PySem.W.codeIn K cd11 "_law_pick" = true)
    (k11 : PySem.W.keepIn K (.ref f11) = true)
    (a12 : PySem.W.nsIn K mainGlobals "_law_small" = some (some (.ref f12)))
    (l12 : K.lookup f12 = some ⟨oc12, od12, .func (PySem.W.fnOf "_law_small" "_law_small" (defArgs sSmall) (defBody sSmall) (defScope sSmall) .none kV12 dc12 pm12 an12 cd12 ct12), sl12⟩)
    (c12 : PySem.W.codeIn K cd12 "_law_small" = true)
    (k12 : PySem.W.keepIn K (.ref f12) = true)
    (a13 : PySem.W.nsIn K mainGlobals "_law_number" = some (some (.ref f13)))
    (l13 : K.lookup f13 = some ⟨oc13, od13, .func (PySem.W.fnOf "_law_number" "_law_number" (defArgs sNum) (defBody sNum) (defScope sNum) .none kV13 dc13 pm13 an13 cd13 ct13), sl13⟩)
    (c13 : PySem.W.codeIn K cd13 "_law_number" = true)
    (k13 : PySem.W.keepIn K (.ref f13) = true)
    (a14 : PySem.W.nsIn K mainGlobals "_law_is_number" = some (some (.ref f14)))
    (l14 : K.lookup f14 = some ⟨oc14, od14, .func (PySem.W.fnOf "_law_is_number" "_law_is_number" (defArgs sIsNum) (defBody sIsNum) (defScope sIsNum) .none kV14 dc14 pm14 an14 cd14 ct14), sl14⟩)
    (c14 : PySem.W.codeIn K cd14 "_law_is_number" = true)
    (k14 : PySem.W.keepIn K (.ref f14) = true)
    (a15 : PySem.W.nsIn K mainGlobals "_law_due" = some (some (.ref f15)))
    (l15 : K.lookup f15 = some ⟨oc15, od15, .func (PySem.W.fnOf "_law_due" "_law_due" (defArgs sDue) (defBody sDue) (defScope sDue) .none kV15 dc15 pm15 an15 cd15 ct15), sl15⟩)
    (c15 : PySem.W.codeIn K cd15 "_law_due" = true)
    (k15 : PySem.W.keepIn K (.ref f15) = true)
    (a16 : PySem.W.nsIn K mainGlobals "_law_heard" = some (some (.ref f16)))
    (l16 : K.lookup f16 = some ⟨oc16, od16, .func (PySem.W.fnOf "_law_heard" "_law_heard" (defArgs sHeard) (defBody sHeard) (defScope sHeard) .none kV16 dc16 pm16 an16 cd16 ct16), sl16⟩)
    (c16 : PySem.W.codeIn K cd16 "_law_heard" = true)
    (k16 : PySem.W.keepIn K (.ref f16) = true)
    (a17 : PySem.W.nsIn K mainGlobals "_law_read_right" = some (some (.ref f17)))
    (l17 : K.lookup f17 = some ⟨oc17, od17, .func (PySem.W.fnOf "_law_read_right" "_law_read_right" (defArgs sRight) (defBody sRight) (defScope sRight) .none kV17 dc17 pm17 an17 cd17 ct17), sl17⟩)
    (c17 : PySem.W.codeIn K cd17 "_law_read_right" = true)
    (k17 : PySem.W.keepIn K (.ref f17) = true)
    (a18 : PySem.W.nsIn K mainGlobals "_law_bent" = some (some (.ref f18)))
    (l18 : K.lookup f18 = some ⟨oc18, od18, .func (PySem.W.fnOf "_law_bent" "_law_bent" (defArgs sBent) (defBody sBent) (defScope sBent) .none kV18 dc18 pm18 an18 cd18 ct18), sl18⟩)
    (c18 : PySem.W.codeIn K cd18 "_law_bent" = true)
    (k18 : PySem.W.keepIn K (.ref f18) = true)
    (a19 : PySem.W.nsIn K mainGlobals "law" = some (some (.ref f19)))
    (l19 : K.lookup f19 = some ⟨oc19, od19, .func (PySem.W.fnOf "law" "law" (defArgs sLaw) (defBody sLaw) (defScope sLaw) .none kV19 dc19 pm19 an19 cd19 ct19), sl19⟩)
    (c19 : PySem.W.codeIn K cd19 "law" = true)
    (k19 : PySem.W.keepIn K (.ref f19) = true)
    (aC : PySem.W.nsIn K mainGlobals "Test" = some (some (.ref C)))
    (pgC : PySem.W.plainGet K C Str.empty = true)
    (hdC : PySem.W.hasDictIn K C = true)
    (poC : PySem.W.plainOver K C = true)
    (saC : PySem.W.findIn K (.ref C) "__setattr__" = some (some (.builtin "object.__setattr__")))
    (mkC : PySem.W.makesIn K C = true)
    (kcC : PySem.W.keepIn K (.ref C) = true)
    (n0C : PySem.W.findIn K (.ref C) "parts" = some none)
    (n1C : PySem.W.findIn K (.ref C) "bound" = some none)
    (hcC : PySem.W.findIn K (.ref C) "__class__" = some (some (.builtin "object.__class__")))
    (moC : PySem.W.mroIn K C (.type "object") = some true)
    (icC : PySem.W.isClsIn K C = true)
    (ttC : PySem.W.typeIn K (.ref C) = some (.type "type"))
    (neC : PySem.W.findIn K (.ref C) "__ne__" = some (some (.builtin "object.__ne__")))
    (ksC : PySem.W.kitOne K (.ref C) (.type "str") = some false)
    (ikn : PySem.W.specialIn K (.builtin "object.__class__") "__get__" = some (some (.builtin "getset_descriptor.__get__")))
    (ikt : PySem.W.takesIn K (.builtin "object.__class__") = some true)
    (m30 : PySem.W.findIn K (.ref C) "__init__" = some (some (.ref f30)))
    (i30 : PySem.W.isFn K (.ref f30) = true)
    (l30 : K.lookup f30 = some ⟨oc30, od30, .func (PySem.W.fnOf "__init__" "Test.__init__" (defArgs sTInit) (defBody sTInit) (defScope sTInit) .none kV30 dc30 pm30 an30 cd30 ct30), sl30⟩)
    (c30 : PySem.W.codeIn K cd30 "Test.__init__" = true)
    (k30 : PySem.W.keepIn K (.ref f30) = true)
    (m33 : PySem.W.findIn K (.ref C) "__eq__" = some (some (.ref f33)))
    (i33 : PySem.W.isFn K (.ref f33) = true)
    (l33 : K.lookup f33 = some ⟨oc33, od33, .func (PySem.W.fnOf "__eq__" "Test.__eq__" (defArgs sTEq) (defBody sTEq) (defScope sTEq) .none kV33 dc33 pm33 an33 cd33 ct33), sl33⟩)
    (c33 : PySem.W.codeIn K cd33 "Test.__eq__" = true)
    (k33 : PySem.W.keepIn K (.ref f33) = true)
    (m40 : PySem.W.findIn K (.ref C) "__str__" = some (some (.ref f40)))
    (i40 : PySem.W.isFn K (.ref f40) = true)
    (l40 : K.lookup f40 = some ⟨oc40, od40, .func (PySem.W.fnOf "__str__" "Test.__str__" (defArgs sTStr) (defBody sTStr) (defScope sTStr) .none kV40 dc40 pm40 an40 cd40 ct40), sl40⟩)
    (c40 : PySem.W.codeIn K cd40 "Test.__str__" = true)
    (k40 : PySem.W.keepIn K (.ref f40) = true)
    (fcR : PySem.W.findCls K (.ref C) (.type "type") "read" = some (.get (.builtin "classmethod.__get__") (.ref pR) .none (.ref C)))
    (rcR : PySem.W.recIn K pR "classmethod" = some (.ref f41 :: restR))
    (l41 : K.lookup f41 = some ⟨oc41, od41, .func (PySem.W.fnOf "read" "Test.read" (defArgs sRead) (defBody sRead) (defScope sRead) .none kV41 dc41 pm41 an41 cd41 ct41), sl41⟩)
    (c41 : PySem.W.codeIn K cd41 "Test.read" = true)
    (k41 : PySem.W.keepIn K (.ref f41) = true)
    (fnR : PySem.W.fnIn K f41 = true)
    (rdC : PySem.W.readsIn K C (.type "type") = true)
    (gtC : PySem.W.specialIn K (.ref C) "__getattribute__" = some (some (.builtin "type.__getattribute__")))
    (aBT : PySem.W.nsIn K mainGlobals "BadText" = some (some (.ref BT)))
    (icBT : PySem.W.isClsIn K BT = true)
    (ttBT : PySem.W.typeIn K (.ref BT) = some (.type "type"))
    (aFE : PySem.W.nsIn K mainGlobals "FairError" = some (some (.ref FE)))
    (icFE : PySem.W.isClsIn K FE = true)
    (ttFE : PySem.W.typeIn K (.ref FE) = some (.type "type"))
    (suBF : PySem.W.subIn K (.ref BT) (.ref FE) = some true)
    (suFX : PySem.W.subIn K (.ref FE) (.type "BaseException") = some true)
    (gaBT : PySem.W.findIn K (.ref BT) "__getattribute__" = some (some (.builtin "BaseException.__getattribute__")))
    (ggBT : PySem.W.findIn K (.ref BT) "__getattr__" = some none)
    (hdBT : PySem.W.hasDictIn K BT = true)
    (hcBT : PySem.W.findIn K (.ref BT) "__class__" = some (some (.builtin "object.__class__")))
    (moBT : PySem.W.mroIn K BT (.type "object") = some true)
    (saBT : PySem.W.findIn K (.ref BT) "__setattr__" = some (some (.builtin "object.__setattr__")))
    (exBT : PySem.W.subIn K (.ref BT) (.type "BaseException") = some true)
    (keBT : PySem.W.keepIn K (.ref BT) = true)
    (nlBT : PySem.W.findIn K (.ref BT) "line" = some none)
    (nwBT : PySem.W.findIn K (.ref BT) "word" = some none)
    (lxBT : K.lookup BT = some (excClassObj nmBT qBT BT nsBT bsBT bmBT true snBT subBT abBT colBT ddBT k0BT k1BT k2BT k3BT k5BT "ValueError.__new__"))
    (rxBT : PySem.HandSPX.refsVE bmBT = true)
    (m42 : PySem.W.findIn K (.ref BT) "__init__" = some (some (.ref f42)))
    (l42 : K.lookup f42 = some ⟨oc42, od42, .func (PySem.W.fnOf "__init__" "BadText.__init__" (defArgs sBText) (defBody sBText) (defScope sBText) .none kV42 dc42 pm42 an42 cd42 ct42), sl42⟩)
    (c42 : PySem.W.codeIn K cd42 "BadText.__init__" = true)
    (k42 : PySem.W.keepIn K (.ref f42) = true)
    (ty42 : PySem.W.typeIn K (.ref f42) = some (.type "function"))
    (hgP : PySem.W.nsIn K mainGlobals "PIECE" = some (some (.int 10000000000000000000000000000000000000000000000000000000000000000 tP)))
    (hgQ : PySem.W.nsIn K mainGlobals "PIECE_LENGTH" = some (some (.int 64 tQ)))
    (hgM : PySem.W.nsIn K mainGlobals "MOST_PARTS" = some (some (.int 5 tM)))
    (zint : PySem.W.nsIn K mainGlobals "int" = some none)
    (zlen : PySem.W.nsIn K mainGlobals "len" = some none)
    (zabs : PySem.W.nsIn K mainGlobals "abs" = some none)
    (zlist : PySem.W.nsIn K mainGlobals "list" = some none)
    (zmin : PySem.W.nsIn K mainGlobals "min" = some none)
    (zmax : PySem.W.nsIn K mainGlobals "max" = some none)
    (zisinstance : PySem.W.nsIn K mainGlobals "isinstance" = some none)
    (zbool : PySem.W.nsIn K mainGlobals "bool" = some none)
    (ztuple : PySem.W.nsIn K mainGlobals "tuple" = some none)
    (zall : PySem.W.nsIn K mainGlobals "all" = some none)
    (zrange : PySem.W.nsIn K mainGlobals "range" = some none)
    (zrepr : PySem.W.nsIn K mainGlobals "repr" = some none)
    (zstr : PySem.W.nsIn K mainGlobals "str" = some none)
    (zdict : PySem.W.nsIn K mainGlobals "dict" = some none)
    (zany : PySem.W.nsIn K mainGlobals "any" = some none) :
    ∃ fd : FuncData, (∀ (s : Shared) (v : Value), BindsTo s fd ⟨[v], []⟩ [("_law_script", v)]) ∧ ∀ base : Heap, K.In base → base.Ns mainGlobals mg → FnG l.prog w K mg base 9 fa fd ["_law_script"] (spLaw K) := by
  have e := hfa.symm.trans (PySem.W.mg_of X G a19)
  cases e
  have F0 := fun_mk (st := sIsInt) l0 c0 k0
  have b0 := F0.binds (ps := ["value"]) fun _ _ _ _ _ _ us hl => match us, hl with | [_], _ => rfl
  have F1 := fun_mk (st := sIsL) l1 c1 k1
  have b1 := F1.binds (ps := ["value"]) fun _ _ _ _ _ _ us hl => match us, hl with | [_], _ => rfl
  have F2 := fun_mk (st := sAreP) l2 c2 k2
  have b2 := F2.binds (ps := ["value"]) fun _ _ _ _ _ _ us hl => match us, hl with | [_], _ => rfl
  have F3 := fun_mk (st := sWord) l3 c3 k3
  have b3 := F3.binds (ps := ["number"]) fun _ _ _ _ _ _ us hl => match us, hl with | [_], _ => rfl
  have F4 := fun_mk (st := sWords) l4 c4 k4
  have b4 := F4.binds (ps := ["numbers"]) fun _ _ _ _ _ _ us hl => match us, hl with | [_], _ => rfl
  have F5 := fun_mk (st := sReadN) l5 c5 k5
  have b5 := F5.binds (ps := ["word"]) fun _ _ _ _ _ _ us hl => match us, hl with | [_], _ => rfl
  have F6 := fun_mk (st := sFirst) l6 c6 k6
  have b6 := F6.binds (ps := ["words"]) fun _ _ _ _ _ _ us hl => match us, hl with | [_], _ => rfl
  have F7 := fun_mk (st := sKept) l7 c7 k7
  have b7 := F7.binds (ps := ["value"]) fun _ _ _ _ _ _ us hl => match us, hl with | [_], _ => rfl
  have F8 := fun_mk (st := sParts) l8 c8 k8
  have b8 := F8.binds (ps := ["value"]) fun _ _ _ _ _ _ us hl => match us, hl with | [_], _ => rfl
  have F9 := fun_mk (st := sPen) l9 c9 k9
  have b9 := F9.binds (ps := ["_law_script"]) fun _ _ _ _ _ _ us hl => match us, hl with | [_], _ => rfl
  have F10 := fun_mk (st := sDraw) l10 c10 k10
  have b10 := F10.binds (ps := ["_law_pen_here", "_law_top_so"]) fun _ _ _ _ _ _ us hl => match us, hl with | [_, _], _ => rfl
  have F11 := fun_mk (st := sPick) l11 c11 k11
  have b11 := F11.binds (ps := ["_law_pen_here", "_law_some"]) fun _ _ _ _ _ _ us hl => match us, hl with | [_, _], _ => rfl
  have F12 := fun_mk (st := sSmall) l12 c12 k12
  have b12 := F12.binds (ps := ["_law_pen_here", "_law_most_so"]) fun _ _ _ _ _ _ us hl => match us, hl with | [_, _], _ => rfl
  have F13 := fun_mk (st := sNum) l13 c13 k13
  have b13 := F13.binds (ps := ["_law_pen_here"]) fun _ _ _ _ _ _ us hl => match us, hl with | [_], _ => rfl
  have F14 := fun_mk (st := sIsNum) l14 c14 k14
  have b14 := F14.binds (ps := ["_law_word"]) fun _ _ _ _ _ _ us hl => match us, hl with | [_], _ => rfl
  have F15 := fun_mk (st := sDue) l15 c15 k15
  have b15 := F15.binds (ps := ["_law_words"]) fun _ _ _ _ _ _ us hl => match us, hl with | [_], _ => rfl
  have F16 := fun_mk (st := sHeard) l16 c16 k16
  have b16 := F16.binds (ps := ["_law_value_so"]) fun _ _ _ _ _ _ us hl => match us, hl with | [_], _ => rfl
  have F17 := fun_mk (st := sRight) l17 c17 k17
  have b17 := F17.binds (ps := ["_law_words"]) fun _ _ _ _ _ _ us hl => match us, hl with | [_], _ => rfl
  have F18 := fun_mk (st := sBent) l18 c18 k18
  have b18 := F18.binds (ps := ["_law_pen_here", "_law_words"]) fun _ _ _ _ _ _ us hl => match us, hl with | [_, _], _ => rfl
  have F19 := fun_mk (st := sLaw) l19 c19 k19
  have b19 := F19.binds (ps := ["_law_script"]) fun _ _ _ _ _ _ us hl => match us, hl with | [_], _ => rfl
  have F30 := fun_mk (st := sTInit) l30 c30 k30
  have b30 := F30.binds (ps := ["self", "parts", "bound"]) fun _ _ _ _ _ _ us hl => match us, hl with | [_, _, _], _ => rfl
  have F33 := fun_mk (st := sTEq) l33 c33 k33
  have b33 := F33.binds (ps := ["self", "other"]) fun _ _ _ _ _ _ us hl => match us, hl with | [_, _], _ => rfl
  have F40 := fun_mk (st := sTStr) l40 c40 k40
  have b40 := F40.binds (ps := ["self"]) fun _ _ _ _ _ _ us hl => match us, hl with | [_], _ => rfl
  have F41 := fun_mk (st := sRead) l41 c41 k41
  have b41 := F41.binds (ps := ["cls", "text"]) fun _ _ _ _ _ _ us hl => match us, hl with | [_, _], _ => rfl
  have F42 := fun_mk (st := sBText) l42 c42 k42
  have b42 := F42.binds (ps := ["self", "line", "word"]) fun _ _ _ _ _ _ us hl => match us, hl with | [_, _, _], _ => rfl
  have T : Blt mg := ⟨(PySem.W.mg_none_of X G zint), (PySem.W.mg_none_of X G zlen), (PySem.W.mg_none_of X G zabs), (PySem.W.mg_none_of X G zlist), (PySem.W.mg_none_of X G zmin), (PySem.W.mg_none_of X G zmax), (PySem.W.mg_none_of X G zisinstance), (PySem.W.mg_none_of X G zbool), (PySem.W.mg_none_of X G ztuple), (PySem.W.mg_none_of X G zall), (PySem.W.mg_none_of X G zrange), (PySem.W.mg_none_of X G zrepr)⟩
  have TC : TCls K C := ⟨⟨pgC, hdC, poC, saC⟩, n0C, n1C⟩
  have IT : InsT K C := ⟨hcC, ikn, ikt, moC, icC, ttC⟩
  refine ⟨PySem.W.fnOf "law" "law" (defArgs sLaw) (defBody sLaw) (defScope sLaw) .none kV19 dc19 pm19 an19 cd19 ct19, fun s v => .of_eq rfl, fun base _ _ => ?_⟩
  have d0 : Df l.prog w K mg base 1 "is_integer" ["value"] _ := ⟨f0, _, ok_isInt F0 T, PySem.W.mg_of X G a0, F0.kp, b0⟩
  have d1 : Df l.prog w K mg base 2 "is_list_of_integers" ["value"] _ := ⟨f1, _, ok_isL F1 T d0, PySem.W.mg_of X G a1, F1.kp, b1⟩
  have d2 : Df l.prog w K mg base 3 "are_parts" ["value"] _ := ⟨f2, _, ok_areP F2 T d1 (PySem.W.mg_of X G hgM), PySem.W.mg_of X G a2, F2.kp, b2⟩
  have GI := ok_tInit (P := l.prog) (w := w) (mg := mg) (base := base) F30 T TC d2 d0
  have MK : TMk l.prog w K mg base C := ⟨TC, IT, PySem.W.mg_of X G aC, ⟨_, _, ⟨mkC, m30, i30, kcC⟩, GI, b30⟩⟩
  have GE := ok_tEq (P := l.prog) (w := w) (mg := mg) (base := base) F33 T TC IT (PySem.W.mg_of X G aC)
  have d3 : Df l.prog w K mg base 1 "number_word" ["number"] _ := ⟨f3, _, ok_word F3 (PySem.W.mg_none_of X G zstr) (PySem.W.mg_of X G hgP), PySem.W.mg_of X G a3, F3.kp, b3⟩
  have d4 : Df l.prog w K mg base 2 "number_words" ["numbers"] _ := ⟨f4, _, ok_words F4 d3, PySem.W.mg_of X G a4, F4.kp, b4⟩
  have d5 : Df l.prog w K mg base 1 "read_number" ["word"] _ := ⟨f5, _, ok_readN F5 T (PySem.W.mg_of X G hgQ) (PySem.W.mg_of X G hgP), PySem.W.mg_of X G a5, F5.kp, b5⟩
  have d6 : Df l.prog w K mg base 2 "first_numbers" ["words"] _ := ⟨f6, _, ok_first F6 T (PySem.W.mg_of X G hgM) d5, PySem.W.mg_of X G a6, F6.kp, b6⟩
  have d8 : Df l.prog w K mg base 1 "parts_of" ["value"] _ := ⟨f8, _, ok_parts F8 T (PySem.W.mg_none_of X G zdict), PySem.W.mg_of X G a8, F8.kp, b8⟩
  have d7 : Df l.prog w K mg base 2 "kept" ["value"] _ := ⟨f7, _, ok_kept F7 T (PySem.W.mg_none_of X G zdict) (PySem.W.mg_none_of X G zany) d8, PySem.W.mg_of X G a7, F7.kp, b7⟩
  have GS := ok_tStr (P := l.prog) (w := w) (mg := mg) (base := base) F40 TC d3 d4
  have oB : OexC K BT := ⟨⟨_, _, _, _, _, _, _, _, _, _, _, _, _, _, _, lxBT, rxBT⟩, saBT, exBT, ttBT, keBT⟩
  have GB := ok_bText (P := l.prog) (w := w) (mg := mg) (base := base) F42 oB nlBT nwBT d7
  have BX : BTx l.prog w K mg base BT := ⟨oB, PySem.W.mg_of X G aBT, ⟨f42, _, m42, ty42, GB, b42⟩⟩
  have GR := ok_read (P := l.prog) (w := w) (mg := mg) (base := base) F41 T (PySem.W.mg_none_of X G zstr) d6 MK BX
  have RR : RdM l.prog w K mg base C BT := ⟨PySem.W.mg_of X G aC, ⟨_, _, f41, _, ⟨rdC, gtC⟩, ⟨fcR, ⟨_, rcR⟩, fnR⟩, GR, b41, kb_read F41 (fun _ _ _ _ _ _ _ _ => rfl)⟩⟩
  have HX : HBT K mg BT FE := ⟨PySem.W.mg_of X G aFE, PySem.W.mg_of X G aBT, ⟨icBT, gaBT, ggBT, exBT, hdBT, hcBT, ikn, ikt, moBT⟩, nlBT, nwBT, exm_own icFE ttFE suBF suFX⟩
  have TM : TMeth l.prog w K mg base C := ⟨MK, ⟨_, _, GE, b33, m33, i33⟩, neC, ⟨_, fnr_of GS b40, m40, i40⟩⟩
  have d9 : Df l.prog w K mg base 1 "_law_pen" ["_law_script"] _ := ⟨f9, _, ok_pen F9 T, PySem.W.mg_of X G a9, F9.kp, b9⟩
  have d10 : Df l.prog w K mg base 1 "_law_draw" ["_law_pen_here", "_law_top_so"] _ := ⟨f10, _, ok_draw F10 T, PySem.W.mg_of X G a10, F10.kp, b10⟩
  have d11 : Df l.prog w K mg base 2 "_law_pick" ["_law_pen_here", "_law_some"] _ := ⟨f11, _, ok_pick F11 T d10, PySem.W.mg_of X G a11, F11.kp, b11⟩
  have d12 : Df l.prog w K mg base 2 "_law_small" ["_law_pen_here", "_law_most_so"] _ := ⟨f12, _, ok_small F12 d10, PySem.W.mg_of X G a12, F12.kp, b12⟩
  have d13 : Df l.prog w K mg base 3 "_law_number" ["_law_pen_here"] _ := ⟨f13, _, ok_num F13 d12 d11, PySem.W.mg_of X G a13, F13.kp, b13⟩
  have d14 : Df l.prog w K mg base 1 "_law_is_number" ["_law_word"] _ := ⟨f14, _, ok_isNum F14 T (PySem.W.mg_none_of X G zstr), PySem.W.mg_of X G a14, F14.kp, b14⟩
  have d15 : Df l.prog w K mg base 2 "_law_due" ["_law_words"] _ := ⟨f15, _, ok_due F15 T d14, PySem.W.mg_of X G a15, F15.kp, b15⟩
  have d16 : Df l.prog w K mg base 7 "_law_heard" ["_law_value_so"] _ := ⟨f16, _, ok_heard F16 T RR HX, PySem.W.mg_of X G a16, F16.kp, b16⟩
  have d17 : Df l.prog w K mg base 8 "_law_read_right" ["_law_words"] _ := ⟨f17, _, ok_right F17 T (PySem.W.mg_none_of X G zstr) (PySem.W.mg_none_of X G zlist) TM d15 d16, PySem.W.mg_of X G a17, F17.kp, b17⟩
  have d18 : Df l.prog w K mg base 3 "_law_bent" ["_law_pen_here", "_law_words"] _ := ⟨f18, _, ok_bent F18 T d10 d11, PySem.W.mg_of X G a18, F18.kp, b18⟩
  exact FnG.of (ok_law F19 T (PySem.W.mg_none_of X G zstr) TM RR ksC d9 d10 d13 d11 d16 d18 d17)
end Ev
open PySem PySem.W PyProof.Rows
set_option maxRecDepth 100000 in
set_option maxHeartbeats 0 in
theorem PySem.Challenge.cw_evenrules_k06_texts_of_tests_holds : PySem.Challenge.rw_evenrules_k06_texts_of_tests.Holds := by
  exact hd (by
    k_fill
    refine Ev.walk_ofG (l := PySem.Challenge.rw_evenrules_k06_texts_of_tests) (n := 63) (k := 9) (x := "_law_script") (sp := fun w => Ev.spLaw _) rfl (by decide) rfl ⟨rfl, by decide, by decide⟩ (fun w h Y => PySem.W.kIn_of Y) ?F (fun _ _ a ns hl hS => ⟨a, ns, rfl, hS, hl, fun _ => rfl⟩)
    case F =>
      intro w mg fa h KX G hmg
      refine' Ev.all_mk KX G hmg ?a0 ?l0 ?c0 ?k0 ?a1 ?l1 ?c1 ?k1 ?a2 ?l2 ?c2 ?k2 ?a3 ?l3 ?c3 ?k3 ?a4 ?l4 ?c4 ?k4 ?a5 ?l5 ?c5 ?k5 ?a6 ?l6 ?c6 ?k6 ?a7 ?l7 ?c7 ?k7 ?a8 ?l8 ?c8 ?k8 ?a9 ?l9 ?c9 ?k9 ?a10 ?l10 ?c10 ?k10 ?a11 ?l11 ?c11 ?k11 ?a12 ?l12 ?c12 ?k12 ?a13 ?l13 ?c13 ?k13 ?a14 ?l14 ?c14 ?k14 ?a15 ?l15 ?c15 ?k15 ?a16 ?l16 ?c16 ?k16 ?a17 ?l17 ?c17 ?k17 ?a18 ?l18 ?c18 ?k18 ?a19 ?l19 ?c19 ?k19 ?aC ?pgC ?hdC ?poC ?saC ?mkC ?kcC ?n0C ?n1C ?hcC ?moC ?icC ?ttC ?neC ?ksC ?ikn ?ikt ?m30 ?i30 ?l30 ?c30 ?k30 ?m33 ?i33 ?l33 ?c33 ?k33 ?m40 ?i40 ?l40 ?c40 ?k40 ?fcR ?rcR ?l41 ?c41 ?k41 ?fnR ?rdC ?gtC ?aBT ?icBT ?ttBT ?aFE ?icFE ?ttFE ?suBF ?suFX ?gaBT ?ggBT ?hdBT ?hcBT ?moBT ?saBT ?exBT ?keBT ?nlBT ?nwBT ?lxBT ?rxBT ?m42 ?l42 ?c42 ?k42 ?ty42 ?hgP ?hgQ ?hgM ?zint ?zlen ?zabs ?zlist ?zmin ?zmax ?zisinstance ?zbool ?ztuple ?zall ?zrange ?zrepr ?zstr ?zdict ?zany
      (case a0 => k_is)
      (case l0 => k_is)
      (case c0 => k_is)
      (case k0 => k_is)
      (case a1 => k_is)
      (case l1 => k_is)
      (case c1 => k_is)
      (case k1 => k_is)
      (case a2 => k_is)
      (case l2 => k_is)
      (case c2 => k_is)
      (case k2 => k_is)
      (case a3 => k_is)
      (case l3 => k_is)
      (case c3 => k_is)
      (case k3 => k_is)
      (case a4 => k_is)
      (case l4 => k_is)
      (case c4 => k_is)
      (case k4 => k_is)
      (case a5 => k_is)
      (case l5 => k_is)
      (case c5 => k_is)
      (case k5 => k_is)
      (case a6 => k_is)
      (case l6 => k_is)
      (case c6 => k_is)
      (case k6 => k_is)
      (case a7 => k_is)
      (case l7 => k_is)
      (case c7 => k_is)
      (case k7 => k_is)
      (case a8 => k_is)
      (case l8 => k_is)
      (case c8 => k_is)
      (case k8 => k_is)
      (case a9 => k_is)
      (case l9 => k_is)
      (case c9 => k_is)
      (case k9 => k_is)
      (case a10 => k_is)
      (case l10 => k_is)
      (case c10 => k_is)
      (case k10 => k_is)
      (case a11 => k_is)
      (case l11 => k_is)
      (case c11 => k_is)
      (case k11 => k_is)
      (case a12 => k_is)
      (case l12 => k_is)
      (case c12 => k_is)
      (case k12 => k_is)
      (case a13 => k_is)
      (case l13 => k_is)
      (case c13 => k_is)
      (case k13 => k_is)
      (case a14 => k_is)
      (case l14 => k_is)
      (case c14 => k_is)
      (case k14 => k_is)
      (case a15 => k_is)
      (case l15 => k_is)
      (case c15 => k_is)
      (case k15 => k_is)
      (case a16 => k_is)
      (case l16 => k_is)
      (case c16 => k_is)
      (case k16 => k_is)
      (case a17 => k_is)
      (case l17 => k_is)
      (case c17 => k_is)
      (case k17 => k_is)
      (case a18 => k_is)
      (case l18 => k_is)
      (case c18 => k_is)
      (case k18 => k_is)
      (case a19 => k_is)
      (case l19 => k_is)
      (case c19 => k_is)
      (case k19 => k_is)
      (case aC => k_is)
      (case pgC => k_is)
      (case hdC => k_is)
      (case poC => k_is)
      (case saC => k_is)
      (case mkC => k_is)
      (case kcC => k_is)
      (case n0C => k_is)
      (case n1C => k_is)
      (case hcC => k_is)
      (case moC => k_is)
      (case icC => k_is)
      (case ttC => k_is)
      (case neC => k_is)
      (case ksC => first | k_is | kernel_rfl | decide +kernel)
      (case ikn => k_is)
      (case ikt => k_is)
      (case m30 => k_is)
      (case i30 => k_is)
      (case l30 => k_is)
      (case c30 => k_is)
      (case k30 => k_is)
      (case m33 => k_is)
      (case i33 => k_is)
      (case l33 => k_is)
      (case c33 => k_is)
      (case k33 => k_is)
      (case m40 => k_is)
      (case i40 => k_is)
      (case l40 => k_is)
      (case c40 => k_is)
      (case k40 => k_is)
      (case fcR => first | k_is | kernel_rfl | decide +kernel)
      (case rcR => first | k_is | kernel_rfl | rfl)
      (case l41 => k_is)
      (case c41 => k_is)
      (case k41 => k_is)
      (case fnR => k_is)
      (case rdC => first | k_is | kernel_rfl | decide +kernel)
      (case gtC => first | k_is | kernel_rfl | decide +kernel)
      (case aBT => k_is)
      (case icBT => k_is)
      (case ttBT => k_is)
      (case aFE => k_is)
      (case icFE => k_is)
      (case ttFE => k_is)
      (case suBF => k_is)
      (case suFX => k_is)
      (case gaBT => k_is)
      (case ggBT => k_is)
      (case hdBT => k_is)
      (case hcBT => k_is)
      (case moBT => k_is)
      (case saBT => k_is)
      (case exBT => k_is)
      (case keBT => k_is)
      (case nlBT => k_is)
      (case nwBT => k_is)
      (case lxBT => k_is)
      (case rxBT => decide +kernel)
      (case m42 => k_is)
      (case l42 => k_is)
      (case c42 => k_is)
      (case k42 => k_is)
      (case ty42 => k_is)
      (case hgP => k_is)
      (case hgQ => k_is)
      (case hgM => k_is)
      (case zint => k_is)
      (case zlen => k_is)
      (case zabs => k_is)
      (case zlist => k_is)
      (case zmin => k_is)
      (case zmax => k_is)
      (case zisinstance => k_is)
      (case zbool => k_is)
      (case ztuple => k_is)
      (case zall => k_is)
      (case zrange => k_is)
      (case zrepr => k_is)
      (case zstr => k_is)
      (case zdict => k_is)
      (case zany => k_is))
